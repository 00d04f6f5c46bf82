import PyProof.Rows.All
import Wide.All
import OpenK.AllK
import Wide.FinOn
import HandS.ForMost
import HandS.IsInst
import HandS.TupAny
import HandS.TupMul
import HandS.Zip
import HandS.Style
import HandS.AnyAll
import HandS.ForExc
import HandS.TryMany
import HandS.Flow
import HandS.More
import KE.KTryMore
import HandS.GenList
import PyProof.TupleOfGen
import HandS.EndTab
import HandS.Head0
import HandS.Head1
import HandS.Head2
import HandS.HeadEnd
import HandS.HeadHook4
import HandS.HeadWalk
import HandS.CallLocal
import KE.KNestM
import HandS.DictComp
import HandS.FStr
import PySem.Challenge.RW_filecrate_k21_whole_ways_out
set_option Elab.async false
set_option linter.all false
set_option maxRecDepth 100000
set_option maxHeartbeats 4000000
namespace Fc
open PySem PySem.Spec PyProof.Rows L2

/-! ### heaps that only grow (a code's table, which a generator expression lengthens, aside) -/
def NT : HO → Prop
  | .tbl _ => False
  | _ => True
structure Same (H H' : Hp) : Prop where
  get : ∀ b o, H b = some o → NT o → H' b = some o
  tab : ∀ b ps, H b = some (.tbl ps) → ∃ ps' : Array Value, H' b = some (.tbl ps') ∧ (TriplesOk ps.toList → TriplesOk ps'.toList)
theorem Same.at {H H' : Hp} (s : Same H H') (b : Addr) (o : HO) (e : H b = some o) (nt : NT o := by trivial) : H' b = some o := s.get b o e nt
instance {H H' : Hp} : CoeFun (Same H H') (fun _ => ∀ (b : Addr) (o : HO), H b = some o → (nt : NT o := by trivial) → H' b = some o) := ⟨@Same.at H H'⟩
theorem nt_or (o : HO) : NT o ∨ ∃ ps, o = .tbl ps := by
  cases o with
  | tbl ps => exact .inr ⟨ps, rfl⟩
  | _ => exact .inl trivial
theorem Same.refl (H : Hp) : Same H H := ⟨fun _ _ h _ => h, fun _ ps h => ⟨ps, h, fun z => z⟩⟩
theorem Same.trans {H H1 H2 : Hp} (a : Same H H1) (b : Same H1 H2) : Same H H2 := ⟨fun c o h nt => b.get c o (a.get c o h nt) nt, fun c ps h => by
  obtain ⟨ps1, h1, t1⟩ := a.tab c ps h
  obtain ⟨ps2, h2, t2⟩ := b.tab c ps1 h1
  exact ⟨ps2, h2, fun z => t2 (t1 z)⟩⟩
theorem Same.some {H H' : Hp} (e : Same H H') {b : Addr} {o : HO} (h : H b = .some o) : ∃ o', H' b = .some o' := by
  rcases nt_or o with n | ⟨ps, rfl⟩
  · exact ⟨o, e.get b o h n⟩
  · obtain ⟨ps', h', _⟩ := e.tab b ps h
    exact ⟨_, h'⟩
theorem Same.free {H H' : Hp} (e : Same H H') {l : Addr} (h : H' l = Option.none) : H l = Option.none := by
  cases q : H l with
  | none => rfl
  | some o =>
    obtain ⟨o', h'⟩ := e.some q
    rw [h] at h'
    cases h'
theorem Same.over {H H' : Hp} (e : Same H H') {p : Addr} {o : HO} (n : H p = none) : Same H (upd H' p o) := ⟨fun b u h nt => by
  rw [upd_ne (ne_of_none h n)]
  exact e.get b u h nt, fun b ps h => by
  obtain ⟨ps', h', t⟩ := e.tab b ps h
  exact ⟨ps', by rw [upd_ne (ne_of_none h n)]; exact h', t⟩⟩
theorem Same.seq {K : PySem.W.Frag} {H H' : Hp} {a : Addr} {xs : List V} (e : Same H H') (h : SqL K H a xs) : SqL K H' a xs := by
  rcases h with (h | ⟨o, h⟩) | h
  · exact .inl (.inl (e _ _ h))
  · exact .inl (.inr ⟨o, e _ _ h⟩)
  · exact .inr h
theorem grow {H : Hp} {p : Addr} {o : HO} (n : H p = none) : Same H (upd H p o) := (Same.refl H).over n
/-- these tables stand -/
def Tabs (ps : List Addr) (H : Hp) : Prop := ∀ p ∈ ps, GxR.TabG H p
theorem Tabs.keep {ps : List Addr} {H H' : Hp} (t : Tabs ps H) (e : Same H H') : Tabs ps H' := fun p hp => by
  obtain ⟨qs, h, ok⟩ := t p hp
  obtain ⟨qs', h', k⟩ := e.tab p qs h
  exact ⟨qs', h', k ok⟩
theorem same_tab {P : Addr} {H H' : Hp} (h : GxR.TabG H P) (t : GxR.Tabbed P H H') : Same H H' := by
  refine ⟨fun b o e nt => ?_, fun b ps e => ?_⟩
  · have nb : b ≠ P := fun z => by
      obtain ⟨qs, h, _⟩ := h
      rw [z, h] at e
      cases e
      exact nt
    rw [t.2 b nb]
    exact e
  · by_cases z : b = P
    · obtain ⟨qs, h', ok⟩ := t.1
      rw [z]
      exact ⟨qs, h', fun _ => ok⟩
    · exact ⟨ps, by rw [t.2 b z]; exact e, fun k => k⟩
theorem keepT {K : PySem.W.Frag} {H H' : Hp} {a : Addr} {xs : List V} (e : Same H H') (h : SqT K H a xs) : SqT K H' a xs := by
  rcases h with (h | ⟨o, h⟩) | h
  · left; left; exact e a _ h
  · left; right; exact ⟨o, e a _ h⟩
  · right; exact h
/-- behind it a tuple of these, and all that stood -/
def Tups (K : PySem.W.Frag) (H : Hp) (xs : List V) (Q : VK) : Prop := ∀ H' p, Same H H' → SqT K H' p xs → Q (.ref p) H'
theorem Tups.new {K : PySem.W.Frag} {H : Hp} {xs : List V} {Q : VK} (h : Tups K H xs Q) {p : Addr} (n : H p = none) : Q (.ref p) (upd H p (.tup xs)) := h _ _ (grow n) (SqT.of upd_same)
theorem Tups.old {K : PySem.W.Frag} {H : Hp} {xs ys : List V} {Q : VK} (h : Tups K H xs Q) {p : Addr} (e : SqT K H p ys) (eq : ys = xs) : Q (.ref p) H := by
  subst eq
  exact h _ _ (Same.refl H) e
theorem PEweak {X : Cx} {e : Expr} {t u : TE} (h : PE X e t) (w : ∀ σ H Q, u σ H Q → t σ H Q) : PE X e u := ⟨fun pins s σ H Q I q => h.run pins s σ H Q I (w σ H Q q)⟩
def upA (t : TA) : TA := fun σ H Q => ∃ R, t σ H R ∧ ∀ vs H', R vs H' → Q vs H'
theorem PAup {X : Cx} {es : List Expr} {t : TA} (h : PA X es t) : PA X es (upA t) := ⟨fun ps pins s σ H Q I q => by
  obtain ⟨R, q1, q2⟩ := q
  refine thn (h.run ps pins s σ H R I q1) fun us s' ⟨vs, H', I', r, k⟩ => ⟨vs, H', I', r, q2 _ _ k⟩⟩

/-! ### rules whose reading says Tups -/
section
variable {X : Cx}
def rCatU (K : PySem.W.Frag) : R2 := fun x y H Q => ∃ a b xs ys, x = .ref a ∧ y = .ref b ∧ SqT K H a xs ∧ SqT K H b ys ∧ xs.length + ys.length ≤ sizeLine ∧ Tups K H (xs ++ ys) Q
theorem op_catU : OpR X (binaryOp .Add) (rCatU X.K) := by
  intro pins s σ H x y v u Q I rx ry h
  obtain ⟨a, b, xs, ys, rfl, rfl, ha, hb, hz, q⟩ := h
  refine op_catA pins s σ H _ _ v u Q I rx ry ⟨a, b, xs, ys, rfl, rfl, ha, hb, hz, fun e => ?_, fun _ e => ?_, fun _ _ p n => q.new n⟩
  · subst e; exact q.old hb rfl
  · subst e; exact q.old ha (List.append_nil xs).symm
def rSlU (K : PySem.W.Frag) : V → Option Int → Option Int → Hp → VK → Prop := fun x lo hi H Q => ∃ a xs, x = .ref a ∧ SqT K H a xs ∧ Tups K H (cutV xs lo hi) Q
theorem sl_tupU : SlR X (rSlU X.K) := by
  intro pins s σ H x v vl vu lo hi sl Q I rx hs pl pu h
  obtain ⟨a, xs, rfl, hx, q⟩ := h
  refine sl_tupA pins s σ H _ v vl vu lo hi sl Q I rx hs pl pu ⟨a, xs, rfl, hx, fun e => q.old hx ?_, fun _ p n => q.new n⟩
  unfold cutV
  rw [e.1, e.2, List.drop_zero, Nat.sub_zero, List.take_length]
def tTupU (K : PySem.W.Frag) (t : TA) : TE := fun σ H Q => t σ H fun xs H1 => xs.length ≤ sizeLine ∧ Tups K H1 xs Q
theorem pe_tupU {es : List Expr} {x1 : Nat} {pos : Pos} {t : TA} (h : PA X es t) : PE X (.Tuple es x1 pos) (tTupU X.K t) :=
  PEweak (pe_tup (PAup h)) fun σ H Q q => ⟨_, q, fun vs H' k => ⟨k.1, fun p n => k.2.new n⟩⟩
theorem call_divmodU : CallR X (.builtin "divmod") (fun xs H Q => ∃ i j, xs = [.int i, .int j] ∧ CDiv i j ∧ Tups X.K H [.int (i / j), .int (i % j)] Q) := by
  intro pins s σ H xs us Q I r h
  obtain ⟨i, j, e, c, q⟩ := h
  exact call_divmod pins s σ H xs us Q I r ⟨i, j, e, c, fun p n => q.new n⟩
theorem call_tupleU : CallR X (.type "tuple") (fun xs H Q => ∃ p ys, xs = [.ref p] ∧ SqL X.K H p ys ∧ Tups X.K H ys Q) := by
  intro pins s σ H xs us Q I r h
  obtain ⟨p, ys, e, hp, q⟩ := h
  exact call_tuple_of pins s σ H xs us Q I r ⟨p, ys, e, .inl ⟨hp, fun l n => q.new n⟩⟩
theorem pe_globI {x : Str} {n : Int} {pos : Pos} (hg : Gl X x) (h : ∃ t, X.mg x = some (.int n t)) (hd : (x == ("__debug__" : Str)) = false := by decide) : PE X (.Name x pos) (tC (.int n)) := by
  obtain ⟨t, e⟩ := h
  exact pe_glob hg e ⟨t, rfl⟩ hd
def tGT (K : PySem.W.Frag) (xs : List V) : TE := fun _ H Q => ∀ a, (∀ H', SqT K H' a xs) → Q (.ref a) H
theorem pe_globT {x : Str} {xs : List V} {pos : Pos} (hg : Gl X x) (h : ∃ a, X.mg x = some (.ref a) ∧ ∀ H', SqT X.K H' a xs) (hd : (x == ("__debug__" : Str)) = false := by decide) : PE X (.Name x pos) (tGT X.K xs) := by
  obtain ⟨a, e, q⟩ := h
  exact PEweak (pe_glob (v := .ref a) hg e rfl hd) fun σ H Q k => k a q
theorem pe_btype {x : Str} {n : String} {pos : Pos} (hg : Gl X x) (hm : X.mg x = none) (hv : bootBuiltins x = some (.type n)) (hn : x ≠ "__name__" := by decide) (hd : (x == ("__debug__" : Str)) = false := by decide) : PE X (.Name x pos) (tC (.ty n)) := pe_bltn hg hm hv rfl hn hd
end

/-! ### a def that is called -/
structure Cal (P : Program) (w : World) (K : PySem.W.Frag) (mg : Str → Option Value) (base : Heap) (x : Str) (k : Nat) (ps : List Str) (sp : Sp) : Prop where
  ex : ∃ f fd, FnOk P w K mg base CX0 k f fd ps sp ∧ mg x = some (.ref f) ∧ PySem.W.keepIn K (.ref f) = true ∧ Binds K fd ps []
theorem pe_c {X : Cx} {x : Str} {k : Nat} {ps : List Str} {sp : Sp} {p pos : Pos} {e : Expr} {es : List Expr} {t : TA} (C : Cal X.prog X.w X.K X.mg X.base x k ps sp) (hr : Room k X.A) (ha : PA X (e :: es) t) (hg : Gl X x := by rfl) (hdb : (x == ("__debug__" : Str)) = false := by decide)
    (he : starEach (e :: es) X.env = (false, eval e X.env) :: starEach es X.env := by rfl) (hpl : (backTo pos (starEach es X.env)).any (·.1) = false := by rfl) : PE X (.Call (.Name x p) (e :: es) [] pos) (tCall sp [] E0 t) := by
  obtain ⟨f, fd, F, m, kp, b⟩ := C.ex
  exact pe_call F hr hg m kp b .nil pass0 ha hdb he hpl

/-! ### joining ways -/
theorem seq_by {t u : TS} {D : Ends} {σ : L2.St} {H : Hp} (P : L2.St → Hp → Prop) (h2 : ∀ σ H, P σ H → u D σ H) (h1 : (∀ σ H, P σ H → u D σ H) → t { D with nx := u D } σ H) : tSeq t u D σ H := h1 h2

theorem seq_c {v : V} {i : Nat} {u : TS} {D : Ends} {σ : L2.St} {H : Hp} (h : u D (σ.set i (some v)) H) : tSeq (tAsg (tC v) (gName i)) u D σ H := h

theorem if_by {c : TT} {a b : TS} {D : Ends} {σ : L2.St} {H : Hp} (PY : Prop) (hX : a D σ H) (hY : PY → b D σ H) (hc : (∀ k : Bool, (k = false → PY) → if k = true then a D σ H else b D σ H) → c σ H fun k H1 => if k = true then a D σ H1 else b D σ H1) : tIfS c a b D σ H := hc (fun k h => by
  cases k with
  | true => rw [if_pos rfl]; exact hX
  | false => rw [if_neg Bool.false_ne_true]; exact hY (h rfl))

theorem if_by2 {c : TT} {a b : TS} {D : Ends} {σ : L2.St} {H : Hp} (PX PY : Prop) (hX : PX → a D σ H) (hY : PY → b D σ H) (hc : (∀ k : Bool, (k = true → PX) → (k = false → PY) → if k = true then a D σ H else b D σ H) → c σ H fun k H1 => if k = true then a D σ H1 else b D σ H1) : tIfS c a b D σ H := hc (fun k hx h => by
  cases k with
  | true => rw [if_pos rfl]; exact hX (hx rfl)
  | false => rw [if_neg Bool.false_ne_true]; exact hY (h rfl))

theorem seq_if2 {c : TT} {a b u : TS} {D : Ends} {σ : L2.St} {H : Hp} (PX PY : Prop) (hX : PX → a { D with nx := u D } σ H) (hY : PY → b { D with nx := u D } σ H) (hc : (∀ k : Bool, (k = true → PX) → (k = false → PY) → if k = true then a { D with nx := u D } σ H else b { D with nx := u D } σ H) → c σ H fun k H1 => if k = true then a { D with nx := u D } σ H1 else b { D with nx := u D } σ H1) : tSeq (tIfS c a b) u D σ H := if_by2 PX PY hX hY hc

/-! ### isinstance -/
theorem k_ii {K : PySem.W.Frag} : PySem.W.kitOne K (.type "int") (.type "int") = some true := kit_ty (by decide +kernel)
theorem k_ib {K : PySem.W.Frag} : PySem.W.kitOne K (.type "int") (.type "bool") = some false := kit_ty (by decide +kernel)
theorem k_it {K : PySem.W.Frag} : PySem.W.kitOne K (.type "int") (.type "tuple") = some false := kit_ty (by decide +kernel)
theorem k_is' {K : PySem.W.Frag} : PySem.W.kitOne K (.type "int") (.type "str") = some false := kit_ty (by decide +kernel)
theorem k_tb {K : PySem.W.Frag} : PySem.W.kitOne K (.type "tuple") (.type "bool") = some false := kit_ty (by decide +kernel)
theorem k_tt {K : PySem.W.Frag} : PySem.W.kitOne K (.type "tuple") (.type "tuple") = some true := kit_ty (by decide +kernel)
theorem k_bb {K : PySem.W.Frag} : PySem.W.kitOne K (.type "bool") (.type "bool") = some true := kit_ty (by decide +kernel)
theorem k_sb {K : PySem.W.Frag} : PySem.W.kitOne K (.type "str") (.type "bool") = some false := kit_ty (by decide +kernel)
theorem k_st {K : PySem.W.Frag} : PySem.W.kitOne K (.type "str") (.type "tuple") = some false := kit_ty (by decide +kernel)
theorem k_ss {K : PySem.W.Frag} : PySem.W.kitOne K (.type "str") (.type "str") = some true := kit_ty (by decide +kernel)
theorem ty_tup {K : PySem.W.Frag} {H : Hp} {a : Addr} {xs : List V} (h : SqT K H a xs) : TyX K H (.ref a) (.type "tuple") := by
  rcases h with (h | ⟨o, h⟩) | ⟨o, its, n, h, c, _⟩
  · exact .base (.tup h)
  · exact .fTuple h
  · exact .kTuple h c

/-! ### cuts of whole numbers -/
theorem cut_to (ns : List Int) (k : Nat) : cutV (ns.map V.int) none (some (k : Int)) = (ns.take k).map V.int := by
  unfold cutV
  rw [HT.sIx_none, HT.sIx_nat, List.drop_zero, Nat.sub_zero, List.length_map, List.map_take]
  by_cases h : k ≤ ns.length
  · rw [Nat.min_eq_left h]
  · have h' : ns.length ≤ k := by omega
    rw [Nat.min_eq_right h', List.take_of_length_le (by rw [List.length_map]; omega), List.take_of_length_le (by rw [List.length_map]; omega)]
theorem cut_from (ns : List Int) (k : Nat) : cutV (ns.map V.int) (some (k : Int)) none = (ns.drop k).map V.int := by
  unfold cutV
  rw [HT.sIx_none, HT.sIx_nat, List.length_map, List.map_drop]
  by_cases h : k ≤ ns.length
  · rw [Nat.min_eq_left h]
    exact List.take_of_length_le (by rw [List.length_drop, List.length_map]; omega)
  · have h' : ns.length ≤ k := by omega
    rw [Nat.min_eq_right h', List.drop_of_length_le (by rw [List.length_map]; omega), List.drop_of_length_le (by rw [List.length_map]; omega), List.take_nil]
theorem cut_mid (ns : List Int) (i j : Nat) : cutV (ns.map V.int) (some (i : Int)) (some (j : Int)) = ((ns.drop i).take (j - i)).map V.int := by
  unfold cutV
  rw [HT.sIx_nat, HT.sIx_nat, List.length_map, List.map_take, List.map_drop]
  by_cases h : i ≤ ns.length
  · rw [Nat.min_eq_left h]
    by_cases g : j ≤ ns.length
    · rw [Nat.min_eq_left g]
    · have g' : ns.length ≤ j := by omega
      rw [Nat.min_eq_right g', List.take_of_length_le (by rw [List.length_drop, List.length_map]; omega), List.take_of_length_le (by rw [List.length_drop, List.length_map]; omega)]
  · have h' : ns.length ≤ i := by omega
    rw [Nat.min_eq_right h', List.drop_of_length_le (by rw [List.length_map]; omega), List.drop_of_length_le (by rw [List.length_map]; omega), List.take_nil, List.take_nil]

/-! ### a comprehension whose items are told by a row -/
theorem lc_row {K : PySem.W.Frag} {a : Addr} {xs ys : List V} {te : TE} {vs : List Nat} {σ : L2.St} {H1 : Hp} {D : Addr} {j : Nat} {Qd : Hp → Prop} (nD : H1 D = none) (hs : SqL K H1 a xs) (hy : ys.length = xs.length) (hz : xs.length ≤ sizeLine)
    (hw : ∀ x, wipe ((wipe σ vs).set j (some x)) vs = wipe σ vs)
    (turn : ∀ (i : Nat) (x y : V) (H : Hp) (R : V → Hp → Prop), xs[i]? = some x → ys[i]? = some y → Same H1 H → (∀ H', Same H H' → R y H') → te ((wipe σ vs).set j (some x)) H R) (hd : ∀ H', Same H1 H' → H' D = some (.lst ys) → Qd H') :
    ∃ W : Nat → Nat → Hp → Prop, (∃ m, W 0 m (upd H1 D (.lst []))) ∧ ∀ i m H, W i m H →
      ((Itl K a).stop i H ∧ Qd H) ∨ ((Itl K a).go i H ∧ ∃ Nx : Hp → Prop, (∀ H', Nx H' → ∃ m', m' < m ∧ W (i + 1) m' H') ∧ ∀ x H', (Itl K a).yld i H x H' → gName j x (wipe σ vs) H' fun σ2 H2 => wipe σ2 vs = wipe σ vs ∧ tYes σ2 H2 fun b H3 =>
        if b = true then te σ2 H3 fun y H4 => ∃ acc, H4 D = some (.lst acc) ∧ acc.length < sizeLine ∧ Nx (upd H4 D (.lst (acc ++ [y]))) else Nx H3) := by
  refine lc_list (xs := xs) (fun i H => Same H1 H ∧ H D = some (.lst (ys.take i))) ⟨grow nD, upd_same⟩ (fun i H _ p => p.1.seq hs) (fun i x H hx p => ?_) (fun H p => hd H p.1 ?_)
  · have hi : i < xs.length := (List.getElem?_eq_some_iff.mp hx).1
    have hiy : i < ys.length := by omega
    refine ⟨hw x, ?_⟩
    unfold tYes
    dsimp only
    rw [if_pos rfl]
    refine turn i x ys[i] H _ hx (List.getElem?_eq_getElem hiy) p.1 fun H' sm => ⟨ys.take i, sm _ _ p.2, ?_, ?_, ?_⟩
    · rw [List.length_take]; omega
    · exact (p.1.trans sm).over nD
    · rw [upd_same, List.take_add_one, List.getElem?_eq_getElem hiy]
      rfl
  · have := p.2
    rw [← hy, List.take_length] at this
    exact this
theorem lc_rng {lo : Int} {n : Nat} {ys : List V} {te : TE} {vs : List Nat} {σ : L2.St} {H1 : Hp} {D : Addr} {j : Nat} {Qd : Hp → Prop} (nD : H1 D = none) (hy : ys.length = n) (hz : n ≤ sizeLine)
    (hw : ∀ x, wipe ((wipe σ vs).set j (some x)) vs = wipe σ vs)
    (turn : ∀ (i : Nat) (y : V) (H : Hp) (R : V → Hp → Prop), i < n → ys[i]? = some y → Same H1 H → (∀ H', Same H H' → R y H') → te ((wipe σ vs).set j (some (.int (lo + i)))) H R) (hd : ∀ H', Same H1 H' → H' D = some (.lst ys) → Qd H') :
    ∃ W : Nat → Nat → Hp → Prop, (∃ m, W 0 m (upd H1 D (.lst []))) ∧ ∀ i m H, W i m H →
      ((Itr lo n).stop i H ∧ Qd H) ∨ ((Itr lo n).go i H ∧ ∃ Nx : Hp → Prop, (∀ H', Nx H' → ∃ m', m' < m ∧ W (i + 1) m' H') ∧ ∀ x H', (Itr lo n).yld i H x H' → gName j x (wipe σ vs) H' fun σ2 H2 => wipe σ2 vs = wipe σ vs ∧ tYes σ2 H2 fun b H3 =>
        if b = true then te σ2 H3 fun y H4 => ∃ acc, H4 D = some (.lst acc) ∧ acc.length < sizeLine ∧ Nx (upd H4 D (.lst (acc ++ [y]))) else Nx H3) := by
  refine lc_range (fun i H => Same H1 H ∧ H D = some (.lst (ys.take i))) ⟨grow nD, upd_same⟩ (fun i H hi p => ?_) (fun H p => hd H p.1 ?_)
  · have hiy : i < ys.length := by omega
    refine ⟨hw _, ?_⟩
    unfold tYes
    dsimp only
    rw [if_pos rfl]
    refine turn i ys[i] H _ hi (List.getElem?_eq_getElem hiy) p.1 fun H' sm => ⟨ys.take i, sm _ _ p.2, ?_, ?_, ?_⟩
    · rw [List.length_take]; omega
    · exact (p.1.trans sm).over nD
    · rw [upd_same, List.take_add_one, List.getElem?_eq_getElem hiy]
      rfl
  · have := p.2
    rw [← hy, List.take_length] at this
    exact this
end Fc

namespace Fc
open PySem PySem.Spec L2 PyProof.Rows
/-! ### [e for x, y in zip(t, u)] over tuples, its items told by a row -/
theorem lc_zip {K : PySem.W.Frag} {a b : Addr} {xs ys zs : List V} {te : TE} {vs : List Nat} {σ : L2.St} {H1 : Hp} {D : Addr} {j k : Nat} {Qd : Hp → Prop} (nD : H1 D = none) (ha : SqT K H1 a xs) (hb : SqT K H1 b ys) (hy : ys.length = xs.length) (hzl : zs.length = xs.length) (hz : xs.length ≤ sizeLine)
    (hw : ∀ x y, wipe (((wipe σ vs).set j (some x)).set k (some y)) vs = wipe σ vs)
    (turn : ∀ (i : Nat) (x y z : V) (H : Hp) (R : V → Hp → Prop), xs[i]? = some x → ys[i]? = some y → zs[i]? = some z → Same H1 H → (∀ H', Same H H' → R z H') → te (((wipe σ vs).set j (some x)).set k (some y)) H R) (hd : ∀ H', Same H1 H' → H' D = some (.lst zs) → Qd H') :
    ∃ W : Nat → Nat → Hp → Prop, (∃ m, W 0 m (upd H1 D (.lst []))) ∧ ∀ i m H, W i m H →
      ((RZ.ItzT K a b).stop i H ∧ Qd H) ∨ ((RZ.ItzT K a b).go i H ∧ ∃ Nx : Hp → Prop, (∀ H', Nx H' → ∃ m', m' < m ∧ W (i + 1) m' H') ∧ ∀ x H', (RZ.ItzT K a b).yld i H x H' → gTup K 2 (gCons (gName j) (gCons (gName k) gNil)) x (wipe σ vs) H' fun σ2 H2 => wipe σ2 vs = wipe σ vs ∧ tYes σ2 H2 fun b H3 =>
        if b = true then te σ2 H3 fun y H4 => ∃ acc, H4 D = some (.lst acc) ∧ acc.length < sizeLine ∧ Nx (upd H4 D (.lst (acc ++ [y]))) else Nx H3) := by
  refine ⟨fun i m H => m = xs.length - i ∧ i ≤ xs.length ∧ Same H1 H ∧ H D = some (.lst (zs.take i)), ⟨xs.length, rfl, Nat.zero_le _, grow nD, upd_same⟩, ?_⟩
  rintro i m H ⟨rfl, hi, sm, hD⟩
  have qa := keepT sm ha
  have qb := keepT sm hb
  by_cases lt : i < xs.length
  · have ly : i < ys.length := by omega
    have lz : i < zs.length := by omega
    refine .inr ⟨⟨xs, ys, xs[i], ys[i], qa, qb, List.getElem?_eq_getElem lt, List.getElem?_eq_getElem ly⟩, fun H' => Same H1 H' ∧ H' D = some (.lst (zs.take (i + 1))), fun H' p => ⟨xs.length - (i + 1), by omega, rfl, lt, p.1, p.2⟩, fun v H' yl => ?_⟩
    obtain ⟨T, x, y, rfl, nT, rfl, fx, fy⟩ := yl
    have ex : xs[i]? = some x := fx xs qa
    have ey : ys[i]? = some y := fy ys qb
    refine ⟨T, [x, y], rfl, SqT.of upd_same, rfl, x, [y], rfl, y, [], rfl, rfl, hw x y, ?_⟩
    unfold tYes
    dsimp only
    rw [if_pos rfl]
    have sT : Same H (upd H T (.tup [x, y])) := grow nT
    refine turn i x y zs[i] _ _ ex ey (List.getElem?_eq_getElem lz) (sm.trans sT) fun H' e => ⟨zs.take i, e _ _ (sT _ _ hD), ?_, ?_, ?_⟩
    · rw [List.length_take]; omega
    · exact (sm.trans (sT.trans e)).over nD
    · rw [upd_same, List.take_add_one, List.getElem?_eq_getElem lz]
      rfl
  · have e : i = xs.length := by omega
    subst e
    refine .inl ⟨⟨xs, ys, qa, qb, .inl (Nat.le_refl _)⟩, hd H sm ?_⟩
    rw [hD, ← hzl, List.take_length]
end Fc

namespace Fc
open PySem PySem.Spec L2 PyProof.Rows
/-! ### lists that a def made itself -/
theorem keepT_lst {K : PySem.W.Frag} {H : Hp} {p t : Addr} {xs ys zs : List V} (h : SqT K H t xs) (e : H p = some (.lst ys)) : SqT K (upd H p (.lst zs)) t xs := by
  rcases h with (h | ⟨o, h⟩) | h
  · refine .inl (.inl ?_)
    rw [upd_ne (fun z => by rw [z, e] at h; cases h)]
    exact h
  · refine .inl (.inr ⟨o, ?_⟩)
    rw [upd_ne (fun z => by rw [z, e] at h; cases h)]
    exact h
  · exact .inr h
theorem keep_lst {H H' : Hp} {p : Addr} {zs : List V} (e : Same H H') (n : H p = none) : Same H (upd H' p (.lst zs)) := e.over n
theorem got {ns : List Int} {i : Nat} {x : V} (h : (ns.map V.int)[i]? = some x) : ∃ n, ns[i]? = some n ∧ x = .int n := by
  rw [List.getElem?_map] at h
  cases e : ns[i]? with
  | none => rw [e] at h; cases h
  | some n =>
    rw [e] at h
    exact ⟨n, rfl, (Option.some.inj h).symm⟩
theorem drop_head {S : List Int} {k : Nat} {x : Int} {r : List Int} (h : S.drop k = x :: r) : S[k]? = some x := by
  have := congrArg (·[0]?) h
  simpa [List.getElem?_drop] using this
theorem drop_more {S : List Int} {k : Nat} {x : Int} {r : List Int} (h : S.drop k = x :: r) : S.drop (k + 1) = r := by
  have := congrArg (·.drop 1) h
  simpa [List.drop_drop] using this
/-! ### the bytes of a number -/
def numB (n : Int) : List Int := if 127 < n then (n % 128 + 128) :: numB (n / 128) else [n]
termination_by n.toNat
decreasing_by omega
theorem numB_big {n : Int} (h : 127 < n) : numB n = (n % 128 + 128) :: numB (n / 128) := by
  conv => lhs; rw [numB]
  rw [if_pos h]
theorem numB_small {n : Int} (h : ¬ 127 < n) : numB n = [n] := by
  rw [numB, if_neg h]
theorem numB_len : ∀ (k : Nat) (n : Int), 0 ≤ n → n < 128 ^ (k + 1) → (numB n).length ≤ k + 1
  | 0, n, h0, h1 => by
    have : n < 128 := h1
    rw [numB_small (by omega)]
    simp
  | k + 1, n, h0, h1 => by
    by_cases z : 127 < n
    · rw [numB_big z, List.length_cons]
      have e : (128 : Int) ^ (k + 1 + 1) = 128 ^ (k + 1) * 128 := Int.pow_succ _ _
      have := numB_len k (n / 128) (by omega) (by
        rw [e] at h1
        exact Int.ediv_lt_of_lt_mul (by decide) h1)
      omega
    · rw [numB_small z]
      simp
theorem numB_few {n : Int} (h0 : 0 ≤ n) (h1 : n < 4398046511104) : (numB n).length ≤ 6 := numB_len 5 n h0 (by
  have : (128 : Int) ^ (5 + 1) = 4398046511104 := by decide
  rw [this]
  exact h1)
/-! ### fixed bytes -/
def low : Nat → Int → List Int
  | 0, _ => []
  | k + 1, n => n % 256 :: low k (n / 256)
def sh : Nat → Int → Int
  | 0, n => n
  | k + 1, n => sh k (n / 256)
theorem low_len : ∀ (k : Nat) (n : Int), (low k n).length = k
  | 0, _ => rfl
  | k + 1, n => by rw [low, List.length_cons, low_len]
theorem low_more : ∀ (k : Nat) (n : Int), low (k + 1) n = low k n ++ [sh k n % 256]
  | 0, n => rfl
  | k + 1, n => by
    rw [low, low_more k (n / 256)]
    rfl
theorem sh_more : ∀ (k : Nat) (n : Int), sh (k + 1) n = sh k n / 256
  | 0, n => rfl
  | k + 1, n => by
    show sh (k + 1) (n / 256) = sh k (n / 256) / 256
    rw [sh_more k (n / 256)]
def val256 (l : List Int) : Int := l.foldl (fun x b => x * 256 + b) 0
theorem val_low : ∀ (k : Nat) (n : Int), 0 ≤ n → n < 256 ^ k → val256 (low k n).reverse = n
  | 0, n, h0, h1 => by
    have : n < 1 := h1
    show (0 : Int) = n
    omega
  | k + 1, n, h0, h1 => by
    have e : (256 : Int) ^ (k + 1) = 256 ^ k * 256 := Int.pow_succ _ _
    have ih := val_low k (n / 256) (by omega) (by
      rw [e] at h1
      exact Int.ediv_lt_of_lt_mul (by decide) h1)
    rw [low, List.reverse_cons]
    unfold val256 at ih ⊢
    rw [List.foldl_append, ih]
    show n / 256 * 256 + n % 256 = n
    omega
theorem val_take {l : List Int} {i : Nat} {x : Int} (h : l[i]? = some x) : val256 (l.take (i + 1)) = val256 (l.take i) * 256 + x := by
  unfold val256
  rw [List.take_add_one, h, Option.toList_some, List.foldl_append]
  rfl
end Fc

namespace Fc
open PySem PySem.Spec L2 PyProof.Rows
/-! ### own errors, and defs that raise them -/
abbrev veMro : List Value := [.type "ValueError", .type "Exception", .type "BaseException", .type "object"]
structure Exc (K : PySem.W.Frag) (mg : Str → Option Value) (x : Str) (C : Addr) : Prop where
  g : mg x = some (.ref C)
  x : PySem.W.excIn K C veMro "ValueError.__new__" = true
  k : PySem.W.keepIn K (.ref C) = true
  s : PySem.W.subIn K (.ref C) (.type "BaseException") = some true
  t : PySem.W.typeIn K (.ref C) = some (.type "type")
  i : PySem.W.isClsIn K C = true
theorem caught {K : PySem.W.Frag} {mg : Str → Option Value} {x : Str} {B C : Addr} {b : Bool} (e : Exc K mg x C) (h : PySem.W.subIn K (.ref B) (.ref C) = some b) : PySem.W.exmOne K (.ref B) (.ref C) = some b := by
  unfold PySem.W.exmOne
  rw [if_pos (by rw [e.s]; rfl)]
  show (if ((PySem.W.clsIn K C).isSome && PySem.W.typeIn K (.ref C) == some (.type "type")) = true then PySem.W.subIn K (.ref B) (.ref C) else none) = some b
  rw [if_pos (by rw [show (PySem.W.clsIn K C).isSome = true from e.i, e.t]; rfl), h]
section
variable {X : Cx}
theorem ps_raiseC {W : WX} {x m : Str} {C : Addr} {j : Nat} {p p2 p3 pos : Pos} (hc : X.calm = true) (tk : Takes X W) (e : Exc X.K X.mg x C) (hg : Gl X x := by rfl) (hdb : (x == ("__debug__" : Str)) = false := by decide) :
    PS X (.Raise (some (.Call (.Name x p) [.Constant (.str m) j p2] [] p3)) none pos) (fun _ σ H => W (.ref C) none σ H) :=
  ps_raise hc tk (pmk_own PySem.F.excBase_ValueError e.x e.g e.k (raises_own e.s e.t) hg hdb)
end
/-- as Cal, of a def that may raise -/
structure CalX (P : Program) (w : World) (K : PySem.W.Frag) (mg : Str → Option Value) (base : Heap) (x : Str) (k : Nat) (ps : List Str) (sp : Sp) : Prop where
  ex : ∃ f fd, FnOk P w K mg base (L2.CX P w) k f fd ps sp ∧ mg x = some (.ref f) ∧ PySem.W.keepIn K (.ref f) = true ∧ Binds K fd ps []
section
variable {X : Cx} {x : Str} {k : Nat} {ps : List Str} {sp : Sp} {p pos : Pos} {e : Expr} {es : List Expr} {t : TA}
theorem pe_cx {E : XK} (C : CalX X.prog X.w X.K X.mg X.base x k ps sp) (hr : Room k X.A) (tk : Takes X (fun cls d _ H => E cls d H)) (ha : PA X (e :: es) t) (hg : Gl X x := by rfl) (hdb : (x == ("__debug__" : Str)) = false := by decide)
    (he : starEach (e :: es) X.env = (false, eval e X.env) :: starEach es X.env := by rfl) (hpl : (backTo pos (starEach es X.env)).any (·.1) = false := by rfl) : PE X (.Call (.Name x p) (e :: es) [] pos) (tCall sp [] E t) := by
  obtain ⟨f, fd, F, m, kp, b⟩ := C.ex
  exact pe_call F hr hg m kp b .nil (passes_call tk fun _ _ _ _ h => h) ha hdb he hpl
theorem pe_cn (C : CalX X.prog X.w X.K X.mg X.base x k ps sp) (hr : Room k X.A) (ha : PA X (e :: es) t) (hg : Gl X x := by rfl) (hdb : (x == ("__debug__" : Str)) = false := by decide)
    (he : starEach (e :: es) X.env = (false, eval e X.env) :: starEach es X.env := by rfl) (hpl : (backTo pos (starEach es X.env)).any (·.1) = false := by rfl) : PE X (.Call (.Name x p) (e :: es) [] pos) (tCall sp [] E0 t) := by
  obtain ⟨f, fd, F, m, kp, b⟩ := C.ex
  exact pe_call F hr hg m kp b .nil passL ha hdb he hpl
theorem pe_cs {W : WX} (C : CalX X.prog X.w X.K X.mg X.base x k ps sp) (hr : Room k X.A) (tk : Takes X W) (ha : PA X (e :: es) t) (hg : Gl X x := by rfl) (hdb : (x == ("__debug__" : Str)) = false := by decide)
    (he : starEach (e :: es) X.env = (false, eval e X.env) :: starEach es X.env := by rfl) (hpl : (backTo pos (starEach es X.env)).any (·.1) = false := by rfl) : PE X (.Call (.Name x p) (e :: es) [] pos) (tCallS sp (WE W) t) := by
  obtain ⟨f, fd, F, m, kp, b⟩ := C.ex
  exact pe_callS F hr hg m kp b (fun σ => passAt tk σ) ha hdb he hpl
end
end Fc

namespace Fc
open PySem PySem.Spec L2 PyProof.Rows
/-! ### data of tuples, in heaps that grow -/
mutual
theorem dpKeep {K : PySem.W.Frag} {H H' : Hp} (e : Same H H') : ∀ {d : PyData} {v : V}, Dp K H v d → Dp K H' v d
  | .none, _, .non => .non
  | .bool _, _, .bl b => .bl b
  | .int _, _, .int i => .int i
  | .str _, _, .str x => .str x
  | .list _, _, .lst h hs => .lst (e.seq h) (dpKeepAll e hs)
  | .tuple _, _, .tup h hs => .tup (keepT e h) (dpKeepAll e hs)
theorem dpKeepAll {K : PySem.W.Frag} {H H' : Hp} (e : Same H H') : ∀ {ds : List PyData} {vs : List V}, DpAll K H vs ds → DpAll K H' vs ds
  | [], _, .nil => .nil
  | _ :: _, _, .cons h hs => .cons (dpKeep e h) (dpKeepAll e hs)
end
mutual
def tupsOnly : PyData → Bool
  | .none | .bool _ | .int _ | .str _ => true
  | .tuple ds => decide (ds.length ≤ 100000) && tupsAll ds
  | .list _ | .dict _ => false
def tupsAll : List PyData → Bool
  | [] => true
  | d :: r => tupsOnly d && tupsAll r
end
theorem tupsAll_get : ∀ {ds : List PyData} {i : Nat} {d : PyData}, tupsAll ds = true → ds[i]? = some d → tupsOnly d = true
  | [], _, _, _, h => by cases h
  | x :: r, 0, d, h, e => by
    rw [tupsAll, Bool.and_eq_true] at h
    cases e
    exact h.1
  | x :: r, i + 1, d, h, e => by
    rw [tupsAll, Bool.and_eq_true] at h
    exact tupsAll_get h.2 e
theorem depth_get : ∀ {ds : List PyData} {i : Nat} {d : PyData}, ds[i]? = some d → PyData.depth d ≤ PyData.depthAll ds
  | [], _, _, h => by cases h
  | x :: r, 0, d, e => by
    cases e
    rw [PyData.depthAll]
    exact Nat.le_max_left _ _
  | x :: r, i + 1, d, e => by
    rw [PyData.depthAll]
    exact Nat.le_trans (depth_get (ds := r) e) (Nat.le_max_right _ _)
theorem dpLen {K : PySem.W.Frag} {H : Hp} : ∀ {vs : List V} {ds : List PyData}, DpAll K H vs ds → vs.length = ds.length
  | _, _, .nil => rfl
  | _, _, .cons _ hs => congrArg (· + 1) (dpLen hs)
theorem dpGet {K : PySem.W.Frag} {H : Hp} : ∀ {vs : List V} {ds : List PyData} {i : Nat} {v : V}, DpAll K H vs ds → vs[i]? = some v → ∃ d, ds[i]? = some d ∧ Dp K H v d
  | _, _, _, _, .nil, h => by cases h
  | _, _, 0, _, .cons h hs, e => by
    cases e
    exact ⟨_, rfl, h⟩
  | _, _, i + 1, _, .cons h hs, e => dpGet (i := i) hs e
theorem dpInts {K : PySem.W.Frag} {H : Hp} : ∀ (A : List Int), DpAll K H (A.map V.int) (A.map PyData.int)
  | [] => .nil
  | a :: r => .cons (.int a) (dpInts r)
theorem tupsAll_ints : ∀ (A : List Int), tupsAll (A.map PyData.int) = true
  | [] => rfl
  | a :: r => by rw [List.map_cons, tupsAll, tupsAll_ints r]; rfl
theorem depthAll_ints : ∀ (A : List Int), PyData.depthAll (A.map PyData.int) = 0
  | [] => rfl
  | a :: r => by rw [List.map_cons, PyData.depthAll, depthAll_ints r]; rfl
/-- a tuple of whole numbers, as data -/
abbrev dInts (A : List Int) : PyData := .tuple (A.map PyData.int)
theorem dpTup {K : PySem.W.Frag} {H : Hp} {p : Addr} {A : List Int} (h : SqT K H p (A.map V.int)) : Dp K H (.ref p) (dInts A) := .tup h (dpInts A)
theorem dInts_ok (A : List Int) (h : A.length ≤ 100000) : tupsOnly (dInts A) = true ∧ PyData.depth (dInts A) ≤ 1 := ⟨by
  rw [tupsOnly, tupsAll_ints, decide_eq_true (by rw [List.length_map]; exact h)]
  rfl, by
  show PyData.depthAll (A.map PyData.int) + 1 ≤ 1
  rw [depthAll_ints]
  exact Nat.le_refl 1⟩
end Fc

namespace Fc
open PySem PySem.Spec L2 PyProof.Rows
/-! ### texts as rows of codes -/
def mkS (l : List Nat) : Str := ⟨l.toArray⟩
def T (l : List Nat) : V := .str (mkS l)
theorem tl_mkS (l : List Nat) : TL.tl (mkS l) = l := rfl
theorem mkS_tl (x : Str) : mkS (TL.tl x) = x := TL.mk_tl x
theorem mkS_inj {a b : List Nat} (h : mkS a = mkS b) : a = b := by
  have := congrArg TL.tl h
  exact this
theorem T_inj {a b : List Nat} (h : T a = T b) : a = b := mkS_inj (V.str.inj h)
theorem dec_T {a b : List Nat} : decide (T a = T b) = decide (a = b) := by
  by_cases z : a = b
  · rw [z]; simp
  · rw [decide_eq_false z]; exact decide_eq_false fun k => z (T_inj k)
theorem len_mkS (l : List Nat) : (mkS l).length = l.length := TL.len_tl _
theorem mkS_app (a b : List Nat) : mkS a ++ mkS b = mkS (a ++ b) := TL.ext_tl (by rw [TL.tl_append]; rfl)
theorem mkS_cut (l : List Nat) (lo hi : Option Int) : cutS (mkS l) lo hi = mkS ((l.drop (HT.sIx l.length 0 lo)).take (HT.sIx l.length l.length hi - HT.sIx l.length 0 lo)) := by
  apply TL.ext_tl
  unfold cutS
  rw [len_mkS]
  first
    | rfl
    | (rw [TL.tl_strSub]; rfl)
/-! ### pieces between strokes -/
def splitC (c : Nat) : List Nat → List (List Nat)
  | [] => [[]]
  | x :: r => if x = c then [] :: splitC c r else match splitC c r with
    | [] => [[x]]
    | p :: ps => (x :: p) :: ps
theorem splitC_ne (c : Nat) : ∀ l, splitC c l ≠ []
  | [] => by simp [splitC]
  | x :: r => by
    rw [splitC]
    split
    · simp
    · split <;> simp
theorem spl_splitC (c : Nat) : ∀ (l acc : List Nat), TL.spl [c] 0 acc l = (match splitC c l with | [] => [acc] | p :: ps => (acc ++ p) :: ps)
  | [], acc => by
    rw [TL.spl_nil, splitC]
    simp
  | x :: r, acc => by
    by_cases z : x = c
    · subst z
      rw [TL.spl_hit (by unfold TL.pre; simp)]
      show acc :: TL.spl [x] 0 [] r = _
      rw [spl_splitC x r [], splitC, if_pos rfl]
      cases e : splitC x r with
      | nil => exact absurd e (splitC_ne x r)
      | cons p ps => simp
    · rw [TL.spl_miss (TL.pre_of_head [] r z), spl_splitC c r (acc ++ [x]), splitC, if_neg z]
      cases e : splitC c r with
      | nil => exact absurd e (splitC_ne c r)
      | cons p ps => simp
theorem split_mkS (c : Nat) (hc : c < 256) (l : List Nat) : Txt.split (mkS l) (mkS [c]) = (splitC c l).map mkS := by
  apply TL.map_tl_inj
  rw [TL.split_spl (mkS l) (mkS [c]) (by rw [tl_mkS]; simp) (TL.kind_ok (by simp [mkS, hc]))]
  rw [tl_mkS, tl_mkS, spl_splitC, List.map_map]
  have e : (TL.tl ∘ mkS) = id := rfl
  rw [e, List.map_id]
  cases e2 : splitC c l with
  | nil => exact absurd e2 (splitC_ne c l)
  | cons p ps => simp
def joinC (c : Nat) (ps : List (List Nat)) : List Nat := TL.joinL [c] ps
theorem join_mkS (c : Nat) (ps : List (List Nat)) : Txt.join (mkS [c]) (ps.map mkS) = mkS (joinC c ps) := by
  apply TL.ext_tl
  rw [TL.join_eq, TL.tl_join, List.map_map]
  have e : (TL.tl ∘ mkS) = id := rfl
  rw [e, List.map_id]
  rfl
theorem split_joinC (c : Nat) {ps : List (List Nat)} (hne : ps ≠ []) (h : ∀ p ∈ ps, c ∉ p) : splitC c (joinC c ps) = ps := by
  have e := TL.spl_join (s := c) (S := []) hne h
  have e2 := spl_splitC c (joinC c ps) []
  rw [show TL.spl [c] 0 [] (joinC c ps) = ps from e] at e2
  cases q : splitC c (joinC c ps) with
  | nil => exact absurd q (splitC_ne _ _)
  | cons p r =>
    rw [q] at e2
    simpa using e2.symm
theorem joinC_len (c : Nat) : ∀ (ps : List (List Nat)) (m : Nat), (∀ p ∈ ps, p.length ≤ m) → (joinC c ps).length ≤ ps.length * (m + 1)
  | [], m, _ => by simp [joinC, TL.joinL]
  | [p], m, h => by
    have := h p (by simp)
    simp [joinC, TL.joinL]
    omega
  | p :: q :: r, m, h => by
    have ih := joinC_len c (q :: r) m fun x hx => h x (List.mem_cons_of_mem _ hx)
    have hp := h p (by simp)
    have e : joinC c (p :: q :: r) = p ++ [c] ++ joinC c (q :: r) := by simp [joinC, TL.joinL]
    have e3 : (p :: q :: r).length * (m + 1) = (q :: r).length * (m + 1) + (m + 1) := by
      show ((q :: r).length + 1) * (m + 1) = _
      rw [Nat.add_mul, Nat.one_mul]
    have e4 : ([c] : List Nat).length = 1 := rfl
    rw [e, e3, List.length_append, List.length_append, e4]
    omega
end Fc

namespace Fc
open PySem PySem.Spec L2 PyProof.Rows
/-! ### parts and paths -/
/-- a to z, 0 to 9, the dot, the two strokes -/
def good : List Nat := [97, 98, 99, 100, 101, 102, 103, 104, 105, 106, 107, 108, 109, 110, 111, 112, 113, 114, 115, 116, 117, 118, 119, 120, 121, 122, 48, 49, 50, 51, 52, 53, 54, 55, 56, 57, 46, 45, 95]
def partOk (p : List Nat) : Prop := 1 ≤ p.length ∧ p.length ≤ 12 ∧ p ≠ [46] ∧ p ≠ [46, 46] ∧ ∀ c ∈ p, c ∈ good
instance (p : List Nat) : Decidable (partOk p) := by
  unfold partOk
  infer_instance
theorem no_stroke {p : List Nat} (h : partOk p) : 47 ∉ p := fun m => absurd (h.2.2.2.2 47 m) (by decide)
inductive CRes where
  | bad
  | out
  | ok (kept : List (List Nat))
def walkC : List (List Nat) → List (List Nat) → CRes
  | [], kept => if kept = [] ∨ 8 < kept.length then .bad else .ok kept
  | p :: r, kept => if p = [46, 46] then (if kept = [] then .out else walkC r kept.dropLast) else if p = [] ∨ p = [46] then walkC r kept else if partOk p then walkC r (kept ++ [p]) else .bad
def cleanF (l : List Nat) : CRes := if l.head? = some 47 then .out else walkC (splitC 47 l) []
/-- the path that these parts make -/
def pathOf (ps : List (List Nat)) : List Nat := joinC 47 ps
def PathOk (ps : List (List Nat)) : Prop := ps ≠ [] ∧ ps.length ≤ 8 ∧ ∀ p ∈ ps, partOk p
theorem walkC_ok : ∀ (ps kept : List (List Nat)) {k2 : List (List Nat)}, (∀ p ∈ kept, partOk p) → walkC ps kept = .ok k2 → PathOk k2
  | [], kept, k2, h, e => by
    rw [walkC] at e
    split at e
    · cases e
    · rename_i z
      cases e
      exact ⟨fun q => z (.inl q), by omega, h⟩
  | p :: r, kept, k2, h, e => by
    rw [walkC] at e
    split at e
    · split at e
      · cases e
      · exact walkC_ok r _ (fun q hq => h q ((List.dropLast_sublist _).mem hq)) e
    · split at e
      · exact walkC_ok r _ h e
      · split at e
        · rename_i g
          refine walkC_ok r _ (fun q hq => ?_) e
          rcases List.mem_append.mp hq with hq | hq
          · exact h q hq
          · rw [List.mem_singleton.mp hq]
            exact g
        · cases e
theorem cleanF_ok {l : List Nat} {ps : List (List Nat)} (h : cleanF l = .ok ps) : PathOk ps := by
  unfold cleanF at h
  split at h
  · cases h
  · exact walkC_ok _ _ (fun p hp => by cases hp) h
theorem walkC_parts : ∀ (ps kept : List (List Nat)) (r : List (List Nat)), (∀ p ∈ ps, partOk p) → walkC (ps ++ r) kept = walkC r (kept ++ ps)
  | [], kept, r, _ => by simp
  | p :: ps, kept, r, h => by
    have g := h p (by simp)
    have n1 : p ≠ [46, 46] := g.2.2.2.1
    have n2 : ¬ (p = [] ∨ p = [46]) := fun z => by
      rcases z with z | z
      · rw [z] at g
        exact absurd g.1 (by decide)
      · exact g.2.2.1 z
    rw [List.cons_append, walkC, if_neg n1, if_neg n2, if_pos g, walkC_parts ps (kept ++ [p]) r fun q hq => h q (List.mem_cons_of_mem _ hq), List.append_assoc]
    rfl
theorem head_join {ps : List (List Nat)} (h : PathOk ps) : (pathOf ps).head? ≠ some 47 := by
  obtain ⟨hne, _, hp⟩ := h
  cases ps with
  | nil => exact absurd rfl hne
  | cons p r =>
    have g := hp p (by simp)
    cases p with
    | nil => exact absurd g.1 (by decide)
    | cons c q =>
      have nc : c ≠ 47 := fun z => no_stroke g (by rw [z]; simp)
      cases r with
      | nil =>
        show (c :: q).head? ≠ some 47
        simpa using nc
      | cons p2 r2 =>
        show ((c :: q) ++ ([47] ++ TL.joinL [47] (p2 :: r2))).head? ≠ some 47
        simpa using nc
theorem split_path {ps : List (List Nat)} (h : PathOk ps) : splitC 47 (pathOf ps) = ps := split_joinC 47 h.1 fun p hp => no_stroke (h.2.2 p hp)
theorem clean_path {ps : List (List Nat)} (h : PathOk ps) : cleanF (pathOf ps) = .ok ps := by
  unfold cleanF
  rw [if_neg (head_join h), split_path h]
  have e := walkC_parts ps [] [] h.2.2
  rw [List.append_nil, List.nil_append] at e
  rw [e, walkC, if_neg (fun z => by rcases z with z | z; exact h.1 z; exact absurd h.2.1 (by omega))]
/-! ### a stroke and two dots behind -/
theorem splitC_app (c : Nat) : ∀ (l m : List Nat), splitC c (l ++ c :: m) = splitC c l ++ splitC c m
  | [], m => by
    show splitC c (c :: m) = [[]] ++ splitC c m
    rw [splitC, if_pos rfl]
    rfl
  | x :: r, m => by
    show splitC c (x :: (r ++ c :: m)) = _
    rw [splitC, splitC, splitC_app c r m]
    by_cases z : x = c
    · rw [if_pos z, if_pos z]
      rfl
    · rw [if_neg z, if_neg z]
      cases e : splitC c r with
      | nil => exact absurd e (splitC_ne c r)
      | cons p ps => rfl
theorem clean_up {ps : List (List Nat)} (h : PathOk ps) : cleanF (pathOf ps ++ [47, 46, 46]) = if ps.dropLast = [] then .bad else .ok ps.dropLast := by
  have hd : (pathOf ps ++ [47, 46, 46]).head? ≠ some 47 := by
    have := head_join h
    cases e : pathOf ps with
    | nil =>
      have s := split_path h
      rw [e] at s
      have g := h.2.2 [] (by rw [← s]; simp [splitC])
      exact absurd g.1 (by decide)
    | cons c q =>
      rw [e] at this
      simpa using this
  unfold cleanF
  rw [if_neg hd, show pathOf ps ++ [47, 46, 46] = pathOf ps ++ 47 :: [46, 46] from rfl, splitC_app, split_path h, show splitC 47 [46, 46] = [[46, 46]] by decide, walkC_parts ps [] _ h.2.2, List.nil_append, walkC, if_pos rfl, if_neg h.1, walkC]
  have l8 : ps.dropLast.length ≤ 8 := by
    rw [List.length_dropLast]
    have := h.2.1
    omega
  by_cases z : ps.dropLast = []
  · rw [if_pos (.inl z), if_pos z]
  · rw [if_neg (fun k => by rcases k with k | k; exact z k; omega), if_neg z]
/-- the paths above -/
def aboveF (ps : List (List Nat)) : List (List Nat) := (List.range (ps.length - 1)).map fun k => pathOf (ps.take (k + 1))
theorem aboveF_last {ps : List (List Nat)} (h : ps ≠ []) : (aboveF ps).getLast? = if ps.dropLast = [] then none else some (pathOf ps.dropLast) := by
  unfold aboveF
  have lp : 0 < ps.length := List.length_pos_iff.mpr h
  have ld := List.length_dropLast (xs := ps)
  by_cases z : ps.length = 1
  · have e : ps.dropLast = [] := List.eq_nil_of_length_eq_zero (by rw [ld]; omega)
    rw [if_pos e, z]
    rfl
  · have e : ps.dropLast ≠ [] := fun q => by
      rw [q] at ld
      simp at ld
      omega
    rw [if_neg e, List.getLast?_map, List.getLast?_range]
    have z2 : ¬ ps.length - 1 = 0 := by omega
    rw [if_neg z2]
    show some (pathOf (ps.take (ps.length - 1 - 1 + 1))) = _
    rw [show ps.length - 1 - 1 + 1 = ps.length - 1 by omega, List.dropLast_eq_take]
end Fc

namespace Fc
open PySem PySem.Spec L2 PyProof.Rows
/-! ### [c for c in text if test] -/
theorem lc_sign {l : List Nat} {keep : Nat → Bool} {tt : TT} {te : TE} {vs : List Nat} {σ : L2.St} {H1 : Hp} {D : Addr} {j : Nat} {Qd : Hp → Prop} (nD : H1 D = none) (hz : l.length ≤ sizeLine)
    (hw : ∀ x, wipe ((wipe σ vs).set j (some x)) vs = wipe σ vs)
    (test : ∀ (i : Nat) (c : Nat) (H : Hp) (R : Bool → Hp → Prop), l[i]? = some c → Same H1 H → (∀ H', Same H H' → R (keep c) H') → tt ((wipe σ vs).set j (some (T [c]))) H R)
    (item : ∀ (c : Nat) (H : Hp) (R : V → Hp → Prop), Same H1 H → (∀ H', Same H H' → R (T [c]) H') → te ((wipe σ vs).set j (some (T [c]))) H R) (hd : ∀ H', Same H1 H' → H' D = some (.lst ((l.filter keep).map fun c => T [c])) → Qd H') :
    ∃ W : Nat → Nat → Hp → Prop, (∃ m, W 0 m (upd H1 D (.lst []))) ∧ ∀ i m H, W i m H →
      ((Its (mkS l)).stop i H ∧ Qd H) ∨ ((Its (mkS l)).go i H ∧ ∃ Nx : Hp → Prop, (∀ H', Nx H' → ∃ m', m' < m ∧ W (i + 1) m' H') ∧ ∀ x H', (Its (mkS l)).yld i H x H' → gName j x (wipe σ vs) H' fun σ2 H2 => wipe σ2 vs = wipe σ vs ∧ tt σ2 H2 fun b H3 =>
        if b = true then te σ2 H3 fun y H4 => ∃ acc, H4 D = some (.lst acc) ∧ acc.length < sizeLine ∧ Nx (upd H4 D (.lst (acc ++ [y]))) else Nx H3) := by
  have sz : (mkS l).cps.size = l.length := by simp [mkS]
  refine ⟨fun i m H => m = l.length - i ∧ i ≤ l.length ∧ Same H1 H ∧ H D = some (.lst (((l.take i).filter keep).map fun c => T [c])), ⟨l.length, rfl, Nat.zero_le _, grow nD, upd_same⟩, ?_⟩
  rintro i m H ⟨rfl, hi, sm, hD⟩
  by_cases lt : i < l.length
  · refine .inr ⟨by show i < (mkS l).cps.size; omega, fun H' => Same H1 H' ∧ H' D = some (.lst (((l.take (i + 1)).filter keep).map fun c => T [c])), fun H' p => ⟨l.length - (i + 1), by omega, rfl, lt, p.1, p.2⟩, fun x H' yl => ?_⟩
    obtain ⟨rfl, c, hc, rfl⟩ := yl
    have gc : l[i]? = some c := by
      have : (mkS l).cps[i]? = l[i]? := by simp [mkS]
      rw [← this]
      exact hc
    have ft : (l.take (i + 1)).filter keep = (l.take i).filter keep ++ (if keep c = true then [c] else []) := by
      rw [List.take_add_one, gc, Option.toList_some, List.filter_append]
      congr 1
      by_cases k : keep c = true
      · rw [if_pos k, List.filter_cons_of_pos k]; rfl
      · rw [if_neg k, List.filter_cons_of_neg k]; rfl
    refine ⟨hw _, test i c H' _ gc sm fun H3 s3 => ?_⟩
    by_cases k : keep c = true
    · rw [if_pos k]
      refine item c H3 _ (sm.trans s3) fun H4 s4 => ⟨_, s4 _ _ (s3 _ _ hD), ?_, ?_, ?_⟩
      · rw [List.length_map]
        have := List.length_filter_le keep (l.take i)
        rw [List.length_take] at this
        omega
      · exact (sm.trans (s3.trans s4)).over nD
      · rw [upd_same, ft, if_pos k, List.map_append]
        rfl
    · rw [if_neg k]
      refine ⟨sm.trans s3, ?_⟩
      rw [ft, if_neg k, List.append_nil]
      exact s3 _ _ hD
  · have e : i = l.length := by omega
    subst e
    refine .inl ⟨by show (mkS l).cps.size ≤ _; omega, hd H sm ?_⟩
    rw [hD, List.take_length]
theorem at_ofA {α : Type} {xs : List α} {z : Int} {j : Nat} {v : α} (e : z = (j : Int)) (h : xs[j]? = some v) : atI xs z = some v := by
  rw [e]
  exact atI_nat h
/-! ### written texts -/
theorem t_dot : (V.str (Str.ofString ".")) = T [46] := by rw [show Str.ofString "." = mkS [46] by decide +kernel]; rfl
theorem t_dots : (V.str (Str.ofString "..")) = T [46, 46] := by rw [show Str.ofString ".." = mkS [46, 46] by decide +kernel]; rfl
theorem t_none : (V.str (Str.ofString "")) = T [] := by rw [show Str.ofString "" = mkS [] by decide +kernel]; rfl
theorem t_slash : (V.str (Str.ofString "/")) = T [47] := by rw [show Str.ofString "/" = mkS [47] by decide +kernel]; rfl
theorem t_good : Str.ofString "abcdefghijklmnopqrstuvwxyz0123456789.-_" = mkS good := by decide +kernel
theorem s_slash : Str.ofString "/" = mkS [47] := by decide +kernel
theorem starts_slash (l : List Nat) : Txt.startswith (mkS l) (mkS [47]) = decide (l.head? = some 47) := by
  cases l with
  | nil => decide +kernel
  | cons c r =>
    have e : Txt.startswith (mkS (c :: r)) (mkS [47]) = Builtin.Str.subAt (mkS (c :: r)) (mkS [47]) 0 := by
      unfold Txt.startswith
      rw [decide_eq_true (by rw [len_mkS, len_mkS]; simp), Bool.true_and]
    rw [e]
    unfold Builtin.Str.subAt
    simp [mkS, Str.length]
    exact Bool.eq_iff_iff.mpr (by simp)
end Fc

namespace Fc
open PySem PySem.Spec L2 PyProof.Rows
/-! ### a comprehension whose items are known by what holds of them -/
theorem lc_rowG {K : PySem.W.Frag} {a : Addr} {xs : List V} {G : Nat → V → Hp → Prop} {te : TE} {vs : List Nat} {σ : L2.St} {H1 : Hp} {D : Addr} {j : Nat} {Qd : Hp → Prop} (nD : H1 D = none) (hs : SqL K H1 a xs) (hz : xs.length ≤ sizeLine)
    (hw : ∀ x, wipe ((wipe σ vs).set j (some x)) vs = wipe σ vs) (gk : ∀ i v H H', Same H H' → G i v H → G i v H') (gu : ∀ i v H ys zs, H D = some (.lst ys) → G i v H → G i v (upd H D (.lst zs)))
    (turn : ∀ (i : Nat) (x : V) (H : Hp) (R : V → Hp → Prop), xs[i]? = some x → Same H1 H → (∀ y H', Same H H' → G i y H' → R y H') → te ((wipe σ vs).set j (some x)) H R) (hd : ∀ ys H', ys.length = xs.length → (∀ i y, ys[i]? = some y → G i y H') → Same H1 H' → H' D = some (.lst ys) → Qd H') :
    ∃ W : Nat → Nat → Hp → Prop, (∃ m, W 0 m (upd H1 D (.lst []))) ∧ ∀ i m H, W i m H →
      ((Itl K a).stop i H ∧ Qd H) ∨ ((Itl K a).go i H ∧ ∃ Nx : Hp → Prop, (∀ H', Nx H' → ∃ m', m' < m ∧ W (i + 1) m' H') ∧ ∀ x H', (Itl K a).yld i H x H' → gName j x (wipe σ vs) H' fun σ2 H2 => wipe σ2 vs = wipe σ vs ∧ tYes σ2 H2 fun b H3 =>
        if b = true then te σ2 H3 fun y H4 => ∃ acc, H4 D = some (.lst acc) ∧ acc.length < sizeLine ∧ Nx (upd H4 D (.lst (acc ++ [y]))) else Nx H3) := by
  refine lc_list (xs := xs) (fun i H => Same H1 H ∧ ∃ ys, ys.length = i ∧ H D = some (.lst ys) ∧ ∀ k y, ys[k]? = some y → G k y H) ⟨grow nD, [], rfl, upd_same, fun k y h => nomatch h⟩ (fun i H _ p => p.1.seq hs) (fun i x H hx p => ?_) (fun H p => ?_)
  · have hi : i < xs.length := (List.getElem?_eq_some_iff.mp hx).1
    obtain ⟨sm1, ys, ly, hD, hg⟩ := p
    refine ⟨hw x, ?_⟩
    unfold tYes
    dsimp only
    rw [if_pos rfl]
    refine turn i x H _ hx sm1 fun y H' sm gy => ⟨ys, sm _ _ hD, by omega, ?_, ys ++ [y], ?_, upd_same, ?_⟩
    · exact (sm1.trans sm).over nD
    · rw [List.length_append, ly]
      rfl
    · intro k z hk
      by_cases lt : k < ys.length
      · rw [List.getElem?_append_left lt] at hk
        exact gu _ _ _ _ _ (sm _ _ hD) (gk _ _ _ _ sm (hg k z hk))
      · rw [List.getElem?_append_right (by omega)] at hk
        have e : k = i := by
          have := (List.getElem?_eq_some_iff.mp hk).1
          simp only [List.length_cons, List.length_nil] at this
          omega
        subst e
        rw [ly, Nat.sub_self] at hk
        cases hk
        exact gu _ _ _ _ _ (sm _ _ hD) gy
  · obtain ⟨sm1, ys, ly, hD, hg⟩ := p
    exact hd ys H ly hg sm1 hD
/-- the same of flat things -/
theorem lc_rowP {K : PySem.W.Frag} {a : Addr} {xs : List V} {G : V → Prop} {te : TE} {vs : List Nat} {σ : L2.St} {H1 : Hp} {D : Addr} {j : Nat} {Qd : Hp → Prop} (nD : H1 D = none) (hs : SqL K H1 a xs) (hz : xs.length ≤ sizeLine)
    (hw : ∀ x, wipe ((wipe σ vs).set j (some x)) vs = wipe σ vs)
    (turn : ∀ (i : Nat) (x : V) (H : Hp) (R : V → Hp → Prop), xs[i]? = some x → Same H1 H → (∀ y H', Same H H' → G y → R y H') → te ((wipe σ vs).set j (some x)) H R) (hd : ∀ ys H', ys.length = xs.length → (∀ y ∈ ys, G y) → Same H1 H' → H' D = some (.lst ys) → Qd H') :
    ∃ W : Nat → Nat → Hp → Prop, (∃ m, W 0 m (upd H1 D (.lst []))) ∧ ∀ i m H, W i m H →
      ((Itl K a).stop i H ∧ Qd H) ∨ ((Itl K a).go i H ∧ ∃ Nx : Hp → Prop, (∀ H', Nx H' → ∃ m', m' < m ∧ W (i + 1) m' H') ∧ ∀ x H', (Itl K a).yld i H x H' → gName j x (wipe σ vs) H' fun σ2 H2 => wipe σ2 vs = wipe σ vs ∧ tYes σ2 H2 fun b H3 =>
        if b = true then te σ2 H3 fun y H4 => ∃ acc, H4 D = some (.lst acc) ∧ acc.length < sizeLine ∧ Nx (upd H4 D (.lst (acc ++ [y]))) else Nx H3) :=
  lc_rowG (G := fun _ v _ => G v) nD hs hz hw (fun _ _ _ _ _ h => h) (fun _ _ _ _ _ _ h => h) turn (fun ys H' l h => hd ys H' l fun y hy => by
    obtain ⟨i, e⟩ := List.getElem?_of_mem hy
    exact h i y e)
theorem lc_rngP {lo : Int} {n : Nat} {G : V → Prop} {te : TE} {vs : List Nat} {σ : L2.St} {H1 : Hp} {D : Addr} {j : Nat} {Qd : Hp → Prop} (nD : H1 D = none) (hz : n ≤ sizeLine)
    (hw : ∀ x, wipe ((wipe σ vs).set j (some x)) vs = wipe σ vs)
    (turn : ∀ (i : Nat) (H : Hp) (R : V → Hp → Prop), i < n → Same H1 H → (∀ y H', Same H H' → G y → R y H') → te ((wipe σ vs).set j (some (.int (lo + i)))) H R) (hd : ∀ ys H', ys.length = n → (∀ y ∈ ys, G y) → Same H1 H' → H' D = some (.lst ys) → Qd H') :
    ∃ W : Nat → Nat → Hp → Prop, (∃ m, W 0 m (upd H1 D (.lst []))) ∧ ∀ i m H, W i m H →
      ((Itr lo n).stop i H ∧ Qd H) ∨ ((Itr lo n).go i H ∧ ∃ Nx : Hp → Prop, (∀ H', Nx H' → ∃ m', m' < m ∧ W (i + 1) m' H') ∧ ∀ x H', (Itr lo n).yld i H x H' → gName j x (wipe σ vs) H' fun σ2 H2 => wipe σ2 vs = wipe σ vs ∧ tYes σ2 H2 fun b H3 =>
        if b = true then te σ2 H3 fun y H4 => ∃ acc, H4 D = some (.lst acc) ∧ acc.length < sizeLine ∧ Nx (upd H4 D (.lst (acc ++ [y]))) else Nx H3) := by
  refine lc_range (fun i H => Same H1 H ∧ ∃ ys, ys.length = i ∧ H D = some (.lst ys) ∧ ∀ y ∈ ys, G y) ⟨grow nD, [], rfl, upd_same, fun y h => nomatch h⟩ (fun i H hi p => ?_) (fun H p => ?_)
  · obtain ⟨sm1, ys, ly, hD, hg⟩ := p
    refine ⟨hw _, ?_⟩
    unfold tYes
    dsimp only
    rw [if_pos rfl]
    refine turn i H _ hi sm1 fun y H' sm gy => ⟨ys, sm _ _ hD, by omega, ?_, ys ++ [y], ?_, upd_same, ?_⟩
    · exact (sm1.trans sm).over nD
    · rw [List.length_append, ly]
      rfl
    · intro z hz
      rcases List.mem_append.mp hz with hz | hz
      · exact hg z hz
      · rw [List.mem_singleton.mp hz]
        exact gy
  · obtain ⟨sm1, ys, ly, hD, hg⟩ := p
    exact hd ys H ly hg sm1 hD
def PartV (v : V) : Prop := ∃ p : List Nat, v = T p ∧ partOk p
theorem partsV : ∀ {vs : List V}, (∀ v ∈ vs, PartV v) → ∃ ps : List (List Nat), vs = ps.map T ∧ ∀ p ∈ ps, partOk p
  | [], _ => ⟨[], rfl, fun p h => by cases h⟩
  | v :: r, h => by
    obtain ⟨p, rfl, hp⟩ := h v (by simp)
    obtain ⟨ps, rfl, hps⟩ := partsV fun u hu => h u (List.mem_cons_of_mem _ hu)
    refine ⟨p :: ps, rfl, fun q hq => ?_⟩
    rcases List.mem_cons.mp hq with rfl | hq
    · exact hp
    · exact hps q hq
theorem iteNS2 {b : Bool} {a c : Prop} (h : b = false) (k : c) : if b = true then a else c := by
  rw [h, if_neg Bool.false_ne_true]
  exact k
/-! ### cuts of any row -/
theorem cutV_to (xs : List V) (k : Nat) : cutV xs none (some (k : Int)) = xs.take k := by
  unfold cutV
  rw [HT.sIx_none, HT.sIx_nat, List.drop_zero, Nat.sub_zero]
  by_cases h : k ≤ xs.length
  · rw [Nat.min_eq_left h]
  · have h' : xs.length ≤ k := by omega
    rw [Nat.min_eq_right h', List.take_of_length_le (Nat.le_refl _), List.take_of_length_le h']
theorem cutV_from (xs : List V) (k : Nat) : cutV xs (some (k : Int)) none = xs.drop k := by
  unfold cutV
  rw [HT.sIx_none, HT.sIx_nat]
  by_cases h : k ≤ xs.length
  · rw [Nat.min_eq_left h]
    exact List.take_of_length_le (by rw [List.length_drop]; omega)
  · have h' : xs.length ≤ k := by omega
    rw [Nat.min_eq_right h', List.drop_of_length_le (Nat.le_refl _), List.drop_of_length_le h', List.take_nil]
theorem cut_some (ns : List Int) (lo hi : Option Int) : ∃ ms : List Int, cutV (ns.map V.int) lo hi = ms.map V.int ∧ ms.length ≤ ns.length := by
  refine ⟨(ns.drop (HT.sIx ns.length 0 lo)).take (HT.sIx ns.length ns.length hi - HT.sIx ns.length 0 lo), ?_, ?_⟩
  · unfold cutV
    rw [List.length_map, List.map_take, List.map_drop]
  · rw [List.length_take, List.length_drop]
    omega
theorem cutS_to (l : List Nat) (k : Nat) : cutS (mkS l) none (some (k : Int)) = mkS (l.take k) := by
  rw [mkS_cut, HT.sIx_none, HT.sIx_nat, List.drop_zero, Nat.sub_zero]
  by_cases h : k ≤ l.length
  · rw [Nat.min_eq_left h]
  · have h' : l.length ≤ k := by omega
    rw [Nat.min_eq_right h', List.take_of_length_le (Nat.le_refl _), List.take_of_length_le h']
theorem cutS_from (l : List Nat) (k : Nat) : cutS (mkS l) (some (k : Int)) none = mkS (l.drop k) := by
  rw [mkS_cut, HT.sIx_none, HT.sIx_nat]
  by_cases h : k ≤ l.length
  · rw [Nat.min_eq_left h]
    rw [List.take_of_length_le (by rw [List.length_drop]; omega)]
  · have h' : l.length ≤ k := by omega
    rw [Nat.min_eq_right h', List.drop_of_length_le (Nat.le_refl _), List.drop_of_length_le h', List.take_nil]
/-! ### rows of texts -/
def TxtOk (m : Nat) (v : V) : Prop := ∃ p : List Nat, v = T p ∧ p.length ≤ m
theorem txts {m : Nat} : ∀ {vs : List V}, (∀ v ∈ vs, TxtOk m v) → ∃ ps : List (List Nat), vs = ps.map T ∧ ∀ p ∈ ps, p.length ≤ m
  | [], _ => ⟨[], rfl, fun p h => by cases h⟩
  | v :: r, h => by
    obtain ⟨p, rfl, hp⟩ := h v (by simp)
    obtain ⟨ps, rfl, hps⟩ := txts fun u hu => h u (List.mem_cons_of_mem _ hu)
    refine ⟨p :: ps, rfl, fun q hq => ?_⟩
    rcases List.mem_cons.mp hq with rfl | hq
    · exact hp
    · exact hps q hq
theorem mapT (ps : List (List Nat)) : (ps.map mkS).map V.str = ps.map T := by rw [List.map_map]; rfl
theorem sum_sizes {m : Nat} : ∀ (ks : List (List Nat)), (∀ p ∈ ks, p.length ≤ m) → ((ks.map mkS).map (·.length)).sum ≤ ks.length * m
  | [], _ => by simp
  | x :: r, h => by
    have h1 := h x (by simp)
    have h2 := sum_sizes r fun p hp => h p (List.mem_cons_of_mem _ hp)
    rw [List.map_cons, List.map_cons, List.sum_cons, len_mkS, List.length_cons, Nat.add_mul, Nat.one_mul]
    omega
theorem splitC_sizes (c : Nat) : ∀ (l : List Nat) (p : List Nat), p ∈ splitC c l → p.length ≤ l.length
  | [], p, h => by
    rw [splitC, List.mem_singleton] at h
    rw [h]
    exact Nat.le_refl _
  | x :: r, p, h => by
    rw [splitC] at h
    by_cases z : x = c
    · rw [if_pos z] at h
      rcases List.mem_cons.mp h with h | h
      · rw [h]
        exact Nat.zero_le _
      · exact Nat.le_succ_of_le (splitC_sizes c r p h)
    · rw [if_neg z] at h
      cases e : splitC c r with
      | nil => exact absurd e (splitC_ne c r)
      | cons q qs =>
        rw [e] at h
        rcases List.mem_cons.mp h with h | h
        · rw [h, List.length_cons, List.length_cons]
          exact Nat.succ_le_succ (splitC_sizes c r q (by rw [e]; simp))
        · exact Nat.le_succ_of_le (splitC_sizes c r p (by rw [e]; exact List.mem_cons_of_mem _ h))
theorem splitC_many (c : Nat) : ∀ (l : List Nat), (splitC c l).length ≤ l.length + 1
  | [] => by simp [splitC]
  | x :: r => by
    have ih := splitC_many c r
    rw [splitC]
    by_cases z : x = c
    · rw [if_pos z, List.length_cons, List.length_cons]
      omega
    · rw [if_neg z]
      cases e : splitC c r with
      | nil => simp
      | cons q qs =>
        rw [e] at ih
        show (qs.length + 1) ≤ r.length + 1 + 1
        rw [List.length_cons] at ih
        omega
theorem len_str (x : String) : (Str.ofString x).length = (TL.tl (Str.ofString x)).length := by
  rw [← len_mkS, mkS_tl]
theorem at_last {α : Type} {xs : List α} {v : α} (h : xs.getLast? = some v) : atI xs (-1) = some v := by
  obtain ⟨ys, rfl⟩ := List.getLast?_eq_some_iff.mp h
  exact atI_last ys v
/-! ### rows of texts, as data -/
abbrev dTxts (ls : List (List Nat)) : PyData := .tuple (ls.map fun l => PyData.str (mkS l))
theorem dpTxtsAll {K : PySem.W.Frag} {H : Hp} : ∀ (ls : List (List Nat)), DpAll K H (ls.map T) (ls.map fun l => PyData.str (mkS l))
  | [] => .nil
  | a :: r => .cons (.str _) (dpTxtsAll r)
theorem dpTxts {K : PySem.W.Frag} {H : Hp} {p : Addr} {ls : List (List Nat)} (h : SqT K H p (ls.map T)) : Dp K H (.ref p) (dTxts ls) := .tup h (dpTxtsAll ls)
theorem tupsAll_txts : ∀ (ls : List (List Nat)), tupsAll (ls.map fun l => PyData.str (mkS l)) = true
  | [] => rfl
  | a :: r => by rw [List.map_cons, tupsAll, tupsAll_txts r]; rfl
theorem depthAll_txts : ∀ (ls : List (List Nat)), PyData.depthAll (ls.map fun l => PyData.str (mkS l)) = 0
  | [] => rfl
  | a :: r => by rw [List.map_cons, PyData.depthAll, depthAll_txts r]; rfl
theorem dTxts_ok (ls : List (List Nat)) (h : ls.length ≤ 100000) : tupsOnly (dTxts ls) = true ∧ PyData.depth (dTxts ls) ≤ 1 := ⟨by
  rw [tupsOnly, tupsAll_txts, decide_eq_true (by rw [List.length_map]; exact h)]
  rfl, by
  show PyData.depthAll (ls.map fun l => PyData.str (mkS l)) + 1 ≤ 1
  rw [depthAll_txts]
  exact Nat.le_refl 1⟩
theorem eqV_txt (a b : List Nat) : eqV (T a) (T b) = decide (a = b) := by
  show (decide (mkS a = mkS b) : Bool) = _ 
  by_cases z : a = b
  · rw [z]; simp
  · rw [decide_eq_false z]
    exact decide_eq_false fun k => z (mkS_inj k)
theorem inV_txt (p : List Nat) : ∀ ls : List (List Nat), inV (T p) (ls.map T) = decide (p ∈ ls)
  | [] => by simp [inV]
  | l :: r => by
    have ih := inV_txt p r
    unfold inV at ih ⊢
    rw [List.map_cons, List.any_cons, ih, eqV_txt]
    by_cases z : l = p
    · subst z; simp
    · rw [decide_eq_false z, Bool.false_or]
      by_cases y : p ∈ r
      · rw [decide_eq_true y, decide_eq_true (List.mem_cons_of_mem _ y)]
      · rw [decide_eq_false y]
        exact (decide_eq_false fun k => by
          rcases List.mem_cons.mp k with k | k
          · exact z k.symm
          · exact y k).symm
theorem flat_txts : ∀ ls : List (List Nat), (ls.map T).all flatV = true
  | [] => rfl
  | l :: r => by rw [List.map_cons, List.all_cons, flat_txts r]; rfl
end Fc

namespace Fc
open PySem PySem.Spec L2 PyProof.Rows
/-! ### t * k of any small k -/
theorem mul_self (l : Addr) (its : Array Value) (n : Nat) (dd : Option Addr) (sl : Array (Option Value)) (k : Int) (u : Tok) (c0 : (decide (k < -(2 ^ 63)) || decide (k ≥ 2 ^ 63)) = false) (c1 : (its.isEmpty || k == 1) = true) :
    Meets (Builtin.«tuple.__mul__» ⟨[.ref l, .int k u], []⟩) (fun _ R s => s.heap.get? l = some { cls := .type "tuple", dict := dd, data := .seq its n, slots := sl } ∧ R (.ok (.ret (Value.ref l))) s) :=
  .of_wp fun prog w A R s h => by
    obtain ⟨hp, g, d, tk, os⟩ := s
    obtain ⟨hl, h⟩ := h
    have f1 := AutoSeq1.idx_int
    wp_walk using wpAny_loadPart' hl
    repeat (first
      | (refine wpAny_ite_false (decide_eq_false (by rw [c0]; exact Bool.false_ne_true)) ?_; wp_walk using wpAny_loadPart' hl)
      | (refine wpAny_ite_true (decide_eq_true c1) ?_; wp_walk using wpAny_loadPart' hl))
    exact ⟨_, rfl, h⟩
theorem mul_none (l : Addr) (its : Array Value) (n : Nat) (dd : Option Addr) (sl : Array (Option Value)) (k : Int) (u : Tok) (c0 : (decide (k < -(2 ^ 63)) || decide (k ≥ 2 ^ 63)) = false) (c1 : (its.isEmpty || k == 1) = false) (c2 : (decide (k ≤ 0) || its.isEmpty) = true) :
    Meets (Builtin.«tuple.__mul__» ⟨[.ref l, .int k u], []⟩) (fun _ R s => s.heap.get? l = some { cls := .type "tuple", dict := dd, data := .seq its n, slots := sl } ∧
      R (.ok (.ret (Value.ref s.heap.objs.size))) { s with heap := s.heap.push { cls := Value.type "tuple", data := Data.seq #[] }, toks := s.toks }) :=
  .of_wp fun prog w A R s h => by
    obtain ⟨hp, g, d, tk, os⟩ := s
    obtain ⟨hl, h⟩ := h
    have f1 := AutoSeq1.idx_int
    wp_walk using wpAny_loadPart' hl
    repeat (first
      | (refine wpAny_ite_false (decide_eq_false (by rw [c0]; exact Bool.false_ne_true)) ?_; wp_walk using wpAny_loadPart' hl)
      | (refine wpAny_ite_false (decide_eq_false (by rw [c1]; exact Bool.false_ne_true)) ?_; wp_walk using wpAny_loadPart' hl)
      | (refine wpAny_ite_true (decide_eq_true c2) ?_; wp_walk using wpAny_loadPart' hl))
    exact ⟨_, rfl, h⟩
def rRepU (K : PySem.W.Frag) : R2 := fun x y H Q => ∃ l k xs, x = .ref l ∧ y = .int k ∧ SqT K H l xs ∧ 0 ≤ k ∧ k ≤ 1000 ∧ xs.length ≤ 1000 ∧ Tups K H (List.replicate k.toNat xs).flatten Q
section
variable {X : Cx}
theorem op_repU : OpR X (binaryOp .Mult) (rRepU X.K) := by
  intro pins s σ H x y v u Q I rx ry h
  obtain ⟨l, k, xs, rfl, rfl, hT, k0, k1, few, q⟩ := h
  by_cases hn : xs = [] ∨ k < 2
  · cases rx
    obtain ⟨t, rfl⟩ := ry
    obtain ⟨its, r, ⟨⟨cls, dd, data, sl⟩, ho, hc, n, hd⟩, hs⟩ := I.tuple hT
    simp only at hc hd
    subst hc hd
    have hle : its.length = xs.length := r.length.symm
    have c0 : (decide (k < -(2 ^ 63)) || decide (k ≥ 2 ^ 63)) = false := by
      rw [decide_eq_false (by omega), decide_eq_false (by omega)] <;> rfl
    by_cases he : xs = [] ∨ k = 1
    · have c1 : (its.toArray.isEmpty || k == 1) = true := by
        rcases he with e | e
        · have : its = [] := by
            rw [e] at hle
            exact List.eq_nil_of_length_eq_zero hle
          rw [this]
          rfl
        · rw [e]
          simp
      have ex : xs = (List.replicate k.toNat xs).flatten := by
        rcases he with e | e
        · rw [e]
          simp
        · rw [e]
          simp
      refine wpAny_binaryOp_repeat_ref (T := "tuple") (U := "int") (by decide) ⟨_, ho, rfl⟩ (fun s' => typeIs_int s' k t) noFill_tuple_mul F.fills_int_mul F.slot_int_rmul repeat_tuple F.slot_int_index.lookup
        (call_meets F.slot_int_rmul (typeIs_int s k t) F.entry_int_rmul (F.args_int_rmul_2 _ _) (int_rmul_tuple k t l its.toArray n dd sl)
          ⟨ho, rfl, ⟨_, ho, rfl⟩, call_meets F.slot_tuple_mul ⟨_, ho, rfl⟩ F.entry_tuple_mul (F.args_tuple_mul_2 _ _) (mul_self l its.toArray n dd sl k t c0 c1) ⟨ho, ?_⟩⟩)
      exact ⟨.ref l, H, I, rfl, q.old hT ex⟩
    · have hx : xs ≠ [] := fun e => he (.inl e)
      have h1 : k ≠ 1 := fun e => he (.inr e)
      have h0 : k = 0 := by
        rcases hn with e | e
        · exact absurd e hx
        · omega
      have hi : its.toArray.isEmpty = false := by
        cases its with
        | nil =>
          exact absurd (List.eq_nil_of_length_eq_zero hle.symm) hx
        | cons a b => rfl
      have c1 : (its.toArray.isEmpty || k == 1) = false := by
        rw [hi, h0]
        rfl
      have c2 : (decide (k ≤ 0) || its.toArray.isEmpty) = true := by
        rw [h0]
        rfl
      have ex : (List.replicate k.toNat xs).flatten = [] := by
        rw [h0]
        rfl
      rw [ex] at q
      refine wpAny_binaryOp_repeat_ref (T := "tuple") (U := "int") (by decide) ⟨_, ho, rfl⟩ (fun s' => typeIs_int s' k t) noFill_tuple_mul F.fills_int_mul F.slot_int_rmul repeat_tuple F.slot_int_index.lookup
        (call_meets F.slot_int_rmul (typeIs_int s k t) F.entry_int_rmul (F.args_int_rmul_2 _ _) (int_rmul_tuple k t l its.toArray n dd sl)
          ⟨ho, rfl, ⟨_, ho, rfl⟩, call_meets F.slot_tuple_mul ⟨_, ho, rfl⟩ F.entry_tuple_mul (F.args_tuple_mul_2 _ _) (mul_none l its.toArray n dd sl k t c0 c1 c2) ⟨ho, ?_⟩⟩)
      refine ⟨.ref s.heap.objs.size, _, I.laid (t' := s.toks) (o := .tup []) (fun b ob z => Heap.get?_push_of_some _ z) (Nat.le_refl _) ?_, rfl, q.new (I.hok.fresh (Nat.le_refl _))⟩
      exact ⟨Nat.zero_le _, [], .nil, IsTup.new _ _⟩
  · exact op_repT pins s σ H _ _ v u Q I rx ry ⟨l, k, xs, rfl, rfl, hT, fun e => hn (.inl e), by omega, k1, few, fun p z => q.new z⟩
/-- as rRepU, for more -/
def rRepV (K : PySem.W.Frag) : R2 := fun x y H Q => ∃ l k xs, x = .ref l ∧ y = .int k ∧ SqT K H l xs ∧ 0 ≤ k ∧ k ≤ 1000000 ∧ (xs.length : Int) * k ≤ 1000000 ∧ Tups K H (List.replicate k.toNat xs).flatten Q
theorem op_repV : OpR X (binaryOp .Mult) (rRepV X.K) := by
  intro pins s σ H x y v u Q I rx ry h
  obtain ⟨l, k, xs, rfl, rfl, hT, k0, k1, few, q⟩ := h
  by_cases sm : k ≤ 1000 ∧ xs.length ≤ 1000
  · exact op_repU pins s σ H _ _ v u Q I rx ry ⟨l, k, xs, rfl, rfl, hT, k0, sm.1, sm.2, q⟩
  · by_cases hn : xs = [] ∨ k < 2
    · rcases hn with e | e
      · subst e
        cases rx
        obtain ⟨t, rfl⟩ := ry
        obtain ⟨its, r, ⟨⟨cls, dd, data, sl⟩, ho, hc, n, hd⟩, hs⟩ := I.tuple hT
        simp only at hc hd
        subst hc hd
        have e0 : its = [] := List.eq_nil_of_length_eq_zero r.length.symm
        have c0 : (decide (k < -(2 ^ 63)) || decide (k ≥ 2 ^ 63)) = false := by
          rw [decide_eq_false (by omega), decide_eq_false (by omega)] <;> rfl
        have c1 : (its.toArray.isEmpty || k == 1) = true := by rw [e0]; rfl
        refine wpAny_binaryOp_repeat_ref (T := "tuple") (U := "int") (by decide) ⟨_, ho, rfl⟩ (fun s' => typeIs_int s' k t) noFill_tuple_mul F.fills_int_mul F.slot_int_rmul repeat_tuple F.slot_int_index.lookup
          (call_meets F.slot_int_rmul (typeIs_int s k t) F.entry_int_rmul (F.args_int_rmul_2 _ _) (int_rmul_tuple k t l its.toArray n dd sl)
            ⟨ho, rfl, ⟨_, ho, rfl⟩, call_meets F.slot_tuple_mul ⟨_, ho, rfl⟩ F.entry_tuple_mul (F.args_tuple_mul_2 _ _) (mul_self l its.toArray n dd sl k t c0 c1) ⟨ho, ?_⟩⟩)
        exact ⟨.ref l, H, I, rfl, q.old hT (by simp)⟩
      · have lx : 1000 < xs.length := by omega
        have hk : k = 0 ∨ k = 1 := by omega
        cases rx
        obtain ⟨t, rfl⟩ := ry
        obtain ⟨its, r, ⟨⟨cls, dd, data, sl⟩, ho, hc, n, hd⟩, hs⟩ := I.tuple hT
        simp only at hc hd
        subst hc hd
        have hle : its.length = xs.length := r.length.symm
        have c0 : (decide (k < -(2 ^ 63)) || decide (k ≥ 2 ^ 63)) = false := by
          rw [decide_eq_false (by omega), decide_eq_false (by omega)] <;> rfl
        have hi : its.toArray.isEmpty = false := by
          cases its with
          | nil =>
            have : xs.length = 0 := hle.symm
            omega
          | cons a b => rfl
        rcases hk with rfl | rfl
        · refine wpAny_binaryOp_repeat_ref (T := "tuple") (U := "int") (by decide) ⟨_, ho, rfl⟩ (fun s' => typeIs_int s' 0 t) noFill_tuple_mul F.fills_int_mul F.slot_int_rmul repeat_tuple F.slot_int_index.lookup
            (call_meets F.slot_int_rmul (typeIs_int s 0 t) F.entry_int_rmul (F.args_int_rmul_2 _ _) (int_rmul_tuple 0 t l its.toArray n dd sl)
              ⟨ho, rfl, ⟨_, ho, rfl⟩, call_meets F.slot_tuple_mul ⟨_, ho, rfl⟩ F.entry_tuple_mul (F.args_tuple_mul_2 _ _) (mul_none l its.toArray n dd sl 0 t c0 (by rw [hi]; rfl) rfl) ⟨ho, ?_⟩⟩)
          refine ⟨.ref s.heap.objs.size, _, I.laid (t' := s.toks) (o := .tup []) (fun b ob z => Heap.get?_push_of_some _ z) (Nat.le_refl _) ?_, rfl, Tups.new (xs := []) q (I.hok.fresh (Nat.le_refl _))⟩
          exact ⟨Nat.zero_le _, [], .nil, IsTup.new _ _⟩
        · refine wpAny_binaryOp_repeat_ref (T := "tuple") (U := "int") (by decide) ⟨_, ho, rfl⟩ (fun s' => typeIs_int s' 1 t) noFill_tuple_mul F.fills_int_mul F.slot_int_rmul repeat_tuple F.slot_int_index.lookup
            (call_meets F.slot_int_rmul (typeIs_int s 1 t) F.entry_int_rmul (F.args_int_rmul_2 _ _) (int_rmul_tuple 1 t l its.toArray n dd sl)
              ⟨ho, rfl, ⟨_, ho, rfl⟩, call_meets F.slot_tuple_mul ⟨_, ho, rfl⟩ F.entry_tuple_mul (F.args_tuple_mul_2 _ _) (mul_self l its.toArray n dd sl 1 t c0 (by rw [hi]; rfl)) ⟨ho, ?_⟩⟩)
          exact ⟨.ref l, H, I, rfl, q.old hT (by simp)⟩
    · have k2 : 2 ≤ k := by omega
      have hx : xs ≠ [] := fun e => hn (.inl e)
      cases rx
      obtain ⟨t, rfl⟩ := ry
      obtain ⟨its, r, ⟨⟨cls, dd, data, sl⟩, ho, hc, n, hd⟩, hs⟩ := I.tuple hT
      simp only at hc hd
      subst hc hd
      have hle : its.length = xs.length := r.length.symm
      have hi : its.toArray.isEmpty = false := by
        cases its with
        | nil => exact absurd (List.eq_nil_of_length_eq_zero hle.symm) hx
        | cons a b => rfl
      have hsz0 : its.toArray.size = xs.length := by rw [List.size_toArray, hle]
      have flenN : k.toNat * xs.length ≤ 1000000 := by
        have e : ((k.toNat * xs.length : Nat) : Int) = (xs.length : Int) * k := by
          rw [Int.natCast_mul, Int.toNat_of_nonneg k0, Int.mul_comm]
        omega
      have hm : ((its.toArray.size : Nat) : Int) * k ≤ 1000000 := by rw [hsz0]; exact few
      have flen : (List.replicate k.toNat its).flatten.length ≤ sizeLine := by
        rw [PyProof.Rows.lm_len_rep_flat, hle, sizeLine_eq]
        omega
      have c0 : (decide (k < -(2 ^ 63)) || decide (k ≥ 2 ^ 63)) = false := by
        rw [decide_eq_false (by omega), decide_eq_false (by omega)] <;> rfl
      have c1 : (its.toArray.isEmpty || k == 1) = false := by
        rw [hi, Bool.false_or]
        exact beq_eq_false_iff_ne.mpr (by omega)
      have c2 : (decide (k ≤ 0) || its.toArray.isEmpty) = false := by
        rw [hi, Bool.or_false]
        exact decide_eq_false (by omega)
      have c4 : Builtin.Tuple.tupleTooMany (((its.toArray.size : Nat) : Int) * k) = false := by
        unfold Builtin.Tuple.tupleTooMany
        rw [sizeLine_eq]
        exact decide_eq_false (by omega)
      refine wpAny_binaryOp_repeat_ref (T := "tuple") (U := "int") (by decide) ⟨_, ho, rfl⟩ (fun s' => typeIs_int s' k t) noFill_tuple_mul F.fills_int_mul F.slot_int_rmul repeat_tuple F.slot_int_index.lookup
        (call_meets F.slot_int_rmul (typeIs_int s k t) F.entry_int_rmul (F.args_int_rmul_2 _ _) (int_rmul_tuple k t l its.toArray n dd sl)
          ⟨ho, rfl, ⟨_, ho, rfl⟩, call_meets F.slot_tuple_mul ⟨_, ho, rfl⟩ F.entry_tuple_mul (F.args_tuple_mul_2 _ _) (tuple_mulW l its.toArray n dd sl k t c0 c1 c2 (by omega) c4 (by rw [size_rep, List.size_toArray]; exact flen)) ⟨ho, ?_⟩⟩)
      rw [size_rep]
      refine ⟨.ref s.heap.objs.size, _, I.laid (t' := s.toks) (o := .tup (List.replicate k.toNat xs).flatten) (fun b ob z => Heap.get?_push_of_some _ z) (Nat.le_refl _) ?_, rfl, q.new (I.hok.fresh (Nat.le_refl _))⟩
      refine ⟨?_, _, r.rep k.toNat, IsTup.new _ _⟩
      rw [PyProof.Rows.lm_len_rep_flat, sizeLine_eq]
      omega
end
end Fc

namespace Fc
open PySem PySem.Spec L2 PyProof.Rows
/-! ### rules for within a comprehension, where the frag is given by name -/
section
variable {X : Cx} {K : PySem.W.Frag}
theorem ix_listq (hK : X.K = K) : IxR X (rIxL K) := by subst hK; exact ix_list
theorem ix_tupq (hK : X.K = K) : IxR X (rIxT K) := by subst hK; exact ix_tup
theorem sl_listq (hK : X.K = K) : SlR X (rSlL K) := by subst hK; exact sl_list
theorem sl_tupUq (hK : X.K = K) : SlR X (rSlU K) := by subst hK; exact sl_tupU
theorem op_catUq (hK : X.K = K) : OpR X (binaryOp .Add) (rCatU K) := by subst hK; exact op_catU
theorem op_in_seqq (hK : X.K = K) : OpR X (compareOp .In) (rIn K false) := by subst hK; exact op_in_seq
theorem op_notIn_seqq (hK : X.K = K) : OpR X (compareOp .NotIn) (rIn K true) := by subst hK; exact op_notIn_seq
theorem op_eqDq (hK : X.K = K) (hu : X.A.units + 64 < cLine) : OpR X (compareOp .Eq) (rEqD K) := by subst hK; exact op_eqD hu
theorem op_neDq (hK : X.K = K) (hu : X.A.units + 64 < cLine) : OpR X (compareOp .NotEq) (rNeD K) := by subst hK; exact op_neD hu
theorem call_len_seqq (hK : X.K = K) : CallR X (.builtin "len") (fun xs H Q => ∃ p ys, xs = [.ref p] ∧ (SqL K H p ys ∨ SqT K H p ys) ∧ Q (.int ys.length) H) := by subst hK; exact call_len_seq
theorem call_tupleUq (hK : X.K = K) : CallR X (.type "tuple") (fun xs H Q => ∃ p ys, xs = [.ref p] ∧ SqL K H p ys ∧ Tups K H ys Q) := by subst hK; exact call_tupleU
theorem call_isiq (hK : X.K = K) : CallR X (.builtin "isinstance") (rIsi K) := by subst hK; exact call_isi
theorem pe_tupUq (hK : X.K = K) {es : List Expr} {x1 : Nat} {pos : Pos} {t : TA} (h : PA X es t) : PE X (.Tuple es x1 pos) (tTupU K t) := by subst hK; exact pe_tupU h
theorem pe_notTq (hK : X.K = K) {a : Expr} {ta : TE} {pos : Pos} (ha : PE X a ta) : PE X (.UnaryOp .Not a pos) (tNotT K ta) := by subst hK; exact pe_notT ha
def tTru (K : PySem.W.Frag) (ta : TE) : TT := fun σ H Q => ta σ H fun x H' => ∃ k, TruV K x H' k ∧ Q k H'
theorem pt_truthq (hK : X.K = K) {a : Expr} {ta : TE} (ha : PE X a ta) (he : ∀ whole, isTrue a X.env whole = (do let v ← whole; standAt a.pos; holding [v] (truthy v))) :
    PT X a (tTru K ta) := by subst hK; exact pt_truth ha he
theorem pi_listq (hK : X.K = K) {l tg : Expr} {tl : TE} (hl : PE X l tl) : PI X tg l (iList K tl) := by subst hK; exact pi_list hl
theorem pi_tupq (hK : X.K = K) {l tg : Expr} {tl : TE} (hl : PE X l tl) : PI X tg l (iTup K tl) := by subst hK; exact pi_tup hl
theorem pe_joinq (hK : X.K = K) {o e : Expr} {to te : TE} {apos pos : Pos} (ho : PE X o to) (he : PE X e te) (hs : starEach [e] X.env = [(false, eval e X.env)] := by rfl) (hbase : attributeBase o "join" X.env (eval o X.env) = eval o X.env := by rfl) (hline : (apos.endLine == pos.line) = true := by rfl) :
    PE X (.Call (.Attribute o "join" apos) [e] [] pos) (tM1 (fun x xs H Q => ∃ a p, ∃ ys : List Str, x = .str a ∧ xs = [.ref p] ∧ (SqL K H p (ys.map V.str) ∨ SqT K H p (ys.map V.str)) ∧
      (ys.map (·.length)).sum + ys.length * a.length ≤ 16777216 ∧ Q (.str (Txt.join a ys)) H) to te) := by subst hK; exact pe_join ho he hs hbase hline
end
end Fc

namespace Fc
open PySem PySem.Spec L2 PyProof.Rows
/-! ### two rows, one by one -/
inductive Al2 {α β : Type} (R : α → β → Prop) : List α → List β → Prop
  | nil : Al2 R [] []
  | cons {x : α} {y : β} {xs : List α} {ys : List β} (h : R x y) (hs : Al2 R xs ys) : Al2 R (x :: xs) (y :: ys)
theorem Al2.mono {α β : Type} {R S : α → β → Prop} (f : ∀ x y, R x y → S x y) : ∀ {xs : List α} {ys : List β}, Al2 R xs ys → Al2 S xs ys
  | _, _, .nil => .nil
  | _, _, .cons h hs => .cons (f _ _ h) (hs.mono f)
theorem Al2.length {α β : Type} {R : α → β → Prop} : ∀ {xs : List α} {ys : List β}, Al2 R xs ys → ys.length = xs.length
  | _, _, .nil => rfl
  | _, _, .cons _ hs => congrArg (· + 1) hs.length
theorem Al2.snoc {α β : Type} {R : α → β → Prop} {x : α} {y : β} (h : R x y) : ∀ {xs : List α} {ys : List β}, Al2 R xs ys → Al2 R (xs ++ [x]) (ys ++ [y])
  | _, _, .nil => .cons h .nil
  | _, _, .cons k hs => .cons k (hs.snoc h)
theorem Al2.eq_map {α β : Type} {f : α → β} : ∀ {xs : List α} {ys : List β}, Al2 (fun x y => y = f x) xs ys → ys = xs.map f
  | _, _, .nil => rfl
  | _, _, .cons h hs => by rw [List.map_cons, h, hs.eq_map]
theorem Al2.get {α β : Type} {R : α → β → Prop} : ∀ {xs : List α} {ys : List β} {i : Nat} {y : β}, Al2 R xs ys → ys[i]? = some y → ∃ x, xs[i]? = some x ∧ R x y
  | _, _, _, _, .nil, h => by cases h
  | _, _, 0, _, .cons h hs, e => by cases e; exact ⟨_, rfl, h⟩
  | _, _, i + 1, _, .cons h hs, e => hs.get (i := i) e
theorem Al2.mem {α β : Type} {R : α → β → Prop} : ∀ {xs : List α} {ys : List β} {y : β}, Al2 R xs ys → y ∈ ys → ∃ x ∈ xs, R x y
  | _, _, _, .nil, h => by cases h
  | _, _, _, .cons h hs, e => by
    rcases List.mem_cons.mp e with rfl | e
    · exact ⟨_, List.mem_cons_self .., h⟩
    · obtain ⟨x, hx, r⟩ := hs.mem e
      exact ⟨x, List.mem_cons_of_mem _ hx, r⟩
theorem take_filter {α : Type} {xs : List α} {i : Nat} {x : α} (keep : α → Bool) (h : xs[i]? = some x) : (xs.take (i + 1)).filter keep = (xs.take i).filter keep ++ (if keep x = true then [x] else []) := by
  rw [List.take_add_one, h, Option.toList_some, List.filter_append]
  congr 1
  by_cases k : keep x = true
  · rw [if_pos k, List.filter_cons_of_pos k]; rfl
  · rw [if_neg k, List.filter_cons_of_neg k]; rfl
/-! ### [e for x in xs if test]: which are kept, and what holds of the items -/
section
variable {xs : List V} {keep : V → Bool} {G : V → V → Hp → Prop} {tt : TT} {te : TE} {vs : List Nat} {σ : L2.St} {H1 : Hp} {D : Addr} {j : Nat} {Qd : Hp → Prop}
def LcP (xs : List V) (keep : V → Bool) (G : V → V → Hp → Prop) (H1 : Hp) (D : Addr) (i : Nat) (H : Hp) : Prop := Same H1 H ∧ ∃ ys, H D = some (.lst ys) ∧ Al2 (fun x y => G x y H) ((xs.take i).filter keep) ys
theorem lcp_step (nD : H1 D = none) (hz : xs.length ≤ sizeLine) (gk : ∀ x y H H', Same H H' → G x y H → G x y H') (gu : ∀ x y H ys zs, H D = some (.lst ys) → G x y H → G x y (upd H D (.lst zs)))
    (test : ∀ (i : Nat) (x : V) (H : Hp) (R : Bool → Hp → Prop), xs[i]? = some x → Same H1 H → (∀ H', Same H H' → R (keep x) H') → tt ((wipe σ vs).set j (some x)) H R)
    (item : ∀ (i : Nat) (x : V) (H : Hp) (R : V → Hp → Prop), xs[i]? = some x → keep x = true → Same H1 H → (∀ y H', Same H H' → G x y H' → R y H') → te ((wipe σ vs).set j (some x)) H R)
    {i : Nat} {x : V} {H : Hp} (hx : xs[i]? = some x) (p : LcP xs keep G H1 D i H) : tt ((wipe σ vs).set j (some x)) H fun b H3 =>
      if b = true then te ((wipe σ vs).set j (some x)) H3 fun y H4 => ∃ acc, H4 D = some (.lst acc) ∧ acc.length < sizeLine ∧ LcP xs keep G H1 D (i + 1) (upd H4 D (.lst (acc ++ [y]))) else LcP xs keep G H1 D (i + 1) H3 := by
  have hi : i < xs.length := (List.getElem?_eq_some_iff.mp hx).1
  obtain ⟨sm, ys, hD, al⟩ := p
  refine test i x H _ hx sm fun H3 s3 => ?_
  by_cases k : keep x = true
  · rw [if_pos k]
    refine item i x H3 _ hx k (sm.trans s3) fun y H4 s4 gy => ⟨ys, s4 _ _ (s3 _ _ hD), ?_, ?_, ys ++ [y], upd_same, ?_⟩
    · have := al.length
      have l2 := List.length_filter_le keep (xs.take i)
      rw [List.length_take] at l2
      omega
    · exact (sm.trans (s3.trans s4)).over nD
    · rw [take_filter keep hx, if_pos k]
      have hD4 := s4 _ _ (s3 _ _ hD)
      have al2 : Al2 (fun u v => G u v (upd H4 D (.lst (ys ++ [y])))) ((xs.take i).filter keep) ys := al.mono fun u v g => gu _ _ _ _ _ hD4 (gk _ _ _ _ (s3.trans s4) g)
      exact Al2.snoc (R := fun u v => G u v (upd H4 D (.lst (ys ++ [y])))) (gu _ _ _ _ _ hD4 gy) al2
  · rw [if_neg k]
    refine ⟨sm.trans s3, ys, s3 _ _ hD, ?_⟩
    rw [take_filter keep hx, if_neg k, List.append_nil]
    exact al.mono fun u v g => gk _ _ _ _ s3 g
theorem lcG_list {K : PySem.W.Frag} {a : Addr} (nD : H1 D = none) (hs : SqL K H1 a xs) (hz : xs.length ≤ sizeLine) (hw : ∀ x, wipe ((wipe σ vs).set j (some x)) vs = wipe σ vs)
    (gk : ∀ x y H H', Same H H' → G x y H → G x y H') (gu : ∀ x y H ys zs, H D = some (.lst ys) → G x y H → G x y (upd H D (.lst zs)))
    (test : ∀ (i : Nat) (x : V) (H : Hp) (R : Bool → Hp → Prop), xs[i]? = some x → Same H1 H → (∀ H', Same H H' → R (keep x) H') → tt ((wipe σ vs).set j (some x)) H R)
    (item : ∀ (i : Nat) (x : V) (H : Hp) (R : V → Hp → Prop), xs[i]? = some x → keep x = true → Same H1 H → (∀ y H', Same H H' → G x y H' → R y H') → te ((wipe σ vs).set j (some x)) H R)
    (hd : ∀ ys H', Al2 (fun x y => G x y H') (xs.filter keep) ys → Same H1 H' → H' D = some (.lst ys) → Qd H') :
    ∃ W : Nat → Nat → Hp → Prop, (∃ m, W 0 m (upd H1 D (.lst []))) ∧ ∀ i m H, W i m H →
      ((Itl K a).stop i H ∧ Qd H) ∨ ((Itl K a).go i H ∧ ∃ Nx : Hp → Prop, (∀ H', Nx H' → ∃ m', m' < m ∧ W (i + 1) m' H') ∧ ∀ x H', (Itl K a).yld i H x H' → gName j x (wipe σ vs) H' fun σ2 H2 => wipe σ2 vs = wipe σ vs ∧ tt σ2 H2 fun b H3 =>
        if b = true then te σ2 H3 fun y H4 => ∃ acc, H4 D = some (.lst acc) ∧ acc.length < sizeLine ∧ Nx (upd H4 D (.lst (acc ++ [y]))) else Nx H3) := by
  refine lc_list (xs := xs) (LcP xs keep G H1 D) ⟨grow nD, [], upd_same, .nil⟩ (fun i H _ p => p.1.seq hs) (fun i x H hx p => ⟨hw x, lcp_step nD hz gk gu test item hx p⟩) (fun H p => ?_)
  obtain ⟨sm, ys, hD, al⟩ := p
  rw [List.take_length] at al
  exact hd ys H al sm hD
theorem lcG_tup {K : PySem.W.Frag} {a : Addr} (nD : H1 D = none) (hs : SqT K H1 a xs) (hz : xs.length ≤ sizeLine) (hw : ∀ x, wipe ((wipe σ vs).set j (some x)) vs = wipe σ vs)
    (gk : ∀ x y H H', Same H H' → G x y H → G x y H') (gu : ∀ x y H ys zs, H D = some (.lst ys) → G x y H → G x y (upd H D (.lst zs)))
    (test : ∀ (i : Nat) (x : V) (H : Hp) (R : Bool → Hp → Prop), xs[i]? = some x → Same H1 H → (∀ H', Same H H' → R (keep x) H') → tt ((wipe σ vs).set j (some x)) H R)
    (item : ∀ (i : Nat) (x : V) (H : Hp) (R : V → Hp → Prop), xs[i]? = some x → keep x = true → Same H1 H → (∀ y H', Same H H' → G x y H' → R y H') → te ((wipe σ vs).set j (some x)) H R)
    (hd : ∀ ys H', Al2 (fun x y => G x y H') (xs.filter keep) ys → Same H1 H' → H' D = some (.lst ys) → Qd H') :
    ∃ W : Nat → Nat → Hp → Prop, (∃ m, W 0 m (upd H1 D (.lst []))) ∧ ∀ i m H, W i m H →
      ((Itt K a).stop i H ∧ Qd H) ∨ ((Itt K a).go i H ∧ ∃ Nx : Hp → Prop, (∀ H', Nx H' → ∃ m', m' < m ∧ W (i + 1) m' H') ∧ ∀ x H', (Itt K a).yld i H x H' → gName j x (wipe σ vs) H' fun σ2 H2 => wipe σ2 vs = wipe σ vs ∧ tt σ2 H2 fun b H3 =>
        if b = true then te σ2 H3 fun y H4 => ∃ acc, H4 D = some (.lst acc) ∧ acc.length < sizeLine ∧ Nx (upd H4 D (.lst (acc ++ [y]))) else Nx H3) := by
  refine ⟨fun i m H => m = xs.length - i ∧ i ≤ xs.length ∧ LcP xs keep G H1 D i H, ⟨xs.length, rfl, Nat.zero_le _, grow nD, [], upd_same, .nil⟩, ?_⟩
  rintro i m H ⟨rfl, hi, p⟩
  have q := keepT p.1 hs
  by_cases lt : i < xs.length
  · refine .inr ⟨⟨xs, xs[i], q, List.getElem?_eq_getElem lt⟩, LcP xs keep G H1 D (i + 1), fun H' p' => ⟨xs.length - (i + 1), by omega, rfl, lt, p'⟩, fun x H' y => ?_⟩
    obtain ⟨e, y⟩ := y
    subst e
    exact ⟨hw x, lcp_step nD hz gk gu test item (y xs q) p⟩
  · have e : i = xs.length := by omega
    subst e
    obtain ⟨sm, ys, hD, al⟩ := p
    rw [List.take_length] at al
    exact .inl ⟨⟨xs, q, Nat.le_refl _⟩, hd ys H al sm hD⟩
theorem lcG_rng {lo : Int} {n : Nat} (nD : H1 D = none) (hz : n ≤ sizeLine) (ex : xs = (List.range n).map fun i => V.int (lo + (i : Nat))) (hw : ∀ x, wipe ((wipe σ vs).set j (some x)) vs = wipe σ vs)
    (gk : ∀ x y H H', Same H H' → G x y H → G x y H') (gu : ∀ x y H ys zs, H D = some (.lst ys) → G x y H → G x y (upd H D (.lst zs)))
    (test : ∀ (i : Nat) (x : V) (H : Hp) (R : Bool → Hp → Prop), xs[i]? = some x → Same H1 H → (∀ H', Same H H' → R (keep x) H') → tt ((wipe σ vs).set j (some x)) H R)
    (item : ∀ (i : Nat) (x : V) (H : Hp) (R : V → Hp → Prop), xs[i]? = some x → keep x = true → Same H1 H → (∀ y H', Same H H' → G x y H' → R y H') → te ((wipe σ vs).set j (some x)) H R)
    (hd : ∀ ys H', Al2 (fun x y => G x y H') (xs.filter keep) ys → Same H1 H' → H' D = some (.lst ys) → Qd H') :
    ∃ W : Nat → Nat → Hp → Prop, (∃ m, W 0 m (upd H1 D (.lst []))) ∧ ∀ i m H, W i m H →
      ((Itr lo n).stop i H ∧ Qd H) ∨ ((Itr lo n).go i H ∧ ∃ Nx : Hp → Prop, (∀ H', Nx H' → ∃ m', m' < m ∧ W (i + 1) m' H') ∧ ∀ x H', (Itr lo n).yld i H x H' → gName j x (wipe σ vs) H' fun σ2 H2 => wipe σ2 vs = wipe σ vs ∧ tt σ2 H2 fun b H3 =>
        if b = true then te σ2 H3 fun y H4 => ∃ acc, H4 D = some (.lst acc) ∧ acc.length < sizeLine ∧ Nx (upd H4 D (.lst (acc ++ [y]))) else Nx H3) := by
  have lx : xs.length = n := by rw [ex, List.length_map, List.length_range]
  refine lc_range (LcP xs keep G H1 D) ⟨grow nD, [], upd_same, .nil⟩ (fun i H hi p => ⟨hw _, lcp_step nD (by omega) gk gu test item (i := i) ?_ p⟩) (fun H p => ?_)
  · rw [ex, List.getElem?_map, List.getElem?_range hi]
    rfl
  · obtain ⟨sm, ys, hD, al⟩ := p
    rw [← lx, List.take_length] at al
    exact hd ys H al sm hD
/-! ### the same, its items told by a row -/
theorem lcF_list {K : PySem.W.Frag} {a : Addr} (f : V → V) (nD : H1 D = none) (hs : SqL K H1 a xs) (hz : xs.length ≤ sizeLine) (hw : ∀ x, wipe ((wipe σ vs).set j (some x)) vs = wipe σ vs)
    (test : ∀ (i : Nat) (x : V) (H : Hp) (R : Bool → Hp → Prop), xs[i]? = some x → Same H1 H → (∀ H', Same H H' → R (keep x) H') → tt ((wipe σ vs).set j (some x)) H R)
    (item : ∀ (i : Nat) (x : V) (H : Hp) (R : V → Hp → Prop), xs[i]? = some x → keep x = true → Same H1 H → (∀ H', Same H H' → R (f x) H') → te ((wipe σ vs).set j (some x)) H R)
    (hd : ∀ H', Same H1 H' → H' D = some (.lst ((xs.filter keep).map f)) → Qd H') :
    ∃ W : Nat → Nat → Hp → Prop, (∃ m, W 0 m (upd H1 D (.lst []))) ∧ ∀ i m H, W i m H →
      ((Itl K a).stop i H ∧ Qd H) ∨ ((Itl K a).go i H ∧ ∃ Nx : Hp → Prop, (∀ H', Nx H' → ∃ m', m' < m ∧ W (i + 1) m' H') ∧ ∀ x H', (Itl K a).yld i H x H' → gName j x (wipe σ vs) H' fun σ2 H2 => wipe σ2 vs = wipe σ vs ∧ tt σ2 H2 fun b H3 =>
        if b = true then te σ2 H3 fun y H4 => ∃ acc, H4 D = some (.lst acc) ∧ acc.length < sizeLine ∧ Nx (upd H4 D (.lst (acc ++ [y]))) else Nx H3) :=
  lcG_list (G := fun x y _ => y = f x) nD hs hz hw (fun _ _ _ _ _ h => h) (fun _ _ _ _ _ _ h => h) test (fun i x H R hx k sm r => item i x H R hx k sm fun H' s => r _ _ s rfl) fun ys H' al sm h => hd H' sm (by rw [← al.eq_map]; exact h)
theorem lcF_tup {K : PySem.W.Frag} {a : Addr} (f : V → V) (nD : H1 D = none) (hs : SqT K H1 a xs) (hz : xs.length ≤ sizeLine) (hw : ∀ x, wipe ((wipe σ vs).set j (some x)) vs = wipe σ vs)
    (test : ∀ (i : Nat) (x : V) (H : Hp) (R : Bool → Hp → Prop), xs[i]? = some x → Same H1 H → (∀ H', Same H H' → R (keep x) H') → tt ((wipe σ vs).set j (some x)) H R)
    (item : ∀ (i : Nat) (x : V) (H : Hp) (R : V → Hp → Prop), xs[i]? = some x → keep x = true → Same H1 H → (∀ H', Same H H' → R (f x) H') → te ((wipe σ vs).set j (some x)) H R)
    (hd : ∀ H', Same H1 H' → H' D = some (.lst ((xs.filter keep).map f)) → Qd H') :
    ∃ W : Nat → Nat → Hp → Prop, (∃ m, W 0 m (upd H1 D (.lst []))) ∧ ∀ i m H, W i m H →
      ((Itt K a).stop i H ∧ Qd H) ∨ ((Itt K a).go i H ∧ ∃ Nx : Hp → Prop, (∀ H', Nx H' → ∃ m', m' < m ∧ W (i + 1) m' H') ∧ ∀ x H', (Itt K a).yld i H x H' → gName j x (wipe σ vs) H' fun σ2 H2 => wipe σ2 vs = wipe σ vs ∧ tt σ2 H2 fun b H3 =>
        if b = true then te σ2 H3 fun y H4 => ∃ acc, H4 D = some (.lst acc) ∧ acc.length < sizeLine ∧ Nx (upd H4 D (.lst (acc ++ [y]))) else Nx H3) :=
  lcG_tup (G := fun x y _ => y = f x) nD hs hz hw (fun _ _ _ _ _ h => h) (fun _ _ _ _ _ _ h => h) test (fun i x H R hx k sm r => item i x H R hx k sm fun H' s => r _ _ s rfl) fun ys H' al sm h => hd H' sm (by rw [← al.eq_map]; exact h)
end
/-! ### the same over a row that is known by another one -/
section
variable {α : Type} {es : List α} {xs : List V} {keep : α → Bool} {G : α → V → Hp → Prop} {tt : TT} {te : TE} {vs : List Nat} {σ : L2.St} {H1 : Hp} {D : Addr} {j : Nat} {Qd : Hp → Prop}
def LcE (es : List α) (keep : α → Bool) (G : α → V → Hp → Prop) (H1 : Hp) (D : Addr) (i : Nat) (H : Hp) : Prop := Same H1 H ∧ ∃ ys, H D = some (.lst ys) ∧ Al2 (fun e y => G e y H) ((es.take i).filter keep) ys
theorem lce_step (lx : es.length = xs.length) (nD : H1 D = none) (hz : xs.length ≤ sizeLine) (gk : ∀ e y H H', Same H H' → G e y H → G e y H') (gu : ∀ e y H ys zs, e ∈ es → H D = some (.lst ys) → G e y H → G e y (upd H D (.lst zs)))
    (test : ∀ (i : Nat) (e : α) (x : V) (H : Hp) (R : Bool → Hp → Prop), es[i]? = some e → xs[i]? = some x → Same H1 H → (∀ H', Same H H' → R (keep e) H') → tt ((wipe σ vs).set j (some x)) H R)
    (item : ∀ (i : Nat) (e : α) (x : V) (H : Hp) (R : V → Hp → Prop), es[i]? = some e → xs[i]? = some x → keep e = true → Same H1 H → (∀ y H', Same H H' → G e y H' → R y H') → te ((wipe σ vs).set j (some x)) H R)
    {i : Nat} {x : V} {H : Hp} (hx : xs[i]? = some x) (p : LcE es keep G H1 D i H) : tt ((wipe σ vs).set j (some x)) H fun b H3 =>
      if b = true then te ((wipe σ vs).set j (some x)) H3 fun y H4 => ∃ acc, H4 D = some (.lst acc) ∧ acc.length < sizeLine ∧ LcE es keep G H1 D (i + 1) (upd H4 D (.lst (acc ++ [y]))) else LcE es keep G H1 D (i + 1) H3 := by
  have hi : i < xs.length := (List.getElem?_eq_some_iff.mp hx).1
  obtain ⟨e, he⟩ : ∃ e, es[i]? = some e := ⟨_, List.getElem?_eq_getElem (by omega)⟩
  obtain ⟨sm, ys, hD, al⟩ := p
  refine test i e x H _ he hx sm fun H3 s3 => ?_
  by_cases k : keep e = true
  · rw [if_pos k]
    refine item i e x H3 _ he hx k (sm.trans s3) fun y H4 s4 gy => ⟨ys, s4 _ _ (s3 _ _ hD), ?_, ?_, ys ++ [y], upd_same, ?_⟩
    · have := al.length
      have l2 := List.length_filter_le keep (es.take i)
      rw [List.length_take] at l2
      omega
    · exact (sm.trans (s3.trans s4)).over nD
    · rw [take_filter keep he, if_pos k]
      have hD4 := s4 _ _ (s3 _ _ hD)
      have mem : ∀ u ∈ (es.take i).filter keep, u ∈ es := fun u hu => (List.take_sublist _ _).mem (List.mem_filter.mp hu).1
      have al2 : Al2 (fun u v => G u v (upd H4 D (.lst (ys ++ [y])))) ((es.take i).filter keep) ys := by
        clear hi he
        revert mem
        generalize (es.take i).filter keep = us at al
        intro mem
        have go : ∀ {us : List α} {ys' : List V}, Al2 (fun e y => G e y H) us ys' → (∀ u ∈ us, u ∈ es) → Al2 (fun u v => G u v (upd H4 D (.lst (ys ++ [y])))) us ys' := by
          intro us ys' al
          induction al with
          | nil => exact fun _ => .nil
          | cons h _ ih => exact fun mem => .cons (gu _ _ _ _ _ (mem _ (by simp)) hD4 (gk _ _ _ _ (s3.trans s4) h)) (ih fun u hu => mem u (List.mem_cons_of_mem _ hu))
        exact go al mem
      exact Al2.snoc (R := fun u v => G u v (upd H4 D (.lst (ys ++ [y])))) (gu _ _ _ _ _ (List.mem_of_getElem? he) hD4 gy) al2
  · rw [if_neg k]
    refine ⟨sm.trans s3, ys, s3 _ _ hD, ?_⟩
    rw [take_filter keep he, if_neg k, List.append_nil]
    exact al.mono fun u v g => gk _ _ _ _ s3 g
theorem lcE_list {K : PySem.W.Frag} {a : Addr} (lx : es.length = xs.length) (nD : H1 D = none) (hs : SqL K H1 a xs) (hz : xs.length ≤ sizeLine) (hw : ∀ x, wipe ((wipe σ vs).set j (some x)) vs = wipe σ vs)
    (gk : ∀ e y H H', Same H H' → G e y H → G e y H') (gu : ∀ e y H ys zs, e ∈ es → H D = some (.lst ys) → G e y H → G e y (upd H D (.lst zs)))
    (test : ∀ (i : Nat) (e : α) (x : V) (H : Hp) (R : Bool → Hp → Prop), es[i]? = some e → xs[i]? = some x → Same H1 H → (∀ H', Same H H' → R (keep e) H') → tt ((wipe σ vs).set j (some x)) H R)
    (item : ∀ (i : Nat) (e : α) (x : V) (H : Hp) (R : V → Hp → Prop), es[i]? = some e → xs[i]? = some x → keep e = true → Same H1 H → (∀ y H', Same H H' → G e y H' → R y H') → te ((wipe σ vs).set j (some x)) H R)
    (hd : ∀ ys H', Al2 (fun e y => G e y H') (es.filter keep) ys → Same H1 H' → H' D = some (.lst ys) → Qd H') :
    ∃ W : Nat → Nat → Hp → Prop, (∃ m, W 0 m (upd H1 D (.lst []))) ∧ ∀ i m H, W i m H →
      ((Itl K a).stop i H ∧ Qd H) ∨ ((Itl K a).go i H ∧ ∃ Nx : Hp → Prop, (∀ H', Nx H' → ∃ m', m' < m ∧ W (i + 1) m' H') ∧ ∀ x H', (Itl K a).yld i H x H' → gName j x (wipe σ vs) H' fun σ2 H2 => wipe σ2 vs = wipe σ vs ∧ tt σ2 H2 fun b H3 =>
        if b = true then te σ2 H3 fun y H4 => ∃ acc, H4 D = some (.lst acc) ∧ acc.length < sizeLine ∧ Nx (upd H4 D (.lst (acc ++ [y]))) else Nx H3) := by
  refine lc_list (xs := xs) (LcE es keep G H1 D) ⟨grow nD, [], upd_same, .nil⟩ (fun i H _ p => p.1.seq hs) (fun i x H hx p => ⟨hw x, lce_step lx nD hz gk gu test item hx p⟩) (fun H p => ?_)
  obtain ⟨sm, ys, hD, al⟩ := p
  rw [← lx, List.take_length] at al
  exact hd ys H al sm hD
theorem lcE_tup {K : PySem.W.Frag} {a : Addr} (lx : es.length = xs.length) (nD : H1 D = none) (hs : SqT K H1 a xs) (hz : xs.length ≤ sizeLine) (hw : ∀ x, wipe ((wipe σ vs).set j (some x)) vs = wipe σ vs)
    (gk : ∀ e y H H', Same H H' → G e y H → G e y H') (gu : ∀ e y H ys zs, e ∈ es → H D = some (.lst ys) → G e y H → G e y (upd H D (.lst zs)))
    (test : ∀ (i : Nat) (e : α) (x : V) (H : Hp) (R : Bool → Hp → Prop), es[i]? = some e → xs[i]? = some x → Same H1 H → (∀ H', Same H H' → R (keep e) H') → tt ((wipe σ vs).set j (some x)) H R)
    (item : ∀ (i : Nat) (e : α) (x : V) (H : Hp) (R : V → Hp → Prop), es[i]? = some e → xs[i]? = some x → keep e = true → Same H1 H → (∀ y H', Same H H' → G e y H' → R y H') → te ((wipe σ vs).set j (some x)) H R)
    (hd : ∀ ys H', Al2 (fun e y => G e y H') (es.filter keep) ys → Same H1 H' → H' D = some (.lst ys) → Qd H') :
    ∃ W : Nat → Nat → Hp → Prop, (∃ m, W 0 m (upd H1 D (.lst []))) ∧ ∀ i m H, W i m H →
      ((Itt K a).stop i H ∧ Qd H) ∨ ((Itt K a).go i H ∧ ∃ Nx : Hp → Prop, (∀ H', Nx H' → ∃ m', m' < m ∧ W (i + 1) m' H') ∧ ∀ x H', (Itt K a).yld i H x H' → gName j x (wipe σ vs) H' fun σ2 H2 => wipe σ2 vs = wipe σ vs ∧ tt σ2 H2 fun b H3 =>
        if b = true then te σ2 H3 fun y H4 => ∃ acc, H4 D = some (.lst acc) ∧ acc.length < sizeLine ∧ Nx (upd H4 D (.lst (acc ++ [y]))) else Nx H3) := by
  refine lc_tup (xs := xs) (LcE es keep G H1 D) ⟨grow nD, [], upd_same, .nil⟩ (fun i H _ p => keepT p.1 hs) (fun i x H hx p => ⟨hw x, lce_step lx nD hz gk gu test item hx p⟩) (fun H p => ?_)
  obtain ⟨sm, ys, hD, al⟩ := p
  rw [← lx, List.take_length] at al
  exact hd ys H al sm hD
end
theorem Al2.at {α β : Type} {R : α → β → Prop} : ∀ {xs : List α} {ys : List β} {i : Nat} {x : α} {y : β}, Al2 R xs ys → xs[i]? = some x → ys[i]? = some y → R x y
  | _, _, _, _, _, .nil, h, _ => by cases h
  | _, _, 0, _, _, .cons h hs, e, k => by cases e; cases k; exact h
  | _, _, i + 1, _, _, .cons h hs, e, k => hs.at (i := i) e k
end Fc

namespace Fc
open PySem PySem.Spec L2 PyProof.Rows
theorem t_by {c : TT} {σ : L2.St} {H : Hp} {Q : Bool → Hp → Prop} (PX PY : Prop) (hX : PX → Q true H) (hY : PY → Q false H) (hc : (∀ k : Bool, (k = true → PX) → (k = false → PY) → Q k H) → c σ H Q) : c σ H Q := hc fun k hx hy => by
  cases k with
  | true => exact hX (hx rfl)
  | false => exact hY (hy rfl)
theorem te_by {t : TE} {σ : L2.St} {H : Hp} {Q : VK} (P : V → Hp → Prop) (hQ : ∀ v H', P v H' → Q v H') (h : (∀ v H', P v H' → Q v H') → t σ H Q) : t σ H Q := h hQ
/-! ### the program's clean: told or refused -/
def OutC (K : PySem.W.Frag) (cB cL : Addr) (H : Hp) (Q : VK) (E : XK) : CRes → Prop
  | .bad => ∀ H', Same H H' → E (.ref cB) none H'
  | .out => ∀ H', Same H H' → E (.ref cL) none H'
  | .ok ps => ∀ H', Same H H' → Q (T (pathOf ps)) H'
def spCln (K : PySem.W.Frag) (cB cL : Addr) : Sp := fun vs H Q E => ∃ l : List Nat, vs = [T l] ∧ l.length ≤ 1000 ∧ OutC K cB cL H Q E (cleanF l)
theorem pathOf_len {ps : List (List Nat)} (h : PathOk ps) : (pathOf ps).length ≤ 104 := by
  have := joinC_len 47 ps 12 fun p hp => (h.2.2 p hp).2.1
  have l8 := h.2.1
  unfold pathOf
  omega
/-! ### the way from a folder to a path -/
def strip : List (List Nat) → List (List Nat) → List (List Nat) × List (List Nat)
  | p :: ps, q :: qs => if p = q then strip ps qs else (p :: ps, q :: qs)
  | ps, qs => (ps, qs)
theorem strip_spec : ∀ (fs gs : List (List Nat)), ∃ c, fs = c ++ (strip fs gs).1 ∧ gs = c ++ (strip fs gs).2
  | [], gs => ⟨[], by simp [strip], by simp [strip]⟩
  | p :: ps, [] => ⟨[], by simp [strip], by simp [strip]⟩
  | p :: ps, q :: qs => by
    rw [strip]
    by_cases z : p = q
    · rw [if_pos z]
      obtain ⟨c, e1, e2⟩ := strip_spec ps qs
      exact ⟨p :: c, by rw [List.cons_append, ← e1], by rw [List.cons_append, ← e2, z]⟩
    · rw [if_neg z]
      exact ⟨[], rfl, rfl⟩
def dots : List Nat := [46, 46]
def wayP (a b : List (List Nat)) : List (List Nat) := a.map (fun _ => dots) ++ b
def wayTo (a b : List (List Nat)) : List Nat := if wayP a b = [] then [46] else joinC 47 (wayP a b)
def wayT (fs gs : List (List Nat)) : List Nat := wayTo (strip fs gs).1 (strip fs gs).2
theorem pops (r : List (List Nat)) : ∀ (n : Nat) (k : List (List Nat)), n ≤ k.length → walkC (List.replicate n dots ++ r) k = walkC r (k.take (k.length - n))
  | 0, k, _ => by simp
  | n + 1, k, h => by
    have k0 : k ≠ [] := fun e => by rw [e] at h; simp at h
    rw [List.replicate_succ, List.cons_append, walkC, if_pos (show dots = [46, 46] from rfl), if_neg k0, pops r n k.dropLast (by rw [List.length_dropLast]; omega), List.length_dropLast, List.dropLast_eq_take, List.take_take]
    congr 2
    omega
def FolOk (fs : List (List Nat)) : Prop := fs = [] ∨ PathOk fs
theorem FolOk.parts {fs : List (List Nat)} (h : FolOk fs) : ∀ p ∈ fs, partOk p := by
  rcases h with rfl | h
  · intro p hp; cases hp
  · exact h.2.2
theorem wayP_stroke {a b : List (List Nat)} (hb : ∀ p ∈ b, partOk p) : ∀ p ∈ wayP a b, 47 ∉ p := by
  intro p hp
  rcases List.mem_append.mp hp with hp | hp
  · obtain ⟨q, _, rfl⟩ := List.mem_map.mp hp
    decide
  · exact no_stroke (hb p hp)
theorem walk_way {fs gs : List (List Nat)} (hf : ∀ p ∈ fs, partOk p) (hg : PathOk gs) : walkC (fs ++ splitC 47 (wayT fs gs)) [] = .ok gs := by
  obtain ⟨c, e1, e2⟩ := strip_spec fs gs
  rw [walkC_parts fs [] _ hf, List.nil_append]
  unfold wayT wayTo
  generalize (strip fs gs).1 = a at e1 e2
  generalize (strip fs gs).2 = b at e1 e2
  have hb : ∀ p ∈ b, partOk p := fun p hp => hg.2.2 p (by rw [e2]; exact List.mem_append_right _ hp)
  have fin : walkC [] gs = .ok gs := by
    rw [walkC, if_neg fun z => by rcases z with z | z; exact hg.1 z; exact absurd hg.2.1 (by omega)]
  by_cases z : wayP a b = []
  · rw [if_pos z]
    unfold wayP at z
    rw [List.append_eq_nil_iff, List.map_eq_nil_iff] at z
    rw [z.1, List.append_nil] at e1
    rw [z.2, List.append_nil] at e2
    rw [show splitC 47 [46] = [[46]] by decide, walkC, if_neg (by decide), if_pos (.inr rfl), e1, ← e2]
    exact fin
  · rw [if_neg z, split_joinC 47 z (wayP_stroke hb)]
    unfold wayP
    rw [List.map_const', pops _ _ _ (by rw [e1, List.length_append]; omega), e1, List.length_append, Nat.add_sub_cancel, List.take_left]
    have w := walkC_parts b c [] hb
    rw [List.append_nil] at w
    rw [w, ← e2]
    exact fin
theorem join_ne {ws : List (List Nat)} (h : ws ≠ []) (hp : ∀ p ∈ ws, p ≠ []) : joinC 47 ws ≠ [] := by
  cases ws with
  | nil => exact absurd rfl h
  | cons p r =>
    have p0 := hp p (by simp)
    cases p with
    | nil => exact absurd rfl p0
    | cons c q =>
      cases r with
      | nil =>
        show (c :: q) ≠ []
        simp
      | cons p2 r2 =>
        show (c :: q) ++ ([47] ++ TL.joinL [47] (p2 :: r2)) ≠ []
        simp
theorem part_ne {p : List Nat} (h : partOk p) : p ≠ [] := fun e => by
  rw [e] at h
  exact absurd h.1 (by decide)
theorem wayP_ne {a b : List (List Nat)} (hb : ∀ p ∈ b, partOk p) : ∀ p ∈ wayP a b, p ≠ [] := by
  intro p hp
  rcases List.mem_append.mp hp with hp | hp
  · obtain ⟨q, _, rfl⟩ := List.mem_map.mp hp
    decide
  · exact part_ne (hb p hp)
theorem pathOf_ne {ps : List (List Nat)} (h : PathOk ps) : pathOf ps ≠ [] := join_ne h.1 fun p hp => part_ne (h.2.2 p hp)
/-- from the top -/
theorem clean_top {gs : List (List Nat)} (hg : PathOk gs) : cleanF (wayT [] gs) = .ok gs := by
  have e : wayT [] gs = pathOf gs := by
    unfold wayT wayTo wayP
    cases gs with
    | nil => exact absurd rfl hg.1
    | cons p r => rfl
  rw [e, clean_path hg]
/-- from a folder -/
theorem clean_way {fs gs : List (List Nat)} (hf : PathOk fs) (hg : PathOk gs) : cleanF (pathOf fs ++ [47] ++ wayT fs gs) = .ok gs := by
  have hd : (pathOf fs ++ [47] ++ wayT fs gs).head? ≠ some 47 := by
    have := head_join hf
    have ne := pathOf_ne hf
    cases e : pathOf fs with
    | nil => exact absurd e ne
    | cons c q =>
      rw [e] at this
      simpa using this
  unfold cleanF
  rw [if_neg hd, List.append_assoc]
  show walkC (splitC 47 (pathOf fs ++ 47 :: wayT fs gs)) [] = _
  rw [splitC_app, split_path hf]
  exact walk_way hf.2.2 hg
theorem split_fol {fs : List (List Nat)} (h : FolOk fs) : (splitC 47 (pathOf fs)).filter (fun p => decide (p ≠ [])) = fs := by
  rcases h with rfl | h
  · rfl
  · rw [split_path h]
    exact List.filter_eq_self.mpr fun p hp => decide_eq_true (part_ne (h.2.2 p hp))
theorem wayT_len {fs gs : List (List Nat)} (hf : FolOk fs) (hg : PathOk gs) : (wayT fs gs).length ≤ 300 := by
  obtain ⟨c, e1, e2⟩ := strip_spec fs gs
  unfold wayT wayTo
  generalize (strip fs gs).1 = a at e1 e2
  generalize (strip fs gs).2 = b at e1 e2
  have hb : ∀ p ∈ b, partOk p := fun p hp => hg.2.2 p (by rw [e2]; exact List.mem_append_right _ hp)
  have la : a.length ≤ 8 := by
    have : fs.length ≤ 8 := by
      rcases hf with rfl | h
      · simp
      · exact h.2.1
    rw [e1, List.length_append] at this
    omega
  have lb : b.length ≤ 8 := by
    have := hg.2.1
    rw [e2, List.length_append] at this
    omega
  split
  · simp
  · have := joinC_len 47 (wayP a b) 12 fun p hp => by
      rcases List.mem_append.mp hp with hp | hp
      · obtain ⟨q, _, rfl⟩ := List.mem_map.mp hp
        decide
      · exact (hb p hp).2.1
    have l2 : (wayP a b).length = a.length + b.length := by
      unfold wayP
      rw [List.length_append, List.length_map]
    omega
end Fc

namespace Fc
open PySem PySem.Spec L2 PyProof.Rows
/-! ### rows of deeds -/
def Byt (S : List Int) : Prop := ∀ x ∈ S, 0 ≤ x ∧ x < 256
theorem Byt.nil : Byt [] := fun x hx => by cases hx
theorem Byt.app {A B : List Int} (a : Byt A) (b : Byt B) : Byt (A ++ B) := fun x hx => by
  rcases List.mem_append.mp hx with h | h
  · exact a x h
  · exact b x h
theorem Byt.take {A : List Int} (a : Byt A) (k : Nat) : Byt (A.take k) := fun x hx => a x (List.mem_of_mem_take hx)
theorem Byt.drop {A : List Int} (a : Byt A) (k : Nat) : Byt (A.drop k) := fun x hx => a x (List.mem_of_mem_drop hx)
theorem Byt.one {x : Int} (h : 0 ≤ x ∧ x < 256) : Byt [x] := fun y hy => by
  rw [List.mem_singleton.mp hy]
  exact h
theorem Byt.rep {A : List Int} (a : Byt A) (k : Nat) : Byt (List.replicate k A).flatten := fun x hx => by
  obtain ⟨l, hl, hx'⟩ := List.mem_flatten.mp hx
  rw [(List.mem_replicate.mp hl).2] at hx'
  exact a x hx'
def moreB (far : Nat) (B : List Int) : List Int := B ++ [B.getD (B.length - far) 0]
def copyB : Nat → Nat → List Int → List Int
  | 0, _, B => B
  | k + 1, far, B => copyB k far (moreB far B)
theorem copyB_succ : ∀ (k far : Nat) (B : List Int), copyB (k + 1) far B = moreB far (copyB k far B)
  | 0, _, _ => rfl
  | k + 1, far, B => by
    show copyB (k + 1) far (moreB far B) = moreB far (copyB k far (moreB far B))
    exact copyB_succ k far (moreB far B)
theorem copyB_len : ∀ (k far : Nat) (B : List Int), (copyB k far B).length = B.length + k
  | 0, _, _ => rfl
  | k + 1, far, B => by
    show (copyB k far (moreB far B)).length = _
    rw [copyB_len k far, moreB, List.length_append]
    show B.length + 1 + k = B.length + (k + 1)
    omega
theorem moreB_byt {far : Nat} {B : List Int} (b : Byt B) (h : 0 < far) (h2 : far ≤ B.length) : Byt (moreB far B) := by
  refine b.app (Byt.one ?_)
  have lt : B.length - far < B.length := by omega
  rw [List.getD_eq_getElem?_getD, List.getElem?_eq_getElem lt]
  exact b _ (List.getElem_mem lt)
theorem copyB_byt {far : Nat} (h : 0 < far) : ∀ (k : Nat) {B : List Int}, Byt B → far ≤ B.length → Byt (copyB k far B)
  | 0, _, b, _ => b
  | k + 1, B, b, h2 => copyB_byt h k (moreB_byt b h h2) (by
    rw [moreB, List.length_append]
    omega)
def deedsF : Nat → List Int → List Int → Option (List Int)
  | _, [], B => if B.length ≤ 1000 then some B else none
  | 0, _ :: _, _ => none
  | f + 1, n :: r, B => if n ≤ 127 then (if r.length < (n + 1).toNat then none else deedsF f (r.drop (n + 1).toNat) (B ++ r.take (n + 1).toNat))
    else if r = [] then none else if (B.length : Int) ≤ r.headD 0 then none else deedsF f (r.drop 1) (copyB (n - 125).toNat (r.headD 0 + 1).toNat B)
def backF (S : List Int) : Option (List Int) := deedsF S.length S []
theorem deedsF_end {f : Nat} {B : List Int} : deedsF f [] B = if B.length ≤ 1000 then some B else none := by
  cases f <;> rfl
theorem deedsF_lit {f : Nat} {n : Int} {r B : List Int} (h : n ≤ 127) : deedsF (f + 1) (n :: r) B = if r.length < (n + 1).toNat then none else deedsF f (r.drop (n + 1).toNat) (B ++ r.take (n + 1).toNat) := by
  rw [deedsF, if_pos h]
theorem deedsF_back {f : Nat} {n d : Int} {r B : List Int} (h : ¬ n ≤ 127) : deedsF (f + 1) (n :: d :: r) B = if (B.length : Int) ≤ d then none else deedsF f r (copyB (n - 125).toNat (d + 1).toNat B) := by
  rw [deedsF, if_neg h, if_neg (List.cons_ne_nil d r)]
  rfl
theorem deedsF_cut {f : Nat} {n : Int} {B : List Int} (h : ¬ n ≤ 127) : deedsF (f + 1) [n] B = none := by
  rw [deedsF, if_neg h, if_pos rfl]
/-- a body, or None -/
def ShowsO (K : PySem.W.Frag) (H : Hp) (v : V) : Option (List Int) → Prop
  | none => v = .non
  | some B => ∃ t, v = .ref t ∧ SqT K H t (B.map V.int)
def unpF (k : Nat) (S : List Int) : Option (List Int) := if k = 0 then (if S.length ≤ 1000 then some S else none) else backF S
/-- a body, or a text -/
def ShowsR (K : PySem.W.Frag) (H : Hp) (v : V) : Option (List Int) → Prop
  | none => v = .str "refused"
  | some B => ∃ t, v = .ref t ∧ SqT K H t (B.map V.int)
/-- a def that tells a body or raises -/
def OutU (K : PySem.W.Frag) (cB : Addr) (H : Hp) (Q : VK) (E : XK) : Option (List Int) → Prop
  | none => ∀ H', Same H H' → E (.ref cB) none H'
  | some B => Tups K H (B.map V.int) Q
def spUnp (K : PySem.W.Frag) (cB : Addr) : Sp := fun vs H Q E => ∃ (k : Nat) (p : Addr) (S : List Int), vs = [.int (k : Int), .ref p] ∧ k ≤ 1 ∧ SqT K H p (S.map V.int) ∧ Byt S ∧ S.length ≤ 20000 ∧ OutU K cB H Q E (unpF k S)
theorem copy_alike (x : Int) : ∀ (k m : Nat), 0 < m → copyB k 1 (List.replicate m x) = List.replicate (m + k) x
  | 0, m, _ => rfl
  | k + 1, m, h => by
    show copyB k 1 (moreB 1 (List.replicate m x)) = _
    have e : moreB 1 (List.replicate m x) = List.replicate (m + 1) x := by
      unfold moreB
      rw [List.length_replicate, List.getD_eq_getElem?_getD, List.getElem?_replicate, if_pos (by omega), List.replicate_succ']
      rfl
    rw [e, copy_alike x k (m + 1) (by omega), show m + 1 + k = m + (k + 1) by omega]
theorem far_all (x : Int) : ∀ (n f m : Nat), 0 < m → n ≤ f → deedsF f (List.replicate n ([255, 0] : List Int)).flatten (List.replicate m x) = if m + 130 * n ≤ 1000 then some (List.replicate (m + 130 * n) x) else none
  | 0, f, m, _, _ => by
    show deedsF f [] _ = _
    rw [deedsF_end, List.length_replicate]
    rfl
  | n + 1, f, m, h, hf => by
    obtain ⟨g, rfl⟩ : ∃ g, f = g + 1 := ⟨f - 1, by omega⟩
    rw [List.replicate_succ, List.flatten_cons]
    show deedsF (g + 1) (255 :: 0 :: (List.replicate n ([255, 0] : List Int)).flatten) _ = _
    rw [deedsF_back (by decide), List.length_replicate, if_neg (by omega)]
    show deedsF g _ (copyB 130 1 (List.replicate m x)) = _
    rw [copy_alike x 130 m h, far_all x n g (m + 130) (by omega) (by omega), show m + 130 + 130 * n = m + 130 * (n + 1) by omega]
theorem far_begin (x : Int) (n : Nat) : backF ([0, x] ++ (List.replicate n ([255, 0] : List Int)).flatten) = if 1 + 130 * n ≤ 1000 then some (List.replicate (1 + 130 * n) x) else none := by
  unfold backF
  show deedsF ((x :: (List.replicate n ([255, 0] : List Int)).flatten).length + 1) (0 :: x :: (List.replicate n ([255, 0] : List Int)).flatten) [] = _
  rw [deedsF_lit (by decide), if_neg (by rw [List.length_cons]; show ¬ _ < 1; omega)]
  show deedsF _ (List.replicate n ([255, 0] : List Int)).flatten (List.replicate 1 x) = _
  rw [far_all x n _ 1 (by decide)]
  rw [List.length_cons, PyProof.Rows.lm_len_rep_flat]
  show n ≤ n * 2 + 1
  omega
end Fc

namespace Fc
open PySem PySem.Spec L2 PyProof.Rows
theorem hu1 {k : Nat} {A : Around} (r : Room k A) : A.units + 1 < cLine := Nat.lt_of_le_of_lt (by omega) r.units
/-! ### data stays where a list or a dict is written -/
def Wr (H : Hp) (p : Addr) : Prop := (∃ xs, H p = some (.lst xs)) ∨ ∃ kvs, H p = some (.dK kvs)
theorem Wr.lst {H : Hp} {p : Addr} {xs : List V} (h : H p = some (.lst xs)) : Wr H p := .inl ⟨xs, h⟩
theorem Wr.dK {H : Hp} {p : Addr} {kvs : List (Key × V)} (h : H p = some (.dK kvs)) : Wr H p := .inr ⟨kvs, h⟩
theorem overT {K : PySem.W.Frag} {H : Hp} {p t : Addr} {xs : List V} {o : HO} (e : Wr H p) (h : SqT K H t xs) : SqT K (upd H p o) t xs := by
  have ne : ∀ {u : HO}, H t = some u → (∀ xs, u ≠ .lst xs) → (∀ kvs, u ≠ .dK kvs) → t ≠ p := by
    intro u hu n1 n2 z
    rw [z] at hu
    rcases e with ⟨ys, e⟩ | ⟨kvs, e⟩
    · rw [e] at hu
      exact n1 ys (Option.some.inj hu).symm
    · rw [e] at hu
      exact n2 kvs (Option.some.inj hu).symm
  rcases h with (h | ⟨o2, h⟩) | h
  · refine .inl (.inl ?_)
    rw [upd_ne (ne h (fun _ => nofun) (fun _ => nofun))]
    exact h
  · refine .inl (.inr ⟨o2, ?_⟩)
    rw [upd_ne (ne h (fun _ => nofun) (fun _ => nofun))]
    exact h
  · exact .inr h
mutual
theorem dpOver {K : PySem.W.Frag} {H : Hp} {p : Addr} {o : HO} (e : Wr H p) : ∀ {d : PyData} {v : V}, tupsOnly d = true → Dp K H v d → Dp K (upd H p o) v d
  | .none, _, _, .non => .non
  | .bool _, _, _, .bl b => .bl b
  | .int _, _, _, .int i => .int i
  | .str _, _, _, .str x => .str x
  | .list _, _, ok, _ => by cases ok
  | .tuple ds, _, ok, .tup h hs => .tup (overT e h) (dpOverAll e (by rw [tupsOnly, Bool.and_eq_true] at ok; exact ok.2) hs)
theorem dpOverAll {K : PySem.W.Frag} {H : Hp} {p : Addr} {o : HO} (e : Wr H p) : ∀ {ds : List PyData} {vs : List V}, tupsAll ds = true → DpAll K H vs ds → DpAll K (upd H p o) vs ds
  | [], _, _, .nil => .nil
  | d :: r, _, ok, .cons h hs => .cons (dpOver e (by rw [tupsAll, Bool.and_eq_true] at ok; exact ok.1) h) (dpOverAll e (by rw [tupsAll, Bool.and_eq_true] at ok; exact ok.2) hs)
end
theorem keep_new {H H' : Hp} {p : Addr} {o : HO} (e : Same H H') (n : H p = none) : Same H (upd H' p o) := e.over n
/-! ### entries and trees -/
inductive Ent where
  | folder (t : List Nat)
  | file (t : List Nat) (b : List Int)
  | link (t : List Nat) (g : List Nat)
deriving DecidableEq
def Ent.path : Ent → List Nat
  | .folder t => t
  | .file t _ => t
  | .link t _ => t
def Ent.isFolder : Ent → Bool
  | .folder _ => true
  | _ => false
def sd (x : String) : PyData := .str (Str.ofString x)
def td (l : List Nat) : PyData := .str (mkS l)
def dEnt : Ent → PyData
  | .folder t => .tuple [sd "folder", td t]
  | .file t b => .tuple [sd "file", td t, dInts b]
  | .link t g => .tuple [sd "link", td t, td g]
def PathT (t : List Nat) : Prop := PathOk (splitC 47 t)
def aboveT (t : List Nat) : List (List Nat) := aboveF (splitC 47 t)
def GoalT (g : List Nat) : Prop := (splitC 47 g).length ≤ 8 ∧ ∀ p ∈ splitC 47 g, p = dots ∨ partOk p
def EntOk : Ent → Prop
  | .folder t => PathT t
  | .file t b => PathT t ∧ Byt b ∧ b.length ≤ 1000
  | .link t g => PathT t ∧ GoalT g
def dTree (es : List Ent) : PyData := .tuple (es.map dEnt)
structure TreeOk (es : List Ent) : Prop where
  ok : ∀ e ∈ es, EntOk e
  rise : es.Pairwise fun a b => a.path < b.path
  up : ∀ e ∈ es, ∀ a ∈ aboveT e.path, Ent.folder a ∈ es
  few : es.length ≤ 100
theorem EntOk.path {e : Ent} (h : EntOk e) : PathT e.path := by
  cases e with
  | folder t => exact h
  | file t b => exact h.1
  | link t g => exact h.1
theorem EntOk.small {e : Ent} (h : EntOk e) : ∀ t b, e = .file t b → b.length ≤ 1000 := by
  intro t b z
  rw [z] at h
  exact h.2.2
theorem join_split (c : Nat) : ∀ l : List Nat, joinC c (splitC c l) = l
  | [] => rfl
  | x :: r => by
    have ih := join_split c r
    rw [splitC]
    cases e : splitC c r with
    | nil => exact absurd e (splitC_ne c r)
    | cons p ps =>
      rw [e] at ih
      by_cases z : x = c
      · rw [if_pos z]
        have : joinC c ([] :: p :: ps) = c :: joinC c (p :: ps) := by
          show ([] : List Nat) ++ ([c] ++ TL.joinL [c] (p :: ps)) = _
          rfl
        rw [this, ih, z]
      · rw [if_neg z]
        cases ps with
        | nil =>
          have e1 : joinC c [p] = p := rfl
          rw [e1] at ih
          show x :: p = _
          rw [ih]
        | cons p2 ps2 =>
          have e1 : joinC c (p :: p2 :: ps2) = p ++ ([c] ++ TL.joinL [c] (p2 :: ps2)) := rfl
          rw [e1] at ih
          show (x :: p) ++ ([c] ++ TL.joinL [c] (p2 :: ps2)) = _
          rw [List.cons_append, ih]
theorem pathOf_parts (t : List Nat) : pathOf (splitC 47 t) = t := join_split 47 t
theorem PathT.of {ps : List (List Nat)} (h : PathOk ps) : PathT (pathOf ps) := by
  unfold PathT
  rw [split_path h]
  exact h
theorem aboveT_of {ps : List (List Nat)} (h : PathOk ps) : aboveT (pathOf ps) = aboveF ps := by
  unfold aboveT
  rw [split_path h]
theorem PathT.len {t : List Nat} (h : PathT t) : t.length ≤ 104 := by
  have := pathOf_len h
  rw [pathOf_parts] at this
  exact this
theorem PathT.ne {t : List Nat} (h : PathT t) : t ≠ [] := by
  have := pathOf_ne h
  rw [pathOf_parts] at this
  exact this
theorem aboveF_mem {ps : List (List Nat)} {a : List Nat} (h : a ∈ aboveF ps) : ∃ k, k + 1 < ps.length ∧ a = pathOf (ps.take (k + 1)) := by
  unfold aboveF at h
  obtain ⟨k, hk, rfl⟩ := List.mem_map.mp h
  rw [List.mem_range] at hk
  exact ⟨k, by omega, rfl⟩
theorem take_ok {ps : List (List Nat)} (h : PathOk ps) (k : Nat) : PathOk (ps.take (k + 1)) := by
  refine ⟨fun e => h.1 ?_, by rw [List.length_take]; have := h.2.1; omega, fun p hp => h.2.2 p ((List.take_sublist _ _).mem hp)⟩
  have := congrArg List.length e
  rw [List.length_take, List.length_nil] at this
  exact List.eq_nil_of_length_eq_zero (by omega)
theorem above_ok {t a : List Nat} (h : PathT t) (ha : a ∈ aboveT t) : PathT a := by
  obtain ⟨k, _, rfl⟩ := aboveF_mem ha
  exact PathT.of (take_ok h k)
/-- what is above what is above is above -/
theorem above_above {t a b : List Nat} (h : PathT t) (ha : a ∈ aboveT t) (hb : b ∈ aboveT a) : b ∈ aboveT t := by
  obtain ⟨k, lk, rfl⟩ := aboveF_mem ha
  rw [aboveT_of (take_ok h k)] at hb
  obtain ⟨j, lj, rfl⟩ := aboveF_mem hb
  rw [List.length_take] at lj
  unfold aboveT aboveF
  refine List.mem_map.mpr ⟨j, List.mem_range.mpr (by omega), ?_⟩
  rw [List.take_take, Nat.min_eq_left (by omega)]
theorem above_ne {t a : List Nat} (h : PathT t) (ha : a ∈ aboveT t) : a ≠ t := by
  obtain ⟨k, lk, rfl⟩ := aboveF_mem ha
  intro e
  have e2 : (splitC 47 (pathOf ((splitC 47 t).take (k + 1)))).length = (splitC 47 t).length := by rw [e]
  rw [split_path (take_ok h k), List.length_take] at e2
  omega
theorem dEnt_ok {e : Ent} (h : ∀ t b, e = .file t b → b.length ≤ 1000) : tupsOnly (dEnt e) = true ∧ PyData.depth (dEnt e) ≤ 2 := by
  cases e with
  | folder t => exact ⟨rfl, show max 0 (max 0 0) + 1 ≤ 2 by decide⟩
  | file t b =>
    have l := h t b rfl
    have k := dInts_ok b (by omega)
    constructor
    · show (decide ((3 : Nat) ≤ 100000) && (true && (true && (tupsOnly (dInts b) && true)))) = true
      rw [k.1]
      rfl
    · show max 0 (max 0 (max (PyData.depth (dInts b)) 0)) + 1 ≤ 2
      have := k.2
      omega
  | link t g => exact ⟨rfl, show max 0 (max 0 (max 0 0)) + 1 ≤ 2 by decide⟩
theorem dTree_ok {es : List Ent} (h : ∀ e ∈ es, ∀ t b, e = .file t b → b.length ≤ 1000) (few : es.length ≤ 100000) : tupsOnly (dTree es) = true ∧ PyData.depth (dTree es) ≤ 3 := by
  have all : ∀ (fs : List Ent), (∀ e ∈ fs, ∀ t b, e = .file t b → b.length ≤ 1000) → tupsAll (fs.map dEnt) = true ∧ PyData.depthAll (fs.map dEnt) ≤ 2 := by
    intro fs
    induction fs with
    | nil => intro _; exact ⟨rfl, by decide⟩
    | cons e r ih =>
      intro h
      have h1 := dEnt_ok (h e (by simp))
      have h2 := ih fun x hx => h x (List.mem_cons_of_mem _ hx)
      constructor
      · rw [List.map_cons, tupsAll, h1.1, h2.1]
        rfl
      · rw [List.map_cons, PyData.depthAll]
        have := h1.2
        have := h2.2
        omega
  have k := all es h
  constructor
  · unfold dTree
    rw [tupsOnly, k.1, decide_eq_true (by rw [List.length_map]; exact few)]
    rfl
  · unfold dTree
    rw [PyData.depth]
    have := k.2
    omega
/-- an entry in the heap: its parts -/
theorem dpEnt {K : PySem.W.Frag} {H : Hp} {v : V} {e : Ent} (h : Dp K H v (dEnt e)) : ∃ t xs, v = .ref t ∧ SqT K H t xs ∧ (match e with
    | .folder p => xs = [.str (Str.ofString "folder"), T p]
    | .file p b => ∃ u, xs = [.str (Str.ofString "file"), T p, .ref u] ∧ SqT K H u (b.map V.int)
    | .link p g => xs = [.str (Str.ofString "link"), T p, T g]) := by
  cases e with
  | folder p =>
    cases h with
    | tup h hs =>
      cases hs with
      | cons h1 hs =>
        cases hs with
        | cons h2 hs =>
          cases hs
          cases h1
          cases h2
          exact ⟨_, _, rfl, h, rfl⟩
  | file p b =>
    cases h with
    | tup h hs =>
      cases hs with
      | cons h1 hs =>
        cases hs with
        | cons h2 hs =>
          cases hs with
          | cons h3 hs =>
            cases hs
            cases h1
            cases h2
            cases h3 with
            | tup g gs =>
              refine ⟨_, _, rfl, h, _, rfl, ?_⟩
              have : ∀ {vs : List V} {b : List Int}, DpAll K H vs (b.map PyData.int) → vs = b.map V.int := by
                intro vs b
                induction b generalizing vs with
                | nil => intro k; cases k; rfl
                | cons x r ih =>
                  intro k
                  cases k with
                  | cons k1 ks =>
                    cases k1
                    rw [ih ks]
                    rfl
              rw [← this gs]
              exact g
  | link p g =>
    cases h with
    | tup h hs =>
      cases hs with
      | cons h1 hs =>
        cases hs with
        | cons h2 hs =>
          cases hs with
          | cons h3 hs =>
            cases hs
            cases h1
            cases h2
            cases h3
            exact ⟨_, _, rfl, h, rfl⟩
theorem dEnt_folder {K : PySem.W.Frag} {H : Hp} {t : Addr} {p : List Nat} (h : SqT K H t [.str (Str.ofString "folder"), T p]) : Dp K H (.ref t) (dEnt (.folder p)) := .tup h (.cons (.str _) (.cons (.str _) .nil))
theorem dEnt_link {K : PySem.W.Frag} {H : Hp} {t : Addr} {p g : List Nat} (h : SqT K H t [.str (Str.ofString "link"), T p, T g]) : Dp K H (.ref t) (dEnt (.link p g)) := .tup h (.cons (.str _) (.cons (.str _) (.cons (.str _) .nil)))
theorem dEnt_file {K : PySem.W.Frag} {H : Hp} {t u : Addr} {p : List Nat} {b : List Int} (h : SqT K H t [.str (Str.ofString "file"), T p, .ref u]) (g : SqT K H u (b.map V.int)) : Dp K H (.ref t) (dEnt (.file p b)) := .tup h (.cons (.str _) (.cons (.str _) (.cons (dpTup g) .nil)))
end Fc

namespace Fc
open PySem PySem.Spec L2 PyProof.Rows
/-! ### a dict of entries by their paths -/
def kT (t : List Nat) : Key := .inr (mkS t)
theorem kT_inj {a b : List Nat} (h : kT a = kT b) : a = b := mkS_inj (Sum.inr.inj h)
def OneE (K : PySem.W.Frag) (H : Hp) (e : Ent) (kv : Key × V) : Prop := kv.1 = kT e.path ∧ Dp K H kv.2 (dEnt e)
abbrev OnE (K : PySem.W.Frag) (H : Hp) (es : List Ent) (kvs : List (Key × V)) : Prop := Al2 (OneE K H) es kvs
def atE (es : List Ent) (t : List Nat) : Option Ent := es.find? fun e => decide (e.path = t)
def putE (es : List Ent) (e : Ent) : List Ent := if (es.any fun x => decide (x.path = e.path)) = true then es.map (fun x => if x.path = e.path then e else x) else es ++ [e]
theorem onE_get {K : PySem.W.Frag} {H : Hp} (t : List Nat) : ∀ {es : List Ent} {kvs : List (Key × V)}, OnE K H es kvs → (atE es t = none ∧ valV kvs (kT t) = none) ∨ ∃ e v, atE es t = some e ∧ valV kvs (kT t) = some v ∧ Dp K H v (dEnt e)
  | _, _, .nil => .inl ⟨rfl, rfl⟩
  | e :: es, kv :: kvs, .cons h hs => by
    by_cases z : e.path = t
    · refine .inr ⟨e, kv.2, ?_, valV_pos (by rw [h.1, z]), h.2⟩
      unfold atE
      rw [List.find?_cons_of_pos (by simpa using z)]
    · have nz : ¬ kv.1 = kT t := fun k => z (kT_inj (h.1.symm.trans k))
      have e1 : atE (e :: es) t = atE es t := by
        unfold atE
        rw [List.find?_cons_of_neg (by simpa using z)]
      rw [e1, valV_neg nz]
      exact onE_get t hs
theorem onE_any {K : PySem.W.Frag} {H : Hp} (t : List Nat) : ∀ {es : List Ent} {kvs : List (Key × V)}, OnE K H es kvs → (kvs.any fun kv => decide (kv.1 = kT t)) = es.any fun x => decide (x.path = t)
  | _, _, .nil => rfl
  | e :: es, kv :: kvs, .cons h hs => by
    rw [List.any_cons, List.any_cons, onE_any t hs]
    congr 1
    by_cases z : e.path = t
    · rw [decide_eq_true z]
      exact decide_eq_true (by rw [h.1, z])
    · rw [decide_eq_false z]
      exact decide_eq_false fun k => z (kT_inj (h.1.symm.trans k))
theorem onE_map {K : PySem.W.Frag} {H : Hp} {e : Ent} {v : V} (hv : Dp K H v (dEnt e)) : ∀ {es : List Ent} {kvs : List (Key × V)}, OnE K H es kvs → OnE K H (es.map fun x => if x.path = e.path then e else x) (kvs.map fun kv => if kv.1 = kT e.path then (kv.1, v) else kv)
  | _, _, .nil => .nil
  | x :: es, kv :: kvs, .cons h hs => by
    rw [List.map_cons, List.map_cons]
    refine .cons ?_ (onE_map hv hs)
    by_cases z : x.path = e.path
    · have z2 : kv.1 = kT e.path := by rw [h.1, z]
      rw [if_pos z, if_pos z2]
      exact ⟨z2, hv⟩
    · have nz : ¬ kv.1 = kT e.path := fun k => z (kT_inj (h.1.symm.trans k))
      rw [if_neg z, if_neg nz]
      exact h
theorem onE_put {K : PySem.W.Frag} {H : Hp} {e : Ent} {v : V} {es : List Ent} {kvs : List (Key × V)} (h : OnE K H es kvs) (hv : Dp K H v (dEnt e)) : OnE K H (putE es e) (putK kvs (kT e.path) v) := by
  unfold putE putK
  rw [onE_any e.path h]
  by_cases z : (es.any fun x => decide (x.path = e.path)) = true
  · rw [if_pos z, if_pos z]
    exact onE_map hv h
  · rw [if_neg z, if_neg z]
    exact h.snoc ⟨rfl, hv⟩
def SmallE (es : List Ent) : Prop := ∀ e ∈ es, ∀ t b, e = .file t b → b.length ≤ 1000
theorem SmallE.tail {e : Ent} {es : List Ent} (h : SmallE (e :: es)) : SmallE es := fun x hx => h x (List.mem_cons_of_mem _ hx)
theorem onE_keep {K : PySem.W.Frag} {H H' : Hp} (s : Same H H') {es : List Ent} {kvs : List (Key × V)} (h : OnE K H es kvs) : OnE K H' es kvs := h.mono fun e kv k => ⟨k.1, dpKeep s k.2⟩
theorem onE_over {K : PySem.W.Frag} {H : Hp} {p : Addr} {o : HO} (w : Wr H p) : ∀ {es : List Ent} {kvs : List (Key × V)}, SmallE es → OnE K H es kvs → OnE K (upd H p o) es kvs
  | _, _, _, .nil => .nil
  | e :: es, kv :: kvs, sm, .cons h hs => .cons ⟨h.1, dpOver w (dEnt_ok (sm e (by simp))).1 h.2⟩ (onE_over w sm.tail hs)
theorem onE_keys {K : PySem.W.Frag} {H : Hp} : ∀ {es : List Ent} {kvs : List (Key × V)}, OnE K H es kvs → kvs.map (·.1) = (es.map fun e => mkS e.path).map Sum.inr
  | _, _, .nil => rfl
  | e :: es, kv :: kvs, .cons h hs => by rw [List.map_cons, List.map_cons, List.map_cons, h.1, onE_keys hs]; rfl
theorem atE_mem {es : List Ent} {t : List Nat} {e : Ent} (h : atE es t = some e) : e ∈ es ∧ e.path = t := ⟨List.mem_of_find?_eq_some h, by
  have := List.find?_some (p := fun e : Ent => decide (e.path = t)) h
  exact of_decide_eq_true this⟩
theorem atE_none {es : List Ent} {t : List Nat} (h : atE es t = none) : ∀ e ∈ es, e.path ≠ t := fun e he k => by
  have := List.find?_eq_none.mp h e he
  exact this (decide_eq_true k)
/-! ### the paths of a growing dict -/
abbrev Nod (es : List Ent) : Prop := (es.map Ent.path).Nodup
theorem Nod.eq {es : List Ent} (h : Nod es) {a b : Ent} (ha : a ∈ es) (hb : b ∈ es) (e : a.path = b.path) : a = b := by
  induction es with
  | nil => cases ha
  | cons x r ih =>
    rw [Nod, List.map_cons, List.nodup_cons] at h
    rcases List.mem_cons.mp ha with ka | ka
    · rcases List.mem_cons.mp hb with kb | kb
      · rw [ka, kb]
      · exact absurd (List.mem_map.mpr ⟨b, kb, by rw [← e, ka]⟩) h.1
    · rcases List.mem_cons.mp hb with kb | kb
      · exact absurd (List.mem_map.mpr ⟨a, ka, by rw [e, kb]⟩) h.1
      · exact ih h.2 ka kb
theorem atE_of {es : List Ent} (h : Nod es) {e : Ent} (he : e ∈ es) : atE es e.path = some e := by
  cases k : atE es e.path with
  | none => exact absurd rfl (atE_none k e he)
  | some x =>
    obtain ⟨hx, px⟩ := atE_mem k
    rw [h.eq hx he px]
theorem putE_new {es : List Ent} {e : Ent} (h : ∀ x ∈ es, x.path ≠ e.path) : putE es e = es ++ [e] := by
  unfold putE
  rw [if_neg]
  intro z
  obtain ⟨x, hx, k⟩ := List.any_eq_true.mp z
  exact h x hx (of_decide_eq_true k)
theorem putE_same {es : List Ent} {e : Ent} (h : ∀ x ∈ es, x.path = e.path → x = e) (he : ∃ x ∈ es, x.path = e.path) : putE es e = es := by
  unfold putE
  obtain ⟨x, hx, px⟩ := he
  rw [if_pos (List.any_eq_true.mpr ⟨x, hx, decide_eq_true px⟩)]
  have : es.map (fun x => if x.path = e.path then e else x) = es.map id := List.map_congr_left fun y hy => by
    by_cases z : y.path = e.path
    · rw [if_pos z]
      exact (h y hy z).symm
    · rw [if_neg z]
      rfl
  rw [this, List.map_id]
theorem nod_snoc {es : List Ent} {e : Ent} (h : Nod es) (n : ∀ x ∈ es, x.path ≠ e.path) : Nod (es ++ [e]) := by
  unfold Nod
  rw [List.map_append, List.nodup_append]
  refine ⟨h, by simp, fun a ha b hb k => ?_⟩
  obtain ⟨x, hx, rfl⟩ := List.mem_map.mp ha
  rw [List.map_cons, List.map_nil, List.mem_singleton] at hb
  exact n x hx (k.trans hb)
/-- the folders above are put in -/
structure Grown (es : List Ent) (as : List (List Nat)) (fs : List Ent) : Prop where
  nod : Nod fs
  old : ∀ e ∈ es, e ∈ fs
  new : ∀ e ∈ fs, e ∈ es ∨ ∃ a ∈ as, e = .folder a
  all : ∀ a ∈ as, Ent.folder a ∈ fs
  few : fs.length ≤ es.length + as.length
theorem Grown.nil {es : List Ent} (h : Nod es) : Grown es [] es := ⟨h, fun _ h => h, fun e h => .inl h, fun a h => (by cases h), by simp⟩
theorem Grown.step {es fs : List Ent} {as : List (List Nat)} {a : List Nat} (g : Grown es as fs) (nb : ∀ e ∈ es, e.path = a → e = .folder a) : Grown es (as ++ [a]) (putE fs (.folder a)) := by
  have same : ∀ x ∈ fs, x.path = (Ent.folder a).path → x = .folder a := fun x hx px => by
    rcases g.new x hx with h | ⟨b, _, rfl⟩
    · exact nb x h px
    · have : b = a := px
      rw [this]
  by_cases z : ∃ x ∈ fs, x.path = (Ent.folder a).path
  · rw [putE_same same z]
    refine ⟨g.nod, g.old, fun e he => ?_, fun b hb => ?_, by rw [List.length_append]; have := g.few; simp only [List.length_cons, List.length_nil]; omega⟩
    · rcases g.new e he with h | ⟨b, hb, h⟩
      · exact .inl h
      · exact .inr ⟨b, List.mem_append_left _ hb, h⟩
    · rcases List.mem_append.mp hb with hb | hb
      · exact g.all b hb
      · rw [List.mem_singleton.mp hb]
        obtain ⟨x, hx, px⟩ := z
        rw [← same x hx px]
        exact hx
  · have n : ∀ x ∈ fs, x.path ≠ (Ent.folder a).path := fun x hx k => z ⟨x, hx, k⟩
    rw [putE_new n]
    refine ⟨nod_snoc g.nod n, fun e he => List.mem_append_left _ (g.old e he), fun e he => ?_, fun b hb => ?_, by rw [List.length_append, List.length_append]; have := g.few; simp only [List.length_cons, List.length_nil]; omega⟩
    · rcases List.mem_append.mp he with he | he
      · rcases g.new e he with h | ⟨b, hb, h⟩
        · exact .inl h
        · exact .inr ⟨b, List.mem_append_left _ hb, h⟩
      · rw [List.mem_singleton.mp he]
        exact .inr ⟨a, by simp, rfl⟩
    · rcases List.mem_append.mp hb with hb | hb
      · exact List.mem_append_left _ (g.all b hb)
      · rw [List.mem_singleton.mp hb]
        simp
/-- a dict whose entries and folders are right -/
structure Stock (es : List Ent) : Prop where
  nod : Nod es
  ok : ∀ e ∈ es, EntOk e
  up : ∀ e ∈ es, ∀ a ∈ aboveT e.path, Ent.folder a ∈ es
theorem Stock.small {es : List Ent} (h : Stock es) : SmallE es := fun e he => (h.ok e he).small
theorem Stock.put {es fs : List Ent} {e : Ent} (h : Stock es) (g : Grown es (aboveT e.path) fs) (he : EntOk e) (n : ∀ x ∈ es, x.path ≠ e.path) : Stock (putE fs e) ∧ (putE fs e).length ≤ es.length + (aboveT e.path).length + 1 := by
  have n2 : ∀ x ∈ fs, x.path ≠ e.path := fun x hx => by
    rcases g.new x hx with k | ⟨a, ha, rfl⟩
    · exact n x k
    · exact above_ne he.path ha
  rw [putE_new n2]
  refine ⟨⟨nod_snoc g.nod n2, fun x hx => ?_, fun x hx a ha => ?_⟩, by rw [List.length_append]; have := g.few; simp only [List.length_cons, List.length_nil]; omega⟩
  · rcases List.mem_append.mp hx with hx | hx
    · rcases g.new x hx with k | ⟨a, ha, rfl⟩
      · exact h.ok x k
      · exact above_ok he.path ha
    · rw [List.mem_singleton.mp hx]
      exact he
  · rcases List.mem_append.mp hx with hx | hx
    · rcases g.new x hx with k | ⟨b, hb, rfl⟩
      · exact List.mem_append_left _ (g.old _ (h.up x k a ha))
      · exact List.mem_append_left _ (g.all _ (above_above he.path hb ha))
    · rw [List.mem_singleton.mp hx] at ha
      exact List.mem_append_left _ (g.all a ha)
/-! ### put in order -/
theorem lt_of_rising {x : Str} {r : List Str} (h : risingS x r = true) : ∀ y ∈ r, ltCps y.cps.toList x.cps.toList = false := by
  induction r generalizing x with
  | nil => intro y hy; cases hy
  | cons z r ih =>
    intro y hy
    have h' : (!ltCps z.cps.toList x.cps.toList && risingS z r) = true := h
    rw [Bool.and_eq_true, Bool.not_eq_true'] at h'
    rcases List.mem_cons.mp hy with rfl | hy
    · exact h'.1
    · have k := ih h'.2 y hy
      have h1 := h'.1
      rw [ltCps_eq] at k h1 ⊢
      rw [decide_eq_false_iff_not] at k h1 ⊢
      intro q
      rcases Decidable.em (x.cps.toList < z.cps.toList) with p | p
      · exact k (List.lt_trans q p)
      · have e : x.cps.toList = z.cps.toList := List.le_antisymm (List.not_lt.mp h1) (List.not_lt.mp p)
        rw [e] at q
        exact k q
theorem sorted_pairwise : ∀ {l : List Str}, sortedS l = true → l.Pairwise fun a b => ltCps b.cps.toList a.cps.toList = false
  | [], _ => .nil
  | x :: r, h => .cons (lt_of_rising h) (by
    cases r with
    | nil => exact .nil
    | cons z r =>
      have h' : (!ltCps z.cps.toList x.cps.toList && risingS z r) = true := h
      rw [Bool.and_eq_true] at h'
      exact sorted_pairwise (l := z :: r) h'.2)
theorem sorted_paths {ys : List (List Nat)} (h : sortedS (ys.map mkS) = true) (nd : ys.Nodup) : ys.Pairwise (· < ·) := by
  have p := List.pairwise_map.mp (sorted_pairwise h)
  refine (p.and nd).imp fun {a b} k => ?_
  have k1 : ltCps b a = false := k.1
  rw [ltCps_eq, decide_eq_false_iff_not] at k1
  rcases Decidable.em (a < b) with q | q
  · exact q
  · exact absurd (List.le_antisymm (List.not_lt.mp k1) (List.not_lt.mp q)) k.2
/-- the tree that a stock makes, its entries in the order of the paths -/
theorem Stock.tree {es fs : List Ent} {ys : List (List Nat)} (h : Stock es) (pm : ys.Perm (es.map Ent.path)) (so : sortedS (ys.map mkS) = true) (ef : fs.map Ent.path = ys) (sub : ∀ e ∈ fs, e ∈ es) (few : es.length ≤ 100) : TreeOk fs := by
  have nd : ys.Nodup := pm.nodup_iff.mpr h.nod
  refine ⟨fun e he => h.ok e (sub e he), ?_, fun e he a ha => ?_, ?_⟩
  · have := sorted_paths so nd
    rw [← ef, List.pairwise_map] at this
    exact this
  · have hm := h.up e (sub e he) a ha
    have : a ∈ ys := pm.mem_iff.mpr (List.mem_map.mpr ⟨_, hm, rfl⟩)
    rw [← ef] at this
    obtain ⟨x, hx, px⟩ := List.mem_map.mp this
    have : x = .folder a := h.nod.eq (sub x hx) hm px
    rw [← this]
    exact hx
  · have l1 := congrArg List.length ef
    have l2 := pm.length_eq
    rw [List.length_map] at l1 l2
    omega
/-! ### the word and the path of an entry -/
def wordOf : Ent → V
  | .folder _ => .str (Str.ofString "folder")
  | .file _ _ => .str (Str.ofString "file")
  | .link _ _ => .str (Str.ofString "link")
theorem word_ne (e : Ent) : (!decide (wordOf e = V.str (Str.ofString "folder"))) = !e.isFolder := by
  cases e with
  | folder t => exact congrArg (!·) (decide_eq_true rfl)
  | file t b => exact congrArg (!·) (decide_eq_false fun k => absurd (V.str.inj k) (by decide +kernel))
  | link t g => exact congrArg (!·) (decide_eq_false fun k => absurd (V.str.inj k) (by decide +kernel))
theorem dpWord {K : PySem.W.Frag} {H : Hp} {v : V} {e : Ent} (h : Dp K H v (dEnt e)) : ∃ t xs, v = .ref t ∧ SqT K H t xs ∧ xs[0]? = some (wordOf e) ∧ xs[1]? = some (T e.path) := by
  obtain ⟨t, xs, rfl, ht, k⟩ := dpEnt h
  refine ⟨t, xs, rfl, ht, ?_⟩
  cases e with
  | folder p => rw [k]; exact ⟨rfl, rfl⟩
  | file p b => obtain ⟨u, rfl, _⟩ := k; exact ⟨rfl, rfl⟩
  | link p g => rw [k]; exact ⟨rfl, rfl⟩
theorem choose_ents {K : PySem.W.Frag} {H : Hp} {es : List Ent} : ∀ {xs ys : List V}, Al2 (fun x y => ∃ e ∈ es, x = T e.path ∧ Dp K H y (dEnt e)) xs ys → ∃ fs : List Ent, xs = fs.map (fun e => T e.path) ∧ (∀ e ∈ fs, e ∈ es) ∧ DpAll K H ys (fs.map dEnt)
  | _, _, .nil => ⟨[], rfl, (fun e h => by cases h), .nil⟩
  | _, _, .cons ⟨e, he, hx, hd⟩ hs => by
    obtain ⟨fs, hf, hm, hD⟩ := choose_ents hs
    refine ⟨e :: fs, by rw [hx, hf]; rfl, fun x hx => ?_, .cons hd hD⟩
    rcases List.mem_cons.mp hx with rfl | hx
    · exact he
    · exact hm x hx
end Fc

namespace Fc
open PySem PySem.Spec L2 PyProof.Rows
/-! ### the way over links -/
inductive LRes where
  | out
  | noEntry
  | notFolder
  | tooFar
  | ok (here : List (List Nat))
def landW (es : List Ent) (links : Nat) (here : List (List Nat)) : List (List Nat) → LRes
  | [] => .ok here
  | p :: r => if p = dots then (if here = [] then .out else landW es links here.dropLast r) else match atE es (pathOf (here ++ [p])) with
    | none => .noEntry
    | some (.link _ g) => if 20 ≤ links then .tooFar else landW es (links + 1) here (splitC 47 g ++ r)
    | some (.file _ _) => if r ≠ [] then .notFolder else .ok (here ++ [p])
    | some (.folder _) => landW es links (here ++ [p]) r
termination_by rest => (20 - links, rest.length)
decreasing_by all_goals (simp_wf; first | (apply Prod.Lex.right; omega) | (apply Prod.Lex.left; omega) | omega)
/-- the program's landing, of a tree and a path -/
def landF (es : List Ent) (t : List Nat) : LRes := landW es 0 [] (splitC 47 t)
theorem landW_nil {es : List Ent} {l : Nat} {h : List (List Nat)} : landW es l h [] = .ok h := by rw [landW]
theorem landW_dots {es : List Ent} {l : Nat} {h r : List (List Nat)} : landW es l h (dots :: r) = if h = [] then .out else landW es l h.dropLast r := by rw [landW, if_pos rfl]
theorem landW_none {es : List Ent} {l : Nat} {h r : List (List Nat)} {p : List Nat} (n : p ≠ dots) (e : atE es (pathOf (h ++ [p])) = none) : landW es l h (p :: r) = .noEntry := by rw [landW, if_neg n, e]
theorem landW_link {es : List Ent} {l : Nat} {h r : List (List Nat)} {p t g : List Nat} (n : p ≠ dots) (e : atE es (pathOf (h ++ [p])) = some (.link t g)) : landW es l h (p :: r) = if 20 ≤ l then .tooFar else landW es (l + 1) h (splitC 47 g ++ r) := by rw [landW, if_neg n, e]
theorem landW_file {es : List Ent} {l : Nat} {h r : List (List Nat)} {p t : List Nat} {b : List Int} (n : p ≠ dots) (e : atE es (pathOf (h ++ [p])) = some (.file t b)) : landW es l h (p :: r) = if r ≠ [] then .notFolder else .ok (h ++ [p]) := by rw [landW, if_neg n, e]
theorem landW_folder {es : List Ent} {l : Nat} {h r : List (List Nat)} {p t : List Nat} (n : p ≠ dots) (e : atE es (pathOf (h ++ [p])) = some (.folder t)) : landW es l h (p :: r) = landW es l (h ++ [p]) r := by rw [landW, if_neg n, e]
/-! ### where it ends it ends again -/
def Fold (es : List Ent) (h : List (List Nat)) : Prop := ∀ k, k < h.length → ∃ p t, h[k]? = some p ∧ p ≠ dots ∧ atE es (pathOf (h.take (k + 1))) = some (.folder t)
theorem Fold.nil (es : List Ent) : Fold es [] := fun k h => by cases h
theorem Fold.snoc {es : List Ent} {h : List (List Nat)} {p t : List Nat} (f : Fold es h) (n : p ≠ dots) (e : atE es (pathOf (h ++ [p])) = some (.folder t)) : Fold es (h ++ [p]) := by
  intro k lk
  rw [List.length_append] at lk
  simp only [List.length_cons, List.length_nil] at lk
  by_cases z : k < h.length
  · obtain ⟨q, u, h1, h2, h3⟩ := f k z
    refine ⟨q, u, ?_, h2, ?_⟩
    · rw [List.getElem?_append_left z]; exact h1
    · rw [List.take_append_of_le_length (by omega)]; exact h3
  · have e2 : k = h.length := by omega
    subst e2
    refine ⟨p, t, ?_, n, ?_⟩
    · rw [List.getElem?_append_right (Nat.le_refl _), Nat.sub_self]; rfl
    · rw [List.take_of_length_le (by rw [List.length_append]; simp)]; exact e
theorem Fold.dropLast {es : List Ent} {h : List (List Nat)} (f : Fold es h) : Fold es h.dropLast := by
  intro k lk
  rw [List.length_dropLast] at lk
  obtain ⟨q, u, h1, h2, h3⟩ := f k (by omega)
  refine ⟨q, u, ?_, h2, ?_⟩
  · rw [List.getElem?_dropLast, if_pos lk]; exact h1
  · rw [List.dropLast_eq_take, List.take_take, Nat.min_eq_left (by omega)]; exact h3
/-- the end of a way -/
def EndAt (es : List Ent) (h : List (List Nat)) : Prop := Fold es h ∨ ∃ g p t b, h = g ++ [p] ∧ Fold es g ∧ p ≠ dots ∧ atE es (pathOf h) = some (.file t b)
theorem land_end (es : List Ent) : ∀ (n : Nat) (l : Nat) (h r : List (List Nat)) (z : List (List Nat)), 20 - l ≤ n → Fold es h → landW es l h r = .ok z → EndAt es z := by
  intro n
  induction n with
  | zero =>
    intro l h r z hn f e
    induction r generalizing h with
    | nil => rw [landW_nil] at e; cases e; exact .inl f
    | cons p r ih =>
      by_cases d : p = dots
      · subst d
        rw [landW_dots] at e
        split at e
        · cases e
        · exact ih _ f.dropLast e
      · cases a : atE es (pathOf (h ++ [p])) with
        | none => rw [landW_none d a] at e; cases e
        | some x =>
          cases x with
          | folder t => rw [landW_folder d a] at e; exact ih _ (f.snoc d a) e
          | file t b =>
            rw [landW_file d a] at e
            split at e
            · cases e
            · cases e
              exact .inr ⟨h, p, t, b, rfl, f, d, a⟩
          | link t g =>
            rw [landW_link d a, if_pos (by omega)] at e
            cases e
  | succ n ihn =>
    intro l h r z hn f e
    induction r generalizing h with
    | nil => rw [landW_nil] at e; cases e; exact .inl f
    | cons p r ih =>
      by_cases d : p = dots
      · subst d
        rw [landW_dots] at e
        split at e
        · cases e
        · exact ih _ f.dropLast e
      · cases a : atE es (pathOf (h ++ [p])) with
        | none => rw [landW_none d a] at e; cases e
        | some x =>
          cases x with
          | folder t => rw [landW_folder d a] at e; exact ih _ (f.snoc d a) e
          | file t b =>
            rw [landW_file d a] at e
            split at e
            · cases e
            · cases e
              exact .inr ⟨h, p, t, b, rfl, f, d, a⟩
          | link t g =>
            rw [landW_link d a] at e
            split at e
            · cases e
            · exact ihn _ _ _ _ (by omega) f e
theorem walk_fold (es : List Ent) (l : Nat) (z r : List (List Nat)) (f : Fold es z) : ∀ (n : Nat) (k : Nat), z.length - k ≤ n → k ≤ z.length → landW es l (z.take k) (z.drop k ++ r) = landW es l z r := by
  intro n
  induction n with
  | zero =>
    intro k h1 h2
    have e : k = z.length := by omega
    rw [e, List.take_length, List.drop_length, List.nil_append]
  | succ n ih =>
    intro k h1 h2
    by_cases e : k = z.length
    · rw [e, List.take_length, List.drop_length, List.nil_append]
    · have lt : k < z.length := by omega
      obtain ⟨p, t, hp, d, a⟩ := f k lt
      have ez : z[k] = p := by
        rw [List.getElem?_eq_getElem lt] at hp
        exact Option.some.inj hp
      have et : z.take (k + 1) = z.take k ++ [p] := by
        rw [List.take_add_one, hp]
        rfl
      rw [List.drop_eq_getElem_cons lt, ez, List.cons_append, landW_folder d (t := t) (by rw [← et]; exact a), ← et]
      exact ih (k + 1) (by omega) (by omega)
theorem land_again {es : List Ent} {z : List (List Nat)} (h : EndAt es z) : landW es 0 [] z = .ok z := by
  rcases h with f | ⟨g, p, t, b, rfl, f, d, a⟩
  · have := walk_fold es 0 z [] f z.length 0 (by omega) (by omega)
    rw [List.take_zero, List.drop_zero, List.append_nil, landW_nil] at this
    exact this
  · have := walk_fold es 0 g [p] f g.length 0 (by omega) (by omega)
    rw [List.take_zero, List.drop_zero, landW_file d a, if_neg (fun k => k rfl)] at this
    exact this
/-! ### parts of ways, as texts -/
def Way (r : List (List Nat)) : Prop := ∀ p ∈ r, p = dots ∨ partOk p
def Goals (es : List Ent) : Prop := ∀ t g, Ent.link t g ∈ es → GoalT g
theorem pathOf_snoc {h : List (List Nat)} {p : List Nat} (n : h ≠ []) : pathOf (h ++ [p]) = pathOf h ++ [47] ++ p := by
  unfold pathOf
  induction h with
  | nil => exact absurd rfl n
  | cons x r ih =>
    cases r with
    | nil =>
      show x ++ ([47] ++ p) = x ++ [47] ++ p
      rw [List.append_assoc]
    | cons y r2 =>
      have := ih (by simp)
      show x ++ ([47] ++ joinC 47 ((y :: r2) ++ [p])) = x ++ ([47] ++ joinC 47 (y :: r2)) ++ [47] ++ p
      rw [this]
      simp
theorem fold_ne {h : List (List Nat)} (hp : ∀ p ∈ h, partOk p) : pathOf h = [] ↔ h = [] := by
  constructor
  · intro e
    by_cases z : h = []
    · exact z
    · exact absurd e (join_ne z fun p k => part_ne (hp p k))
  · intro e; rw [e]; rfl
theorem split_parts {h : List (List Nat)} (n : h ≠ []) (hp : ∀ p ∈ h, partOk p) : splitC 47 (pathOf h) = h := split_joinC 47 n fun p k => no_stroke (hp p k)
/-! ### a tree with less links tells no more ways out -/
theorem land_less (es fs : List Ent) (sub : ∀ t e, atE fs t = some e → atE es t = some e) : ∀ (n : Nat) (l : Nat) (h r : List (List Nat)), 20 - l ≤ n → landW fs l h r = .out → landW es l h r = .out := by
  intro n
  have core : ∀ (l : Nat) (ihn : ∀ (h r : List (List Nat)), ¬ 20 ≤ l → landW fs (l + 1) h r = .out → landW es (l + 1) h r = .out) (h r : List (List Nat)), landW fs l h r = .out → landW es l h r = .out := by
    intro l ihn h r e
    induction r generalizing h with
    | nil => rw [landW_nil] at e; cases e
    | cons p r ih =>
      by_cases d : p = dots
      · subst d
        rw [landW_dots] at e ⊢
        split at e
        · rename_i z; rw [if_pos z]
        · rename_i z; rw [if_neg z]; exact ih _ e
      · cases a : atE fs (pathOf (h ++ [p])) with
        | none => rw [landW_none d a] at e; cases e
        | some x =>
          have a2 := sub _ _ a
          cases x with
          | folder t => rw [landW_folder d a] at e; rw [landW_folder d a2]; exact ih _ e
          | file t b =>
            rw [landW_file d a] at e
            split at e <;> cases e
          | link t g =>
            rw [landW_link d a] at e
            rw [landW_link d a2]
            split at e
            · cases e
            · rename_i z
              rw [if_neg z]
              exact ihn _ _ z e
  induction n with
  | zero => exact fun l h r hn => core l (fun h r z => absurd z (by omega)) h r
  | succ n ihn => exact fun l h r hn => core l (fun h r z => ihn (l + 1) h r (by omega)) h r
/-! ### entries put in a dict, in their place or at the end -/
theorem putE_mem {es : List Ent} {e x : Ent} (h : x ∈ putE es e) : x = e ∨ (x ∈ es ∧ x.path ≠ e.path) := by
  unfold putE at h
  split at h
  · obtain ⟨y, hy, rfl⟩ := List.mem_map.mp h
    by_cases z : y.path = e.path
    · rw [if_pos z]; exact .inl rfl
    · rw [if_neg z]; exact .inr ⟨hy, z⟩
  · rename_i n
    rcases List.mem_append.mp h with h | h
    · by_cases z : x.path = e.path
      · exact absurd (List.any_eq_true.mpr ⟨x, h, decide_eq_true z⟩) n
      · exact .inr ⟨h, z⟩
    · exact .inl (List.mem_singleton.mp h)
theorem mem_putE {es : List Ent} {e x : Ent} (h : x ∈ es) (n : x.path ≠ e.path) : x ∈ putE es e := by
  unfold putE
  split
  · exact List.mem_map.mpr ⟨x, h, by rw [if_neg n]⟩
  · exact List.mem_append_left _ h
theorem putE_self {es : List Ent} {e : Ent} : e ∈ putE es e := by
  unfold putE
  split
  · rename_i h
    obtain ⟨x, hx, px⟩ := List.any_eq_true.mp h
    exact List.mem_map.mpr ⟨x, hx, by rw [if_pos (of_decide_eq_true px)]⟩
  · simp
theorem putE_nod {es : List Ent} {e : Ent} (h : Nod es) : Nod (putE es e) := by
  unfold putE
  split
  · unfold Nod
    rw [List.map_map]
    have : es.map (Ent.path ∘ fun x => if x.path = e.path then e else x) = es.map Ent.path := List.map_congr_left fun y hy => by
      show (if y.path = e.path then e else y).path = y.path
      by_cases z : y.path = e.path
      · rw [if_pos z, z]
      · rw [if_neg z]
    rw [this]
    exact h
  · rename_i n
    exact nod_snoc h fun x hx k => n (List.any_eq_true.mpr ⟨x, hx, decide_eq_true k⟩)
theorem putE_few {es : List Ent} {e : Ent} : (putE es e).length ≤ es.length + 1 := by
  unfold putE
  split
  · rw [List.length_map]; omega
  · rw [List.length_append]; simp
theorem putE_small {es : List Ent} {e : Ent} (h : SmallE es) (k : ∀ t b, e = .file t b → b.length ≤ 1000) : SmallE (putE es e) := by
  intro x hx
  rcases putE_mem hx with rfl | ⟨hx, _⟩
  · exact k
  · exact h x hx
/-! ### the web's paths -/
instance (ps : List (List Nat)) : Decidable (PathOk ps) := by unfold PathOk; infer_instance
instance (t : List Nat) : Decidable (PathT t) := by unfold PathT; infer_instance
def sixP : List (List Nat) := [[97], [97, 47, 98], [97, 47, 98, 47, 97], [98], [98, 47, 97], [99]]
def webF : List (List Nat) := [[], [97, 47], [97, 47, 98, 47], [98, 47], [98, 47, 97, 47], [99, 47], [97, 47, 98, 47, 97, 47], [98, 47]]
abbrev Low (t : List Nat) : Prop := (splitC 47 t).length ≤ 4 ∧ t < [113]
theorem web_ok : ∀ f ∈ webF, ∀ c ∈ [108, 109, 110], PathT (f ++ [c]) ∧ (∀ a ∈ aboveT (f ++ [c]), a ∈ sixP) ∧ f ++ [c] ∉ sixP ∧ Low (f ++ [c]) := by decide +kernel
theorem six_ok : ∀ t ∈ sixP, PathT t ∧ (∀ a ∈ aboveT t, a ∈ sixP) ∧ Low t := by decide +kernel
structure Web (es : List Ent) : Prop where
  nod : Nod es
  ok : ∀ e ∈ es, EntOk e
  six : ∀ s ∈ sixP, Ent.folder s ∈ es
  up : ∀ e ∈ es, ∀ a ∈ aboveT e.path, a ∈ sixP
  low : ∀ e ∈ es, Low e.path
theorem Web.stock {es : List Ent} (h : Web es) : Stock es := ⟨h.nod, h.ok, fun e he a ha => h.six a (h.up e he a ha)⟩
theorem Web.put {es : List Ent} {e : Ent} (h : Web es) (he : EntOk e) (hu : ∀ a ∈ aboveT e.path, a ∈ sixP) (n : e.path ∉ sixP) (lo : Low e.path) : Web (putE es e) := by
  refine ⟨putE_nod h.nod, fun x hx => ?_, fun s hs => mem_putE (h.six s hs) fun k => n (by rw [← k]; exact hs), fun x hx => ?_, fun x hx => ?_⟩
  · rcases putE_mem hx with rfl | ⟨hx, _⟩
    · exact he
    · exact h.ok x hx
  · rcases putE_mem hx with rfl | ⟨hx, _⟩
    · exact hu
    · exact h.up x hx
  · rcases putE_mem hx with rfl | ⟨hx, _⟩
    · exact lo
    · exact h.low x hx
/-- the entries in the heap, one by one -/
theorem dpTree {K : PySem.W.Frag} {H : Hp} {v : V} {es : List Ent} (h : Dp K H v (dTree es)) : ∃ t xs, v = .ref t ∧ SqT K H t xs ∧ Al2 (fun e x => Dp K H x (dEnt e)) es xs := by
  cases h with
  | @tup p xs _ hp hxs =>
    refine ⟨p, xs, rfl, hp, ?_⟩
    have : ∀ {xs : List V} {es : List Ent}, DpAll K H xs (es.map dEnt) → Al2 (fun e x => Dp K H x (dEnt e)) es xs := by
      intro xs es
      induction es generalizing xs with
      | nil => intro k; cases k; exact .nil
      | cons e r ih =>
        intro k
        cases k with
        | cons k1 ks => exact .cons k1 (ih ks)
    exact this hxs
theorem al2_small {K : PySem.W.Frag} {H H' : Hp} : ∀ {es : List Ent} {xs : List V}, Al2 (fun e x => Dp K H x (dEnt e)) es xs → (∀ e x, e ∈ es → Dp K H x (dEnt e) → Dp K H' x (dEnt e)) → Al2 (fun e x => Dp K H' x (dEnt e)) es xs
  | _, _, .nil, _ => .nil
  | _, _, .cons h hs, f => .cons (f _ _ (List.mem_cons_self ..) h) (al2_small hs fun e x he => f e x (List.mem_cons_of_mem _ he))
theorem filter_at {es : List Ent} (nd : Nod es) (t : List Nat) : es.filter (fun e => decide (e.path = t)) = (atE es t).toList := by
  induction es with
  | nil => rfl
  | cons e r ih =>
    have nd' : Nod r := by
      rw [Nod, List.map_cons, List.nodup_cons] at nd
      exact nd.2
    by_cases z : e.path = t
    · have none : atE r t = none := by
        cases k : atE r t with
        | none => rfl
        | some e' =>
          obtain ⟨he, pe⟩ := atE_mem k
          rw [Nod, List.map_cons, List.nodup_cons] at nd
          exact absurd (List.mem_map.mpr ⟨e', he, pe.trans z.symm⟩) nd.1
      rw [List.filter_cons_of_pos (by simpa using z), ih nd', none]
      unfold atE
      rw [List.find?_cons_of_pos (by simpa using z)]
      rfl
    · rw [List.filter_cons_of_neg (by simpa using z), ih nd']
      unfold atE
      rw [List.find?_cons_of_neg (by simpa using z)]
theorem nod_of {es : List Ent} (h : es.Pairwise fun a b => a.path < b.path) : Nod es := by
  unfold Nod
  rw [List.Nodup, List.pairwise_map]
  exact h.imp fun {a b} k e => by rw [e] at k; exact List.lt_irrefl _ k
theorem TreeOk.nod {es : List Ent} (h : TreeOk es) : Nod es := nod_of h.rise
theorem dpWord3 {K : PySem.W.Frag} {H : Hp} {v : V} {e : Ent} (h : Dp K H v (dEnt e)) : ∃ t xs, v = .ref t ∧ SqT K H t xs ∧ xs[0]? = some (wordOf e) ∧ xs[1]? = some (T e.path) ∧ ∀ p g, e = .link p g → xs[2]? = some (T g) := by
  obtain ⟨t, xs, rfl, ht, k⟩ := dpEnt h
  refine ⟨t, xs, rfl, ht, ?_⟩
  cases e with
  | folder p => rw [k]; exact ⟨rfl, rfl, fun _ _ z => by cases z⟩
  | file p b => obtain ⟨u, rfl, _⟩ := k; exact ⟨rfl, rfl, fun _ _ z => by cases z⟩
  | link p g => rw [k]; exact ⟨rfl, rfl, fun _ _ z => by cases z; rfl⟩
theorem GoalT.len {g : List Nat} (h : GoalT g) : g.length ≤ 200 := by
  have := joinC_len 47 (splitC 47 g) 12 fun p hp => by
    rcases h.2 p hp with k | k
    · rw [k]; decide
    · exact k.2.1
  rw [join_split] at this
  have := h.1
  omega
theorem cutV_last (xs : List V) : cutV xs none (some (-1)) = xs.dropLast := by
  unfold cutV
  have ls : HT.sIx xs.length xs.length (some (-1)) = xs.length - 1 := by
    show (if (-1 : Int) < 0 then (-1 + (xs.length : Int)).toNat else min (-1 : Int).toNat xs.length) = _
    rw [if_pos (by decide)]
    omega
  rw [HT.sIx_none, ls, List.drop_zero, Nat.sub_zero, List.dropLast_eq_take]
theorem word_is {x : V} (h : x = x) : decide (x = x) = true := decide_eq_true h
theorem word_isnt {a b : String} (h : Str.ofString a ≠ Str.ofString b) : decide (V.str (Str.ofString a) = V.str (Str.ofString b)) = false := decide_eq_false fun k => h (V.str.inj k)
theorem iteW {b : Bool} {a c : Prop} (h : b = true) (k : a) : if b = true then a else c := by
  rw [h, if_pos rfl]
  exact k
theorem iteNW {b : Bool} {a c : Prop} (h : b = false) (k : c) : if b = true then a else c := by
  rw [h, if_neg Bool.false_ne_true]
  exact k
/-! ### the links that lead out -/
def Ent.isLink : Ent → Bool
  | .link _ _ => true
  | _ => false
def LRes.isOut : LRes → Bool
  | .out => true
  | _ => false
def goesOut (es : List Ent) (e : Ent) : Bool := (landF es e.path).isOut
def outF (es : List Ent) : List (List Nat) := ((es.filter Ent.isLink).filter (goesOut es)).map Ent.path
def lessF (es : List Ent) : List Ent := es.filter fun e => !decide (e.path ∈ outF es)
theorem outF_link {es : List Ent} (nd : Nod es) {e : Ent} (he : e ∈ es) (h : e.path ∈ outF es) : e.isLink = true ∧ goesOut es e = true := by
  unfold outF at h
  obtain ⟨x, hx, px⟩ := List.mem_map.mp h
  obtain ⟨hx, k2⟩ := List.mem_filter.mp hx
  obtain ⟨hx, k1⟩ := List.mem_filter.mp hx
  rw [nd.eq hx he px] at k1 k2
  exact ⟨k1, k2⟩
theorem less_tree {es : List Ent} (h : TreeOk es) : TreeOk (lessF es) := by
  refine ⟨fun e he => h.ok e (List.mem_filter.mp he).1, h.rise.sublist List.filter_sublist, fun e he a ha => ?_, Nat.le_trans (List.length_filter_le ..) h.few⟩
  have hf := h.up e (List.mem_filter.mp he).1 a ha
  refine List.mem_filter.mpr ⟨hf, ?_⟩
  rw [Bool.not_eq_true', decide_eq_false_iff_not]
  intro k
  have := outF_link h.nod hf k
  exact absurd this.1 (by simp [Ent.isLink])
theorem less_out {es : List Ent} (h : TreeOk es) : outF (lessF es) = [] := by
  have sub : ∀ t e, atE (lessF es) t = some e → atE es t = some e := fun t e k => by
    obtain ⟨he, pe⟩ := atE_mem k
    have := atE_of h.nod (List.mem_filter.mp he).1
    rw [pe] at this
    exact this
  unfold outF
  rw [List.map_eq_nil_iff, List.filter_eq_nil_iff]
  intro e he k
  obtain ⟨he, kl⟩ := List.mem_filter.mp he
  obtain ⟨he, kn⟩ := List.mem_filter.mp he
  rw [Bool.not_eq_true', decide_eq_false_iff_not] at kn
  refine kn ?_
  unfold outF
  refine List.mem_map.mpr ⟨e, List.mem_filter.mpr ⟨List.mem_filter.mpr ⟨he, kl⟩, ?_⟩, rfl⟩
  unfold goesOut landF at k ⊢
  have ko : landW (lessF es) 0 [] (splitC 47 e.path) = .out := by
    cases e2 : landW (lessF es) 0 [] (splitC 47 e.path) with
    | out => rfl
    | noEntry => rw [e2] at k; cases k
    | notFolder => rw [e2] at k; cases k
    | tooFar => rw [e2] at k; cases k
    | ok z => rw [e2] at k; cases k
  rw [land_less es (lessF es) sub 20 0 [] _ (by omega) ko]
  rfl
theorem land_parts (es : List Ent) (hg : Goals es) : ∀ (n : Nat) (l : Nat) (h r : List (List Nat)) (z : List (List Nat)), 20 - l ≤ n → (∀ p ∈ h, partOk p) → Way r → landW es l h r = .ok z → ∀ p ∈ z, partOk p := by
  have snoc : ∀ (h : List (List Nat)) (p : List Nat), (∀ p ∈ h, partOk p) → partOk p → ∀ x ∈ h ++ [p], partOk x := fun h p hh hp x hx => by
    rcases List.mem_append.mp hx with k | k
    · exact hh x k
    · rw [List.mem_singleton.mp k]; exact hp
  have core : ∀ (l : Nat) (ihn : ∀ (h r z : List (List Nat)), ¬ 20 ≤ l → (∀ p ∈ h, partOk p) → Way r → landW es (l + 1) h r = .ok z → ∀ p ∈ z, partOk p) (h r z : List (List Nat)), (∀ p ∈ h, partOk p) → Way r → landW es l h r = .ok z → ∀ p ∈ z, partOk p := by
    intro l ihn h r z hh wr e
    induction r generalizing h with
    | nil => rw [landW_nil] at e; cases e; exact hh
    | cons p r ih =>
      have wr2 : Way r := fun x hx => wr x (List.mem_cons_of_mem _ hx)
      by_cases d : p = dots
      · subst d
        rw [landW_dots] at e
        split at e
        · cases e
        · exact ih _ (fun x hx => hh x ((List.dropLast_sublist _).mem hx)) wr2 e
      · have pk : partOk p := by
          rcases wr p (by simp) with k | k
          · exact absurd k d
          · exact k
        cases a : atE es (pathOf (h ++ [p])) with
        | none => rw [landW_none d a] at e; cases e
        | some x =>
          cases x with
          | folder t => rw [landW_folder d a] at e; exact ih _ (snoc h p hh pk) wr2 e
          | file t b =>
            rw [landW_file d a] at e
            split at e
            · cases e
            · cases e
              exact snoc h p hh pk
          | link t g =>
            rw [landW_link d a] at e
            split at e
            · cases e
            · rename_i k
              refine ihn _ _ _ k hh (fun x hx => ?_) e
              rcases List.mem_append.mp hx with hx | hx
              · exact (hg t g (atE_mem a).1).2 x hx
              · exact wr2 x hx
  intro n
  induction n with
  | zero => exact fun l h r z hn => core l (fun h r z k => absurd k (by omega)) h r z
  | succ n ihn => exact fun l h r z hn => core l (fun h r z k => ihn (l + 1) h r z (by omega)) h r z
theorem TreeOk.goals {es : List Ent} (h : TreeOk es) : Goals es := fun t g k => (h.ok _ k).2
theorem landF_parts {es : List Ent} (h : TreeOk es) {t : List Nat} (ht : PathT t) {z : List (List Nat)} (e : landF es t = .ok z) : ∀ p ∈ z, partOk p :=
  land_parts es h.goals 20 0 [] _ z (by omega) (fun p hp => by cases hp) (fun p hp => .inr (ht.2.2 p hp)) e
def landV : LRes → V
  | .out => .str (Str.ofString "LeadsOut")
  | .noEntry => .str (Str.ofString "NoEntry")
  | .notFolder => .str (Str.ofString "NotFolder")
  | .tooFar => .str (Str.ofString "TooFar")
  | .ok h => T (pathOf h)
theorem path_word {z : List (List Nat)} (h : ∀ p ∈ z, partOk p) {c : Nat} {r : List Nat} (hc : c ∉ good) (x : String) (hx : Str.ofString x = mkS (c :: r)) : T (pathOf z) ≠ V.str (Str.ofString x) := by
  intro e
  rw [hx] at e
  have e2 : pathOf z = c :: r := T_inj e
  cases z with
  | nil => cases e2
  | cons p q =>
    have pk := h p (by simp)
    cases p with
    | nil => exact absurd pk.1 (by decide)
    | cons d s =>
      have : (pathOf ((d :: s) :: q)).head? = some d := by
        cases q with
        | nil => rfl
        | cons p2 q2 => rfl
      rw [e2] at this
      have ed : c = d := Option.some.inj this
      exact hc (by rw [ed]; exact pk.2.2.2.2 d (by simp))
theorem landV_out {es : List Ent} (h : TreeOk es) {t : List Nat} (ht : PathT t) : decide (landV (landF es t) = V.str (Str.ofString "LeadsOut")) = (landF es t).isOut := by
  cases e : landF es t with
  | out => exact decide_eq_true rfl
  | noEntry => exact decide_eq_false fun k => absurd (V.str.inj k) (by decide +kernel)
  | notFolder => exact decide_eq_false fun k => absurd (V.str.inj k) (by decide +kernel)
  | tooFar => exact decide_eq_false fun k => absurd (V.str.inj k) (by decide +kernel)
  | ok z => exact decide_eq_false (path_word (landF_parts h ht e) (c := 76) (r := [101, 97, 100, 115, 79, 117, 116]) (by decide) "LeadsOut" (by decide +kernel))
theorem word_link (e : Ent) : decide (wordOf e = V.str (Str.ofString "link")) = e.isLink := by
  cases e with
  | folder t => exact decide_eq_false fun k => absurd (V.str.inj k) (by decide +kernel)
  | file t b => exact decide_eq_false fun k => absurd (V.str.inj k) (by decide +kernel)
  | link t g => exact decide_eq_true rfl
theorem dpTreeOf {K : PySem.W.Frag} {H : Hp} {t : Addr} {xs : List V} {es : List Ent} (h : SqT K H t xs) (al : Al2 (fun e x => Dp K H x (dEnt e)) es xs) : Dp K H (.ref t) (dTree es) := by
  refine .tup h ?_
  clear h
  induction al with
  | nil => exact .nil
  | cons d _ ih => exact .cons d ih
end Fc

namespace Fc
open PySem PySem.Spec L2 PyProof.Rows
/-! ### except clauses over a class or over a row of classes -/
/-- the test of a clause, over the classes cs -/
def TestOk (X : Cx) (e : Expr) (cs : List Value) : Prop :=
  ∀ (a : Addr) (oe : Obj) (pn : List (Addr × Obj)) (σ : L2.St) (H : Hp) (s : Shared) (cls : Value) (b : Bool) (Q : Bool → Shared → Prop) (E : Value → Shared → Prop), Inv (X.suite a ((a, oe) :: pn)) [] σ H s → X.K.In s.heap →
    PySem.W.Looks (model X.prog X.w) s.heap (typeOf (.ref a)) cls → PySem.W.exmAny X.K cls cs = some b → (∀ h', (∀ q o, s.heap.get? q = some o → h'.get? q = some o) → Q b { s with heap := h' }) →
    wpAny (model X.prog X.w) (X.A.mark (some (.ref a))) (eval e X.env) (fun c s₁ => wpAny (model X.prog X.w) (X.A.mark (some (.ref a))) (excMatches (.ref a) c) Q E s₁) E s
section
variable {X : Cx}
theorem ld_name {x : Str} {c : Value} {np : Pos} (hc : Names X x c) {a : Addr} {oe : Obj} {pn : List (Addr × Obj)} {σ : L2.St} {H : Hp} {s : Shared} {Q : Value → Shared → Prop} {E : Value → Shared → Prop} (I : Inv (X.suite a ((a, oe) :: pn)) [] σ H s) (q : Q c s) :
    wpAny (model X.prog X.w) (X.A.mark (some (.ref a))) (eval (.Name x np) X.env) Q E s := by
  obtain ⟨hg, hdbg, hm | ⟨hm, hv, hnn⟩⟩ := hc
  · exact ld_glob (X := X.suite a ((a, oe) :: pn)) I hg hm q hdbg
  · exact ld_blt (X := X.suite a ((a, oe) :: pn)) I hg hm hv q hnn hdbg
theorem test_nameC {x : Str} {c : Value} {np : Pos} (hc : Names X x c) : TestOk X (.Name x np) [c] := fun a oe pn σ H s cls b Q E I kI LT hx q => by
  obtain ⟨b1, d1, x1, y1, rfl⟩ := PySem.W.exmAny_cons hx
  have w : some false = some d1 := y1
  cases w
  rw [Bool.or_false] at q
  exact ld_name hc I ((PySem.W.exm_one (M := model X.prog X.w) kI LT x1).here (q s.heap fun _ _ z => z))
theorem test_tup3C {x1 x2 x3 : Str} {c1 c2 c3 : Value} {p1 p2 p3 tp : Pos} {kk : Nat} (h1 : Names X x1 c1) (h2 : Names X x2 c2) (h3 : Names X x3 c3) : TestOk X (.Tuple [.Name x1 p1, .Name x2 p2, .Name x3 p3] kk tp) [c1, c2, c3] := fun a oe pn σ H s cls b Q E I kI LT hx q => by
  refine wpAny_Tuple ?_
  refine wpAny_items_cons (ld_name h1 I ?_)
  refine wpAny_items_cons (ld_name h2 I ?_)
  refine wpAny_items_cons (ld_name h3 I ?_)
  refine wpAny_items_nil ⟨by show 3 ≤ sizeLine; rw [sizeLine_eq]; decide, ?_⟩
  have kp : ∀ q o, s.heap.get? q = some o → (s.heap.push { cls := .type "tuple", data := .seq [c1, c2, c3].toArray }).get? q = some o := fun _ _ z => Heap.get?_push_of_some _ z
  exact (PySem.W.exm_tup3 (kI.keeps kp) (LT.keeps kp) (Heap.get?_push_size s.heap rfl) hx).here (q _ kp)
end
/-- what the clauses wish of an exception of the body; one of them takes it -/
def wRow (K : PySem.W.Frag) (D : Ends) : List (List Value × TS) → WX
  | [] => fun _ _ _ _ => False
  | (cs, ts) :: r => fun cls d σ H => ∃ b, PySem.W.exmAny K cls cs = some b ∧ (b = true → ts D σ H) ∧ (b = false → wRow K D r cls d σ H)
inductive Hds (X : Cx) : List ExceptHandler → List (List Value × TS) → Prop
  | nil : Hds X [] []
  | cons {e : Expr} {cs : List Value} {ts : TS} {b₀ : Stmt} {suite : List Stmt} {pos' : Pos} {hds : List ExceptHandler} {l : List (List Value × TS)} (ht : TestOk X e cs)
      (hsu : ∀ (a : Addr) (oe : Obj) (pn : List (Addr × Obj)), PSs (X.suite a ((a, oe) :: pn)) (b₀ :: suite) ts) (r : Hds X hds l) : Hds X (.ExceptHandler (some e) none (b₀ :: suite) pos' :: hds) ((cs, ts) :: l)
theorem fly_keeps {B h h' : Heap} {l : List Env} {a : Addr} {Z : Obj → Prop} (f : HandSPX.FlyingZ B l a Z h) (k : ∀ b o, h.get? b = some o → h'.get? b = some o) : HandSPX.FlyingZ B l a Z h' := by
  obtain ⟨f1, f2, f3, oe, vs, T, oT, ts, g1, g2, g3, g4, g5, g6, g7, g8, g9⟩ := f
  exact ⟨fun b o q => k b o (f1 b o q), f2, f3.of_keeps fun b o q _ => ⟨o, k b o q, rfl⟩, oe, vs, T, oT, ts, k _ _ g1, g2, g3, g4, g5, g6, k _ _ g7, g8, g9⟩
section
variable {X : Cx}
/-- the clauses, one behind the other, while the exception at a flies -/
theorem rows_run {D : Ends} {a : Addr} {B : Heap} {sI : Shared} {pins : List (Addr × Obj)} {σ : L2.St} {H : Hp} {cls : Value} {d : Option Addr} (ok : X.Ok) (hf : X.env.frame = some X.env.locals) (J : Inv X pins σ H sI) (nb : ∀ b o, sI.heap.get? b = some o → b ∉ frs X.stack → B.get? b = some o) (na : H a = none) {hds : List ExceptHandler} {l : List (List Value × TS)} (hk : Hds X hds l) :
    ∀ s : Shared, HandSPX.FlyingZ B (X.env :: X.outer) a (Zc cls d) s.heap → sI.heap.UpToSlots s.heap → s.os = sI.os → AllBare s.gens → wRow X.K D l cls d σ H → wpAny (model X.prog X.w) X.A (handleBy (.ref a) X.env hds) (SP X pins D) X.xe s := by
  have away : ∀ {h : Heap}, HandSPX.FlyingZ B (X.env :: X.outer) a (Zc cls d) h → a ≠ X.env.locals ∧ a ∉ X.fs := fun {h} fl => by
    obtain ⟨oe, vs, he, _, hd⟩ := fl.there
    have n : a ∉ frs (X.env :: X.outer) := fun hm => by
      obtain ⟨_, o', e', z⟩ := fl.2.2.1.mem hm
      rw [he] at e'
      cases e'
      exact z _ hd
    refine ⟨fun z => n (List.mem_filterMap.mpr ⟨X.env, List.mem_cons_self, by rw [hf, z]⟩), fun hm => ?_⟩
    obtain ⟨e, he, q⟩ := List.mem_filterMap.mp hm
    exact n (List.mem_filterMap.mpr ⟨e, List.mem_cons_of_mem _ he, q⟩)
  induction hk with
  | nil => exact fun s _ _ _ _ w => w.elim
  | cons ht hsu r ih =>
    intro s fl up os ag w
    obtain ⟨b, hb, yes, no⟩ := w
    have J1 : Inv X pins σ H s := J.landed nb fl.1 up os ag
    obtain ⟨oe, vs, he, hz, hd⟩ := fl.there
    have LT : PySem.W.Looks (model X.prog X.w) s.heap (typeOf (.ref a)) cls := fun A Q E s k q => wpAny_typeOf_ref (k _ _ he) (by rw [hz.1]; exact q)
    refine wpAny_handleBy_cons (codeAny_handlers_test ?_) (by intro q; cases q)
    refine ht a oe (X.pn ++ pins) σ H s cls b _ _ (J1.suite he hd na (away fl).1 (away fl).2) J1.kIn LT hb fun h2 k2 => ?_
    have fl2 := fly_keeps fl k2
    have up2 := up.trans (Heap.UpToSlots.of_keeps k2)
    cases b with
    | false => exact ih { s with heap := h2 } fl2 up2 os ag (no rfl)
    | true =>
      refine codeAny_handlers_suite ?_
      refine HandSPX.lands_againZ fl2 fun h4 fl4 up4 => ?_
      have J4 : Inv X pins σ H { s with heap := h4 } := J.landed nb fl4.1 (up2.trans up4) os ag
      obtain ⟨oe4, vs4, he4, hz4, hd4⟩ := fl4.there
      refine wpAny_mono ((hsu a oe4 (X.pn ++ pins)).run [] _ _ H _ (J4.suite he4 hd4 na (away fl4).1 (away fl4).2) (yes rfl)) (fun f s6 hsp => ?_) (fun _ _ z => False.elim z)
      cases f with
      | ret u =>
        obtain ⟨v6, σ6, H6, S6, r6, q6⟩ := hsp
        exact ⟨_, _, _, S6.unsuite ok, r6, q6⟩
      | _ =>
        obtain ⟨σ6, H6, S6, q6⟩ := hsp
        exact ⟨_, _, S6.unsuite ok, q6⟩
/-- try with such clauses, when one of them takes whatever the body raises -/
theorem ps_tryR {body : List Stmt} {h₀ : ExceptHandler} {hds : List ExceptHandler} {l : List (List Value × TS)} {pos : Pos} {tb : WX → TS} (hs : X.stack = X.env :: X.outer) (hf : X.env.frame = some X.env.locals)
    (hb : ∀ (W : WX) (pn : List (Addr × Obj)) (xe : Value → Shared → Prop), Takes (X.tr pn xe) W → PassesOwn (model X.prog X.w) X.A X.env xe → PSs (X.tr pn xe) body (tb W)) (hh : Hds X (h₀ :: hds) l) :
    PS X (.Try body (h₀ :: hds) [] [] pos) (fun D σ H => tb (wRow X.K D l) D σ H) := by
  refine ⟨fun pins s σ H D I h => ?_⟩
  have ok := I.ok
  refine wpAny_Try_except ?_
  refine wpAny_mono ((hb (wRow X.K D l) (X.pn ++ pins) (fun e s₁ => wpAny (model X.prog X.w) X.A (noteFrame e X.env) (fun _ s₂ => wpAny (model X.prog X.w) X.A (setFlight e none) (fun _ s₃ =>
    wpAny (model X.prog X.w) X.A (handleBy e X.env (h₀ :: hds)) (SP X pins D) X.xe s₃) X.xe s₂) X.xe s₁) (fun u s' xx => ?_) PassesOwn.looking).run [] s σ H D (I.toTry _) h) (fun f s1 hsp => ?_) (fun e s1 he => he)
  · obtain ⟨a, B, sI, pins', σ', H', cls, d, rfl, J', nb, up, sky, na, os, ag, w⟩ := xx
    exact Sky.land Zc.steady (by rw [ok.frames, hs]) hf (by rw [← hs]; exact sky) fun h3 fl3 up3 => rows_run ok hf (J'.ofTry ok) nb na hh { s' with heap := h3 } fl3 (up.trans up3) os ag w
  · cases f with
    | next =>
      obtain ⟨σ', H', J', q⟩ := hsp
      exact wpAny_execs_nil ⟨σ', H', J'.ofTry ok, q⟩
    | ret u =>
      obtain ⟨v, σ', H', J', r, q⟩ := hsp
      exact ⟨v, σ', H', J'.ofTry ok, r, q⟩
    | _ =>
      obtain ⟨σ', H', J', q⟩ := hsp
      exact ⟨σ', H', J'.ofTry ok, q⟩
end
end Fc

namespace Fc
open PySem PySem.Spec L2 PyProof.Rows GxR GenW
/-! ### generator expressions whose parts may call own defs -/
/-- the names of the expression's own block -/
structure GxOk (scope : Scope) : Prop where
  co : scope.isCoroutine = false
  cell : ∀ y ∈ scope.names, y.2 ≠ .cell
  dot : scope.names.lookup (".0" : Str) = some NameKind.local
abbrev gxEnv (X : Cx) (scope : Scope) (C : Addr) (code : Value) : Env := genEnv scope (cloFrom X.env.cells scope.names []) C code builtinsNs X.env
/-- its frame's context -/
abbrev gxc (X : Cx) (A' : Around) (s : Shared) (H : Hp) (scope : Scope) (C : Addr) (code : Value) (fp : List Addr) (pn : List (Addr × Obj)) : Cx :=
  { X with A := A'.deeper (gxEnv X scope C code), s_0 := s, H_0 := H, env := gxEnv X scope C code, outer := X.stack, stack := gxEnv X scope C code :: X.stack, ex := fp, fn := fun _ => false, calm := true, pn := pn, xe := fun _ _ => False }
theorem over_gx {A : Around} {elt tg iter : Expr} {ifs : List Expr} {scope : Scope} {pos : Pos} {it acc : Value} {env : Env} : A.over (.compLoop (.GeneratorExp elt [⟨tg, iter, ifs, 0⟩] scope pos) 0 it acc env) [] = A.deeper env := by
  obtain ⟨hd, d, fr, gs, u⟩ := A
  simp [Around.over, Around.deeper, marksOver, frameCount, unitsOf, envsOf, guardsOf, pushEnvs, pushGuards, Code.envs, Code.env?, Code.isFrame, Code.guards, Code.isGuard, Code.weight, Code.frames, Code.isCreation, Code.isCaller, Code.cUnits]
theorem over_gx0 {A : Around} {elt tg iter : Expr} {ifs : List Expr} {scope : Scope} {pos : Pos} {it acc : Value} {env : Env} : A.over (.compStart (.GeneratorExp elt [⟨tg, iter, ifs, 0⟩] scope pos) 0 it acc env) [] = A.deeper env := by
  obtain ⟨hd, d, fr, gs, u⟩ := A
  simp [Around.over, Around.deeper, marksOver, frameCount, unitsOf, envsOf, guardsOf, pushEnvs, pushGuards, Code.envs, Code.env?, Code.isFrame, Code.guards, Code.isGuard, Code.weight, Code.frames, Code.isCreation, Code.isCaller, Code.cUnits]
section
variable {X : Cx} {pins : List (Addr × Obj)} {σ : L2.St} {H : Hp} {s : Shared}
theorem gx_start {A' : Around} {scope : Scope} {own : List (Str × Nat)} {fp : List Addr} {code : Value} {pn : List (Addr × Obj)} {s5 : Shared} {m : Str → Option Value} (I : Inv X pins σ H s) (ok : BlkOk X.N X.env.scope scope own) (gk : GxOk scope) (hN : X.N.Nodup)
    (hfp : ∀ b ∈ fp, FpOk X pins H b ∧ b < s.heap.objs.size) (hA : A'.frames = some X.stack) (hh : A'.handled = none) (ho : s5.os = s.os) (hb5 : AllBare s5.gens) (kp : ∀ b o, s.heap.get? b = some o → s5.heap.get? b = some o) (hns : s5.heap.Ns s.heap.objs.size m)
    (hpn : ∀ p ∈ pn, s5.heap.get? p.1 = some p.2 ∧ s.heap.objs.size < p.1 ∧ ∀ v, p.2.data ≠ .cell v) :
    Inv (gxc X A' s H scope s.heap.objs.size code fp pn) [] (wipe σ (own.map (·.2))) H s5 := by
  have hfree : ∀ y ∈ scope.names, y.2 = .free → ∃ c, X.env.cells.lookup y.1 = some c := fun y hy e => by
    rcases ok.free y hy e with k | k
    · exact I.ok.has _ (.inl k)
    · exact I.ok.has _ (.inr k)
  have cm : ∀ {y c}, (y, c) ∈ cloFrom X.env.cells scope.names [] → X.env.cells.lookup y = some c ∧ c < s.heap.objs.size := fun {y c} hm => by
    rcases cloFrom_mem hm with hm | ⟨h1, rfl⟩
    · cases hm
    · obtain ⟨c, hc⟩ := hfree _ h1 rfl
      rw [hc]
      obtain ⟨w, z⟩ := I.cell _ _ hc
      exact ⟨rfl, z.lt⟩
  have mem : ∀ {y c}, (gxEnv X scope s.heap.objs.size code).cells.lookup y = some c → X.env.cells.lookup y = some c ∧ c < s.heap.objs.size := fun {y c} e => cm (PySem.mem_of_lookup e)
  have look : ∀ {y}, scope.names.lookup y = some .free → ∃ c, (gxEnv X scope s.heap.objs.size code).cells.lookup y = some c ∧ X.env.cells.lookup y = some c := fun {y} hl => by
    have hy : (y, NameKind.free) ∈ scope.names := PySem.mem_of_lookup hl
    obtain ⟨c', e'⟩ := mem_lookup (cloFrom_has (cells := X.env.cells) (acc := []) hy)
    exact ⟨c', e', (mem e').1⟩
  have okB : (gxc X A' s H scope s.heap.objs.size code fp pn).Ok := by
    refine ⟨I.ok.mod, ok.kind, I.ok.glob, rfl, Nat.le_refl _, fun y z c e1 e2 => I.ok.inj y z c (mem e1).1 (mem e2).1, fun y hy => ?_, (fun y c z e => nomatch (show false = true from z)), fun _ => hh, Around.frames_deeper hA, .inr ⟨rfl, rfl⟩, fun b hb => ⟨Nat.ne_of_lt (hfp b hb).2, fun y c e z => (hfp b hb).1.2.2.2.2.1 y c (mem e).1 z⟩, I.bs, Nat.le_trans I.ok.bsz I.sz, fun b o e hb => ?_, fun b hb z => ?_, I.stack, I.stkFree⟩
    · rcases hy with hy | hy
      · exact absurd rfl (gk.cell _ (PySem.mem_of_lookup hy))
      · obtain ⟨c, h1, _⟩ := look hy
        exact ⟨c, h1⟩
    · rcases (hfp b hb).1.2.2.2.1 with z | z
      · exact I.ok.noex b o e z
      · exact absurd (Nat.lt_of_lt_of_le (Heap.lt_size e) (Nat.le_trans I.ok.bsz z)) (Nat.lt_irrefl _)
    · rcases List.mem_cons.mp (I.stkSub b z) with z | z
      · exact (hfp b hb).1.2.1 z
      · exact (hfp b hb).1.2.2.1 z
  refine ⟨okB, ho, hb5, Un.kept kp, ⟨m, hns, fun i y av e1 e2 e3 => ?_⟩, fun y c e => ?_, I.hok.fresh (Nat.le_refl _), fun y c e => I.freeC y c (mem e).1, fun p hp => ?_, I.hok.kept kp, by rw [wipe_length]; exact I.len⟩
  · obtain ⟨e2, hne⟩ := wipe_some e2
    have no : ∀ k', scope.names.lookup y = some k' → ¬ (k' = .local ∨ k' = .cell) := fun k' e hh => by
      rcases ok.own _ (PySem.mem_of_lookup e) hh with e' | e'
      · obtain ⟨p, hp, hpy⟩ := List.mem_map.mp e'
        have e3 := ok.ix p hp
        have : p.1 = y := hpy
        rw [this] at e3
        exact hne (List.mem_map.mpr ⟨p, hp, nodup_ix hN e3 e1⟩)
      · exact e' (List.mem_of_getElem? e1)
    have e3 : scope.names.lookup y = some .local ∨ scope.names.lookup y = some .cell ∨ scope.names.lookup y = some .free := e3
    have hfr : scope.names.lookup y = some .free := by
      rcases e3 with e3 | e3 | e3
      · exact absurd (.inl rfl) (no _ e3)
      · exact absurd (.inr rfl) (no _ e3)
      · exact e3
    obtain ⟨m', hn, hl⟩ := I.loc
    have hvis : Vis X.env.scope y := (ok.free _ (PySem.mem_of_lookup hfr) rfl).elim (fun k => .inr (.inl k)) (fun k => .inr (.inr k))
    obtain ⟨w, r, q⟩ := hl i y av e1 e2 hvis
    refine ⟨w, r, .inr ⟨.inr hfr, ?_⟩⟩
    obtain ⟨c, h1, h2⟩ := look hfr
    rcases q with ⟨k, _⟩ | ⟨_, c', e', z⟩
    · have k : X.env.scope.names.lookup y = some .local := k
      rcases ok.free _ (PySem.mem_of_lookup hfr) rfl with k' | k' <;> rw [show X.env.scope.names.lookup y = _ from k'] at k <;> cases k
    · rw [h2] at e'; cases e'
      exact ⟨c, h1, z.keeps kp⟩
  · obtain ⟨w, z⟩ := I.cell y c (mem e).1
    exact ⟨w, z.keeps kp⟩
  · have hp' : p ∈ pn := by
      have : p ∈ pn ++ [] := hp
      rwa [List.append_nil] at this
    obtain ⟨h1, h2, h3⟩ := hpn p hp'
    refine ⟨h1, I.hok.fresh (Nat.le_of_lt h2), Nat.ne_of_gt h2, fun z => ?_, h3⟩
    have : p.1 ∈ frs X.stack := z
    rcases List.mem_cons.mp (I.stkSub p.1 this) with z | z
    · rw [z] at h2
      exact absurd (Nat.lt_trans h2 I.lt) (Nat.lt_irrefl _)
    · exact I.nofs (Nat.le_of_lt h2) z
/-- the table of generators, the tokens may change -/
def Slp (s s' : Shared) : Prop := s'.heap = s.heap ∧ s'.os = s.os ∧ AllBare s'.gens
theorem Slp.inv {Y : Cx} {pins : List (Addr × Obj)} {σ : L2.St} {H : Hp} {s s' : Shared} (I : Inv Y pins σ H s) (z : Slp s s') : Inv Y pins σ H s' := by
  obtain ⟨h1, h2, h3⟩ := z
  exact ⟨I.ok, h2.trans I.os, h3, by rw [h1]; exact I.base, by rw [h1]; exact I.loc, by rw [h1]; exact I.cell, I.free, I.freeC, by rw [h1]; exact I.pin, by rw [h1]; exact I.hok, I.len⟩
end
/-! ### the walk for all -/
/-- the reading: W of the turn, a measure, the heap -/
def GWalk (J : It) (g : TG) (tt : TT) (te : TE) (vs : List Nat) (σ : L2.St) (take : V → Hp → (Hp → Prop) → Prop) (fin : Hp → Prop) (W : Nat → Nat → Hp → Prop) : Prop :=
  ∀ i m H, W i m H → (J.stop i H ∧ fin H) ∨ (J.go i H ∧ ∃ Nx : Hp → Prop, (∀ H', Nx H' → ∃ m', m' < m ∧ W (i + 1) m' H') ∧ ∀ x H', J.yld i H x H' → g x (wipe σ vs) H' fun σ2 H2 => wipe σ2 vs = wipe σ vs ∧ tt σ2 H2 fun b H3 =>
    if b = true then te σ2 H3 fun y H4 => take y H4 Nx else Nx H3)
def takeAll (Q : VK) (y : V) (H : Hp) (Nx : Hp → Prop) : Prop := ∃ k, y = .bl k ∧ (k = true → Nx H) ∧ (k = false → Q (.bl false) H)
def allY (Y : Cx) (σ : L2.St) (Q : VK) : Protocol := fun n s₀ v s kap => ∃ (k : Bool) (H' : Hp), v = .bool k ∧ Inv Y [] σ H' s ∧ (k = false → Q (.bl false) H') ∧ (k = true → ∀ s'', Slp s s'' → kap (.send .none) s'')
def allF (Y : Cx) (σ : L2.St) (Q : VK) (s₁ : Shared) : Prop := ∃ H', Inv Y [] σ H' s₁ ∧ Q (.bl true) H'
def allR (Y : Cx) (σ : L2.St) (Q : VK) : GenEnd := fun _ _ r s₁ => ((r = .ok (.ret .none) ∨ r = .ok .next) ∧ allF Y σ Q s₁) ∨ ∃ e, r = .error e ∧ False
section
variable {X : Cx} {A' : Around} {s4 : Shared} {H4 : Hp} {scope : Scope} {C : Addr} {code : Value} {fp : List Addr} {pn : List (Addr × Obj)}
theorem gx_loop {elt iter : Expr} {x : Str} {px pos : Pos} {ifs : List Expr} {vs : List Nat} {σ : L2.St} {g : TG} {tt : TT} {te : TE} {J : It} {it : Addr} {tn : Nat → Heap → Prop} {Q : VK} {W : Nat → Nat → Hp → Prop}
    (gk : GxOk scope) (hpn : ∀ p ∈ pn, p.1 ∉ fp)
    (T : Turn X.prog X.w X.K (.Name x px) J fp it tn)
    (pg : PG (gxc X A' s4 H4 scope C code fp pn) (.Name x px) g) (pt : PTs (gxc X A' s4 H4 scope C code fp pn) ifs tt) (pe : PE (gxc X A' s4 H4 scope C code fp pn) elt te)
    (turn : GWalk J g tt te vs σ (takeAll Q) (Q (.bl true)) W) :
    ∀ (m n i : Nat) (s₀ s : Shared) (H : Hp), W i m H → m < n → Inv (gxc X A' s4 H4 scope C code fp pn) [] (wipe σ vs) H s → tn i s.heap → (∀ b ∈ fp, H b = none) →
      Seg (model X.prog X.w) A' (allR (gxc X A' s4 H4 scope C code fp pn) (wipe σ vs) Q) (allY (gxc X A' s4 H4 scope C code fp pn) (wipe σ vs) Q) n s₀
        (.compLoop (.GeneratorExp elt [⟨.Name x px, iter, ifs, 0⟩] scope pos) 0 (.ref it) .none (gxEnv X scope C code)) ((model X.prog X.w).den (.compLoop (.GeneratorExp elt [⟨.Name x px, iter, ifs, 0⟩] scope pos) 0 (.ref it) .none (gxEnv X scope C code))) [] s := by
  generalize hY : gxc X A' s4 H4 scope C code fp pn = Y at pg pt pe
  have eP : Y.prog = X.prog := by rw [← hY]
  have ew : Y.w = X.w := by rw [← hY]
  have eK : Y.K = X.K := by rw [← hY]
  have eA : Y.A = A'.deeper (gxEnv X scope C code) := by rw [← hY]
  have eE : Y.env = gxEnv X scope C code := by rw [← hY]
  have ex : Y.ex = fp := by rw [← hY]
  have exe : Y.xe = fun _ _ => False := by rw [← hY]
  have epn : Y.pn = pn := by rw [← hY]
  have ecalm : Y.calm = true := by rw [← hY]
  have stat : ∀ {σ' : L2.St} {H' : Hp} {s' : Shared}, Inv Y [] σ' H' s' → (∀ b ∈ fp, H' b = none) → ∀ b ∈ fp, FpOk Y [] H' b := fun {σ' H' s'} I' hn b hb =>
    ⟨hn b hb, (I'.ok.exf b (by rw [ex]; exact hb)).1, I'.ok.exfs b (by rw [ex]; exact hb), .inl (by rw [ex]; exact hb), fun x c e => (I'.ok.exf b (by rw [ex]; exact hb)).2 x c e, fun p hp z => by
      rw [epn, List.append_nil] at hp
      exact hpn p hp (by rw [z]; exact hb)⟩
  intro m
  induction m using Nat.strongRecOn with
  | ind m ih =>
    intro n i s₀ s H w hmn I st nf
    show Seg _ A' _ _ _ s₀ _ ((compTurn (.GeneratorExp elt [⟨.Name x px, iter, ifs, 0⟩] scope pos) 0 (.ref it) .none (gxEnv X scope C code)).onRaise (leaving (gxEnv X scope C code))) [] s
    rw [compTurn_gen, Sem.onRaise_eq_wrap]
    refine seg_bind_wrap (wpAny_standAt ?_)
    rcases turn i m H w with ⟨stop, qq⟩ | ⟨go, Nx, hNx, step⟩
    · have td := T.done Y eP ew eK ecalm i [] s _ H (fun _ _ => False) I (stat I nf) st stop
      rw [eA] at td
      refine seg_bind_wrap ?_
      rw [over_gx]
      refine thnF td fun r s6 ⟨hr, I6⟩ => ?_
      subst hr
      exact seg_end (.ok .next) (.inl ⟨.inr rfl, H, I6, qq⟩)
    · have ti := T.item Y eP ew eK ecalm i [] s _ H (fun _ _ => False) I (stat I nf) st go
      rw [eA] at ti
      refine seg_bind_wrap ?_
      rw [over_gx]
      refine thnF ti fun r s6 ⟨u, hr, h6⟩ => ?_
      subst hr
      refine seg_bind_wrap ?_
      rw [over_gx]
      refine thnF h6 fun _ s7 ⟨y, H7, I7, r7, y7, st7, n7⟩ => ?_
      have I7' := I7.pinned (stat I7 n7) (T.obj _ _ st7)
      have pgr := pg.run _ s7 _ H7 y u _ I7' r7 (step y H7 y7)
      rw [eP, ew, eA, exe, eE] at pgr
      refine seg_bind_wrap ?_
      rw [over_gx]
      refine thnF pgr fun _ s8 ⟨σ8, H8, I8, hw8, q8⟩ => ?_
      have ptr := pt.run _ s8 σ8 H8 _ I8 q8
      rw [eP, ew, eA, exe, eE] at ptr
      refine seg_bind_wrap ?_
      rw [over_gx]
      refine thnF ptr fun b s9 ⟨H9, I9, q9⟩ => ?_
      have fin : ∀ {s' : Shared} {H' : Hp}, Inv Y ([] ++ pinsAt fp s7.heap) σ8 H' s' → Inv Y [] (wipe σ vs) H' s' ∧ tn (i + 1) s'.heap ∧ (∀ b ∈ fp, H' b = none) := fun {s' H'} I' => by
        have pin' : ∀ b ∈ fp, ∀ o, s7.heap.get? b = some o → s'.heap.get? b = some o ∧ H' b = none := fun b hb o e =>
          let z := I'.pin (b, o) (List.mem_append_right _ (List.mem_append_right _ (mem_pinsAt hb e)))
          ⟨z.1, z.2.1⟩
        have hl : (wipe σ vs).length = σ8.length := by rw [← hw8, wipe_length]
        refine ⟨(I'.unpinned (pins := [])).weak hl (fun j v e => ?_), T.keep _ _ _ st7 fun b hb o e => (pin' b hb o e).1, fun b hb => ?_⟩
        · rw [← hw8] at e
          exact (wipe_some e).1
        · obtain ⟨o, e, _⟩ := T.obj _ _ st7 b hb
          exact (pin' b hb o e).2
      cases b with
      | false =>
        simp only [Bool.false_eq_true, if_false] at q9 ⊢
        obtain ⟨f1, f2, f3⟩ := fin I9
        obtain ⟨m', hm', w'⟩ := hNx _ q9
        exact seg_again rfl (ih m' hm' n (i + 1) s₀ s9 H9 w' (by omega) f1 f2 f3)
      | true =>
        simp only [if_true] at q9 ⊢
        have hy : ∀ v, yieldOut (gxEnv X scope C code) v = yieldValue v := fun v => by
          have hco : (gxEnv X scope C code).scope.isCoroutine = false := gk.co
          simp only [yieldOut, hco, Bool.false_eq_true, if_false]
        simp only [hy]
        rw [Sem.bind_eq_wrap', Sem.bind_eq_wrap', Sem.wrap_wrap, Sem.wrap_wrap]
        have per := pe.run _ s9 σ8 H9 _ I9 q9
        rw [eP, ew, eA, exe, eE] at per
        refine seg_wrap ?_
        rw [over_gx]
        refine thnF per fun z s10 ⟨yv, H10, I10, r10, k, ek, kt, kf⟩ => ?_
        subst ek
        obtain rfl : z = .bool k := r10
        obtain ⟨f1, f2, f3⟩ := fin I10
        cases n with
        | zero => omega
        | succ n' =>
          refine seg_at (seg_yield rfl rfl rfl ⟨k, H10, rfl, f1, kf, fun ek s'' z => ?_⟩)
          obtain ⟨m', hm', w'⟩ := hNx _ (kt ek)
          have z1 := z.1
          exact seg_again rfl (ih m' hm' n' (i + 1) s'' s'' H10 w' (by omega) (z.inv f1) (by rw [z1]; exact f2) f3)
theorem gx_begin {elt iter : Expr} {x : Str} {px pos : Pos} {ifs : List Expr} {vs : List Nat} {σ : L2.St} {g : TG} {tt : TT} {te : TE} {J : It} {it : Addr} {tn : Nat → Heap → Prop} {Q : VK} {W : Nat → Nat → Hp → Prop}
    (gk : GxOk scope) (hpn : ∀ p ∈ pn, p.1 ∉ fp)
    (T : Turn X.prog X.w X.K (.Name x px) J fp it tn)
    (pg : PG (gxc X A' s4 H4 scope C code fp pn) (.Name x px) g) (pt : PTs (gxc X A' s4 H4 scope C code fp pn) ifs tt) (pe : PE (gxc X A' s4 H4 scope C code fp pn) elt te)
    (turn : GWalk J g tt te vs σ (takeAll Q) (Q (.bl true)) W) (m n : Nat) (s₀ s : Shared) (H : Hp) (w : W 0 m H) (hmn : m < n) (I : Inv (gxc X A' s4 H4 scope C code fp pn) [] (wipe σ vs) H s) (st : tn 0 s.heap) (nf : ∀ b ∈ fp, H b = none) :
      Seg (model X.prog X.w) A' (allR (gxc X A' s4 H4 scope C code fp pn) (wipe σ vs) Q) (allY (gxc X A' s4 H4 scope C code fp pn) (wipe σ vs) Q) n s₀
        (.compStart (.GeneratorExp elt [⟨.Name x px, iter, ifs, 0⟩] scope pos) 0 (.ref it) .none (gxEnv X scope C code)) ((model X.prog X.w).den (.compStart (.GeneratorExp elt [⟨.Name x px, iter, ifs, 0⟩] scope pos) 0 (.ref it) .none (gxEnv X scope C code))) [] s := by
  have loop := gx_loop (iter := iter) (pos := pos) gk hpn T pg pt pe turn m n 0 s₀ s H w hmn I st nf
  show Seg _ A' _ _ _ s₀ _ ((compStart (.GeneratorExp elt [⟨.Name x px, iter, ifs, 0⟩] scope pos) 0 (.ref it) .none (gxEnv X scope C code)).onRaise (leaving (gxEnv X scope C code))) [] s
  unfold compStart
  rw [Sem.onRaise_eq_wrap]
  show Seg _ A' _ _ _ s₀ _ ((ask >>= _).wrap _ _ _ _) [] s
  refine seg_bind_wrap (wpAny_askSetting ?_)
  split
  · exact seg_again rfl loop
  · first
      | exact seg_bind_wrap (wpAny_rule (seg_bind_wrap (wpAny_standAt (seg_bind_wrap (T.self _ 0 s _ _ st (seg_again rfl loop))))))
      | (refine seg_bind_wrap (wpAny_rule ?_); show Seg _ A' _ _ _ s₀ _ ((standAt iter.pos >>= _).wrap _ _ _ _) [] s; exact seg_bind_wrap (wpAny_standAt (seg_bind_wrap (T.self _ 0 s _ _ st (seg_again rfl loop)))))
/-- the loop of all, by what each next tells -/
theorem all_by {P : Program} {w : World} {A : Around} {a : Addr} {R : Result → Shared → Prop} (St : Nat → Shared → Prop)
    (step : ∀ m s, St m s → wpAny (model P w) A.in1 (pyNext (.ref a)) (fun r s1 => match r with | none => R (.ok (.ret (.bool true))) s1 | some v => ∃ k : Bool, v = .bool k ∧ (k = true → ∃ m', m' < m ∧ St m' s1) ∧ (k = false → R (.ok (.ret (.bool false))) s1)) (fun _ _ => False) s) :
    ∀ (m : Nat) (s : Shared), St m s → codeAny (model P w) A (.builtin "all.loop" ⟨[.ref a], []⟩) R s := by
  intro m
  induction m using Nat.strongRecOn with
  | ind m ih =>
    intro s hst
    refine codeAny_builtin F.entry_all_loop ?_
    rw [Around.under_plainId F.plain_all_loop _]
    show wpAny _ A.in1 (pyNext (.ref a) >>= _) _ _ s
    refine wpAny_bind (thnF (step m s hst) fun r s1 h => ?_)
    cases r with
    | none => exact wpAny_bind (wpAny_rule (wpAny_pure h))
    | some v =>
      obtain ⟨k, rfl, h1, h2⟩ := h
      refine wpAny_bind (wpAny_holding (wpAny_truthy_bool ?_))
      refine wpAny_bind (wpAny_letGo ?_)
      cases k with
      | true =>
        obtain ⟨m', hm, st'⟩ := h1 rfl
        simp only [if_true]
        exact wpAny_pure ⟨plainId_quiet F.plain_all_loop _, ih m' hm s1 st'⟩
      | false =>
        simp only [Bool.false_eq_true, if_false]
        exact wpAny_bind (wpAny_rule (wpAny_pure (h2 rfl)))
end
section
variable {X : Cx}
/-- all(elt for x in iter if ..): P the table of the def's code -/
def tAllG (P : Addr) (wi : TI) (g : TG) (tt : TT) (te : TE) (vs : List Nat) : TE := fun σ H Q => wi σ H fun J H1 => TabG H1 P ∧ ∀ H2, Tabbed P H1 H2 → ∃ W : Nat → Nat → Hp → Prop, (∃ m, W 0 m H2) ∧ GWalk J g tt te vs σ (takeAll Q) (Q (.bl true)) W
theorem pe_allG {c P : Addr} {elt iter : Expr} {x : Str} {px p pos gpos : Pos} {ifs : List Expr} {scope : Scope} {own : List (Str × Nat)} {wi : TI} {g : TG} {tt : TT} {te : TE} {k : Nat}
    (hr : Room (k + 2) X.A) (hg : Gl X "all") (hm : X.mg "all" = none) (hb : bootBuiltins "all" = some (.builtin "all")) (TB : TabB X.base X.mg c P) (hcode : X.env.code = .ref c) (hN : X.N.Nodup) (ok : BlkOk X.N X.env.scope scope own) (gk : GxOk scope)
    (hi : PI X (.Name x px) iter wi) (hgt : ∀ (A' : Around) (s : Shared) (H : Hp) (C : Addr) (code : Value) (fp : List Addr) (pn : List (Addr × Obj)), PG (gxc X A' s H scope C code fp pn) (.Name x px) g)
    (ht : ∀ (A' : Around) (s : Shared) (H : Hp) (C : Addr) (code : Value) (fp : List Addr) (pn : List (Addr × Obj)), Room k (gxc X A' s H scope C code fp pn).A → PTs (gxc X A' s H scope C code fp pn) ifs tt)
    (he : ∀ (A' : Around) (s : Shared) (H : Hp) (C : Addr) (code : Value) (fp : List Addr) (pn : List (Addr × Obj)), Room k (gxc X A' s H scope C code fp pn).A → PE (gxc X A' s H scope C code fp pn) elt te)
    (hs : ∀ v, genFold iter X.env v = pure v)
    (hst : starEach [.GeneratorExp elt [⟨.Name x px, iter, ifs, 0⟩] scope gpos] X.env = (false, eval (.GeneratorExp elt [⟨.Name x px, iter, ifs, 0⟩] scope gpos) X.env) :: starEach [] X.env := by rfl) :
    PE X (.Call (.Name "all" p) [.GeneratorExp elt [⟨.Name x px, iter, ifs, 0⟩] scope gpos] [] pos) (tAllG P wi g tt te (own.map (·.2))) := by
  refine ⟨fun pins s σ H Q I h => ?_⟩
  refine wpAny_Call_Name_kw (ld_blt I hg hm hb ?_)
  refine PyProof.Rows.callWith_builtin1 ?_ hst (by rfl)
  rw [hst]
  show wpAny _ _ (spliced ((false, eval (.GeneratorExp elt [⟨.Name x px, iter, ifs, 0⟩] scope gpos) X.env) :: backTo pos (starEach [] X.env))) _ _ s
  have hfree : ∀ y ∈ scope.names, y.2 = .free → ∃ c, X.env.cells.lookup y.1 = some c := fun y hy e => by
    rcases ok.free y hy e with k | k
    · exact I.ok.has _ (.inl k)
    · exact I.ok.has _ (.inr k)
  refine Calls.spliced_cons (wpAny_GeneratorExp_make gk.co (closure_ok hfree) gk.cell gk.dot ok.kind (by have := hr.dp; omega) (thn (hi.run pins s σ H _ I h) fun xv s1 hx => thn hx fun itv s2 h2 => ?_) hs)
  obtain ⟨it, fp, tn, J, H2, e, I2, T, st2, f2, ⟨ps, hP, htr⟩, q⟩ := h2
  subst e
  have hPs : s2.heap.get? P = some { cls := .none, data := .fields ps } := I2.hok P _ hP
  have nPf : P ∉ fp := fun z => by
    have := (f2 P z).1
    rw [hP] at this
    cases this
  have cd : PySem.W.CodeHd s2.heap c P := TB.code.keeps I2.bk
  refine ⟨I2.nolimit, ?_⟩
  have cont : ∀ (code : Value) (h3 : Heap) (tk : Nat) (more : Array Value), Heap.ExtBut P s2.heap h3 → h3.get? P = some { cls := .none, data := .fields (ps ++ more) } → TriplesOk (ps ++ more).toList →
      wpAny (model X.prog X.w) X.A (builtinsFor X.env.globals X.env.builtins) (fun bi s₄ => ∀ h', h'.Ns s₄.heap.objs.size (fun y => if y = ".0" then some (.ref it) else none) → Heap.SameBut s₄.heap.objs.size (s₄.heap.push { cls := .type "frame", data := .dict #[] }) h' →
        wpAny (model X.prog X.w) X.A (spliced (backTo pos (starEach [] X.env))) (fun us s' => wpAny (model X.prog X.w) X.A (call (.builtin "all") (.ref h'.objs.size :: us)) (EP X pins σ Q) X.xe s') X.xe { s₄ with
            gens := s₄.gens.push (.fresh (.compStart (.GeneratorExp elt [⟨.Name x px, iter, ifs, 0⟩] scope gpos) 0 (.ref it) .none (genEnv scope (cloFrom X.env.cells scope.names []) s₄.heap.objs.size code bi X.env))),
            toks := s₄.toks + 1 + 1 + 1,
            heap := h'.push { cls := .type "generator", data := .fields #[.int s₄.gens.size 0, .str "<genexpr>" (s₄.toks + 1), .str (X.env.qual ++ "<genexpr>") (s₄.toks + 1 + 1)] } }) X.xe { s2 with heap := h3, toks := tk } := by
    intro code h3 tk more hx hP3 ht3
    have I3 : Inv X pins σ (upd H2 P (.tbl (ps ++ more))) { s2 with heap := h3, toks := tk } := inv_tab (g' := s2.gens) (d' := s2.drawn) (t' := tk) I2 hP (fun b o hb e => hx b o hb e) hP3 I2.bare
    have hb2 : AllBare s2.gens := I2.bare
    have st3 : tn 0 h3 := T.keep _ _ _ st2 fun b hb o e => hx b o (fun z => nPf (by rw [← z]; exact hb)) e
    have f3 : ∀ b ∈ fp, FpOk X pins (upd H2 P (.tbl (ps ++ more))) b ∧ b < h3.objs.size := fun b hb => by
      have nb : b ≠ P := fun z => nPf (by rw [← z]; exact hb)
      obtain ⟨o, e, _⟩ := T.obj _ _ st2 b hb
      refine ⟨⟨?_, (f2 b hb).2⟩, Heap.lt_size (hx b o nb e)⟩
      rw [upd_ne nb]
      exact (f2 b hb).1
    obtain ⟨W, ⟨m0, w0⟩, turn⟩ := q (upd H2 P (.tbl (ps ++ more))) ⟨⟨ps ++ more, upd_same, ht3⟩, fun b hb => upd_ne hb⟩
    obtain ⟨bm, ob, e1, e2, e3, e4, e5, e6, e7, e8⟩ := TB.bm
    refine wpAny_builtinsFor (m := X.mg) (by rw [I3.ok.glob]; exact I3.mod.glob.keeps I3.bk) e1 e2 (I3.bk _ _ e5) e6 e7 e8 ?_
    intro h' hn' hs'
    have hn' : h'.Ns h3.objs.size (fun y => if y = ".0" then some (.ref it) else none) := hn'
    have hs' : Heap.SameBut h3.objs.size (h3.push { cls := .type "frame", data := .dict #[] }) h' := hs'
    have hsz : h'.objs.size = h3.objs.size + 1 := by rw [hs'.1, Heap.size_push]
    have keep' : ∀ b o, h3.get? b = some o → h'.get? b = some o := fun b o e => hs'.extBut b o (Nat.ne_of_lt (Heap.lt_size e)) (Heap.get?_push_of_some _ e)
    generalize hH3 : upd H2 P (.tbl (ps ++ more)) = H3 at I3 f3 w0
    generalize hgo : ({ cls := .type "generator", data := .fields #[.int s2.gens.size 0, .str "<genexpr>" (tk + 1), .str (X.env.qual ++ "<genexpr>") (tk + 1 + 1)] } : Obj) = go
    have goC : ∀ v, go.data ≠ .cell v := fun v z => by rw [← hgo] at z; cases z
    have goF : go.isFreed = false := by rw [← hgo]; rfl
    generalize hs5 : ({ s2 with heap := h'.push go, toks := tk + 1 + 1 + 1, gens := s2.gens.push (.fresh (.compStart (.GeneratorExp elt [⟨.Name x px, iter, ifs, 0⟩] scope gpos) 0 (.ref it) .none (gxEnv X scope h3.objs.size code))) } : Shared) = s5
    have k5 : ∀ b o, h3.get? b = some o → s5.heap.get? b = some o := fun b o e => by rw [← hs5]; exact Heap.get?_push_of_some _ (keep' b o e)
    have g5 : s5.heap.get? h'.objs.size = some go := by rw [← hs5]; exact Heap.get?_push_size _ goF
    have b5 : AllBare s5.gens := by rw [← hs5]; exact I2.bare.push rfl
    have I5 := gx_start (A' := X.A.in1.in1) (code := code) (pn := [(h'.objs.size, go)]) (s5 := s5) (s := { s2 with heap := h3, toks := tk }) I3 ok gk hN f3 I2.ok.frames hr.hd (by rw [← hs5]) b5 k5 (by rw [← hs5]; exact hn'.push _) (fun p hp => by
      rw [List.mem_singleton.mp hp]
      exact ⟨g5, by show h3.objs.size < h'.objs.size; omega, goC⟩)
    have rk : Room k (gxc X X.A.in1.in1 { s2 with heap := h3, toks := tk } H3 scope h3.objs.size code fp [(h'.objs.size, go)]).A := ⟨hr.hd, by have := hr.dp; show X.A.depth + 1 + 3 * k + 5 < _; omega, by have := hr.un; show X.A.units + 1 + 1 + 3 + 16 * k + 200 < _; omega⟩
    have pg := hgt X.A.in1.in1 { s2 with heap := h3, toks := tk } H3 h3.objs.size code fp [(h'.objs.size, go)]
    have pt := ht X.A.in1.in1 { s2 with heap := h3, toks := tk } H3 h3.objs.size code fp [(h'.objs.size, go)] rk
    have pe := he X.A.in1.in1 { s2 with heap := h3, toks := tk } H3 h3.objs.size code fp [(h'.objs.size, go)] rk
    have npn : ∀ p ∈ [(h'.objs.size, go)], p.1 ∉ fp := fun p hp z => by
      rw [List.mem_singleton.mp hp] at z
      have h9 : h'.objs.size < h3.objs.size := (f3 _ z).2
      omega
    have nf : ∀ b ∈ fp, H3 b = none := fun b hb => (f3 b hb).1.1
    have isG : ∀ {h : Heap}, h.get? h'.objs.size = some go → h.IsGen h'.objs.size s2.gens.size := fun {h} e => ⟨go, .str "<genexpr>" (tk + 1), .str (X.env.qual ++ "<genexpr>") (tk + 1 + 1), e, by rw [← hgo], by rw [← hgo], by rw [← hgo]⟩
    have back : ∀ {H' : Hp} {s₁ s' : Shared}, Inv (gxc X X.A.in1.in1 { s2 with heap := h3, toks := tk } H3 scope h3.objs.size code fp [(h'.objs.size, go)]) [] (wipe σ (own.map (·.2))) H' s₁ → s'.os = s₁.os → AllBare s'.gens → (∀ b o, s₁.heap.get? b = some o → s'.heap.get? b = some o) → Inv X pins σ H' s' := fun {H' s₁ s'} I' ho hb k =>
      I3.call' (ch := fp) (ho.trans I'.os) (I'.base.trans (Un.kept k)) (I'.hok.kept k) hb fun b hb => ⟨(f3 b hb).1.2.2.2.1, (f3 b hb).1.2.1, (f3 b hb).1.2.2.2.2.1, (f3 b hb).1.2.2.2.2.2⟩
    refine Calls.spliced_nil ?_
    show wpAny (model X.prog X.w) X.A (call (.builtin "all") [.ref h'.objs.size]) (EP X pins σ Q) X.xe s5
    refine call_function_tree F.kind_all F.plain_all F.entry_all (F.args_all1 _) ?_
    unfold Builtin.«all»
    refine wpAny_bind (m := oneArg "all" _) (wpAny_pure ?_)
    refine wpAny_bind (wpAny_pyIter_gen (isG g5) ?_)
    refine wpAny_pure ⟨plainId_quiet F.plain_all_loop _, ?_⟩
    refine all_by (A := X.A) (fun n s => s.heap.IsGen h'.objs.size s2.gens.size ∧ s.heap.NoLimit ∧ ∃ gs, s.gens[s2.gens.size]? = some gs ∧ gs.Goes (model X.prog X.w) X.A.in1.in1 (allR (gxc X X.A.in1.in1 { s2 with heap := h3, toks := tk } H3 scope h3.objs.size code fp [(h'.objs.size, go)]) (wipe σ (own.map (·.2))) Q) (allY (gxc X X.A.in1.in1 { s2 with heap := h3, toks := tk } H3 scope h3.objs.size code fp [(h'.objs.size, go)]) (wipe σ (own.map (·.2))) Q) n (.send .none) (s.setGen s2.gens.size .running)) ?_ (m0 + 1) s5 ?_
    · rintro n s ⟨hgn, hl, gs, hgs, hgoes⟩
      have hgl : s2.gens.size < s.gens.size := (Array.getElem?_eq_some_iff.mp hgs).1
      refine wpAny_gsz (n := s2.gens.size + 1) hgl (next_genG (A := X.A.in1) (F := fun _ _ s₁ => allF (gxc X X.A.in1.in1 { s2 with heap := h3, toks := tk } H3 scope h3.objs.size code fp [(h'.objs.size, go)]) (wipe σ (own.map fun (y : Str × Nat) => y.2)) Q s₁) (Er := fun _ _ => False) hr.hd hl (by have := hr.dp; show X.A.depth < _; omega) hgn hgs hgoes (fun v s₁ gs' hbare hv => ?_) (fun s₁ hp h'' hk => ?_) fun e s₁ he => he.elim)
      · intro hsz
        obtain ⟨kb, H', rfl, I', kf, kt⟩ := hv
        have hsz1 : s2.gens.size < s₁.gens.size := by
          have q : (s₁.setGen s2.gens.size gs').gens.size = s₁.gens.size := setGen_size _ _ _
          have hsz' : s2.gens.size + 1 ≤ (s₁.setGen s2.gens.size gs').gens.size := hsz
          omega
        refine ⟨kb, rfl, fun ek => ?_, fun ek => ?_⟩
        · have kt' := kt ek
          cases n with
          | zero => exact (kt' s₁ ⟨rfl, rfl, I'.bare⟩).elim
          | succ n' =>
            refine ⟨n', Nat.lt_succ_self _, isG (I'.pin (h'.objs.size, go) (by simp)).1, I'.nolimit, gs', setGen_at hsz1, kt' _ ⟨rfl, rfl, allBare_setGen (allBare_setGen I'.bare hbare) rfl⟩⟩
        · subst ek
          exact ⟨.bl false, H', back (s' := s₁.setGen s2.gens.size gs') I' rfl (allBare_setGen I'.bare hbare) (fun _ _ e => e), rfl, kf rfl⟩
      · intro _
        obtain ⟨H', I', q'⟩ := hp
        exact ⟨.bl true, H', back (s' := { s₁.setGen s2.gens.size .finished with heap := h'' }) I' rfl (allBare_setGen I'.bare rfl) hk, rfl, q'⟩
    · refine ⟨isG g5, I5.nolimit, .fresh (.compStart (.GeneratorExp elt [⟨.Name x px, iter, ifs, 0⟩] scope gpos) 0 (.ref it) .none (gxEnv X scope h3.objs.size code)), by rw [← hs5]; exact Array.getElem?_push_size .., rfl, ?_⟩
      exact gx_begin gk npn T pg pt pe turn m0 (m0 + 1) _ _ H3 w0 (Nat.lt_succ_self _) (Slp.inv I5 ⟨rfl, rfl, allBare_setGen b5 rfl⟩) (T.keep _ _ _ st3 fun b hb o e => k5 b o e) nf
  cases hf : codeAmong gpos ps.toList with
  | none =>
    refine wpAny_genexprCodeX hcode (cd.code hPs htr) (cd.tab hPs) hf fun c' h' tk hx hge hlt hco' _ htab' _ => ?_
    obtain ⟨o1, vs, f1, tf, fl, tg, inF, tx, tt, op, _, _, _, _, _, _, _, _, _, htr', _⟩ := hco'
    exact cont _ h' tk _ hx htab'.2 htr'
  | some cv =>
    refine wpAny_genexprCode_hit hcode (cd.code hPs htr) hf ?_
    exact cont cv s2.heap s2.toks #[] (Heap.ExtBut.refl _ _) (by simpa using hPs) (by simpa using htr)
end
end Fc

namespace Fc
open PySem PySem.Spec L2 PyProof.Rows GxR GenW
/-! ### the walk for tuple: what is handed out stands in the consumer's list at S -/
def GWalkT (J : It) (g : TG) (tt : TT) (te : TE) (vs : List Nat) (σ : L2.St) (fin : List V → Hp → Prop) (W : Nat → Nat → List V → Hp → Prop) : Prop :=
  ∀ i m ys H, W i m ys H → (J.stop i H ∧ fin ys H) ∨ (J.go i H ∧ ∃ Nx : List V → Hp → Prop, (∀ ys' H', Nx ys' H' → ∃ m', m' < m ∧ W (i + 1) m' ys' H') ∧ ∀ x H', J.yld i H x H' → g x (wipe σ vs) H' fun σ2 H2 => wipe σ2 vs = wipe σ vs ∧ tt σ2 H2 fun b H3 =>
    if b = true then te σ2 H3 fun y H4 => ys.length < sizeLine ∧ Nx (ys ++ [y]) H4 else Nx ys H3)
def tupY (Y : Cx) (σ : L2.St) (S : Addr) : Protocol := fun n s₀ v s kap => ∃ (ys : List V) (y : V) (H' : Hp), RelV y v ∧ GI Y S [] ys σ H' s ∧ ys.length < sizeLine ∧ ∀ s'', Slept S v s s'' → kap (.send .none) s''
def tupF (Y : Cx) (σ : L2.St) (S : Addr) (fin : List V → Hp → Prop) (s₁ : Shared) : Prop := ∃ ys H', GI Y S [] ys σ H' s₁ ∧ fin ys H'
def tupR (Y : Cx) (σ : L2.St) (S : Addr) (fin : List V → Hp → Prop) : GenEnd := fun _ _ r s₁ => ((r = .ok (.ret .none) ∨ r = .ok .next) ∧ tupF Y σ S fin s₁) ∨ ∃ e, r = .error e ∧ False
section
variable {X : Cx} {A' : Around} {s4 : Shared} {H4 : Hp} {scope : Scope} {C : Addr} {code : Value} {fp : List Addr} {pn : List (Addr × Obj)} {S : Addr}
theorem gx_loopT {elt iter : Expr} {x : Str} {px pos : Pos} {ifs : List Expr} {vs : List Nat} {σ : L2.St} {g : TG} {tt : TT} {te : TE} {J : It} {it : Addr} {tn : Nat → Heap → Prop} {fin : List V → Hp → Prop} {W : Nat → Nat → List V → Hp → Prop}
    (gk : GxOk scope) (hpn : ∀ p ∈ pn, p.1 ∉ fp) (hpS : ∀ p ∈ pn, p.1 ≠ S) (nSf : S ∉ fp) (ap : Apart (gxc X A' s4 H4 scope C code fp pn) S)
    (T : Turn X.prog X.w X.K (.Name x px) J fp it tn)
    (pg : PG (gxc X A' s4 H4 scope C code fp pn) (.Name x px) g) (pt : PTs (gxc X A' s4 H4 scope C code fp pn) ifs tt) (pe : PE (gxc X A' s4 H4 scope C code fp pn) elt te)
    (turn : GWalkT J g tt te vs σ fin W) :
    ∀ (m n i : Nat) (s₀ s : Shared) (ys : List V) (H : Hp), W i m ys H → m < n → GI (gxc X A' s4 H4 scope C code fp pn) S [] ys (wipe σ vs) H s → tn i s.heap → (∀ b ∈ fp, H b = none) →
      Seg (model X.prog X.w) A' (tupR (gxc X A' s4 H4 scope C code fp pn) (wipe σ vs) S fin) (tupY (gxc X A' s4 H4 scope C code fp pn) (wipe σ vs) S) n s₀
        (.compLoop (.GeneratorExp elt [⟨.Name x px, iter, ifs, 0⟩] scope pos) 0 (.ref it) .none (gxEnv X scope C code)) ((model X.prog X.w).den (.compLoop (.GeneratorExp elt [⟨.Name x px, iter, ifs, 0⟩] scope pos) 0 (.ref it) .none (gxEnv X scope C code))) [] s := by
  generalize hY : gxc X A' s4 H4 scope C code fp pn = Y at pg pt pe ap
  have eP : Y.prog = X.prog := by rw [← hY]
  have ew : Y.w = X.w := by rw [← hY]
  have eK : Y.K = X.K := by rw [← hY]
  have eA : Y.A = A'.deeper (gxEnv X scope C code) := by rw [← hY]
  have eE : Y.env = gxEnv X scope C code := by rw [← hY]
  have ex : Y.ex = fp := by rw [← hY]
  have exe : Y.xe = fun _ _ => False := by rw [← hY]
  have epn : Y.pn = pn := by rw [← hY]
  have ecalm : Y.calm = true := by rw [← hY]
  have stat : ∀ {o : Obj} {σ' : L2.St} {H' : Hp} {s' : Shared}, Inv Y [(S, o)] σ' H' s' → (∀ b ∈ fp, H' b = none) → ∀ b ∈ fp, FpOk Y [(S, o)] H' b := fun {o σ' H' s'} I' hn b hb =>
    ⟨hn b hb, (I'.ok.exf b (by rw [ex]; exact hb)).1, I'.ok.exfs b (by rw [ex]; exact hb), .inl (by rw [ex]; exact hb), fun x c e => (I'.ok.exf b (by rw [ex]; exact hb)).2 x c e, fun p hp z => by
      rw [epn] at hp
      rcases List.mem_append.mp hp with hp | hp
      · exact hpn p hp (by rw [z]; exact hb)
      · rw [List.mem_singleton.mp hp] at z
        exact nSf (by rw [show S = b from z]; exact hb)⟩
  intro m
  induction m using Nat.strongRecOn with
  | ind m ih =>
    intro n i s₀ s ys H w hmn hGI st nf
    obtain ⟨acc, ca, ra, I⟩ := hGI
    show Seg _ A' _ _ _ s₀ _ ((compTurn (.GeneratorExp elt [⟨.Name x px, iter, ifs, 0⟩] scope pos) 0 (.ref it) .none (gxEnv X scope C code)).onRaise (leaving (gxEnv X scope C code))) [] s
    rw [compTurn_gen, Sem.onRaise_eq_wrap]
    refine seg_bind_wrap (wpAny_standAt ?_)
    rcases turn i m ys H w with ⟨stop, qq⟩ | ⟨go, Nx, hNx, step⟩
    · have td := T.done Y eP ew eK ecalm i [(S, lstObj acc ca)] s _ H (fun _ _ => False) I (stat I nf) st stop
      rw [eA] at td
      refine seg_bind_wrap ?_
      rw [over_gx]
      refine thnF td fun r s6 ⟨hr, I6⟩ => ?_
      subst hr
      exact seg_end (.ok .next) (.inl ⟨.inr rfl, ys, H, ⟨acc, ca, ra, I6⟩, qq⟩)
    · have ti := T.item Y eP ew eK ecalm i [(S, lstObj acc ca)] s _ H (fun _ _ => False) I (stat I nf) st go
      rw [eA] at ti
      refine seg_bind_wrap ?_
      rw [over_gx]
      refine thnF ti fun r s6 ⟨u, hr, h6⟩ => ?_
      subst hr
      refine seg_bind_wrap ?_
      rw [over_gx]
      refine thnF h6 fun _ s7 ⟨y, H7, I7, r7, y7, st7, n7⟩ => ?_
      have I7' := I7.pinned (stat I7 n7) (T.obj _ _ st7)
      have pgr := pg.run _ s7 _ H7 y u _ I7' r7 (step y H7 y7)
      rw [eP, ew, eA, exe, eE] at pgr
      refine seg_bind_wrap ?_
      rw [over_gx]
      refine thnF pgr fun _ s8 ⟨σ8, H8, I8, hw8, q8⟩ => ?_
      have ptr := pt.run _ s8 σ8 H8 _ I8 q8
      rw [eP, ew, eA, exe, eE] at ptr
      refine seg_bind_wrap ?_
      rw [over_gx]
      refine thnF ptr fun b s9 ⟨H9, I9, q9⟩ => ?_
      have fin' : ∀ {s' : Shared} {H' : Hp}, Inv Y ([(S, lstObj acc ca)] ++ pinsAt fp s7.heap) σ8 H' s' → GI Y S [] ys (wipe σ vs) H' s' ∧ tn (i + 1) s'.heap ∧ (∀ b ∈ fp, H' b = none) := fun {s' H'} I' => by
        have pin' : ∀ b ∈ fp, ∀ o, s7.heap.get? b = some o → s'.heap.get? b = some o ∧ H' b = none := fun b hb o e =>
          let z := I'.pin (b, o) (List.mem_append_right _ (List.mem_append_right _ (mem_pinsAt hb e)))
          ⟨z.1, z.2.1⟩
        have hl : (wipe σ vs).length = σ8.length := by rw [← hw8, wipe_length]
        refine ⟨⟨acc, ca, ra, (I'.unpinned (pins := [(S, lstObj acc ca)])).weak hl (fun j v e => ?_)⟩, T.keep _ _ _ st7 fun b hb o e => (pin' b hb o e).1, fun b hb => ?_⟩
        · rw [← hw8] at e
          exact (wipe_some e).1
        · obtain ⟨o, e, _⟩ := T.obj _ _ st7 b hb
          exact (pin' b hb o e).2
      cases b with
      | false =>
        simp only [Bool.false_eq_true, if_false] at q9 ⊢
        obtain ⟨f1, f2, f3⟩ := fin' I9
        obtain ⟨m', hm', w'⟩ := hNx _ _ q9
        exact seg_again rfl (ih m' hm' n (i + 1) s₀ s9 ys H9 w' (by omega) f1 f2 f3)
      | true =>
        simp only [if_true] at q9 ⊢
        have hy : ∀ v, yieldOut (gxEnv X scope C code) v = yieldValue v := fun v => by
          have hco : (gxEnv X scope C code).scope.isCoroutine = false := gk.co
          simp only [yieldOut, hco, Bool.false_eq_true, if_false]
        simp only [hy]
        rw [Sem.bind_eq_wrap', Sem.bind_eq_wrap', Sem.wrap_wrap, Sem.wrap_wrap]
        have per := pe.run _ s9 σ8 H9 _ I9 q9
        rw [eP, ew, eA, exe, eE] at per
        refine seg_wrap ?_
        rw [over_gx]
        refine thnF per fun z s10 ⟨yv, H10, I10, r10, lt, nx⟩ => ?_
        obtain ⟨f1, f2, f3⟩ := fin' I10
        cases n with
        | zero => omega
        | succ n' =>
          refine seg_at (seg_yield rfl rfl rfl ⟨ys, yv, H10, r10, f1, lt, fun s'' zz => ?_⟩)
          obtain ⟨m', hm', w'⟩ := hNx _ _ nx
          refine seg_again rfl (ih m' hm' n' (i + 1) s'' s'' (ys ++ [yv]) H10 w' (by omega) (GI.woken (by rw [epn]; exact hpS) (fun p hp => by cases hp) ap f1 r10 zz) (T.keep _ _ _ f2 fun b hb o e => zz.keep b o (fun k => nSf (by rw [← k]; exact hb)) e) f3)
theorem gx_beginT {elt iter : Expr} {x : Str} {px pos : Pos} {ifs : List Expr} {vs : List Nat} {σ : L2.St} {g : TG} {tt : TT} {te : TE} {J : It} {it : Addr} {tn : Nat → Heap → Prop} {fin : List V → Hp → Prop} {W : Nat → Nat → List V → Hp → Prop}
    (gk : GxOk scope) (hpn : ∀ p ∈ pn, p.1 ∉ fp) (hpS : ∀ p ∈ pn, p.1 ≠ S) (nSf : S ∉ fp) (ap : Apart (gxc X A' s4 H4 scope C code fp pn) S)
    (T : Turn X.prog X.w X.K (.Name x px) J fp it tn)
    (pg : PG (gxc X A' s4 H4 scope C code fp pn) (.Name x px) g) (pt : PTs (gxc X A' s4 H4 scope C code fp pn) ifs tt) (pe : PE (gxc X A' s4 H4 scope C code fp pn) elt te)
    (turn : GWalkT J g tt te vs σ fin W) (m n : Nat) (s₀ s : Shared) (ys : List V) (H : Hp) (w : W 0 m ys H) (hmn : m < n) (I : GI (gxc X A' s4 H4 scope C code fp pn) S [] ys (wipe σ vs) H s) (st : tn 0 s.heap) (nf : ∀ b ∈ fp, H b = none) :
      Seg (model X.prog X.w) A' (tupR (gxc X A' s4 H4 scope C code fp pn) (wipe σ vs) S fin) (tupY (gxc X A' s4 H4 scope C code fp pn) (wipe σ vs) S) n s₀
        (.compStart (.GeneratorExp elt [⟨.Name x px, iter, ifs, 0⟩] scope pos) 0 (.ref it) .none (gxEnv X scope C code)) ((model X.prog X.w).den (.compStart (.GeneratorExp elt [⟨.Name x px, iter, ifs, 0⟩] scope pos) 0 (.ref it) .none (gxEnv X scope C code))) [] s := by
  have loop := gx_loopT (iter := iter) (pos := pos) gk hpn hpS nSf ap T pg pt pe turn m n 0 s₀ s ys H w hmn I st nf
  show Seg _ A' _ _ _ s₀ _ ((compStart (.GeneratorExp elt [⟨.Name x px, iter, ifs, 0⟩] scope pos) 0 (.ref it) .none (gxEnv X scope C code)).onRaise (leaving (gxEnv X scope C code))) [] s
  unfold compStart
  rw [Sem.onRaise_eq_wrap]
  show Seg _ A' _ _ _ s₀ _ ((ask >>= _).wrap _ _ _ _) [] s
  refine seg_bind_wrap (wpAny_askSetting ?_)
  split
  · exact seg_again rfl loop
  · first
      | exact seg_bind_wrap (wpAny_rule (seg_bind_wrap (wpAny_standAt (seg_bind_wrap (T.self _ 0 s _ _ st (seg_again rfl loop))))))
      | (refine seg_bind_wrap (wpAny_rule ?_); show Seg _ A' _ _ _ s₀ _ ((standAt iter.pos >>= _).wrap _ _ _ _) [] s; exact seg_bind_wrap (wpAny_standAt (seg_bind_wrap (T.self _ 0 s _ _ st (seg_again rfl loop)))))
/-- the loop that fills a list, by what each next tells -/
theorem ext_by {P : Program} {w : World} {A : Around} {a S : Addr} {res : Value} {R : Result → Shared → Prop} (St : Nat → Shared → Prop)
    (step : ∀ m s, St m s → wpAny (model P w) A.in1 (pyNext (.ref a)) (fun r s1 => match r with | none => R (.ok (.ret res)) s1 | some v => ∃ (acc : Array Value) (c : Nat), s1.heap.get? S = some (lstObj acc c) ∧ acc.size < sizeLine ∧ ∃ m', m' < m ∧ St m' { s1 with heap := s1.heap.update S (Obj.mapSeq (·.push v)) }) (fun _ _ => False) s) :
    ∀ (m : Nat) (s : Shared), St m s → codeAny (model P w) A (.builtin "list.extend.loop" ⟨[.ref S, .ref a, res], []⟩) R s := by
  intro m
  induction m using Nat.strongRecOn with
  | ind m ih =>
    intro s hst
    refine codeAny_builtin F.entry_extend_loop ?_
    rw [Around.under_plainId F.plain_extend_loop _]
    show wpAny _ A.in1 (pyNext (.ref a) >>= _) _ _ s
    refine wpAny_bind (thnF (step m s hst) fun r s1 h => ?_)
    cases r with
    | none => exact wpAny_pure h
    | some v =>
      obtain ⟨acc, c, hS, lt, m', hm, st'⟩ := h
      show wpAny _ A.in1 (updateSeq S (·.push v) >>= _) _ _ _
      refine wpAny_bind ?_
      exact wpAny_updateSeq hS rfl (wpAny_pure ⟨plainId_quiet F.plain_extend_loop _, ih m' hm _ st'⟩) (Nat.le_of_lt lt) (by show (acc.push v).size ≤ sizeLine + 1; rw [Array.size_push]; omega)
/-- collect of a generator -/
theorem collect_by {P : Program} {w : World} {A : Around} {E : Value → Shared → Prop} {s : Shared} {a : Addr} {g : Nat} {Q : List Value → Shared → Prop} (hg : s.heap.IsGen a g) (ha : a < s.heap.objs.size)
    (h : ∀ (c : Nat) (h2 : Heap), (∀ b o, s.heap.get? b = some o → h2.get? b = some o) → h2.get? s.heap.objs.size = some (lstObj #[] c) → codeAny (model P w) A (.builtin "list.extend.loop" ⟨[.ref s.heap.objs.size, .ref a, .ref s.heap.objs.size], []⟩) (fun r s' => ∃ acc c, r = .ok (.ret (.ref s.heap.objs.size)) ∧ s'.heap.get? s.heap.objs.size = some (lstObj acc c) ∧ Q acc.toList s') { s with heap := h2 }) :
    wpAny (model P w) A (collect (.ref a)) Q E s := by
  have hSI : s.heap.objs.size ≠ a := Nat.ne_of_gt ha
  unfold collect
  refine wpAny_bind (wpAny_runValue (codeAny_builtin F.entry_proto_collect ?_))
  rw [Around.under_plainId F.plain_proto_collect _]
  show wpAny _ A.in1 (newList [] >>= fun l => again (.builtin "list.__iadd__" ⟨[l, .ref a], []⟩)) _ _ s
  refine wpAny_bind (wpAny_newObj_type ?_)
  refine wpAny_pure ⟨plainId_quiet F.plain_list_iadd _, codeAny_builtin F.entry_list_iadd ?_⟩
  rw [Around.under_plainId F.plain_list_iadd _]
  have k1 : ∀ b o, s.heap.get? b = some o → (s.heap.push { cls := .type "list", data := .seq ([] : List Value).toArray }).get? b = some o := fun b o e => Heap.get?_push_of_some _ e
  have gty : ∀ {h2 : Heap}, (∀ b o, s.heap.get? b = some o → h2.get? b = some o) → h2.IsGen a g := fun {h2} q => hg.keeps q
  show wpAny _ A.in1 (Builtin.List.listExtendWith (.ref s.heap.objs.size) (.ref a) (.ref s.heap.objs.size)) _ _ _
  unfold Builtin.List.listExtendWith
  refine wpAny_bind (wpAny_typeOf (Heap.IsGen.typeIs (s := { s with heap := _ }) (gty k1)) ?_)
  have h1 : Builtin.List.listSameRef (.ref s.heap.objs.size) (.ref a) = false := by simp [Builtin.List.listSameRef, hSI]
  have h2 : (Value.type "generator" == Value.type "list") = false := by decide
  have h3 : (Value.type "generator" == Value.type "tuple") = false := by decide
  simp only [h1, h2, h3, Bool.or_false, Bool.false_eq_true, if_false]
  refine wpAny_bind (wpAny_pyIter_gen (s := { s with heap := _ }) (gty k1) ?_)
  refine wpAny_bind (wpAny_holding ?_)
  unfold Builtin.List.listLengthHint
  refine wpAny_bind (wpAny_specialOf (Heap.IsGen.typeIs (s := { s with heap := _ }) (gty k1)) F.gen_no_len ?_)
  show wpAny _ A.in1 (specialOf (Value.ref a) (Str.ofString "__length_hint__") >>= _) _ _ _
  refine wpAny_bind (wpAny_specialOf (Heap.IsGen.typeIs (s := { s with heap := _ }) (gty k1)) F.gen_no_hint ?_)
  refine wpAny_pure ?_
  show wpAny _ A.in1 (rule "list.extend.makes-room" >>= fun _ => Builtin.List.listTouch (.ref s.heap.objs.size) >>= fun _ =>
    again (.builtin "list.extend.loop" ⟨[.ref s.heap.objs.size, .ref a, .ref s.heap.objs.size], []⟩)) _ _ _
  refine wpAny_bind (wpAny_rule ?_)
  have hS1 : (s.heap.push { cls := .type "list", data := .seq ([] : List Value).toArray }).get? s.heap.objs.size = some { cls := .type "list", data := .seq ([] : List Value).toArray } := Heap.get?_push_size _ rfl
  refine wpAny_bind ?_
  show wpAny _ A.in1 (updateSeq s.heap.objs.size (·.push .none) >>= fun _ => updateSeq s.heap.objs.size (·.pop)) _ _ _
  refine wpAny_bind (wpAny_updateSeq hS1 rfl ?_)
  have hS2 := Heap.get?_update_self (Obj.mapSeq (·.push Value.none)) hS1 rfl
  refine wpAny_updateSeq hS2 rfl ?_
  have hS3 := Heap.get?_update_self (Obj.mapSeq (·.pop)) hS2 rfl
  have up : ∀ (h : Heap) (f : Obj → Obj), (∀ b o, s.heap.get? b = some o → h.get? b = some o) → ∀ b o, s.heap.get? b = some o → (h.update s.heap.objs.size f).get? b = some o := fun h f q b o e =>
    (Heap.get?_update_other _ _ (Ne.symm (Nat.ne_of_lt (Heap.lt_size e)))).trans (q b o e)
  refine wpAny_pure ⟨plainId_quiet F.plain_extend_loop _, ?_⟩
  refine codeAny_mono (h _ _ (up _ (Obj.mapSeq (·.pop)) (up _ (Obj.mapSeq (·.push Value.none)) k1)) hS3) fun r s' hq => ?_
  obtain ⟨acc, c, rfl, hS', hq⟩ := hq
  show wpAny _ A (load s.heap.objs.size >>= _) _ _ s'
  refine wpAny_bind (wpAny_load hS' ?_)
  exact wpAny_pure hq
end
section
variable {X : Cx}
/-- tuple(elt for x in iter if ..): P the table of the def's code -/
def tTupG (P : Addr) (wi : TI) (g : TG) (tt : TT) (te : TE) (vs : List Nat) : TE := fun σ H Q => wi σ H fun J H1 => TabG H1 P ∧ ∀ H2, Tabbed P H1 H2 → ∃ W : Nat → Nat → List V → Hp → Prop, (∃ m, W 0 m [] H2) ∧ GWalkT J g tt te vs σ (fun ys H' => ys.length ≤ sizeLine ∧ ∀ p, H' p = none → Q (.ref p) (upd H' p (.tup ys))) W
theorem pe_tupG {c P : Addr} {elt iter : Expr} {x : Str} {px p pos gpos : Pos} {ifs : List Expr} {scope : Scope} {own : List (Str × Nat)} {wi : TI} {g : TG} {tt : TT} {te : TE} {k : Nat}
    (hr : Room (k + 2) X.A) (hg : Gl X "tuple") (hm : X.mg "tuple" = none) (hb : bootBuiltins "tuple" = some (.type "tuple")) (TB : TabB X.base X.mg c P) (hcode : X.env.code = .ref c) (hN : X.N.Nodup) (ok : BlkOk X.N X.env.scope scope own) (gk : GxOk scope)
    (hi : PI X (.Name x px) iter wi) (hgt : ∀ (A' : Around) (s : Shared) (H : Hp) (C : Addr) (code : Value) (fp : List Addr) (pn : List (Addr × Obj)), PG (gxc X A' s H scope C code fp pn) (.Name x px) g)
    (ht : ∀ (A' : Around) (s : Shared) (H : Hp) (C : Addr) (code : Value) (fp : List Addr) (pn : List (Addr × Obj)), Room k (gxc X A' s H scope C code fp pn).A → PTs (gxc X A' s H scope C code fp pn) ifs tt)
    (he : ∀ (A' : Around) (s : Shared) (H : Hp) (C : Addr) (code : Value) (fp : List Addr) (pn : List (Addr × Obj)), Room k (gxc X A' s H scope C code fp pn).A → PE (gxc X A' s H scope C code fp pn) elt te)
    (hs : ∀ v, genFold iter X.env v = pure v)
    (hst : starEach [.GeneratorExp elt [⟨.Name x px, iter, ifs, 0⟩] scope gpos] X.env = (false, eval (.GeneratorExp elt [⟨.Name x px, iter, ifs, 0⟩] scope gpos) X.env) :: starEach [] X.env := by rfl) :
    PE X (.Call (.Name "tuple" p) [.GeneratorExp elt [⟨.Name x px, iter, ifs, 0⟩] scope gpos] [] pos) (tTupG P wi g tt te (own.map (·.2))) := by
  refine ⟨fun pins s σ H Q I h => ?_⟩
  refine wpAny_Call_Name_kw (ld_blt I hg hm hb ?_)
  refine PyProof.Rows.callWith_type1 ?_ hst rfl
  rw [hst]
  show wpAny _ _ (spliced ((false, eval (.GeneratorExp elt [⟨.Name x px, iter, ifs, 0⟩] scope gpos) X.env) :: backTo pos (starEach [] X.env))) _ _ s
  have hfree : ∀ y ∈ scope.names, y.2 = .free → ∃ c, X.env.cells.lookup y.1 = some c := fun y hy e => by
    rcases ok.free y hy e with k | k
    · exact I.ok.has _ (.inl k)
    · exact I.ok.has _ (.inr k)
  refine Calls.spliced_cons (wpAny_GeneratorExp_make gk.co (closure_ok hfree) gk.cell gk.dot ok.kind (by have := hr.dp; omega) (thn (hi.run pins s σ H _ I h) fun xv s1 hx => thn hx fun itv s2 h2 => ?_) hs)
  obtain ⟨it, fp, tn, J, H2, e, I2, T, st2, f2, ⟨ps, hP, htr⟩, q⟩ := h2
  subst e
  have hPs : s2.heap.get? P = some { cls := .none, data := .fields ps } := I2.hok P _ hP
  have nPf : P ∉ fp := fun z => by
    have := (f2 P z).1
    rw [hP] at this
    cases this
  have cd : PySem.W.CodeHd s2.heap c P := TB.code.keeps I2.bk
  refine ⟨I2.nolimit, ?_⟩
  have cont : ∀ (code : Value) (h3 : Heap) (tk : Nat) (more : Array Value), Heap.ExtBut P s2.heap h3 → h3.get? P = some { cls := .none, data := .fields (ps ++ more) } → TriplesOk (ps ++ more).toList →
      wpAny (model X.prog X.w) X.A (builtinsFor X.env.globals X.env.builtins) (fun bi s₄ => ∀ h', h'.Ns s₄.heap.objs.size (fun y => if y = ".0" then some (.ref it) else none) → Heap.SameBut s₄.heap.objs.size (s₄.heap.push { cls := .type "frame", data := .dict #[] }) h' →
        wpAny (model X.prog X.w) X.A (spliced (backTo pos (starEach [] X.env))) (fun us s' => wpAny (model X.prog X.w) X.A (call (.type "tuple") (.ref h'.objs.size :: us)) (EP X pins σ Q) X.xe s') X.xe { s₄ with
            gens := s₄.gens.push (.fresh (.compStart (.GeneratorExp elt [⟨.Name x px, iter, ifs, 0⟩] scope gpos) 0 (.ref it) .none (genEnv scope (cloFrom X.env.cells scope.names []) s₄.heap.objs.size code bi X.env))),
            toks := s₄.toks + 1 + 1 + 1,
            heap := h'.push { cls := .type "generator", data := .fields #[.int s₄.gens.size 0, .str "<genexpr>" (s₄.toks + 1), .str (X.env.qual ++ "<genexpr>") (s₄.toks + 1 + 1)] } }) X.xe { s2 with heap := h3, toks := tk } := by
    intro code h3 tk more hx hP3 ht3
    have I3 : Inv X pins σ (upd H2 P (.tbl (ps ++ more))) { s2 with heap := h3, toks := tk } := inv_tab (g' := s2.gens) (d' := s2.drawn) (t' := tk) I2 hP (fun b o hb e => hx b o hb e) hP3 I2.bare
    have hb2 : AllBare s2.gens := I2.bare
    have st3 : tn 0 h3 := T.keep _ _ _ st2 fun b hb o e => hx b o (fun z => nPf (by rw [← z]; exact hb)) e
    have f3 : ∀ b ∈ fp, FpOk X pins (upd H2 P (.tbl (ps ++ more))) b ∧ b < h3.objs.size := fun b hb => by
      have nb : b ≠ P := fun z => nPf (by rw [← z]; exact hb)
      obtain ⟨o, e, _⟩ := T.obj _ _ st2 b hb
      refine ⟨⟨?_, (f2 b hb).2⟩, Heap.lt_size (hx b o nb e)⟩
      rw [upd_ne nb]
      exact (f2 b hb).1
    obtain ⟨W, ⟨m0, w0⟩, turn⟩ := q (upd H2 P (.tbl (ps ++ more))) ⟨⟨ps ++ more, upd_same, ht3⟩, fun b hb => upd_ne hb⟩
    obtain ⟨bm, ob, e1, e2, e3, e4, e5, e6, e7, e8⟩ := TB.bm
    refine wpAny_builtinsFor (m := X.mg) (by rw [I3.ok.glob]; exact I3.mod.glob.keeps I3.bk) e1 e2 (I3.bk _ _ e5) e6 e7 e8 ?_
    intro h' hn' hs'
    have hn' : h'.Ns h3.objs.size (fun y => if y = ".0" then some (.ref it) else none) := hn'
    have hs' : Heap.SameBut h3.objs.size (h3.push { cls := .type "frame", data := .dict #[] }) h' := hs'
    have hsz : h'.objs.size = h3.objs.size + 1 := by rw [hs'.1, Heap.size_push]
    have keep' : ∀ b o, h3.get? b = some o → h'.get? b = some o := fun b o e => hs'.extBut b o (Nat.ne_of_lt (Heap.lt_size e)) (Heap.get?_push_of_some _ e)
    generalize hH3 : upd H2 P (.tbl (ps ++ more)) = H3 at I3 f3 w0
    generalize hgo : ({ cls := .type "generator", data := .fields #[.int s2.gens.size 0, .str "<genexpr>" (tk + 1), .str (X.env.qual ++ "<genexpr>") (tk + 1 + 1)] } : Obj) = go
    have goC : ∀ v, go.data ≠ .cell v := fun v z => by rw [← hgo] at z; cases z
    have goF : go.isFreed = false := by rw [← hgo]; rfl
    generalize hs5 : ({ s2 with heap := h'.push go, toks := tk + 1 + 1 + 1, gens := s2.gens.push (.fresh (.compStart (.GeneratorExp elt [⟨.Name x px, iter, ifs, 0⟩] scope gpos) 0 (.ref it) .none (gxEnv X scope h3.objs.size code))) } : Shared) = s5
    have k5 : ∀ b o, h3.get? b = some o → s5.heap.get? b = some o := fun b o e => by rw [← hs5]; exact Heap.get?_push_of_some _ (keep' b o e)
    have g5 : s5.heap.get? h'.objs.size = some go := by rw [← hs5]; exact Heap.get?_push_size _ goF
    have b5 : AllBare s5.gens := by rw [← hs5]; exact I2.bare.push rfl
    have I5 := gx_start (A' := X.A.in1.in1.in1.in1) (code := code) (pn := [(h'.objs.size, go)]) (s5 := s5) (s := { s2 with heap := h3, toks := tk }) I3 ok gk hN f3 I2.ok.frames hr.hd (by rw [← hs5]) b5 k5 (by rw [← hs5]; exact hn'.push _) (fun p hp => by
      rw [List.mem_singleton.mp hp]
      exact ⟨g5, by show h3.objs.size < h'.objs.size; omega, goC⟩)
    have rk : Room k (gxc X X.A.in1.in1.in1.in1 { s2 with heap := h3, toks := tk } H3 scope h3.objs.size code fp [(h'.objs.size, go)]).A := ⟨hr.hd, by have := hr.dp; show X.A.depth + 1 + 3 * k + 5 < _; omega, by have := hr.un; show X.A.units + 1 + 1 + 1 + 1 + 3 + 16 * k + 200 < _; omega⟩
    have pg := hgt X.A.in1.in1.in1.in1 { s2 with heap := h3, toks := tk } H3 h3.objs.size code fp [(h'.objs.size, go)]
    have pt := ht X.A.in1.in1.in1.in1 { s2 with heap := h3, toks := tk } H3 h3.objs.size code fp [(h'.objs.size, go)] rk
    have pe := he X.A.in1.in1.in1.in1 { s2 with heap := h3, toks := tk } H3 h3.objs.size code fp [(h'.objs.size, go)] rk
    have npn : ∀ p ∈ [(h'.objs.size, go)], p.1 ∉ fp := fun p hp z => by
      rw [List.mem_singleton.mp hp] at z
      have h9 : h'.objs.size < h3.objs.size := (f3 _ z).2
      omega
    have nf : ∀ b ∈ fp, H3 b = none := fun b hb => (f3 b hb).1.1
    have isG : ∀ {h : Heap}, h.get? h'.objs.size = some go → h.IsGen h'.objs.size s2.gens.size := fun {h} e => ⟨go, .str "<genexpr>" (tk + 1), .str (X.env.qual ++ "<genexpr>") (tk + 1 + 1), e, by rw [← hgo], by rw [← hgo], by rw [← hgo]⟩
    have back : ∀ {H' : Hp} {s₁ s' : Shared}, Inv (gxc X X.A.in1.in1.in1.in1 { s2 with heap := h3, toks := tk } H3 scope h3.objs.size code fp [(h'.objs.size, go)]) [] (wipe σ (own.map (·.2))) H' s₁ → s'.os = s₁.os → AllBare s'.gens → (∀ b o, s₁.heap.get? b = some o → s'.heap.get? b = some o) → Inv X pins σ H' s' := fun {H' s₁ s'} I' ho hb k =>
      I3.call' (ch := fp) (ho.trans I'.os) (I'.base.trans (Un.kept k)) (I'.hok.kept k) hb fun b hb => ⟨(f3 b hb).1.2.2.2.1, (f3 b hb).1.2.1, (f3 b hb).1.2.2.2.2.1, (f3 b hb).1.2.2.2.2.2⟩
    refine Calls.spliced_nil ?_
    show wpAny (model X.prog X.w) X.A (call (.type "tuple") [.ref h'.objs.size]) (EP X pins σ Q) X.xe s5
    have a5 : h'.objs.size < s5.heap.objs.size := Heap.lt_size g5
    have C5 : h3.objs.size < s5.heap.objs.size := by omega
    have nSf : s5.heap.objs.size ∉ fp := fun z => by
      have h9 : s5.heap.objs.size < h3.objs.size := (f3 _ z).2
      omega
    have ap : Apart (gxc X X.A.in1.in1.in1.in1 { s2 with heap := h3, toks := tk } H3 scope h3.objs.size code fp [(h'.objs.size, go)]) s5.heap.objs.size := by
      refine ⟨Nat.le_of_lt C5, Nat.ne_of_gt C5, fun y c e z => ?_⟩
      obtain ⟨v, q⟩ := I5.cell y c e
      have := q.lt
      rw [z] at this
      exact absurd this (Nat.lt_irrefl _)
    have hpS : ∀ p ∈ [(h'.objs.size, go)], p.1 ≠ s5.heap.objs.size := fun p hp => by
      rw [List.mem_singleton.mp hp]
      exact Nat.ne_of_lt a5
    have hSc : s5.heap.objs.size ≠ cStatics := fun z => by
      obtain ⟨mc, hns, _⟩ := I5.nolimit
      have := hns.lt
      rw [← z] at this
      exact absurd this (Nat.lt_irrefl _)
    refine callType_codes (Q₁ := fun obj s₁ => s₁.TypeIs obj "tuple" ∧ EP X pins σ Q obj s₁) F.called_tuple (F.typeCall_tuple_1 _) F.entry_object_init ?_ fun obj s₁ h₁ => ⟨h₁.1, F.args_object_init_2 obj _, object_init_meets F.called_tuple.init.lookup F.called_tuple.made (by decide) X.prog X.w X.A.in1 _ s₁ ⟨h₁.1, rfl, h₁.2⟩⟩
    refine codeAny_of_tree ?_
    show wpAny _ X.A.in1.in1 (do checkBuiltinCall "tuple.__new__" ⟨[.type "tuple", .ref h'.objs.size], []⟩; again (.builtin "tuple.__new__" ⟨[.type "tuple", .ref h'.objs.size], []⟩)) _ _ s5
    refine wpAny_bind (wpAny_of_eq (F.newCall_tuple_1 _) (wpAny_pure ⟨plainId_quiet F.plain_tuple_new _, codeAny_builtin F.entry_tuple_new ?_⟩))
    rw [Around.under_plainId F.plain_tuple_new _]
    have hsub := sub_tuple_self
    have hinit := init_tuple_lookup
    have hmh := madeHere_tuple
    have hTI := (isG g5).typeIs
    wp_walk using wpAny_typeOf hTI, collect_by (isG g5) a5
    intro c0 h2 hk2 hS2
    refine ext_by (A := X.A.in1.in1) (fun n s => s.heap.IsGen h'.objs.size s2.gens.size ∧ s.heap.NoLimit ∧ ∃ gs, s.gens[s2.gens.size]? = some gs ∧ gs.Goes (model X.prog X.w) X.A.in1.in1.in1.in1 (tupR (gxc X X.A.in1.in1.in1.in1 { s2 with heap := h3, toks := tk } H3 scope h3.objs.size code fp [(h'.objs.size, go)]) (wipe σ (own.map (·.2))) s5.heap.objs.size (fun ys H' => ys.length ≤ sizeLine ∧ ∀ p, H' p = none → Q (.ref p) (upd H' p (.tup ys)))) (tupY (gxc X X.A.in1.in1.in1.in1 { s2 with heap := h3, toks := tk } H3 scope h3.objs.size code fp [(h'.objs.size, go)]) (wipe σ (own.map (·.2))) s5.heap.objs.size) n (.send .none) (s.setGen s2.gens.size .running)) ?_ (m0 + 1) _ ?_
    · rintro n s ⟨hgn, hl, gs, hgs, hgoes⟩
      have hgl : s2.gens.size < s.gens.size := (Array.getElem?_eq_some_iff.mp hgs).1
      refine wpAny_gsz (n := s2.gens.size + 1) hgl (next_genG (A := X.A.in1.in1.in1) (F := fun _ _ s₁ => tupF (gxc X X.A.in1.in1.in1.in1 { s2 with heap := h3, toks := tk } H3 scope h3.objs.size code fp [(h'.objs.size, go)]) (wipe σ (own.map fun (y : Str × Nat) => y.2)) s5.heap.objs.size (fun ys H' => ys.length ≤ sizeLine ∧ ∀ p, H' p = none → Q (.ref p) (upd H' p (.tup ys))) s₁) (Er := fun _ _ => False) hr.hd hl (by have := hr.dp; show X.A.depth < _; omega) hgn hgs hgoes (fun v s₁ gs' hbare hv => ?_) (fun s₁ hp h'' hk => ?_) fun e s₁ he => he.elim)
      · intro hsz
        obtain ⟨ys, yv, H', rv, gi, lt, kt⟩ := hv
        obtain ⟨_, _, _, acc, ca, ra, hS1⟩ := gi.at
        obtain ⟨acc0, ca0, ra0, I'⟩ := gi
        have hsz1 : s2.gens.size < s₁.gens.size := by
          have q : (s₁.setGen s2.gens.size gs').gens.size = s₁.gens.size := setGen_size _ _ _
          have hsz' : s2.gens.size + 1 ≤ (s₁.setGen s2.gens.size gs').gens.size := hsz
          omega
        have la : acc.size < sizeLine := by
          have e9 : ys.length = acc.size := ra.length.trans Array.length_toList
          rw [← e9]
          exact lt
        refine ⟨acc, ca, hS1, la, ?_⟩
        cases n with
        | zero => exact (kt _ (Slept.push hS1 I'.bare)).elim
        | succ n' =>
          have kp3 : ∀ b o, b ≠ s5.heap.objs.size → s₁.heap.get? b = some o → (s₁.heap.update s5.heap.objs.size (Obj.mapSeq (·.push v))).get? b = some o := fun b o hbS e => (Heap.get?_update_other _ _ (Ne.symm hbS)).trans e
          refine ⟨n', Nat.lt_succ_self _, isG (kp3 _ _ (Nat.ne_of_lt a5) (I'.pin (h'.objs.size, go) (by simp)).1), ?_, gs', setGen_at (s := s₁) hsz1, kt _ (Slept.push hS1 (allBare_setGen (s := s₁.setGen s2.gens.size gs') (allBare_setGen I'.bare hbare) rfl))⟩
          obtain ⟨mc, hns, hnn⟩ := I'.nolimit
          exact ⟨mc, hns.at' fun o e => kp3 _ o (Ne.symm hSc) e, hnn⟩
      · intro _
        obtain ⟨ys, H', gi, lq, q'⟩ := hp
        obtain ⟨_, _, _, acc, ca, ra, hS1⟩ := gi.at
        obtain ⟨acc0, ca0, ra0, I'⟩ := gi
        refine ⟨acc, ca, rfl, hk _ _ hS1, ?_⟩
        have IX := back (s' := { s₁.setGen s2.gens.size .finished with heap := h'' }) (I'.pins_of fun p hp => by cases hp) rfl (allBare_setGen I'.bare rfl) hk
        show wpAny _ _ (Builtin.Tuple.tupleExact acc.toList.toArray >>= fun v => ret v) _ _ _
        unfold Builtin.Tuple.tupleExact
        have la : acc.size ≤ sizeLine := by
          have e9 : ys.length = acc.size := ra.length.trans Array.length_toList
          rw [← e9]
          exact lq
        refine wpAny_bind (wpAny_newObj_type ?_ (by show acc.toList.toArray.size ≤ sizeLine; simp only [Array.toArray_toList]; exact la))
        refine wpAny_pure ?_
        have IL := IX.laid (t' := s₁.toks) (h' := h''.push { cls := .type "tuple", data := .seq acc.toList.toArray }) (a := h''.objs.size) (o := .tup ys) (fun b o e => Heap.get?_push_of_some _ e) (Nat.le_refl _) ⟨lq, acc.toList, ra, _, Heap.get?_push_size _ rfl, rfl, _, rfl⟩
        exact ⟨⟨_, Heap.get?_push_size _ rfl, rfl⟩, .ref h''.objs.size, _, IL, rfl, q' _ (IX.hok.fresh (Nat.le_refl _))⟩
    · have b5' : AllBare (({ s5 with heap := h2 } : Shared).setGen s2.gens.size .running).gens := allBare_setGen (s := { s5 with heap := h2 }) b5 rfl
      refine ⟨isG (hk2 _ _ g5), I5.nolimit.keeps hk2, .fresh (.compStart (.GeneratorExp elt [⟨.Name x px, iter, ifs, 0⟩] scope gpos) 0 (.ref it) .none (gxEnv X scope h3.objs.size code)), by rw [← hs5]; exact Array.getElem?_push_size .., rfl, ?_⟩
      have I6 := I5.kept (t' := s5.toks) hk2
      refine gx_beginT gk npn hpS nSf ap T pg pt pe turn m0 (m0 + 1) _ _ [] H3 w0 (Nat.lt_succ_self _) ⟨#[], c0, .nil, (Slp.inv (s' := ({ s5 with heap := h2 } : Shared).setGen s2.gens.size .running) I6 ⟨rfl, rfl, b5'⟩).pins_of fun p hp => ?_⟩ (T.keep _ _ _ st3 fun b hb o e => hk2 _ _ (k5 b o e)) nf
      rw [List.mem_singleton.mp hp]
      exact ⟨hS2, I5.hok.fresh (Nat.le_refl _), Nat.ne_of_gt C5, I5.nofs (Nat.le_refl _), fun v z => by cases z⟩
  cases hf : codeAmong gpos ps.toList with
  | none =>
    refine wpAny_genexprCodeX hcode (cd.code hPs htr) (cd.tab hPs) hf fun c' h' tk hx hge hlt hco' _ htab' _ => ?_
    obtain ⟨o1, vs, f1, tf, fl, tg, inF, tx, tt, op, _, _, _, _, _, _, _, _, _, htr', _⟩ := hco'
    exact cont _ h' tk _ hx htab'.2 htr'
  | some cv =>
    refine wpAny_genexprCode_hit hcode (cd.code hPs htr) hf ?_
    exact cont cv s2.heap s2.toks #[] (Heap.ExtBut.refl _ _) (by simpa using hPs) (by simpa using htr)
end
end Fc

namespace Fc
open PySem PySem.Spec L2 PyProof.Rows GxR
/-! ### a def whose code object is known by its address -/
structure FunC (K : PySem.W.Frag) (x qual : Str) (st : Stmt) (f : Addr) (fd : FuncData) (c : Addr) : Prop where
  ex : ∃ (oc : Value) (od : Option Addr) (kV doc pm : Value) (an : Option Addr) (ct : Value) (osl : Array (Option Value)),
    fd = PySem.W.fnOf x qual (defArgs st) (defBody st) (defScope st) .none kV doc pm an (.ref c) ct ∧ K.lookup f = some ⟨oc, od, .func fd, osl⟩ ∧ PySem.W.codeIn K (.ref c) qual = true
  kp : PySem.W.keepIn K (.ref f) = true
theorem FunC.to {K : PySem.W.Frag} {x qual : Str} {st : Stmt} {f : Addr} {fd : FuncData} {c : Addr} (F : FunC K x qual st f fd c) : Fun K x qual st f fd := by
  obtain ⟨oc, od, kV, doc, pm, an, ct, osl, h1, h2, h3⟩ := F.ex
  exact ⟨⟨oc, od, kV, doc, pm, an, _, ct, osl, h1, h2, h3⟩, F.kp⟩
section
variable {P : Program} {w : World} {K : PySem.W.Frag} {mg : Str → Option Value} {base : Heap}
theorem FunC.ok {x qual : Str} {st : Stmt} {f : Addr} {fd : FuncData} {c : Addr} {N ps : List Str} {k : Nat} {sp : Sp} (F : FunC K x qual st f fd c) (S : FnScope N ps (defScope st)) (len : ∀ vs H Q E, sp vs H Q E → vs.length = ps.length)
    (hbody : ∀ (A : Around) (outer : List Env) (s : Shared) (H : Hp) (vs : List V) (Q : VK) (E : XK), Room k (A.deeper (envOfC qual (defScope st) s.heap.objs.size f (.ref c))) → sp vs H Q E →
      ∃ t, PSs (cxOf CX0 P w K mg base N qual (defScope st) f (.ref c) A outer s H E).nox (defBody st) t ∧ t { nx := fun _ H' => Q .non H', rt := Q } (start N vs) H) : FnOk P w K mg base CX0 (k + 1) f fd ps sp := by
  obtain ⟨oc, od, kV, doc, pm, an, ct, osl, rfl, lk, hcd⟩ := F.ex
  refine fn_of lk hcd S len fun A outer s H vs Q E hr hsp => ?_
  obtain ⟨t, h, q⟩ := hbody A outer s H vs Q E hr hsp
  exact ⟨t, h.nox, q⟩
theorem FunC.okX {x qual : Str} {st : Stmt} {f : Addr} {fd : FuncData} {c : Addr} {N ps : List Str} {k : Nat} {sp : Sp} (F : FunC K x qual st f fd c) (S : FnScope N ps (defScope st)) (len : ∀ vs H Q E, sp vs H Q E → vs.length = ps.length)
    (hbody : ∀ (A : Around) (outer : List Env) (s : Shared) (H : Hp) (vs : List V) (Q : VK) (E : XK), Room k (A.deeper (envOfC qual (defScope st) s.heap.objs.size f (.ref c))) → sp vs H Q E →
      ∃ t, PSs (cxOf (L2.CX P w) P w K mg base N qual (defScope st) f (.ref c) A outer s H E) (defBody st) t ∧ t { nx := fun _ H' => Q .non H', rt := Q } (start N vs) H) : FnOk P w K mg base (L2.CX P w) (k + 1) f fd ps sp := by
  obtain ⟨oc, od, kV, doc, pm, an, ct, osl, rfl, lk, hcd⟩ := F.ex
  exact fn_of lk hcd S len fun A outer s H vs Q E hr hsp => hbody A outer s H vs Q E hr hsp
end
theorem funC_mk {K : PySem.W.Frag} {x : Str} {st : Stmt} {f : Addr} {oc kV doc pm ct : Value} {od an : Option Addr} {osl : Array (Option Value)} {c : Addr} (l : K.lookup f = some ⟨oc, od, .func (PySem.W.fnOf x x (defArgs st) (defBody st) (defScope st) .none kV doc pm an (.ref c) ct), osl⟩) (hc : PySem.W.codeIn K (.ref c) x = true) (k : PySem.W.keepIn K (.ref f) = true) :
    FunC K x x st f (PySem.W.fnOf x x (defArgs st) (defBody st) (defScope st) .none kV doc pm an (.ref c) ct) c := ⟨⟨oc, od, kV, doc, pm, an, ct, osl, rfl, l, hc⟩, k⟩
/-! ### a head's facts, by names -/
theorem fun_ofD {K : PySem.W.Frag} {x : Str} {st : Stmt} {f : Addr} {fd : FuncData} (D : FunD K x x (defArgs st) (defBody st) (defScope st) [] [] f fd) : Fun K x x st f fd := by
  obtain ⟨oc, od, dV, kV, doc, pm, an, cdv, ct, osl, h1, h2, h3, h4, _⟩ := D.ex
  rcases h4 with ⟨_, h4⟩ | ⟨h4, _⟩
  · subst h4
    exact ⟨⟨oc, od, kV, doc, pm, an, cdv, ct, osl, h1, h2, h3⟩, D.kp⟩
  · exact absurd rfl h4
theorem funC_ofD {K : PySem.W.Frag} {x : Str} {st : Stmt} {fd : FuncData} (D : FunD K x x (defArgs st) (defBody st) (defScope st) [] [] (He.fAd K (x, none)) fd) : FunC K x x st (He.fAd K (x, none)) fd (He.cT K (x, none)).1 := by
  obtain ⟨oc, od, dV, kV, doc, pm, an, cdv, ct, osl, h1, h2, h3, h4, _⟩ := D.ex
  rcases h4 with ⟨_, h4⟩ | ⟨h4, _⟩
  · subst h4
    obtain ⟨c, rfl⟩ := He.codeIn_ref h3
    have e : He.codeOf K (x, none) = c := He.codeOf_eq h2 (by rw [h1] <;> rfl)
    show FunC K x x st (He.fAd K (x, none)) fd (He.codeOf K (x, none))
    rw [e]
    exact ⟨⟨oc, od, kV, doc, pm, an, ct, osl, h1, h2, h3⟩, D.kp⟩
  · exact absurd rfl h4
theorem tab_empty {H : Hp} {p : Addr} (h : H p = some (.tbl #[])) : TabG H p := ⟨#[], h, by simp [TriplesOk]⟩
theorem tabB_of {base : Heap} {mg : Str → Option Value} {c p : Addr} (t : LamX.TabB base mg c p) : TabB base mg c p := ⟨t.code, t.bm, t.gP⟩
end Fc

namespace Fc
open PySem PySem.Spec L2 PyProof.Rows
/-! ### xs[lo:hi:c]: some of the items -/
theorem vals_pick {xs : List V} {us : List Value} (r : Vals xs us) : ∀ (is : List Nat), Vals (is.filterMap (xs[·]?)) (is.filterMap (us[·]?))
  | [] => .nil
  | i :: is => by
    cases e : xs[i]? with
    | none =>
      rw [List.filterMap_cons_none e, List.filterMap_cons_none (r.none_of e)]
      exact vals_pick r is
    | some x =>
      obtain ⟨u, hu, rl⟩ := r.get e
      rw [List.filterMap_cons_some e, List.filterMap_cons_some hu]
      exact .cons rl (vals_pick r is)
def tStepL (K : PySem.W.Frag) (te : TE) (tl th : TO) : TE := fun σ H Q => te σ H fun x H1 => tl σ H1 fun _ H2 => th σ H2 fun _ H3 => ∃ a xs, x = .ref a ∧ SqL K H3 a xs ∧ ∀ p zs, (∀ z ∈ zs, z ∈ xs) → zs.length ≤ xs.length → H3 p = none → Q (.ref p) (upd H3 p (.lst zs))
theorem pe_stepL {X : Cx} {e : Expr} {lo hi : Option Expr} {te : TE} {tl th : TO} {c : Int} {k : Nat} {p1 p2 pos : Pos} (c0 : c ≠ 0) (he : PE X e te) (hl : PO X lo tl) (hu : PO X hi th) : PE X (.Subscript e (.Slice lo hi (some (.Constant (.int c) k p1)) p2) pos) (tStepL X.K te tl th) := by
  refine ⟨fun pins s σ H Q I h => ?_⟩
  refine Subscript_ (thn (he.run pins s σ H _ I h) fun v s1 ⟨x, H1, I1, r1, q1⟩ => ?_)
  have hst : PO X (some (.Constant (.int c) k p1)) (tPart (tC (.int c))) := po_some pe_int
  refine wpAny_Slice (thn (hl.run pins s1 σ H1 _ I1 q1) fun vl s2 ⟨l, H2, I2, pl, q2⟩ => ?_)
  refine thn (hu.run pins s2 σ H2 _ I2 q2) fun vu s3 ⟨u, H3, I3, pu, q3⟩ => ?_
  obtain ⟨a, xs, ex, hx, q⟩ := q3
  subst ex
  cases r1
  refine thn (hst.run pins s3 σ H3 (fun o H4 => o = some c ∧ H4 = H3) I3 ⟨c, rfl, rfl, rfl⟩) fun vs s4 ⟨o, H4, I4, ps, eo, e4⟩ => ?_
  subst eo e4
  have I5 : Inv X pins σ H4 { s4 with heap := s4.heap.push { cls := .type "slice", data := .fields #[vl, vu, vs] } } := I4.kept (t' := s4.toks) fun b ob q => Heap.get?_push_of_some _ q
  obtain ⟨its, r, ht, hz⟩ := I5.list hx
  have hlen := r.length
  show wpAny (model X.prog X.w) X.A (subscriptTail e (.Slice lo hi (some (.Constant (.int c) k p1)) p2) (.ref a) (.ref s4.heap.objs.size)) (EP X pins σ Q) X.xe { s4 with heap := s4.heap.push { cls := .type "slice", data := .fields #[vl, vu, vs] } }
  refine tail_any (ops := [.ref a, .ref s4.heap.objs.size]) ht.isList.typeIs (PySem.slot_list_getitem.lookup) ?_ (by with_unfolding_all rfl)
  refine wpAny_getItem_list_slice ht.isList (Heap.IsSliceOf.new _ vl vu vs) pl pu ps (fun z => c0 (Option.some.inj z)) ?_ (by rw [List.size_toArray]; omega)
  have sz := slicePick_size_le its.toArray l u (some c)
  obtain ⟨is, ep⟩ : ∃ is : List Nat, slicePick its.toArray l u (some c) = (is.filterMap (its[·]?)).toArray := by
    have ef : (fun i : Nat => its.toArray[i]?) = fun i => its[i]? := by
      funext i
      exact List.getElem?_toArray
    exact ⟨sliceRange (sliceBounds l u (some c) its.toArray.size).1 (sliceBounds l u (some c) its.toArray.size).2.1 (sliceBounds l u (some c) its.toArray.size).2.2, by unfold slicePick; rw [ef]⟩
  rw [ep] at sz ⊢
  rw [List.size_toArray, List.size_toArray] at sz
  have vp := vals_pick r is
  have lp := vp.length
  refine ⟨.ref _, _, I5.laid (t' := s4.toks) (o := .lst (is.filterMap (xs[·]?))) (fun b ob q => Heap.get?_push_of_some _ q) (Nat.le_refl _) ?_, rfl, q _ _ (fun z hz => ?_) (by omega) (I5.hok.fresh (Nat.le_refl _))⟩
  · exact ⟨by omega, _, 0, vp, Heap.get?_push_size _ rfl⟩
  · obtain ⟨i, _, hi⟩ := List.mem_filterMap.mp hz
    exact List.mem_of_getElem? hi
/-! ### a loop over zip of two lists of any lengths -/
theorem for_zipM {K : PySem.W.Frag} {a b : Addr} {xs ys : List V} {g : TG} {tb : TS} {D : Ends} {σ : L2.St} {H : Hp} (Pv : L2.St → Hp → Prop) (h0 : Pv σ H) (hq : ∀ σ H, Pv σ H → SqL K H a xs ∧ SqL K H b ys)
    (hs : ∀ (x y : V) (T : Addr) (σ : L2.St) (H : Hp), x ∈ xs → y ∈ ys → Pv σ H → H T = none → g (.ref T) σ (upd H T (.tup [x, y])) fun σ2 H2 => tb { D with nx := Pv, ct := Pv, bk := D.nx } σ2 H2) (hd : ∀ σ H, Pv σ H → D.nx σ H) :
    ∃ W : Nat → Nat → L2.St → Hp → Prop, (∃ m, W 0 m σ H) ∧ ∀ i m σ H, W i m σ H →
      ((Itz K a b).stop i H ∧ D.nx σ H) ∨ ((Itz K a b).go i H ∧ ∃ N : L2.St → Hp → Prop, (∀ σ' H', N σ' H' → ∃ m', m' < m ∧ W (i + 1) m' σ' H') ∧ ∀ v H', (Itz K a b).yld i H v H' → g v σ H' fun σ2 H2 => tb { D with nx := N, ct := N, bk := D.nx } σ2 H2) := by
  refine ⟨fun i m σ H => m = xs.length - i ∧ Pv σ H, ⟨xs.length, rfl, h0⟩, ?_⟩
  rintro i m σ H ⟨rfl, p⟩
  obtain ⟨qx, qy⟩ := hq σ H p
  by_cases hlt : i < xs.length ∧ i < ys.length
  · have hx : xs[i]? = some xs[i] := List.getElem?_eq_getElem hlt.1
    have hy : ys[i]? = some ys[i] := List.getElem?_eq_getElem hlt.2
    refine .inr ⟨⟨xs, ys, _, _, qx, qy, hx, hy⟩, Pv, fun σ' H' p' => ⟨xs.length - (i + 1), by omega, rfl, p'⟩, fun v H' y => ?_⟩
    obtain ⟨T, x', y', rfl, hT, rfl, f1, f2⟩ := y
    exact hs x' y' T σ H (List.mem_of_getElem? (f1 xs qx)) (List.mem_of_getElem? (f2 ys qy)) p hT
  · refine .inl ⟨⟨xs, ys, qx, qy, ?_⟩, hd σ H p⟩
    omega
end Fc

namespace Fc
open PySem PySem.Spec L2 PyProof.Rows GxR
/-! ### all and tuple of generator expressions, by the row of their items -/
section
variable {j : Nat} {te : TE} {vs : List Nat} {σ : L2.St} {H1 : Hp} {Q : VK}
theorem take_all {α : Type} {xs : List α} {i : Nat} {x : α} (test : α → Bool) (h : xs[i]? = some x) : (xs.take (i + 1)).all test = ((xs.take i).all test && test x) := by
  rw [List.take_add_one, h, List.all_append]
  show (_ && (test x && true)) = _
  rw [Bool.and_true]
theorem all_false {α : Type} {xs : List α} {i : Nat} {x : α} (test : α → Bool) (h : xs[i]? = some x) (k : test x = false) : xs.all test = false := by
  cases e : xs.all test with
  | false => rfl
  | true =>
    have := List.all_eq_true.mp e x (List.mem_of_getElem? h)
    rw [k] at this
    cases this
theorem gw_list {K : PySem.W.Frag} {a : Addr} {xs : List V} (test : V → Bool) (hs : SqL K H1 a xs) (hw : ∀ x, wipe ((wipe σ vs).set j (some x)) vs = wipe σ vs)
    (item : ∀ (i : Nat) (x : V) (H : Hp) (R : VK), xs[i]? = some x → Same H1 H → (∀ H', Same H H' → R (.bl (test x)) H') → te ((wipe σ vs).set j (some x)) H R) (hd : ∀ H', Same H1 H' → Q (.bl (xs.all test)) H') :
    ∃ W : Nat → Nat → Hp → Prop, (∃ m, W 0 m H1) ∧ GWalk (Itl K a) (gName j) tYes te vs σ (takeAll Q) (Q (.bl true)) W := by
  refine ⟨fun i m H => m = xs.length - i ∧ i ≤ xs.length ∧ Same H1 H ∧ (xs.take i).all test = true, ⟨xs.length, rfl, Nat.zero_le _, Same.refl _, rfl⟩, ?_⟩
  rintro i m H ⟨rfl, hi, sm, al⟩
  have q := sm.seq hs
  by_cases lt : i < xs.length
  · refine .inr ⟨⟨xs, xs[i], q, by simp [lt]⟩, fun H' => Same H1 H' ∧ (xs.take (i + 1)).all test = true, fun H' p => ⟨xs.length - (i + 1), by omega, rfl, lt, p.1, p.2⟩, fun x H' y => ?_⟩
    obtain ⟨e, y⟩ := y
    subst e
    have hx := y xs q
    refine ⟨hw x, ?_⟩
    unfold tYes
    dsimp only
    rw [if_pos rfl]
    refine item i x _ _ hx sm fun H2 s2 => ⟨test x, rfl, fun k => ⟨sm.trans s2, by rw [take_all test hx, al, k]; rfl⟩, fun k => ?_⟩
    have := hd H2 (sm.trans s2)
    rw [all_false test hx k] at this
    exact this
  · have e : i = xs.length := by omega
    subst e
    rw [List.take_length] at al
    have := hd H sm
    rw [al] at this
    exact .inl ⟨⟨xs, q, Nat.le_refl _⟩, this⟩
theorem gw_tup {K : PySem.W.Frag} {a : Addr} {xs : List V} (test : V → Bool) (hs : SqT K H1 a xs) (hw : ∀ x, wipe ((wipe σ vs).set j (some x)) vs = wipe σ vs)
    (item : ∀ (i : Nat) (x : V) (H : Hp) (R : VK), xs[i]? = some x → Same H1 H → (∀ H', Same H H' → R (.bl (test x)) H') → te ((wipe σ vs).set j (some x)) H R) (hd : ∀ H', Same H1 H' → Q (.bl (xs.all test)) H') :
    ∃ W : Nat → Nat → Hp → Prop, (∃ m, W 0 m H1) ∧ GWalk (Itt K a) (gName j) tYes te vs σ (takeAll Q) (Q (.bl true)) W := by
  refine ⟨fun i m H => m = xs.length - i ∧ i ≤ xs.length ∧ Same H1 H ∧ (xs.take i).all test = true, ⟨xs.length, rfl, Nat.zero_le _, Same.refl _, rfl⟩, ?_⟩
  rintro i m H ⟨rfl, hi, sm, al⟩
  have q := keepT sm hs
  by_cases lt : i < xs.length
  · refine .inr ⟨⟨xs, xs[i], q, by simp [lt]⟩, fun H' => Same H1 H' ∧ (xs.take (i + 1)).all test = true, fun H' p => ⟨xs.length - (i + 1), by omega, rfl, lt, p.1, p.2⟩, fun x H' y => ?_⟩
    obtain ⟨e, y⟩ := y
    subst e
    have hx := y xs q
    refine ⟨hw x, ?_⟩
    unfold tYes
    dsimp only
    rw [if_pos rfl]
    refine item i x _ _ hx sm fun H2 s2 => ⟨test x, rfl, fun k => ⟨sm.trans s2, by rw [take_all test hx, al, k]; rfl⟩, fun k => ?_⟩
    have := hd H2 (sm.trans s2)
    rw [all_false test hx k] at this
    exact this
  · have e : i = xs.length := by omega
    subst e
    rw [List.take_length] at al
    have := hd H sm
    rw [al] at this
    exact .inl ⟨⟨xs, q, Nat.le_refl _⟩, this⟩
theorem gw_rng {lo : Int} {n : Nat} (test : Nat → Bool) (hw : ∀ x, wipe ((wipe σ vs).set j (some x)) vs = wipe σ vs)
    (item : ∀ (i : Nat) (H : Hp) (R : VK), i < n → Same H1 H → (∀ H', Same H H' → R (.bl (test i)) H') → te ((wipe σ vs).set j (some (.int (lo + (i : Nat))))) H R) (hd : ∀ H', Same H1 H' → Q (.bl ((List.range n).all test)) H') :
    ∃ W : Nat → Nat → Hp → Prop, (∃ m, W 0 m H1) ∧ GWalk (Itr lo n) (gName j) tYes te vs σ (takeAll Q) (Q (.bl true)) W := by
  refine ⟨fun i m H => m = n - i ∧ i ≤ n ∧ Same H1 H ∧ ((List.range n).take i).all test = true, ⟨n, rfl, Nat.zero_le _, Same.refl _, rfl⟩, ?_⟩
  rintro i m H ⟨rfl, hi, sm, al⟩
  by_cases lt : i < n
  · refine .inr ⟨lt, fun H' => Same H1 H' ∧ ((List.range n).take (i + 1)).all test = true, fun H' p => ⟨n - (i + 1), by omega, rfl, lt, p.1, p.2⟩, fun x H' y => ?_⟩
    obtain ⟨e, rfl⟩ := y
    subst e
    have hx : (List.range n)[i]? = some i := List.getElem?_range lt
    refine ⟨hw _, ?_⟩
    unfold tYes
    dsimp only
    rw [if_pos rfl]
    refine item i _ _ lt sm fun H2 s2 => ⟨test i, rfl, fun k => ⟨sm.trans s2, by rw [take_all test hx, al, k]; rfl⟩, fun k => ?_⟩
    have := hd H2 (sm.trans s2)
    rw [all_false test hx k] at this
    exact this
  · have e : i = n := by omega
    subst e
    rw [List.take_of_length_le (by rw [List.length_range]; exact Nat.le_refl _)] at al
    have := hd H sm
    rw [al] at this
    exact .inl ⟨Nat.le_refl _, this⟩
theorem gw_sign {l : List Nat} (test : Nat → Bool) (hw : ∀ x, wipe ((wipe σ vs).set j (some x)) vs = wipe σ vs)
    (item : ∀ (i c : Nat) (H : Hp) (R : VK), l[i]? = some c → Same H1 H → (∀ H', Same H H' → R (.bl (test c)) H') → te ((wipe σ vs).set j (some (T [c]))) H R) (hd : ∀ H', Same H1 H' → Q (.bl (l.all test)) H') :
    ∃ W : Nat → Nat → Hp → Prop, (∃ m, W 0 m H1) ∧ GWalk (Its (mkS l)) (gName j) tYes te vs σ (takeAll Q) (Q (.bl true)) W := by
  have sz : (mkS l).cps.size = l.length := by simp [mkS]
  refine ⟨fun i m H => m = l.length - i ∧ i ≤ l.length ∧ Same H1 H ∧ (l.take i).all test = true, ⟨l.length, rfl, Nat.zero_le _, Same.refl _, rfl⟩, ?_⟩
  rintro i m H ⟨rfl, hi, sm, al⟩
  by_cases lt : i < l.length
  · refine .inr ⟨by show i < (mkS l).cps.size; omega, fun H' => Same H1 H' ∧ (l.take (i + 1)).all test = true, fun H' p => ⟨l.length - (i + 1), by omega, rfl, lt, p.1, p.2⟩, fun x H' yl => ?_⟩
    obtain ⟨rfl, c, hc, rfl⟩ := yl
    have gc : l[i]? = some c := by
      have : (mkS l).cps[i]? = l[i]? := by simp [mkS]
      rw [← this]
      exact hc
    refine ⟨hw _, ?_⟩
    unfold tYes
    dsimp only
    rw [if_pos rfl]
    refine item i c _ _ gc sm fun H2 s2 => ⟨test c, rfl, fun k => ⟨sm.trans s2, by rw [take_all test gc, al, k]; rfl⟩, fun k => ?_⟩
    have := hd H2 (sm.trans s2)
    rw [all_false test gc k] at this
    exact this
  · have e : i = l.length := by omega
    subst e
    rw [List.take_length] at al
    have := hd H sm
    rw [al] at this
    exact .inl ⟨by show (mkS l).cps.size ≤ _; omega, this⟩
/-- tuple(.. for i in range ..) -/
theorem gwT_rng {lo : Int} {n : Nat} (f : Nat → V) (hz : n ≤ sizeLine) (hw : ∀ x, wipe ((wipe σ vs).set j (some x)) vs = wipe σ vs)
    (item : ∀ (i : Nat) (H : Hp) (R : VK), i < n → Same H1 H → (∀ H', Same H H' → R (f i) H') → te ((wipe σ vs).set j (some (.int (lo + (i : Nat))))) H R) (hd : ∀ H', Same H1 H' → ∀ p, H' p = none → Q (.ref p) (upd H' p (.tup ((List.range n).map f)))) :
    ∃ W : Nat → Nat → List V → Hp → Prop, (∃ m, W 0 m [] H1) ∧ GWalkT (Itr lo n) (gName j) tYes te vs σ (fun ys H' => ys.length ≤ sizeLine ∧ ∀ p, H' p = none → Q (.ref p) (upd H' p (.tup ys))) W := by
  refine ⟨fun i m ys H => m = n - i ∧ i ≤ n ∧ Same H1 H ∧ ys = (List.range i).map f, ⟨n, rfl, Nat.zero_le _, Same.refl _, rfl⟩, ?_⟩
  rintro i m ys H ⟨rfl, hi, sm, rfl⟩
  by_cases lt : i < n
  · refine .inr ⟨lt, fun ys' H' => Same H1 H' ∧ ys' = (List.range (i + 1)).map f, fun ys' H' p => ⟨n - (i + 1), by omega, rfl, lt, p.1, p.2⟩, fun x H' y => ?_⟩
    obtain ⟨e, rfl⟩ := y
    subst e
    refine ⟨hw _, ?_⟩
    unfold tYes
    dsimp only
    rw [if_pos rfl]
    refine item i _ _ lt sm fun H2 s2 => ⟨by rw [List.length_map, List.length_range]; omega, sm.trans s2, ?_⟩
    rw [List.range_succ, List.map_append]
    rfl
  · have e : i = n := by omega
    subst e
    exact .inl ⟨Nat.le_refl _, by rw [List.length_map, List.length_range]; exact hz, hd H sm⟩
end
/-- a loop over zip of two lists, turn by turn -/
theorem for_zipI {K : PySem.W.Frag} {a b : Addr} {xs ys : List V} {g : TG} {tb : TS} {D : Ends} {σ : L2.St} {H : Hp} (Pv : Nat → L2.St → Hp → Prop) (h0 : Pv 0 σ H) (hq : ∀ i σ H, Pv i σ H → SqL K H a xs ∧ SqL K H b ys)
    (hs : ∀ (i : Nat) (x y : V) (T : Addr) (σ : L2.St) (H : Hp), xs[i]? = some x → ys[i]? = some y → Pv i σ H → H T = none → g (.ref T) σ (upd H T (.tup [x, y])) fun σ2 H2 => tb { D with nx := Pv (i + 1), ct := Pv (i + 1), bk := D.nx } σ2 H2) (hd : ∀ i σ H, (xs.length ≤ i ∨ ys.length ≤ i) → Pv i σ H → D.nx σ H) :
    ∃ W : Nat → Nat → L2.St → Hp → Prop, (∃ m, W 0 m σ H) ∧ ∀ i m σ H, W i m σ H →
      ((Itz K a b).stop i H ∧ D.nx σ H) ∨ ((Itz K a b).go i H ∧ ∃ N : L2.St → Hp → Prop, (∀ σ' H', N σ' H' → ∃ m', m' < m ∧ W (i + 1) m' σ' H') ∧ ∀ v H', (Itz K a b).yld i H v H' → g v σ H' fun σ2 H2 => tb { D with nx := N, ct := N, bk := D.nx } σ2 H2) := by
  refine ⟨fun i m σ H => m = xs.length - i ∧ Pv i σ H, ⟨xs.length, rfl, h0⟩, ?_⟩
  rintro i m σ H ⟨rfl, p⟩
  obtain ⟨qx, qy⟩ := hq i σ H p
  by_cases hlt : i < xs.length ∧ i < ys.length
  · have hx : xs[i]? = some xs[i] := List.getElem?_eq_getElem hlt.1
    have hy : ys[i]? = some ys[i] := List.getElem?_eq_getElem hlt.2
    refine .inr ⟨⟨xs, ys, _, _, qx, qy, hx, hy⟩, Pv (i + 1), fun σ' H' p' => ⟨xs.length - (i + 1), by omega, rfl, p'⟩, fun v H' y => ?_⟩
    obtain ⟨T, x', y', rfl, hT, rfl, f1, f2⟩ := y
    exact hs i x' y' T σ H (f1 xs qx) (f2 ys qy) p hT
  · refine .inl ⟨⟨xs, ys, qx, qy, by omega⟩, hd i σ H (by omega) p⟩
section
variable {X : Cx}
theorem pe_globS {x : Str} {z : Str} {pos : Pos} (hg : Gl X x) (h : ∃ t, X.mg x = some (.str z t)) (hd : (x == ("__debug__" : Str)) = false := by decide) : PE X (.Name x pos) (tC (.str z)) := by
  obtain ⟨t, e⟩ := h
  exact pe_glob hg e ⟨t, rfl⟩ hd
/-- a def of the module as a value -/
def tDefV (mg : Str → Option Value) (x : Str) : TE := fun _ H Q => ∀ f, mg x = some (.ref f) → Q (.ref f) H
theorem pe_defV {x : Str} {k : Nat} {ps : List Str} {sp : Sp} {pos : Pos} (C : Cal X.prog X.w X.K X.mg X.base x k ps sp) (hg : Gl X x := by rfl) (hd : (x == ("__debug__" : Str)) = false := by decide) : PE X (.Name x pos) (tDefV X.mg x) := by
  obtain ⟨f, fd, F, m, kp, b⟩ := C.ex
  exact PEweak (pe_glob (v := .ref f) hg m rfl hd) fun σ H Q q => q f m
end
end Fc

namespace Fc
open PySem PySem.Spec L2 PyProof.Rows GxR
/-! ### tuple(.. for x in a tuple if ..) -/
section
variable {j : Nat} {te : TE} {tt : TT} {vs : List Nat} {σ : L2.St} {H1 : Hp} {Q : VK}
theorem gwT_fil {K : PySem.W.Frag} {a : Addr} {xs : List V} {α : Type} {es : List α} (keep : α → Bool) (f : α → V) (hs : SqT K H1 a xs) (hl : es.length = xs.length) (hz : es.length ≤ sizeLine) (hw : ∀ x, wipe ((wipe σ vs).set j (some x)) vs = wipe σ vs)
    (test : ∀ (i : Nat) (e : α) (x : V) (H : Hp) (R : Bool → Hp → Prop), es[i]? = some e → xs[i]? = some x → Same H1 H → (∀ H', Same H H' → R (keep e) H') → tt ((wipe σ vs).set j (some x)) H R)
    (item : ∀ (i : Nat) (e : α) (x : V) (H : Hp) (R : VK), es[i]? = some e → xs[i]? = some x → keep e = true → Same H1 H → (∀ H', Same H H' → R (f e) H') → te ((wipe σ vs).set j (some x)) H R)
    (hd : ∀ H', Same H1 H' → ∀ p, H' p = none → Q (.ref p) (upd H' p (.tup ((es.filter keep).map f)))) :
    ∃ W : Nat → Nat → List V → Hp → Prop, (∃ m, W 0 m [] H1) ∧ GWalkT (Itt K a) (gName j) tt te vs σ (fun ys H' => ys.length ≤ sizeLine ∧ ∀ p, H' p = none → Q (.ref p) (upd H' p (.tup ys))) W := by
  refine ⟨fun i m ys H => m = es.length - i ∧ i ≤ es.length ∧ Same H1 H ∧ ys = ((es.take i).filter keep).map f, ⟨es.length, rfl, Nat.zero_le _, Same.refl _, rfl⟩, ?_⟩
  rintro i m ys H ⟨rfl, hi, sm, rfl⟩
  have q := keepT sm hs
  have few : (((es.take i).filter keep).map f).length ≤ i := by
    rw [List.length_map]
    exact Nat.le_trans (List.length_filter_le ..) (by rw [List.length_take]; omega)
  by_cases lt : i < es.length
  · have lx : i < xs.length := by omega
    have he : es[i]? = some es[i] := List.getElem?_eq_getElem lt
    refine .inr ⟨⟨xs, xs[i], q, List.getElem?_eq_getElem lx⟩, fun ys' H' => Same H1 H' ∧ ys' = ((es.take (i + 1)).filter keep).map f, fun ys' H' p => ⟨es.length - (i + 1), by omega, rfl, lt, p.1, p.2⟩, fun x H' y => ?_⟩
    obtain ⟨e, y⟩ := y
    subst e
    have hx := y xs q
    have st : ((es.take (i + 1)).filter keep).map f = ((es.take i).filter keep).map f ++ (if keep es[i] = true then [f es[i]] else []) := by
      rw [List.take_add_one, he, List.filter_append, List.map_append]
      cases k : keep es[i] with
      | true => simp [k]
      | false => simp [k]
    refine ⟨hw x, test i es[i] x _ _ he hx sm fun H2 s2 => ?_⟩
    cases k : keep es[i] with
    | true =>
      rw [if_pos rfl]
      refine item i es[i] x _ _ he hx k (sm.trans s2) fun H3 s3 => ⟨by omega, sm.trans (s2.trans s3), ?_⟩
      rw [st, if_pos k]
    | false =>
      rw [if_neg (by simp)]
      refine ⟨sm.trans s2, ?_⟩
      rw [st, if_neg (by rw [k]; simp), List.append_nil]
  · have e : i = es.length := by omega
    subst e
    refine .inl ⟨⟨xs, q, by omega⟩, by omega, ?_⟩
    rw [List.take_length]
    exact hd H sm
end
end Fc

namespace Fc
open PySem PySem.Spec L2 PyProof.Rows
def topS (i : Nat) : Stmt := PySem.Challenge.pw_filecrate_k21_whole_ways_out.main.body.getD i (.Pass ⟨0, 0, 0, 0⟩)
abbrev sPartsOf : Stmt := topS 7
abbrev nPartsOf : List Str := ["path"]
theorem scPartsOf : FnScope nPartsOf ["path"] (defScope sPartsOf) := ⟨rfl, rfl, rfl, by decide +kernel, rfl, by decide +kernel, by decide +kernel⟩
abbrev sByPath : Stmt := topS 9
abbrev nByPath : List Str := ["tree", "entry"]
theorem scByPath : FnScope nByPath ["tree"] (defScope sByPath) := ⟨rfl, rfl, rfl, by decide +kernel, rfl, by decide +kernel, by decide +kernel⟩
abbrev sLanding : Stmt := topS 12
abbrev nLanding : List Str := ["tree", "path", "found", "here", "left", "links", "part", "entry"]
theorem scLanding : FnScope nLanding ["tree", "path"] (defScope sLanding) := ⟨rfl, rfl, rfl, by decide +kernel, rfl, by decide +kernel, by decide +kernel⟩
abbrev sFolderAbove : Stmt := topS 13
abbrev nFolderAbove : List Str := ["parts"]
theorem scFolderAbove : FnScope nFolderAbove ["parts"] (defScope sFolderAbove) := ⟨rfl, rfl, rfl, by decide +kernel, rfl, by decide +kernel, by decide +kernel⟩
abbrev sEntryAt : Stmt := topS 14
abbrev nEntryAt : List Str := ["found", "parts", "path"]
theorem scEntryAt : FnScope nEntryAt ["found", "parts"] (defScope sEntryAt) := ⟨rfl, rfl, rfl, by decide +kernel, rfl, by decide +kernel, by decide +kernel⟩
abbrev sWaysOut : Stmt := topS 15
abbrev nWaysOut : List Str := ["tree", "entry"]
theorem scWaysOut : FnScope nWaysOut ["tree"] (defScope sWaysOut) := ⟨rfl, rfl, rfl, by decide +kernel, rfl, by decide +kernel, by decide +kernel⟩
abbrev sLeadsOut : Stmt := topS 16
abbrev nLeadsOut : List Str := ["tree", "path"]
theorem scLeadsOut : FnScope nLeadsOut ["tree", "path"] (defScope sLeadsOut) := ⟨rfl, rfl, rfl, by decide +kernel, rfl, by decide +kernel, by decide +kernel⟩
abbrev sLawD : Stmt := topS 18
abbrev nLawD : List Str := ["_law_cell_here", "_law_place", "_law_many", "_law_number"]
theorem scLawD : FnScope nLawD ["_law_cell_here", "_law_place", "_law_many"] (defScope sLawD) := ⟨rfl, rfl, rfl, by decide +kernel, rfl, by decide +kernel, by decide +kernel⟩
abbrev sLawCell : Stmt := topS 19
abbrev nLawCell : List Str := ["_law_script", "_law_k"]
theorem scLawCell : FnScope nLawCell ["_law_script", "_law_k"] (defScope sLawCell) := ⟨rfl, rfl, rfl, by decide +kernel, rfl, by decide +kernel, by decide +kernel⟩
abbrev sLawSame : Stmt := topS 20
abbrev nLawSame : List Str := ["_law_told", "_law_due", "_law_one", "_law_other"]
theorem scLawSame : FnScope nLawSame ["_law_told", "_law_due"] (defScope sLawSame) := ⟨rfl, rfl, rfl, by decide +kernel, rfl, by decide +kernel, by decide +kernel⟩
abbrev sLawWeb : Stmt := topS 21
abbrev nLawWeb : List Str := ["_law_cells", "_law_found", "_law_path", "_law_cell_here", "_law_folder", "_law_parts", "_law_k"]
theorem scLawWeb : FnScope nLawWeb ["_law_cells"] (defScope sLawWeb) := ⟨rfl, rfl, rfl, by decide +kernel, rfl, by decide +kernel, by decide +kernel⟩
abbrev sLawLanding : Stmt := topS 22
abbrev nLawLanding : List Str := ["_law_tree", "_law_way", "_law_here", "_law_parts", "_law_links", "_law_part", "_law_path", "_law_fit", "_law_entry"]
theorem scLawLanding : FnScope nLawLanding ["_law_tree", "_law_way"] (defScope sLawLanding) := ⟨rfl, rfl, rfl, by decide +kernel, rfl, by decide +kernel, by decide +kernel⟩
abbrev sLaw : Stmt := topS 23
abbrev nLaw : List Str := ["_law_script", "_law_tree", "_law_links", "_law_due", "_law_less", "_law_entry", "_law_path"]
theorem scLaw : FnScope nLaw ["_law_script"] (defScope sLaw) := ⟨rfl, rfl, rfl, by decide +kernel, rfl, by decide +kernel, by decide +kernel⟩
structure Env (K : PySem.W.Frag) (mg : Str → Option Value) : Prop where
  b_all : mg "all" = none
  b_bool : mg "bool" = none
  b_int : mg "int" = none
  b_isinstance : mg "isinstance" = none
  b_len : mg "len" = none
  b_range : mg "range" = none
  b_sorted : mg "sorted" = none
  b_str : mg "str" = none
  b_tuple : mg "tuple" = none
  b_zip : mg "zip" = none
  g_MOST_LINKS : ∃ t, mg "MOST_LINKS" = some (.int 20 t)
structure Excs (K : PySem.W.Frag) (mg : Str → Option Value) (e_LeadsOut e_NoEntry e_NotFolder e_TooFar : Addr) : Prop where
  LeadsOut : Exc K mg "LeadsOut" e_LeadsOut
  NoEntry : Exc K mg "NoEntry" e_NoEntry
  NotFolder : Exc K mg "NotFolder" e_NotFolder
  TooFar : Exc K mg "TooFar" e_TooFar
  p_LeadsOut_LeadsOut : PySem.W.exmOne K (.ref e_LeadsOut) (.ref e_LeadsOut) = some true
  p_LeadsOut_NoEntry : PySem.W.exmOne K (.ref e_LeadsOut) (.ref e_NoEntry) = some false
  p_LeadsOut_NotFolder : PySem.W.exmOne K (.ref e_LeadsOut) (.ref e_NotFolder) = some false
  p_LeadsOut_TooFar : PySem.W.exmOne K (.ref e_LeadsOut) (.ref e_TooFar) = some false
  p_NoEntry_LeadsOut : PySem.W.exmOne K (.ref e_NoEntry) (.ref e_LeadsOut) = some false
  p_NoEntry_NoEntry : PySem.W.exmOne K (.ref e_NoEntry) (.ref e_NoEntry) = some true
  p_NoEntry_NotFolder : PySem.W.exmOne K (.ref e_NoEntry) (.ref e_NotFolder) = some false
  p_NoEntry_TooFar : PySem.W.exmOne K (.ref e_NoEntry) (.ref e_TooFar) = some false
  p_NotFolder_LeadsOut : PySem.W.exmOne K (.ref e_NotFolder) (.ref e_LeadsOut) = some false
  p_NotFolder_NoEntry : PySem.W.exmOne K (.ref e_NotFolder) (.ref e_NoEntry) = some false
  p_NotFolder_NotFolder : PySem.W.exmOne K (.ref e_NotFolder) (.ref e_NotFolder) = some true
  p_NotFolder_TooFar : PySem.W.exmOne K (.ref e_NotFolder) (.ref e_TooFar) = some false
  p_TooFar_LeadsOut : PySem.W.exmOne K (.ref e_TooFar) (.ref e_LeadsOut) = some false
  p_TooFar_NoEntry : PySem.W.exmOne K (.ref e_TooFar) (.ref e_NoEntry) = some false
  p_TooFar_NotFolder : PySem.W.exmOne K (.ref e_TooFar) (.ref e_NotFolder) = some false
  p_TooFar_TooFar : PySem.W.exmOne K (.ref e_TooFar) (.ref e_TooFar) = some true

section
variable {P : Program} {w : World} {mg : Str → Option Value} {K : PySem.W.Frag} {base : Heap} {e_LeadsOut e_NoEntry e_NotFolder e_TooFar : Addr}
/-! ### a draw -/
def spD : Sp := fun vs H Q _ => ∃ c p m : Int, vs = [.int c, .int p, .int m] ∧ 0 ≤ p ∧ p < 100000 ∧ 0 < m ∧ ∀ d : Int, 0 ≤ d → d < m → Q (.int d) H
theorem ok_d {f : Addr} {fd : FuncData} (Ev : Env K mg) (F : Fun K "_law_d" "_law_d" sLawD f fd) : FnOk P w K mg base CX0 1 f fd ["_law_cell_here", "_law_place", "_law_many"] spD := by
  refine F.ok scLawD (fun vs H Q E h => ?_) (fun cdv A outer s H vs Q E hr h => ?_)
  · obtain ⟨c, p, m, rfl, _⟩ := h; rfl
  · obtain ⟨c, p, m, rfl, p0, p1, hm, q⟩ := h
    refine ⟨_, (pss_cons (ps_set (i := 3) scLawD.nd rfl (.inl rfl) (pe_op op_mod (pe_op op_add (pv 0) (pe_op op_mul pe_int (pv 1))) pe_int))
      (pss_cons (ps_set (i := 3) scLawD.nd rfl (.inl rfl) (pe_op op_mod (pe_op op_mul (pe_op op_mod (pe_op op_mul (pv 3) (pv 3)) pe_int) pe_int) pe_int))
      (pss_one (ps_ret (pe_op op_mod (pe_op op_fdiv (pv 3) pe_int) (pv 2)))))), ?_⟩
    refine ⟨_, rfl, _, rfl, _, _, rfl, rfl, .inl ⟨by decide, by decide⟩, _, _, rfl, rfl, _, 4294967291, rfl, rfl, (show (0 : Int) < 4294967291 by decide), ?_⟩
    have b := Int.emod_lt_of_pos (c + 104729 * p) (show (0 : Int) < 4294967291 by decide)
    have b' := Int.emod_nonneg (c + 104729 * p) (show (4294967291 : Int) ≠ 0 by decide)
    refine ⟨_, rfl, _, rfl, _, _, rfl, rfl, .inl ⟨by omega, by omega⟩, _, 4294967279, rfl, rfl, (show (0 : Int) < 4294967279 by decide), _, 48271, rfl, rfl, .inr ⟨by decide, by decide⟩, _, 4294967291, rfl, rfl, (show (0 : Int) < 4294967291 by decide), ?_⟩
    refine ⟨_, rfl, _, 64, rfl, rfl, ⟨by decide, by decide⟩, _, rfl, _, _, rfl, rfl, hm, q _ (Int.emod_nonneg _ (Int.ne_of_gt hm)) (Int.emod_lt_of_pos _ hm)⟩

/-! ### two things that are the same -/
def spSameD (K : PySem.W.Frag) (n : Nat) : Sp := fun vs H Q _ => ∃ (u v : V) (d : PyData), vs = [u, v] ∧ Dp K H u d ∧ Dp K H v d ∧ tupsOnly d = true ∧ PyData.depth d ≤ n ∧ ∀ H', Same H H' → Q (.bl true) H'
theorem ok_sameD {f : Addr} {fd : FuncData} (Ev : Env K mg) (F : Fun K "_law_same" "_law_same" sLawSame f fd) (mS : mg "_law_same" = some (.ref f)) (bS : Binds K fd ["_law_told", "_law_due"] []) : ∀ n : Nat, FnOk P w K mg base CX0 (n + 1) f fd ["_law_told", "_law_due"] (spSameD K n) := by
  have flat : ∀ (u v : V) (d : PyData) (H : Hp), Dp K H u d → Dp K H v d → (∀ ds, d ≠ .tuple ds) → tupsOnly d = true → (u = .non ∧ v = .non) ∨ (∃ b, u = .bl b ∧ v = .bl b) ∨ (∃ i, u = .int i ∧ v = .int i) ∨ (∃ x, u = .str x ∧ v = .str x) := by
    intro u v d H hu hv nt ok
    cases d with
    | none => cases hu; cases hv; exact .inl ⟨rfl, rfl⟩
    | bool b => cases hu; cases hv; exact .inr (.inl ⟨b, rfl, rfl⟩)
    | int i => cases hu; cases hv; exact .inr (.inr (.inl ⟨i, rfl, rfl⟩))
    | str x => cases hu; cases hv; exact .inr (.inr (.inr ⟨x, rfl, rfl⟩))
    | list ds => cases ok
    | tuple ds => exact absurd rfl (nt ds)
    | dict kvs => cases ok
  intro n
  induction n with
  | zero =>
    refine F.ok scLawSame (fun vs H Q E h => ?_) (fun cdv A outer s H vs Q E hr h => ?_)
    · obtain ⟨u, v, d, rfl, _⟩ := h; rfl
    · obtain ⟨u, v, d, rfl, hu, hv, ok, dp, q⟩ := h
      refine ⟨_, (pss_cons (ps_if (pt_cmpR op_isN (pv 1) pe_non (nomark _))
        (pss_one (ps_ret (pe_cmpR op_isN (pv 0) pe_non (nomark _))))
        pss_nil)
      (pss_cons (ps_if (pt_val (pe_callB call_isi (by rfl) Ev.b_isinstance (by decide +kernel) (pa_cons (pv 1) (pa_cons (pe_btype (n := "bool") (by rfl) Ev.b_bool (by decide +kernel)) pa_nil))))
        (pss_one (ps_ret (pe_and (pe_callB call_isi (by rfl) Ev.b_isinstance (by decide +kernel) (pa_cons (pv 0) (pa_cons (pe_btype (n := "bool") (by rfl) Ev.b_bool (by decide +kernel)) pa_nil))) (pe_one (pe_cmpR op_eq (pv 0) (pv 1) (nomark _))))))
        pss_nil)
      (pss_cons (ps_if (pt_val (pe_callB call_isi (by rfl) Ev.b_isinstance (by decide +kernel) (pa_cons (pv 1) (pa_cons (pe_btype (n := "tuple") (by rfl) Ev.b_tuple (by decide +kernel)) pa_nil))))
        pss_never
        pss_nil)
      (pss_cons (ps_if (pt_val (pe_callB call_isi (by rfl) Ev.b_isinstance (by decide +kernel) (pa_cons (pv 1) (pa_cons (pe_btype (n := "str") (by rfl) Ev.b_str (by decide +kernel)) pa_nil))))
        (pss_one (ps_ret (pe_and (pe_callB call_isi (by rfl) Ev.b_isinstance (by decide +kernel) (pa_cons (pv 0) (pa_cons (pe_btype (n := "str") (by rfl) Ev.b_str (by decide +kernel)) pa_nil))) (pe_one (pe_cmpR op_eq (pv 0) (pv 1) (nomark _))))))
        pss_nil)
      (pss_one (ps_ret (pe_and (pe_callB call_isi (by rfl) Ev.b_isinstance (by decide +kernel) (pa_cons (pv 0) (pa_cons (pe_btype (n := "int") (by rfl) Ev.b_int (by decide +kernel)) pa_nil))) (pe_and (pe_not (pe_callB call_isi (by rfl) Ev.b_isinstance (by decide +kernel) (pa_cons (pv 0) (pa_cons (pe_btype (n := "bool") (by rfl) Ev.b_bool (by decide +kernel)) pa_nil)))) (pe_one (pe_cmpR op_eq (pv 0) (pv 1) (nomark _))))))))))), ?_⟩
      have nt : ∀ ds, d ≠ .tuple ds := fun ds z => by
        rw [z, PyData.depth] at dp
        omega
      · have _u := nt
        rcases flat u v d H hu hv nt ok with ⟨rfl, rfl⟩ | ⟨b, rfl, rfl⟩ | ⟨i, rfl, rfl⟩ | ⟨x, rfl, rfl⟩
        · refine ⟨_, rfl, rfl, _, rfl, iteT ?_⟩
          exact ⟨_, rfl, rfl, q _ (Same.refl _)⟩
        · refine ⟨_, rfl, rfl, _, rfl, iteF ?_⟩
          refine ⟨.bl b, rfl, _, _, _, _, true, rfl, .ty "bool", .base (.bl _), k_bb, true, rfl, iteT ?_⟩
          refine ⟨.bl b, rfl, _, _, _, _, true, rfl, .ty "bool", .base (.bl _), k_bb, true, rfl, iteT ?_⟩
          refine ⟨.bl b, rfl, .bl b, rfl, rfl, ?_⟩
          rw [decide_eq_true rfl]
          exact q _ (Same.refl _)
        · refine ⟨_, rfl, rfl, _, rfl, iteF ?_⟩
          refine ⟨.int i, rfl, _, _, _, _, false, rfl, .ty "bool", .base (.int _), k_ib, false, rfl, iteF ?_⟩
          refine ⟨.int i, rfl, _, _, _, _, false, rfl, .ty "tuple", .base (.int _), k_it, false, rfl, iteF ?_⟩
          refine ⟨.int i, rfl, _, _, _, _, false, rfl, .ty "str", .base (.int _), k_is', false, rfl, iteF ?_⟩
          refine ⟨.int i, rfl, _, _, _, _, true, rfl, .ty "int", .base (.int _), k_ii, true, rfl, iteT ?_⟩
          refine ⟨.int i, rfl, _, _, _, _, false, rfl, .ty "bool", .base (.int _), k_ib, false, rfl, true, rfl, iteT ?_⟩
          refine ⟨.int i, rfl, .int i, rfl, rfl, ?_⟩
          rw [decide_eq_true rfl]
          exact q _ (Same.refl _)
        · refine ⟨_, rfl, rfl, _, rfl, iteF ?_⟩
          refine ⟨.str x, rfl, _, _, _, _, false, rfl, .ty "bool", .base (.str _), k_sb, false, rfl, iteF ?_⟩
          refine ⟨.str x, rfl, _, _, _, _, false, rfl, .ty "tuple", .base (.str _), k_st, false, rfl, iteF ?_⟩
          refine ⟨.str x, rfl, _, _, _, _, true, rfl, .ty "str", .base (.str _), k_ss, true, rfl, iteT ?_⟩
          refine ⟨.str x, rfl, _, _, _, _, true, rfl, .ty "str", .base (.str _), k_ss, true, rfl, iteT ?_⟩
          refine ⟨.str x, rfl, .str x, rfl, rfl, ?_⟩
          rw [decide_eq_true rfl]
          exact q _ (Same.refl _)

  | succ n ih =>
    have CLawSame : Cal P w K mg base "_law_same" (n + 1) ["_law_told", "_law_due"] (spSameD K n) := ⟨f, fd, ih, mS, F.kp, bS⟩
    refine F.ok scLawSame (fun vs H Q E h => ?_) (fun cdv A outer s H vs Q E hr h => ?_)
    · obtain ⟨u, v, d, rfl, _⟩ := h; rfl
    · obtain ⟨u, v, d, rfl, hu, hv, ok, dp, q⟩ := h
      refine ⟨_, (pss_cons (ps_if (pt_cmpR op_isN (pv 1) pe_non (nomark _))
        (pss_one (ps_ret (pe_cmpR op_isN (pv 0) pe_non (nomark _))))
        pss_nil)
      (pss_cons (ps_if (pt_val (pe_callB call_isi (by rfl) Ev.b_isinstance (by decide +kernel) (pa_cons (pv 1) (pa_cons (pe_btype (n := "bool") (by rfl) Ev.b_bool (by decide +kernel)) pa_nil))))
        (pss_one (ps_ret (pe_and (pe_callB call_isi (by rfl) Ev.b_isinstance (by decide +kernel) (pa_cons (pv 0) (pa_cons (pe_btype (n := "bool") (by rfl) Ev.b_bool (by decide +kernel)) pa_nil))) (pe_one (pe_cmpR op_eq (pv 0) (pv 1) (nomark _))))))
        pss_nil)
      (pss_cons (ps_if (pt_val (pe_callB call_isi (by rfl) Ev.b_isinstance (by decide +kernel) (pa_cons (pv 1) (pa_cons (pe_btype (n := "tuple") (by rfl) Ev.b_tuple (by decide +kernel)) pa_nil))))
        (pss_cons (ps_if (PW.pt (pw_or (pt_not (pt_val (pe_callB call_isi (by rfl) Ev.b_isinstance (by decide +kernel) (pa_cons (pv 0) (pa_cons (pe_btype (n := "tuple") (by rfl) Ev.b_tuple (by decide +kernel)) pa_nil))))) (pw_or1 (pt_cmpR op_ne (pe_callB call_len_seq (by rfl) Ev.b_len PySem.boot_len (pa_cons (pv 0) pa_nil)) (pe_callB call_len_seq (by rfl) Ev.b_len PySem.boot_len (pa_cons (pv 1) pa_nil)) (nomark _)))))
          (pss_one (ps_ret pe_bl))
          pss_nil)
        (pss_one (ps_ret (pe_callB (cr_all rfl) (by rfl) Ev.b_all (by decide +kernel) (pa_cons (pe_lc (own := [("_law_one", 2), ("_law_other", 3)]) (g := gTup K 2 (gCons (gName 2) (gCons (gName 3) (gNil)))) (tt := tYes) (by rfl) scLawSame.nd (RZ.pi_zipA (by rfl) Ev.b_zip (pa_cons (pv 0) (pa_cons (pv 1) pa_nil))) (blkOk_by (own := [("_law_one", 2), ("_law_other", 3)]) (N := nLawSame) (sc := defScope sLawSame) (by decide +kernel)) (fun _ _ _ _ _ => (pg_tup (by rfl) (pgs_cons (pg_name (i := 2) scLawSame.nd rfl (.inl rfl)) (pgs_cons (pg_name (i := 3) scLawSame.nd rfl (.inl rfl)) pgs_nil)))) (fun _ _ _ _ _ => pts_nil) (fun _ _ _ _ _ => (pe_c CLawSame (hr.mono (by omega)) (pa_cons (pv 2) (pa_cons (pv 3) pa_nil))))) pa_nil)))))
        pss_nil)
      (pss_cons (ps_if (pt_val (pe_callB call_isi (by rfl) Ev.b_isinstance (by decide +kernel) (pa_cons (pv 1) (pa_cons (pe_btype (n := "str") (by rfl) Ev.b_str (by decide +kernel)) pa_nil))))
        (pss_one (ps_ret (pe_and (pe_callB call_isi (by rfl) Ev.b_isinstance (by decide +kernel) (pa_cons (pv 0) (pa_cons (pe_btype (n := "str") (by rfl) Ev.b_str (by decide +kernel)) pa_nil))) (pe_one (pe_cmpR op_eq (pv 0) (pv 1) (nomark _))))))
        pss_nil)
      (pss_one (ps_ret (pe_and (pe_callB call_isi (by rfl) Ev.b_isinstance (by decide +kernel) (pa_cons (pv 0) (pa_cons (pe_btype (n := "int") (by rfl) Ev.b_int (by decide +kernel)) pa_nil))) (pe_and (pe_not (pe_callB call_isi (by rfl) Ev.b_isinstance (by decide +kernel) (pa_cons (pv 0) (pa_cons (pe_btype (n := "bool") (by rfl) Ev.b_bool (by decide +kernel)) pa_nil)))) (pe_one (pe_cmpR op_eq (pv 0) (pv 1) (nomark _))))))))))), ?_⟩
      by_cases tt : ∃ ds, d = .tuple ds
      · obtain ⟨ds, rfl⟩ := tt
        cases hu with
        | @tup p xs _ hp hxs =>
        cases hv with
        | @tup r ys _ hq hys =>
        rw [tupsOnly, Bool.and_eq_true] at ok
        have few : ds.length ≤ 100000 := of_decide_eq_true ok.1
        have lx := dpLen hxs
        have ly := dpLen hys
        refine ⟨_, rfl, rfl, _, rfl, iteF ?_⟩
        refine ⟨.ref r, rfl, _, _, _, _, false, rfl, .ty "bool", ty_tup hq, k_tb, false, rfl, iteF ?_⟩
        refine ⟨.ref r, rfl, _, _, _, _, true, rfl, .ty "tuple", ty_tup hq, k_tt, true, rfl, iteT ?_⟩
        refine ⟨.ref p, rfl, _, _, _, _, true, rfl, .ty "tuple", ty_tup hp, k_tt, true, rfl, iteF ?_⟩
        refine ⟨_, rfl, p, _, rfl, .inr hp, _, rfl, r, _, rfl, .inr hq, rfl, _, rfl, iteNS (by rw [lx, ly]) ?_⟩
        refine ⟨_, rfl, _, rfl, p, r, _, _, rfl, .inr ⟨hp, hq, fun D nD => ?_⟩⟩
        have lz : ((List.replicate ds.length true).map V.bl).length = xs.length := by rw [List.length_map, List.length_replicate, lx]
        refine lc_zip (xs := xs) (ys := ys) (zs := (List.replicate ds.length true).map V.bl) nD hp hq (by omega) lz ?_ (fun _ _ => rfl) (fun i x y z H2 R hx hy hz sm R1 => ?_) (fun H2 sm h2 => ?_)
        · rw [lx, sizeLine_eq]
          omega
        · obtain ⟨d1, e1, k1⟩ := dpGet hxs hx
          obtain ⟨d2, e2, k2⟩ := dpGet hys hy
          have ed : d1 = d2 := Option.some.inj (e1.symm.trans e2)
          subst ed
          have ez : z = .bl true := by
            rw [List.getElem?_map] at hz
            cases e : (List.replicate ds.length true)[i]? with
            | none => rw [e] at hz; cases hz
            | some b =>
              rw [e] at hz
              have eb : b = true := List.eq_of_mem_replicate (List.mem_of_getElem? e)
              rw [eb] at hz
              exact (Option.some.inj hz).symm
          subst ez
          have dd := depth_get e1
          rw [PyData.depth] at dp
          exact ⟨_, rfl, _, rfl, x, y, d1, rfl, dpKeep sm k1, dpKeep sm k2, tupsAll_get ok.2 e1, by omega, fun H' e => R1 _ e⟩
        · refine ⟨D, List.replicate ds.length true, rfl, SqL.of h2, ?_⟩
          have e : (List.replicate ds.length true).all id = true := by
            rw [List.all_eq_true]
            intro b hb
            rw [List.eq_of_mem_replicate hb]
            rfl
          rw [e]
          exact q _ sm
      · have nt : ∀ ds, d ≠ .tuple ds := fun ds z => tt ⟨ds, z⟩
        rcases flat u v d H hu hv nt ok with ⟨rfl, rfl⟩ | ⟨b, rfl, rfl⟩ | ⟨i, rfl, rfl⟩ | ⟨x, rfl, rfl⟩
        · refine ⟨_, rfl, rfl, _, rfl, iteT ?_⟩
          exact ⟨_, rfl, rfl, q _ (Same.refl _)⟩
        · refine ⟨_, rfl, rfl, _, rfl, iteF ?_⟩
          refine ⟨.bl b, rfl, _, _, _, _, true, rfl, .ty "bool", .base (.bl _), k_bb, true, rfl, iteT ?_⟩
          refine ⟨.bl b, rfl, _, _, _, _, true, rfl, .ty "bool", .base (.bl _), k_bb, true, rfl, iteT ?_⟩
          refine ⟨.bl b, rfl, .bl b, rfl, rfl, ?_⟩
          rw [decide_eq_true rfl]
          exact q _ (Same.refl _)
        · refine ⟨_, rfl, rfl, _, rfl, iteF ?_⟩
          refine ⟨.int i, rfl, _, _, _, _, false, rfl, .ty "bool", .base (.int _), k_ib, false, rfl, iteF ?_⟩
          refine ⟨.int i, rfl, _, _, _, _, false, rfl, .ty "tuple", .base (.int _), k_it, false, rfl, iteF ?_⟩
          refine ⟨.int i, rfl, _, _, _, _, false, rfl, .ty "str", .base (.int _), k_is', false, rfl, iteF ?_⟩
          refine ⟨.int i, rfl, _, _, _, _, true, rfl, .ty "int", .base (.int _), k_ii, true, rfl, iteT ?_⟩
          refine ⟨.int i, rfl, _, _, _, _, false, rfl, .ty "bool", .base (.int _), k_ib, false, rfl, true, rfl, iteT ?_⟩
          refine ⟨.int i, rfl, .int i, rfl, rfl, ?_⟩
          rw [decide_eq_true rfl]
          exact q _ (Same.refl _)
        · refine ⟨_, rfl, rfl, _, rfl, iteF ?_⟩
          refine ⟨.str x, rfl, _, _, _, _, false, rfl, .ty "bool", .base (.str _), k_sb, false, rfl, iteF ?_⟩
          refine ⟨.str x, rfl, _, _, _, _, false, rfl, .ty "tuple", .base (.str _), k_st, false, rfl, iteF ?_⟩
          refine ⟨.str x, rfl, _, _, _, _, true, rfl, .ty "str", .base (.str _), k_ss, true, rfl, iteT ?_⟩
          refine ⟨.str x, rfl, _, _, _, _, true, rfl, .ty "str", .base (.str _), k_ss, true, rfl, iteT ?_⟩
          refine ⟨.str x, rfl, .str x, rfl, rfl, ?_⟩
          rw [decide_eq_true rfl]
          exact q _ (Same.refl _)


/-! ### a cell of the script -/
def spCellA (K : PySem.W.Frag) : Sp := fun vs H Q _ => ∃ (a : Addr) (ns : List Int) (k : Nat), vs = [.ref a, .int (k : Int)] ∧ SqL K H a (ns.map V.int) ∧ ∀ c : Int, Q (.int c) H
theorem ok_cell {f : Addr} {fd : FuncData} (Ev : Env K mg) (F : Fun K "_law_cell" "_law_cell" sLawCell f fd) : FnOk P w K mg base CX0 1 f fd ["_law_script", "_law_k"] (spCellA K) := by
  refine F.ok scLawCell (fun vs H Q E h => ?_) (fun cdv A outer s H vs Q E hr h => ?_)
  · obtain ⟨a, ns, k, rfl, _⟩ := h; rfl
  · obtain ⟨a, ns, k, rfl, hS, q⟩ := h
    refine ⟨_, (pss_cons (ps_if (pt_cmpR op_lt (pv 1) (pe_callB call_len_seq (by rfl) Ev.b_len PySem.boot_len (pa_cons (pv 0) pa_nil)) (nomark _))
        (pss_one (ps_ret (pe_ix ix_list (pv 0) (pv 1) (fun _ _ => rfl))))
        pss_nil)
      (pss_one (ps_ret pe_int))), ?_⟩
    refine ⟨_, rfl, _, rfl, a, _, rfl, .inl hS, _, _, rfl, rfl, _, rfl, ite2 (fun z => ?_) (fun _ => q _)⟩
    have lt : k < ns.length := by
      have := of_decide_eq_true z
      rw [List.length_map] at this
      omega
    have gk : (ns.map V.int)[k]? = some (.int ns[k]) := by rw [List.getElem?_map, List.getElem?_eq_getElem lt]; rfl
    exact ⟨_, rfl, _, rfl, a, _, _, _, rfl, rfl, hS, atI_nat gk, q _⟩

/-! ### a web of links, by cells -/
theorem eight_folders {d : Int} (h0 : 0 ≤ d) (h1 : d < 8) : ∃ f ∈ webF, atI [V.str "", .str "a/", .str "a/b/", .str "b/", .str "b/a/", .str "c/", .str "a/b/a/", .str "b/"] d = some (T f) := by
  have : d = 0 ∨ d = 1 ∨ d = 2 ∨ d = 3 ∨ d = 4 ∨ d = 5 ∨ d = 6 ∨ d = 7 := by omega
  rcases this with rfl | rfl | rfl | rfl | rfl | rfl | rfl | rfl
  · exact ⟨[], by decide, congrArg (fun x => some (V.str x)) (show Str.ofString "" = mkS [] by decide +kernel)⟩
  · exact ⟨[97, 47], by decide, congrArg (fun x => some (V.str x)) (show Str.ofString "a/" = mkS [97, 47] by decide +kernel)⟩
  · exact ⟨[97, 47, 98, 47], by decide, congrArg (fun x => some (V.str x)) (show Str.ofString "a/b/" = mkS [97, 47, 98, 47] by decide +kernel)⟩
  · exact ⟨[98, 47], by decide, congrArg (fun x => some (V.str x)) (show Str.ofString "b/" = mkS [98, 47] by decide +kernel)⟩
  · exact ⟨[98, 47, 97, 47], by decide, congrArg (fun x => some (V.str x)) (show Str.ofString "b/a/" = mkS [98, 47, 97, 47] by decide +kernel)⟩
  · exact ⟨[99, 47], by decide, congrArg (fun x => some (V.str x)) (show Str.ofString "c/" = mkS [99, 47] by decide +kernel)⟩
  · exact ⟨[97, 47, 98, 47, 97, 47], by decide, congrArg (fun x => some (V.str x)) (show Str.ofString "a/b/a/" = mkS [97, 47, 98, 47, 97, 47] by decide +kernel)⟩
  · exact ⟨[98, 47], by decide, congrArg (fun x => some (V.str x)) (show Str.ofString "b/" = mkS [98, 47] by decide +kernel)⟩
theorem lmn_at {d : Int} (h0 : 0 ≤ d) (h1 : d < 3) : ∃ c ∈ [108, 109, 110], atI (Str.ofString "lmn").cps.toList d = some c := by
  have : d = 0 ∨ d = 1 ∨ d = 2 := by omega
  rcases this with rfl | rfl | rfl
  · exact ⟨108, by decide, by decide +kernel⟩
  · exact ⟨109, by decide, by decide +kernel⟩
  · exact ⟨110, by decide, by decide +kernel⟩
theorem six_ups {d : Int} (h0 : 0 ≤ d) (h1 : d < 6) : ∃ n : Nat, atI [V.int 0, .int 0, .int 1, .int 1, .int 2, .int 3] d = some (.int (n : Int)) ∧ n ≤ 3 := by
  have : d = 0 ∨ d = 1 ∨ d = 2 ∨ d = 3 ∨ d = 4 ∨ d = 5 := by omega
  rcases this with rfl | rfl | rfl | rfl | rfl | rfl
  · exact ⟨0, rfl, by decide⟩
  · exact ⟨0, rfl, by decide⟩
  · exact ⟨1, rfl, by decide⟩
  · exact ⟨1, rfl, by decide⟩
  · exact ⟨2, rfl, by decide⟩
  · exact ⟨3, rfl, by decide⟩
theorem eight_ways {d : Int} (h0 : 0 ≤ d) (h1 : d < 8) : ∃ p, atI [V.str "l", .str "a", .str "m", .str "b", .str "n", .str "..", .str "c", .str "z"] d = some (T p) ∧ (p = dots ∨ partOk p) := by
  have : d = 0 ∨ d = 1 ∨ d = 2 ∨ d = 3 ∨ d = 4 ∨ d = 5 ∨ d = 6 ∨ d = 7 := by omega
  rcases this with rfl | rfl | rfl | rfl | rfl | rfl | rfl | rfl
  · exact ⟨[108], congrArg (fun x => some (V.str x)) (show Str.ofString "l" = mkS [108] by decide +kernel), .inr (by decide)⟩
  · exact ⟨[97], congrArg (fun x => some (V.str x)) (show Str.ofString "a" = mkS [97] by decide +kernel), .inr (by decide)⟩
  · exact ⟨[109], congrArg (fun x => some (V.str x)) (show Str.ofString "m" = mkS [109] by decide +kernel), .inr (by decide)⟩
  · exact ⟨[98], congrArg (fun x => some (V.str x)) (show Str.ofString "b" = mkS [98] by decide +kernel), .inr (by decide)⟩
  · exact ⟨[110], congrArg (fun x => some (V.str x)) (show Str.ofString "n" = mkS [110] by decide +kernel), .inr (by decide)⟩
  · exact ⟨[46, 46], congrArg (fun x => some (V.str x)) (show Str.ofString ".." = mkS [46, 46] by decide +kernel), .inl rfl⟩
  · exact ⟨[99], congrArg (fun x => some (V.str x)) (show Str.ofString "c" = mkS [99] by decide +kernel), .inr (by decide)⟩
  · exact ⟨[122], congrArg (fun x => some (V.str x)) (show Str.ofString "z" = mkS [122] by decide +kernel), .inr (by decide)⟩
theorem way_goal {ws : List (List Nat)} (n : ws ≠ []) (l : ws.length ≤ 8) (h : ∀ p ∈ ws, p = dots ∨ partOk p) : GoalT (joinC 47 ws) := by
  have e : splitC 47 (joinC 47 ws) = ws := split_joinC 47 n fun p hp => by
    rcases h p hp with k | k
    · rw [k]; decide
    · exact no_stroke k
  unfold GoalT
  rw [e]
  exact ⟨l, h⟩
theorem way_sizes {ws : List (List Nat)} (h : ∀ p ∈ ws, p = dots ∨ partOk p) : ∀ p ∈ ws, p.length ≤ 12 := fun p hp => by
  rcases h p hp with k | k
  · rw [k]; decide
  · exact k.2.1
theorem web_len : ∀ f ∈ webF, f.length ≤ 6 := by decide
theorem six_lits : [V.str "a", .str "a/b", .str "a/b/a", .str "b", .str "b/a", .str "c"] = sixP.map T := by
  show [V.str (Str.ofString "a"), .str (Str.ofString "a/b"), .str (Str.ofString "a/b/a"), .str (Str.ofString "b"), .str (Str.ofString "b/a"), .str (Str.ofString "c")] = _
  rw [show Str.ofString "a" = mkS [97] by decide +kernel, show Str.ofString "a/b" = mkS [97, 47, 98] by decide +kernel, show Str.ofString "a/b/a" = mkS [97, 47, 98, 47, 97] by decide +kernel, show Str.ofString "b" = mkS [98] by decide +kernel, show Str.ofString "b/a" = mkS [98, 47, 97] by decide +kernel, show Str.ofString "c" = mkS [99] by decide +kernel]
  rfl
def spWeb (K : PySem.W.Frag) : Sp := fun vs H Q _ => ∃ (a : Addr) (ns : List Int), vs = [.ref a] ∧ SqL K H a (ns.map V.int) ∧ ns.length ≤ 20 ∧ ∀ H' v es, Same H H' → TreeOk es → es.length ≤ 26 → (∀ e ∈ es, ∀ a ∈ aboveT e.path, a ∈ sixP) → (∀ e ∈ es, Low e.path) → Dp K H' v (dTree es) → Q v H'
theorem ok_web {f : Addr} {fd : FuncData} (Ev : Env K mg) (CLawD : Cal P w K mg base "_law_d" 1 ["_law_cell_here", "_law_place", "_law_many"] spD) (F : Fun K "_law_web" "_law_web" sLawWeb f fd) : FnOk P w K mg base CX0 2 f fd ["_law_cells"] (spWeb K) := by
  refine F.ok scLawWeb (fun vs H Q E h => ?_) (fun cdv A outer s H vs Q E hr h => ?_)
  · obtain ⟨a, ns, rfl, _⟩ := h; rfl
  · obtain ⟨a, ns, rfl, hS, few, q⟩ := h
    refine ⟨_, (pss_cons (ps_set (i := 1) scLawWeb.nd rfl (.inr rfl) pe_dnewK)
      (pss_cons (ps_for PassesOwn.never rfl (pi_list (pe_lst (pa_cons pe_str (pa_cons pe_str (pa_cons pe_str (pa_cons pe_str (pa_cons pe_str (pa_cons pe_str pa_nil)))))))) (pg_name (i := 2) scLawWeb.nd rfl (.inl rfl))
        (pss_one (ps_dput (hu1 hr) (pv 1) (pv 2) (pe_tupU (pa_cons pe_str (pa_cons (pv 2) pa_nil))) rfl)))
      (pss_cons (ps_for PassesOwn.never rfl (pi_list (pv 0)) (pg_name (i := 3) scLawWeb.nd rfl (.inl rfl))
        (pss_cons (ps_set (i := 4) scLawWeb.nd rfl (.inl rfl) (pe_ix ix_list (pe_lst (pa_cons pe_str (pa_cons pe_str (pa_cons pe_str (pa_cons pe_str (pa_cons pe_str (pa_cons pe_str (pa_cons pe_str (pa_cons pe_str pa_nil))))))))) (pe_c CLawD (hr.mono (by omega)) (pa_cons (pv 3) (pa_cons pe_int (pa_cons pe_int pa_nil)))) (fun _ _ => rfl)))
        (pss_cons (ps_set (i := 2) scLawWeb.nd rfl (.inl rfl) (pe_op op_add_str (pv 4) (pe_ix ix_str pe_str (pe_c CLawD (hr.mono (by omega)) (pa_cons (pv 3) (pa_cons pe_int (pa_cons pe_int pa_nil)))) (fun _ _ => rfl))))
        (pss_cons (ps_set (i := 3) scLawWeb.nd rfl (.inl rfl) (pe_op op_fdiv (pv 3) pe_int))
        (pss_one (ps_if (pt_cmpR op_eq (pe_c CLawD (hr.mono (by omega)) (pa_cons (pv 3) (pa_cons pe_int (pa_cons pe_int pa_nil)))) pe_int (nomark _))
          (pss_one (ps_dput (hu1 hr) (pv 1) (pv 2) (pe_tupU (pa_cons pe_str (pa_cons (pv 2) (pa_cons (pe_tupU (pa_cons (pe_c CLawD (hr.mono (by omega)) (pa_cons (pv 3) (pa_cons pe_int (pa_cons pe_int pa_nil)))) pa_nil)) pa_nil)))) rfl))
          (pss_cons (ps_set (i := 5) scLawWeb.nd rfl (.inl rfl) (pe_op op_rep (pe_lst (pa_cons pe_str pa_nil)) (pe_ix ix_list (pe_lst (pa_cons pe_int (pa_cons pe_int (pa_cons pe_int (pa_cons pe_int (pa_cons pe_int (pa_cons pe_int pa_nil))))))) (pe_c CLawD (hr.mono (by omega)) (pa_cons (pv 3) (pa_cons pe_int (pa_cons pe_int pa_nil)))) (fun _ _ => rfl))))
          (pss_cons (ps_set (i := 3) scLawWeb.nd rfl (.inl rfl) (pe_op op_fdiv (pv 3) pe_int))
          (pss_cons (ps_for PassesOwn.never rfl (pi_range1 (by rfl) Ev.b_range (pa_cons (pe_c CLawD (hr.mono (by omega)) (pa_cons (pv 3) (pa_cons pe_int (pa_cons pe_int pa_nil)))) pa_nil)) (pg_name (i := 6) scLawWeb.nd rfl (.inl rfl))
            (pss_cons (ps_expr (pe_bm PySem.F.plainAttrs_list PySem.F.slot_list_append PySem.F.type_list_append mt_append (pv 5) (pa_cons (pe_ix ix_list (pe_lst (pa_cons pe_str (pa_cons pe_str (pa_cons pe_str (pa_cons pe_str (pa_cons pe_str (pa_cons pe_str (pa_cons pe_str (pa_cons pe_str pa_nil))))))))) (pe_c CLawD (hr.mono (by omega)) (pa_cons (pv 3) (pa_cons pe_int (pa_cons pe_int pa_nil)))) (fun _ _ => rfl)) pa_nil)))
            (pss_one (ps_set (i := 3) scLawWeb.nd rfl (.inl rfl) (pe_op op_fdiv (pv 3) pe_int)))))
          (pss_one (ps_dput (hu1 hr) (pv 1) (pv 2) (pe_tupU (pa_cons pe_str (pa_cons (pv 2) (pa_cons (pe_join pe_str (pe_orT (pv 5) (pe_one (pe_lst (pa_cons pe_str pa_nil))))) pa_nil)))) rfl)))))))))))
      (pss_one (ps_ret (pe_callTy call_tupleU (by rfl) Ev.b_tuple (by decide +kernel) (pa_cons (pe_lc (own := [("_law_path", 2)]) (g := gName 2) (tt := tYes) (by rfl) scLawWeb.nd (pi_list (pe_callB (call_sortedD rfl) (by rfl) Ev.b_sorted (by decide +kernel) (pa_cons (pv 1) pa_nil))) (blkOk_by (own := [("_law_path", 2)]) (N := nLawWeb) (sc := defScope sLawWeb) (by decide +kernel)) (fun _ _ _ _ _ => (pg_name (i := 2) scLawWeb.nd rfl (.inl rfl))) (fun _ _ _ _ _ => pts_nil) (fun _ _ _ _ _ => (pe_dget (hu1 hr) (pv 1) (pv 2) (fun _ _ => rfl)))) pa_nil))))))), ?_⟩
    have size : ∀ n : Nat, n ≤ 1000 → n ≤ sizeLine := fun n h => by rw [sizeLine_eq]; omega
    have l1 : (Str.ofString "/").length = 1 := by decide +kernel
    refine fun p1 n1 => ?_
    refine ⟨size 6 (by decide), fun p2 n2 => ?_⟩
    rw [six_lits]
    have h21 : (upd (upd H p1 (.dK [])) p2 (.lst (sixP.map T))) p1 = some (.dK []) := grow n2 _ _ upd_same
    have h22 : (upd (upd H p1 (.dK [])) p2 (.lst (sixP.map T))) p2 = some (.lst (sixP.map T)) := upd_same
    have sm2 : Same H (upd (upd H p1 (.dK [])) p2 (.lst (sixP.map T))) := (grow n1).trans (grow n2)
    generalize upd (upd H p1 (.dK [])) p2 (.lst (sixP.map T)) = H2 at h21 h22 sm2
    have ne12 : p2 ≠ p1 := fun e => by
      rw [e, h21] at h22
      cases h22
    refine ⟨p2, rfl, ⟨_, SqL.of h22⟩, for_list (xs := sixP.map T) (fun i σ H' => ∃ (es : List Ent) (kvs : List (Key × V)) (y2 : Option V), σ = [some (.ref a), some (.ref p1), y2, none, none, none, none] ∧ Same H H' ∧ H' p2 = some (.lst (sixP.map T)) ∧ H' p1 = some (.dK kvs) ∧ OnE K H' es kvs ∧ Nod es ∧ (∀ e ∈ es, ∃ s ∈ sixP, e = .folder s) ∧ (∀ s ∈ sixP.take i, Ent.folder s ∈ es) ∧ es.length ≤ i)
      ⟨[], [], none, rfl, sm2, h22, h21, .nil, List.nodup_nil, (fun e h => by cases h), (fun e h => by cases h), Nat.le_refl _⟩ (fun i σ H' _ p => ?_) (fun i x σ H3 hx p => ?_) (fun σ H3 p => ?_)⟩
    · obtain ⟨_, _, _, _, _, e, _⟩ := p
      exact SqL.of e
    · obtain ⟨es, kvs, y2, rfl, sm, hl, hk, on, nd, fo, al, le⟩ := p
      obtain ⟨t, ht, rfl⟩ : ∃ t, sixP[i]? = some t ∧ x = T t := by
        rw [List.getElem?_map] at hx
        cases e : sixP[i]? with
        | none => rw [e] at hx; cases hx
        | some p => rw [e] at hx; exact ⟨p, rfl, (Option.some.inj hx).symm⟩
      have li : i < 6 := (List.getElem?_eq_some_iff.mp ht).1
      have sme : SmallE es := fun e he t b z => by
        obtain ⟨s, _, rfl⟩ := fo e he
        cases z
      refine ⟨_, rfl, size 2 (by decide), fun H7 t7 s7 h7 => ⟨_, rfl, _, rfl, p1, _, rfl, DPut.k (k := kT t) (s7 _ _ hk) (by rw [on.length, sizeLine_eq]; omega), ?_⟩⟩
      have w7 : Wr H7 p1 := Wr.dK (s7 _ _ hk)
      refine ⟨putE es (.folder t), _, _, rfl, keep_new (sm.trans s7) n1, ?_, upd_same, onE_put (e := .folder t) (onE_over w7 sme (onE_keep s7 on)) (dpOver w7 rfl (dEnt_folder h7)), putE_nod nd, fun e he => ?_, fun s hs => ?_, Nat.le_trans putE_few (by omega)⟩
      · rw [upd_ne ne12]
        exact s7 _ _ hl
      · rcases putE_mem he with rfl | ⟨he, _⟩
        · exact ⟨t, List.mem_of_getElem? ht, rfl⟩
        · exact fo e he
      · rw [List.take_add_one, ht] at hs
        rcases List.mem_append.mp hs with hs | hs
        · by_cases z : s = t
          · rw [z]; exact putE_self
          · exact mem_putE (al s hs) z
        · rw [show s = t from List.mem_singleton.mp hs]
          exact putE_self
    · obtain ⟨es0, kvs0, y2, rfl, sm3, _, hk3, on3, nd3, fo3, al3, le3⟩ := p
      rw [List.length_map, List.take_length] at al3
      rw [List.length_map] at le3
      have wb3 : Web es0 := ⟨nd3, fun e he => (by obtain ⟨s, hs, rfl⟩ := fo3 e he; exact (six_ok s hs).1), al3, fun e he => (by obtain ⟨s, hs, rfl⟩ := fo3 e he; exact (six_ok s hs).2.1), fun e he => (by obtain ⟨s, hs, rfl⟩ := fo3 e he; exact (six_ok s hs).2.2)⟩
      refine ⟨_, rfl, a, rfl, ⟨_, sm3.seq hS⟩, for_list (xs := ns.map V.int) (fun i σ H' => ∃ (es : List Ent) (kvs : List (Key × V)) (y2 y3 y4 y5 y6 : Option V), σ = [some (.ref a), some (.ref p1), y2, y3, y4, y5, y6] ∧ Same H H' ∧ H' p1 = some (.dK kvs) ∧ OnE K H' es kvs ∧ Web es ∧ es.length ≤ 6 + i)
        ⟨es0, kvs0, y2, none, none, none, none, rfl, sm3, hk3, on3, wb3, le3⟩ (fun i σ H' _ p => ?_) (fun i x σ H4 hx p => ?_) (fun σ H4 p => ?_)⟩
      · obtain ⟨_, _, _, _, _, _, _, _, e, _⟩ := p
        exact e.seq hS
      · obtain ⟨es, kvs, y2, y3, y4, y5, y6, rfl, sm, hk, on, wb, le⟩ := p
        obtain ⟨n, hn, rfl⟩ := got hx
        have li : i < ns.length := (List.getElem?_eq_some_iff.mp hn).1
        have sme := wb.stock.small
        have lkv : kvs.length < sizeLine := by rw [on.length, sizeLine_eq]; omega
        refine ⟨size 8 (by decide), fun p5 n5 => ⟨_, rfl, n, 1, 8, rfl, by decide, by decide, by decide, fun d d0 d1 => ?_⟩⟩
        obtain ⟨fo, hfo, afo⟩ := eight_folders d0 d1
        refine ⟨p5, _, _, _, rfl, rfl, SqL.of upd_same, afo, ?_⟩
        have s5 := grow (o := .lst [V.str "", .str "a/", .str "a/b/", .str "b/", .str "b/a/", .str "c/", .str "a/b/a/", .str "b/"]) n5
        generalize upd H4 p5 (.lst [V.str "", .str "a/", .str "a/b/", .str "b/", .str "b/a/", .str "c/", .str "a/b/a/", .str "b/"]) = H5 at s5
        refine ⟨_, rfl, _, rfl, n, 8, 3, rfl, by decide, by decide, by decide, fun d2 e0 e1 => ?_⟩
        obtain ⟨c, hc, ac⟩ := lmn_at e0 e1
        refine ⟨Str.ofString "lmn", d2, c, rfl, rfl, size _ (by decide +kernel), ac, mkS fo, mkS [c], rfl, rfl, ?_, ?_⟩
        · have := web_len fo hfo
          rw [len_mkS, len_mkS]
          refine size _ ?_
          simp only [List.length_cons, List.length_nil]
          omega
        rw [mkS_app]
        obtain ⟨pok, pup, pno, plow⟩ := web_ok fo hfo c hc
        generalize fo ++ [c] = t at pok pup pno plow
        refine ⟨_, rfl, _, 24, rfl, rfl, ⟨by decide, by decide⟩, ?_⟩
        refine ⟨_, rfl, _, 1, 6, rfl, by decide, by decide, by decide, fun d3 f0 f1 => ⟨rfl, _, rfl, ite2 (fun _ => ?_) (fun _ => ?_)⟩⟩
        · refine ⟨_, rfl, _, rfl, _, 6, 256, rfl, by decide, by decide, by decide, fun b b0 b1 => ⟨size 1 (by decide), fun Ha ta sa ha => ⟨size 3 (by decide), fun Hb tb sb hb => ⟨_, rfl, _, rfl, p1, _, rfl, DPut.k (k := kT t) (sb _ _ (sa _ _ (s5 _ _ hk))) lkv, ?_⟩⟩⟩⟩
          have sab := s5.trans (sa.trans sb)
          have wr : Wr Hb p1 := Wr.dK (sab _ _ hk)
          have eok : EntOk (.file t [b]) := ⟨pok, fun x hx => by rw [List.mem_singleton.mp hx]; exact ⟨b0, b1⟩, by simp⟩
          exact ⟨putE es (.file t [b]), _, _, _, _, _, _, rfl, keep_new (sm.trans sab) n1, upd_same, onE_put (e := .file t [b]) (onE_over wr sme (onE_keep sab on)) (dpOver wr (dEnt_ok eok.small).1 (dEnt_file (b := [b]) hb (keepT sb ha))), wb.put eok pup pno plow, Nat.le_trans putE_few (by omega)⟩
        · refine ⟨size 1 (by decide), fun p6 n6 => ⟨size 6 (by decide), fun p7 n7 => ⟨_, rfl, _, 6, 6, rfl, by decide, by decide, by decide, fun d4 g0 g1 => ?_⟩⟩⟩
          obtain ⟨m, am, lm⟩ := six_ups g0 g1
          refine ⟨p7, _, _, _, rfl, rfl, SqL.of upd_same, am, p6, _, _, rfl, rfl, grow n7 _ _ upd_same, by omega, by omega, ?_, fun p8 n8 => ?_⟩
          · refine size _ ?_
            simp only [List.length_cons, List.length_nil]
            omega
          rw [show (List.replicate ((m : Int) : Int).toNat [V.str (Str.ofString "..")]).flatten = (List.replicate m dots).map T by rw [Int.toNat_natCast, List.map_replicate, t_dots]; exact List.flatten_replicate_singleton]
          have s58 : Same H5 (upd _ p8 (.lst ((List.replicate m dots).map T))) := (grow n6).trans ((grow n7).trans (grow n8))
          have h88 : (upd (upd (upd H5 p6 (.lst [V.str (Str.ofString "..")])) p7 (.lst [V.int 0, .int 0, .int 1, .int 1, .int 2, .int 3])) p8 (.lst ((List.replicate m dots).map T))) p8 = some (.lst ((List.replicate m dots).map T)) := upd_same
          have n8' : H5 p8 = none := ((grow n6).trans (grow n7)).free n8
          generalize upd (upd (upd H5 p6 (.lst [V.str (Str.ofString "..")])) p7 (.lst [V.int 0, .int 0, .int 1, .int 1, .int 2, .int 3])) p8 (.lst ((List.replicate m dots).map T)) = H8 at s58 h88
          refine ⟨_, rfl, _, 36, rfl, rfl, ⟨by decide, by decide⟩, ?_⟩
          refine ⟨_, rfl, _, 1, 4, rfl, by decide, by decide, by decide, fun d5 i0 i1 => ⟨_, rfl, by omega, by omega, for_range (lo := 0) (fun k σ H' => ∃ (ws : List (List Nat)) (c2 : Int) (y6 : Option V), σ = [some (.ref a), some (.ref p1), some (T t), some (.int c2), some (T fo), some (.ref p8), y6] ∧ Same H5 H' ∧ H' p8 = some (.lst (ws.map T)) ∧ ws.length ≤ 3 + k ∧ ∀ p ∈ ws, p = dots ∨ partOk p)
            ⟨List.replicate m dots, _, _, rfl, s58, h88, by rw [List.length_replicate]; omega, fun p hp => .inl (List.eq_of_mem_replicate hp)⟩ (fun k σ H' hk2 p => ?_) (fun σ H9 p => ?_)⟩⟩
          · obtain ⟨ws, c2, y6, rfl, smw, hw, lw, gw⟩ := p
            refine ⟨_, rfl, .inl ⟨rfl, _, SqL.of hw⟩, size 8 (by decide), fun p9 n9 => ⟨_, rfl, _, 4, 8, rfl, by decide, by decide, by decide, fun d6 j0 j1 => ?_⟩⟩
            obtain ⟨pt, apt, gpt⟩ := eight_ways j0 j1
            have s9 := grow (o := .lst [V.str "l", .str "a", .str "m", .str "b", .str "n", .str "..", .str "c", .str "z"]) n9
            refine ⟨p9, _, _, _, rfl, rfl, SqL.of upd_same, apt, p8, _, _, rfl, rfl, s9 _ _ hw, by rw [List.length_map, sizeLine_eq]; omega, ?_⟩
            refine ⟨_, rfl, _, 8, rfl, rfl, ⟨by decide, by decide⟩, ws ++ [pt], _, _, rfl, keep_lst (smw.trans s9) n8', ?_, ?_, ?_⟩
            · rw [upd_same, List.map_append]; rfl
            · rw [List.length_append]; simp only [List.length_cons, List.length_nil]; omega
            · intro p hp
              rcases List.mem_append.mp hp with hp | hp
              · exact gw p hp
              · rw [List.mem_singleton.mp hp]; exact gpt
          · obtain ⟨ws, c2, y6, rfl, smw, hw, lw, gw⟩ := p
            have s4w : Same H4 H9 := s5.trans smw
            have hk9 := s4w _ _ hk
            have on9 := onE_keep s4w on
            refine ⟨_, rfl, ⟨_, rfl⟩, ?_⟩
            refine te_by (fun v H' => ∃ pl vs, v = V.ref pl ∧ Same H9 H' ∧ H' pl = some (.lst (vs.map T)) ∧ vs ≠ [] ∧ vs.length ≤ 8 ∧ ∀ p ∈ vs, p = dots ∨ partOk p) (fun v H' hv => ?_) (fun go => ?_)
            · obtain ⟨pl, vs, rfl, sl, hl, nv, lv, gv⟩ := hv
              have szs := sum_sizes (m := 12) vs (way_sizes gv)
              refine ⟨Str.ofString "/", pl, vs.map mkS, rfl, rfl, .inl (by rw [mapT]; exact SqL.of hl), by rw [l1, List.length_map]; omega, ?_⟩
              rw [s_slash, join_mkS]
              refine ⟨size 3 (by decide), fun Hb tb sb hb => ⟨_, rfl, _, rfl, p1, _, rfl, DPut.k (k := kT t) (sb _ _ (sl _ _ hk9)) lkv, ?_⟩⟩
              have sab := sl.trans sb
              have wr : Wr Hb p1 := Wr.dK (sab _ _ hk9)
              have eok : EntOk (.link t (joinC 47 vs)) := ⟨pok, way_goal nv lv gv⟩
              exact ⟨putE es (.link t (joinC 47 vs)), _, _, _, _, _, _, rfl, keep_new (sm.trans (s4w.trans sab)) n1, upd_same, onE_put (e := .link t (joinC 47 vs)) (onE_over wr sme (onE_keep sab on9)) (dpOver wr rfl (dEnt_link hb)), wb.put eok pup pno plow, Nat.le_trans putE_few (by omega)⟩
            · refine ⟨_, rfl, _, .inl ⟨_, SqL.of hw, rfl⟩, ?_⟩
              cases ws with
              | nil =>
                refine iteF ⟨size 1 (by decide), fun p9 n9 => go _ _ ⟨p9, [[108]], rfl, grow n9, ?_, by simp, by simp, fun p hp => ?_⟩⟩
                · rw [upd_same, show Str.ofString "l" = mkS [108] by decide +kernel]
                  rfl
                · rw [List.mem_singleton.mp hp]
                  exact .inr (by decide)
              | cons x r => exact iteT (go _ _ ⟨p8, x :: r, rfl, Same.refl _, hw, by simp, by omega, gw⟩)
      · obtain ⟨es, kvs, y2, y3, y4, y5, y6, rfl, sm, hk, on, wb, le⟩ := p
        rw [List.length_map] at le
        have st := wb.stock
        refine ⟨_, rfl, p1, kvs, es.map (fun e => mkS e.path), rfl, .inl hk, onE_keys on, by rw [List.length_map]; omega, fun ys p8 pm so n8 => ⟨p8, rfl, ⟨_, SqL.of upd_same⟩, fun D nD => ?_⟩⟩
        obtain ⟨zs, rfl⟩ : ∃ zs : List (List Nat), ys = zs.map mkS := ⟨ys.map TL.tl, by rw [List.map_map]; exact (List.map_id'' (fun x => mkS_tl x) ys).symm⟩
        have pm2 : zs.Perm (es.map Ent.path) := by
          have := pm.map TL.tl
          rw [List.map_map, List.map_map] at this
          have e1 : zs.map (TL.tl ∘ mkS) = zs := List.map_id'' (fun x => rfl) zs
          rw [e1] at this
          exact this
        have lz : zs.length = es.length := by rw [pm2.length_eq, List.length_map]
        refine lcG_list (xs := (zs.map mkS).map V.str) (keep := fun _ => true) (G := fun x y H => ∃ e ∈ es, x = T e.path ∧ Dp K H y (dEnt e)) nD (SqL.of upd_same) (by rw [List.length_map, List.length_map, sizeLine_eq]; omega) (fun _ => rfl) (fun x y H H' s h => ?_) (fun x y H us vs hD h => ?_) (fun k x H2 R hx2 s2 r => r _ (Same.refl _)) (fun k x H2 R hx2 _ s2 r => ?_) (fun ws H9 al s9 h9 => ?_)
        · obtain ⟨e, he, hx, hd⟩ := h
          exact ⟨e, he, hx, dpKeep s hd⟩
        · obtain ⟨e, he, hx, hd⟩ := h
          exact ⟨e, he, hx, dpOver (.lst hD) (dEnt_ok (st.small e he)).1 hd⟩
        · rw [mapT] at hx2
          obtain ⟨t, ht, ex⟩ := List.mem_map.mp (List.mem_of_getElem? hx2)
          subst ex
          obtain ⟨e, he, pe⟩ := List.mem_map.mp (pm2.mem_iff.mp ht)
          subst pe
          have sk : Same H4 H2 := (grow n8).trans s2
          have ae := atE_of st.nod he
          rcases onE_get e.path on with ⟨a1, _⟩ | ⟨e', v, a1, v1, d1⟩
          · rw [ae] at a1; cases a1
          · rw [ae] at a1
            cases a1
            exact ⟨_, rfl, _, rfl, p1, v, rfl, .inl ⟨kvs, kT e.path, .inl (sk _ _ hk), rfl, v1.symm⟩, r _ _ (Same.refl _) ⟨e, he, rfl, dpKeep sk d1⟩⟩
        · rw [List.filter_eq_self.mpr fun _ _ => rfl] at al
          obtain ⟨fs, ef, sub, da⟩ := choose_ents al
          rw [mapT] at ef
          have ef2 : fs.map Ent.path = zs := by
            have : zs.map T = (fs.map Ent.path).map T := by rw [ef, List.map_map]; rfl
            exact (List.map_inj_right fun a b h => T_inj h).mp this.symm
          have tk := st.tree pm2 so ef2 sub (by omega)
          have lf : fs.length = es.length := by rw [← lz, ← ef2, List.length_map]
          exact ⟨D, _, rfl, SqL.of h9, fun Ha ta sa ha => q _ _ fs (sm.trans ((grow n8).trans (s9.trans sa))) tk (by omega) (fun e he => wb.up e (sub e he)) (fun e he => wb.low e (sub e he)) (.tup ha (dpKeepAll sa da))⟩

/-! ### the way over links, by hand -/
def spLandH (K : PySem.W.Frag) : Sp := fun vs H Q _ => ∃ (v : V) (es : List Ent) (t : List Nat), vs = [v, T t] ∧ Dp K H v (dTree es) ∧ TreeOk es ∧ PathT t ∧ ∀ H', Same H H' → Q (landV (landF es t)) H'
theorem ok_landing {f : Addr} {fd : FuncData} (Ev : Env K mg) (F : Fun K "_law_landing" "_law_landing" sLawLanding f fd) : FnOk P w K mg base CX0 1 f fd ["_law_tree", "_law_way"] (spLandH K) := by
  refine F.ok scLawLanding (fun vs H Q E h => ?_) (fun cdv A outer s H vs Q E hr h => ?_)
  · obtain ⟨v, es, t, rfl, _⟩ := h; rfl
  · obtain ⟨v, es, t, rfl, hv, tk, pt, q⟩ := h
    refine ⟨_, (pss_cons (ps_set (i := 2) scLawLanding.nd rfl (.inl rfl) pe_str)
      (pss_cons (ps_set (i := 3) scLawLanding.nd rfl (.inl rfl) (pe_split (pv 1) pe_str))
      (pss_cons (ps_set (i := 4) scLawLanding.nd rfl (.inl rfl) pe_int)
      (pss_cons (ps_while PassesOwn.never (pt_truth (pv 3) (by intro _; rfl))
        (pss_cons (ps_set (i := 5) scLawLanding.nd rfl (.inl rfl) (pe_bm PySem.F.plainAttrs_list PySem.F.slot_list_pop PySem.F.type_list_pop mt_popAt (pv 3) (pa_cons pe_int pa_nil)))
        (pss_cons (ps_if (pt_cmpR op_eq (pv 5) pe_str (nomark _))
          (pss_cons (ps_if (pt_cmpR op_eq (pv 2) pe_str (nomark _))
            (pss_one (ps_ret pe_str))
            pss_nil)
          (pss_cons (ps_set (i := 2) scLawLanding.nd rfl (.inl rfl) (pe_join pe_str (pe_slice sl_list (pe_split (pv 2) pe_str) po_none (po_some (pe_un un_neg pe_int)))))
          (pss_one (ps_continue))))
          pss_nil)
        (pss_cons (ps_set (i := 6) scLawLanding.nd rfl (.inr rfl) (pv 5))
        (pss_cons (ps_if (pt_cmpR op_ne (pv 2) pe_str (nomark _))
          (pss_one (ps_set (i := 6) scLawLanding.nd rfl (.inr rfl) (pe_op op_add_str (pe_op op_add_str (pv 2) pe_str) (pv 5))))
          pss_nil)
        (pss_cons (ps_setLc (i := 7) (own := [("_law_entry", 8)]) (g := gName 8) (by rfl) scLawLanding.nd rfl rfl (sw_true rfl rfl rfl (by decide +kernel)) (pi_tup (pv 0)) (blkOk_by (own := [("_law_entry", 8)]) (N := nLawLanding) (sc := defScope sLawLanding) (by decide +kernel)) (fun _ _ _ _ _ => (pg_name (i := 8) scLawLanding.nd rfl (.inl rfl))) (fun _ _ _ _ _ => pts_one (pt_cmpR op_eq (pe_ix (ix_tupq (K := K) rfl) (pv 8) pe_int (fun _ _ => rfl)) (pv 6) (nomark _))) (fun _ _ _ _ _ => (pv 8)))
        (pss_cons (ps_if (pt_not (pt_truth (pv 7) (by intro _; rfl)))
          (pss_one (ps_ret pe_str))
          pss_nil)
        (pss_one (ps_if (pt_cmpR op_eq (pe_ix ix_tup (pe_ix ix_list (pv 7) pe_int (fun _ _ => rfl)) pe_int (fun _ _ => rfl)) pe_str (nomark _))
          (pss_cons (ps_set (i := 4) scLawLanding.nd rfl (.inl rfl) (pe_op op_add (pv 4) pe_int))
          (pss_cons (ps_if (pt_cmpR op_eq (pv 4) pe_int (nomark _))
            (pss_one (ps_ret pe_str))
            pss_nil)
          (pss_one (ps_set (i := 3) scLawLanding.nd rfl (.inl rfl) (pe_op op_cat (pe_split (pe_ix ix_tup (pe_ix ix_list (pv 7) pe_int (fun _ _ => rfl)) pe_int (fun _ _ => rfl)) pe_str) (pv 3))))))
          (pss_one (ps_if (PW.pt (pw_and (pt_cmpR op_eq (pe_ix ix_tup (pe_ix ix_list (pv 7) pe_int (fun _ _ => rfl)) pe_int (fun _ _ => rfl)) pe_str (nomark _)) (pw_and1 (pt_truth (pv 3) (by intro _; rfl)))))
            (pss_one (ps_ret pe_str))
            (pss_one (ps_set (i := 2) scLawLanding.nd rfl (.inl rfl) (pv 6))))))))))))))
      (pss_one (ps_ret (pv 2))))))), ?_⟩
    have l1 : (Str.ofString "/").length = 1 := by decide +kernel
    have tl := pt.len
    have l8 := pt.2.1
    have size : ∀ n : Nat, n ≤ 10000 → n ≤ sizeLine := fun n h => by rw [sizeLine_eq]; omega
    have nd : Nod es := tk.nod
    obtain ⟨tv, xs, rfl, hx, al⟩ := dpTree hv
    have lx : es.length = xs.length := al.length.symm
    have lx100 : xs.length ≤ 100 := by have := tk.few; omega
    refine ⟨_, rfl, ⟨_, rfl⟩, mkS t, Str.ofString "/", rfl, rfl, (by decide +kernel), size _ (by rw [len_mkS]; omega), fun pp npp => ?_⟩
    rw [s_slash, split_mkS 47 (by decide) t, mapT]
    refine ⟨fun m σ H' => ∃ (h r : List (List Nat)) (l : Nat) (pq : Addr) (y5 y6 y7 : Option V), σ = [some (.ref tv), some (T t), some (T (pathOf h)), some (.ref pq), some (.int (l : Int)), y5, y6, y7, none] ∧ m = (20 - l) * 1000 + r.length ∧ Same H H' ∧ H pq = none ∧ H' pq = some (.lst (r.map T)) ∧ landW es l h r = landF es t ∧ (∀ p ∈ h, partOk p) ∧ Way r ∧ l ≤ 20 ∧ h.length + r.length ≤ 8 + 8 * l,
      ⟨_, [], splitC 47 t, 0, pp, none, none, none, ?_, rfl, grow npp, npp, upd_same, rfl, (fun p hp => by cases hp), fun p hp => .inr (pt.2.2 p hp), by decide, by rw [List.length_nil]; omega⟩, fun m σ H1 hW => ?_⟩
    · show [_, _, some (V.str (Str.ofString "")), _, _, _, _, _, _] = _
      rw [t_none]
      rfl
    obtain ⟨h, r, l, pq, y5, y6, y7, rfl, rfl, sm, npq, hpq, eq, hh, wr, ll, lhr⟩ := hW
    have q' : ∀ H', Same H H' → Q (landV (landW es l h r)) H' := fun H' e => by rw [eq]; exact q H' e
    refine ⟨_, rfl, _, .inl ⟨_, SqL.of hpq, rfl⟩, ?_⟩
    have plh : (pathOf h).length ≤ 3000 := by
      have := joinC_len 47 h 12 fun p hp => (hh p hp).2.1
      unfold pathOf
      omega
    cases r with
    | nil =>
      refine iteF ⟨_, rfl, ?_⟩
      have := q' H1 sm
      rw [landW_nil] at this
      exact this
    | cons p r =>
      rw [List.length_cons] at lhr
      refine iteT ⟨_, fun σ' H'' h => h, ?_⟩
      refine ⟨_, rfl, .inl ⟨rfl, _, SqL.of hpq⟩, pq, _, 0, 0, T p, rfl, rfl, hpq, by decide, by decide, by simp [seqIndex?], rfl, ?_⟩
      rw [show ((p :: r).map T).eraseIdx 0 = r.map T from rfl]
      have hp2 : (upd H1 pq (.lst (r.map T))) pq = some (.lst (r.map T)) := upd_same
      have sm2 : Same H (upd H1 pq (.lst (r.map T))) := keep_new sm npq
      have hx2 : SqT K (upd H1 pq (.lst (r.map T))) tv xs := overT (.lst hpq) (keepT sm hx)
      have al2 : Al2 (fun e x => Dp K (upd H1 pq (.lst (r.map T))) x (dEnt e)) es xs := al2_small al fun e x he d => dpOver (.lst hpq) (dEnt_ok ((tk.ok e he).small)).1 (dpKeep sm d)
      generalize upd H1 pq (.lst (r.map T)) = H2 at hp2 sm2 hx2 al2
      have wr2 : Way r := fun x hx => wr x (List.mem_cons_of_mem _ hx)
      refine ⟨_, rfl, rfl, _, rfl, ite2 (fun z => ?_) (fun z => ?_)⟩
      · have ep : p = dots := T_inj ((of_decide_eq_true z).trans t_dots)
        subst ep
        rw [landW_dots] at q' eq
        refine ⟨_, rfl, rfl, _, rfl, ite2 (fun y => ?_) (fun y => ?_)⟩
        · have eh : h = [] := (fold_ne hh).mp (T_inj ((of_decide_eq_true y).trans t_none))
          rw [if_pos eh] at q'
          exact q' H2 sm2
        · have nh : h ≠ [] := fun k => y (decide_eq_true (by rw [k]; exact t_none.symm))
          rw [if_neg nh] at eq
          refine ⟨⟨_, rfl⟩, _, rfl, ⟨_, rfl⟩, mkS (pathOf h), Str.ofString "/", rfl, rfl, (by decide +kernel), size _ (by rw [len_mkS]; omega), fun p2 n2 => ?_⟩
          rw [s_slash, split_mkS 47 (by decide) (pathOf h), mapT, split_parts nh hh]
          refine ⟨1, rfl, _, rfl, p2, _, rfl, SqL.of upd_same, fun p3 n3 => ?_⟩
          rw [cutV_last, ← List.map_dropLast]
          have lh := List.length_pos_iff.mpr nh
          have hd : ∀ p ∈ h.dropLast, partOk p := fun p hp => hh p ((List.dropLast_sublist _).mem hp)
          have szs := sum_sizes (m := 12) h.dropLast fun p hp => (hd p hp).2.1
          have ld := List.length_dropLast (xs := h)
          refine ⟨mkS [47], p3, h.dropLast.map mkS, rfl, rfl, .inl (by rw [mapT]; exact SqL.of upd_same), by rw [len_mkS, List.length_map]; simp only [List.length_cons, List.length_nil]; omega, ?_⟩
          rw [join_mkS]
          have s23 : Same H2 _ := (grow (o := .lst (h.map T)) n2).trans (grow (o := .lst (h.dropLast.map T)) n3)
          exact ⟨(20 - l) * 1000 + r.length, by rw [List.length_cons]; omega, h.dropLast, r, l, pq, _, _, _, rfl, rfl, sm2.trans s23, npq, s23 _ _ hp2, eq, hd, wr2, ll, by omega⟩
      · have np : p ≠ dots := fun k => z (decide_eq_true (by rw [k]; exact t_dots.symm))
        have pok : partOk p := by
          rcases wr p (by simp) with k | k
          · exact absurd k np
          · exact k
        have lp12 := pok.2.1
        refine ⟨_, rfl, ?_⟩
        dsimp only [gName]
        refine seq_by (t := tIfS _ _ _) (fun σ H' => σ = [some (.ref tv), some (T t), some (T (pathOf h)), some (.ref pq), some (.int (l : Int)), some (T p), some (T (pathOf (h ++ [p]))), y7, none] ∧ H' = H2) (fun σ H' pp => ?_) (fun go => ?_)
        · obtain ⟨rfl, rfl⟩ := pp
          refine ⟨_, rfl, tv, rfl, ⟨_, hx2⟩, fun D nD => ?_⟩
          refine lcE_tup (es := es) (xs := xs) (keep := fun e => decide (e.path = pathOf (h ++ [p]))) (G := fun e y H => Dp K H y (dEnt e)) lx nD hx2 (size _ (by omega)) (fun _ => rfl) (fun e y H H' s d => dpKeep s d) (fun e y H ys zs he hD d => dpOver (.lst hD) (dEnt_ok ((tk.ok e he).small)).1 d) (fun i e x H3 R he hx3 s3 r3 => ?_) (fun i e x H3 R he hx3 _ s3 r3 => ⟨_, rfl, r3 _ _ (Same.refl _) (dpKeep s3 (al2.at he hx3))⟩) (fun ys H3 alf s3 h3 => ?_)
          · obtain ⟨u, us, rfl, hu, u0, u1⟩ := dpWord (dpKeep s3 (al2.at he hx3))
            have r' := r3 H3 (Same.refl _)
            rw [← dec_T] at r'
            exact ⟨_, rfl, u, us, 1, _, rfl, rfl, hu, at_ofA (j := 1) rfl u1, _, rfl, rfl, _, rfl, r'⟩
          · rw [filter_at nd] at alf
            have sm3 := sm2.trans s3
            have hp3 := s3 _ _ hp2
            refine ⟨_, rfl, _, .inl ⟨_, SqL.of h3, rfl⟩, ?_⟩
            cases ae : atE es (pathOf (h ++ [p])) with
            | none =>
              rw [ae] at alf
              cases alf
              refine iteT ?_
              rw [landW_none np ae] at q'
              exact q' H3 sm3
            | some e =>
              rw [ae] at alf
              obtain ⟨y, rfl, dy⟩ : ∃ y, ys = [y] ∧ Dp K H3 y (dEnt e) := by
                cases alf with
                | cons d ds => cases ds; exact ⟨_, rfl, d⟩
              refine iteF ?_
              obtain ⟨u, us, rfl, hu, u0, u1, u2⟩ := dpWord3 dy
              refine ⟨_, rfl, D, _, 0, _, rfl, rfl, SqL.of h3, at_ofA (j := 0) rfl rfl, u, us, 0, _, rfl, rfl, hu, at_ofA (j := 0) rfl u0, (by cases e <;> rfl), _, rfl, ?_⟩
              cases e with
              | link lt g =>
                rw [landW_link np ae] at q' eq
                have us2 : us[2]? = some (T g) := u2 _ _ rfl
                have gt : GoalT g := (tk.ok _ (atE_mem ae).1).2
                have lg : g.length ≤ 200 := gt.len
                refine iteW (word_is rfl) ?_
                refine ⟨_, rfl, _, _, rfl, rfl, ?_⟩
                refine ⟨_, rfl, rfl, _, rfl, ite2 (fun y => ?_) (fun y => ?_)⟩
                · have : (l : Int) + 1 = 21 := V.int.inj (of_decide_eq_true y)
                  rw [if_pos (by omega)] at q'
                  exact q' H3 sm3
                · have : ¬ (l : Int) + 1 = 21 := fun k => y (decide_eq_true (congrArg V.int k))
                  have nl : ¬ 20 ≤ l := by omega
                  rw [if_neg nl] at eq
                  refine ⟨_, rfl, D, _, 0, _, rfl, rfl, SqL.of h3, at_ofA (j := 0) rfl rfl, u, us, 2, _, rfl, rfl, hu, at_ofA (j := 2) rfl us2, ⟨_, rfl⟩, mkS g, mkS [47], rfl, rfl, (by decide +kernel), size _ (by rw [len_mkS]; omega), fun p4 n4 => ?_⟩
                  rw [split_mkS 47 (by decide) g, mapT]
                  have lsg := gt.1
                  refine ⟨_, rfl, p4, pq, _, _, rfl, rfl, upd_same, grow n4 _ _ hp3, size _ (by rw [List.length_map, List.length_map]; omega), fun p5 n5 => ?_⟩
                  rw [← List.map_append]
                  have s45 : Same H3 _ := (grow (o := .lst ((splitC 47 g).map T)) n4).trans (grow (o := .lst ((splitC 47 g ++ r).map T)) n5)
                  refine ⟨(20 - (l + 1)) * 1000 + (splitC 47 g ++ r).length, ?_, h, splitC 47 g ++ r, l + 1, p5, _, _, _, rfl, rfl, sm3.trans s45, (sm3.trans (grow n4)).free n5, upd_same, eq, hh, fun x hx => ?_, by omega, ?_⟩
                  · rw [List.length_append, List.length_cons]
                    omega
                  · rcases List.mem_append.mp hx with hx | hx
                    · exact gt.2 x hx
                    · exact wr2 x hx
                  · rw [List.length_append]
                    omega
              | folder ft =>
                rw [landW_folder np ae] at eq
                refine iteNW (word_isnt (by decide +kernel)) ?_
                refine ⟨_, rfl, D, _, 0, _, rfl, rfl, SqL.of h3, at_ofA (j := 0) rfl rfl, u, us, 0, _, rfl, rfl, hu, at_ofA (j := 0) rfl u0, rfl, _, rfl, iteNW (word_isnt (by decide +kernel)) (iteF ?_)⟩
                refine ⟨_, rfl, (20 - l) * 1000 + r.length, by rw [List.length_cons]; omega, h ++ [p], r, l, pq, _, _, _, rfl, rfl, sm3, npq, hp3, eq, fun x hx => ?_, wr2, ll, by rw [List.length_append]; simp only [List.length_cons, List.length_nil]; omega⟩
                rcases List.mem_append.mp hx with hx | hx
                · exact hh x hx
                · rw [List.mem_singleton.mp hx]; exact pok
              | file ft b =>
                rw [landW_file np ae] at q' eq
                refine iteNW (word_isnt (by decide +kernel)) ?_
                refine ⟨_, rfl, D, _, 0, _, rfl, rfl, SqL.of h3, at_ofA (j := 0) rfl rfl, u, us, 0, _, rfl, rfl, hu, at_ofA (j := 0) rfl u0, rfl, _, rfl, iteW (word_is rfl) ?_⟩
                refine ⟨_, rfl, _, .inl ⟨_, SqL.of hp3, rfl⟩, ?_⟩
                cases r with
                | nil =>
                  rw [if_neg (fun k => k rfl)] at eq
                  refine iteF ⟨_, rfl, (20 - l) * 1000 + 0, by simp, h ++ [p], [], l, pq, _, _, _, rfl, rfl, sm3, npq, hp3, by rw [landW_nil]; exact eq, fun x hx => ?_, wr2, ll, by rw [List.length_append]; simp only [List.length_cons, List.length_nil] at lhr ⊢; omega⟩
                  rcases List.mem_append.mp hx with hx | hx
                  · exact hh x hx
                  · rw [List.mem_singleton.mp hx]; exact pok
                | cons x2 r2 =>
                  refine iteT ?_
                  rw [if_pos (by simp)] at q'
                  exact q' H3 sm3
        · refine ⟨_, rfl, rfl, _, rfl, ite2 (fun y => ?_) (fun y => ?_)⟩
          · have nh : h ≠ [] := fun k => by
              have e1 : T (pathOf h) = V.str (Str.ofString "") := by rw [k]; exact t_none.symm
              rw [e1, decide_eq_true rfl] at y
              cases y
            have ew : mkS (pathOf h) ++ mkS [47] ++ mkS p = mkS (pathOf (h ++ [p])) := by rw [mkS_app, mkS_app, pathOf_snoc nh]
            refine ⟨_, rfl, mkS (pathOf h), mkS [47], rfl, rfl, size _ (by rw [len_mkS, len_mkS]; simp only [List.length_cons, List.length_nil]; omega), _, rfl, mkS (pathOf h) ++ mkS [47], mkS p, rfl, rfl, size _ (by rw [mkS_app, len_mkS, len_mkS, List.length_append]; simp only [List.length_cons, List.length_nil]; omega), go _ _ ⟨?_, rfl⟩⟩
            rw [ew]
            rfl
          · have eh : h = [] := (fold_ne hh).mp (by
              cases k : decide (T (pathOf h) = V.str (Str.ofString "")) with
              | true => exact T_inj ((of_decide_eq_true k).trans t_none)
              | false => rw [k] at y; exact absurd rfl y)
            subst eh
            exact go _ _ ⟨rfl, rfl⟩

/-! ### the program's landing -/
def spParts (K : PySem.W.Frag) : Sp := fun vs H Q _ => ∃ t : List Nat, vs = [T t] ∧ t ≠ [] ∧ t.length ≤ 1000 ∧ ∀ p, H p = none → Q (.ref p) (upd H p (.lst ((splitC 47 t).map T)))
theorem ok_parts {f : Addr} {fd : FuncData} (Ev : Env K mg) (F : Fun K "parts_of" "parts_of" sPartsOf f fd) : FnOk P w K mg base CX0 1 f fd ["path"] (spParts K) := by
  refine F.ok scPartsOf (fun vs H Q E h => ?_) (fun cdv A outer s H vs Q E hr h => ?_)
  · obtain ⟨t, rfl, _⟩ := h; rfl
  · obtain ⟨t, rfl, nt, lt, q⟩ := h
    refine ⟨_, (pss_cons (ps_if (pt_cmpR op_eq (pv 0) pe_str (nomark _))
        (pss_one (ps_ret (pe_lst pa_nil)))
        pss_nil)
      (pss_one (ps_ret (pe_split (pv 0) pe_str)))), ?_⟩
    refine ⟨_, rfl, rfl, _, rfl, ite2 (fun z => ?_) (fun z => ?_)⟩
    · exact absurd (T_inj ((of_decide_eq_true z).trans t_none)) nt
    · refine ⟨_, rfl, ⟨_, rfl⟩, mkS t, Str.ofString "/", rfl, rfl, (by decide +kernel), (by rw [len_mkS, sizeLine_eq]; omega), fun p np => ?_⟩
      rw [s_slash, split_mkS 47 (by decide) t, mapT]
      exact q p np
def spBy (K : PySem.W.Frag) : Sp := fun vs H Q _ => ∃ (v : V) (es : List Ent), vs = [v] ∧ Dp K H v (dTree es) ∧ Nod es ∧ SmallE es ∧ es.length ≤ 1000 ∧ ∀ H' D kvs, Same H H' → H D = none → H' D = some (.dK kvs) → OnE K H' es kvs → Q (.ref D) H'
theorem ok_by {f : Addr} {fd : FuncData} (Ev : Env K mg) (F : Fun K "by_path" "by_path" sByPath f fd) : FnOk P w K mg base CX0 1 f fd ["tree"] (spBy K) := by
  refine F.ok scByPath (fun vs H Q E h => ?_) (fun cdv A outer s H vs Q E hr h => ?_)
  · obtain ⟨v, es, rfl, _⟩ := h; rfl
  · obtain ⟨v, es, rfl, hv, nd, sml, few, q⟩ := h
    refine ⟨_, (pss_one (ps_ret (pe_dc (own := [("entry", 1)]) (g := gName 1) (tt := tYes) (by rfl) scByPath.nd (pi_tup (pv 0)) (blkOk_by (own := [("entry", 1)]) (N := nByPath) (sc := defScope sByPath) (by decide +kernel)) (fun _ _ _ _ _ => (pg_name (i := 1) scByPath.nd rfl (.inl rfl))) (fun _ _ _ _ _ => pts_nil) (fun _ _ _ _ _ => (pe_ix (ix_tupq (K := K) rfl) (pv 1) pe_int (fun _ _ => rfl))) (fun _ _ _ _ _ => (pv 1))))), ?_⟩
    obtain ⟨tv, xs, rfl, hx, al⟩ := dpTree hv
    have lx : xs.length = es.length := al.length
    refine ⟨_, rfl, tv, rfl, ⟨_, hx⟩, fun D nD => ?_⟩
    refine dc_tup (xs := xs) (fun i H' => Same H H' ∧ ∃ kvs, H' D = some (.dK kvs) ∧ OnE K H' (es.take i) kvs) ⟨grow nD, [], upd_same, .nil⟩ (fun i H' _ p => keepT p.1 hx) (fun i x H' hxi p => ?_) (fun H' p => ?_)
    · obtain ⟨sm, kvs, hD, on⟩ := p
      have li : i < es.length := by
        have := (List.getElem?_eq_some_iff.mp hxi).1
        omega
      have gi : es[i]? = some es[i] := List.getElem?_eq_getElem li
      obtain ⟨e, ee⟩ : ∃ e, e = es[i] := ⟨_, rfl⟩
      rw [← ee] at gi
      have me : e ∈ es := List.mem_of_getElem? gi
      have dx := dpKeep sm (al.at gi hxi)
      obtain ⟨u, us, rfl, hu, u0, u1⟩ := dpWord dx
      refine ⟨rfl, ?_⟩
      unfold tYes
      dsimp only
      rw [if_pos rfl]
      refine ⟨_, rfl, u, us, 1, _, rfl, rfl, hu, at_ofA (j := 1) rfl u1, _, rfl, kvs, kT e.path, rfl, hD, ?_, keep_new sm nD, _, upd_same, ?_⟩
      · rw [on.length, List.length_take, sizeLine_eq]
        omega
      · have wD : Wr H' D := .dK hD
        have sT : SmallE (es.take i) := fun x hx => sml x (List.mem_of_mem_take hx)
        have r := onE_put (e := e) (v := .ref u) (onE_over (o := .dK (putK kvs (kT e.path) (.ref u))) wD sT on) (dpOver wD (dEnt_ok (sml e me)).1 dx)
        have nw : putE (es.take i) e = es.take (i + 1) := by
          rw [putE_new, List.take_add_one, gi]
          · rfl
          · intro x hx k
            have h2 := nd
            rw [Nod, ← List.take_append_drop (i + 1) es, List.take_add_one, gi, List.map_append, List.map_append, List.nodup_append] at h2
            have h3 := h2.1
            rw [List.nodup_append] at h3
            exact h3.2.2 x.path (List.mem_map.mpr ⟨x, hx, rfl⟩) e.path (by simp) k
        rw [nw] at r
        exact r
    · obtain ⟨sm, kvs, hD, on⟩ := p
      rw [lx, List.take_length] at on
      exact q _ _ _ sm nD hD on
def spUpF (K : PySem.W.Frag) (cL : Addr) : Sp := fun vs H Q E => ∃ (p : Addr) (h : List (List Nat)), vs = [.ref p] ∧ SqL K H p (h.map T) ∧ (h = [] → E (.ref cL) none H) ∧ (h ≠ [] → ∀ q, H q = none → Q (.ref q) (upd H q (.lst (h.dropLast.map T))))
theorem ok_upF {f : Addr} {fd : FuncData} (Ev : Env K mg) (Ex : Excs K mg e_LeadsOut e_NoEntry e_NotFolder e_TooFar) (F : Fun K "folder_above" "folder_above" sFolderAbove f fd) : FnOk P w K mg base (L2.CX P w) 1 f fd ["parts"] (spUpF K e_LeadsOut) := by
  refine F.okX scFolderAbove (fun vs H Q E h => ?_) (fun cdv A outer s H vs Q E hr h => ?_)
  · obtain ⟨p, h, rfl, _⟩ := h; rfl
  · obtain ⟨p, h, rfl, hp, he, hq⟩ := h
    refine ⟨_, (pss_cons (ps_if (pt_not (pt_truth (pv 0) (by intro _; rfl)))
        (pss_one (ps_raiseC (W := fun cls d _ H => E cls d H) rfl (takes_of rfl rfl rfl rfl) Ex.LeadsOut))
        pss_nil)
      (pss_one (ps_ret (pe_slice sl_list (pv 0) po_none (po_some (pe_un un_neg pe_int)))))), ?_⟩
    refine ⟨_, rfl, _, .inl ⟨_, hp, rfl⟩, ?_⟩
    cases h with
    | nil => exact iteT (he rfl)
    | cons x r =>
      refine iteF ⟨_, rfl, 1, rfl, _, rfl, p, _, rfl, hp, fun q nq => ?_⟩
      rw [cutV_last, ← List.map_dropLast]
      exact hq (by simp) q nq
def spAt (K : PySem.W.Frag) (cN : Addr) : Sp := fun vs H Q E => ∃ (D p : Addr) (kvs : List (Key × V)) (es : List Ent) (h : List (List Nat)), vs = [.ref D, .ref p] ∧ H D = some (.dK kvs) ∧ OnE K H es kvs ∧ SqL K H p (h.map T) ∧ h.length ≤ 1000 ∧ (∀ x ∈ h, x.length ≤ 1000) ∧ (atE es (pathOf h) = none → E (.ref cN) none H) ∧ (∀ e v, atE es (pathOf h) = some e → Dp K H v (dEnt e) → Q v H)
theorem ok_at {f : Addr} {fd : FuncData} (Ev : Env K mg) (Ex : Excs K mg e_LeadsOut e_NoEntry e_NotFolder e_TooFar) (F : Fun K "entry_at" "entry_at" sEntryAt f fd) : FnOk P w K mg base (L2.CX P w) 1 f fd ["found", "parts"] (spAt K e_NoEntry) := by
  refine F.okX scEntryAt (fun vs H Q E h => ?_) (fun cdv A outer s H vs Q E hr h => ?_)
  · obtain ⟨D, p, kvs, es, h, rfl, _⟩ := h; rfl
  · obtain ⟨D, p, kvs, es, h, rfl, hD, on, hp, lh, sz, he, hq⟩ := h
    refine ⟨_, (pss_cons (ps_set (i := 2) scEntryAt.nd rfl (.inl rfl) (pe_join pe_str (pv 1)))
      (pss_cons (ps_if (pt_cmp (pc_dnotin (hu1 hr) (pv 2) (pv 0)))
        (pss_one (ps_raiseC (W := fun cls d _ H => E cls d H) rfl (takes_of rfl rfl rfl rfl) Ex.NoEntry))
        pss_nil)
      (pss_one (ps_ret (pe_dget (hu1 hr) (pv 0) (pv 2) (fun _ _ => rfl)))))), ?_⟩
    have l1 : (Str.ofString "/").length = 1 := by decide +kernel
    have szs := sum_sizes (m := 1000) h sz
    refine ⟨⟨_, rfl⟩, _, rfl, Str.ofString "/", p, h.map mkS, rfl, rfl, .inl (by rw [mapT]; exact hp), by rw [l1, List.length_map]; omega, ?_⟩
    rw [s_slash, join_mkS]
    rcases onE_get (joinC 47 h) on with ⟨a0, v0⟩ | ⟨e, v, ae, ve, de⟩
    · refine ⟨_, rfl, _, rfl, D, _, rfl, .inl ⟨kvs, kT (joinC 47 h), .inl hD, rfl, v0.symm⟩, true, rfl, iteT (he a0)⟩
    · refine ⟨_, rfl, _, rfl, D, _, rfl, .inl ⟨kvs, kT (joinC 47 h), .inl hD, rfl, ve.symm⟩, false, rfl, iteF ?_⟩
      exact ⟨_, rfl, _, rfl, D, _, rfl, .inl ⟨kvs, kT (joinC 47 h), .inl hD, rfl, ve.symm⟩, hq e v ae de⟩

def OutL (cL cE cF cT : Addr) (H : Hp) (Q : VK) (E : XK) : LRes → Prop
  | .out => ∀ H', Same H H' → E (.ref cL) none H'
  | .noEntry => ∀ H', Same H H' → E (.ref cE) none H'
  | .notFolder => ∀ H', Same H H' → E (.ref cF) none H'
  | .tooFar => ∀ H', Same H H' → E (.ref cT) none H'
  | .ok z => ∀ H', Same H H' → Q (T (pathOf z)) H'
def spLand (K : PySem.W.Frag) (cL cE cF cT : Addr) : Sp := fun vs H Q E => ∃ (v : V) (es : List Ent) (t : List Nat), vs = [v, T t] ∧ Dp K H v (dTree es) ∧ TreeOk es ∧ PathT t ∧ OutL cL cE cF cT H Q E (landF es t)
theorem goal_ne {g : List Nat} (h : GoalT g) : g ≠ [] := fun e => by
  have := h.2 [] (by rw [e]; simp [splitC])
  rcases this with k | k
  · cases k
  · exact absurd k.1 (by decide)
theorem pathT_ne {t : List Nat} (h : PathT t) : t ≠ [] := fun e => by
  have := h.2.2 [] (by rw [e]; simp [splitC])
  exact absurd this.1 (by decide)
theorem ok_land {f : Addr} {fd : FuncData} (Ev : Env K mg) (Ex : Excs K mg e_LeadsOut e_NoEntry e_NotFolder e_TooFar) (CByPath : Cal P w K mg base "by_path" 1 ["tree"] (spBy K)) (CPartsOf : Cal P w K mg base "parts_of" 1 ["path"] (spParts K)) (CFolderAbove : CalX P w K mg base "folder_above" 1 ["parts"] (spUpF K e_LeadsOut)) (CEntryAt : CalX P w K mg base "entry_at" 1 ["found", "parts"] (spAt K e_NoEntry))
    (F : Fun K "landing" "landing" sLanding f fd) : FnOk P w K mg base (L2.CX P w) 2 f fd ["tree", "path"] (spLand K e_LeadsOut e_NoEntry e_NotFolder e_TooFar) := by
  refine F.okX scLanding (fun vs H Q E h => ?_) (fun cdv A outer s H vs Q E hr h => ?_)
  · obtain ⟨v, es, t, rfl, _⟩ := h; rfl
  · obtain ⟨v, es, t, rfl, hv, tk, pt, out⟩ := h
    refine ⟨_, (pss_cons (ps_set (i := 2) scLanding.nd rfl (.inl rfl) (pe_c CByPath (hr.mono (by omega)) (pa_cons (pv 0) pa_nil)))
      (pss_cons (ps_set (i := 3) scLanding.nd rfl (.inl rfl) (pe_lst pa_nil))
      (pss_cons (ps_set (i := 4) scLanding.nd rfl (.inl rfl) (pe_c CPartsOf (hr.mono (by omega)) (pa_cons (pv 1) pa_nil)))
      (pss_cons (ps_set (i := 5) scLanding.nd rfl (.inl rfl) pe_int)
      (pss_cons (ps_while (passes_of rfl) (pt_truth (pv 4) (by intro _; rfl))
        (pss_cons (ps_set (i := 6) scLanding.nd rfl (.inl rfl) (pe_ix ix_list (pv 4) pe_int (fun _ _ => rfl)))
        (pss_cons (ps_set (i := 4) scLanding.nd rfl (.inl rfl) (pe_slice sl_list (pv 4) (po_some pe_int) po_none))
        (pss_cons (ps_if (pt_cmpR op_eq (pv 6) pe_str (nomark _))
          (pss_cons (ps_set (i := 3) scLanding.nd rfl (.inl rfl) (pe_cx (E := E) CFolderAbove (hr.mono (by omega)) (takes_of rfl rfl rfl rfl) (pa_cons (pv 3) pa_nil)))
          (pss_one (ps_continue)))
          pss_nil)
        (pss_cons (ps_set (i := 7) scLanding.nd rfl (.inl rfl) (pe_cx (E := E) CEntryAt (hr.mono (by omega)) (takes_of rfl rfl rfl rfl) (pa_cons (pv 2) (pa_cons (pe_op op_cat (pv 3) (pe_lst (pa_cons (pv 6) pa_nil))) pa_nil))))
        (pss_cons (ps_if (pt_cmpR op_eq (pe_ix ix_tup (pv 7) pe_int (fun _ _ => rfl)) pe_str (nomark _))
          (pss_cons (ps_aug (i := 5) scLanding.nd rfl (.inl rfl) pe_int ip_add)
          (pss_cons (ps_if (pt_cmpR op_gt (pv 5) (pe_globI (by rfl) Ev.g_MOST_LINKS) (nomark _))
            (pss_one (ps_raiseC (W := fun cls d _ H => E cls d H) rfl (takes_of rfl rfl rfl rfl) Ex.TooFar))
            pss_nil)
          (pss_cons (ps_set (i := 4) scLanding.nd rfl (.inl rfl) (pe_op op_cat (pe_c CPartsOf (hr.mono (by omega)) (pa_cons (pe_ix ix_tup (pv 7) pe_int (fun _ _ => rfl)) pa_nil)) (pv 4)))
          (pss_one (ps_continue)))))
          pss_nil)
        (pss_cons (ps_if (PW.pt (pw_and (pt_cmpR op_eq (pe_ix ix_tup (pv 7) pe_int (fun _ _ => rfl)) pe_str (nomark _)) (pw_and1 (pt_truth (pv 4) (by intro _; rfl)))))
          (pss_one (ps_raiseC (W := fun cls d _ H => E cls d H) rfl (takes_of rfl rfl rfl rfl) Ex.NotFolder))
          pss_nil)
        (pss_one (ps_set (i := 3) scLanding.nd rfl (.inl rfl) (pe_op op_cat (pv 3) (pe_lst (pa_cons (pv 6) pa_nil))))))))))))
      (pss_one (ps_ret (pe_join pe_str (pv 3))))))))), ?_⟩
    have l1 : (Str.ofString "/").length = 1 := by decide +kernel
    have tl := pt.len
    have l8 := pt.2.1
    have size : ∀ n : Nat, n ≤ 10000 → n ≤ sizeLine := fun n h => by rw [sizeLine_eq]; omega
    have one : (1 : Nat) ≤ sizeLine := size 1 (by decide)
    have nd : Nod es := tk.nod
    have sml : SmallE es := fun e he => (tk.ok e he).small
    refine ⟨_, rfl, v, es, rfl, hv, nd, sml, by have := tk.few; omega, fun H1 D kvs s1 nD hD on => ?_⟩
    refine ⟨Nat.zero_le _, fun ph nph => ?_⟩
    have s2 : Same H1 (upd H1 ph (.lst [])) := grow nph
    refine ⟨_, rfl, t, rfl, pathT_ne pt, by omega, fun pp npp => ?_⟩
    have s3 : Same (upd H1 ph (.lst [])) (upd (upd H1 ph (.lst [])) pp (.lst ((splitC 47 t).map T))) := grow npp
    refine ⟨fun m σ H' => ∃ (h r : List (List Nat)) (l : Nat) (ph pq : Addr) (y6 y7 : Option V), σ = [some v, some (T t), some (.ref D), some (.ref ph), some (.ref pq), some (.int (l : Int)), y6, y7] ∧ m = (20 - l) * 1000 + r.length ∧ Same H1 H' ∧ H' ph = some (.lst (h.map T)) ∧ H' pq = some (.lst (r.map T)) ∧ landW es l h r = landF es t ∧ (∀ p ∈ h, partOk p) ∧ Way r ∧ l ≤ 20 ∧ h.length + r.length ≤ 8 + 8 * l,
      ⟨_, [], splitC 47 t, 0, ph, pp, none, none, rfl, rfl, s2.trans s3, s3 _ _ upd_same, upd_same, rfl, (fun p hp => by cases hp), fun p hp => .inr (pt.2.2 p hp), by decide, by rw [List.length_nil]; omega⟩, fun m σ H2 hW => ?_⟩
    obtain ⟨h, r, l, ph, pq, y6, y7, rfl, rfl, sm, hph, hpq, eq, hh, wr, ll, lhr⟩ := hW
    rw [← eq] at out
    have sH : Same H H2 := s1.trans sm
    have hD2 := sm _ _ hD
    have on2 := onE_keep sm on
    refine ⟨_, rfl, _, .inl ⟨_, SqL.of hpq, rfl⟩, ?_⟩
    cases r with
    | nil =>
      refine iteF ?_
      rw [landW_nil] at out
      have szs := sum_sizes (m := 12) h fun p hp => (hh p hp).2.1
      refine ⟨⟨_, rfl⟩, _, rfl, Str.ofString "/", ph, h.map mkS, rfl, rfl, .inl (by rw [mapT]; exact SqL.of hph), by rw [l1, List.length_map]; omega, ?_⟩
      rw [s_slash, join_mkS]
      exact out _ sH
    | cons p r =>
      rw [List.length_cons] at lhr
      refine iteT ⟨_, fun σ' H'' h => h, ?_⟩
      have wr2 : Way r := fun x hx => wr x (List.mem_cons_of_mem _ hx)
      refine ⟨_, rfl, pq, _, 0, _, rfl, rfl, SqL.of hpq, at_ofA (j := 0) rfl rfl, ?_⟩
      refine ⟨_, rfl, 1, rfl, pq, _, rfl, SqL.of hpq, fun p3 n3 => ?_⟩
      rw [show cutV ((p :: r).map T) (some 1) none = r.map T from cutV_from _ 1]
      have s3 : Same H2 (upd H2 p3 (.lst (r.map T))) := grow n3
      have h3 : (upd H2 p3 (.lst (r.map T))) p3 = some (.lst (r.map T)) := upd_same
      have ph3 := s3 _ _ hph
      have hD3 := s3 _ _ hD2
      have on3 := onE_keep s3 on2
      have sm3 := sm.trans s3
      have sH3 := sH.trans s3
      generalize upd H2 p3 (.lst (r.map T)) = H3 at s3 h3 ph3 hD3 on3 sm3 sH3
      refine ⟨_, rfl, rfl, _, rfl, ite2 (fun z => ?_) (fun z => ?_)⟩
      · have ep : p = dots := T_inj ((of_decide_eq_true z).trans t_dots)
        subst ep
        rw [landW_dots] at out eq
        refine ⟨_, rfl, ph, h, rfl, SqL.of ph3, fun eh => ?_, fun nh p4 n4 => ?_⟩
        · rw [if_pos eh] at out
          exact out _ sH3
        · rw [if_neg nh] at eq
          have s4 : Same H3 (upd H3 p4 (.lst (h.dropLast.map T))) := grow n4
          have hd : ∀ p ∈ h.dropLast, partOk p := fun p hp => hh p ((List.dropLast_sublist _).mem hp)
          have lh := List.length_pos_iff.mpr nh
          have ld := List.length_dropLast (xs := h)
          exact ⟨(20 - l) * 1000 + r.length, by rw [List.length_cons]; omega, h.dropLast, r, l, p4, p3, _, _, rfl, rfl, sm3.trans s4, upd_same, s4 _ _ h3, eq, hd, wr2, ll, by omega⟩
      · have np : p ≠ dots := fun k => z (decide_eq_true (by rw [k]; exact t_dots.symm))
        have pok : partOk p := by
          rcases wr p (by simp) with k | k
          · exact absurd k np
          · exact k
        have hh2 : ∀ x ∈ h ++ [p], partOk x := fun x hx => by
          rcases List.mem_append.mp hx with hx | hx
          · exact hh x hx
          · rw [List.mem_singleton.mp hx]; exact pok
        refine ⟨_, rfl, _, rfl, _, rfl, one, fun p4 n4 => ?_⟩
        have s4 : Same H3 (upd H3 p4 (.lst [T p])) := grow n4
        refine ⟨ph, p4, _, _, rfl, rfl, s4 _ _ ph3, upd_same, size _ (by rw [List.length_map]; simp only [List.length_cons, List.length_nil]; omega), fun p5 n5 => ?_⟩
        rw [show h.map T ++ [T p] = (h ++ [p]).map T by rw [List.map_append]; rfl]
        have s5 : Same H3 (upd (upd H3 p4 (.lst [T p])) p5 (.lst ((h ++ [p]).map T))) := s4.trans (grow n5)
        have h5 : (upd (upd H3 p4 (.lst [T p])) p5 (.lst ((h ++ [p]).map T))) p5 = some (.lst ((h ++ [p]).map T)) := upd_same
        generalize upd (upd H3 p4 (.lst [T p])) p5 (.lst ((h ++ [p]).map T)) = H5 at s5 h5
        have sm5 := sm3.trans s5
        have sH5 := sH3.trans s5
        have h35 := s5 _ _ h3
        have ph5 := s5 _ _ ph3
        refine ⟨D, p5, kvs, es, h ++ [p], rfl, s5 _ _ hD3, onE_keep s5 on3, SqL.of h5, by rw [List.length_append]; simp only [List.length_cons, List.length_nil]; omega, fun x hx => by have := (hh2 x hx).2.1; omega, fun ae => ?_, fun e v ae dv => ?_⟩
        · rw [landW_none np ae] at out
          exact out _ sH5
        obtain ⟨u, us, rfl, hu, u0, u1, u2⟩ := dpWord3 dv
        refine ⟨_, rfl, u, us, 0, _, rfl, rfl, hu, at_ofA (j := 0) rfl u0, (by cases e <;> rfl), _, rfl, ?_⟩
        cases e with
        | link lt g =>
          rw [landW_link np ae] at out eq
          have us2 : us[2]? = some (T g) := u2 _ _ rfl
          have gt : GoalT g := (tk.ok _ (atE_mem ae).1).2
          have lg : g.length ≤ 200 := gt.len
          refine iteW (word_is rfl) ?_
          refine ⟨_, rfl, _, _, rfl, rfl, ?_⟩
          refine ⟨_, rfl, _, _, rfl, rfl, _, rfl, ite2 (fun y => ?_) (fun y => ?_)⟩
          · have y' : (20 : Int) < (l : Int) + 1 := of_decide_eq_true y
            rw [if_pos (by omega)] at out
            exact out _ sH5
          · have y' : ¬ (20 : Int) < (l : Int) + 1 := fun k => y (decide_eq_true k)
            have nl : ¬ 20 ≤ l := by omega
            rw [if_neg nl] at eq
            refine ⟨_, rfl, u, us, 2, _, rfl, rfl, hu, at_ofA (j := 2) rfl us2, g, rfl, goal_ne gt, by omega, fun p6 n6 => ?_⟩
            have lsg := gt.1
            refine ⟨_, rfl, p6, p3, _, _, rfl, rfl, upd_same, grow n6 _ _ h35, size _ (by rw [List.length_map, List.length_map]; omega), fun p7 n7 => ?_⟩
            rw [← List.map_append]
            have s67 : Same H5 _ := (grow (o := .lst ((splitC 47 g).map T)) n6).trans (grow (o := .lst ((splitC 47 g ++ r).map T)) n7)
            refine ⟨(20 - (l + 1)) * 1000 + (splitC 47 g ++ r).length, ?_, h, splitC 47 g ++ r, l + 1, ph, p7, _, _, rfl, rfl, sm5.trans s67, s67 _ _ ph5, upd_same, eq, hh, fun x hx => ?_, by omega, ?_⟩
            · rw [List.length_append, List.length_cons]
              omega
            · rcases List.mem_append.mp hx with hx | hx
              · exact gt.2 x hx
              · exact wr2 x hx
            · rw [List.length_append]
              omega
        | folder ft =>
          rw [landW_folder np ae] at eq
          refine iteNW (word_isnt (by decide +kernel)) ?_
          refine ⟨_, rfl, u, us, 0, _, rfl, rfl, hu, at_ofA (j := 0) rfl u0, rfl, _, rfl, iteNW (word_isnt (by decide +kernel)) (iteF ?_)⟩
          refine ⟨_, rfl, _, rfl, one, fun p6 n6 => ?_⟩
          have s6 : Same H5 (upd H5 p6 (.lst [T p])) := grow n6
          refine ⟨ph, p6, _, _, rfl, rfl, s6 _ _ ph5, upd_same, size _ (by rw [List.length_map]; simp only [List.length_cons, List.length_nil]; omega), fun p7 n7 => ?_⟩
          rw [show h.map T ++ [T p] = (h ++ [p]).map T by rw [List.map_append]; rfl]
          have s7 : Same H5 _ := s6.trans (grow (o := .lst ((h ++ [p]).map T)) n7)
          exact ⟨(20 - l) * 1000 + r.length, by rw [List.length_cons]; omega, h ++ [p], r, l, p7, p3, _, _, rfl, rfl, sm5.trans s7, upd_same, s7 _ _ h35, eq, hh2, wr2, ll, by rw [List.length_append]; simp only [List.length_cons, List.length_nil]; omega⟩
        | file ft b =>
          rw [landW_file np ae] at out eq
          refine iteNW (word_isnt (by decide +kernel)) ?_
          refine ⟨_, rfl, u, us, 0, _, rfl, rfl, hu, at_ofA (j := 0) rfl u0, rfl, _, rfl, iteW (word_is rfl) ?_⟩
          refine ⟨_, rfl, _, .inl ⟨_, SqL.of h35, rfl⟩, ?_⟩
          cases r with
          | cons x2 r2 =>
            refine iteT ?_
            rw [if_pos (by simp)] at out
            exact out _ sH5
          | nil =>
            rw [if_neg (fun k => k rfl)] at eq
            refine iteF ⟨_, rfl, _, rfl, one, fun p6 n6 => ?_⟩
            have s6 : Same H5 (upd H5 p6 (.lst [T p])) := grow n6
            refine ⟨ph, p6, _, _, rfl, rfl, s6 _ _ ph5, upd_same, size _ (by rw [List.length_map]; simp only [List.length_cons, List.length_nil]; omega), fun p7 n7 => ?_⟩
            rw [show h.map T ++ [T p] = (h ++ [p]).map T by rw [List.map_append]; rfl]
            have s7 : Same H5 _ := s6.trans (grow (o := .lst ((h ++ [p]).map T)) n7)
            exact ⟨(20 - l) * 1000 + 0, by simp, h ++ [p], [], l, p7, p3, _, _, rfl, rfl, sm5.trans s7, upd_same, s7 _ _ h35, by rw [landW_nil]; exact eq, hh2, wr2, ll, by rw [List.length_append]; simp only [List.length_cons, List.length_nil] at lhr ⊢; omega⟩

/-! ### the program's ways out -/
def spLeads (K : PySem.W.Frag) : Sp := fun vs H Q _ => ∃ (v : V) (es : List Ent) (t : List Nat), vs = [v, T t] ∧ Dp K H v (dTree es) ∧ TreeOk es ∧ PathT t ∧ ∀ H', Same H H' → Q (.bl (landF es t).isOut) H'
theorem ok_leads {f : Addr} {fd : FuncData} (Ev : Env K mg) (Ex : Excs K mg e_LeadsOut e_NoEntry e_NotFolder e_TooFar) (CLanding : CalX P w K mg base "landing" 2 ["tree", "path"] (spLand K e_LeadsOut e_NoEntry e_NotFolder e_TooFar)) (F : Fun K "leads_out" "leads_out" sLeadsOut f fd) : FnOk P w K mg base CX0 3 f fd ["tree", "path"] (spLeads K) := by
  refine F.ok scLeadsOut (fun vs H Q E h => ?_) (fun cdv A outer s H vs Q E hr h => ?_)
  · obtain ⟨v, es, t, rfl, _⟩ := h; rfl
  · obtain ⟨v, es, t, rfl, hv, tk, pt, q⟩ := h
    refine ⟨_, (pss_cons (ps_tryR (tb := fun W => tDrop (tCallS (spLand K e_LeadsOut e_NoEntry e_NotFolder e_TooFar) (WE W) (tCons (tVar 0) (tCons (tVar 1) tNil))))
          (l := [([.ref e_LeadsOut], tRet (tC (.bl true))), ([.ref e_NoEntry, .ref e_NotFolder, .ref e_TooFar], tRet (tC (.bl false)))]) rfl rfl
          (fun W pn xe tk _ => pss_one (ps_expr (by exact (pe_cs CLanding (hr.mono (by omega)) tk (by exact (pa_cons (pv 0) (pa_cons (pv 1) pa_nil)))))))
          (.cons (test_nameC ⟨rfl, by decide, .inl Ex.LeadsOut.g⟩) (fun a oe pn => pss_one (ps_ret pe_bl))
            (.cons (test_tup3C ⟨rfl, by decide, .inl Ex.NoEntry.g⟩ ⟨rfl, by decide, .inl Ex.NotFolder.g⟩ ⟨rfl, by decide, .inl Ex.TooFar.g⟩) (fun a oe pn => pss_one (ps_ret pe_bl)) .nil)))
      (pss_one (ps_ret pe_bl))), ?_⟩
    have any1 : ∀ {cls : Value} {b : Bool}, PySem.W.exmOne K cls (.ref e_LeadsOut) = some b → PySem.W.exmAny K cls [.ref e_LeadsOut] = some b := fun {cls b} h => by
      unfold PySem.W.exmAny
      rw [h]
      show some (b || false) = some b
      rw [Bool.or_false]
    have any3 : ∀ {cls : Value} {b1 b2 b3 : Bool}, PySem.W.exmOne K cls (.ref e_NoEntry) = some b1 → PySem.W.exmOne K cls (.ref e_NotFolder) = some b2 → PySem.W.exmOne K cls (.ref e_TooFar) = some b3 → PySem.W.exmAny K cls [.ref e_NoEntry, .ref e_NotFolder, .ref e_TooFar] = some (b1 || (b2 || (b3 || false))) := fun {cls b1 b2 b3} h1 h2 h3 => by
      simp only [PySem.W.exmAny, h1, h2, h3]
    refine ⟨_, rfl, _, rfl, v, es, t, rfl, hv, tk, pt, ?_⟩
    cases e : landF es t with
    | out =>
      rw [e] at q
      exact fun H' sm => ⟨true, any1 Ex.p_LeadsOut_LeadsOut, fun _ => q _ sm, fun z => nomatch z⟩
    | noEntry =>
      rw [e] at q
      exact fun H' sm => ⟨false, any1 Ex.p_NoEntry_LeadsOut, (fun z => nomatch z), fun _ => ⟨true, any3 Ex.p_NoEntry_NoEntry Ex.p_NoEntry_NotFolder Ex.p_NoEntry_TooFar, fun _ => q _ sm, fun z => nomatch z⟩⟩
    | notFolder =>
      rw [e] at q
      exact fun H' sm => ⟨false, any1 Ex.p_NotFolder_LeadsOut, (fun z => nomatch z), fun _ => ⟨true, any3 Ex.p_NotFolder_NoEntry Ex.p_NotFolder_NotFolder Ex.p_NotFolder_TooFar, fun _ => q _ sm, fun z => nomatch z⟩⟩
    | tooFar =>
      rw [e] at q
      exact fun H' sm => ⟨false, any1 Ex.p_TooFar_LeadsOut, (fun z => nomatch z), fun _ => ⟨true, any3 Ex.p_TooFar_NoEntry Ex.p_TooFar_NotFolder Ex.p_TooFar_TooFar, fun _ => q _ sm, fun z => nomatch z⟩⟩
    | ok z =>
      rw [e] at q
      exact fun H' sm => q _ sm
def spOutT (K : PySem.W.Frag) (tbs : List Addr) : Sp := fun vs H Q _ => ∃ (v : V) (es : List Ent), vs = [v] ∧ Dp K H v (dTree es) ∧ TreeOk es ∧ Tabs tbs H ∧ Tups K H ((outF es).map T) Q
theorem ok_ways {f : Addr} {fd : FuncData} {c pp : Addr} {tbs : List Addr} (Ev : Env K mg) (TB : GxR.TabB base mg c pp) (hpp : pp ∈ tbs) (CLeadsOut : Cal P w K mg base "leads_out" 3 ["tree", "path"] (spLeads K)) (F : FunC K "ways_out" "ways_out" sWaysOut f fd c) : FnOk P w K mg base CX0 6 f fd ["tree"] (spOutT K tbs) := by
  refine F.ok scWaysOut (fun vs H Q E h => ?_) (fun A outer s H vs Q E hr h => ?_)
  · obtain ⟨v, es, rfl, _⟩ := h; rfl
  · obtain ⟨v, es, rfl, hv, tk, tabs, q⟩ := h
    refine ⟨_, (pss_one (ps_ret (pe_tupG (own := [("entry", 1)]) (g := gName 1) (k := 3) (hr.mono (by omega)) (by rfl) Ev.b_tuple (by decide +kernel) TB rfl scWaysOut.nd (blkOk_by (own := [("entry", 1)]) (N := nWaysOut) (sc := defScope sWaysOut) (by decide +kernel)) ⟨rfl, by decide, rfl⟩ (pi_tup (pv 0)) (fun _ _ _ _ _ _ _ => (pg_name (i := 1) scWaysOut.nd rfl (.inl rfl))) (fun _ _ _ _ _ _ _ hr => pts_one (PW.pt (pw_and (pt_cmpR op_eq (pe_ix (ix_tupq (K := K) rfl) (pv 1) pe_int (fun _ _ => rfl)) pe_str (nomark _)) (pw_and1 (pt_val (pe_c CLeadsOut (hr.mono (by omega)) (pa_cons (pv 0) (pa_cons (pe_ix (ix_tupq (K := K) rfl) (pv 1) pe_int (fun _ _ => rfl)) pa_nil)))))))) (fun _ _ _ _ _ _ _ hr => (pe_ix (ix_tupq (K := K) rfl) (pv 1) pe_int (fun _ _ => rfl))) (by intro _; rfl)))), ?_⟩
    obtain ⟨tv, xs, rfl, hx, al⟩ := dpTree hv
    have lx : es.length = xs.length := al.length.symm
    have le : es.length ≤ sizeLine := by rw [sizeLine_eq]; have := tk.few; omega
    refine ⟨_, rfl, tv, rfl, ⟨_, hx⟩, tabs pp hpp, fun H2 t2 => ?_⟩
    have s2 : Same H H2 := same_tab (tabs pp hpp) t2
    refine gwT_fil (es := es) (fun e => e.isLink && goesOut es e) (fun e => T e.path) (keepT s2 hx) lx le (fun _ => rfl) (fun i e x H3 R he hx3 s3 r => ?_) (fun i e x H3 R he hx3 k s3 r => ?_) (fun H3 s3 p np => ?_)
    · obtain ⟨u, us, rfl, hu, u0, u1⟩ := dpWord (dpKeep (s2.trans s3) (al.at he hx3))
      refine ⟨_, rfl, u, us, 0, _, rfl, rfl, hu, at_ofA (j := 0) rfl u0, (by cases e <;> rfl), _, rfl, ?_⟩
      rw [word_link]
      cases k : e.isLink with
      | false =>
        refine iteF ?_
        have r' := r H3 (Same.refl _)
        rw [k] at r'
        exact r'
      | true =>
        refine iteT ?_
        have hp : PathT e.path := (tk.ok e (List.mem_of_getElem? he)).path
        refine ⟨_, rfl, _, rfl, u, us, 1, _, rfl, rfl, hu, at_ofA (j := 1) rfl u1, .ref tv, es, e.path, rfl, dpKeep (s2.trans s3) hv, tk, hp, fun H' s' => ⟨_, rfl, ?_⟩⟩
        have r' := r H' s'
        rw [k] at r'
        exact r'
    · obtain ⟨u, us, rfl, hu, u0, u1⟩ := dpWord (dpKeep (s2.trans s3) (al.at he hx3))
      exact ⟨_, rfl, u, us, 1, _, rfl, rfl, hu, at_ofA (j := 1) rfl u1, r _ (Same.refl _)⟩
    · have ea : (es.filter fun e => e.isLink && goesOut es e).map (fun e => T e.path) = (outF es).map T := by
        unfold outF
        rw [List.filter_filter, List.map_map]
        refine congrArg (List.map _) (List.filter_congr fun e _ => ?_)
        exact Bool.and_comm _ _
      rw [ea]
      exact q _ _ ((s2.trans s3).trans (grow np)) (SqT.of upd_same)

/-! ### the law -/
theorem cell_mod {ns : List Int} (c m : Int) (i : Nat) (h0 : 0 < m) : ∃ ms : List Int, cutV (ns.map V.int) (some ((i : Nat) : Int)) (some (((i : Nat) : Int) + c % m)) = ms.map V.int ∧ (ms.length : Int) < m := by
  have m0 := Int.emod_nonneg c (Int.ne_of_gt h0)
  have m1 := Int.emod_lt_of_pos c h0
  obtain ⟨k, ek⟩ : ∃ k : Nat, c % m = (k : Int) := ⟨(c % m).toNat, by omega⟩
  refine ⟨(ns.drop i).take k, ?_, ?_⟩
  · rw [ek, show ((i : Nat) : Int) + (k : Int) = ((i + k : Nat) : Int) by omega, cut_mid, Nat.add_sub_cancel_left]
  · rw [List.length_take]
    omega
theorem tups_nil_tree (K : PySem.W.Frag) {H : Hp} {t : Addr} (h : SqT K H t []) : Dp K H (.ref t) (dTree []) := .tup h .nil
theorem tree_nil : TreeOk [] := ⟨fun e h => (by cases h), .nil, fun e h => (by cases h), Nat.zero_le _⟩
def spLaw (K : PySem.W.Frag) (tbs : List Addr) : Sp := fun vs H Q _ => ∃ (a : Addr) (ns : List Int), vs = [.ref a] ∧ SqL K H a (ns.map V.int) ∧ ns.length ≤ 63 ∧ Tabs tbs H ∧ ∀ H', Q (.bl true) H'
theorem ok_law {f : Addr} {fd : FuncData} {lo : Nat} {tbs : List Addr} (Ev : Env K mg) (CWaysOut : Cal P w K mg base "ways_out" lo ["tree"] (spOutT K tbs)) (CLawCell : Cal P w K mg base "_law_cell" 1 ["_law_script", "_law_k"] (spCellA K)) (CLawSame : Cal P w K mg base "_law_same" 2 ["_law_told", "_law_due"] (spSameD K 1))
    (CLawWeb : Cal P w K mg base "_law_web" 2 ["_law_cells"] (spWeb K)) (CLawLanding : Cal P w K mg base "_law_landing" 1 ["_law_tree", "_law_way"] (spLandH K)) (F : Fun K "law" "law" sLaw f fd) :
    FnOk P w K mg base CX0 (lo + 3) f fd ["_law_script"] (spLaw K tbs) := by
  refine F.ok scLaw (fun vs H Q E h => ?_) (fun cdv A outer s H vs Q E hr h => ?_)
  · obtain ⟨a, ns, rfl, _⟩ := h; rfl
  · obtain ⟨a, ns, rfl, hS, hlen, tabs, q⟩ := h
    refine ⟨_, (pss_cons (ps_set (i := 1) scLaw.nd rfl (.inr rfl) (pe_c CLawWeb (hr.mono (by omega)) (pa_cons (pe_slice sl_list (pv 0) (po_some pe_int) (po_some (pe_op op_add pe_int (pe_op op_mod (pe_c CLawCell (hr.mono (by omega)) (pa_cons (pv 0) (pa_cons pe_int pa_nil))) pe_int)))) pa_nil)))
      (pss_cons (ps_setLc (i := 2) (own := [("_law_entry", 5)]) (g := gName 5) (by rfl) scLaw.nd rfl rfl (sw_true rfl rfl rfl (by decide +kernel)) (pi_tup (pv 1)) (blkOk_by (own := [("_law_entry", 5)]) (N := nLaw) (sc := defScope sLaw) (by decide +kernel)) (fun _ _ _ _ _ => (pg_name (i := 5) scLaw.nd rfl (.inl rfl))) (fun _ _ _ _ _ => pts_one (pt_cmpR op_eq (pe_ix (ix_tupq (K := K) rfl) (pv 5) pe_int (fun _ _ => rfl)) pe_str (nomark _))) (fun _ _ _ _ _ => (pe_ix (ix_tupq (K := K) rfl) (pv 5) pe_int (fun _ _ => rfl))))
      (pss_cons (ps_set (i := 3) scLaw.nd rfl (.inr rfl) (pe_callTy call_tupleU (by rfl) Ev.b_tuple (by decide +kernel) (pa_cons (pe_lc (own := [("_law_path", 6)]) (g := gName 6) (by rfl) scLaw.nd (pi_list (pv 2)) (blkOk_by (own := [("_law_path", 6)]) (N := nLaw) (sc := defScope sLaw) (by decide +kernel)) (fun _ _ _ _ _ => (pg_name (i := 6) scLaw.nd rfl (.inl rfl))) (fun _ _ _ _ _ => pts_one (pt_cmpR op_eq (pe_c CLawLanding (hr.mono (by omega)) (pa_cons (pv 1) (pa_cons (pv 6) pa_nil))) pe_str (nomark _))) (fun _ _ _ _ _ => (pv 6))) pa_nil)))
      (pss_cons (ps_if (pt_not (pt_val (pe_c CLawSame (hr.mono (by omega)) (pa_cons (pe_c CWaysOut (hr.mono (by omega)) (pa_cons (pv 1) pa_nil)) (pa_cons (pv 3) pa_nil)))))
        (pss_one (ps_ret pe_bl))
        pss_nil)
      (pss_cons (ps_set (i := 4) scLaw.nd rfl (.inl rfl) (pe_callTy call_tupleU (by rfl) Ev.b_tuple (by decide +kernel) (pa_cons (pe_lc (own := [("_law_entry", 5)]) (g := gName 5) (by rfl) scLaw.nd (pi_tup (pv 1)) (blkOk_by (own := [("_law_entry", 5)]) (N := nLaw) (sc := defScope sLaw) (by decide +kernel)) (fun _ _ _ _ _ => (pg_name (i := 5) scLaw.nd rfl (.inl rfl))) (fun _ _ _ _ _ => pts_one (pt_cmpR (op_notIn_seqq (K := K) rfl) (pe_ix (ix_tupq (K := K) rfl) (pv 5) pe_int (fun _ _ => rfl)) (pv 3) (by rfl))) (fun _ _ _ _ _ => (pv 5))) pa_nil)))
      (pss_one (ps_ret (pe_and (pe_c CLawSame (hr.mono (by omega)) (pa_cons (pe_c CWaysOut (hr.mono (by omega)) (pa_cons (pv 4) pa_nil)) (pa_cons (pe_tupU pa_nil) pa_nil))) (pe_one (pe_c CLawSame (hr.mono (by omega)) (pa_cons (pe_c CWaysOut (hr.mono (by omega)) (pa_cons (pe_tupU pa_nil) pa_nil)) (pa_cons (pe_tupU pa_nil) pa_nil)))))))))))), ?_⟩
    have size : ∀ n : Nat, n ≤ 1000 → n ≤ sizeLine := fun n h => by rw [sizeLine_eq]; omega
    refine ⟨_, rfl, 1, rfl, _, rfl, a, ns, 0, rfl, hS, fun c => ⟨_, 11, rfl, rfl, (show (0 : Int) < 11 by decide), _, _, rfl, rfl, _, rfl, a, _, rfl, hS, fun p1 n1 => ?_⟩⟩
    obtain ⟨ms, em, lm⟩ := cell_mod (ns := ns) c 11 1 (by decide)
    rw [show cutV (ns.map V.int) (some 1) (some (1 + c % 11)) = ms.map V.int from em]
    refine ⟨p1, ms, rfl, SqL.of upd_same, by omega, fun H1 v es s1 tk few _ _ dv => ?_⟩
    obtain ⟨tv, xs, rfl, hx, al⟩ := dpTree dv
    have lx : es.length = xs.length := al.length.symm
    have lx26 : xs.length ≤ 26 := by omega
    refine ⟨_, rfl, tv, rfl, ⟨_, hx⟩, fun D nD => ?_⟩
    refine lcE_tup (es := es) (xs := xs) (keep := Ent.isLink) (G := fun e y _ => y = T e.path) lx nD hx (size _ (by omega)) (fun _ => rfl) (fun _ _ _ _ _ h => h) (fun _ _ _ _ _ _ _ h => h) (fun i e x H3 R he hx3 s3 r3 => ?_) (fun i e x H3 R he hx3 _ s3 r3 => ?_) (fun ys H2 alf s2 h2 => ?_)
    · obtain ⟨u, us, rfl, hu, u0, u1⟩ := dpWord (dpKeep s3 (al.at he hx3))
      have r' := r3 H3 (Same.refl _)
      rw [← word_link] at r'
      exact ⟨_, rfl, u, us, 0, _, rfl, rfl, hu, at_ofA (j := 0) rfl u0, (by cases e <;> rfl), _, rfl, r'⟩
    · obtain ⟨u, us, rfl, hu, u0, u1⟩ := dpWord (dpKeep s3 (al.at he hx3))
      exact ⟨_, rfl, u, us, 1, _, rfl, rfl, hu, at_ofA (j := 1) rfl u1, r3 _ _ (Same.refl _) rfl⟩
    have ey := (alf.mono (S := fun (e : Ent) y => y = T e.path) fun _ _ h => h).eq_map (f := fun e : Ent => T e.path)
    subst ey
    have dv2 := dpKeep s2 dv
    have lf : (es.filter Ent.isLink).length ≤ 26 := Nat.le_trans (List.length_filter_le ..) (by omega)
    refine ⟨_, rfl, D, rfl, ⟨_, SqL.of h2⟩, fun D2 nD2 => ?_⟩
    refine lcE_list (es := es.filter Ent.isLink) (xs := (es.filter Ent.isLink).map fun e => T e.path) (keep := goesOut es) (G := fun e y _ => y = T e.path) (by rw [List.length_map]) nD2 (SqL.of h2) (size _ (by rw [List.length_map]; omega)) (fun _ => rfl) (fun _ _ _ _ _ h => h) (fun _ _ _ _ _ _ _ h => h) (fun i e x H3 R he hx3 s3 r3 => ?_) (fun i e x H3 R he hx3 _ s3 r3 => ?_) (fun ys H3 alf s3 h3 => ?_)
    · have ex : x = T e.path := by
        rw [List.getElem?_map, he] at hx3
        exact (Option.some.inj hx3).symm
      subst ex
      have hp : PathT e.path := (tk.ok e (List.mem_filter.mp (List.mem_of_getElem? he)).1).path
      refine ⟨_, rfl, _, rfl, .ref tv, es, e.path, rfl, dpKeep s3 dv2, tk, hp, fun H' s' => ⟨?_, _, rfl, ?_⟩⟩
      · cases landF es e.path <;> rfl
      · rw [landV_out tk hp]
        exact r3 _ s'
    · have ex : x = T e.path := by
        rw [List.getElem?_map, he] at hx3
        exact (Option.some.inj hx3).symm
      exact ⟨_, rfl, r3 _ _ (Same.refl _) ex⟩
    have ey := (alf.mono (S := fun (e : Ent) y => y = T e.path) fun _ _ h => h).eq_map (f := fun e : Ent => T e.path)
    subst ey
    refine ⟨D2, _, rfl, SqL.of h3, fun H4 t4 s4 h4 => ?_⟩
    have e4 : ((es.filter Ent.isLink).filter (goesOut es)).map (fun e => T e.path) = (outF es).map T := by
      unfold outF
      rw [List.map_map]
      rfl
    rw [e4] at h4
    have lo26 : (outF es).length ≤ 26 := by
      unfold outF
      rw [List.length_map]
      exact Nat.le_trans (List.length_filter_le ..) lf
    have oko := dTxts_ok (outF es) (by omega)
    have s24 := s3.trans s4
    have t0 := tabs.keep ((grow n1).trans (s1.trans (s2.trans s24)))
    refine ⟨_, rfl, .ref tv, es, rfl, dpKeep s24 dv2, tk, t0, fun H5 t5 s5 h5 => ?_⟩
    refine ⟨_, rfl, .ref t5, .ref t4, dTxts (outF es), rfl, dpTxts h5, dpTxts (keepT s5 h4), oko.1, oko.2, fun H6 s6 => ⟨true, rfl, iteF ?_⟩⟩
    have s26 := s24.trans (s5.trans s6)
    have hx6 := keepT (s2.trans s26) hx
    have h46 := keepT (s5.trans s6) h4
    have al6 := al.mono (S := fun e x => Dp K H6 x (dEnt e)) fun e x d => dpKeep (s2.trans s26) d
    refine ⟨_, rfl, tv, rfl, ⟨_, hx6⟩, fun D3 nD3 => ?_⟩
    refine lcE_tup (es := es) (xs := xs) (keep := fun e => !decide (e.path ∈ outF es)) (G := fun e y H => Dp K H y (dEnt e)) lx nD3 hx6 (size _ (by omega)) (fun _ => rfl) (fun e y H H' s d => dpKeep s d) (fun e y H ys zs he hD d => dpOver (.lst hD) (dEnt_ok ((tk.ok e he).small)).1 d) (fun i e x H7 R he hx7 s7 r7 => ?_) (fun i e x H7 R he hx7 _ s7 r7 => ⟨_, rfl, r7 _ _ (Same.refl _) (dpKeep s7 (al6.at he hx7))⟩) (fun ys H7 alf s7 h7 => ?_)
    · obtain ⟨u, us, rfl, hu, u0, u1⟩ := dpWord (dpKeep s7 (al6.at he hx7))
      have r' := r7 H7 (Same.refl _)
      have ei : inV (T e.path) ((outF es).map T) = decide (e.path ∈ outF es) := inV_txt _ _
      rw [← ei] at r'
      exact ⟨_, rfl, u, us, 1, _, rfl, rfl, hu, at_ofA (j := 1) rfl u1, _, rfl, t4, _, rfl, .inr (keepT s7 h46), rfl, flat_txts _, _, rfl, r'⟩
    refine ⟨D3, _, rfl, SqL.of h7, fun H8 t8 s8 h8 => ?_⟩
    have dl : Dp K H8 (.ref t8) (dTree (lessF es)) := dpTreeOf h8 (alf.mono fun e x d => dpKeep s8 d)
    have t1 := t0.keep ((s5.trans s6).trans (s7.trans s8))
    refine ⟨_, rfl, .ref t8, lessF es, rfl, dl, less_tree tk, t1, fun H9 t9 s9 h9 => ?_⟩
    rw [less_out tk] at h9
    refine ⟨Nat.zero_le _, fun Ha ta sa ha => ?_⟩
    have ok0 := dTxts_ok [] (by decide)
    refine ⟨.ref t9, .ref ta, dTxts [], rfl, dpTxts (keepT sa h9), dpTxts (ls := []) ha, ok0.1, ok0.2, fun Hb sb => ⟨true, rfl, iteT ?_⟩⟩
    refine ⟨Nat.zero_le _, fun Hc tc sc hc => ?_⟩
    have t2 := t1.keep ((s9.trans sa).trans (sb.trans sc))
    refine ⟨.ref tc, [], rfl, .tup hc .nil, tree_nil, t2, fun Hd td sd hd => ?_⟩
    refine ⟨Nat.zero_le _, fun He te se he => ?_⟩
    exact ⟨.ref td, .ref te, dTxts [], rfl, dpTxts (ls := []) (keepT se hd), dpTxts (ls := []) he, ok0.1, ok0.2, fun Hf sf => q _⟩

end
def hD0 : He.DefD := ⟨("parts_of", none), "parts_of", "parts_of", defArgs sPartsOf, defBody sPartsOf, defScope sPartsOf, [], []⟩
def hD1 : He.DefD := ⟨("by_path", none), "by_path", "by_path", defArgs sByPath, defBody sByPath, defScope sByPath, [], []⟩
def hD2 : He.DefD := ⟨("folder_above", none), "folder_above", "folder_above", defArgs sFolderAbove, defBody sFolderAbove, defScope sFolderAbove, [], []⟩
def hD3 : He.DefD := ⟨("entry_at", none), "entry_at", "entry_at", defArgs sEntryAt, defBody sEntryAt, defScope sEntryAt, [], []⟩
def hD4 : He.DefD := ⟨("landing", none), "landing", "landing", defArgs sLanding, defBody sLanding, defScope sLanding, [], []⟩
def hD5 : He.DefD := ⟨("leads_out", none), "leads_out", "leads_out", defArgs sLeadsOut, defBody sLeadsOut, defScope sLeadsOut, [], []⟩
def hD6 : He.DefD := ⟨("ways_out", none), "ways_out", "ways_out", defArgs sWaysOut, defBody sWaysOut, defScope sWaysOut, [], []⟩
def hD7 : He.DefD := ⟨("_law_d", none), "_law_d", "_law_d", defArgs sLawD, defBody sLawD, defScope sLawD, [], []⟩
def hD8 : He.DefD := ⟨("_law_cell", none), "_law_cell", "_law_cell", defArgs sLawCell, defBody sLawCell, defScope sLawCell, [], []⟩
def hD9 : He.DefD := ⟨("_law_same", none), "_law_same", "_law_same", defArgs sLawSame, defBody sLawSame, defScope sLawSame, [], []⟩
def hD10 : He.DefD := ⟨("_law_web", none), "_law_web", "_law_web", defArgs sLawWeb, defBody sLawWeb, defScope sLawWeb, [], []⟩
def hD11 : He.DefD := ⟨("_law_landing", none), "_law_landing", "_law_landing", defArgs sLawLanding, defBody sLawLanding, defScope sLawLanding, [], []⟩
def hD12 : He.DefD := ⟨("law", none), "law", "law", defArgs sLaw, defBody sLaw, defScope sLaw, [], []⟩
def hFn : List He.DefD := [hD0, hD1, hD2, hD3, hD4, hD5, hD6, hD7, hD8, hD9, hD10, hD11, hD12]
def hFa : List He.Fa := ([.glo "parts_of", .glo "by_path", .glo "folder_above", .glo "entry_at", .glo "landing", .glo "leads_out", .glo "ways_out", .glo "_law_d", .glo "_law_cell", .glo "_law_same", .glo "_law_web", .glo "_law_landing", .glo "law", .free "all", .free "bool", .free "int", .free "isinstance", .free "len", .free "range", .free "sorted", .free "str", .free "tuple", .free "zip", .int "MOST_LINKS" 20, .exc "LeadsOut", .glo "LeadsOut", .exc "NoEntry", .glo "NoEntry", .exc "NotFolder", .glo "NotFolder"] : List He.Fa) ++ ([.exc "TooFar", .glo "TooFar", .exm "LeadsOut" "LeadsOut" true, .exm "LeadsOut" "NoEntry" false, .exm "LeadsOut" "NotFolder" false, .exm "LeadsOut" "TooFar" false, .exm "NoEntry" "LeadsOut" false, .exm "NoEntry" "NoEntry" true, .exm "NoEntry" "NotFolder" false, .exm "NoEntry" "TooFar" false, .exm "NotFolder" "LeadsOut" false, .exm "NotFolder" "NoEntry" false, .exm "NotFolder" "NotFolder" true, .exm "NotFolder" "TooFar" false, .exm "TooFar" "LeadsOut" false, .exm "TooFar" "NoEntry" false, .exm "TooFar" "NotFolder" false, .exm "TooFar" "TooFar" true] : List He.Fa)
def hTf : List He.Defn := [("ways_out", none)]
def hEx (K : PySem.W.Frag) : Bool := (PySem.W.isClsIn K (He.ga K "LeadsOut") && (PySem.W.isClsIn K (He.ga K "NoEntry") && (PySem.W.isClsIn K (He.ga K "NotFolder") && (PySem.W.isClsIn K (He.ga K "TooFar") && true))))
theorem all_mk {l : PySem.W.OpenLaw} {w : World} {K : PySem.W.Frag} {h : Heap} {mg : Str → Option Value} {fa : Addr} (X : K.In h) (G : h.Ns mainGlobals mg) (hfa : mg "law" = some (.ref fa)) (c : He.SaysX hFa hFn [] hTf hEx w h K) :
    LamX.LawAtS l w K CX0 9 63 "_law_script" mg fa h := by
  have cd : He.SaysD hFa hFn K := c.t.d
  have e := hfa.symm.trans (He.glo_ok X G (cd.fact 12 (f := .glo "law") rfl))
  cases e
  have Ev : Env K mg := ⟨He.free_ok X G (cd.fact 13 (f := .free "all") rfl), He.free_ok X G (cd.fact 14 (f := .free "bool") rfl), He.free_ok X G (cd.fact 15 (f := .free "int") rfl), He.free_ok X G (cd.fact 16 (f := .free "isinstance") rfl), He.free_ok X G (cd.fact 17 (f := .free "len") rfl), He.free_ok X G (cd.fact 18 (f := .free "range") rfl), He.free_ok X G (cd.fact 19 (f := .free "sorted") rfl), He.free_ok X G (cd.fact 20 (f := .free "str") rfl), He.free_ok X G (cd.fact 21 (f := .free "tuple") rfl), He.free_ok X G (cd.fact 22 (f := .free "zip") rfl), He.int_ok X G (cd.fact 23 (f := .int "MOST_LINKS" 20) rfl)⟩
  have X_LeadsOut : Exc K mg "LeadsOut" (He.ga K "LeadsOut") := ⟨He.glo_ok X G (cd.fact 25 (f := .glo "LeadsOut") rfl), (He.exc_ok (cd.fact 24 (f := .exc "LeadsOut") rfl)).1, (He.exc_ok (cd.fact 24 (f := .exc "LeadsOut") rfl)).2.1, (He.exc_ok (cd.fact 24 (f := .exc "LeadsOut") rfl)).2.2.1, (He.exc_ok (cd.fact 24 (f := .exc "LeadsOut") rfl)).2.2.2, (He.ba c.more).1⟩
  have X_NoEntry : Exc K mg "NoEntry" (He.ga K "NoEntry") := ⟨He.glo_ok X G (cd.fact 27 (f := .glo "NoEntry") rfl), (He.exc_ok (cd.fact 26 (f := .exc "NoEntry") rfl)).1, (He.exc_ok (cd.fact 26 (f := .exc "NoEntry") rfl)).2.1, (He.exc_ok (cd.fact 26 (f := .exc "NoEntry") rfl)).2.2.1, (He.exc_ok (cd.fact 26 (f := .exc "NoEntry") rfl)).2.2.2, (He.ba (He.ba c.more).2).1⟩
  have X_NotFolder : Exc K mg "NotFolder" (He.ga K "NotFolder") := ⟨He.glo_ok X G (cd.fact 29 (f := .glo "NotFolder") rfl), (He.exc_ok (cd.fact 28 (f := .exc "NotFolder") rfl)).1, (He.exc_ok (cd.fact 28 (f := .exc "NotFolder") rfl)).2.1, (He.exc_ok (cd.fact 28 (f := .exc "NotFolder") rfl)).2.2.1, (He.exc_ok (cd.fact 28 (f := .exc "NotFolder") rfl)).2.2.2, (He.ba (He.ba (He.ba c.more).2).2).1⟩
  have X_TooFar : Exc K mg "TooFar" (He.ga K "TooFar") := ⟨He.glo_ok X G (cd.fact 31 (f := .glo "TooFar") rfl), (He.exc_ok (cd.fact 30 (f := .exc "TooFar") rfl)).1, (He.exc_ok (cd.fact 30 (f := .exc "TooFar") rfl)).2.1, (He.exc_ok (cd.fact 30 (f := .exc "TooFar") rfl)).2.2.1, (He.exc_ok (cd.fact 30 (f := .exc "TooFar") rfl)).2.2.2, (He.ba (He.ba (He.ba (He.ba c.more).2).2).2).1⟩
  have Ex : Excs K mg (He.ga K "LeadsOut") (He.ga K "NoEntry") (He.ga K "NotFolder") (He.ga K "TooFar") := ⟨X_LeadsOut, X_NoEntry, X_NotFolder, X_TooFar, He.exm_ok (cd.fact 32 (f := .exm "LeadsOut" "LeadsOut" true) rfl), He.exm_ok (cd.fact 33 (f := .exm "LeadsOut" "NoEntry" false) rfl), He.exm_ok (cd.fact 34 (f := .exm "LeadsOut" "NotFolder" false) rfl), He.exm_ok (cd.fact 35 (f := .exm "LeadsOut" "TooFar" false) rfl), He.exm_ok (cd.fact 36 (f := .exm "NoEntry" "LeadsOut" false) rfl), He.exm_ok (cd.fact 37 (f := .exm "NoEntry" "NoEntry" true) rfl), He.exm_ok (cd.fact 38 (f := .exm "NoEntry" "NotFolder" false) rfl), He.exm_ok (cd.fact 39 (f := .exm "NoEntry" "TooFar" false) rfl), He.exm_ok (cd.fact 40 (f := .exm "NotFolder" "LeadsOut" false) rfl), He.exm_ok (cd.fact 41 (f := .exm "NotFolder" "NoEntry" false) rfl), He.exm_ok (cd.fact 42 (f := .exm "NotFolder" "NotFolder" true) rfl), He.exm_ok (cd.fact 43 (f := .exm "NotFolder" "TooFar" false) rfl), He.exm_ok (cd.fact 44 (f := .exm "TooFar" "LeadsOut" false) rfl), He.exm_ok (cd.fact 45 (f := .exm "TooFar" "NoEntry" false) rfl), He.exm_ok (cd.fact 46 (f := .exm "TooFar" "NotFolder" false) rfl), He.exm_ok (cd.fact 47 (f := .exm "TooFar" "TooFar" true) rfl)⟩
  obtain ⟨fd0, D0⟩ := cd.def_ 0 (d := hD0) rfl
  have F0 := fun_ofD (x := "parts_of") (st := sPartsOf) D0
  obtain ⟨fd1, D1⟩ := cd.def_ 1 (d := hD1) rfl
  have F1 := fun_ofD (x := "by_path") (st := sByPath) D1
  obtain ⟨fd2, D2⟩ := cd.def_ 2 (d := hD2) rfl
  have F2 := fun_ofD (x := "folder_above") (st := sFolderAbove) D2
  obtain ⟨fd3, D3⟩ := cd.def_ 3 (d := hD3) rfl
  have F3 := fun_ofD (x := "entry_at") (st := sEntryAt) D3
  obtain ⟨fd4, D4⟩ := cd.def_ 4 (d := hD4) rfl
  have F4 := fun_ofD (x := "landing") (st := sLanding) D4
  obtain ⟨fd5, D5⟩ := cd.def_ 5 (d := hD5) rfl
  have F5 := fun_ofD (x := "leads_out") (st := sLeadsOut) D5
  obtain ⟨fd6, D6⟩ := cd.def_ 6 (d := hD6) rfl
  have F6 := funC_ofD (x := "ways_out") (st := sWaysOut) D6
  obtain ⟨fd7, D7⟩ := cd.def_ 7 (d := hD7) rfl
  have F7 := fun_ofD (x := "_law_d") (st := sLawD) D7
  obtain ⟨fd8, D8⟩ := cd.def_ 8 (d := hD8) rfl
  have F8 := fun_ofD (x := "_law_cell") (st := sLawCell) D8
  obtain ⟨fd9, D9⟩ := cd.def_ 9 (d := hD9) rfl
  have F9 := fun_ofD (x := "_law_same") (st := sLawSame) D9
  obtain ⟨fd10, D10⟩ := cd.def_ 10 (d := hD10) rfl
  have F10 := fun_ofD (x := "_law_web") (st := sLawWeb) D10
  obtain ⟨fd11, D11⟩ := cd.def_ 11 (d := hD11) rfl
  have F11 := fun_ofD (x := "_law_landing") (st := sLawLanding) D11
  obtain ⟨fd12, D12⟩ := cd.def_ 12 (d := hD12) rfl
  have F12 := fun_ofD (x := "law") (st := sLaw) D12
  refine ⟨fd12, [(He.cT K ("ways_out", none))], spLaw K [(He.cT K ("ways_out", none)).2], List.forall_mem_cons.mpr ⟨c.empty _ (show (("ways_out", none) : He.Defn) ∈ hTf by simp [hTf]), fun _ z => nomatch z⟩, List.forall_mem_cons.mpr ⟨c.out _ (show (("ways_out", none) : He.Defn) ∈ hTf by simp [hTf]), fun _ z => nomatch z⟩, List.forall_mem_cons.mpr ⟨PySem.W.codeHd_of_K X (c.hd _ (show (("ways_out", none) : He.Defn) ∈ hTf by simp [hTf])), fun _ z => nomatch z⟩, fun s v => ?_, fun H a ns hl _ hH hS => ⟨a, ns, rfl, hS, hl, List.forall_mem_cons.mpr ⟨tab_empty (hH (He.cT K ("ways_out", none)) (by simp)), fun _ z => nomatch z⟩, fun _ => rfl⟩, fun base _ _ TBs => ?_⟩
  · exact (FunD.bindsA (ps := ["_law_script"]) D12 fun _ _ _ _ _ _ us hl => match us, hl with | [_], _ => rfl) s [v] rfl
  have TB6 := tabB_of (TBs (He.cT K ("ways_out", none)) (by simp))
  have C_0 : Cal l.prog w K mg base "parts_of" 1 ["path"] (spParts K) := ⟨_, _, ok_parts Ev  F0, He.glo_ok X G (cd.fact 0 (f := .glo "parts_of") rfl), F0.kp, F0.binds fun _ _ _ _ _ _ us hl => match us, hl with | [_], _ => rfl⟩
  have C_1 : Cal l.prog w K mg base "by_path" 1 ["tree"] (spBy K) := ⟨_, _, ok_by Ev  F1, He.glo_ok X G (cd.fact 1 (f := .glo "by_path") rfl), F1.kp, F1.binds fun _ _ _ _ _ _ us hl => match us, hl with | [_], _ => rfl⟩
  have C_2 : CalX l.prog w K mg base "folder_above" 1 ["parts"] (spUpF K (He.ga K "LeadsOut")) := ⟨_, _, ok_upF Ev Ex  F2, He.glo_ok X G (cd.fact 2 (f := .glo "folder_above") rfl), F2.kp, F2.binds fun _ _ _ _ _ _ us hl => match us, hl with | [_], _ => rfl⟩
  have C_3 : CalX l.prog w K mg base "entry_at" 1 ["found", "parts"] (spAt K (He.ga K "NoEntry")) := ⟨_, _, ok_at Ev Ex  F3, He.glo_ok X G (cd.fact 3 (f := .glo "entry_at") rfl), F3.kp, F3.binds fun _ _ _ _ _ _ us hl => match us, hl with | [_, _], _ => rfl⟩
  have C_4 : CalX l.prog w K mg base "landing" 2 ["tree", "path"] (spLand K (He.ga K "LeadsOut") (He.ga K "NoEntry") (He.ga K "NotFolder") (He.ga K "TooFar")) := ⟨_, _, ok_land Ev Ex C_1 C_0 C_2 C_3 F4, He.glo_ok X G (cd.fact 4 (f := .glo "landing") rfl), F4.kp, F4.binds fun _ _ _ _ _ _ us hl => match us, hl with | [_, _], _ => rfl⟩
  have C_5 : Cal l.prog w K mg base "leads_out" 3 ["tree", "path"] (spLeads K) := ⟨_, _, ok_leads Ev Ex C_4 F5, He.glo_ok X G (cd.fact 5 (f := .glo "leads_out") rfl), F5.kp, F5.binds fun _ _ _ _ _ _ us hl => match us, hl with | [_, _], _ => rfl⟩
  have C_6 : Cal l.prog w K mg base "ways_out" 6 ["tree"] (spOutT K [(He.cT K ("ways_out", none)).2]) := ⟨_, _, ok_ways Ev TB6 (by simp) C_5 F6, He.glo_ok X G (cd.fact 6 (f := .glo "ways_out") rfl), F6.to.kp, F6.to.binds fun _ _ _ _ _ _ us hl => match us, hl with | [_], _ => rfl⟩
  have C_7 : Cal l.prog w K mg base "_law_d" 1 ["_law_cell_here", "_law_place", "_law_many"] spD := ⟨_, _, ok_d Ev  F7, He.glo_ok X G (cd.fact 7 (f := .glo "_law_d") rfl), F7.kp, F7.binds fun _ _ _ _ _ _ us hl => match us, hl with | [_, _, _], _ => rfl⟩
  have C_8 : Cal l.prog w K mg base "_law_cell" 1 ["_law_script", "_law_k"] (spCellA K) := ⟨_, _, ok_cell Ev  F8, He.glo_ok X G (cd.fact 8 (f := .glo "_law_cell") rfl), F8.kp, F8.binds fun _ _ _ _ _ _ us hl => match us, hl with | [_, _], _ => rfl⟩
  have C_9 : Cal l.prog w K mg base "_law_same" 2 ["_law_told", "_law_due"] (spSameD K 1) := ⟨_, _, ok_sameD Ev F9 (He.glo_ok X G (cd.fact 9 (f := .glo "_law_same") rfl)) (F9.binds fun _ _ _ _ _ _ us hl => match us, hl with | [_, _], _ => rfl) 1, He.glo_ok X G (cd.fact 9 (f := .glo "_law_same") rfl), F9.kp, F9.binds fun _ _ _ _ _ _ us hl => match us, hl with | [_, _], _ => rfl⟩
  have C_10 : Cal l.prog w K mg base "_law_web" 2 ["_law_cells"] (spWeb K) := ⟨_, _, ok_web Ev C_7 F10, He.glo_ok X G (cd.fact 10 (f := .glo "_law_web") rfl), F10.kp, F10.binds fun _ _ _ _ _ _ us hl => match us, hl with | [_], _ => rfl⟩
  have C_11 : Cal l.prog w K mg base "_law_landing" 1 ["_law_tree", "_law_way"] (spLandH K) := ⟨_, _, ok_landing Ev  F11, He.glo_ok X G (cd.fact 11 (f := .glo "_law_landing") rfl), F11.kp, F11.binds fun _ _ _ _ _ _ us hl => match us, hl with | [_, _], _ => rfl⟩
  exact ok_law Ev C_6 C_8 C_9 C_10 C_11 F12
abbrev hR : PySem.W.OpenRow := PySem.W.OpenLaw.row PySem.Challenge.rw_filecrate_k21_whole_ways_out
def hLoose : List Str := (["CrateError", "LeadsOut", "NoEntry", "NotFolder", "TooFar", "parts_of", "by_path", "MOST_LINKS", "landing", "folder_above", "entry_at", "ways_out", "leads_out", "_law_d", "_law_cell", "_law_same", "_law_web", "_law_landing"] : List Str)
abbrev hk : PySem.W.Hook := He.hookX 5 hFa hFn [] hTf hEx
def hOb (s : PySem.W.SharedT) : He.AlX := He.obsX 5 hFa hFn [] hTf hEx (HandSHeadRun.getT s)
theorem hOb_eq (s : PySem.W.SharedT) : hOb s = hk.obs s.abs := He.obsX_eq (HandSHeadRun.getT_eq s)
set_option maxHeartbeats 0 in
theorem hRun (w : World) : HandSHeadRun.RunEq hR (PySem.W.view hR.prog [23]) hk hOb 3000 hLoose w := by
  intro os
  kernel_rfl
end Fc
open PySem PySem.W PySem.Calls PyProof.Rows
set_option maxHeartbeats 0 in
theorem PySem.Challenge.cw_filecrate_k21_whole_ways_out_holds : PySem.Challenge.rw_filecrate_k21_whole_ways_out.Holds := by
  w_on; o_law
  refine HandSHeadRun.head_any (r := PySem.W.OpenLaw.row PySem.Challenge.rw_filecrate_k21_whole_ways_out) (q := view (PySem.W.OpenLaw.row PySem.Challenge.rw_filecrate_k21_whole_ways_out).prog [23]) (H := Fc.hk) (ob := Fc.hOb) (M := 3000) (loose := Fc.hLoose) (d := HandSHeadRun.topDef (PySem.W.OpenLaw.row PySem.Challenge.rw_filecrate_k21_whole_ways_out).prog 23) (kwd := []) Fc.hOb_eq
    (by kernel_rfl) (fun s => by kernel_rfl) Fc.hRun (by kernel_rfl) (by kernel_rfl) (by kernel_rfl) (by rfl) (by first | assumption | decide +kernel) (by decide +kernel) ⟨rfl, rfl, rfl, rfl, rfl, by decide +kernel⟩ ?hw ?hc
  case hw => w_witness2
  case hc =>
    refine LamX.walk_ofTsE (l := PySem.Challenge.rw_filecrate_k21_whole_ways_out) (n := 63) (k := 9) (x := "_law_script") (CX := fun _ => L2.CX0) rfl (by decide) (by kernel_rfl) ⟨rfl, by decide, by decide⟩ ?F (fun _ _ _ _ _ h => h)
    intro w mg fa h Y G hmg0
    obtain ⟨K, KX, c⟩ := Y
    have hmg : mg ("law" : PySem.Str) = some (.ref fa) := by
      have e : (HandSHeadRun.topDef (PySem.W.OpenLaw.row PySem.Challenge.rw_filecrate_k21_whole_ways_out).prog 23).name = ("law" : PySem.Str) := by kernel_rfl
      rw [← e]
      exact hmg0
    exact ⟨K, KX, Fc.all_mk KX G hmg c⟩
