import PyProof.Rows.All
import Wide.All
import OpenK.AllK
import Wide.FinOn
import HandS.ForMost
import HandS.IsInst
import HandS.TupAny
import HandS.TupMul
import HandS.Zip
import HandS.Style
import HandS.AnyAll
import HandS.Flow
import HandS.ForExc
import HandS.TryMany
import HandS.GenList
import PyProof.TupleOfGen
import HandS.EndTab
import HandS.Head0
import HandS.Head1
import HandS.Head2
import HandS.HeadEnd
import HandS.HeadHook4
import HandS.HeadWalk
import HandS.CallLocal
import KE.KNestM
import PySem.Challenge.RW_filecrate_k14_whole_texts_made_clean
set_option Elab.async false
set_option linter.all false
set_option maxRecDepth 100000
set_option maxHeartbeats 4000000
namespace Fc
open PySem PySem.Spec PyProof.Rows L2

/-! ### heaps that only grow (a code's table, which a generator expression lengthens, aside) -/
def NT : HO → Prop
  | .tbl _ => False
  | _ => True
structure Same (H H' : Hp) : Prop where
  get : ∀ b o, H b = some o → NT o → H' b = some o
  tab : ∀ b ps, H b = some (.tbl ps) → ∃ ps' : Array Value, H' b = some (.tbl ps') ∧ (TriplesOk ps.toList → TriplesOk ps'.toList)
theorem Same.at {H H' : Hp} (s : Same H H') (b : Addr) (o : HO) (e : H b = some o) (nt : NT o := by trivial) : H' b = some o := s.get b o e nt
instance {H H' : Hp} : CoeFun (Same H H') (fun _ => ∀ (b : Addr) (o : HO), H b = some o → (nt : NT o := by trivial) → H' b = some o) := ⟨@Same.at H H'⟩
theorem nt_or (o : HO) : NT o ∨ ∃ ps, o = .tbl ps := by
  cases o with
  | tbl ps => exact .inr ⟨ps, rfl⟩
  | _ => exact .inl trivial
theorem Same.refl (H : Hp) : Same H H := ⟨fun _ _ h _ => h, fun _ ps h => ⟨ps, h, fun z => z⟩⟩
theorem Same.trans {H H1 H2 : Hp} (a : Same H H1) (b : Same H1 H2) : Same H H2 := ⟨fun c o h nt => b.get c o (a.get c o h nt) nt, fun c ps h => by
  obtain ⟨ps1, h1, t1⟩ := a.tab c ps h
  obtain ⟨ps2, h2, t2⟩ := b.tab c ps1 h1
  exact ⟨ps2, h2, fun z => t2 (t1 z)⟩⟩
theorem Same.some {H H' : Hp} (e : Same H H') {b : Addr} {o : HO} (h : H b = .some o) : ∃ o', H' b = .some o' := by
  rcases nt_or o with n | ⟨ps, rfl⟩
  · exact ⟨o, e.get b o h n⟩
  · obtain ⟨ps', h', _⟩ := e.tab b ps h
    exact ⟨_, h'⟩
theorem Same.free {H H' : Hp} (e : Same H H') {l : Addr} (h : H' l = Option.none) : H l = Option.none := by
  cases q : H l with
  | none => rfl
  | some o =>
    obtain ⟨o', h'⟩ := e.some q
    rw [h] at h'
    cases h'
theorem Same.over {H H' : Hp} (e : Same H H') {p : Addr} {o : HO} (n : H p = none) : Same H (upd H' p o) := ⟨fun b u h nt => by
  rw [upd_ne (ne_of_none h n)]
  exact e.get b u h nt, fun b ps h => by
  obtain ⟨ps', h', t⟩ := e.tab b ps h
  exact ⟨ps', by rw [upd_ne (ne_of_none h n)]; exact h', t⟩⟩
theorem Same.seq {K : PySem.W.Frag} {H H' : Hp} {a : Addr} {xs : List V} (e : Same H H') (h : SqL K H a xs) : SqL K H' a xs := by
  rcases h with (h | ⟨o, h⟩) | h
  · exact .inl (.inl (e _ _ h))
  · exact .inl (.inr ⟨o, e _ _ h⟩)
  · exact .inr h
theorem grow {H : Hp} {p : Addr} {o : HO} (n : H p = none) : Same H (upd H p o) := (Same.refl H).over n
/-- these tables stand -/
def Tabs (ps : List Addr) (H : Hp) : Prop := ∀ p ∈ ps, GxR.TabG H p
theorem Tabs.keep {ps : List Addr} {H H' : Hp} (t : Tabs ps H) (e : Same H H') : Tabs ps H' := fun p hp => by
  obtain ⟨qs, h, ok⟩ := t p hp
  obtain ⟨qs', h', k⟩ := e.tab p qs h
  exact ⟨qs', h', k ok⟩
theorem same_tab {P : Addr} {H H' : Hp} (h : GxR.TabG H P) (t : GxR.Tabbed P H H') : Same H H' := by
  refine ⟨fun b o e nt => ?_, fun b ps e => ?_⟩
  · have nb : b ≠ P := fun z => by
      obtain ⟨qs, h, _⟩ := h
      rw [z, h] at e
      cases e
      exact nt
    rw [t.2 b nb]
    exact e
  · by_cases z : b = P
    · obtain ⟨qs, h', ok⟩ := t.1
      rw [z]
      exact ⟨qs, h', fun _ => ok⟩
    · exact ⟨ps, by rw [t.2 b z]; exact e, fun k => k⟩
theorem keepT {K : PySem.W.Frag} {H H' : Hp} {a : Addr} {xs : List V} (e : Same H H') (h : SqT K H a xs) : SqT K H' a xs := by
  rcases h with (h | ⟨o, h⟩) | h
  · left; left; exact e a _ h
  · left; right; exact ⟨o, e a _ h⟩
  · right; exact h
/-- behind it a tuple of these, and all that stood -/
def Tups (K : PySem.W.Frag) (H : Hp) (xs : List V) (Q : VK) : Prop := ∀ H' p, Same H H' → SqT K H' p xs → Q (.ref p) H'
theorem Tups.new {K : PySem.W.Frag} {H : Hp} {xs : List V} {Q : VK} (h : Tups K H xs Q) {p : Addr} (n : H p = none) : Q (.ref p) (upd H p (.tup xs)) := h _ _ (grow n) (SqT.of upd_same)
theorem Tups.old {K : PySem.W.Frag} {H : Hp} {xs ys : List V} {Q : VK} (h : Tups K H xs Q) {p : Addr} (e : SqT K H p ys) (eq : ys = xs) : Q (.ref p) H := by
  subst eq
  exact h _ _ (Same.refl H) e
theorem PEweak {X : Cx} {e : Expr} {t u : TE} (h : PE X e t) (w : ∀ σ H Q, u σ H Q → t σ H Q) : PE X e u := ⟨fun pins s σ H Q I q => h.run pins s σ H Q I (w σ H Q q)⟩
def upA (t : TA) : TA := fun σ H Q => ∃ R, t σ H R ∧ ∀ vs H', R vs H' → Q vs H'
theorem PAup {X : Cx} {es : List Expr} {t : TA} (h : PA X es t) : PA X es (upA t) := ⟨fun ps pins s σ H Q I q => by
  obtain ⟨R, q1, q2⟩ := q
  refine thn (h.run ps pins s σ H R I q1) fun us s' ⟨vs, H', I', r, k⟩ => ⟨vs, H', I', r, q2 _ _ k⟩⟩

/-! ### rules whose reading says Tups -/
section
variable {X : Cx}
def rCatU (K : PySem.W.Frag) : R2 := fun x y H Q => ∃ a b xs ys, x = .ref a ∧ y = .ref b ∧ SqT K H a xs ∧ SqT K H b ys ∧ xs.length + ys.length ≤ sizeLine ∧ Tups K H (xs ++ ys) Q
theorem op_catU : OpR X (binaryOp .Add) (rCatU X.K) := by
  intro pins s σ H x y v u Q I rx ry h
  obtain ⟨a, b, xs, ys, rfl, rfl, ha, hb, hz, q⟩ := h
  refine op_catA pins s σ H _ _ v u Q I rx ry ⟨a, b, xs, ys, rfl, rfl, ha, hb, hz, fun e => ?_, fun _ e => ?_, fun _ _ p n => q.new n⟩
  · subst e; exact q.old hb rfl
  · subst e; exact q.old ha (List.append_nil xs).symm
def rSlU (K : PySem.W.Frag) : V → Option Int → Option Int → Hp → VK → Prop := fun x lo hi H Q => ∃ a xs, x = .ref a ∧ SqT K H a xs ∧ Tups K H (cutV xs lo hi) Q
theorem sl_tupU : SlR X (rSlU X.K) := by
  intro pins s σ H x v vl vu lo hi sl Q I rx hs pl pu h
  obtain ⟨a, xs, rfl, hx, q⟩ := h
  refine sl_tupA pins s σ H _ v vl vu lo hi sl Q I rx hs pl pu ⟨a, xs, rfl, hx, fun e => q.old hx ?_, fun _ p n => q.new n⟩
  unfold cutV
  rw [e.1, e.2, List.drop_zero, Nat.sub_zero, List.take_length]
def tTupU (K : PySem.W.Frag) (t : TA) : TE := fun σ H Q => t σ H fun xs H1 => xs.length ≤ sizeLine ∧ Tups K H1 xs Q
theorem pe_tupU {es : List Expr} {x1 : Nat} {pos : Pos} {t : TA} (h : PA X es t) : PE X (.Tuple es x1 pos) (tTupU X.K t) :=
  PEweak (pe_tup (PAup h)) fun σ H Q q => ⟨_, q, fun vs H' k => ⟨k.1, fun p n => k.2.new n⟩⟩
theorem call_divmodU : CallR X (.builtin "divmod") (fun xs H Q => ∃ i j, xs = [.int i, .int j] ∧ CDiv i j ∧ Tups X.K H [.int (i / j), .int (i % j)] Q) := by
  intro pins s σ H xs us Q I r h
  obtain ⟨i, j, e, c, q⟩ := h
  exact call_divmod pins s σ H xs us Q I r ⟨i, j, e, c, fun p n => q.new n⟩
theorem call_tupleU : CallR X (.type "tuple") (fun xs H Q => ∃ p ys, xs = [.ref p] ∧ SqL X.K H p ys ∧ Tups X.K H ys Q) := by
  intro pins s σ H xs us Q I r h
  obtain ⟨p, ys, e, hp, q⟩ := h
  exact call_tuple_of pins s σ H xs us Q I r ⟨p, ys, e, .inl ⟨hp, fun l n => q.new n⟩⟩
theorem pe_globI {x : Str} {n : Int} {pos : Pos} (hg : Gl X x) (h : ∃ t, X.mg x = some (.int n t)) (hd : (x == ("__debug__" : Str)) = false := by decide) : PE X (.Name x pos) (tC (.int n)) := by
  obtain ⟨t, e⟩ := h
  exact pe_glob hg e ⟨t, rfl⟩ hd
def tGT (K : PySem.W.Frag) (xs : List V) : TE := fun _ H Q => ∀ a, (∀ H', SqT K H' a xs) → Q (.ref a) H
theorem pe_globT {x : Str} {xs : List V} {pos : Pos} (hg : Gl X x) (h : ∃ a, X.mg x = some (.ref a) ∧ ∀ H', SqT X.K H' a xs) (hd : (x == ("__debug__" : Str)) = false := by decide) : PE X (.Name x pos) (tGT X.K xs) := by
  obtain ⟨a, e, q⟩ := h
  exact PEweak (pe_glob (v := .ref a) hg e rfl hd) fun σ H Q k => k a q
theorem pe_btype {x : Str} {n : String} {pos : Pos} (hg : Gl X x) (hm : X.mg x = none) (hv : bootBuiltins x = some (.type n)) (hn : x ≠ "__name__" := by decide) (hd : (x == ("__debug__" : Str)) = false := by decide) : PE X (.Name x pos) (tC (.ty n)) := pe_bltn hg hm hv rfl hn hd
end

/-! ### a def that is called -/
structure Cal (P : Program) (w : World) (K : PySem.W.Frag) (mg : Str → Option Value) (base : Heap) (x : Str) (k : Nat) (ps : List Str) (sp : Sp) : Prop where
  ex : ∃ f fd, FnOk P w K mg base CX0 k f fd ps sp ∧ mg x = some (.ref f) ∧ PySem.W.keepIn K (.ref f) = true ∧ Binds K fd ps []
theorem pe_c {X : Cx} {x : Str} {k : Nat} {ps : List Str} {sp : Sp} {p pos : Pos} {e : Expr} {es : List Expr} {t : TA} (C : Cal X.prog X.w X.K X.mg X.base x k ps sp) (hr : Room k X.A) (ha : PA X (e :: es) t) (hg : Gl X x := by rfl) (hdb : (x == ("__debug__" : Str)) = false := by decide)
    (he : starEach (e :: es) X.env = (false, eval e X.env) :: starEach es X.env := by rfl) (hpl : (backTo pos (starEach es X.env)).any (·.1) = false := by rfl) : PE X (.Call (.Name x p) (e :: es) [] pos) (tCall sp [] E0 t) := by
  obtain ⟨f, fd, F, m, kp, b⟩ := C.ex
  exact pe_call F hr hg m kp b .nil pass0 ha hdb he hpl

/-! ### joining ways -/
theorem seq_by {t u : TS} {D : Ends} {σ : L2.St} {H : Hp} (P : L2.St → Hp → Prop) (h2 : ∀ σ H, P σ H → u D σ H) (h1 : (∀ σ H, P σ H → u D σ H) → t { D with nx := u D } σ H) : tSeq t u D σ H := h1 h2

theorem seq_c {v : V} {i : Nat} {u : TS} {D : Ends} {σ : L2.St} {H : Hp} (h : u D (σ.set i (some v)) H) : tSeq (tAsg (tC v) (gName i)) u D σ H := h

theorem if_by {c : TT} {a b : TS} {D : Ends} {σ : L2.St} {H : Hp} (PY : Prop) (hX : a D σ H) (hY : PY → b D σ H) (hc : (∀ k : Bool, (k = false → PY) → if k = true then a D σ H else b D σ H) → c σ H fun k H1 => if k = true then a D σ H1 else b D σ H1) : tIfS c a b D σ H := hc (fun k h => by
  cases k with
  | true => rw [if_pos rfl]; exact hX
  | false => rw [if_neg Bool.false_ne_true]; exact hY (h rfl))

theorem if_by2 {c : TT} {a b : TS} {D : Ends} {σ : L2.St} {H : Hp} (PX PY : Prop) (hX : PX → a D σ H) (hY : PY → b D σ H) (hc : (∀ k : Bool, (k = true → PX) → (k = false → PY) → if k = true then a D σ H else b D σ H) → c σ H fun k H1 => if k = true then a D σ H1 else b D σ H1) : tIfS c a b D σ H := hc (fun k hx h => by
  cases k with
  | true => rw [if_pos rfl]; exact hX (hx rfl)
  | false => rw [if_neg Bool.false_ne_true]; exact hY (h rfl))

theorem seq_if2 {c : TT} {a b u : TS} {D : Ends} {σ : L2.St} {H : Hp} (PX PY : Prop) (hX : PX → a { D with nx := u D } σ H) (hY : PY → b { D with nx := u D } σ H) (hc : (∀ k : Bool, (k = true → PX) → (k = false → PY) → if k = true then a { D with nx := u D } σ H else b { D with nx := u D } σ H) → c σ H fun k H1 => if k = true then a { D with nx := u D } σ H1 else b { D with nx := u D } σ H1) : tSeq (tIfS c a b) u D σ H := if_by2 PX PY hX hY hc

/-! ### isinstance -/
theorem k_ii {K : PySem.W.Frag} : PySem.W.kitOne K (.type "int") (.type "int") = some true := kit_ty (by decide +kernel)
theorem k_ib {K : PySem.W.Frag} : PySem.W.kitOne K (.type "int") (.type "bool") = some false := kit_ty (by decide +kernel)
theorem k_it {K : PySem.W.Frag} : PySem.W.kitOne K (.type "int") (.type "tuple") = some false := kit_ty (by decide +kernel)
theorem k_is' {K : PySem.W.Frag} : PySem.W.kitOne K (.type "int") (.type "str") = some false := kit_ty (by decide +kernel)
theorem k_tb {K : PySem.W.Frag} : PySem.W.kitOne K (.type "tuple") (.type "bool") = some false := kit_ty (by decide +kernel)
theorem k_tt {K : PySem.W.Frag} : PySem.W.kitOne K (.type "tuple") (.type "tuple") = some true := kit_ty (by decide +kernel)
theorem k_bb {K : PySem.W.Frag} : PySem.W.kitOne K (.type "bool") (.type "bool") = some true := kit_ty (by decide +kernel)
theorem k_sb {K : PySem.W.Frag} : PySem.W.kitOne K (.type "str") (.type "bool") = some false := kit_ty (by decide +kernel)
theorem k_st {K : PySem.W.Frag} : PySem.W.kitOne K (.type "str") (.type "tuple") = some false := kit_ty (by decide +kernel)
theorem k_ss {K : PySem.W.Frag} : PySem.W.kitOne K (.type "str") (.type "str") = some true := kit_ty (by decide +kernel)
theorem ty_tup {K : PySem.W.Frag} {H : Hp} {a : Addr} {xs : List V} (h : SqT K H a xs) : TyX K H (.ref a) (.type "tuple") := by
  rcases h with (h | ⟨o, h⟩) | ⟨o, its, n, h, c, _⟩
  · exact .base (.tup h)
  · exact .fTuple h
  · exact .kTuple h c

/-! ### cuts of whole numbers -/
theorem cut_to (ns : List Int) (k : Nat) : cutV (ns.map V.int) none (some (k : Int)) = (ns.take k).map V.int := by
  unfold cutV
  rw [HT.sIx_none, HT.sIx_nat, List.drop_zero, Nat.sub_zero, List.length_map, List.map_take]
  by_cases h : k ≤ ns.length
  · rw [Nat.min_eq_left h]
  · have h' : ns.length ≤ k := by omega
    rw [Nat.min_eq_right h', List.take_of_length_le (by rw [List.length_map]; omega), List.take_of_length_le (by rw [List.length_map]; omega)]
theorem cut_from (ns : List Int) (k : Nat) : cutV (ns.map V.int) (some (k : Int)) none = (ns.drop k).map V.int := by
  unfold cutV
  rw [HT.sIx_none, HT.sIx_nat, List.length_map, List.map_drop]
  by_cases h : k ≤ ns.length
  · rw [Nat.min_eq_left h]
    exact List.take_of_length_le (by rw [List.length_drop, List.length_map]; omega)
  · have h' : ns.length ≤ k := by omega
    rw [Nat.min_eq_right h', List.drop_of_length_le (by rw [List.length_map]; omega), List.drop_of_length_le (by rw [List.length_map]; omega), List.take_nil]
theorem cut_mid (ns : List Int) (i j : Nat) : cutV (ns.map V.int) (some (i : Int)) (some (j : Int)) = ((ns.drop i).take (j - i)).map V.int := by
  unfold cutV
  rw [HT.sIx_nat, HT.sIx_nat, List.length_map, List.map_take, List.map_drop]
  by_cases h : i ≤ ns.length
  · rw [Nat.min_eq_left h]
    by_cases g : j ≤ ns.length
    · rw [Nat.min_eq_left g]
    · have g' : ns.length ≤ j := by omega
      rw [Nat.min_eq_right g', List.take_of_length_le (by rw [List.length_drop, List.length_map]; omega), List.take_of_length_le (by rw [List.length_drop, List.length_map]; omega)]
  · have h' : ns.length ≤ i := by omega
    rw [Nat.min_eq_right h', List.drop_of_length_le (by rw [List.length_map]; omega), List.drop_of_length_le (by rw [List.length_map]; omega), List.take_nil, List.take_nil]

/-! ### a comprehension whose items are told by a row -/
theorem lc_row {K : PySem.W.Frag} {a : Addr} {xs ys : List V} {te : TE} {vs : List Nat} {σ : L2.St} {H1 : Hp} {D : Addr} {j : Nat} {Qd : Hp → Prop} (nD : H1 D = none) (hs : SqL K H1 a xs) (hy : ys.length = xs.length) (hz : xs.length ≤ sizeLine)
    (hw : ∀ x, wipe ((wipe σ vs).set j (some x)) vs = wipe σ vs)
    (turn : ∀ (i : Nat) (x y : V) (H : Hp) (R : V → Hp → Prop), xs[i]? = some x → ys[i]? = some y → Same H1 H → (∀ H', Same H H' → R y H') → te ((wipe σ vs).set j (some x)) H R) (hd : ∀ H', Same H1 H' → H' D = some (.lst ys) → Qd H') :
    ∃ W : Nat → Nat → Hp → Prop, (∃ m, W 0 m (upd H1 D (.lst []))) ∧ ∀ i m H, W i m H →
      ((Itl K a).stop i H ∧ Qd H) ∨ ((Itl K a).go i H ∧ ∃ Nx : Hp → Prop, (∀ H', Nx H' → ∃ m', m' < m ∧ W (i + 1) m' H') ∧ ∀ x H', (Itl K a).yld i H x H' → gName j x (wipe σ vs) H' fun σ2 H2 => wipe σ2 vs = wipe σ vs ∧ tYes σ2 H2 fun b H3 =>
        if b = true then te σ2 H3 fun y H4 => ∃ acc, H4 D = some (.lst acc) ∧ acc.length < sizeLine ∧ Nx (upd H4 D (.lst (acc ++ [y]))) else Nx H3) := by
  refine lc_list (xs := xs) (fun i H => Same H1 H ∧ H D = some (.lst (ys.take i))) ⟨grow nD, upd_same⟩ (fun i H _ p => p.1.seq hs) (fun i x H hx p => ?_) (fun H p => hd H p.1 ?_)
  · have hi : i < xs.length := (List.getElem?_eq_some_iff.mp hx).1
    have hiy : i < ys.length := by omega
    refine ⟨hw x, ?_⟩
    unfold tYes
    dsimp only
    rw [if_pos rfl]
    refine turn i x ys[i] H _ hx (List.getElem?_eq_getElem hiy) p.1 fun H' sm => ⟨ys.take i, sm _ _ p.2, ?_, ?_, ?_⟩
    · rw [List.length_take]; omega
    · exact (p.1.trans sm).over nD
    · rw [upd_same, List.take_add_one, List.getElem?_eq_getElem hiy]
      rfl
  · have := p.2
    rw [← hy, List.take_length] at this
    exact this
theorem lc_rng {lo : Int} {n : Nat} {ys : List V} {te : TE} {vs : List Nat} {σ : L2.St} {H1 : Hp} {D : Addr} {j : Nat} {Qd : Hp → Prop} (nD : H1 D = none) (hy : ys.length = n) (hz : n ≤ sizeLine)
    (hw : ∀ x, wipe ((wipe σ vs).set j (some x)) vs = wipe σ vs)
    (turn : ∀ (i : Nat) (y : V) (H : Hp) (R : V → Hp → Prop), i < n → ys[i]? = some y → Same H1 H → (∀ H', Same H H' → R y H') → te ((wipe σ vs).set j (some (.int (lo + i)))) H R) (hd : ∀ H', Same H1 H' → H' D = some (.lst ys) → Qd H') :
    ∃ W : Nat → Nat → Hp → Prop, (∃ m, W 0 m (upd H1 D (.lst []))) ∧ ∀ i m H, W i m H →
      ((Itr lo n).stop i H ∧ Qd H) ∨ ((Itr lo n).go i H ∧ ∃ Nx : Hp → Prop, (∀ H', Nx H' → ∃ m', m' < m ∧ W (i + 1) m' H') ∧ ∀ x H', (Itr lo n).yld i H x H' → gName j x (wipe σ vs) H' fun σ2 H2 => wipe σ2 vs = wipe σ vs ∧ tYes σ2 H2 fun b H3 =>
        if b = true then te σ2 H3 fun y H4 => ∃ acc, H4 D = some (.lst acc) ∧ acc.length < sizeLine ∧ Nx (upd H4 D (.lst (acc ++ [y]))) else Nx H3) := by
  refine lc_range (fun i H => Same H1 H ∧ H D = some (.lst (ys.take i))) ⟨grow nD, upd_same⟩ (fun i H hi p => ?_) (fun H p => hd H p.1 ?_)
  · have hiy : i < ys.length := by omega
    refine ⟨hw _, ?_⟩
    unfold tYes
    dsimp only
    rw [if_pos rfl]
    refine turn i ys[i] H _ hi (List.getElem?_eq_getElem hiy) p.1 fun H' sm => ⟨ys.take i, sm _ _ p.2, ?_, ?_, ?_⟩
    · rw [List.length_take]; omega
    · exact (p.1.trans sm).over nD
    · rw [upd_same, List.take_add_one, List.getElem?_eq_getElem hiy]
      rfl
  · have := p.2
    rw [← hy, List.take_length] at this
    exact this
end Fc

namespace Fc
open PySem PySem.Spec L2 PyProof.Rows
/-! ### [e for x, y in zip(t, u)] over tuples, its items told by a row -/
theorem lc_zip {K : PySem.W.Frag} {a b : Addr} {xs ys zs : List V} {te : TE} {vs : List Nat} {σ : L2.St} {H1 : Hp} {D : Addr} {j k : Nat} {Qd : Hp → Prop} (nD : H1 D = none) (ha : SqT K H1 a xs) (hb : SqT K H1 b ys) (hy : ys.length = xs.length) (hzl : zs.length = xs.length) (hz : xs.length ≤ sizeLine)
    (hw : ∀ x y, wipe (((wipe σ vs).set j (some x)).set k (some y)) vs = wipe σ vs)
    (turn : ∀ (i : Nat) (x y z : V) (H : Hp) (R : V → Hp → Prop), xs[i]? = some x → ys[i]? = some y → zs[i]? = some z → Same H1 H → (∀ H', Same H H' → R z H') → te (((wipe σ vs).set j (some x)).set k (some y)) H R) (hd : ∀ H', Same H1 H' → H' D = some (.lst zs) → Qd H') :
    ∃ W : Nat → Nat → Hp → Prop, (∃ m, W 0 m (upd H1 D (.lst []))) ∧ ∀ i m H, W i m H →
      ((RZ.ItzT K a b).stop i H ∧ Qd H) ∨ ((RZ.ItzT K a b).go i H ∧ ∃ Nx : Hp → Prop, (∀ H', Nx H' → ∃ m', m' < m ∧ W (i + 1) m' H') ∧ ∀ x H', (RZ.ItzT K a b).yld i H x H' → gTup K 2 (gCons (gName j) (gCons (gName k) gNil)) x (wipe σ vs) H' fun σ2 H2 => wipe σ2 vs = wipe σ vs ∧ tYes σ2 H2 fun b H3 =>
        if b = true then te σ2 H3 fun y H4 => ∃ acc, H4 D = some (.lst acc) ∧ acc.length < sizeLine ∧ Nx (upd H4 D (.lst (acc ++ [y]))) else Nx H3) := by
  refine ⟨fun i m H => m = xs.length - i ∧ i ≤ xs.length ∧ Same H1 H ∧ H D = some (.lst (zs.take i)), ⟨xs.length, rfl, Nat.zero_le _, grow nD, upd_same⟩, ?_⟩
  rintro i m H ⟨rfl, hi, sm, hD⟩
  have qa := keepT sm ha
  have qb := keepT sm hb
  by_cases lt : i < xs.length
  · have ly : i < ys.length := by omega
    have lz : i < zs.length := by omega
    refine .inr ⟨⟨xs, ys, xs[i], ys[i], qa, qb, List.getElem?_eq_getElem lt, List.getElem?_eq_getElem ly⟩, fun H' => Same H1 H' ∧ H' D = some (.lst (zs.take (i + 1))), fun H' p => ⟨xs.length - (i + 1), by omega, rfl, lt, p.1, p.2⟩, fun v H' yl => ?_⟩
    obtain ⟨T, x, y, rfl, nT, rfl, fx, fy⟩ := yl
    have ex : xs[i]? = some x := fx xs qa
    have ey : ys[i]? = some y := fy ys qb
    refine ⟨T, [x, y], rfl, SqT.of upd_same, rfl, x, [y], rfl, y, [], rfl, rfl, hw x y, ?_⟩
    unfold tYes
    dsimp only
    rw [if_pos rfl]
    have sT : Same H (upd H T (.tup [x, y])) := grow nT
    refine turn i x y zs[i] _ _ ex ey (List.getElem?_eq_getElem lz) (sm.trans sT) fun H' e => ⟨zs.take i, e _ _ (sT _ _ hD), ?_, ?_, ?_⟩
    · rw [List.length_take]; omega
    · exact (sm.trans (sT.trans e)).over nD
    · rw [upd_same, List.take_add_one, List.getElem?_eq_getElem lz]
      rfl
  · have e : i = xs.length := by omega
    subst e
    refine .inl ⟨⟨xs, ys, qa, qb, .inl (Nat.le_refl _)⟩, hd H sm ?_⟩
    rw [hD, ← hzl, List.take_length]
end Fc

namespace Fc
open PySem PySem.Spec L2 PyProof.Rows
/-! ### lists that a def made itself -/
theorem keepT_lst {K : PySem.W.Frag} {H : Hp} {p t : Addr} {xs ys zs : List V} (h : SqT K H t xs) (e : H p = some (.lst ys)) : SqT K (upd H p (.lst zs)) t xs := by
  rcases h with (h | ⟨o, h⟩) | h
  · refine .inl (.inl ?_)
    rw [upd_ne (fun z => by rw [z, e] at h; cases h)]
    exact h
  · refine .inl (.inr ⟨o, ?_⟩)
    rw [upd_ne (fun z => by rw [z, e] at h; cases h)]
    exact h
  · exact .inr h
theorem keep_lst {H H' : Hp} {p : Addr} {zs : List V} (e : Same H H') (n : H p = none) : Same H (upd H' p (.lst zs)) := e.over n
theorem got {ns : List Int} {i : Nat} {x : V} (h : (ns.map V.int)[i]? = some x) : ∃ n, ns[i]? = some n ∧ x = .int n := by
  rw [List.getElem?_map] at h
  cases e : ns[i]? with
  | none => rw [e] at h; cases h
  | some n =>
    rw [e] at h
    exact ⟨n, rfl, (Option.some.inj h).symm⟩
theorem drop_head {S : List Int} {k : Nat} {x : Int} {r : List Int} (h : S.drop k = x :: r) : S[k]? = some x := by
  have := congrArg (·[0]?) h
  simpa [List.getElem?_drop] using this
theorem drop_more {S : List Int} {k : Nat} {x : Int} {r : List Int} (h : S.drop k = x :: r) : S.drop (k + 1) = r := by
  have := congrArg (·.drop 1) h
  simpa [List.drop_drop] using this
/-! ### the bytes of a number -/
def numB (n : Int) : List Int := if 127 < n then (n % 128 + 128) :: numB (n / 128) else [n]
termination_by n.toNat
decreasing_by omega
theorem numB_big {n : Int} (h : 127 < n) : numB n = (n % 128 + 128) :: numB (n / 128) := by
  conv => lhs; rw [numB]
  rw [if_pos h]
theorem numB_small {n : Int} (h : ¬ 127 < n) : numB n = [n] := by
  rw [numB, if_neg h]
theorem numB_len : ∀ (k : Nat) (n : Int), 0 ≤ n → n < 128 ^ (k + 1) → (numB n).length ≤ k + 1
  | 0, n, h0, h1 => by
    have : n < 128 := h1
    rw [numB_small (by omega)]
    simp
  | k + 1, n, h0, h1 => by
    by_cases z : 127 < n
    · rw [numB_big z, List.length_cons]
      have e : (128 : Int) ^ (k + 1 + 1) = 128 ^ (k + 1) * 128 := Int.pow_succ _ _
      have := numB_len k (n / 128) (by omega) (by
        rw [e] at h1
        exact Int.ediv_lt_of_lt_mul (by decide) h1)
      omega
    · rw [numB_small z]
      simp
theorem numB_few {n : Int} (h0 : 0 ≤ n) (h1 : n < 4398046511104) : (numB n).length ≤ 6 := numB_len 5 n h0 (by
  have : (128 : Int) ^ (5 + 1) = 4398046511104 := by decide
  rw [this]
  exact h1)
/-! ### fixed bytes -/
def low : Nat → Int → List Int
  | 0, _ => []
  | k + 1, n => n % 256 :: low k (n / 256)
def sh : Nat → Int → Int
  | 0, n => n
  | k + 1, n => sh k (n / 256)
theorem low_len : ∀ (k : Nat) (n : Int), (low k n).length = k
  | 0, _ => rfl
  | k + 1, n => by rw [low, List.length_cons, low_len]
theorem low_more : ∀ (k : Nat) (n : Int), low (k + 1) n = low k n ++ [sh k n % 256]
  | 0, n => rfl
  | k + 1, n => by
    rw [low, low_more k (n / 256)]
    rfl
theorem sh_more : ∀ (k : Nat) (n : Int), sh (k + 1) n = sh k n / 256
  | 0, n => rfl
  | k + 1, n => by
    show sh (k + 1) (n / 256) = sh k (n / 256) / 256
    rw [sh_more k (n / 256)]
def val256 (l : List Int) : Int := l.foldl (fun x b => x * 256 + b) 0
theorem val_low : ∀ (k : Nat) (n : Int), 0 ≤ n → n < 256 ^ k → val256 (low k n).reverse = n
  | 0, n, h0, h1 => by
    have : n < 1 := h1
    show (0 : Int) = n
    omega
  | k + 1, n, h0, h1 => by
    have e : (256 : Int) ^ (k + 1) = 256 ^ k * 256 := Int.pow_succ _ _
    have ih := val_low k (n / 256) (by omega) (by
      rw [e] at h1
      exact Int.ediv_lt_of_lt_mul (by decide) h1)
    rw [low, List.reverse_cons]
    unfold val256 at ih ⊢
    rw [List.foldl_append, ih]
    show n / 256 * 256 + n % 256 = n
    omega
theorem val_take {l : List Int} {i : Nat} {x : Int} (h : l[i]? = some x) : val256 (l.take (i + 1)) = val256 (l.take i) * 256 + x := by
  unfold val256
  rw [List.take_add_one, h, Option.toList_some, List.foldl_append]
  rfl
end Fc

namespace Fc
open PySem PySem.Spec L2 PyProof.Rows
/-! ### data of tuples, in heaps that grow -/
mutual
theorem dpKeep {K : PySem.W.Frag} {H H' : Hp} (e : Same H H') : ∀ {d : PyData} {v : V}, Dp K H v d → Dp K H' v d
  | .none, _, .non => .non
  | .bool _, _, .bl b => .bl b
  | .int _, _, .int i => .int i
  | .str _, _, .str x => .str x
  | .list _, _, .lst h hs => .lst (e.seq h) (dpKeepAll e hs)
  | .tuple _, _, .tup h hs => .tup (keepT e h) (dpKeepAll e hs)
theorem dpKeepAll {K : PySem.W.Frag} {H H' : Hp} (e : Same H H') : ∀ {ds : List PyData} {vs : List V}, DpAll K H vs ds → DpAll K H' vs ds
  | [], _, .nil => .nil
  | _ :: _, _, .cons h hs => .cons (dpKeep e h) (dpKeepAll e hs)
end
mutual
def tupsOnly : PyData → Bool
  | .none | .bool _ | .int _ | .str _ => true
  | .tuple ds => decide (ds.length ≤ 100000) && tupsAll ds
  | .list _ | .dict _ => false
def tupsAll : List PyData → Bool
  | [] => true
  | d :: r => tupsOnly d && tupsAll r
end
theorem tupsAll_get : ∀ {ds : List PyData} {i : Nat} {d : PyData}, tupsAll ds = true → ds[i]? = some d → tupsOnly d = true
  | [], _, _, _, h => by cases h
  | x :: r, 0, d, h, e => by
    rw [tupsAll, Bool.and_eq_true] at h
    cases e
    exact h.1
  | x :: r, i + 1, d, h, e => by
    rw [tupsAll, Bool.and_eq_true] at h
    exact tupsAll_get h.2 e
theorem depth_get : ∀ {ds : List PyData} {i : Nat} {d : PyData}, ds[i]? = some d → PyData.depth d ≤ PyData.depthAll ds
  | [], _, _, h => by cases h
  | x :: r, 0, d, e => by
    cases e
    rw [PyData.depthAll]
    exact Nat.le_max_left _ _
  | x :: r, i + 1, d, e => by
    rw [PyData.depthAll]
    exact Nat.le_trans (depth_get (ds := r) e) (Nat.le_max_right _ _)
theorem dpLen {K : PySem.W.Frag} {H : Hp} : ∀ {vs : List V} {ds : List PyData}, DpAll K H vs ds → vs.length = ds.length
  | _, _, .nil => rfl
  | _, _, .cons _ hs => congrArg (· + 1) (dpLen hs)
theorem dpGet {K : PySem.W.Frag} {H : Hp} : ∀ {vs : List V} {ds : List PyData} {i : Nat} {v : V}, DpAll K H vs ds → vs[i]? = some v → ∃ d, ds[i]? = some d ∧ Dp K H v d
  | _, _, _, _, .nil, h => by cases h
  | _, _, 0, _, .cons h hs, e => by
    cases e
    exact ⟨_, rfl, h⟩
  | _, _, i + 1, _, .cons h hs, e => dpGet (i := i) hs e
theorem dpInts {K : PySem.W.Frag} {H : Hp} : ∀ (A : List Int), DpAll K H (A.map V.int) (A.map PyData.int)
  | [] => .nil
  | a :: r => .cons (.int a) (dpInts r)
theorem tupsAll_ints : ∀ (A : List Int), tupsAll (A.map PyData.int) = true
  | [] => rfl
  | a :: r => by rw [List.map_cons, tupsAll, tupsAll_ints r]; rfl
theorem depthAll_ints : ∀ (A : List Int), PyData.depthAll (A.map PyData.int) = 0
  | [] => rfl
  | a :: r => by rw [List.map_cons, PyData.depthAll, depthAll_ints r]; rfl
/-- a tuple of whole numbers, as data -/
abbrev dInts (A : List Int) : PyData := .tuple (A.map PyData.int)
theorem dpTup {K : PySem.W.Frag} {H : Hp} {p : Addr} {A : List Int} (h : SqT K H p (A.map V.int)) : Dp K H (.ref p) (dInts A) := .tup h (dpInts A)
theorem dInts_ok (A : List Int) (h : A.length ≤ 100000) : tupsOnly (dInts A) = true ∧ PyData.depth (dInts A) ≤ 1 := ⟨by
  rw [tupsOnly, tupsAll_ints, decide_eq_true (by rw [List.length_map]; exact h)]
  rfl, by
  show PyData.depthAll (A.map PyData.int) + 1 ≤ 1
  rw [depthAll_ints]
  exact Nat.le_refl 1⟩
end Fc

namespace Fc
open PySem PySem.Spec L2 PyProof.Rows
/-! ### texts as rows of codes -/
def mkS (l : List Nat) : Str := ⟨l.toArray⟩
def T (l : List Nat) : V := .str (mkS l)
theorem tl_mkS (l : List Nat) : TL.tl (mkS l) = l := rfl
theorem mkS_tl (x : Str) : mkS (TL.tl x) = x := TL.mk_tl x
theorem mkS_inj {a b : List Nat} (h : mkS a = mkS b) : a = b := by
  have := congrArg TL.tl h
  exact this
theorem T_inj {a b : List Nat} (h : T a = T b) : a = b := mkS_inj (V.str.inj h)
theorem dec_T {a b : List Nat} : decide (T a = T b) = decide (a = b) := by
  by_cases z : a = b
  · rw [z]; simp
  · rw [decide_eq_false z]; exact decide_eq_false fun k => z (T_inj k)
theorem len_mkS (l : List Nat) : (mkS l).length = l.length := TL.len_tl _
theorem mkS_app (a b : List Nat) : mkS a ++ mkS b = mkS (a ++ b) := TL.ext_tl (by rw [TL.tl_append]; rfl)
theorem mkS_cut (l : List Nat) (lo hi : Option Int) : cutS (mkS l) lo hi = mkS ((l.drop (HT.sIx l.length 0 lo)).take (HT.sIx l.length l.length hi - HT.sIx l.length 0 lo)) := by
  apply TL.ext_tl
  unfold cutS
  rw [len_mkS]
  first
    | rfl
    | (rw [TL.tl_strSub]; rfl)
/-! ### pieces between strokes -/
def splitC (c : Nat) : List Nat → List (List Nat)
  | [] => [[]]
  | x :: r => if x = c then [] :: splitC c r else match splitC c r with
    | [] => [[x]]
    | p :: ps => (x :: p) :: ps
theorem splitC_ne (c : Nat) : ∀ l, splitC c l ≠ []
  | [] => by simp [splitC]
  | x :: r => by
    rw [splitC]
    split
    · simp
    · split <;> simp
theorem spl_splitC (c : Nat) : ∀ (l acc : List Nat), TL.spl [c] 0 acc l = (match splitC c l with | [] => [acc] | p :: ps => (acc ++ p) :: ps)
  | [], acc => by
    rw [TL.spl_nil, splitC]
    simp
  | x :: r, acc => by
    by_cases z : x = c
    · subst z
      rw [TL.spl_hit (by unfold TL.pre; simp)]
      show acc :: TL.spl [x] 0 [] r = _
      rw [spl_splitC x r [], splitC, if_pos rfl]
      cases e : splitC x r with
      | nil => exact absurd e (splitC_ne x r)
      | cons p ps => simp
    · rw [TL.spl_miss (TL.pre_of_head [] r z), spl_splitC c r (acc ++ [x]), splitC, if_neg z]
      cases e : splitC c r with
      | nil => exact absurd e (splitC_ne c r)
      | cons p ps => simp
theorem split_mkS (c : Nat) (hc : c < 256) (l : List Nat) : Txt.split (mkS l) (mkS [c]) = (splitC c l).map mkS := by
  apply TL.map_tl_inj
  rw [TL.split_spl (mkS l) (mkS [c]) (by rw [tl_mkS]; simp) (TL.kind_ok (by simp [mkS, hc]))]
  rw [tl_mkS, tl_mkS, spl_splitC, List.map_map]
  have e : (TL.tl ∘ mkS) = id := rfl
  rw [e, List.map_id]
  cases e2 : splitC c l with
  | nil => exact absurd e2 (splitC_ne c l)
  | cons p ps => simp
def joinC (c : Nat) (ps : List (List Nat)) : List Nat := TL.joinL [c] ps
theorem join_mkS (c : Nat) (ps : List (List Nat)) : Txt.join (mkS [c]) (ps.map mkS) = mkS (joinC c ps) := by
  apply TL.ext_tl
  rw [TL.join_eq, TL.tl_join, List.map_map]
  have e : (TL.tl ∘ mkS) = id := rfl
  rw [e, List.map_id]
  rfl
theorem split_joinC (c : Nat) {ps : List (List Nat)} (hne : ps ≠ []) (h : ∀ p ∈ ps, c ∉ p) : splitC c (joinC c ps) = ps := by
  have e := TL.spl_join (s := c) (S := []) hne h
  have e2 := spl_splitC c (joinC c ps) []
  rw [show TL.spl [c] 0 [] (joinC c ps) = ps from e] at e2
  cases q : splitC c (joinC c ps) with
  | nil => exact absurd q (splitC_ne _ _)
  | cons p r =>
    rw [q] at e2
    simpa using e2.symm
theorem joinC_len (c : Nat) : ∀ (ps : List (List Nat)) (m : Nat), (∀ p ∈ ps, p.length ≤ m) → (joinC c ps).length ≤ ps.length * (m + 1)
  | [], m, _ => by simp [joinC, TL.joinL]
  | [p], m, h => by
    have := h p (by simp)
    simp [joinC, TL.joinL]
    omega
  | p :: q :: r, m, h => by
    have ih := joinC_len c (q :: r) m fun x hx => h x (List.mem_cons_of_mem _ hx)
    have hp := h p (by simp)
    have e : joinC c (p :: q :: r) = p ++ [c] ++ joinC c (q :: r) := by simp [joinC, TL.joinL]
    have e3 : (p :: q :: r).length * (m + 1) = (q :: r).length * (m + 1) + (m + 1) := by
      show ((q :: r).length + 1) * (m + 1) = _
      rw [Nat.add_mul, Nat.one_mul]
    have e4 : ([c] : List Nat).length = 1 := rfl
    rw [e, e3, List.length_append, List.length_append, e4]
    omega
end Fc

namespace Fc
open PySem PySem.Spec L2 PyProof.Rows
/-! ### parts and paths -/
/-- a to z, 0 to 9, the dot, the two strokes -/
def good : List Nat := [97, 98, 99, 100, 101, 102, 103, 104, 105, 106, 107, 108, 109, 110, 111, 112, 113, 114, 115, 116, 117, 118, 119, 120, 121, 122, 48, 49, 50, 51, 52, 53, 54, 55, 56, 57, 46, 45, 95]
def partOk (p : List Nat) : Prop := 1 ≤ p.length ∧ p.length ≤ 12 ∧ p ≠ [46] ∧ p ≠ [46, 46] ∧ ∀ c ∈ p, c ∈ good
instance (p : List Nat) : Decidable (partOk p) := by
  unfold partOk
  infer_instance
theorem no_stroke {p : List Nat} (h : partOk p) : 47 ∉ p := fun m => absurd (h.2.2.2.2 47 m) (by decide)
inductive CRes where
  | bad
  | out
  | ok (kept : List (List Nat))
def walkC : List (List Nat) → List (List Nat) → CRes
  | [], kept => if kept = [] ∨ 8 < kept.length then .bad else .ok kept
  | p :: r, kept => if p = [46, 46] then (if kept = [] then .out else walkC r kept.dropLast) else if p = [] ∨ p = [46] then walkC r kept else if partOk p then walkC r (kept ++ [p]) else .bad
def cleanF (l : List Nat) : CRes := if l.head? = some 47 then .out else walkC (splitC 47 l) []
/-- the path that these parts make -/
def pathOf (ps : List (List Nat)) : List Nat := joinC 47 ps
def PathOk (ps : List (List Nat)) : Prop := ps ≠ [] ∧ ps.length ≤ 8 ∧ ∀ p ∈ ps, partOk p
theorem walkC_ok : ∀ (ps kept : List (List Nat)) {k2 : List (List Nat)}, (∀ p ∈ kept, partOk p) → walkC ps kept = .ok k2 → PathOk k2
  | [], kept, k2, h, e => by
    rw [walkC] at e
    split at e
    · cases e
    · rename_i z
      cases e
      exact ⟨fun q => z (.inl q), by omega, h⟩
  | p :: r, kept, k2, h, e => by
    rw [walkC] at e
    split at e
    · split at e
      · cases e
      · exact walkC_ok r _ (fun q hq => h q ((List.dropLast_sublist _).mem hq)) e
    · split at e
      · exact walkC_ok r _ h e
      · split at e
        · rename_i g
          refine walkC_ok r _ (fun q hq => ?_) e
          rcases List.mem_append.mp hq with hq | hq
          · exact h q hq
          · rw [List.mem_singleton.mp hq]
            exact g
        · cases e
theorem cleanF_ok {l : List Nat} {ps : List (List Nat)} (h : cleanF l = .ok ps) : PathOk ps := by
  unfold cleanF at h
  split at h
  · cases h
  · exact walkC_ok _ _ (fun p hp => by cases hp) h
theorem walkC_parts : ∀ (ps kept : List (List Nat)) (r : List (List Nat)), (∀ p ∈ ps, partOk p) → walkC (ps ++ r) kept = walkC r (kept ++ ps)
  | [], kept, r, _ => by simp
  | p :: ps, kept, r, h => by
    have g := h p (by simp)
    have n1 : p ≠ [46, 46] := g.2.2.2.1
    have n2 : ¬ (p = [] ∨ p = [46]) := fun z => by
      rcases z with z | z
      · rw [z] at g
        exact absurd g.1 (by decide)
      · exact g.2.2.1 z
    rw [List.cons_append, walkC, if_neg n1, if_neg n2, if_pos g, walkC_parts ps (kept ++ [p]) r fun q hq => h q (List.mem_cons_of_mem _ hq), List.append_assoc]
    rfl
theorem head_join {ps : List (List Nat)} (h : PathOk ps) : (pathOf ps).head? ≠ some 47 := by
  obtain ⟨hne, _, hp⟩ := h
  cases ps with
  | nil => exact absurd rfl hne
  | cons p r =>
    have g := hp p (by simp)
    cases p with
    | nil => exact absurd g.1 (by decide)
    | cons c q =>
      have nc : c ≠ 47 := fun z => no_stroke g (by rw [z]; simp)
      cases r with
      | nil =>
        show (c :: q).head? ≠ some 47
        simpa using nc
      | cons p2 r2 =>
        show ((c :: q) ++ ([47] ++ TL.joinL [47] (p2 :: r2))).head? ≠ some 47
        simpa using nc
theorem split_path {ps : List (List Nat)} (h : PathOk ps) : splitC 47 (pathOf ps) = ps := split_joinC 47 h.1 fun p hp => no_stroke (h.2.2 p hp)
theorem clean_path {ps : List (List Nat)} (h : PathOk ps) : cleanF (pathOf ps) = .ok ps := by
  unfold cleanF
  rw [if_neg (head_join h), split_path h]
  have e := walkC_parts ps [] [] h.2.2
  rw [List.append_nil, List.nil_append] at e
  rw [e, walkC, if_neg (fun z => by rcases z with z | z; exact h.1 z; exact absurd h.2.1 (by omega))]
/-! ### a stroke and two dots behind -/
theorem splitC_app (c : Nat) : ∀ (l m : List Nat), splitC c (l ++ c :: m) = splitC c l ++ splitC c m
  | [], m => by
    show splitC c (c :: m) = [[]] ++ splitC c m
    rw [splitC, if_pos rfl]
    rfl
  | x :: r, m => by
    show splitC c (x :: (r ++ c :: m)) = _
    rw [splitC, splitC, splitC_app c r m]
    by_cases z : x = c
    · rw [if_pos z, if_pos z]
      rfl
    · rw [if_neg z, if_neg z]
      cases e : splitC c r with
      | nil => exact absurd e (splitC_ne c r)
      | cons p ps => rfl
theorem clean_up {ps : List (List Nat)} (h : PathOk ps) : cleanF (pathOf ps ++ [47, 46, 46]) = if ps.dropLast = [] then .bad else .ok ps.dropLast := by
  have hd : (pathOf ps ++ [47, 46, 46]).head? ≠ some 47 := by
    have := head_join h
    cases e : pathOf ps with
    | nil =>
      have s := split_path h
      rw [e] at s
      have g := h.2.2 [] (by rw [← s]; simp [splitC])
      exact absurd g.1 (by decide)
    | cons c q =>
      rw [e] at this
      simpa using this
  unfold cleanF
  rw [if_neg hd, show pathOf ps ++ [47, 46, 46] = pathOf ps ++ 47 :: [46, 46] from rfl, splitC_app, split_path h, show splitC 47 [46, 46] = [[46, 46]] by decide, walkC_parts ps [] _ h.2.2, List.nil_append, walkC, if_pos rfl, if_neg h.1, walkC]
  have l8 : ps.dropLast.length ≤ 8 := by
    rw [List.length_dropLast]
    have := h.2.1
    omega
  by_cases z : ps.dropLast = []
  · rw [if_pos (.inl z), if_pos z]
  · rw [if_neg (fun k => by rcases k with k | k; exact z k; omega), if_neg z]
/-- the paths above -/
def aboveF (ps : List (List Nat)) : List (List Nat) := (List.range (ps.length - 1)).map fun k => pathOf (ps.take (k + 1))
theorem aboveF_last {ps : List (List Nat)} (h : ps ≠ []) : (aboveF ps).getLast? = if ps.dropLast = [] then none else some (pathOf ps.dropLast) := by
  unfold aboveF
  have lp : 0 < ps.length := List.length_pos_iff.mpr h
  have ld := List.length_dropLast (xs := ps)
  by_cases z : ps.length = 1
  · have e : ps.dropLast = [] := List.eq_nil_of_length_eq_zero (by rw [ld]; omega)
    rw [if_pos e, z]
    rfl
  · have e : ps.dropLast ≠ [] := fun q => by
      rw [q] at ld
      simp at ld
      omega
    rw [if_neg e, List.getLast?_map, List.getLast?_range]
    have z2 : ¬ ps.length - 1 = 0 := by omega
    rw [if_neg z2]
    show some (pathOf (ps.take (ps.length - 1 - 1 + 1))) = _
    rw [show ps.length - 1 - 1 + 1 = ps.length - 1 by omega, List.dropLast_eq_take]
end Fc

namespace Fc
open PySem PySem.Spec L2 PyProof.Rows
/-! ### [c for c in text if test] -/
theorem lc_sign {l : List Nat} {keep : Nat → Bool} {tt : TT} {te : TE} {vs : List Nat} {σ : L2.St} {H1 : Hp} {D : Addr} {j : Nat} {Qd : Hp → Prop} (nD : H1 D = none) (hz : l.length ≤ sizeLine)
    (hw : ∀ x, wipe ((wipe σ vs).set j (some x)) vs = wipe σ vs)
    (test : ∀ (i : Nat) (c : Nat) (H : Hp) (R : Bool → Hp → Prop), l[i]? = some c → Same H1 H → (∀ H', Same H H' → R (keep c) H') → tt ((wipe σ vs).set j (some (T [c]))) H R)
    (item : ∀ (c : Nat) (H : Hp) (R : V → Hp → Prop), Same H1 H → (∀ H', Same H H' → R (T [c]) H') → te ((wipe σ vs).set j (some (T [c]))) H R) (hd : ∀ H', Same H1 H' → H' D = some (.lst ((l.filter keep).map fun c => T [c])) → Qd H') :
    ∃ W : Nat → Nat → Hp → Prop, (∃ m, W 0 m (upd H1 D (.lst []))) ∧ ∀ i m H, W i m H →
      ((Its (mkS l)).stop i H ∧ Qd H) ∨ ((Its (mkS l)).go i H ∧ ∃ Nx : Hp → Prop, (∀ H', Nx H' → ∃ m', m' < m ∧ W (i + 1) m' H') ∧ ∀ x H', (Its (mkS l)).yld i H x H' → gName j x (wipe σ vs) H' fun σ2 H2 => wipe σ2 vs = wipe σ vs ∧ tt σ2 H2 fun b H3 =>
        if b = true then te σ2 H3 fun y H4 => ∃ acc, H4 D = some (.lst acc) ∧ acc.length < sizeLine ∧ Nx (upd H4 D (.lst (acc ++ [y]))) else Nx H3) := by
  have sz : (mkS l).cps.size = l.length := by simp [mkS]
  refine ⟨fun i m H => m = l.length - i ∧ i ≤ l.length ∧ Same H1 H ∧ H D = some (.lst (((l.take i).filter keep).map fun c => T [c])), ⟨l.length, rfl, Nat.zero_le _, grow nD, upd_same⟩, ?_⟩
  rintro i m H ⟨rfl, hi, sm, hD⟩
  by_cases lt : i < l.length
  · refine .inr ⟨by show i < (mkS l).cps.size; omega, fun H' => Same H1 H' ∧ H' D = some (.lst (((l.take (i + 1)).filter keep).map fun c => T [c])), fun H' p => ⟨l.length - (i + 1), by omega, rfl, lt, p.1, p.2⟩, fun x H' yl => ?_⟩
    obtain ⟨rfl, c, hc, rfl⟩ := yl
    have gc : l[i]? = some c := by
      have : (mkS l).cps[i]? = l[i]? := by simp [mkS]
      rw [← this]
      exact hc
    have ft : (l.take (i + 1)).filter keep = (l.take i).filter keep ++ (if keep c = true then [c] else []) := by
      rw [List.take_add_one, gc, Option.toList_some, List.filter_append]
      congr 1
      by_cases k : keep c = true
      · rw [if_pos k, List.filter_cons_of_pos k]; rfl
      · rw [if_neg k, List.filter_cons_of_neg k]; rfl
    refine ⟨hw _, test i c H' _ gc sm fun H3 s3 => ?_⟩
    by_cases k : keep c = true
    · rw [if_pos k]
      refine item c H3 _ (sm.trans s3) fun H4 s4 => ⟨_, s4 _ _ (s3 _ _ hD), ?_, ?_, ?_⟩
      · rw [List.length_map]
        have := List.length_filter_le keep (l.take i)
        rw [List.length_take] at this
        omega
      · exact (sm.trans (s3.trans s4)).over nD
      · rw [upd_same, ft, if_pos k, List.map_append]
        rfl
    · rw [if_neg k]
      refine ⟨sm.trans s3, ?_⟩
      rw [ft, if_neg k, List.append_nil]
      exact s3 _ _ hD
  · have e : i = l.length := by omega
    subst e
    refine .inl ⟨by show (mkS l).cps.size ≤ _; omega, hd H sm ?_⟩
    rw [hD, List.take_length]
theorem at_ofA {α : Type} {xs : List α} {z : Int} {j : Nat} {v : α} (e : z = (j : Int)) (h : xs[j]? = some v) : atI xs z = some v := by
  rw [e]
  exact atI_nat h
/-! ### written texts -/
theorem t_dot : (V.str (Str.ofString ".")) = T [46] := by rw [show Str.ofString "." = mkS [46] by decide +kernel]; rfl
theorem t_dots : (V.str (Str.ofString "..")) = T [46, 46] := by rw [show Str.ofString ".." = mkS [46, 46] by decide +kernel]; rfl
theorem t_none : (V.str (Str.ofString "")) = T [] := by rw [show Str.ofString "" = mkS [] by decide +kernel]; rfl
theorem t_slash : (V.str (Str.ofString "/")) = T [47] := by rw [show Str.ofString "/" = mkS [47] by decide +kernel]; rfl
theorem t_good : Str.ofString "abcdefghijklmnopqrstuvwxyz0123456789.-_" = mkS good := by decide +kernel
theorem s_slash : Str.ofString "/" = mkS [47] := by decide +kernel
theorem starts_slash (l : List Nat) : Txt.startswith (mkS l) (mkS [47]) = decide (l.head? = some 47) := by
  cases l with
  | nil => decide +kernel
  | cons c r =>
    have e : Txt.startswith (mkS (c :: r)) (mkS [47]) = Builtin.Str.subAt (mkS (c :: r)) (mkS [47]) 0 := by
      unfold Txt.startswith
      rw [decide_eq_true (by rw [len_mkS, len_mkS]; simp), Bool.true_and]
    rw [e]
    unfold Builtin.Str.subAt
    simp [mkS, Str.length]
    exact Bool.eq_iff_iff.mpr (by simp)
end Fc

namespace Fc
open PySem PySem.Spec L2 PyProof.Rows
/-! ### a comprehension whose items are known by what holds of them -/
theorem lc_rowG {K : PySem.W.Frag} {a : Addr} {xs : List V} {G : Nat → V → Hp → Prop} {te : TE} {vs : List Nat} {σ : L2.St} {H1 : Hp} {D : Addr} {j : Nat} {Qd : Hp → Prop} (nD : H1 D = none) (hs : SqL K H1 a xs) (hz : xs.length ≤ sizeLine)
    (hw : ∀ x, wipe ((wipe σ vs).set j (some x)) vs = wipe σ vs) (gk : ∀ i v H H', Same H H' → G i v H → G i v H') (gu : ∀ i v H ys zs, H D = some (.lst ys) → G i v H → G i v (upd H D (.lst zs)))
    (turn : ∀ (i : Nat) (x : V) (H : Hp) (R : V → Hp → Prop), xs[i]? = some x → Same H1 H → (∀ y H', Same H H' → G i y H' → R y H') → te ((wipe σ vs).set j (some x)) H R) (hd : ∀ ys H', ys.length = xs.length → (∀ i y, ys[i]? = some y → G i y H') → Same H1 H' → H' D = some (.lst ys) → Qd H') :
    ∃ W : Nat → Nat → Hp → Prop, (∃ m, W 0 m (upd H1 D (.lst []))) ∧ ∀ i m H, W i m H →
      ((Itl K a).stop i H ∧ Qd H) ∨ ((Itl K a).go i H ∧ ∃ Nx : Hp → Prop, (∀ H', Nx H' → ∃ m', m' < m ∧ W (i + 1) m' H') ∧ ∀ x H', (Itl K a).yld i H x H' → gName j x (wipe σ vs) H' fun σ2 H2 => wipe σ2 vs = wipe σ vs ∧ tYes σ2 H2 fun b H3 =>
        if b = true then te σ2 H3 fun y H4 => ∃ acc, H4 D = some (.lst acc) ∧ acc.length < sizeLine ∧ Nx (upd H4 D (.lst (acc ++ [y]))) else Nx H3) := by
  refine lc_list (xs := xs) (fun i H => Same H1 H ∧ ∃ ys, ys.length = i ∧ H D = some (.lst ys) ∧ ∀ k y, ys[k]? = some y → G k y H) ⟨grow nD, [], rfl, upd_same, fun k y h => nomatch h⟩ (fun i H _ p => p.1.seq hs) (fun i x H hx p => ?_) (fun H p => ?_)
  · have hi : i < xs.length := (List.getElem?_eq_some_iff.mp hx).1
    obtain ⟨sm1, ys, ly, hD, hg⟩ := p
    refine ⟨hw x, ?_⟩
    unfold tYes
    dsimp only
    rw [if_pos rfl]
    refine turn i x H _ hx sm1 fun y H' sm gy => ⟨ys, sm _ _ hD, by omega, ?_, ys ++ [y], ?_, upd_same, ?_⟩
    · exact (sm1.trans sm).over nD
    · rw [List.length_append, ly]
      rfl
    · intro k z hk
      by_cases lt : k < ys.length
      · rw [List.getElem?_append_left lt] at hk
        exact gu _ _ _ _ _ (sm _ _ hD) (gk _ _ _ _ sm (hg k z hk))
      · rw [List.getElem?_append_right (by omega)] at hk
        have e : k = i := by
          have := (List.getElem?_eq_some_iff.mp hk).1
          simp only [List.length_cons, List.length_nil] at this
          omega
        subst e
        rw [ly, Nat.sub_self] at hk
        cases hk
        exact gu _ _ _ _ _ (sm _ _ hD) gy
  · obtain ⟨sm1, ys, ly, hD, hg⟩ := p
    exact hd ys H ly hg sm1 hD
/-- the same of flat things -/
theorem lc_rowP {K : PySem.W.Frag} {a : Addr} {xs : List V} {G : V → Prop} {te : TE} {vs : List Nat} {σ : L2.St} {H1 : Hp} {D : Addr} {j : Nat} {Qd : Hp → Prop} (nD : H1 D = none) (hs : SqL K H1 a xs) (hz : xs.length ≤ sizeLine)
    (hw : ∀ x, wipe ((wipe σ vs).set j (some x)) vs = wipe σ vs)
    (turn : ∀ (i : Nat) (x : V) (H : Hp) (R : V → Hp → Prop), xs[i]? = some x → Same H1 H → (∀ y H', Same H H' → G y → R y H') → te ((wipe σ vs).set j (some x)) H R) (hd : ∀ ys H', ys.length = xs.length → (∀ y ∈ ys, G y) → Same H1 H' → H' D = some (.lst ys) → Qd H') :
    ∃ W : Nat → Nat → Hp → Prop, (∃ m, W 0 m (upd H1 D (.lst []))) ∧ ∀ i m H, W i m H →
      ((Itl K a).stop i H ∧ Qd H) ∨ ((Itl K a).go i H ∧ ∃ Nx : Hp → Prop, (∀ H', Nx H' → ∃ m', m' < m ∧ W (i + 1) m' H') ∧ ∀ x H', (Itl K a).yld i H x H' → gName j x (wipe σ vs) H' fun σ2 H2 => wipe σ2 vs = wipe σ vs ∧ tYes σ2 H2 fun b H3 =>
        if b = true then te σ2 H3 fun y H4 => ∃ acc, H4 D = some (.lst acc) ∧ acc.length < sizeLine ∧ Nx (upd H4 D (.lst (acc ++ [y]))) else Nx H3) :=
  lc_rowG (G := fun _ v _ => G v) nD hs hz hw (fun _ _ _ _ _ h => h) (fun _ _ _ _ _ _ h => h) turn (fun ys H' l h => hd ys H' l fun y hy => by
    obtain ⟨i, e⟩ := List.getElem?_of_mem hy
    exact h i y e)
theorem lc_rngP {lo : Int} {n : Nat} {G : V → Prop} {te : TE} {vs : List Nat} {σ : L2.St} {H1 : Hp} {D : Addr} {j : Nat} {Qd : Hp → Prop} (nD : H1 D = none) (hz : n ≤ sizeLine)
    (hw : ∀ x, wipe ((wipe σ vs).set j (some x)) vs = wipe σ vs)
    (turn : ∀ (i : Nat) (H : Hp) (R : V → Hp → Prop), i < n → Same H1 H → (∀ y H', Same H H' → G y → R y H') → te ((wipe σ vs).set j (some (.int (lo + i)))) H R) (hd : ∀ ys H', ys.length = n → (∀ y ∈ ys, G y) → Same H1 H' → H' D = some (.lst ys) → Qd H') :
    ∃ W : Nat → Nat → Hp → Prop, (∃ m, W 0 m (upd H1 D (.lst []))) ∧ ∀ i m H, W i m H →
      ((Itr lo n).stop i H ∧ Qd H) ∨ ((Itr lo n).go i H ∧ ∃ Nx : Hp → Prop, (∀ H', Nx H' → ∃ m', m' < m ∧ W (i + 1) m' H') ∧ ∀ x H', (Itr lo n).yld i H x H' → gName j x (wipe σ vs) H' fun σ2 H2 => wipe σ2 vs = wipe σ vs ∧ tYes σ2 H2 fun b H3 =>
        if b = true then te σ2 H3 fun y H4 => ∃ acc, H4 D = some (.lst acc) ∧ acc.length < sizeLine ∧ Nx (upd H4 D (.lst (acc ++ [y]))) else Nx H3) := by
  refine lc_range (fun i H => Same H1 H ∧ ∃ ys, ys.length = i ∧ H D = some (.lst ys) ∧ ∀ y ∈ ys, G y) ⟨grow nD, [], rfl, upd_same, fun y h => nomatch h⟩ (fun i H hi p => ?_) (fun H p => ?_)
  · obtain ⟨sm1, ys, ly, hD, hg⟩ := p
    refine ⟨hw _, ?_⟩
    unfold tYes
    dsimp only
    rw [if_pos rfl]
    refine turn i H _ hi sm1 fun y H' sm gy => ⟨ys, sm _ _ hD, by omega, ?_, ys ++ [y], ?_, upd_same, ?_⟩
    · exact (sm1.trans sm).over nD
    · rw [List.length_append, ly]
      rfl
    · intro z hz
      rcases List.mem_append.mp hz with hz | hz
      · exact hg z hz
      · rw [List.mem_singleton.mp hz]
        exact gy
  · obtain ⟨sm1, ys, ly, hD, hg⟩ := p
    exact hd ys H ly hg sm1 hD
def PartV (v : V) : Prop := ∃ p : List Nat, v = T p ∧ partOk p
theorem partsV : ∀ {vs : List V}, (∀ v ∈ vs, PartV v) → ∃ ps : List (List Nat), vs = ps.map T ∧ ∀ p ∈ ps, partOk p
  | [], _ => ⟨[], rfl, fun p h => by cases h⟩
  | v :: r, h => by
    obtain ⟨p, rfl, hp⟩ := h v (by simp)
    obtain ⟨ps, rfl, hps⟩ := partsV fun u hu => h u (List.mem_cons_of_mem _ hu)
    refine ⟨p :: ps, rfl, fun q hq => ?_⟩
    rcases List.mem_cons.mp hq with rfl | hq
    · exact hp
    · exact hps q hq
theorem iteNS2 {b : Bool} {a c : Prop} (h : b = false) (k : c) : if b = true then a else c := by
  rw [h, if_neg Bool.false_ne_true]
  exact k
/-! ### cuts of any row -/
theorem cutV_to (xs : List V) (k : Nat) : cutV xs none (some (k : Int)) = xs.take k := by
  unfold cutV
  rw [HT.sIx_none, HT.sIx_nat, List.drop_zero, Nat.sub_zero]
  by_cases h : k ≤ xs.length
  · rw [Nat.min_eq_left h]
  · have h' : xs.length ≤ k := by omega
    rw [Nat.min_eq_right h', List.take_of_length_le (Nat.le_refl _), List.take_of_length_le h']
theorem cutV_from (xs : List V) (k : Nat) : cutV xs (some (k : Int)) none = xs.drop k := by
  unfold cutV
  rw [HT.sIx_none, HT.sIx_nat]
  by_cases h : k ≤ xs.length
  · rw [Nat.min_eq_left h]
    exact List.take_of_length_le (by rw [List.length_drop]; omega)
  · have h' : xs.length ≤ k := by omega
    rw [Nat.min_eq_right h', List.drop_of_length_le (Nat.le_refl _), List.drop_of_length_le h', List.take_nil]
theorem cut_some (ns : List Int) (lo hi : Option Int) : ∃ ms : List Int, cutV (ns.map V.int) lo hi = ms.map V.int ∧ ms.length ≤ ns.length := by
  refine ⟨(ns.drop (HT.sIx ns.length 0 lo)).take (HT.sIx ns.length ns.length hi - HT.sIx ns.length 0 lo), ?_, ?_⟩
  · unfold cutV
    rw [List.length_map, List.map_take, List.map_drop]
  · rw [List.length_take, List.length_drop]
    omega
theorem cutS_to (l : List Nat) (k : Nat) : cutS (mkS l) none (some (k : Int)) = mkS (l.take k) := by
  rw [mkS_cut, HT.sIx_none, HT.sIx_nat, List.drop_zero, Nat.sub_zero]
  by_cases h : k ≤ l.length
  · rw [Nat.min_eq_left h]
  · have h' : l.length ≤ k := by omega
    rw [Nat.min_eq_right h', List.take_of_length_le (Nat.le_refl _), List.take_of_length_le h']
theorem cutS_from (l : List Nat) (k : Nat) : cutS (mkS l) (some (k : Int)) none = mkS (l.drop k) := by
  rw [mkS_cut, HT.sIx_none, HT.sIx_nat]
  by_cases h : k ≤ l.length
  · rw [Nat.min_eq_left h]
    rw [List.take_of_length_le (by rw [List.length_drop]; omega)]
  · have h' : l.length ≤ k := by omega
    rw [Nat.min_eq_right h', List.drop_of_length_le (Nat.le_refl _), List.drop_of_length_le h', List.take_nil]
/-! ### rows of texts -/
def TxtOk (m : Nat) (v : V) : Prop := ∃ p : List Nat, v = T p ∧ p.length ≤ m
theorem txts {m : Nat} : ∀ {vs : List V}, (∀ v ∈ vs, TxtOk m v) → ∃ ps : List (List Nat), vs = ps.map T ∧ ∀ p ∈ ps, p.length ≤ m
  | [], _ => ⟨[], rfl, fun p h => by cases h⟩
  | v :: r, h => by
    obtain ⟨p, rfl, hp⟩ := h v (by simp)
    obtain ⟨ps, rfl, hps⟩ := txts fun u hu => h u (List.mem_cons_of_mem _ hu)
    refine ⟨p :: ps, rfl, fun q hq => ?_⟩
    rcases List.mem_cons.mp hq with rfl | hq
    · exact hp
    · exact hps q hq
theorem mapT (ps : List (List Nat)) : (ps.map mkS).map V.str = ps.map T := by rw [List.map_map]; rfl
theorem sum_sizes {m : Nat} : ∀ (ks : List (List Nat)), (∀ p ∈ ks, p.length ≤ m) → ((ks.map mkS).map (·.length)).sum ≤ ks.length * m
  | [], _ => by simp
  | x :: r, h => by
    have h1 := h x (by simp)
    have h2 := sum_sizes r fun p hp => h p (List.mem_cons_of_mem _ hp)
    rw [List.map_cons, List.map_cons, List.sum_cons, len_mkS, List.length_cons, Nat.add_mul, Nat.one_mul]
    omega
theorem splitC_sizes (c : Nat) : ∀ (l : List Nat) (p : List Nat), p ∈ splitC c l → p.length ≤ l.length
  | [], p, h => by
    rw [splitC, List.mem_singleton] at h
    rw [h]
    exact Nat.le_refl _
  | x :: r, p, h => by
    rw [splitC] at h
    by_cases z : x = c
    · rw [if_pos z] at h
      rcases List.mem_cons.mp h with h | h
      · rw [h]
        exact Nat.zero_le _
      · exact Nat.le_succ_of_le (splitC_sizes c r p h)
    · rw [if_neg z] at h
      cases e : splitC c r with
      | nil => exact absurd e (splitC_ne c r)
      | cons q qs =>
        rw [e] at h
        rcases List.mem_cons.mp h with h | h
        · rw [h, List.length_cons, List.length_cons]
          exact Nat.succ_le_succ (splitC_sizes c r q (by rw [e]; simp))
        · exact Nat.le_succ_of_le (splitC_sizes c r p (by rw [e]; exact List.mem_cons_of_mem _ h))
theorem splitC_many (c : Nat) : ∀ (l : List Nat), (splitC c l).length ≤ l.length + 1
  | [] => by simp [splitC]
  | x :: r => by
    have ih := splitC_many c r
    rw [splitC]
    by_cases z : x = c
    · rw [if_pos z, List.length_cons, List.length_cons]
      omega
    · rw [if_neg z]
      cases e : splitC c r with
      | nil => simp
      | cons q qs =>
        rw [e] at ih
        show (qs.length + 1) ≤ r.length + 1 + 1
        rw [List.length_cons] at ih
        omega
theorem len_str (x : String) : (Str.ofString x).length = (TL.tl (Str.ofString x)).length := by
  rw [← len_mkS, mkS_tl]
theorem at_last {α : Type} {xs : List α} {v : α} (h : xs.getLast? = some v) : atI xs (-1) = some v := by
  obtain ⟨ys, rfl⟩ := List.getLast?_eq_some_iff.mp h
  exact atI_last ys v
/-! ### rows of texts, as data -/
abbrev dTxts (ls : List (List Nat)) : PyData := .tuple (ls.map fun l => PyData.str (mkS l))
theorem dpTxtsAll {K : PySem.W.Frag} {H : Hp} : ∀ (ls : List (List Nat)), DpAll K H (ls.map T) (ls.map fun l => PyData.str (mkS l))
  | [] => .nil
  | a :: r => .cons (.str _) (dpTxtsAll r)
theorem dpTxts {K : PySem.W.Frag} {H : Hp} {p : Addr} {ls : List (List Nat)} (h : SqT K H p (ls.map T)) : Dp K H (.ref p) (dTxts ls) := .tup h (dpTxtsAll ls)
theorem tupsAll_txts : ∀ (ls : List (List Nat)), tupsAll (ls.map fun l => PyData.str (mkS l)) = true
  | [] => rfl
  | a :: r => by rw [List.map_cons, tupsAll, tupsAll_txts r]; rfl
theorem depthAll_txts : ∀ (ls : List (List Nat)), PyData.depthAll (ls.map fun l => PyData.str (mkS l)) = 0
  | [] => rfl
  | a :: r => by rw [List.map_cons, PyData.depthAll, depthAll_txts r]; rfl
theorem dTxts_ok (ls : List (List Nat)) (h : ls.length ≤ 100000) : tupsOnly (dTxts ls) = true ∧ PyData.depth (dTxts ls) ≤ 1 := ⟨by
  rw [tupsOnly, tupsAll_txts, decide_eq_true (by rw [List.length_map]; exact h)]
  rfl, by
  show PyData.depthAll (ls.map fun l => PyData.str (mkS l)) + 1 ≤ 1
  rw [depthAll_txts]
  exact Nat.le_refl 1⟩
theorem eqV_txt (a b : List Nat) : eqV (T a) (T b) = decide (a = b) := by
  show (decide (mkS a = mkS b) : Bool) = _ 
  by_cases z : a = b
  · rw [z]; simp
  · rw [decide_eq_false z]
    exact decide_eq_false fun k => z (mkS_inj k)
theorem inV_txt (p : List Nat) : ∀ ls : List (List Nat), inV (T p) (ls.map T) = decide (p ∈ ls)
  | [] => by simp [inV]
  | l :: r => by
    have ih := inV_txt p r
    unfold inV at ih ⊢
    rw [List.map_cons, List.any_cons, ih, eqV_txt]
    by_cases z : l = p
    · subst z; simp
    · rw [decide_eq_false z, Bool.false_or]
      by_cases y : p ∈ r
      · rw [decide_eq_true y, decide_eq_true (List.mem_cons_of_mem _ y)]
      · rw [decide_eq_false y]
        exact (decide_eq_false fun k => by
          rcases List.mem_cons.mp k with k | k
          · exact z k.symm
          · exact y k).symm
theorem flat_txts : ∀ ls : List (List Nat), (ls.map T).all flatV = true
  | [] => rfl
  | l :: r => by rw [List.map_cons, List.all_cons, flat_txts r]; rfl
end Fc

namespace Fc
open PySem PySem.Spec L2 PyProof.Rows
/-! ### t * k of any small k -/
theorem mul_self (l : Addr) (its : Array Value) (n : Nat) (dd : Option Addr) (sl : Array (Option Value)) (k : Int) (u : Tok) (c0 : (decide (k < -(2 ^ 63)) || decide (k ≥ 2 ^ 63)) = false) (c1 : (its.isEmpty || k == 1) = true) :
    Meets (Builtin.«tuple.__mul__» ⟨[.ref l, .int k u], []⟩) (fun _ R s => s.heap.get? l = some { cls := .type "tuple", dict := dd, data := .seq its n, slots := sl } ∧ R (.ok (.ret (Value.ref l))) s) :=
  .of_wp fun prog w A R s h => by
    obtain ⟨hp, g, d, tk, os⟩ := s
    obtain ⟨hl, h⟩ := h
    have f1 := AutoSeq1.idx_int
    wp_walk using wpAny_loadPart' hl
    repeat (first
      | (refine wpAny_ite_false (decide_eq_false (by rw [c0]; exact Bool.false_ne_true)) ?_; wp_walk using wpAny_loadPart' hl)
      | (refine wpAny_ite_true (decide_eq_true c1) ?_; wp_walk using wpAny_loadPart' hl))
    exact ⟨_, rfl, h⟩
theorem mul_none (l : Addr) (its : Array Value) (n : Nat) (dd : Option Addr) (sl : Array (Option Value)) (k : Int) (u : Tok) (c0 : (decide (k < -(2 ^ 63)) || decide (k ≥ 2 ^ 63)) = false) (c1 : (its.isEmpty || k == 1) = false) (c2 : (decide (k ≤ 0) || its.isEmpty) = true) :
    Meets (Builtin.«tuple.__mul__» ⟨[.ref l, .int k u], []⟩) (fun _ R s => s.heap.get? l = some { cls := .type "tuple", dict := dd, data := .seq its n, slots := sl } ∧
      R (.ok (.ret (Value.ref s.heap.objs.size))) { s with heap := s.heap.push { cls := Value.type "tuple", data := Data.seq #[] }, toks := s.toks }) :=
  .of_wp fun prog w A R s h => by
    obtain ⟨hp, g, d, tk, os⟩ := s
    obtain ⟨hl, h⟩ := h
    have f1 := AutoSeq1.idx_int
    wp_walk using wpAny_loadPart' hl
    repeat (first
      | (refine wpAny_ite_false (decide_eq_false (by rw [c0]; exact Bool.false_ne_true)) ?_; wp_walk using wpAny_loadPart' hl)
      | (refine wpAny_ite_false (decide_eq_false (by rw [c1]; exact Bool.false_ne_true)) ?_; wp_walk using wpAny_loadPart' hl)
      | (refine wpAny_ite_true (decide_eq_true c2) ?_; wp_walk using wpAny_loadPart' hl))
    exact ⟨_, rfl, h⟩
def rRepU (K : PySem.W.Frag) : R2 := fun x y H Q => ∃ l k xs, x = .ref l ∧ y = .int k ∧ SqT K H l xs ∧ 0 ≤ k ∧ k ≤ 1000 ∧ xs.length ≤ 1000 ∧ Tups K H (List.replicate k.toNat xs).flatten Q
section
variable {X : Cx}
theorem op_repU : OpR X (binaryOp .Mult) (rRepU X.K) := by
  intro pins s σ H x y v u Q I rx ry h
  obtain ⟨l, k, xs, rfl, rfl, hT, k0, k1, few, q⟩ := h
  by_cases hn : xs = [] ∨ k < 2
  · cases rx
    obtain ⟨t, rfl⟩ := ry
    obtain ⟨its, r, ⟨⟨cls, dd, data, sl⟩, ho, hc, n, hd⟩, hs⟩ := I.tuple hT
    simp only at hc hd
    subst hc hd
    have hle : its.length = xs.length := r.length.symm
    have c0 : (decide (k < -(2 ^ 63)) || decide (k ≥ 2 ^ 63)) = false := by
      rw [decide_eq_false (by omega), decide_eq_false (by omega)] <;> rfl
    by_cases he : xs = [] ∨ k = 1
    · have c1 : (its.toArray.isEmpty || k == 1) = true := by
        rcases he with e | e
        · have : its = [] := by
            rw [e] at hle
            exact List.eq_nil_of_length_eq_zero hle
          rw [this]
          rfl
        · rw [e]
          simp
      have ex : xs = (List.replicate k.toNat xs).flatten := by
        rcases he with e | e
        · rw [e]
          simp
        · rw [e]
          simp
      refine wpAny_binaryOp_repeat_ref (T := "tuple") (U := "int") (by decide) ⟨_, ho, rfl⟩ (fun s' => typeIs_int s' k t) noFill_tuple_mul F.fills_int_mul F.slot_int_rmul repeat_tuple F.slot_int_index.lookup
        (call_meets F.slot_int_rmul (typeIs_int s k t) F.entry_int_rmul (F.args_int_rmul_2 _ _) (int_rmul_tuple k t l its.toArray n dd sl)
          ⟨ho, rfl, ⟨_, ho, rfl⟩, call_meets F.slot_tuple_mul ⟨_, ho, rfl⟩ F.entry_tuple_mul (F.args_tuple_mul_2 _ _) (mul_self l its.toArray n dd sl k t c0 c1) ⟨ho, ?_⟩⟩)
      exact ⟨.ref l, H, I, rfl, q.old hT ex⟩
    · have hx : xs ≠ [] := fun e => he (.inl e)
      have h1 : k ≠ 1 := fun e => he (.inr e)
      have h0 : k = 0 := by
        rcases hn with e | e
        · exact absurd e hx
        · omega
      have hi : its.toArray.isEmpty = false := by
        cases its with
        | nil =>
          exact absurd (List.eq_nil_of_length_eq_zero hle.symm) hx
        | cons a b => rfl
      have c1 : (its.toArray.isEmpty || k == 1) = false := by
        rw [hi, h0]
        rfl
      have c2 : (decide (k ≤ 0) || its.toArray.isEmpty) = true := by
        rw [h0]
        rfl
      have ex : (List.replicate k.toNat xs).flatten = [] := by
        rw [h0]
        rfl
      rw [ex] at q
      refine wpAny_binaryOp_repeat_ref (T := "tuple") (U := "int") (by decide) ⟨_, ho, rfl⟩ (fun s' => typeIs_int s' k t) noFill_tuple_mul F.fills_int_mul F.slot_int_rmul repeat_tuple F.slot_int_index.lookup
        (call_meets F.slot_int_rmul (typeIs_int s k t) F.entry_int_rmul (F.args_int_rmul_2 _ _) (int_rmul_tuple k t l its.toArray n dd sl)
          ⟨ho, rfl, ⟨_, ho, rfl⟩, call_meets F.slot_tuple_mul ⟨_, ho, rfl⟩ F.entry_tuple_mul (F.args_tuple_mul_2 _ _) (mul_none l its.toArray n dd sl k t c0 c1 c2) ⟨ho, ?_⟩⟩)
      refine ⟨.ref s.heap.objs.size, _, I.laid (t' := s.toks) (o := .tup []) (fun b ob z => Heap.get?_push_of_some _ z) (Nat.le_refl _) ?_, rfl, q.new (I.hok.fresh (Nat.le_refl _))⟩
      exact ⟨Nat.zero_le _, [], .nil, IsTup.new _ _⟩
  · exact op_repT pins s σ H _ _ v u Q I rx ry ⟨l, k, xs, rfl, rfl, hT, fun e => hn (.inl e), by omega, k1, few, fun p z => q.new z⟩
/-- as rRepU, for more -/
def rRepV (K : PySem.W.Frag) : R2 := fun x y H Q => ∃ l k xs, x = .ref l ∧ y = .int k ∧ SqT K H l xs ∧ 0 ≤ k ∧ k ≤ 1000000 ∧ (xs.length : Int) * k ≤ 1000000 ∧ Tups K H (List.replicate k.toNat xs).flatten Q
theorem op_repV : OpR X (binaryOp .Mult) (rRepV X.K) := by
  intro pins s σ H x y v u Q I rx ry h
  obtain ⟨l, k, xs, rfl, rfl, hT, k0, k1, few, q⟩ := h
  by_cases sm : k ≤ 1000 ∧ xs.length ≤ 1000
  · exact op_repU pins s σ H _ _ v u Q I rx ry ⟨l, k, xs, rfl, rfl, hT, k0, sm.1, sm.2, q⟩
  · by_cases hn : xs = [] ∨ k < 2
    · rcases hn with e | e
      · subst e
        cases rx
        obtain ⟨t, rfl⟩ := ry
        obtain ⟨its, r, ⟨⟨cls, dd, data, sl⟩, ho, hc, n, hd⟩, hs⟩ := I.tuple hT
        simp only at hc hd
        subst hc hd
        have e0 : its = [] := List.eq_nil_of_length_eq_zero r.length.symm
        have c0 : (decide (k < -(2 ^ 63)) || decide (k ≥ 2 ^ 63)) = false := by
          rw [decide_eq_false (by omega), decide_eq_false (by omega)] <;> rfl
        have c1 : (its.toArray.isEmpty || k == 1) = true := by rw [e0]; rfl
        refine wpAny_binaryOp_repeat_ref (T := "tuple") (U := "int") (by decide) ⟨_, ho, rfl⟩ (fun s' => typeIs_int s' k t) noFill_tuple_mul F.fills_int_mul F.slot_int_rmul repeat_tuple F.slot_int_index.lookup
          (call_meets F.slot_int_rmul (typeIs_int s k t) F.entry_int_rmul (F.args_int_rmul_2 _ _) (int_rmul_tuple k t l its.toArray n dd sl)
            ⟨ho, rfl, ⟨_, ho, rfl⟩, call_meets F.slot_tuple_mul ⟨_, ho, rfl⟩ F.entry_tuple_mul (F.args_tuple_mul_2 _ _) (mul_self l its.toArray n dd sl k t c0 c1) ⟨ho, ?_⟩⟩)
        exact ⟨.ref l, H, I, rfl, q.old hT (by simp)⟩
      · have lx : 1000 < xs.length := by omega
        have hk : k = 0 ∨ k = 1 := by omega
        cases rx
        obtain ⟨t, rfl⟩ := ry
        obtain ⟨its, r, ⟨⟨cls, dd, data, sl⟩, ho, hc, n, hd⟩, hs⟩ := I.tuple hT
        simp only at hc hd
        subst hc hd
        have hle : its.length = xs.length := r.length.symm
        have c0 : (decide (k < -(2 ^ 63)) || decide (k ≥ 2 ^ 63)) = false := by
          rw [decide_eq_false (by omega), decide_eq_false (by omega)] <;> rfl
        have hi : its.toArray.isEmpty = false := by
          cases its with
          | nil =>
            have : xs.length = 0 := hle.symm
            omega
          | cons a b => rfl
        rcases hk with rfl | rfl
        · refine wpAny_binaryOp_repeat_ref (T := "tuple") (U := "int") (by decide) ⟨_, ho, rfl⟩ (fun s' => typeIs_int s' 0 t) noFill_tuple_mul F.fills_int_mul F.slot_int_rmul repeat_tuple F.slot_int_index.lookup
            (call_meets F.slot_int_rmul (typeIs_int s 0 t) F.entry_int_rmul (F.args_int_rmul_2 _ _) (int_rmul_tuple 0 t l its.toArray n dd sl)
              ⟨ho, rfl, ⟨_, ho, rfl⟩, call_meets F.slot_tuple_mul ⟨_, ho, rfl⟩ F.entry_tuple_mul (F.args_tuple_mul_2 _ _) (mul_none l its.toArray n dd sl 0 t c0 (by rw [hi]; rfl) rfl) ⟨ho, ?_⟩⟩)
          refine ⟨.ref s.heap.objs.size, _, I.laid (t' := s.toks) (o := .tup []) (fun b ob z => Heap.get?_push_of_some _ z) (Nat.le_refl _) ?_, rfl, Tups.new (xs := []) q (I.hok.fresh (Nat.le_refl _))⟩
          exact ⟨Nat.zero_le _, [], .nil, IsTup.new _ _⟩
        · refine wpAny_binaryOp_repeat_ref (T := "tuple") (U := "int") (by decide) ⟨_, ho, rfl⟩ (fun s' => typeIs_int s' 1 t) noFill_tuple_mul F.fills_int_mul F.slot_int_rmul repeat_tuple F.slot_int_index.lookup
            (call_meets F.slot_int_rmul (typeIs_int s 1 t) F.entry_int_rmul (F.args_int_rmul_2 _ _) (int_rmul_tuple 1 t l its.toArray n dd sl)
              ⟨ho, rfl, ⟨_, ho, rfl⟩, call_meets F.slot_tuple_mul ⟨_, ho, rfl⟩ F.entry_tuple_mul (F.args_tuple_mul_2 _ _) (mul_self l its.toArray n dd sl 1 t c0 (by rw [hi]; rfl)) ⟨ho, ?_⟩⟩)
          exact ⟨.ref l, H, I, rfl, q.old hT (by simp)⟩
    · have k2 : 2 ≤ k := by omega
      have hx : xs ≠ [] := fun e => hn (.inl e)
      cases rx
      obtain ⟨t, rfl⟩ := ry
      obtain ⟨its, r, ⟨⟨cls, dd, data, sl⟩, ho, hc, n, hd⟩, hs⟩ := I.tuple hT
      simp only at hc hd
      subst hc hd
      have hle : its.length = xs.length := r.length.symm
      have hi : its.toArray.isEmpty = false := by
        cases its with
        | nil => exact absurd (List.eq_nil_of_length_eq_zero hle.symm) hx
        | cons a b => rfl
      have hsz0 : its.toArray.size = xs.length := by rw [List.size_toArray, hle]
      have flenN : k.toNat * xs.length ≤ 1000000 := by
        have e : ((k.toNat * xs.length : Nat) : Int) = (xs.length : Int) * k := by
          rw [Int.natCast_mul, Int.toNat_of_nonneg k0, Int.mul_comm]
        omega
      have hm : ((its.toArray.size : Nat) : Int) * k ≤ 1000000 := by rw [hsz0]; exact few
      have flen : (List.replicate k.toNat its).flatten.length ≤ sizeLine := by
        rw [PyProof.Rows.lm_len_rep_flat, hle, sizeLine_eq]
        omega
      have c0 : (decide (k < -(2 ^ 63)) || decide (k ≥ 2 ^ 63)) = false := by
        rw [decide_eq_false (by omega), decide_eq_false (by omega)] <;> rfl
      have c1 : (its.toArray.isEmpty || k == 1) = false := by
        rw [hi, Bool.false_or]
        exact beq_eq_false_iff_ne.mpr (by omega)
      have c2 : (decide (k ≤ 0) || its.toArray.isEmpty) = false := by
        rw [hi, Bool.or_false]
        exact decide_eq_false (by omega)
      have c4 : Builtin.Tuple.tupleTooMany (((its.toArray.size : Nat) : Int) * k) = false := by
        unfold Builtin.Tuple.tupleTooMany
        rw [sizeLine_eq]
        exact decide_eq_false (by omega)
      refine wpAny_binaryOp_repeat_ref (T := "tuple") (U := "int") (by decide) ⟨_, ho, rfl⟩ (fun s' => typeIs_int s' k t) noFill_tuple_mul F.fills_int_mul F.slot_int_rmul repeat_tuple F.slot_int_index.lookup
        (call_meets F.slot_int_rmul (typeIs_int s k t) F.entry_int_rmul (F.args_int_rmul_2 _ _) (int_rmul_tuple k t l its.toArray n dd sl)
          ⟨ho, rfl, ⟨_, ho, rfl⟩, call_meets F.slot_tuple_mul ⟨_, ho, rfl⟩ F.entry_tuple_mul (F.args_tuple_mul_2 _ _) (tuple_mulW l its.toArray n dd sl k t c0 c1 c2 (by omega) c4 (by rw [size_rep, List.size_toArray]; exact flen)) ⟨ho, ?_⟩⟩)
      rw [size_rep]
      refine ⟨.ref s.heap.objs.size, _, I.laid (t' := s.toks) (o := .tup (List.replicate k.toNat xs).flatten) (fun b ob z => Heap.get?_push_of_some _ z) (Nat.le_refl _) ?_, rfl, q.new (I.hok.fresh (Nat.le_refl _))⟩
      refine ⟨?_, _, r.rep k.toNat, IsTup.new _ _⟩
      rw [PyProof.Rows.lm_len_rep_flat, sizeLine_eq]
      omega
end
end Fc

namespace Fc
open PySem PySem.Spec L2 PyProof.Rows
/-! ### rules for within a comprehension, where the frag is given by name -/
section
variable {X : Cx} {K : PySem.W.Frag}
theorem ix_listq (hK : X.K = K) : IxR X (rIxL K) := by subst hK; exact ix_list
theorem ix_tupq (hK : X.K = K) : IxR X (rIxT K) := by subst hK; exact ix_tup
theorem sl_listq (hK : X.K = K) : SlR X (rSlL K) := by subst hK; exact sl_list
theorem sl_tupUq (hK : X.K = K) : SlR X (rSlU K) := by subst hK; exact sl_tupU
theorem op_catUq (hK : X.K = K) : OpR X (binaryOp .Add) (rCatU K) := by subst hK; exact op_catU
theorem op_in_seqq (hK : X.K = K) : OpR X (compareOp .In) (rIn K false) := by subst hK; exact op_in_seq
theorem op_notIn_seqq (hK : X.K = K) : OpR X (compareOp .NotIn) (rIn K true) := by subst hK; exact op_notIn_seq
theorem op_eqDq (hK : X.K = K) (hu : X.A.units + 64 < cLine) : OpR X (compareOp .Eq) (rEqD K) := by subst hK; exact op_eqD hu
theorem op_neDq (hK : X.K = K) (hu : X.A.units + 64 < cLine) : OpR X (compareOp .NotEq) (rNeD K) := by subst hK; exact op_neD hu
theorem call_len_seqq (hK : X.K = K) : CallR X (.builtin "len") (fun xs H Q => ∃ p ys, xs = [.ref p] ∧ (SqL K H p ys ∨ SqT K H p ys) ∧ Q (.int ys.length) H) := by subst hK; exact call_len_seq
theorem call_tupleUq (hK : X.K = K) : CallR X (.type "tuple") (fun xs H Q => ∃ p ys, xs = [.ref p] ∧ SqL K H p ys ∧ Tups K H ys Q) := by subst hK; exact call_tupleU
theorem call_isiq (hK : X.K = K) : CallR X (.builtin "isinstance") (rIsi K) := by subst hK; exact call_isi
theorem pe_tupUq (hK : X.K = K) {es : List Expr} {x1 : Nat} {pos : Pos} {t : TA} (h : PA X es t) : PE X (.Tuple es x1 pos) (tTupU K t) := by subst hK; exact pe_tupU h
theorem pe_notTq (hK : X.K = K) {a : Expr} {ta : TE} {pos : Pos} (ha : PE X a ta) : PE X (.UnaryOp .Not a pos) (tNotT K ta) := by subst hK; exact pe_notT ha
def tTru (K : PySem.W.Frag) (ta : TE) : TT := fun σ H Q => ta σ H fun x H' => ∃ k, TruV K x H' k ∧ Q k H'
theorem pt_truthq (hK : X.K = K) {a : Expr} {ta : TE} (ha : PE X a ta) (he : ∀ whole, isTrue a X.env whole = (do let v ← whole; standAt a.pos; holding [v] (truthy v))) :
    PT X a (tTru K ta) := by subst hK; exact pt_truth ha he
theorem pi_listq (hK : X.K = K) {l tg : Expr} {tl : TE} (hl : PE X l tl) : PI X tg l (iList K tl) := by subst hK; exact pi_list hl
theorem pi_tupq (hK : X.K = K) {l tg : Expr} {tl : TE} (hl : PE X l tl) : PI X tg l (iTup K tl) := by subst hK; exact pi_tup hl
theorem pe_joinq (hK : X.K = K) {o e : Expr} {to te : TE} {apos pos : Pos} (ho : PE X o to) (he : PE X e te) (hs : starEach [e] X.env = [(false, eval e X.env)] := by rfl) (hbase : attributeBase o "join" X.env (eval o X.env) = eval o X.env := by rfl) (hline : (apos.endLine == pos.line) = true := by rfl) :
    PE X (.Call (.Attribute o "join" apos) [e] [] pos) (tM1 (fun x xs H Q => ∃ a p, ∃ ys : List Str, x = .str a ∧ xs = [.ref p] ∧ (SqL K H p (ys.map V.str) ∨ SqT K H p (ys.map V.str)) ∧
      (ys.map (·.length)).sum + ys.length * a.length ≤ 16777216 ∧ Q (.str (Txt.join a ys)) H) to te) := by subst hK; exact pe_join ho he hs hbase hline
end
end Fc

namespace Fc
open PySem PySem.Spec L2 PyProof.Rows
/-! ### two rows, one by one -/
inductive Al2 {α β : Type} (R : α → β → Prop) : List α → List β → Prop
  | nil : Al2 R [] []
  | cons {x : α} {y : β} {xs : List α} {ys : List β} (h : R x y) (hs : Al2 R xs ys) : Al2 R (x :: xs) (y :: ys)
theorem Al2.mono {α β : Type} {R S : α → β → Prop} (f : ∀ x y, R x y → S x y) : ∀ {xs : List α} {ys : List β}, Al2 R xs ys → Al2 S xs ys
  | _, _, .nil => .nil
  | _, _, .cons h hs => .cons (f _ _ h) (hs.mono f)
theorem Al2.length {α β : Type} {R : α → β → Prop} : ∀ {xs : List α} {ys : List β}, Al2 R xs ys → ys.length = xs.length
  | _, _, .nil => rfl
  | _, _, .cons _ hs => congrArg (· + 1) hs.length
theorem Al2.snoc {α β : Type} {R : α → β → Prop} {x : α} {y : β} (h : R x y) : ∀ {xs : List α} {ys : List β}, Al2 R xs ys → Al2 R (xs ++ [x]) (ys ++ [y])
  | _, _, .nil => .cons h .nil
  | _, _, .cons k hs => .cons k (hs.snoc h)
theorem Al2.eq_map {α β : Type} {f : α → β} : ∀ {xs : List α} {ys : List β}, Al2 (fun x y => y = f x) xs ys → ys = xs.map f
  | _, _, .nil => rfl
  | _, _, .cons h hs => by rw [List.map_cons, h, hs.eq_map]
theorem Al2.get {α β : Type} {R : α → β → Prop} : ∀ {xs : List α} {ys : List β} {i : Nat} {y : β}, Al2 R xs ys → ys[i]? = some y → ∃ x, xs[i]? = some x ∧ R x y
  | _, _, _, _, .nil, h => by cases h
  | _, _, 0, _, .cons h hs, e => by cases e; exact ⟨_, rfl, h⟩
  | _, _, i + 1, _, .cons h hs, e => hs.get (i := i) e
theorem Al2.mem {α β : Type} {R : α → β → Prop} : ∀ {xs : List α} {ys : List β} {y : β}, Al2 R xs ys → y ∈ ys → ∃ x ∈ xs, R x y
  | _, _, _, .nil, h => by cases h
  | _, _, _, .cons h hs, e => by
    rcases List.mem_cons.mp e with rfl | e
    · exact ⟨_, List.mem_cons_self .., h⟩
    · obtain ⟨x, hx, r⟩ := hs.mem e
      exact ⟨x, List.mem_cons_of_mem _ hx, r⟩
theorem take_filter {α : Type} {xs : List α} {i : Nat} {x : α} (keep : α → Bool) (h : xs[i]? = some x) : (xs.take (i + 1)).filter keep = (xs.take i).filter keep ++ (if keep x = true then [x] else []) := by
  rw [List.take_add_one, h, Option.toList_some, List.filter_append]
  congr 1
  by_cases k : keep x = true
  · rw [if_pos k, List.filter_cons_of_pos k]; rfl
  · rw [if_neg k, List.filter_cons_of_neg k]; rfl
/-! ### [e for x in xs if test]: which are kept, and what holds of the items -/
section
variable {xs : List V} {keep : V → Bool} {G : V → V → Hp → Prop} {tt : TT} {te : TE} {vs : List Nat} {σ : L2.St} {H1 : Hp} {D : Addr} {j : Nat} {Qd : Hp → Prop}
def LcP (xs : List V) (keep : V → Bool) (G : V → V → Hp → Prop) (H1 : Hp) (D : Addr) (i : Nat) (H : Hp) : Prop := Same H1 H ∧ ∃ ys, H D = some (.lst ys) ∧ Al2 (fun x y => G x y H) ((xs.take i).filter keep) ys
theorem lcp_step (nD : H1 D = none) (hz : xs.length ≤ sizeLine) (gk : ∀ x y H H', Same H H' → G x y H → G x y H') (gu : ∀ x y H ys zs, H D = some (.lst ys) → G x y H → G x y (upd H D (.lst zs)))
    (test : ∀ (i : Nat) (x : V) (H : Hp) (R : Bool → Hp → Prop), xs[i]? = some x → Same H1 H → (∀ H', Same H H' → R (keep x) H') → tt ((wipe σ vs).set j (some x)) H R)
    (item : ∀ (i : Nat) (x : V) (H : Hp) (R : V → Hp → Prop), xs[i]? = some x → keep x = true → Same H1 H → (∀ y H', Same H H' → G x y H' → R y H') → te ((wipe σ vs).set j (some x)) H R)
    {i : Nat} {x : V} {H : Hp} (hx : xs[i]? = some x) (p : LcP xs keep G H1 D i H) : tt ((wipe σ vs).set j (some x)) H fun b H3 =>
      if b = true then te ((wipe σ vs).set j (some x)) H3 fun y H4 => ∃ acc, H4 D = some (.lst acc) ∧ acc.length < sizeLine ∧ LcP xs keep G H1 D (i + 1) (upd H4 D (.lst (acc ++ [y]))) else LcP xs keep G H1 D (i + 1) H3 := by
  have hi : i < xs.length := (List.getElem?_eq_some_iff.mp hx).1
  obtain ⟨sm, ys, hD, al⟩ := p
  refine test i x H _ hx sm fun H3 s3 => ?_
  by_cases k : keep x = true
  · rw [if_pos k]
    refine item i x H3 _ hx k (sm.trans s3) fun y H4 s4 gy => ⟨ys, s4 _ _ (s3 _ _ hD), ?_, ?_, ys ++ [y], upd_same, ?_⟩
    · have := al.length
      have l2 := List.length_filter_le keep (xs.take i)
      rw [List.length_take] at l2
      omega
    · exact (sm.trans (s3.trans s4)).over nD
    · rw [take_filter keep hx, if_pos k]
      have hD4 := s4 _ _ (s3 _ _ hD)
      have al2 : Al2 (fun u v => G u v (upd H4 D (.lst (ys ++ [y])))) ((xs.take i).filter keep) ys := al.mono fun u v g => gu _ _ _ _ _ hD4 (gk _ _ _ _ (s3.trans s4) g)
      exact Al2.snoc (R := fun u v => G u v (upd H4 D (.lst (ys ++ [y])))) (gu _ _ _ _ _ hD4 gy) al2
  · rw [if_neg k]
    refine ⟨sm.trans s3, ys, s3 _ _ hD, ?_⟩
    rw [take_filter keep hx, if_neg k, List.append_nil]
    exact al.mono fun u v g => gk _ _ _ _ s3 g
theorem lcG_list {K : PySem.W.Frag} {a : Addr} (nD : H1 D = none) (hs : SqL K H1 a xs) (hz : xs.length ≤ sizeLine) (hw : ∀ x, wipe ((wipe σ vs).set j (some x)) vs = wipe σ vs)
    (gk : ∀ x y H H', Same H H' → G x y H → G x y H') (gu : ∀ x y H ys zs, H D = some (.lst ys) → G x y H → G x y (upd H D (.lst zs)))
    (test : ∀ (i : Nat) (x : V) (H : Hp) (R : Bool → Hp → Prop), xs[i]? = some x → Same H1 H → (∀ H', Same H H' → R (keep x) H') → tt ((wipe σ vs).set j (some x)) H R)
    (item : ∀ (i : Nat) (x : V) (H : Hp) (R : V → Hp → Prop), xs[i]? = some x → keep x = true → Same H1 H → (∀ y H', Same H H' → G x y H' → R y H') → te ((wipe σ vs).set j (some x)) H R)
    (hd : ∀ ys H', Al2 (fun x y => G x y H') (xs.filter keep) ys → Same H1 H' → H' D = some (.lst ys) → Qd H') :
    ∃ W : Nat → Nat → Hp → Prop, (∃ m, W 0 m (upd H1 D (.lst []))) ∧ ∀ i m H, W i m H →
      ((Itl K a).stop i H ∧ Qd H) ∨ ((Itl K a).go i H ∧ ∃ Nx : Hp → Prop, (∀ H', Nx H' → ∃ m', m' < m ∧ W (i + 1) m' H') ∧ ∀ x H', (Itl K a).yld i H x H' → gName j x (wipe σ vs) H' fun σ2 H2 => wipe σ2 vs = wipe σ vs ∧ tt σ2 H2 fun b H3 =>
        if b = true then te σ2 H3 fun y H4 => ∃ acc, H4 D = some (.lst acc) ∧ acc.length < sizeLine ∧ Nx (upd H4 D (.lst (acc ++ [y]))) else Nx H3) := by
  refine lc_list (xs := xs) (LcP xs keep G H1 D) ⟨grow nD, [], upd_same, .nil⟩ (fun i H _ p => p.1.seq hs) (fun i x H hx p => ⟨hw x, lcp_step nD hz gk gu test item hx p⟩) (fun H p => ?_)
  obtain ⟨sm, ys, hD, al⟩ := p
  rw [List.take_length] at al
  exact hd ys H al sm hD
theorem lcG_tup {K : PySem.W.Frag} {a : Addr} (nD : H1 D = none) (hs : SqT K H1 a xs) (hz : xs.length ≤ sizeLine) (hw : ∀ x, wipe ((wipe σ vs).set j (some x)) vs = wipe σ vs)
    (gk : ∀ x y H H', Same H H' → G x y H → G x y H') (gu : ∀ x y H ys zs, H D = some (.lst ys) → G x y H → G x y (upd H D (.lst zs)))
    (test : ∀ (i : Nat) (x : V) (H : Hp) (R : Bool → Hp → Prop), xs[i]? = some x → Same H1 H → (∀ H', Same H H' → R (keep x) H') → tt ((wipe σ vs).set j (some x)) H R)
    (item : ∀ (i : Nat) (x : V) (H : Hp) (R : V → Hp → Prop), xs[i]? = some x → keep x = true → Same H1 H → (∀ y H', Same H H' → G x y H' → R y H') → te ((wipe σ vs).set j (some x)) H R)
    (hd : ∀ ys H', Al2 (fun x y => G x y H') (xs.filter keep) ys → Same H1 H' → H' D = some (.lst ys) → Qd H') :
    ∃ W : Nat → Nat → Hp → Prop, (∃ m, W 0 m (upd H1 D (.lst []))) ∧ ∀ i m H, W i m H →
      ((Itt K a).stop i H ∧ Qd H) ∨ ((Itt K a).go i H ∧ ∃ Nx : Hp → Prop, (∀ H', Nx H' → ∃ m', m' < m ∧ W (i + 1) m' H') ∧ ∀ x H', (Itt K a).yld i H x H' → gName j x (wipe σ vs) H' fun σ2 H2 => wipe σ2 vs = wipe σ vs ∧ tt σ2 H2 fun b H3 =>
        if b = true then te σ2 H3 fun y H4 => ∃ acc, H4 D = some (.lst acc) ∧ acc.length < sizeLine ∧ Nx (upd H4 D (.lst (acc ++ [y]))) else Nx H3) := by
  refine ⟨fun i m H => m = xs.length - i ∧ i ≤ xs.length ∧ LcP xs keep G H1 D i H, ⟨xs.length, rfl, Nat.zero_le _, grow nD, [], upd_same, .nil⟩, ?_⟩
  rintro i m H ⟨rfl, hi, p⟩
  have q := keepT p.1 hs
  by_cases lt : i < xs.length
  · refine .inr ⟨⟨xs, xs[i], q, List.getElem?_eq_getElem lt⟩, LcP xs keep G H1 D (i + 1), fun H' p' => ⟨xs.length - (i + 1), by omega, rfl, lt, p'⟩, fun x H' y => ?_⟩
    obtain ⟨e, y⟩ := y
    subst e
    exact ⟨hw x, lcp_step nD hz gk gu test item (y xs q) p⟩
  · have e : i = xs.length := by omega
    subst e
    obtain ⟨sm, ys, hD, al⟩ := p
    rw [List.take_length] at al
    exact .inl ⟨⟨xs, q, Nat.le_refl _⟩, hd ys H al sm hD⟩
theorem lcG_rng {lo : Int} {n : Nat} (nD : H1 D = none) (hz : n ≤ sizeLine) (ex : xs = (List.range n).map fun i => V.int (lo + (i : Nat))) (hw : ∀ x, wipe ((wipe σ vs).set j (some x)) vs = wipe σ vs)
    (gk : ∀ x y H H', Same H H' → G x y H → G x y H') (gu : ∀ x y H ys zs, H D = some (.lst ys) → G x y H → G x y (upd H D (.lst zs)))
    (test : ∀ (i : Nat) (x : V) (H : Hp) (R : Bool → Hp → Prop), xs[i]? = some x → Same H1 H → (∀ H', Same H H' → R (keep x) H') → tt ((wipe σ vs).set j (some x)) H R)
    (item : ∀ (i : Nat) (x : V) (H : Hp) (R : V → Hp → Prop), xs[i]? = some x → keep x = true → Same H1 H → (∀ y H', Same H H' → G x y H' → R y H') → te ((wipe σ vs).set j (some x)) H R)
    (hd : ∀ ys H', Al2 (fun x y => G x y H') (xs.filter keep) ys → Same H1 H' → H' D = some (.lst ys) → Qd H') :
    ∃ W : Nat → Nat → Hp → Prop, (∃ m, W 0 m (upd H1 D (.lst []))) ∧ ∀ i m H, W i m H →
      ((Itr lo n).stop i H ∧ Qd H) ∨ ((Itr lo n).go i H ∧ ∃ Nx : Hp → Prop, (∀ H', Nx H' → ∃ m', m' < m ∧ W (i + 1) m' H') ∧ ∀ x H', (Itr lo n).yld i H x H' → gName j x (wipe σ vs) H' fun σ2 H2 => wipe σ2 vs = wipe σ vs ∧ tt σ2 H2 fun b H3 =>
        if b = true then te σ2 H3 fun y H4 => ∃ acc, H4 D = some (.lst acc) ∧ acc.length < sizeLine ∧ Nx (upd H4 D (.lst (acc ++ [y]))) else Nx H3) := by
  have lx : xs.length = n := by rw [ex, List.length_map, List.length_range]
  refine lc_range (LcP xs keep G H1 D) ⟨grow nD, [], upd_same, .nil⟩ (fun i H hi p => ⟨hw _, lcp_step nD (by omega) gk gu test item (i := i) ?_ p⟩) (fun H p => ?_)
  · rw [ex, List.getElem?_map, List.getElem?_range hi]
    rfl
  · obtain ⟨sm, ys, hD, al⟩ := p
    rw [← lx, List.take_length] at al
    exact hd ys H al sm hD
/-! ### the same, its items told by a row -/
theorem lcF_list {K : PySem.W.Frag} {a : Addr} (f : V → V) (nD : H1 D = none) (hs : SqL K H1 a xs) (hz : xs.length ≤ sizeLine) (hw : ∀ x, wipe ((wipe σ vs).set j (some x)) vs = wipe σ vs)
    (test : ∀ (i : Nat) (x : V) (H : Hp) (R : Bool → Hp → Prop), xs[i]? = some x → Same H1 H → (∀ H', Same H H' → R (keep x) H') → tt ((wipe σ vs).set j (some x)) H R)
    (item : ∀ (i : Nat) (x : V) (H : Hp) (R : V → Hp → Prop), xs[i]? = some x → keep x = true → Same H1 H → (∀ H', Same H H' → R (f x) H') → te ((wipe σ vs).set j (some x)) H R)
    (hd : ∀ H', Same H1 H' → H' D = some (.lst ((xs.filter keep).map f)) → Qd H') :
    ∃ W : Nat → Nat → Hp → Prop, (∃ m, W 0 m (upd H1 D (.lst []))) ∧ ∀ i m H, W i m H →
      ((Itl K a).stop i H ∧ Qd H) ∨ ((Itl K a).go i H ∧ ∃ Nx : Hp → Prop, (∀ H', Nx H' → ∃ m', m' < m ∧ W (i + 1) m' H') ∧ ∀ x H', (Itl K a).yld i H x H' → gName j x (wipe σ vs) H' fun σ2 H2 => wipe σ2 vs = wipe σ vs ∧ tt σ2 H2 fun b H3 =>
        if b = true then te σ2 H3 fun y H4 => ∃ acc, H4 D = some (.lst acc) ∧ acc.length < sizeLine ∧ Nx (upd H4 D (.lst (acc ++ [y]))) else Nx H3) :=
  lcG_list (G := fun x y _ => y = f x) nD hs hz hw (fun _ _ _ _ _ h => h) (fun _ _ _ _ _ _ h => h) test (fun i x H R hx k sm r => item i x H R hx k sm fun H' s => r _ _ s rfl) fun ys H' al sm h => hd H' sm (by rw [← al.eq_map]; exact h)
theorem lcF_tup {K : PySem.W.Frag} {a : Addr} (f : V → V) (nD : H1 D = none) (hs : SqT K H1 a xs) (hz : xs.length ≤ sizeLine) (hw : ∀ x, wipe ((wipe σ vs).set j (some x)) vs = wipe σ vs)
    (test : ∀ (i : Nat) (x : V) (H : Hp) (R : Bool → Hp → Prop), xs[i]? = some x → Same H1 H → (∀ H', Same H H' → R (keep x) H') → tt ((wipe σ vs).set j (some x)) H R)
    (item : ∀ (i : Nat) (x : V) (H : Hp) (R : V → Hp → Prop), xs[i]? = some x → keep x = true → Same H1 H → (∀ H', Same H H' → R (f x) H') → te ((wipe σ vs).set j (some x)) H R)
    (hd : ∀ H', Same H1 H' → H' D = some (.lst ((xs.filter keep).map f)) → Qd H') :
    ∃ W : Nat → Nat → Hp → Prop, (∃ m, W 0 m (upd H1 D (.lst []))) ∧ ∀ i m H, W i m H →
      ((Itt K a).stop i H ∧ Qd H) ∨ ((Itt K a).go i H ∧ ∃ Nx : Hp → Prop, (∀ H', Nx H' → ∃ m', m' < m ∧ W (i + 1) m' H') ∧ ∀ x H', (Itt K a).yld i H x H' → gName j x (wipe σ vs) H' fun σ2 H2 => wipe σ2 vs = wipe σ vs ∧ tt σ2 H2 fun b H3 =>
        if b = true then te σ2 H3 fun y H4 => ∃ acc, H4 D = some (.lst acc) ∧ acc.length < sizeLine ∧ Nx (upd H4 D (.lst (acc ++ [y]))) else Nx H3) :=
  lcG_tup (G := fun x y _ => y = f x) nD hs hz hw (fun _ _ _ _ _ h => h) (fun _ _ _ _ _ _ h => h) test (fun i x H R hx k sm r => item i x H R hx k sm fun H' s => r _ _ s rfl) fun ys H' al sm h => hd H' sm (by rw [← al.eq_map]; exact h)
end
/-! ### the same over a row that is known by another one -/
section
variable {α : Type} {es : List α} {xs : List V} {keep : α → Bool} {G : α → V → Hp → Prop} {tt : TT} {te : TE} {vs : List Nat} {σ : L2.St} {H1 : Hp} {D : Addr} {j : Nat} {Qd : Hp → Prop}
def LcE (es : List α) (keep : α → Bool) (G : α → V → Hp → Prop) (H1 : Hp) (D : Addr) (i : Nat) (H : Hp) : Prop := Same H1 H ∧ ∃ ys, H D = some (.lst ys) ∧ Al2 (fun e y => G e y H) ((es.take i).filter keep) ys
theorem lce_step (lx : es.length = xs.length) (nD : H1 D = none) (hz : xs.length ≤ sizeLine) (gk : ∀ e y H H', Same H H' → G e y H → G e y H') (gu : ∀ e y H ys zs, e ∈ es → H D = some (.lst ys) → G e y H → G e y (upd H D (.lst zs)))
    (test : ∀ (i : Nat) (e : α) (x : V) (H : Hp) (R : Bool → Hp → Prop), es[i]? = some e → xs[i]? = some x → Same H1 H → (∀ H', Same H H' → R (keep e) H') → tt ((wipe σ vs).set j (some x)) H R)
    (item : ∀ (i : Nat) (e : α) (x : V) (H : Hp) (R : V → Hp → Prop), es[i]? = some e → xs[i]? = some x → keep e = true → Same H1 H → (∀ y H', Same H H' → G e y H' → R y H') → te ((wipe σ vs).set j (some x)) H R)
    {i : Nat} {x : V} {H : Hp} (hx : xs[i]? = some x) (p : LcE es keep G H1 D i H) : tt ((wipe σ vs).set j (some x)) H fun b H3 =>
      if b = true then te ((wipe σ vs).set j (some x)) H3 fun y H4 => ∃ acc, H4 D = some (.lst acc) ∧ acc.length < sizeLine ∧ LcE es keep G H1 D (i + 1) (upd H4 D (.lst (acc ++ [y]))) else LcE es keep G H1 D (i + 1) H3 := by
  have hi : i < xs.length := (List.getElem?_eq_some_iff.mp hx).1
  obtain ⟨e, he⟩ : ∃ e, es[i]? = some e := ⟨_, List.getElem?_eq_getElem (by omega)⟩
  obtain ⟨sm, ys, hD, al⟩ := p
  refine test i e x H _ he hx sm fun H3 s3 => ?_
  by_cases k : keep e = true
  · rw [if_pos k]
    refine item i e x H3 _ he hx k (sm.trans s3) fun y H4 s4 gy => ⟨ys, s4 _ _ (s3 _ _ hD), ?_, ?_, ys ++ [y], upd_same, ?_⟩
    · have := al.length
      have l2 := List.length_filter_le keep (es.take i)
      rw [List.length_take] at l2
      omega
    · exact (sm.trans (s3.trans s4)).over nD
    · rw [take_filter keep he, if_pos k]
      have hD4 := s4 _ _ (s3 _ _ hD)
      have mem : ∀ u ∈ (es.take i).filter keep, u ∈ es := fun u hu => (List.take_sublist _ _).mem (List.mem_filter.mp hu).1
      have al2 : Al2 (fun u v => G u v (upd H4 D (.lst (ys ++ [y])))) ((es.take i).filter keep) ys := by
        clear hi he
        revert mem
        generalize (es.take i).filter keep = us at al
        intro mem
        have go : ∀ {us : List α} {ys' : List V}, Al2 (fun e y => G e y H) us ys' → (∀ u ∈ us, u ∈ es) → Al2 (fun u v => G u v (upd H4 D (.lst (ys ++ [y])))) us ys' := by
          intro us ys' al
          induction al with
          | nil => exact fun _ => .nil
          | cons h _ ih => exact fun mem => .cons (gu _ _ _ _ _ (mem _ (by simp)) hD4 (gk _ _ _ _ (s3.trans s4) h)) (ih fun u hu => mem u (List.mem_cons_of_mem _ hu))
        exact go al mem
      exact Al2.snoc (R := fun u v => G u v (upd H4 D (.lst (ys ++ [y])))) (gu _ _ _ _ _ (List.mem_of_getElem? he) hD4 gy) al2
  · rw [if_neg k]
    refine ⟨sm.trans s3, ys, s3 _ _ hD, ?_⟩
    rw [take_filter keep he, if_neg k, List.append_nil]
    exact al.mono fun u v g => gk _ _ _ _ s3 g
theorem lcE_list {K : PySem.W.Frag} {a : Addr} (lx : es.length = xs.length) (nD : H1 D = none) (hs : SqL K H1 a xs) (hz : xs.length ≤ sizeLine) (hw : ∀ x, wipe ((wipe σ vs).set j (some x)) vs = wipe σ vs)
    (gk : ∀ e y H H', Same H H' → G e y H → G e y H') (gu : ∀ e y H ys zs, e ∈ es → H D = some (.lst ys) → G e y H → G e y (upd H D (.lst zs)))
    (test : ∀ (i : Nat) (e : α) (x : V) (H : Hp) (R : Bool → Hp → Prop), es[i]? = some e → xs[i]? = some x → Same H1 H → (∀ H', Same H H' → R (keep e) H') → tt ((wipe σ vs).set j (some x)) H R)
    (item : ∀ (i : Nat) (e : α) (x : V) (H : Hp) (R : V → Hp → Prop), es[i]? = some e → xs[i]? = some x → keep e = true → Same H1 H → (∀ y H', Same H H' → G e y H' → R y H') → te ((wipe σ vs).set j (some x)) H R)
    (hd : ∀ ys H', Al2 (fun e y => G e y H') (es.filter keep) ys → Same H1 H' → H' D = some (.lst ys) → Qd H') :
    ∃ W : Nat → Nat → Hp → Prop, (∃ m, W 0 m (upd H1 D (.lst []))) ∧ ∀ i m H, W i m H →
      ((Itl K a).stop i H ∧ Qd H) ∨ ((Itl K a).go i H ∧ ∃ Nx : Hp → Prop, (∀ H', Nx H' → ∃ m', m' < m ∧ W (i + 1) m' H') ∧ ∀ x H', (Itl K a).yld i H x H' → gName j x (wipe σ vs) H' fun σ2 H2 => wipe σ2 vs = wipe σ vs ∧ tt σ2 H2 fun b H3 =>
        if b = true then te σ2 H3 fun y H4 => ∃ acc, H4 D = some (.lst acc) ∧ acc.length < sizeLine ∧ Nx (upd H4 D (.lst (acc ++ [y]))) else Nx H3) := by
  refine lc_list (xs := xs) (LcE es keep G H1 D) ⟨grow nD, [], upd_same, .nil⟩ (fun i H _ p => p.1.seq hs) (fun i x H hx p => ⟨hw x, lce_step lx nD hz gk gu test item hx p⟩) (fun H p => ?_)
  obtain ⟨sm, ys, hD, al⟩ := p
  rw [← lx, List.take_length] at al
  exact hd ys H al sm hD
theorem lcE_tup {K : PySem.W.Frag} {a : Addr} (lx : es.length = xs.length) (nD : H1 D = none) (hs : SqT K H1 a xs) (hz : xs.length ≤ sizeLine) (hw : ∀ x, wipe ((wipe σ vs).set j (some x)) vs = wipe σ vs)
    (gk : ∀ e y H H', Same H H' → G e y H → G e y H') (gu : ∀ e y H ys zs, e ∈ es → H D = some (.lst ys) → G e y H → G e y (upd H D (.lst zs)))
    (test : ∀ (i : Nat) (e : α) (x : V) (H : Hp) (R : Bool → Hp → Prop), es[i]? = some e → xs[i]? = some x → Same H1 H → (∀ H', Same H H' → R (keep e) H') → tt ((wipe σ vs).set j (some x)) H R)
    (item : ∀ (i : Nat) (e : α) (x : V) (H : Hp) (R : V → Hp → Prop), es[i]? = some e → xs[i]? = some x → keep e = true → Same H1 H → (∀ y H', Same H H' → G e y H' → R y H') → te ((wipe σ vs).set j (some x)) H R)
    (hd : ∀ ys H', Al2 (fun e y => G e y H') (es.filter keep) ys → Same H1 H' → H' D = some (.lst ys) → Qd H') :
    ∃ W : Nat → Nat → Hp → Prop, (∃ m, W 0 m (upd H1 D (.lst []))) ∧ ∀ i m H, W i m H →
      ((Itt K a).stop i H ∧ Qd H) ∨ ((Itt K a).go i H ∧ ∃ Nx : Hp → Prop, (∀ H', Nx H' → ∃ m', m' < m ∧ W (i + 1) m' H') ∧ ∀ x H', (Itt K a).yld i H x H' → gName j x (wipe σ vs) H' fun σ2 H2 => wipe σ2 vs = wipe σ vs ∧ tt σ2 H2 fun b H3 =>
        if b = true then te σ2 H3 fun y H4 => ∃ acc, H4 D = some (.lst acc) ∧ acc.length < sizeLine ∧ Nx (upd H4 D (.lst (acc ++ [y]))) else Nx H3) := by
  refine lc_tup (xs := xs) (LcE es keep G H1 D) ⟨grow nD, [], upd_same, .nil⟩ (fun i H _ p => keepT p.1 hs) (fun i x H hx p => ⟨hw x, lce_step lx nD hz gk gu test item hx p⟩) (fun H p => ?_)
  obtain ⟨sm, ys, hD, al⟩ := p
  rw [← lx, List.take_length] at al
  exact hd ys H al sm hD
end
theorem Al2.at {α β : Type} {R : α → β → Prop} : ∀ {xs : List α} {ys : List β} {i : Nat} {x : α} {y : β}, Al2 R xs ys → xs[i]? = some x → ys[i]? = some y → R x y
  | _, _, _, _, _, .nil, h, _ => by cases h
  | _, _, 0, _, _, .cons h hs, e, k => by cases e; cases k; exact h
  | _, _, i + 1, _, _, .cons h hs, e, k => hs.at (i := i) e k
end Fc

namespace Fc
open PySem PySem.Spec L2 PyProof.Rows
theorem t_by {c : TT} {σ : L2.St} {H : Hp} {Q : Bool → Hp → Prop} (PX PY : Prop) (hX : PX → Q true H) (hY : PY → Q false H) (hc : (∀ k : Bool, (k = true → PX) → (k = false → PY) → Q k H) → c σ H Q) : c σ H Q := hc fun k hx hy => by
  cases k with
  | true => exact hX (hx rfl)
  | false => exact hY (hy rfl)
theorem te_by {t : TE} {σ : L2.St} {H : Hp} {Q : VK} (P : V → Hp → Prop) (hQ : ∀ v H', P v H' → Q v H') (h : (∀ v H', P v H' → Q v H') → t σ H Q) : t σ H Q := h hQ
/-! ### the program's clean: told or refused -/
def OutC (K : PySem.W.Frag) (cB cL : Addr) (H : Hp) (Q : VK) (E : XK) : CRes → Prop
  | .bad => ∀ H', Same H H' → E (.ref cB) none H'
  | .out => ∀ H', Same H H' → E (.ref cL) none H'
  | .ok ps => ∀ H', Same H H' → Q (T (pathOf ps)) H'
def spCln (K : PySem.W.Frag) (cB cL : Addr) : Sp := fun vs H Q E => ∃ l : List Nat, vs = [T l] ∧ l.length ≤ 1000 ∧ OutC K cB cL H Q E (cleanF l)
theorem pathOf_len {ps : List (List Nat)} (h : PathOk ps) : (pathOf ps).length ≤ 104 := by
  have := joinC_len 47 ps 12 fun p hp => (h.2.2 p hp).2.1
  have l8 := h.2.1
  unfold pathOf
  omega
/-! ### the way from a folder to a path -/
def strip : List (List Nat) → List (List Nat) → List (List Nat) × List (List Nat)
  | p :: ps, q :: qs => if p = q then strip ps qs else (p :: ps, q :: qs)
  | ps, qs => (ps, qs)
theorem strip_spec : ∀ (fs gs : List (List Nat)), ∃ c, fs = c ++ (strip fs gs).1 ∧ gs = c ++ (strip fs gs).2
  | [], gs => ⟨[], by simp [strip], by simp [strip]⟩
  | p :: ps, [] => ⟨[], by simp [strip], by simp [strip]⟩
  | p :: ps, q :: qs => by
    rw [strip]
    by_cases z : p = q
    · rw [if_pos z]
      obtain ⟨c, e1, e2⟩ := strip_spec ps qs
      exact ⟨p :: c, by rw [List.cons_append, ← e1], by rw [List.cons_append, ← e2, z]⟩
    · rw [if_neg z]
      exact ⟨[], rfl, rfl⟩
def dots : List Nat := [46, 46]
def wayP (a b : List (List Nat)) : List (List Nat) := a.map (fun _ => dots) ++ b
def wayTo (a b : List (List Nat)) : List Nat := if wayP a b = [] then [46] else joinC 47 (wayP a b)
def wayT (fs gs : List (List Nat)) : List Nat := wayTo (strip fs gs).1 (strip fs gs).2
theorem pops (r : List (List Nat)) : ∀ (n : Nat) (k : List (List Nat)), n ≤ k.length → walkC (List.replicate n dots ++ r) k = walkC r (k.take (k.length - n))
  | 0, k, _ => by simp
  | n + 1, k, h => by
    have k0 : k ≠ [] := fun e => by rw [e] at h; simp at h
    rw [List.replicate_succ, List.cons_append, walkC, if_pos (show dots = [46, 46] from rfl), if_neg k0, pops r n k.dropLast (by rw [List.length_dropLast]; omega), List.length_dropLast, List.dropLast_eq_take, List.take_take]
    congr 2
    omega
def FolOk (fs : List (List Nat)) : Prop := fs = [] ∨ PathOk fs
theorem FolOk.parts {fs : List (List Nat)} (h : FolOk fs) : ∀ p ∈ fs, partOk p := by
  rcases h with rfl | h
  · intro p hp; cases hp
  · exact h.2.2
theorem wayP_stroke {a b : List (List Nat)} (hb : ∀ p ∈ b, partOk p) : ∀ p ∈ wayP a b, 47 ∉ p := by
  intro p hp
  rcases List.mem_append.mp hp with hp | hp
  · obtain ⟨q, _, rfl⟩ := List.mem_map.mp hp
    decide
  · exact no_stroke (hb p hp)
theorem walk_way {fs gs : List (List Nat)} (hf : ∀ p ∈ fs, partOk p) (hg : PathOk gs) : walkC (fs ++ splitC 47 (wayT fs gs)) [] = .ok gs := by
  obtain ⟨c, e1, e2⟩ := strip_spec fs gs
  rw [walkC_parts fs [] _ hf, List.nil_append]
  unfold wayT wayTo
  generalize (strip fs gs).1 = a at e1 e2
  generalize (strip fs gs).2 = b at e1 e2
  have hb : ∀ p ∈ b, partOk p := fun p hp => hg.2.2 p (by rw [e2]; exact List.mem_append_right _ hp)
  have fin : walkC [] gs = .ok gs := by
    rw [walkC, if_neg fun z => by rcases z with z | z; exact hg.1 z; exact absurd hg.2.1 (by omega)]
  by_cases z : wayP a b = []
  · rw [if_pos z]
    unfold wayP at z
    rw [List.append_eq_nil_iff, List.map_eq_nil_iff] at z
    rw [z.1, List.append_nil] at e1
    rw [z.2, List.append_nil] at e2
    rw [show splitC 47 [46] = [[46]] by decide, walkC, if_neg (by decide), if_pos (.inr rfl), e1, ← e2]
    exact fin
  · rw [if_neg z, split_joinC 47 z (wayP_stroke hb)]
    unfold wayP
    rw [List.map_const', pops _ _ _ (by rw [e1, List.length_append]; omega), e1, List.length_append, Nat.add_sub_cancel, List.take_left]
    have w := walkC_parts b c [] hb
    rw [List.append_nil] at w
    rw [w, ← e2]
    exact fin
theorem join_ne {ws : List (List Nat)} (h : ws ≠ []) (hp : ∀ p ∈ ws, p ≠ []) : joinC 47 ws ≠ [] := by
  cases ws with
  | nil => exact absurd rfl h
  | cons p r =>
    have p0 := hp p (by simp)
    cases p with
    | nil => exact absurd rfl p0
    | cons c q =>
      cases r with
      | nil =>
        show (c :: q) ≠ []
        simp
      | cons p2 r2 =>
        show (c :: q) ++ ([47] ++ TL.joinL [47] (p2 :: r2)) ≠ []
        simp
theorem part_ne {p : List Nat} (h : partOk p) : p ≠ [] := fun e => by
  rw [e] at h
  exact absurd h.1 (by decide)
theorem wayP_ne {a b : List (List Nat)} (hb : ∀ p ∈ b, partOk p) : ∀ p ∈ wayP a b, p ≠ [] := by
  intro p hp
  rcases List.mem_append.mp hp with hp | hp
  · obtain ⟨q, _, rfl⟩ := List.mem_map.mp hp
    decide
  · exact part_ne (hb p hp)
theorem pathOf_ne {ps : List (List Nat)} (h : PathOk ps) : pathOf ps ≠ [] := join_ne h.1 fun p hp => part_ne (h.2.2 p hp)
/-- from the top -/
theorem clean_top {gs : List (List Nat)} (hg : PathOk gs) : cleanF (wayT [] gs) = .ok gs := by
  have e : wayT [] gs = pathOf gs := by
    unfold wayT wayTo wayP
    cases gs with
    | nil => exact absurd rfl hg.1
    | cons p r => rfl
  rw [e, clean_path hg]
/-- from a folder -/
theorem clean_way {fs gs : List (List Nat)} (hf : PathOk fs) (hg : PathOk gs) : cleanF (pathOf fs ++ [47] ++ wayT fs gs) = .ok gs := by
  have hd : (pathOf fs ++ [47] ++ wayT fs gs).head? ≠ some 47 := by
    have := head_join hf
    have ne := pathOf_ne hf
    cases e : pathOf fs with
    | nil => exact absurd e ne
    | cons c q =>
      rw [e] at this
      simpa using this
  unfold cleanF
  rw [if_neg hd, List.append_assoc]
  show walkC (splitC 47 (pathOf fs ++ 47 :: wayT fs gs)) [] = _
  rw [splitC_app, split_path hf]
  exact walk_way hf.2.2 hg
theorem split_fol {fs : List (List Nat)} (h : FolOk fs) : (splitC 47 (pathOf fs)).filter (fun p => decide (p ≠ [])) = fs := by
  rcases h with rfl | h
  · rfl
  · rw [split_path h]
    exact List.filter_eq_self.mpr fun p hp => decide_eq_true (part_ne (h.2.2 p hp))
theorem wayT_len {fs gs : List (List Nat)} (hf : FolOk fs) (hg : PathOk gs) : (wayT fs gs).length ≤ 300 := by
  obtain ⟨c, e1, e2⟩ := strip_spec fs gs
  unfold wayT wayTo
  generalize (strip fs gs).1 = a at e1 e2
  generalize (strip fs gs).2 = b at e1 e2
  have hb : ∀ p ∈ b, partOk p := fun p hp => hg.2.2 p (by rw [e2]; exact List.mem_append_right _ hp)
  have la : a.length ≤ 8 := by
    have : fs.length ≤ 8 := by
      rcases hf with rfl | h
      · simp
      · exact h.2.1
    rw [e1, List.length_append] at this
    omega
  have lb : b.length ≤ 8 := by
    have := hg.2.1
    rw [e2, List.length_append] at this
    omega
  split
  · simp
  · have := joinC_len 47 (wayP a b) 12 fun p hp => by
      rcases List.mem_append.mp hp with hp | hp
      · obtain ⟨q, _, rfl⟩ := List.mem_map.mp hp
        decide
      · exact (hb p hp).2.1
    have l2 : (wayP a b).length = a.length + b.length := by
      unfold wayP
      rw [List.length_append, List.length_map]
    omega
end Fc

namespace Fc
open PySem PySem.Spec L2 PyProof.Rows
/-! ### xs[lo:hi:c]: some of the items -/
theorem vals_pick {xs : List V} {us : List Value} (r : Vals xs us) : ∀ (is : List Nat), Vals (is.filterMap (xs[·]?)) (is.filterMap (us[·]?))
  | [] => .nil
  | i :: is => by
    cases e : xs[i]? with
    | none =>
      rw [List.filterMap_cons_none e, List.filterMap_cons_none (r.none_of e)]
      exact vals_pick r is
    | some x =>
      obtain ⟨u, hu, rl⟩ := r.get e
      rw [List.filterMap_cons_some e, List.filterMap_cons_some hu]
      exact .cons rl (vals_pick r is)
def tStepL (K : PySem.W.Frag) (te : TE) (tl th : TO) : TE := fun σ H Q => te σ H fun x H1 => tl σ H1 fun _ H2 => th σ H2 fun _ H3 => ∃ a xs, x = .ref a ∧ SqL K H3 a xs ∧ ∀ p zs, (∀ z ∈ zs, z ∈ xs) → zs.length ≤ xs.length → H3 p = none → Q (.ref p) (upd H3 p (.lst zs))
theorem pe_stepL {X : Cx} {e : Expr} {lo hi : Option Expr} {te : TE} {tl th : TO} {c : Int} {k : Nat} {p1 p2 pos : Pos} (c0 : c ≠ 0) (he : PE X e te) (hl : PO X lo tl) (hu : PO X hi th) : PE X (.Subscript e (.Slice lo hi (some (.Constant (.int c) k p1)) p2) pos) (tStepL X.K te tl th) := by
  refine ⟨fun pins s σ H Q I h => ?_⟩
  refine Subscript_ (thn (he.run pins s σ H _ I h) fun v s1 ⟨x, H1, I1, r1, q1⟩ => ?_)
  have hst : PO X (some (.Constant (.int c) k p1)) (tPart (tC (.int c))) := po_some pe_int
  refine wpAny_Slice (thn (hl.run pins s1 σ H1 _ I1 q1) fun vl s2 ⟨l, H2, I2, pl, q2⟩ => ?_)
  refine thn (hu.run pins s2 σ H2 _ I2 q2) fun vu s3 ⟨u, H3, I3, pu, q3⟩ => ?_
  obtain ⟨a, xs, ex, hx, q⟩ := q3
  subst ex
  cases r1
  refine thn (hst.run pins s3 σ H3 (fun o H4 => o = some c ∧ H4 = H3) I3 ⟨c, rfl, rfl, rfl⟩) fun vs s4 ⟨o, H4, I4, ps, eo, e4⟩ => ?_
  subst eo e4
  have I5 : Inv X pins σ H4 { s4 with heap := s4.heap.push { cls := .type "slice", data := .fields #[vl, vu, vs] } } := I4.kept (t' := s4.toks) fun b ob q => Heap.get?_push_of_some _ q
  obtain ⟨its, r, ht, hz⟩ := I5.list hx
  have hlen := r.length
  show wpAny (model X.prog X.w) X.A (subscriptTail e (.Slice lo hi (some (.Constant (.int c) k p1)) p2) (.ref a) (.ref s4.heap.objs.size)) (EP X pins σ Q) X.xe { s4 with heap := s4.heap.push { cls := .type "slice", data := .fields #[vl, vu, vs] } }
  refine tail_any (ops := [.ref a, .ref s4.heap.objs.size]) ht.isList.typeIs (PySem.slot_list_getitem.lookup) ?_ (by with_unfolding_all rfl)
  refine wpAny_getItem_list_slice ht.isList (Heap.IsSliceOf.new _ vl vu vs) pl pu ps (fun z => c0 (Option.some.inj z)) ?_ (by rw [List.size_toArray]; omega)
  have sz := slicePick_size_le its.toArray l u (some c)
  obtain ⟨is, ep⟩ : ∃ is : List Nat, slicePick its.toArray l u (some c) = (is.filterMap (its[·]?)).toArray := by
    have ef : (fun i : Nat => its.toArray[i]?) = fun i => its[i]? := by
      funext i
      exact List.getElem?_toArray
    exact ⟨sliceRange (sliceBounds l u (some c) its.toArray.size).1 (sliceBounds l u (some c) its.toArray.size).2.1 (sliceBounds l u (some c) its.toArray.size).2.2, by unfold slicePick; rw [ef]⟩
  rw [ep] at sz ⊢
  rw [List.size_toArray, List.size_toArray] at sz
  have vp := vals_pick r is
  have lp := vp.length
  refine ⟨.ref _, _, I5.laid (t' := s4.toks) (o := .lst (is.filterMap (xs[·]?))) (fun b ob q => Heap.get?_push_of_some _ q) (Nat.le_refl _) ?_, rfl, q _ _ (fun z hz => ?_) (by omega) (I5.hok.fresh (Nat.le_refl _))⟩
  · exact ⟨by omega, _, 0, vp, Heap.get?_push_size _ rfl⟩
  · obtain ⟨i, _, hi⟩ := List.mem_filterMap.mp hz
    exact List.mem_of_getElem? hi
/-! ### a loop over zip of two lists of any lengths -/
theorem for_zipM {K : PySem.W.Frag} {a b : Addr} {xs ys : List V} {g : TG} {tb : TS} {D : Ends} {σ : L2.St} {H : Hp} (Pv : L2.St → Hp → Prop) (h0 : Pv σ H) (hq : ∀ σ H, Pv σ H → SqL K H a xs ∧ SqL K H b ys)
    (hs : ∀ (x y : V) (T : Addr) (σ : L2.St) (H : Hp), x ∈ xs → y ∈ ys → Pv σ H → H T = none → g (.ref T) σ (upd H T (.tup [x, y])) fun σ2 H2 => tb { D with nx := Pv, ct := Pv, bk := D.nx } σ2 H2) (hd : ∀ σ H, Pv σ H → D.nx σ H) :
    ∃ W : Nat → Nat → L2.St → Hp → Prop, (∃ m, W 0 m σ H) ∧ ∀ i m σ H, W i m σ H →
      ((Itz K a b).stop i H ∧ D.nx σ H) ∨ ((Itz K a b).go i H ∧ ∃ N : L2.St → Hp → Prop, (∀ σ' H', N σ' H' → ∃ m', m' < m ∧ W (i + 1) m' σ' H') ∧ ∀ v H', (Itz K a b).yld i H v H' → g v σ H' fun σ2 H2 => tb { D with nx := N, ct := N, bk := D.nx } σ2 H2) := by
  refine ⟨fun i m σ H => m = xs.length - i ∧ Pv σ H, ⟨xs.length, rfl, h0⟩, ?_⟩
  rintro i m σ H ⟨rfl, p⟩
  obtain ⟨qx, qy⟩ := hq σ H p
  by_cases hlt : i < xs.length ∧ i < ys.length
  · have hx : xs[i]? = some xs[i] := List.getElem?_eq_getElem hlt.1
    have hy : ys[i]? = some ys[i] := List.getElem?_eq_getElem hlt.2
    refine .inr ⟨⟨xs, ys, _, _, qx, qy, hx, hy⟩, Pv, fun σ' H' p' => ⟨xs.length - (i + 1), by omega, rfl, p'⟩, fun v H' y => ?_⟩
    obtain ⟨T, x', y', rfl, hT, rfl, f1, f2⟩ := y
    exact hs x' y' T σ H (List.mem_of_getElem? (f1 xs qx)) (List.mem_of_getElem? (f2 ys qy)) p hT
  · refine .inl ⟨⟨xs, ys, qx, qy, ?_⟩, hd σ H p⟩
    omega
end Fc

namespace Fc
open PySem PySem.Spec L2 PyProof.Rows
/-! ### own errors, and defs that raise them -/
abbrev veMro : List Value := [.type "ValueError", .type "Exception", .type "BaseException", .type "object"]
structure Exc (K : PySem.W.Frag) (mg : Str → Option Value) (x : Str) (C : Addr) : Prop where
  g : mg x = some (.ref C)
  x : PySem.W.excIn K C veMro "ValueError.__new__" = true
  k : PySem.W.keepIn K (.ref C) = true
  s : PySem.W.subIn K (.ref C) (.type "BaseException") = some true
  t : PySem.W.typeIn K (.ref C) = some (.type "type")
  i : PySem.W.isClsIn K C = true
theorem caught {K : PySem.W.Frag} {mg : Str → Option Value} {x : Str} {B C : Addr} {b : Bool} (e : Exc K mg x C) (h : PySem.W.subIn K (.ref B) (.ref C) = some b) : PySem.W.exmOne K (.ref B) (.ref C) = some b := by
  unfold PySem.W.exmOne
  rw [if_pos (by rw [e.s]; rfl)]
  show (if ((PySem.W.clsIn K C).isSome && PySem.W.typeIn K (.ref C) == some (.type "type")) = true then PySem.W.subIn K (.ref B) (.ref C) else none) = some b
  rw [if_pos (by rw [show (PySem.W.clsIn K C).isSome = true from e.i, e.t]; rfl), h]
section
variable {X : Cx}
theorem ps_raiseC {W : WX} {x m : Str} {C : Addr} {j : Nat} {p p2 p3 pos : Pos} (hc : X.calm = true) (tk : Takes X W) (e : Exc X.K X.mg x C) (hg : Gl X x := by rfl) (hdb : (x == ("__debug__" : Str)) = false := by decide) :
    PS X (.Raise (some (.Call (.Name x p) [.Constant (.str m) j p2] [] p3)) none pos) (fun _ σ H => W (.ref C) none σ H) :=
  ps_raise hc tk (pmk_own PySem.F.excBase_ValueError e.x e.g e.k (raises_own e.s e.t) hg hdb)
end
/-- as Cal, of a def that may raise -/
structure CalX (P : Program) (w : World) (K : PySem.W.Frag) (mg : Str → Option Value) (base : Heap) (x : Str) (k : Nat) (ps : List Str) (sp : Sp) : Prop where
  ex : ∃ f fd, FnOk P w K mg base (L2.CX P w) k f fd ps sp ∧ mg x = some (.ref f) ∧ PySem.W.keepIn K (.ref f) = true ∧ Binds K fd ps []
section
variable {X : Cx} {x : Str} {k : Nat} {ps : List Str} {sp : Sp} {p pos : Pos} {e : Expr} {es : List Expr} {t : TA}
theorem pe_cx {E : XK} (C : CalX X.prog X.w X.K X.mg X.base x k ps sp) (hr : Room k X.A) (tk : Takes X (fun cls d _ H => E cls d H)) (ha : PA X (e :: es) t) (hg : Gl X x := by rfl) (hdb : (x == ("__debug__" : Str)) = false := by decide)
    (he : starEach (e :: es) X.env = (false, eval e X.env) :: starEach es X.env := by rfl) (hpl : (backTo pos (starEach es X.env)).any (·.1) = false := by rfl) : PE X (.Call (.Name x p) (e :: es) [] pos) (tCall sp [] E t) := by
  obtain ⟨f, fd, F, m, kp, b⟩ := C.ex
  exact pe_call F hr hg m kp b .nil (passes_call tk fun _ _ _ _ h => h) ha hdb he hpl
theorem pe_cn (C : CalX X.prog X.w X.K X.mg X.base x k ps sp) (hr : Room k X.A) (ha : PA X (e :: es) t) (hg : Gl X x := by rfl) (hdb : (x == ("__debug__" : Str)) = false := by decide)
    (he : starEach (e :: es) X.env = (false, eval e X.env) :: starEach es X.env := by rfl) (hpl : (backTo pos (starEach es X.env)).any (·.1) = false := by rfl) : PE X (.Call (.Name x p) (e :: es) [] pos) (tCall sp [] E0 t) := by
  obtain ⟨f, fd, F, m, kp, b⟩ := C.ex
  exact pe_call F hr hg m kp b .nil passL ha hdb he hpl
theorem pe_cs {W : WX} (C : CalX X.prog X.w X.K X.mg X.base x k ps sp) (hr : Room k X.A) (tk : Takes X W) (ha : PA X (e :: es) t) (hg : Gl X x := by rfl) (hdb : (x == ("__debug__" : Str)) = false := by decide)
    (he : starEach (e :: es) X.env = (false, eval e X.env) :: starEach es X.env := by rfl) (hpl : (backTo pos (starEach es X.env)).any (·.1) = false := by rfl) : PE X (.Call (.Name x p) (e :: es) [] pos) (tCallS sp (WE W) t) := by
  obtain ⟨f, fd, F, m, kp, b⟩ := C.ex
  exact pe_callS F hr hg m kp b (fun σ => passAt tk σ) ha hdb he hpl
end
end Fc

namespace Fc
open PySem PySem.Spec L2 PyProof.Rows GxR GenW
/-! ### generator expressions whose parts may call own defs -/
/-- the names of the expression's own block -/
structure GxOk (scope : Scope) : Prop where
  co : scope.isCoroutine = false
  cell : ∀ y ∈ scope.names, y.2 ≠ .cell
  dot : scope.names.lookup (".0" : Str) = some NameKind.local
abbrev gxEnv (X : Cx) (scope : Scope) (C : Addr) (code : Value) : Env := genEnv scope (cloFrom X.env.cells scope.names []) C code builtinsNs X.env
/-- its frame's context -/
abbrev gxc (X : Cx) (A' : Around) (s : Shared) (H : Hp) (scope : Scope) (C : Addr) (code : Value) (fp : List Addr) (pn : List (Addr × Obj)) : Cx :=
  { X with A := A'.deeper (gxEnv X scope C code), s_0 := s, H_0 := H, env := gxEnv X scope C code, outer := X.stack, stack := gxEnv X scope C code :: X.stack, ex := fp, fn := fun _ => false, calm := true, pn := pn, xe := fun _ _ => False }
theorem over_gx {A : Around} {elt tg iter : Expr} {ifs : List Expr} {scope : Scope} {pos : Pos} {it acc : Value} {env : Env} : A.over (.compLoop (.GeneratorExp elt [⟨tg, iter, ifs, 0⟩] scope pos) 0 it acc env) [] = A.deeper env := by
  obtain ⟨hd, d, fr, gs, u⟩ := A
  simp [Around.over, Around.deeper, marksOver, frameCount, unitsOf, envsOf, guardsOf, pushEnvs, pushGuards, Code.envs, Code.env?, Code.isFrame, Code.guards, Code.isGuard, Code.weight, Code.frames, Code.isCreation, Code.isCaller, Code.cUnits]
theorem over_gx0 {A : Around} {elt tg iter : Expr} {ifs : List Expr} {scope : Scope} {pos : Pos} {it acc : Value} {env : Env} : A.over (.compStart (.GeneratorExp elt [⟨tg, iter, ifs, 0⟩] scope pos) 0 it acc env) [] = A.deeper env := by
  obtain ⟨hd, d, fr, gs, u⟩ := A
  simp [Around.over, Around.deeper, marksOver, frameCount, unitsOf, envsOf, guardsOf, pushEnvs, pushGuards, Code.envs, Code.env?, Code.isFrame, Code.guards, Code.isGuard, Code.weight, Code.frames, Code.isCreation, Code.isCaller, Code.cUnits]
section
variable {X : Cx} {pins : List (Addr × Obj)} {σ : L2.St} {H : Hp} {s : Shared}
theorem gx_start {A' : Around} {scope : Scope} {own : List (Str × Nat)} {fp : List Addr} {code : Value} {pn : List (Addr × Obj)} {s5 : Shared} {m : Str → Option Value} (I : Inv X pins σ H s) (ok : BlkOk X.N X.env.scope scope own) (gk : GxOk scope) (hN : X.N.Nodup)
    (hfp : ∀ b ∈ fp, FpOk X pins H b ∧ b < s.heap.objs.size) (hA : A'.frames = some X.stack) (hh : A'.handled = none) (ho : s5.os = s.os) (hb5 : AllBare s5.gens) (kp : ∀ b o, s.heap.get? b = some o → s5.heap.get? b = some o) (hns : s5.heap.Ns s.heap.objs.size m)
    (hpn : ∀ p ∈ pn, s5.heap.get? p.1 = some p.2 ∧ s.heap.objs.size < p.1 ∧ ∀ v, p.2.data ≠ .cell v) :
    Inv (gxc X A' s H scope s.heap.objs.size code fp pn) [] (wipe σ (own.map (·.2))) H s5 := by
  have hfree : ∀ y ∈ scope.names, y.2 = .free → ∃ c, X.env.cells.lookup y.1 = some c := fun y hy e => by
    rcases ok.free y hy e with k | k
    · exact I.ok.has _ (.inl k)
    · exact I.ok.has _ (.inr k)
  have cm : ∀ {y c}, (y, c) ∈ cloFrom X.env.cells scope.names [] → X.env.cells.lookup y = some c ∧ c < s.heap.objs.size := fun {y c} hm => by
    rcases cloFrom_mem hm with hm | ⟨h1, rfl⟩
    · cases hm
    · obtain ⟨c, hc⟩ := hfree _ h1 rfl
      rw [hc]
      obtain ⟨w, z⟩ := I.cell _ _ hc
      exact ⟨rfl, z.lt⟩
  have mem : ∀ {y c}, (gxEnv X scope s.heap.objs.size code).cells.lookup y = some c → X.env.cells.lookup y = some c ∧ c < s.heap.objs.size := fun {y c} e => cm (PySem.mem_of_lookup e)
  have look : ∀ {y}, scope.names.lookup y = some .free → ∃ c, (gxEnv X scope s.heap.objs.size code).cells.lookup y = some c ∧ X.env.cells.lookup y = some c := fun {y} hl => by
    have hy : (y, NameKind.free) ∈ scope.names := PySem.mem_of_lookup hl
    obtain ⟨c', e'⟩ := mem_lookup (cloFrom_has (cells := X.env.cells) (acc := []) hy)
    exact ⟨c', e', (mem e').1⟩
  have okB : (gxc X A' s H scope s.heap.objs.size code fp pn).Ok := by
    refine ⟨I.ok.mod, ok.kind, I.ok.glob, rfl, Nat.le_refl _, fun y z c e1 e2 => I.ok.inj y z c (mem e1).1 (mem e2).1, fun y hy => ?_, (fun y c z e => nomatch (show false = true from z)), fun _ => hh, Around.frames_deeper hA, .inr ⟨rfl, rfl⟩, fun b hb => ⟨Nat.ne_of_lt (hfp b hb).2, fun y c e z => (hfp b hb).1.2.2.2.2.1 y c (mem e).1 z⟩, I.bs, Nat.le_trans I.ok.bsz I.sz, fun b o e hb => ?_, fun b hb z => ?_, I.stack, I.stkFree⟩
    · rcases hy with hy | hy
      · exact absurd rfl (gk.cell _ (PySem.mem_of_lookup hy))
      · obtain ⟨c, h1, _⟩ := look hy
        exact ⟨c, h1⟩
    · rcases (hfp b hb).1.2.2.2.1 with z | z
      · exact I.ok.noex b o e z
      · exact absurd (Nat.lt_of_lt_of_le (Heap.lt_size e) (Nat.le_trans I.ok.bsz z)) (Nat.lt_irrefl _)
    · rcases List.mem_cons.mp (I.stkSub b z) with z | z
      · exact (hfp b hb).1.2.1 z
      · exact (hfp b hb).1.2.2.1 z
  refine ⟨okB, ho, hb5, Un.kept kp, ⟨m, hns, fun i y av e1 e2 e3 => ?_⟩, fun y c e => ?_, I.hok.fresh (Nat.le_refl _), fun y c e => I.freeC y c (mem e).1, fun p hp => ?_, I.hok.kept kp, by rw [wipe_length]; exact I.len⟩
  · obtain ⟨e2, hne⟩ := wipe_some e2
    have no : ∀ k', scope.names.lookup y = some k' → ¬ (k' = .local ∨ k' = .cell) := fun k' e hh => by
      rcases ok.own _ (PySem.mem_of_lookup e) hh with e' | e'
      · obtain ⟨p, hp, hpy⟩ := List.mem_map.mp e'
        have e3 := ok.ix p hp
        have : p.1 = y := hpy
        rw [this] at e3
        exact hne (List.mem_map.mpr ⟨p, hp, nodup_ix hN e3 e1⟩)
      · exact e' (List.mem_of_getElem? e1)
    have e3 : scope.names.lookup y = some .local ∨ scope.names.lookup y = some .cell ∨ scope.names.lookup y = some .free := e3
    have hfr : scope.names.lookup y = some .free := by
      rcases e3 with e3 | e3 | e3
      · exact absurd (.inl rfl) (no _ e3)
      · exact absurd (.inr rfl) (no _ e3)
      · exact e3
    obtain ⟨m', hn, hl⟩ := I.loc
    have hvis : Vis X.env.scope y := (ok.free _ (PySem.mem_of_lookup hfr) rfl).elim (fun k => .inr (.inl k)) (fun k => .inr (.inr k))
    obtain ⟨w, r, q⟩ := hl i y av e1 e2 hvis
    refine ⟨w, r, .inr ⟨.inr hfr, ?_⟩⟩
    obtain ⟨c, h1, h2⟩ := look hfr
    rcases q with ⟨k, _⟩ | ⟨_, c', e', z⟩
    · have k : X.env.scope.names.lookup y = some .local := k
      rcases ok.free _ (PySem.mem_of_lookup hfr) rfl with k' | k' <;> rw [show X.env.scope.names.lookup y = _ from k'] at k <;> cases k
    · rw [h2] at e'; cases e'
      exact ⟨c, h1, z.keeps kp⟩
  · obtain ⟨w, z⟩ := I.cell y c (mem e).1
    exact ⟨w, z.keeps kp⟩
  · have hp' : p ∈ pn := by
      have : p ∈ pn ++ [] := hp
      rwa [List.append_nil] at this
    obtain ⟨h1, h2, h3⟩ := hpn p hp'
    refine ⟨h1, I.hok.fresh (Nat.le_of_lt h2), Nat.ne_of_gt h2, fun z => ?_, h3⟩
    have : p.1 ∈ frs X.stack := z
    rcases List.mem_cons.mp (I.stkSub p.1 this) with z | z
    · rw [z] at h2
      exact absurd (Nat.lt_trans h2 I.lt) (Nat.lt_irrefl _)
    · exact I.nofs (Nat.le_of_lt h2) z
/-- the table of generators, the tokens may change -/
def Slp (s s' : Shared) : Prop := s'.heap = s.heap ∧ s'.os = s.os ∧ AllBare s'.gens
theorem Slp.inv {Y : Cx} {pins : List (Addr × Obj)} {σ : L2.St} {H : Hp} {s s' : Shared} (I : Inv Y pins σ H s) (z : Slp s s') : Inv Y pins σ H s' := by
  obtain ⟨h1, h2, h3⟩ := z
  exact ⟨I.ok, h2.trans I.os, h3, by rw [h1]; exact I.base, by rw [h1]; exact I.loc, by rw [h1]; exact I.cell, I.free, I.freeC, by rw [h1]; exact I.pin, by rw [h1]; exact I.hok, I.len⟩
end
/-! ### the walk for all -/
/-- the reading: W of the turn, a measure, the heap -/
def GWalk (J : It) (g : TG) (tt : TT) (te : TE) (vs : List Nat) (σ : L2.St) (take : V → Hp → (Hp → Prop) → Prop) (fin : Hp → Prop) (W : Nat → Nat → Hp → Prop) : Prop :=
  ∀ i m H, W i m H → (J.stop i H ∧ fin H) ∨ (J.go i H ∧ ∃ Nx : Hp → Prop, (∀ H', Nx H' → ∃ m', m' < m ∧ W (i + 1) m' H') ∧ ∀ x H', J.yld i H x H' → g x (wipe σ vs) H' fun σ2 H2 => wipe σ2 vs = wipe σ vs ∧ tt σ2 H2 fun b H3 =>
    if b = true then te σ2 H3 fun y H4 => take y H4 Nx else Nx H3)
def takeAll (Q : VK) (y : V) (H : Hp) (Nx : Hp → Prop) : Prop := ∃ k, y = .bl k ∧ (k = true → Nx H) ∧ (k = false → Q (.bl false) H)
def allY (Y : Cx) (σ : L2.St) (Q : VK) : Protocol := fun n s₀ v s kap => ∃ (k : Bool) (H' : Hp), v = .bool k ∧ Inv Y [] σ H' s ∧ (k = false → Q (.bl false) H') ∧ (k = true → ∀ s'', Slp s s'' → kap (.send .none) s'')
def allF (Y : Cx) (σ : L2.St) (Q : VK) (s₁ : Shared) : Prop := ∃ H', Inv Y [] σ H' s₁ ∧ Q (.bl true) H'
def allR (Y : Cx) (σ : L2.St) (Q : VK) : GenEnd := fun _ _ r s₁ => ((r = .ok (.ret .none) ∨ r = .ok .next) ∧ allF Y σ Q s₁) ∨ ∃ e, r = .error e ∧ False
section
variable {X : Cx} {A' : Around} {s4 : Shared} {H4 : Hp} {scope : Scope} {C : Addr} {code : Value} {fp : List Addr} {pn : List (Addr × Obj)}
theorem gx_loop {elt iter : Expr} {x : Str} {px pos : Pos} {ifs : List Expr} {vs : List Nat} {σ : L2.St} {g : TG} {tt : TT} {te : TE} {J : It} {it : Addr} {tn : Nat → Heap → Prop} {Q : VK} {W : Nat → Nat → Hp → Prop}
    (gk : GxOk scope) (hpn : ∀ p ∈ pn, p.1 ∉ fp)
    (T : Turn X.prog X.w X.K (.Name x px) J fp it tn)
    (pg : PG (gxc X A' s4 H4 scope C code fp pn) (.Name x px) g) (pt : PTs (gxc X A' s4 H4 scope C code fp pn) ifs tt) (pe : PE (gxc X A' s4 H4 scope C code fp pn) elt te)
    (turn : GWalk J g tt te vs σ (takeAll Q) (Q (.bl true)) W) :
    ∀ (m n i : Nat) (s₀ s : Shared) (H : Hp), W i m H → m < n → Inv (gxc X A' s4 H4 scope C code fp pn) [] (wipe σ vs) H s → tn i s.heap → (∀ b ∈ fp, H b = none) →
      Seg (model X.prog X.w) A' (allR (gxc X A' s4 H4 scope C code fp pn) (wipe σ vs) Q) (allY (gxc X A' s4 H4 scope C code fp pn) (wipe σ vs) Q) n s₀
        (.compLoop (.GeneratorExp elt [⟨.Name x px, iter, ifs, 0⟩] scope pos) 0 (.ref it) .none (gxEnv X scope C code)) ((model X.prog X.w).den (.compLoop (.GeneratorExp elt [⟨.Name x px, iter, ifs, 0⟩] scope pos) 0 (.ref it) .none (gxEnv X scope C code))) [] s := by
  generalize hY : gxc X A' s4 H4 scope C code fp pn = Y at pg pt pe
  have eP : Y.prog = X.prog := by rw [← hY]
  have ew : Y.w = X.w := by rw [← hY]
  have eK : Y.K = X.K := by rw [← hY]
  have eA : Y.A = A'.deeper (gxEnv X scope C code) := by rw [← hY]
  have eE : Y.env = gxEnv X scope C code := by rw [← hY]
  have ex : Y.ex = fp := by rw [← hY]
  have exe : Y.xe = fun _ _ => False := by rw [← hY]
  have epn : Y.pn = pn := by rw [← hY]
  have ecalm : Y.calm = true := by rw [← hY]
  have stat : ∀ {σ' : L2.St} {H' : Hp} {s' : Shared}, Inv Y [] σ' H' s' → (∀ b ∈ fp, H' b = none) → ∀ b ∈ fp, FpOk Y [] H' b := fun {σ' H' s'} I' hn b hb =>
    ⟨hn b hb, (I'.ok.exf b (by rw [ex]; exact hb)).1, I'.ok.exfs b (by rw [ex]; exact hb), .inl (by rw [ex]; exact hb), fun x c e => (I'.ok.exf b (by rw [ex]; exact hb)).2 x c e, fun p hp z => by
      rw [epn, List.append_nil] at hp
      exact hpn p hp (by rw [z]; exact hb)⟩
  intro m
  induction m using Nat.strongRecOn with
  | ind m ih =>
    intro n i s₀ s H w hmn I st nf
    show Seg _ A' _ _ _ s₀ _ ((compTurn (.GeneratorExp elt [⟨.Name x px, iter, ifs, 0⟩] scope pos) 0 (.ref it) .none (gxEnv X scope C code)).onRaise (leaving (gxEnv X scope C code))) [] s
    rw [compTurn_gen, Sem.onRaise_eq_wrap]
    refine seg_bind_wrap (wpAny_standAt ?_)
    rcases turn i m H w with ⟨stop, qq⟩ | ⟨go, Nx, hNx, step⟩
    · have td := T.done Y eP ew eK ecalm i [] s _ H (fun _ _ => False) I (stat I nf) st stop
      rw [eA] at td
      refine seg_bind_wrap ?_
      rw [over_gx]
      refine thnF td fun r s6 ⟨hr, I6⟩ => ?_
      subst hr
      exact seg_end (.ok .next) (.inl ⟨.inr rfl, H, I6, qq⟩)
    · have ti := T.item Y eP ew eK ecalm i [] s _ H (fun _ _ => False) I (stat I nf) st go
      rw [eA] at ti
      refine seg_bind_wrap ?_
      rw [over_gx]
      refine thnF ti fun r s6 ⟨u, hr, h6⟩ => ?_
      subst hr
      refine seg_bind_wrap ?_
      rw [over_gx]
      refine thnF h6 fun _ s7 ⟨y, H7, I7, r7, y7, st7, n7⟩ => ?_
      have I7' := I7.pinned (stat I7 n7) (T.obj _ _ st7)
      have pgr := pg.run _ s7 _ H7 y u _ I7' r7 (step y H7 y7)
      rw [eP, ew, eA, exe, eE] at pgr
      refine seg_bind_wrap ?_
      rw [over_gx]
      refine thnF pgr fun _ s8 ⟨σ8, H8, I8, hw8, q8⟩ => ?_
      have ptr := pt.run _ s8 σ8 H8 _ I8 q8
      rw [eP, ew, eA, exe, eE] at ptr
      refine seg_bind_wrap ?_
      rw [over_gx]
      refine thnF ptr fun b s9 ⟨H9, I9, q9⟩ => ?_
      have fin : ∀ {s' : Shared} {H' : Hp}, Inv Y ([] ++ pinsAt fp s7.heap) σ8 H' s' → Inv Y [] (wipe σ vs) H' s' ∧ tn (i + 1) s'.heap ∧ (∀ b ∈ fp, H' b = none) := fun {s' H'} I' => by
        have pin' : ∀ b ∈ fp, ∀ o, s7.heap.get? b = some o → s'.heap.get? b = some o ∧ H' b = none := fun b hb o e =>
          let z := I'.pin (b, o) (List.mem_append_right _ (List.mem_append_right _ (mem_pinsAt hb e)))
          ⟨z.1, z.2.1⟩
        have hl : (wipe σ vs).length = σ8.length := by rw [← hw8, wipe_length]
        refine ⟨(I'.unpinned (pins := [])).weak hl (fun j v e => ?_), T.keep _ _ _ st7 fun b hb o e => (pin' b hb o e).1, fun b hb => ?_⟩
        · rw [← hw8] at e
          exact (wipe_some e).1
        · obtain ⟨o, e, _⟩ := T.obj _ _ st7 b hb
          exact (pin' b hb o e).2
      cases b with
      | false =>
        simp only [Bool.false_eq_true, if_false] at q9 ⊢
        obtain ⟨f1, f2, f3⟩ := fin I9
        obtain ⟨m', hm', w'⟩ := hNx _ q9
        exact seg_again rfl (ih m' hm' n (i + 1) s₀ s9 H9 w' (by omega) f1 f2 f3)
      | true =>
        simp only [if_true] at q9 ⊢
        have hy : ∀ v, yieldOut (gxEnv X scope C code) v = yieldValue v := fun v => by
          have hco : (gxEnv X scope C code).scope.isCoroutine = false := gk.co
          simp only [yieldOut, hco, Bool.false_eq_true, if_false]
        simp only [hy]
        rw [Sem.bind_eq_wrap', Sem.bind_eq_wrap', Sem.wrap_wrap, Sem.wrap_wrap]
        have per := pe.run _ s9 σ8 H9 _ I9 q9
        rw [eP, ew, eA, exe, eE] at per
        refine seg_wrap ?_
        rw [over_gx]
        refine thnF per fun z s10 ⟨yv, H10, I10, r10, k, ek, kt, kf⟩ => ?_
        subst ek
        obtain rfl : z = .bool k := r10
        obtain ⟨f1, f2, f3⟩ := fin I10
        cases n with
        | zero => omega
        | succ n' =>
          refine seg_at (seg_yield rfl rfl rfl ⟨k, H10, rfl, f1, kf, fun ek s'' z => ?_⟩)
          obtain ⟨m', hm', w'⟩ := hNx _ (kt ek)
          have z1 := z.1
          exact seg_again rfl (ih m' hm' n' (i + 1) s'' s'' H10 w' (by omega) (z.inv f1) (by rw [z1]; exact f2) f3)
theorem gx_begin {elt iter : Expr} {x : Str} {px pos : Pos} {ifs : List Expr} {vs : List Nat} {σ : L2.St} {g : TG} {tt : TT} {te : TE} {J : It} {it : Addr} {tn : Nat → Heap → Prop} {Q : VK} {W : Nat → Nat → Hp → Prop}
    (gk : GxOk scope) (hpn : ∀ p ∈ pn, p.1 ∉ fp)
    (T : Turn X.prog X.w X.K (.Name x px) J fp it tn)
    (pg : PG (gxc X A' s4 H4 scope C code fp pn) (.Name x px) g) (pt : PTs (gxc X A' s4 H4 scope C code fp pn) ifs tt) (pe : PE (gxc X A' s4 H4 scope C code fp pn) elt te)
    (turn : GWalk J g tt te vs σ (takeAll Q) (Q (.bl true)) W) (m n : Nat) (s₀ s : Shared) (H : Hp) (w : W 0 m H) (hmn : m < n) (I : Inv (gxc X A' s4 H4 scope C code fp pn) [] (wipe σ vs) H s) (st : tn 0 s.heap) (nf : ∀ b ∈ fp, H b = none) :
      Seg (model X.prog X.w) A' (allR (gxc X A' s4 H4 scope C code fp pn) (wipe σ vs) Q) (allY (gxc X A' s4 H4 scope C code fp pn) (wipe σ vs) Q) n s₀
        (.compStart (.GeneratorExp elt [⟨.Name x px, iter, ifs, 0⟩] scope pos) 0 (.ref it) .none (gxEnv X scope C code)) ((model X.prog X.w).den (.compStart (.GeneratorExp elt [⟨.Name x px, iter, ifs, 0⟩] scope pos) 0 (.ref it) .none (gxEnv X scope C code))) [] s := by
  have loop := gx_loop (iter := iter) (pos := pos) gk hpn T pg pt pe turn m n 0 s₀ s H w hmn I st nf
  show Seg _ A' _ _ _ s₀ _ ((compStart (.GeneratorExp elt [⟨.Name x px, iter, ifs, 0⟩] scope pos) 0 (.ref it) .none (gxEnv X scope C code)).onRaise (leaving (gxEnv X scope C code))) [] s
  unfold compStart
  rw [Sem.onRaise_eq_wrap]
  show Seg _ A' _ _ _ s₀ _ ((ask >>= _).wrap _ _ _ _) [] s
  refine seg_bind_wrap (wpAny_askSetting ?_)
  split
  · exact seg_again rfl loop
  · first
      | exact seg_bind_wrap (wpAny_rule (seg_bind_wrap (wpAny_standAt (seg_bind_wrap (T.self _ 0 s _ _ st (seg_again rfl loop))))))
      | (refine seg_bind_wrap (wpAny_rule ?_); show Seg _ A' _ _ _ s₀ _ ((standAt iter.pos >>= _).wrap _ _ _ _) [] s; exact seg_bind_wrap (wpAny_standAt (seg_bind_wrap (T.self _ 0 s _ _ st (seg_again rfl loop)))))
/-- the loop of all, by what each next tells -/
theorem all_by {P : Program} {w : World} {A : Around} {a : Addr} {R : Result → Shared → Prop} (St : Nat → Shared → Prop)
    (step : ∀ m s, St m s → wpAny (model P w) A.in1 (pyNext (.ref a)) (fun r s1 => match r with | none => R (.ok (.ret (.bool true))) s1 | some v => ∃ k : Bool, v = .bool k ∧ (k = true → ∃ m', m' < m ∧ St m' s1) ∧ (k = false → R (.ok (.ret (.bool false))) s1)) (fun _ _ => False) s) :
    ∀ (m : Nat) (s : Shared), St m s → codeAny (model P w) A (.builtin "all.loop" ⟨[.ref a], []⟩) R s := by
  intro m
  induction m using Nat.strongRecOn with
  | ind m ih =>
    intro s hst
    refine codeAny_builtin F.entry_all_loop ?_
    rw [Around.under_plainId F.plain_all_loop _]
    show wpAny _ A.in1 (pyNext (.ref a) >>= _) _ _ s
    refine wpAny_bind (thnF (step m s hst) fun r s1 h => ?_)
    cases r with
    | none => exact wpAny_bind (wpAny_rule (wpAny_pure h))
    | some v =>
      obtain ⟨k, rfl, h1, h2⟩ := h
      refine wpAny_bind (wpAny_holding (wpAny_truthy_bool ?_))
      refine wpAny_bind (wpAny_letGo ?_)
      cases k with
      | true =>
        obtain ⟨m', hm, st'⟩ := h1 rfl
        simp only [if_true]
        exact wpAny_pure ⟨plainId_quiet F.plain_all_loop _, ih m' hm s1 st'⟩
      | false =>
        simp only [Bool.false_eq_true, if_false]
        exact wpAny_bind (wpAny_rule (wpAny_pure (h2 rfl)))
end
section
variable {X : Cx}
/-- all(elt for x in iter if ..): P the table of the def's code -/
def tAllG (P : Addr) (wi : TI) (g : TG) (tt : TT) (te : TE) (vs : List Nat) : TE := fun σ H Q => wi σ H fun J H1 => TabG H1 P ∧ ∀ H2, Tabbed P H1 H2 → ∃ W : Nat → Nat → Hp → Prop, (∃ m, W 0 m H2) ∧ GWalk J g tt te vs σ (takeAll Q) (Q (.bl true)) W
theorem pe_allG {c P : Addr} {elt iter : Expr} {x : Str} {px p pos gpos : Pos} {ifs : List Expr} {scope : Scope} {own : List (Str × Nat)} {wi : TI} {g : TG} {tt : TT} {te : TE} {k : Nat}
    (hr : Room (k + 2) X.A) (hg : Gl X "all") (hm : X.mg "all" = none) (hb : bootBuiltins "all" = some (.builtin "all")) (TB : TabB X.base X.mg c P) (hcode : X.env.code = .ref c) (hN : X.N.Nodup) (ok : BlkOk X.N X.env.scope scope own) (gk : GxOk scope)
    (hi : PI X (.Name x px) iter wi) (hgt : ∀ (A' : Around) (s : Shared) (H : Hp) (C : Addr) (code : Value) (fp : List Addr) (pn : List (Addr × Obj)), PG (gxc X A' s H scope C code fp pn) (.Name x px) g)
    (ht : ∀ (A' : Around) (s : Shared) (H : Hp) (C : Addr) (code : Value) (fp : List Addr) (pn : List (Addr × Obj)), Room k (gxc X A' s H scope C code fp pn).A → PTs (gxc X A' s H scope C code fp pn) ifs tt)
    (he : ∀ (A' : Around) (s : Shared) (H : Hp) (C : Addr) (code : Value) (fp : List Addr) (pn : List (Addr × Obj)), Room k (gxc X A' s H scope C code fp pn).A → PE (gxc X A' s H scope C code fp pn) elt te)
    (hs : ∀ v, genFold iter X.env v = pure v)
    (hst : starEach [.GeneratorExp elt [⟨.Name x px, iter, ifs, 0⟩] scope gpos] X.env = (false, eval (.GeneratorExp elt [⟨.Name x px, iter, ifs, 0⟩] scope gpos) X.env) :: starEach [] X.env := by rfl) :
    PE X (.Call (.Name "all" p) [.GeneratorExp elt [⟨.Name x px, iter, ifs, 0⟩] scope gpos] [] pos) (tAllG P wi g tt te (own.map (·.2))) := by
  refine ⟨fun pins s σ H Q I h => ?_⟩
  refine wpAny_Call_Name_kw (ld_blt I hg hm hb ?_)
  refine PyProof.Rows.callWith_builtin1 ?_ hst (by rfl)
  rw [hst]
  show wpAny _ _ (spliced ((false, eval (.GeneratorExp elt [⟨.Name x px, iter, ifs, 0⟩] scope gpos) X.env) :: backTo pos (starEach [] X.env))) _ _ s
  have hfree : ∀ y ∈ scope.names, y.2 = .free → ∃ c, X.env.cells.lookup y.1 = some c := fun y hy e => by
    rcases ok.free y hy e with k | k
    · exact I.ok.has _ (.inl k)
    · exact I.ok.has _ (.inr k)
  refine Calls.spliced_cons (wpAny_GeneratorExp_make gk.co (closure_ok hfree) gk.cell gk.dot ok.kind (by have := hr.dp; omega) (thn (hi.run pins s σ H _ I h) fun xv s1 hx => thn hx fun itv s2 h2 => ?_) hs)
  obtain ⟨it, fp, tn, J, H2, e, I2, T, st2, f2, ⟨ps, hP, htr⟩, q⟩ := h2
  subst e
  have hPs : s2.heap.get? P = some { cls := .none, data := .fields ps } := I2.hok P _ hP
  have nPf : P ∉ fp := fun z => by
    have := (f2 P z).1
    rw [hP] at this
    cases this
  have cd : PySem.W.CodeHd s2.heap c P := TB.code.keeps I2.bk
  refine ⟨I2.nolimit, ?_⟩
  have cont : ∀ (code : Value) (h3 : Heap) (tk : Nat) (more : Array Value), Heap.ExtBut P s2.heap h3 → h3.get? P = some { cls := .none, data := .fields (ps ++ more) } → TriplesOk (ps ++ more).toList →
      wpAny (model X.prog X.w) X.A (builtinsFor X.env.globals X.env.builtins) (fun bi s₄ => ∀ h', h'.Ns s₄.heap.objs.size (fun y => if y = ".0" then some (.ref it) else none) → Heap.SameBut s₄.heap.objs.size (s₄.heap.push { cls := .type "frame", data := .dict #[] }) h' →
        wpAny (model X.prog X.w) X.A (spliced (backTo pos (starEach [] X.env))) (fun us s' => wpAny (model X.prog X.w) X.A (call (.builtin "all") (.ref h'.objs.size :: us)) (EP X pins σ Q) X.xe s') X.xe { s₄ with
            gens := s₄.gens.push (.fresh (.compStart (.GeneratorExp elt [⟨.Name x px, iter, ifs, 0⟩] scope gpos) 0 (.ref it) .none (genEnv scope (cloFrom X.env.cells scope.names []) s₄.heap.objs.size code bi X.env))),
            toks := s₄.toks + 1 + 1 + 1,
            heap := h'.push { cls := .type "generator", data := .fields #[.int s₄.gens.size 0, .str "<genexpr>" (s₄.toks + 1), .str (X.env.qual ++ "<genexpr>") (s₄.toks + 1 + 1)] } }) X.xe { s2 with heap := h3, toks := tk } := by
    intro code h3 tk more hx hP3 ht3
    have I3 : Inv X pins σ (upd H2 P (.tbl (ps ++ more))) { s2 with heap := h3, toks := tk } := inv_tab (g' := s2.gens) (d' := s2.drawn) (t' := tk) I2 hP (fun b o hb e => hx b o hb e) hP3 I2.bare
    have hb2 : AllBare s2.gens := I2.bare
    have st3 : tn 0 h3 := T.keep _ _ _ st2 fun b hb o e => hx b o (fun z => nPf (by rw [← z]; exact hb)) e
    have f3 : ∀ b ∈ fp, FpOk X pins (upd H2 P (.tbl (ps ++ more))) b ∧ b < h3.objs.size := fun b hb => by
      have nb : b ≠ P := fun z => nPf (by rw [← z]; exact hb)
      obtain ⟨o, e, _⟩ := T.obj _ _ st2 b hb
      refine ⟨⟨?_, (f2 b hb).2⟩, Heap.lt_size (hx b o nb e)⟩
      rw [upd_ne nb]
      exact (f2 b hb).1
    obtain ⟨W, ⟨m0, w0⟩, turn⟩ := q (upd H2 P (.tbl (ps ++ more))) ⟨⟨ps ++ more, upd_same, ht3⟩, fun b hb => upd_ne hb⟩
    obtain ⟨bm, ob, e1, e2, e3, e4, e5, e6, e7, e8⟩ := TB.bm
    refine wpAny_builtinsFor (m := X.mg) (by rw [I3.ok.glob]; exact I3.mod.glob.keeps I3.bk) e1 e2 (I3.bk _ _ e5) e6 e7 e8 ?_
    intro h' hn' hs'
    have hn' : h'.Ns h3.objs.size (fun y => if y = ".0" then some (.ref it) else none) := hn'
    have hs' : Heap.SameBut h3.objs.size (h3.push { cls := .type "frame", data := .dict #[] }) h' := hs'
    have hsz : h'.objs.size = h3.objs.size + 1 := by rw [hs'.1, Heap.size_push]
    have keep' : ∀ b o, h3.get? b = some o → h'.get? b = some o := fun b o e => hs'.extBut b o (Nat.ne_of_lt (Heap.lt_size e)) (Heap.get?_push_of_some _ e)
    generalize hH3 : upd H2 P (.tbl (ps ++ more)) = H3 at I3 f3 w0
    generalize hgo : ({ cls := .type "generator", data := .fields #[.int s2.gens.size 0, .str "<genexpr>" (tk + 1), .str (X.env.qual ++ "<genexpr>") (tk + 1 + 1)] } : Obj) = go
    have goC : ∀ v, go.data ≠ .cell v := fun v z => by rw [← hgo] at z; cases z
    have goF : go.isFreed = false := by rw [← hgo]; rfl
    generalize hs5 : ({ s2 with heap := h'.push go, toks := tk + 1 + 1 + 1, gens := s2.gens.push (.fresh (.compStart (.GeneratorExp elt [⟨.Name x px, iter, ifs, 0⟩] scope gpos) 0 (.ref it) .none (gxEnv X scope h3.objs.size code))) } : Shared) = s5
    have k5 : ∀ b o, h3.get? b = some o → s5.heap.get? b = some o := fun b o e => by rw [← hs5]; exact Heap.get?_push_of_some _ (keep' b o e)
    have g5 : s5.heap.get? h'.objs.size = some go := by rw [← hs5]; exact Heap.get?_push_size _ goF
    have b5 : AllBare s5.gens := by rw [← hs5]; exact I2.bare.push rfl
    have I5 := gx_start (A' := X.A.in1.in1) (code := code) (pn := [(h'.objs.size, go)]) (s5 := s5) (s := { s2 with heap := h3, toks := tk }) I3 ok gk hN f3 I2.ok.frames hr.hd (by rw [← hs5]) b5 k5 (by rw [← hs5]; exact hn'.push _) (fun p hp => by
      rw [List.mem_singleton.mp hp]
      exact ⟨g5, by show h3.objs.size < h'.objs.size; omega, goC⟩)
    have rk : Room k (gxc X X.A.in1.in1 { s2 with heap := h3, toks := tk } H3 scope h3.objs.size code fp [(h'.objs.size, go)]).A := ⟨hr.hd, by have := hr.dp; show X.A.depth + 1 + 3 * k + 5 < _; omega, by have := hr.un; show X.A.units + 1 + 1 + 3 + 16 * k + 200 < _; omega⟩
    have pg := hgt X.A.in1.in1 { s2 with heap := h3, toks := tk } H3 h3.objs.size code fp [(h'.objs.size, go)]
    have pt := ht X.A.in1.in1 { s2 with heap := h3, toks := tk } H3 h3.objs.size code fp [(h'.objs.size, go)] rk
    have pe := he X.A.in1.in1 { s2 with heap := h3, toks := tk } H3 h3.objs.size code fp [(h'.objs.size, go)] rk
    have npn : ∀ p ∈ [(h'.objs.size, go)], p.1 ∉ fp := fun p hp z => by
      rw [List.mem_singleton.mp hp] at z
      have h9 : h'.objs.size < h3.objs.size := (f3 _ z).2
      omega
    have nf : ∀ b ∈ fp, H3 b = none := fun b hb => (f3 b hb).1.1
    have isG : ∀ {h : Heap}, h.get? h'.objs.size = some go → h.IsGen h'.objs.size s2.gens.size := fun {h} e => ⟨go, .str "<genexpr>" (tk + 1), .str (X.env.qual ++ "<genexpr>") (tk + 1 + 1), e, by rw [← hgo], by rw [← hgo], by rw [← hgo]⟩
    have back : ∀ {H' : Hp} {s₁ s' : Shared}, Inv (gxc X X.A.in1.in1 { s2 with heap := h3, toks := tk } H3 scope h3.objs.size code fp [(h'.objs.size, go)]) [] (wipe σ (own.map (·.2))) H' s₁ → s'.os = s₁.os → AllBare s'.gens → (∀ b o, s₁.heap.get? b = some o → s'.heap.get? b = some o) → Inv X pins σ H' s' := fun {H' s₁ s'} I' ho hb k =>
      I3.call' (ch := fp) (ho.trans I'.os) (I'.base.trans (Un.kept k)) (I'.hok.kept k) hb fun b hb => ⟨(f3 b hb).1.2.2.2.1, (f3 b hb).1.2.1, (f3 b hb).1.2.2.2.2.1, (f3 b hb).1.2.2.2.2.2⟩
    refine Calls.spliced_nil ?_
    show wpAny (model X.prog X.w) X.A (call (.builtin "all") [.ref h'.objs.size]) (EP X pins σ Q) X.xe s5
    refine call_function_tree F.kind_all F.plain_all F.entry_all (F.args_all1 _) ?_
    unfold Builtin.«all»
    refine wpAny_bind (m := oneArg "all" _) (wpAny_pure ?_)
    refine wpAny_bind (wpAny_pyIter_gen (isG g5) ?_)
    refine wpAny_pure ⟨plainId_quiet F.plain_all_loop _, ?_⟩
    refine all_by (A := X.A) (fun n s => s.heap.IsGen h'.objs.size s2.gens.size ∧ s.heap.NoLimit ∧ ∃ gs, s.gens[s2.gens.size]? = some gs ∧ gs.Goes (model X.prog X.w) X.A.in1.in1 (allR (gxc X X.A.in1.in1 { s2 with heap := h3, toks := tk } H3 scope h3.objs.size code fp [(h'.objs.size, go)]) (wipe σ (own.map (·.2))) Q) (allY (gxc X X.A.in1.in1 { s2 with heap := h3, toks := tk } H3 scope h3.objs.size code fp [(h'.objs.size, go)]) (wipe σ (own.map (·.2))) Q) n (.send .none) (s.setGen s2.gens.size .running)) ?_ (m0 + 1) s5 ?_
    · rintro n s ⟨hgn, hl, gs, hgs, hgoes⟩
      have hgl : s2.gens.size < s.gens.size := (Array.getElem?_eq_some_iff.mp hgs).1
      refine wpAny_gsz (n := s2.gens.size + 1) hgl (next_genG (A := X.A.in1) (F := fun _ _ s₁ => allF (gxc X X.A.in1.in1 { s2 with heap := h3, toks := tk } H3 scope h3.objs.size code fp [(h'.objs.size, go)]) (wipe σ (own.map fun (y : Str × Nat) => y.2)) Q s₁) (Er := fun _ _ => False) hr.hd hl (by have := hr.dp; show X.A.depth < _; omega) hgn hgs hgoes (fun v s₁ gs' hbare hv => ?_) (fun s₁ hp h'' hk => ?_) fun e s₁ he => he.elim)
      · intro hsz
        obtain ⟨kb, H', rfl, I', kf, kt⟩ := hv
        have hsz1 : s2.gens.size < s₁.gens.size := by
          have q : (s₁.setGen s2.gens.size gs').gens.size = s₁.gens.size := setGen_size _ _ _
          have hsz' : s2.gens.size + 1 ≤ (s₁.setGen s2.gens.size gs').gens.size := hsz
          omega
        refine ⟨kb, rfl, fun ek => ?_, fun ek => ?_⟩
        · have kt' := kt ek
          cases n with
          | zero => exact (kt' s₁ ⟨rfl, rfl, I'.bare⟩).elim
          | succ n' =>
            refine ⟨n', Nat.lt_succ_self _, isG (I'.pin (h'.objs.size, go) (by simp)).1, I'.nolimit, gs', setGen_at hsz1, kt' _ ⟨rfl, rfl, allBare_setGen (allBare_setGen I'.bare hbare) rfl⟩⟩
        · subst ek
          exact ⟨.bl false, H', back (s' := s₁.setGen s2.gens.size gs') I' rfl (allBare_setGen I'.bare hbare) (fun _ _ e => e), rfl, kf rfl⟩
      · intro _
        obtain ⟨H', I', q'⟩ := hp
        exact ⟨.bl true, H', back (s' := { s₁.setGen s2.gens.size .finished with heap := h'' }) I' rfl (allBare_setGen I'.bare rfl) hk, rfl, q'⟩
    · refine ⟨isG g5, I5.nolimit, .fresh (.compStart (.GeneratorExp elt [⟨.Name x px, iter, ifs, 0⟩] scope gpos) 0 (.ref it) .none (gxEnv X scope h3.objs.size code)), by rw [← hs5]; exact Array.getElem?_push_size .., rfl, ?_⟩
      exact gx_begin gk npn T pg pt pe turn m0 (m0 + 1) _ _ H3 w0 (Nat.lt_succ_self _) (Slp.inv I5 ⟨rfl, rfl, allBare_setGen b5 rfl⟩) (T.keep _ _ _ st3 fun b hb o e => k5 b o e) nf
  cases hf : codeAmong gpos ps.toList with
  | none =>
    refine wpAny_genexprCodeX hcode (cd.code hPs htr) (cd.tab hPs) hf fun c' h' tk hx hge hlt hco' _ htab' _ => ?_
    obtain ⟨o1, vs, f1, tf, fl, tg, inF, tx, tt, op, _, _, _, _, _, _, _, _, _, htr', _⟩ := hco'
    exact cont _ h' tk _ hx htab'.2 htr'
  | some cv =>
    refine wpAny_genexprCode_hit hcode (cd.code hPs htr) hf ?_
    exact cont cv s2.heap s2.toks #[] (Heap.ExtBut.refl _ _) (by simpa using hPs) (by simpa using htr)
end
end Fc

namespace Fc
open PySem PySem.Spec L2 PyProof.Rows GxR GenW
/-! ### the walk for tuple: what is handed out stands in the consumer's list at S -/
def GWalkT (J : It) (g : TG) (tt : TT) (te : TE) (vs : List Nat) (σ : L2.St) (fin : List V → Hp → Prop) (W : Nat → Nat → List V → Hp → Prop) : Prop :=
  ∀ i m ys H, W i m ys H → (J.stop i H ∧ fin ys H) ∨ (J.go i H ∧ ∃ Nx : List V → Hp → Prop, (∀ ys' H', Nx ys' H' → ∃ m', m' < m ∧ W (i + 1) m' ys' H') ∧ ∀ x H', J.yld i H x H' → g x (wipe σ vs) H' fun σ2 H2 => wipe σ2 vs = wipe σ vs ∧ tt σ2 H2 fun b H3 =>
    if b = true then te σ2 H3 fun y H4 => ys.length < sizeLine ∧ Nx (ys ++ [y]) H4 else Nx ys H3)
def tupY (Y : Cx) (σ : L2.St) (S : Addr) : Protocol := fun n s₀ v s kap => ∃ (ys : List V) (y : V) (H' : Hp), RelV y v ∧ GI Y S [] ys σ H' s ∧ ys.length < sizeLine ∧ ∀ s'', Slept S v s s'' → kap (.send .none) s''
def tupF (Y : Cx) (σ : L2.St) (S : Addr) (fin : List V → Hp → Prop) (s₁ : Shared) : Prop := ∃ ys H', GI Y S [] ys σ H' s₁ ∧ fin ys H'
def tupR (Y : Cx) (σ : L2.St) (S : Addr) (fin : List V → Hp → Prop) : GenEnd := fun _ _ r s₁ => ((r = .ok (.ret .none) ∨ r = .ok .next) ∧ tupF Y σ S fin s₁) ∨ ∃ e, r = .error e ∧ False
section
variable {X : Cx} {A' : Around} {s4 : Shared} {H4 : Hp} {scope : Scope} {C : Addr} {code : Value} {fp : List Addr} {pn : List (Addr × Obj)} {S : Addr}
theorem gx_loopT {elt iter : Expr} {x : Str} {px pos : Pos} {ifs : List Expr} {vs : List Nat} {σ : L2.St} {g : TG} {tt : TT} {te : TE} {J : It} {it : Addr} {tn : Nat → Heap → Prop} {fin : List V → Hp → Prop} {W : Nat → Nat → List V → Hp → Prop}
    (gk : GxOk scope) (hpn : ∀ p ∈ pn, p.1 ∉ fp) (hpS : ∀ p ∈ pn, p.1 ≠ S) (nSf : S ∉ fp) (ap : Apart (gxc X A' s4 H4 scope C code fp pn) S)
    (T : Turn X.prog X.w X.K (.Name x px) J fp it tn)
    (pg : PG (gxc X A' s4 H4 scope C code fp pn) (.Name x px) g) (pt : PTs (gxc X A' s4 H4 scope C code fp pn) ifs tt) (pe : PE (gxc X A' s4 H4 scope C code fp pn) elt te)
    (turn : GWalkT J g tt te vs σ fin W) :
    ∀ (m n i : Nat) (s₀ s : Shared) (ys : List V) (H : Hp), W i m ys H → m < n → GI (gxc X A' s4 H4 scope C code fp pn) S [] ys (wipe σ vs) H s → tn i s.heap → (∀ b ∈ fp, H b = none) →
      Seg (model X.prog X.w) A' (tupR (gxc X A' s4 H4 scope C code fp pn) (wipe σ vs) S fin) (tupY (gxc X A' s4 H4 scope C code fp pn) (wipe σ vs) S) n s₀
        (.compLoop (.GeneratorExp elt [⟨.Name x px, iter, ifs, 0⟩] scope pos) 0 (.ref it) .none (gxEnv X scope C code)) ((model X.prog X.w).den (.compLoop (.GeneratorExp elt [⟨.Name x px, iter, ifs, 0⟩] scope pos) 0 (.ref it) .none (gxEnv X scope C code))) [] s := by
  generalize hY : gxc X A' s4 H4 scope C code fp pn = Y at pg pt pe ap
  have eP : Y.prog = X.prog := by rw [← hY]
  have ew : Y.w = X.w := by rw [← hY]
  have eK : Y.K = X.K := by rw [← hY]
  have eA : Y.A = A'.deeper (gxEnv X scope C code) := by rw [← hY]
  have eE : Y.env = gxEnv X scope C code := by rw [← hY]
  have ex : Y.ex = fp := by rw [← hY]
  have exe : Y.xe = fun _ _ => False := by rw [← hY]
  have epn : Y.pn = pn := by rw [← hY]
  have ecalm : Y.calm = true := by rw [← hY]
  have stat : ∀ {o : Obj} {σ' : L2.St} {H' : Hp} {s' : Shared}, Inv Y [(S, o)] σ' H' s' → (∀ b ∈ fp, H' b = none) → ∀ b ∈ fp, FpOk Y [(S, o)] H' b := fun {o σ' H' s'} I' hn b hb =>
    ⟨hn b hb, (I'.ok.exf b (by rw [ex]; exact hb)).1, I'.ok.exfs b (by rw [ex]; exact hb), .inl (by rw [ex]; exact hb), fun x c e => (I'.ok.exf b (by rw [ex]; exact hb)).2 x c e, fun p hp z => by
      rw [epn] at hp
      rcases List.mem_append.mp hp with hp | hp
      · exact hpn p hp (by rw [z]; exact hb)
      · rw [List.mem_singleton.mp hp] at z
        exact nSf (by rw [show S = b from z]; exact hb)⟩
  intro m
  induction m using Nat.strongRecOn with
  | ind m ih =>
    intro n i s₀ s ys H w hmn hGI st nf
    obtain ⟨acc, ca, ra, I⟩ := hGI
    show Seg _ A' _ _ _ s₀ _ ((compTurn (.GeneratorExp elt [⟨.Name x px, iter, ifs, 0⟩] scope pos) 0 (.ref it) .none (gxEnv X scope C code)).onRaise (leaving (gxEnv X scope C code))) [] s
    rw [compTurn_gen, Sem.onRaise_eq_wrap]
    refine seg_bind_wrap (wpAny_standAt ?_)
    rcases turn i m ys H w with ⟨stop, qq⟩ | ⟨go, Nx, hNx, step⟩
    · have td := T.done Y eP ew eK ecalm i [(S, lstObj acc ca)] s _ H (fun _ _ => False) I (stat I nf) st stop
      rw [eA] at td
      refine seg_bind_wrap ?_
      rw [over_gx]
      refine thnF td fun r s6 ⟨hr, I6⟩ => ?_
      subst hr
      exact seg_end (.ok .next) (.inl ⟨.inr rfl, ys, H, ⟨acc, ca, ra, I6⟩, qq⟩)
    · have ti := T.item Y eP ew eK ecalm i [(S, lstObj acc ca)] s _ H (fun _ _ => False) I (stat I nf) st go
      rw [eA] at ti
      refine seg_bind_wrap ?_
      rw [over_gx]
      refine thnF ti fun r s6 ⟨u, hr, h6⟩ => ?_
      subst hr
      refine seg_bind_wrap ?_
      rw [over_gx]
      refine thnF h6 fun _ s7 ⟨y, H7, I7, r7, y7, st7, n7⟩ => ?_
      have I7' := I7.pinned (stat I7 n7) (T.obj _ _ st7)
      have pgr := pg.run _ s7 _ H7 y u _ I7' r7 (step y H7 y7)
      rw [eP, ew, eA, exe, eE] at pgr
      refine seg_bind_wrap ?_
      rw [over_gx]
      refine thnF pgr fun _ s8 ⟨σ8, H8, I8, hw8, q8⟩ => ?_
      have ptr := pt.run _ s8 σ8 H8 _ I8 q8
      rw [eP, ew, eA, exe, eE] at ptr
      refine seg_bind_wrap ?_
      rw [over_gx]
      refine thnF ptr fun b s9 ⟨H9, I9, q9⟩ => ?_
      have fin' : ∀ {s' : Shared} {H' : Hp}, Inv Y ([(S, lstObj acc ca)] ++ pinsAt fp s7.heap) σ8 H' s' → GI Y S [] ys (wipe σ vs) H' s' ∧ tn (i + 1) s'.heap ∧ (∀ b ∈ fp, H' b = none) := fun {s' H'} I' => by
        have pin' : ∀ b ∈ fp, ∀ o, s7.heap.get? b = some o → s'.heap.get? b = some o ∧ H' b = none := fun b hb o e =>
          let z := I'.pin (b, o) (List.mem_append_right _ (List.mem_append_right _ (mem_pinsAt hb e)))
          ⟨z.1, z.2.1⟩
        have hl : (wipe σ vs).length = σ8.length := by rw [← hw8, wipe_length]
        refine ⟨⟨acc, ca, ra, (I'.unpinned (pins := [(S, lstObj acc ca)])).weak hl (fun j v e => ?_)⟩, T.keep _ _ _ st7 fun b hb o e => (pin' b hb o e).1, fun b hb => ?_⟩
        · rw [← hw8] at e
          exact (wipe_some e).1
        · obtain ⟨o, e, _⟩ := T.obj _ _ st7 b hb
          exact (pin' b hb o e).2
      cases b with
      | false =>
        simp only [Bool.false_eq_true, if_false] at q9 ⊢
        obtain ⟨f1, f2, f3⟩ := fin' I9
        obtain ⟨m', hm', w'⟩ := hNx _ _ q9
        exact seg_again rfl (ih m' hm' n (i + 1) s₀ s9 ys H9 w' (by omega) f1 f2 f3)
      | true =>
        simp only [if_true] at q9 ⊢
        have hy : ∀ v, yieldOut (gxEnv X scope C code) v = yieldValue v := fun v => by
          have hco : (gxEnv X scope C code).scope.isCoroutine = false := gk.co
          simp only [yieldOut, hco, Bool.false_eq_true, if_false]
        simp only [hy]
        rw [Sem.bind_eq_wrap', Sem.bind_eq_wrap', Sem.wrap_wrap, Sem.wrap_wrap]
        have per := pe.run _ s9 σ8 H9 _ I9 q9
        rw [eP, ew, eA, exe, eE] at per
        refine seg_wrap ?_
        rw [over_gx]
        refine thnF per fun z s10 ⟨yv, H10, I10, r10, lt, nx⟩ => ?_
        obtain ⟨f1, f2, f3⟩ := fin' I10
        cases n with
        | zero => omega
        | succ n' =>
          refine seg_at (seg_yield rfl rfl rfl ⟨ys, yv, H10, r10, f1, lt, fun s'' zz => ?_⟩)
          obtain ⟨m', hm', w'⟩ := hNx _ _ nx
          refine seg_again rfl (ih m' hm' n' (i + 1) s'' s'' (ys ++ [yv]) H10 w' (by omega) (GI.woken (by rw [epn]; exact hpS) (fun p hp => by cases hp) ap f1 r10 zz) (T.keep _ _ _ f2 fun b hb o e => zz.keep b o (fun k => nSf (by rw [← k]; exact hb)) e) f3)
theorem gx_beginT {elt iter : Expr} {x : Str} {px pos : Pos} {ifs : List Expr} {vs : List Nat} {σ : L2.St} {g : TG} {tt : TT} {te : TE} {J : It} {it : Addr} {tn : Nat → Heap → Prop} {fin : List V → Hp → Prop} {W : Nat → Nat → List V → Hp → Prop}
    (gk : GxOk scope) (hpn : ∀ p ∈ pn, p.1 ∉ fp) (hpS : ∀ p ∈ pn, p.1 ≠ S) (nSf : S ∉ fp) (ap : Apart (gxc X A' s4 H4 scope C code fp pn) S)
    (T : Turn X.prog X.w X.K (.Name x px) J fp it tn)
    (pg : PG (gxc X A' s4 H4 scope C code fp pn) (.Name x px) g) (pt : PTs (gxc X A' s4 H4 scope C code fp pn) ifs tt) (pe : PE (gxc X A' s4 H4 scope C code fp pn) elt te)
    (turn : GWalkT J g tt te vs σ fin W) (m n : Nat) (s₀ s : Shared) (ys : List V) (H : Hp) (w : W 0 m ys H) (hmn : m < n) (I : GI (gxc X A' s4 H4 scope C code fp pn) S [] ys (wipe σ vs) H s) (st : tn 0 s.heap) (nf : ∀ b ∈ fp, H b = none) :
      Seg (model X.prog X.w) A' (tupR (gxc X A' s4 H4 scope C code fp pn) (wipe σ vs) S fin) (tupY (gxc X A' s4 H4 scope C code fp pn) (wipe σ vs) S) n s₀
        (.compStart (.GeneratorExp elt [⟨.Name x px, iter, ifs, 0⟩] scope pos) 0 (.ref it) .none (gxEnv X scope C code)) ((model X.prog X.w).den (.compStart (.GeneratorExp elt [⟨.Name x px, iter, ifs, 0⟩] scope pos) 0 (.ref it) .none (gxEnv X scope C code))) [] s := by
  have loop := gx_loopT (iter := iter) (pos := pos) gk hpn hpS nSf ap T pg pt pe turn m n 0 s₀ s ys H w hmn I st nf
  show Seg _ A' _ _ _ s₀ _ ((compStart (.GeneratorExp elt [⟨.Name x px, iter, ifs, 0⟩] scope pos) 0 (.ref it) .none (gxEnv X scope C code)).onRaise (leaving (gxEnv X scope C code))) [] s
  unfold compStart
  rw [Sem.onRaise_eq_wrap]
  show Seg _ A' _ _ _ s₀ _ ((ask >>= _).wrap _ _ _ _) [] s
  refine seg_bind_wrap (wpAny_askSetting ?_)
  split
  · exact seg_again rfl loop
  · first
      | exact seg_bind_wrap (wpAny_rule (seg_bind_wrap (wpAny_standAt (seg_bind_wrap (T.self _ 0 s _ _ st (seg_again rfl loop))))))
      | (refine seg_bind_wrap (wpAny_rule ?_); show Seg _ A' _ _ _ s₀ _ ((standAt iter.pos >>= _).wrap _ _ _ _) [] s; exact seg_bind_wrap (wpAny_standAt (seg_bind_wrap (T.self _ 0 s _ _ st (seg_again rfl loop)))))
/-- the loop that fills a list, by what each next tells -/
theorem ext_by {P : Program} {w : World} {A : Around} {a S : Addr} {res : Value} {R : Result → Shared → Prop} (St : Nat → Shared → Prop)
    (step : ∀ m s, St m s → wpAny (model P w) A.in1 (pyNext (.ref a)) (fun r s1 => match r with | none => R (.ok (.ret res)) s1 | some v => ∃ (acc : Array Value) (c : Nat), s1.heap.get? S = some (lstObj acc c) ∧ acc.size < sizeLine ∧ ∃ m', m' < m ∧ St m' { s1 with heap := s1.heap.update S (Obj.mapSeq (·.push v)) }) (fun _ _ => False) s) :
    ∀ (m : Nat) (s : Shared), St m s → codeAny (model P w) A (.builtin "list.extend.loop" ⟨[.ref S, .ref a, res], []⟩) R s := by
  intro m
  induction m using Nat.strongRecOn with
  | ind m ih =>
    intro s hst
    refine codeAny_builtin F.entry_extend_loop ?_
    rw [Around.under_plainId F.plain_extend_loop _]
    show wpAny _ A.in1 (pyNext (.ref a) >>= _) _ _ s
    refine wpAny_bind (thnF (step m s hst) fun r s1 h => ?_)
    cases r with
    | none => exact wpAny_pure h
    | some v =>
      obtain ⟨acc, c, hS, lt, m', hm, st'⟩ := h
      show wpAny _ A.in1 (updateSeq S (·.push v) >>= _) _ _ _
      refine wpAny_bind ?_
      exact wpAny_updateSeq hS rfl (wpAny_pure ⟨plainId_quiet F.plain_extend_loop _, ih m' hm _ st'⟩) (Nat.le_of_lt lt) (by show (acc.push v).size ≤ sizeLine + 1; rw [Array.size_push]; omega)
/-- collect of a generator -/
theorem collect_by {P : Program} {w : World} {A : Around} {E : Value → Shared → Prop} {s : Shared} {a : Addr} {g : Nat} {Q : List Value → Shared → Prop} (hg : s.heap.IsGen a g) (ha : a < s.heap.objs.size)
    (h : ∀ (c : Nat) (h2 : Heap), (∀ b o, s.heap.get? b = some o → h2.get? b = some o) → h2.get? s.heap.objs.size = some (lstObj #[] c) → codeAny (model P w) A (.builtin "list.extend.loop" ⟨[.ref s.heap.objs.size, .ref a, .ref s.heap.objs.size], []⟩) (fun r s' => ∃ acc c, r = .ok (.ret (.ref s.heap.objs.size)) ∧ s'.heap.get? s.heap.objs.size = some (lstObj acc c) ∧ Q acc.toList s') { s with heap := h2 }) :
    wpAny (model P w) A (collect (.ref a)) Q E s := by
  have hSI : s.heap.objs.size ≠ a := Nat.ne_of_gt ha
  unfold collect
  refine wpAny_bind (wpAny_runValue (codeAny_builtin F.entry_proto_collect ?_))
  rw [Around.under_plainId F.plain_proto_collect _]
  show wpAny _ A.in1 (newList [] >>= fun l => again (.builtin "list.__iadd__" ⟨[l, .ref a], []⟩)) _ _ s
  refine wpAny_bind (wpAny_newObj_type ?_)
  refine wpAny_pure ⟨plainId_quiet F.plain_list_iadd _, codeAny_builtin F.entry_list_iadd ?_⟩
  rw [Around.under_plainId F.plain_list_iadd _]
  have k1 : ∀ b o, s.heap.get? b = some o → (s.heap.push { cls := .type "list", data := .seq ([] : List Value).toArray }).get? b = some o := fun b o e => Heap.get?_push_of_some _ e
  have gty : ∀ {h2 : Heap}, (∀ b o, s.heap.get? b = some o → h2.get? b = some o) → h2.IsGen a g := fun {h2} q => hg.keeps q
  show wpAny _ A.in1 (Builtin.List.listExtendWith (.ref s.heap.objs.size) (.ref a) (.ref s.heap.objs.size)) _ _ _
  unfold Builtin.List.listExtendWith
  refine wpAny_bind (wpAny_typeOf (Heap.IsGen.typeIs (s := { s with heap := _ }) (gty k1)) ?_)
  have h1 : Builtin.List.listSameRef (.ref s.heap.objs.size) (.ref a) = false := by simp [Builtin.List.listSameRef, hSI]
  have h2 : (Value.type "generator" == Value.type "list") = false := by decide
  have h3 : (Value.type "generator" == Value.type "tuple") = false := by decide
  simp only [h1, h2, h3, Bool.or_false, Bool.false_eq_true, if_false]
  refine wpAny_bind (wpAny_pyIter_gen (s := { s with heap := _ }) (gty k1) ?_)
  refine wpAny_bind (wpAny_holding ?_)
  unfold Builtin.List.listLengthHint
  refine wpAny_bind (wpAny_specialOf (Heap.IsGen.typeIs (s := { s with heap := _ }) (gty k1)) F.gen_no_len ?_)
  show wpAny _ A.in1 (specialOf (Value.ref a) (Str.ofString "__length_hint__") >>= _) _ _ _
  refine wpAny_bind (wpAny_specialOf (Heap.IsGen.typeIs (s := { s with heap := _ }) (gty k1)) F.gen_no_hint ?_)
  refine wpAny_pure ?_
  show wpAny _ A.in1 (rule "list.extend.makes-room" >>= fun _ => Builtin.List.listTouch (.ref s.heap.objs.size) >>= fun _ =>
    again (.builtin "list.extend.loop" ⟨[.ref s.heap.objs.size, .ref a, .ref s.heap.objs.size], []⟩)) _ _ _
  refine wpAny_bind (wpAny_rule ?_)
  have hS1 : (s.heap.push { cls := .type "list", data := .seq ([] : List Value).toArray }).get? s.heap.objs.size = some { cls := .type "list", data := .seq ([] : List Value).toArray } := Heap.get?_push_size _ rfl
  refine wpAny_bind ?_
  show wpAny _ A.in1 (updateSeq s.heap.objs.size (·.push .none) >>= fun _ => updateSeq s.heap.objs.size (·.pop)) _ _ _
  refine wpAny_bind (wpAny_updateSeq hS1 rfl ?_)
  have hS2 := Heap.get?_update_self (Obj.mapSeq (·.push Value.none)) hS1 rfl
  refine wpAny_updateSeq hS2 rfl ?_
  have hS3 := Heap.get?_update_self (Obj.mapSeq (·.pop)) hS2 rfl
  have up : ∀ (h : Heap) (f : Obj → Obj), (∀ b o, s.heap.get? b = some o → h.get? b = some o) → ∀ b o, s.heap.get? b = some o → (h.update s.heap.objs.size f).get? b = some o := fun h f q b o e =>
    (Heap.get?_update_other _ _ (Ne.symm (Nat.ne_of_lt (Heap.lt_size e)))).trans (q b o e)
  refine wpAny_pure ⟨plainId_quiet F.plain_extend_loop _, ?_⟩
  refine codeAny_mono (h _ _ (up _ (Obj.mapSeq (·.pop)) (up _ (Obj.mapSeq (·.push Value.none)) k1)) hS3) fun r s' hq => ?_
  obtain ⟨acc, c, rfl, hS', hq⟩ := hq
  show wpAny _ A (load s.heap.objs.size >>= _) _ _ s'
  refine wpAny_bind (wpAny_load hS' ?_)
  exact wpAny_pure hq
end
section
variable {X : Cx}
/-- tuple(elt for x in iter if ..): P the table of the def's code -/
def tTupG (P : Addr) (wi : TI) (g : TG) (tt : TT) (te : TE) (vs : List Nat) : TE := fun σ H Q => wi σ H fun J H1 => TabG H1 P ∧ ∀ H2, Tabbed P H1 H2 → ∃ W : Nat → Nat → List V → Hp → Prop, (∃ m, W 0 m [] H2) ∧ GWalkT J g tt te vs σ (fun ys H' => ys.length ≤ sizeLine ∧ ∀ p, H' p = none → Q (.ref p) (upd H' p (.tup ys))) W
theorem pe_tupG {c P : Addr} {elt iter : Expr} {x : Str} {px p pos gpos : Pos} {ifs : List Expr} {scope : Scope} {own : List (Str × Nat)} {wi : TI} {g : TG} {tt : TT} {te : TE} {k : Nat}
    (hr : Room (k + 2) X.A) (hg : Gl X "tuple") (hm : X.mg "tuple" = none) (hb : bootBuiltins "tuple" = some (.type "tuple")) (TB : TabB X.base X.mg c P) (hcode : X.env.code = .ref c) (hN : X.N.Nodup) (ok : BlkOk X.N X.env.scope scope own) (gk : GxOk scope)
    (hi : PI X (.Name x px) iter wi) (hgt : ∀ (A' : Around) (s : Shared) (H : Hp) (C : Addr) (code : Value) (fp : List Addr) (pn : List (Addr × Obj)), PG (gxc X A' s H scope C code fp pn) (.Name x px) g)
    (ht : ∀ (A' : Around) (s : Shared) (H : Hp) (C : Addr) (code : Value) (fp : List Addr) (pn : List (Addr × Obj)), Room k (gxc X A' s H scope C code fp pn).A → PTs (gxc X A' s H scope C code fp pn) ifs tt)
    (he : ∀ (A' : Around) (s : Shared) (H : Hp) (C : Addr) (code : Value) (fp : List Addr) (pn : List (Addr × Obj)), Room k (gxc X A' s H scope C code fp pn).A → PE (gxc X A' s H scope C code fp pn) elt te)
    (hs : ∀ v, genFold iter X.env v = pure v)
    (hst : starEach [.GeneratorExp elt [⟨.Name x px, iter, ifs, 0⟩] scope gpos] X.env = (false, eval (.GeneratorExp elt [⟨.Name x px, iter, ifs, 0⟩] scope gpos) X.env) :: starEach [] X.env := by rfl) :
    PE X (.Call (.Name "tuple" p) [.GeneratorExp elt [⟨.Name x px, iter, ifs, 0⟩] scope gpos] [] pos) (tTupG P wi g tt te (own.map (·.2))) := by
  refine ⟨fun pins s σ H Q I h => ?_⟩
  refine wpAny_Call_Name_kw (ld_blt I hg hm hb ?_)
  refine PyProof.Rows.callWith_type1 ?_ hst rfl
  rw [hst]
  show wpAny _ _ (spliced ((false, eval (.GeneratorExp elt [⟨.Name x px, iter, ifs, 0⟩] scope gpos) X.env) :: backTo pos (starEach [] X.env))) _ _ s
  have hfree : ∀ y ∈ scope.names, y.2 = .free → ∃ c, X.env.cells.lookup y.1 = some c := fun y hy e => by
    rcases ok.free y hy e with k | k
    · exact I.ok.has _ (.inl k)
    · exact I.ok.has _ (.inr k)
  refine Calls.spliced_cons (wpAny_GeneratorExp_make gk.co (closure_ok hfree) gk.cell gk.dot ok.kind (by have := hr.dp; omega) (thn (hi.run pins s σ H _ I h) fun xv s1 hx => thn hx fun itv s2 h2 => ?_) hs)
  obtain ⟨it, fp, tn, J, H2, e, I2, T, st2, f2, ⟨ps, hP, htr⟩, q⟩ := h2
  subst e
  have hPs : s2.heap.get? P = some { cls := .none, data := .fields ps } := I2.hok P _ hP
  have nPf : P ∉ fp := fun z => by
    have := (f2 P z).1
    rw [hP] at this
    cases this
  have cd : PySem.W.CodeHd s2.heap c P := TB.code.keeps I2.bk
  refine ⟨I2.nolimit, ?_⟩
  have cont : ∀ (code : Value) (h3 : Heap) (tk : Nat) (more : Array Value), Heap.ExtBut P s2.heap h3 → h3.get? P = some { cls := .none, data := .fields (ps ++ more) } → TriplesOk (ps ++ more).toList →
      wpAny (model X.prog X.w) X.A (builtinsFor X.env.globals X.env.builtins) (fun bi s₄ => ∀ h', h'.Ns s₄.heap.objs.size (fun y => if y = ".0" then some (.ref it) else none) → Heap.SameBut s₄.heap.objs.size (s₄.heap.push { cls := .type "frame", data := .dict #[] }) h' →
        wpAny (model X.prog X.w) X.A (spliced (backTo pos (starEach [] X.env))) (fun us s' => wpAny (model X.prog X.w) X.A (call (.type "tuple") (.ref h'.objs.size :: us)) (EP X pins σ Q) X.xe s') X.xe { s₄ with
            gens := s₄.gens.push (.fresh (.compStart (.GeneratorExp elt [⟨.Name x px, iter, ifs, 0⟩] scope gpos) 0 (.ref it) .none (genEnv scope (cloFrom X.env.cells scope.names []) s₄.heap.objs.size code bi X.env))),
            toks := s₄.toks + 1 + 1 + 1,
            heap := h'.push { cls := .type "generator", data := .fields #[.int s₄.gens.size 0, .str "<genexpr>" (s₄.toks + 1), .str (X.env.qual ++ "<genexpr>") (s₄.toks + 1 + 1)] } }) X.xe { s2 with heap := h3, toks := tk } := by
    intro code h3 tk more hx hP3 ht3
    have I3 : Inv X pins σ (upd H2 P (.tbl (ps ++ more))) { s2 with heap := h3, toks := tk } := inv_tab (g' := s2.gens) (d' := s2.drawn) (t' := tk) I2 hP (fun b o hb e => hx b o hb e) hP3 I2.bare
    have hb2 : AllBare s2.gens := I2.bare
    have st3 : tn 0 h3 := T.keep _ _ _ st2 fun b hb o e => hx b o (fun z => nPf (by rw [← z]; exact hb)) e
    have f3 : ∀ b ∈ fp, FpOk X pins (upd H2 P (.tbl (ps ++ more))) b ∧ b < h3.objs.size := fun b hb => by
      have nb : b ≠ P := fun z => nPf (by rw [← z]; exact hb)
      obtain ⟨o, e, _⟩ := T.obj _ _ st2 b hb
      refine ⟨⟨?_, (f2 b hb).2⟩, Heap.lt_size (hx b o nb e)⟩
      rw [upd_ne nb]
      exact (f2 b hb).1
    obtain ⟨W, ⟨m0, w0⟩, turn⟩ := q (upd H2 P (.tbl (ps ++ more))) ⟨⟨ps ++ more, upd_same, ht3⟩, fun b hb => upd_ne hb⟩
    obtain ⟨bm, ob, e1, e2, e3, e4, e5, e6, e7, e8⟩ := TB.bm
    refine wpAny_builtinsFor (m := X.mg) (by rw [I3.ok.glob]; exact I3.mod.glob.keeps I3.bk) e1 e2 (I3.bk _ _ e5) e6 e7 e8 ?_
    intro h' hn' hs'
    have hn' : h'.Ns h3.objs.size (fun y => if y = ".0" then some (.ref it) else none) := hn'
    have hs' : Heap.SameBut h3.objs.size (h3.push { cls := .type "frame", data := .dict #[] }) h' := hs'
    have hsz : h'.objs.size = h3.objs.size + 1 := by rw [hs'.1, Heap.size_push]
    have keep' : ∀ b o, h3.get? b = some o → h'.get? b = some o := fun b o e => hs'.extBut b o (Nat.ne_of_lt (Heap.lt_size e)) (Heap.get?_push_of_some _ e)
    generalize hH3 : upd H2 P (.tbl (ps ++ more)) = H3 at I3 f3 w0
    generalize hgo : ({ cls := .type "generator", data := .fields #[.int s2.gens.size 0, .str "<genexpr>" (tk + 1), .str (X.env.qual ++ "<genexpr>") (tk + 1 + 1)] } : Obj) = go
    have goC : ∀ v, go.data ≠ .cell v := fun v z => by rw [← hgo] at z; cases z
    have goF : go.isFreed = false := by rw [← hgo]; rfl
    generalize hs5 : ({ s2 with heap := h'.push go, toks := tk + 1 + 1 + 1, gens := s2.gens.push (.fresh (.compStart (.GeneratorExp elt [⟨.Name x px, iter, ifs, 0⟩] scope gpos) 0 (.ref it) .none (gxEnv X scope h3.objs.size code))) } : Shared) = s5
    have k5 : ∀ b o, h3.get? b = some o → s5.heap.get? b = some o := fun b o e => by rw [← hs5]; exact Heap.get?_push_of_some _ (keep' b o e)
    have g5 : s5.heap.get? h'.objs.size = some go := by rw [← hs5]; exact Heap.get?_push_size _ goF
    have b5 : AllBare s5.gens := by rw [← hs5]; exact I2.bare.push rfl
    have I5 := gx_start (A' := X.A.in1.in1.in1.in1) (code := code) (pn := [(h'.objs.size, go)]) (s5 := s5) (s := { s2 with heap := h3, toks := tk }) I3 ok gk hN f3 I2.ok.frames hr.hd (by rw [← hs5]) b5 k5 (by rw [← hs5]; exact hn'.push _) (fun p hp => by
      rw [List.mem_singleton.mp hp]
      exact ⟨g5, by show h3.objs.size < h'.objs.size; omega, goC⟩)
    have rk : Room k (gxc X X.A.in1.in1.in1.in1 { s2 with heap := h3, toks := tk } H3 scope h3.objs.size code fp [(h'.objs.size, go)]).A := ⟨hr.hd, by have := hr.dp; show X.A.depth + 1 + 3 * k + 5 < _; omega, by have := hr.un; show X.A.units + 1 + 1 + 1 + 1 + 3 + 16 * k + 200 < _; omega⟩
    have pg := hgt X.A.in1.in1.in1.in1 { s2 with heap := h3, toks := tk } H3 h3.objs.size code fp [(h'.objs.size, go)]
    have pt := ht X.A.in1.in1.in1.in1 { s2 with heap := h3, toks := tk } H3 h3.objs.size code fp [(h'.objs.size, go)] rk
    have pe := he X.A.in1.in1.in1.in1 { s2 with heap := h3, toks := tk } H3 h3.objs.size code fp [(h'.objs.size, go)] rk
    have npn : ∀ p ∈ [(h'.objs.size, go)], p.1 ∉ fp := fun p hp z => by
      rw [List.mem_singleton.mp hp] at z
      have h9 : h'.objs.size < h3.objs.size := (f3 _ z).2
      omega
    have nf : ∀ b ∈ fp, H3 b = none := fun b hb => (f3 b hb).1.1
    have isG : ∀ {h : Heap}, h.get? h'.objs.size = some go → h.IsGen h'.objs.size s2.gens.size := fun {h} e => ⟨go, .str "<genexpr>" (tk + 1), .str (X.env.qual ++ "<genexpr>") (tk + 1 + 1), e, by rw [← hgo], by rw [← hgo], by rw [← hgo]⟩
    have back : ∀ {H' : Hp} {s₁ s' : Shared}, Inv (gxc X X.A.in1.in1.in1.in1 { s2 with heap := h3, toks := tk } H3 scope h3.objs.size code fp [(h'.objs.size, go)]) [] (wipe σ (own.map (·.2))) H' s₁ → s'.os = s₁.os → AllBare s'.gens → (∀ b o, s₁.heap.get? b = some o → s'.heap.get? b = some o) → Inv X pins σ H' s' := fun {H' s₁ s'} I' ho hb k =>
      I3.call' (ch := fp) (ho.trans I'.os) (I'.base.trans (Un.kept k)) (I'.hok.kept k) hb fun b hb => ⟨(f3 b hb).1.2.2.2.1, (f3 b hb).1.2.1, (f3 b hb).1.2.2.2.2.1, (f3 b hb).1.2.2.2.2.2⟩
    refine Calls.spliced_nil ?_
    show wpAny (model X.prog X.w) X.A (call (.type "tuple") [.ref h'.objs.size]) (EP X pins σ Q) X.xe s5
    have a5 : h'.objs.size < s5.heap.objs.size := Heap.lt_size g5
    have C5 : h3.objs.size < s5.heap.objs.size := by omega
    have nSf : s5.heap.objs.size ∉ fp := fun z => by
      have h9 : s5.heap.objs.size < h3.objs.size := (f3 _ z).2
      omega
    have ap : Apart (gxc X X.A.in1.in1.in1.in1 { s2 with heap := h3, toks := tk } H3 scope h3.objs.size code fp [(h'.objs.size, go)]) s5.heap.objs.size := by
      refine ⟨Nat.le_of_lt C5, Nat.ne_of_gt C5, fun y c e z => ?_⟩
      obtain ⟨v, q⟩ := I5.cell y c e
      have := q.lt
      rw [z] at this
      exact absurd this (Nat.lt_irrefl _)
    have hpS : ∀ p ∈ [(h'.objs.size, go)], p.1 ≠ s5.heap.objs.size := fun p hp => by
      rw [List.mem_singleton.mp hp]
      exact Nat.ne_of_lt a5
    have hSc : s5.heap.objs.size ≠ cStatics := fun z => by
      obtain ⟨mc, hns, _⟩ := I5.nolimit
      have := hns.lt
      rw [← z] at this
      exact absurd this (Nat.lt_irrefl _)
    refine callType_codes (Q₁ := fun obj s₁ => s₁.TypeIs obj "tuple" ∧ EP X pins σ Q obj s₁) F.called_tuple (F.typeCall_tuple_1 _) F.entry_object_init ?_ fun obj s₁ h₁ => ⟨h₁.1, F.args_object_init_2 obj _, object_init_meets F.called_tuple.init.lookup F.called_tuple.made (by decide) X.prog X.w X.A.in1 _ s₁ ⟨h₁.1, rfl, h₁.2⟩⟩
    refine codeAny_of_tree ?_
    show wpAny _ X.A.in1.in1 (do checkBuiltinCall "tuple.__new__" ⟨[.type "tuple", .ref h'.objs.size], []⟩; again (.builtin "tuple.__new__" ⟨[.type "tuple", .ref h'.objs.size], []⟩)) _ _ s5
    refine wpAny_bind (wpAny_of_eq (F.newCall_tuple_1 _) (wpAny_pure ⟨plainId_quiet F.plain_tuple_new _, codeAny_builtin F.entry_tuple_new ?_⟩))
    rw [Around.under_plainId F.plain_tuple_new _]
    have hsub := sub_tuple_self
    have hinit := init_tuple_lookup
    have hmh := madeHere_tuple
    have hTI := (isG g5).typeIs
    wp_walk using wpAny_typeOf hTI, collect_by (isG g5) a5
    intro c0 h2 hk2 hS2
    refine ext_by (A := X.A.in1.in1) (fun n s => s.heap.IsGen h'.objs.size s2.gens.size ∧ s.heap.NoLimit ∧ ∃ gs, s.gens[s2.gens.size]? = some gs ∧ gs.Goes (model X.prog X.w) X.A.in1.in1.in1.in1 (tupR (gxc X X.A.in1.in1.in1.in1 { s2 with heap := h3, toks := tk } H3 scope h3.objs.size code fp [(h'.objs.size, go)]) (wipe σ (own.map (·.2))) s5.heap.objs.size (fun ys H' => ys.length ≤ sizeLine ∧ ∀ p, H' p = none → Q (.ref p) (upd H' p (.tup ys)))) (tupY (gxc X X.A.in1.in1.in1.in1 { s2 with heap := h3, toks := tk } H3 scope h3.objs.size code fp [(h'.objs.size, go)]) (wipe σ (own.map (·.2))) s5.heap.objs.size) n (.send .none) (s.setGen s2.gens.size .running)) ?_ (m0 + 1) _ ?_
    · rintro n s ⟨hgn, hl, gs, hgs, hgoes⟩
      have hgl : s2.gens.size < s.gens.size := (Array.getElem?_eq_some_iff.mp hgs).1
      refine wpAny_gsz (n := s2.gens.size + 1) hgl (next_genG (A := X.A.in1.in1.in1) (F := fun _ _ s₁ => tupF (gxc X X.A.in1.in1.in1.in1 { s2 with heap := h3, toks := tk } H3 scope h3.objs.size code fp [(h'.objs.size, go)]) (wipe σ (own.map fun (y : Str × Nat) => y.2)) s5.heap.objs.size (fun ys H' => ys.length ≤ sizeLine ∧ ∀ p, H' p = none → Q (.ref p) (upd H' p (.tup ys))) s₁) (Er := fun _ _ => False) hr.hd hl (by have := hr.dp; show X.A.depth < _; omega) hgn hgs hgoes (fun v s₁ gs' hbare hv => ?_) (fun s₁ hp h'' hk => ?_) fun e s₁ he => he.elim)
      · intro hsz
        obtain ⟨ys, yv, H', rv, gi, lt, kt⟩ := hv
        obtain ⟨_, _, _, acc, ca, ra, hS1⟩ := gi.at
        obtain ⟨acc0, ca0, ra0, I'⟩ := gi
        have hsz1 : s2.gens.size < s₁.gens.size := by
          have q : (s₁.setGen s2.gens.size gs').gens.size = s₁.gens.size := setGen_size _ _ _
          have hsz' : s2.gens.size + 1 ≤ (s₁.setGen s2.gens.size gs').gens.size := hsz
          omega
        have la : acc.size < sizeLine := by
          have e9 : ys.length = acc.size := ra.length.trans Array.length_toList
          rw [← e9]
          exact lt
        refine ⟨acc, ca, hS1, la, ?_⟩
        cases n with
        | zero => exact (kt _ (Slept.push hS1 I'.bare)).elim
        | succ n' =>
          have kp3 : ∀ b o, b ≠ s5.heap.objs.size → s₁.heap.get? b = some o → (s₁.heap.update s5.heap.objs.size (Obj.mapSeq (·.push v))).get? b = some o := fun b o hbS e => (Heap.get?_update_other _ _ (Ne.symm hbS)).trans e
          refine ⟨n', Nat.lt_succ_self _, isG (kp3 _ _ (Nat.ne_of_lt a5) (I'.pin (h'.objs.size, go) (by simp)).1), ?_, gs', setGen_at (s := s₁) hsz1, kt _ (Slept.push hS1 (allBare_setGen (s := s₁.setGen s2.gens.size gs') (allBare_setGen I'.bare hbare) rfl))⟩
          obtain ⟨mc, hns, hnn⟩ := I'.nolimit
          exact ⟨mc, hns.at' fun o e => kp3 _ o (Ne.symm hSc) e, hnn⟩
      · intro _
        obtain ⟨ys, H', gi, lq, q'⟩ := hp
        obtain ⟨_, _, _, acc, ca, ra, hS1⟩ := gi.at
        obtain ⟨acc0, ca0, ra0, I'⟩ := gi
        refine ⟨acc, ca, rfl, hk _ _ hS1, ?_⟩
        have IX := back (s' := { s₁.setGen s2.gens.size .finished with heap := h'' }) (I'.pins_of fun p hp => by cases hp) rfl (allBare_setGen I'.bare rfl) hk
        show wpAny _ _ (Builtin.Tuple.tupleExact acc.toList.toArray >>= fun v => ret v) _ _ _
        unfold Builtin.Tuple.tupleExact
        have la : acc.size ≤ sizeLine := by
          have e9 : ys.length = acc.size := ra.length.trans Array.length_toList
          rw [← e9]
          exact lq
        refine wpAny_bind (wpAny_newObj_type ?_ (by show acc.toList.toArray.size ≤ sizeLine; simp only [Array.toArray_toList]; exact la))
        refine wpAny_pure ?_
        have IL := IX.laid (t' := s₁.toks) (h' := h''.push { cls := .type "tuple", data := .seq acc.toList.toArray }) (a := h''.objs.size) (o := .tup ys) (fun b o e => Heap.get?_push_of_some _ e) (Nat.le_refl _) ⟨lq, acc.toList, ra, _, Heap.get?_push_size _ rfl, rfl, _, rfl⟩
        exact ⟨⟨_, Heap.get?_push_size _ rfl, rfl⟩, .ref h''.objs.size, _, IL, rfl, q' _ (IX.hok.fresh (Nat.le_refl _))⟩
    · have b5' : AllBare (({ s5 with heap := h2 } : Shared).setGen s2.gens.size .running).gens := allBare_setGen (s := { s5 with heap := h2 }) b5 rfl
      refine ⟨isG (hk2 _ _ g5), I5.nolimit.keeps hk2, .fresh (.compStart (.GeneratorExp elt [⟨.Name x px, iter, ifs, 0⟩] scope gpos) 0 (.ref it) .none (gxEnv X scope h3.objs.size code)), by rw [← hs5]; exact Array.getElem?_push_size .., rfl, ?_⟩
      have I6 := I5.kept (t' := s5.toks) hk2
      refine gx_beginT gk npn hpS nSf ap T pg pt pe turn m0 (m0 + 1) _ _ [] H3 w0 (Nat.lt_succ_self _) ⟨#[], c0, .nil, (Slp.inv (s' := ({ s5 with heap := h2 } : Shared).setGen s2.gens.size .running) I6 ⟨rfl, rfl, b5'⟩).pins_of fun p hp => ?_⟩ (T.keep _ _ _ st3 fun b hb o e => hk2 _ _ (k5 b o e)) nf
      rw [List.mem_singleton.mp hp]
      exact ⟨hS2, I5.hok.fresh (Nat.le_refl _), Nat.ne_of_gt C5, I5.nofs (Nat.le_refl _), fun v z => by cases z⟩
  cases hf : codeAmong gpos ps.toList with
  | none =>
    refine wpAny_genexprCodeX hcode (cd.code hPs htr) (cd.tab hPs) hf fun c' h' tk hx hge hlt hco' _ htab' _ => ?_
    obtain ⟨o1, vs, f1, tf, fl, tg, inF, tx, tt, op, _, _, _, _, _, _, _, _, _, htr', _⟩ := hco'
    exact cont _ h' tk _ hx htab'.2 htr'
  | some cv =>
    refine wpAny_genexprCode_hit hcode (cd.code hPs htr) hf ?_
    exact cont cv s2.heap s2.toks #[] (Heap.ExtBut.refl _ _) (by simpa using hPs) (by simpa using htr)
end
end Fc

namespace Fc
open PySem PySem.Spec L2 PyProof.Rows GxR
/-! ### a def whose code object is known by its address -/
structure FunC (K : PySem.W.Frag) (x qual : Str) (st : Stmt) (f : Addr) (fd : FuncData) (c : Addr) : Prop where
  ex : ∃ (oc : Value) (od : Option Addr) (kV doc pm : Value) (an : Option Addr) (ct : Value) (osl : Array (Option Value)),
    fd = PySem.W.fnOf x qual (defArgs st) (defBody st) (defScope st) .none kV doc pm an (.ref c) ct ∧ K.lookup f = some ⟨oc, od, .func fd, osl⟩ ∧ PySem.W.codeIn K (.ref c) qual = true
  kp : PySem.W.keepIn K (.ref f) = true
theorem FunC.to {K : PySem.W.Frag} {x qual : Str} {st : Stmt} {f : Addr} {fd : FuncData} {c : Addr} (F : FunC K x qual st f fd c) : Fun K x qual st f fd := by
  obtain ⟨oc, od, kV, doc, pm, an, ct, osl, h1, h2, h3⟩ := F.ex
  exact ⟨⟨oc, od, kV, doc, pm, an, _, ct, osl, h1, h2, h3⟩, F.kp⟩
section
variable {P : Program} {w : World} {K : PySem.W.Frag} {mg : Str → Option Value} {base : Heap}
theorem FunC.ok {x qual : Str} {st : Stmt} {f : Addr} {fd : FuncData} {c : Addr} {N ps : List Str} {k : Nat} {sp : Sp} (F : FunC K x qual st f fd c) (S : FnScope N ps (defScope st)) (len : ∀ vs H Q E, sp vs H Q E → vs.length = ps.length)
    (hbody : ∀ (A : Around) (outer : List Env) (s : Shared) (H : Hp) (vs : List V) (Q : VK) (E : XK), Room k (A.deeper (envOfC qual (defScope st) s.heap.objs.size f (.ref c))) → sp vs H Q E →
      ∃ t, PSs (cxOf CX0 P w K mg base N qual (defScope st) f (.ref c) A outer s H E).nox (defBody st) t ∧ t { nx := fun _ H' => Q .non H', rt := Q } (start N vs) H) : FnOk P w K mg base CX0 (k + 1) f fd ps sp := by
  obtain ⟨oc, od, kV, doc, pm, an, ct, osl, rfl, lk, hcd⟩ := F.ex
  refine fn_of lk hcd S len fun A outer s H vs Q E hr hsp => ?_
  obtain ⟨t, h, q⟩ := hbody A outer s H vs Q E hr hsp
  exact ⟨t, h.nox, q⟩
theorem FunC.okX {x qual : Str} {st : Stmt} {f : Addr} {fd : FuncData} {c : Addr} {N ps : List Str} {k : Nat} {sp : Sp} (F : FunC K x qual st f fd c) (S : FnScope N ps (defScope st)) (len : ∀ vs H Q E, sp vs H Q E → vs.length = ps.length)
    (hbody : ∀ (A : Around) (outer : List Env) (s : Shared) (H : Hp) (vs : List V) (Q : VK) (E : XK), Room k (A.deeper (envOfC qual (defScope st) s.heap.objs.size f (.ref c))) → sp vs H Q E →
      ∃ t, PSs (cxOf (L2.CX P w) P w K mg base N qual (defScope st) f (.ref c) A outer s H E) (defBody st) t ∧ t { nx := fun _ H' => Q .non H', rt := Q } (start N vs) H) : FnOk P w K mg base (L2.CX P w) (k + 1) f fd ps sp := by
  obtain ⟨oc, od, kV, doc, pm, an, ct, osl, rfl, lk, hcd⟩ := F.ex
  exact fn_of lk hcd S len fun A outer s H vs Q E hr hsp => hbody A outer s H vs Q E hr hsp
end
theorem funC_mk {K : PySem.W.Frag} {x : Str} {st : Stmt} {f : Addr} {oc kV doc pm ct : Value} {od an : Option Addr} {osl : Array (Option Value)} {c : Addr} (l : K.lookup f = some ⟨oc, od, .func (PySem.W.fnOf x x (defArgs st) (defBody st) (defScope st) .none kV doc pm an (.ref c) ct), osl⟩) (hc : PySem.W.codeIn K (.ref c) x = true) (k : PySem.W.keepIn K (.ref f) = true) :
    FunC K x x st f (PySem.W.fnOf x x (defArgs st) (defBody st) (defScope st) .none kV doc pm an (.ref c) ct) c := ⟨⟨oc, od, kV, doc, pm, an, ct, osl, rfl, l, hc⟩, k⟩
/-! ### a head's facts, by names -/
theorem fun_ofD {K : PySem.W.Frag} {x : Str} {st : Stmt} {f : Addr} {fd : FuncData} (D : FunD K x x (defArgs st) (defBody st) (defScope st) [] [] f fd) : Fun K x x st f fd := by
  obtain ⟨oc, od, dV, kV, doc, pm, an, cdv, ct, osl, h1, h2, h3, h4, _⟩ := D.ex
  rcases h4 with ⟨_, h4⟩ | ⟨h4, _⟩
  · subst h4
    exact ⟨⟨oc, od, kV, doc, pm, an, cdv, ct, osl, h1, h2, h3⟩, D.kp⟩
  · exact absurd rfl h4
theorem funC_ofD {K : PySem.W.Frag} {x : Str} {st : Stmt} {fd : FuncData} (D : FunD K x x (defArgs st) (defBody st) (defScope st) [] [] (He.fAd K (x, none)) fd) : FunC K x x st (He.fAd K (x, none)) fd (He.cT K (x, none)).1 := by
  obtain ⟨oc, od, dV, kV, doc, pm, an, cdv, ct, osl, h1, h2, h3, h4, _⟩ := D.ex
  rcases h4 with ⟨_, h4⟩ | ⟨h4, _⟩
  · subst h4
    obtain ⟨c, rfl⟩ := He.codeIn_ref h3
    have e : He.codeOf K (x, none) = c := He.codeOf_eq h2 (by rw [h1] <;> rfl)
    show FunC K x x st (He.fAd K (x, none)) fd (He.codeOf K (x, none))
    rw [e]
    exact ⟨⟨oc, od, kV, doc, pm, an, ct, osl, h1, h2, h3⟩, D.kp⟩
  · exact absurd rfl h4
theorem tab_empty {H : Hp} {p : Addr} (h : H p = some (.tbl #[])) : TabG H p := ⟨#[], h, by simp [TriplesOk]⟩
theorem tabB_of {base : Heap} {mg : Str → Option Value} {c p : Addr} (t : LamX.TabB base mg c p) : TabB base mg c p := ⟨t.code, t.bm, t.gP⟩
end Fc

namespace Fc
open PySem PySem.Spec L2 PyProof.Rows GxR
/-! ### all and tuple of generator expressions, by the row of their items -/
section
variable {j : Nat} {te : TE} {vs : List Nat} {σ : L2.St} {H1 : Hp} {Q : VK}
theorem take_all {α : Type} {xs : List α} {i : Nat} {x : α} (test : α → Bool) (h : xs[i]? = some x) : (xs.take (i + 1)).all test = ((xs.take i).all test && test x) := by
  rw [List.take_add_one, h, List.all_append]
  show (_ && (test x && true)) = _
  rw [Bool.and_true]
theorem all_false {α : Type} {xs : List α} {i : Nat} {x : α} (test : α → Bool) (h : xs[i]? = some x) (k : test x = false) : xs.all test = false := by
  cases e : xs.all test with
  | false => rfl
  | true =>
    have := List.all_eq_true.mp e x (List.mem_of_getElem? h)
    rw [k] at this
    cases this
theorem gw_list {K : PySem.W.Frag} {a : Addr} {xs : List V} (test : V → Bool) (hs : SqL K H1 a xs) (hw : ∀ x, wipe ((wipe σ vs).set j (some x)) vs = wipe σ vs)
    (item : ∀ (i : Nat) (x : V) (H : Hp) (R : VK), xs[i]? = some x → Same H1 H → (∀ H', Same H H' → R (.bl (test x)) H') → te ((wipe σ vs).set j (some x)) H R) (hd : ∀ H', Same H1 H' → Q (.bl (xs.all test)) H') :
    ∃ W : Nat → Nat → Hp → Prop, (∃ m, W 0 m H1) ∧ GWalk (Itl K a) (gName j) tYes te vs σ (takeAll Q) (Q (.bl true)) W := by
  refine ⟨fun i m H => m = xs.length - i ∧ i ≤ xs.length ∧ Same H1 H ∧ (xs.take i).all test = true, ⟨xs.length, rfl, Nat.zero_le _, Same.refl _, rfl⟩, ?_⟩
  rintro i m H ⟨rfl, hi, sm, al⟩
  have q := sm.seq hs
  by_cases lt : i < xs.length
  · refine .inr ⟨⟨xs, xs[i], q, by simp [lt]⟩, fun H' => Same H1 H' ∧ (xs.take (i + 1)).all test = true, fun H' p => ⟨xs.length - (i + 1), by omega, rfl, lt, p.1, p.2⟩, fun x H' y => ?_⟩
    obtain ⟨e, y⟩ := y
    subst e
    have hx := y xs q
    refine ⟨hw x, ?_⟩
    unfold tYes
    dsimp only
    rw [if_pos rfl]
    refine item i x _ _ hx sm fun H2 s2 => ⟨test x, rfl, fun k => ⟨sm.trans s2, by rw [take_all test hx, al, k]; rfl⟩, fun k => ?_⟩
    have := hd H2 (sm.trans s2)
    rw [all_false test hx k] at this
    exact this
  · have e : i = xs.length := by omega
    subst e
    rw [List.take_length] at al
    have := hd H sm
    rw [al] at this
    exact .inl ⟨⟨xs, q, Nat.le_refl _⟩, this⟩
theorem gw_tup {K : PySem.W.Frag} {a : Addr} {xs : List V} (test : V → Bool) (hs : SqT K H1 a xs) (hw : ∀ x, wipe ((wipe σ vs).set j (some x)) vs = wipe σ vs)
    (item : ∀ (i : Nat) (x : V) (H : Hp) (R : VK), xs[i]? = some x → Same H1 H → (∀ H', Same H H' → R (.bl (test x)) H') → te ((wipe σ vs).set j (some x)) H R) (hd : ∀ H', Same H1 H' → Q (.bl (xs.all test)) H') :
    ∃ W : Nat → Nat → Hp → Prop, (∃ m, W 0 m H1) ∧ GWalk (Itt K a) (gName j) tYes te vs σ (takeAll Q) (Q (.bl true)) W := by
  refine ⟨fun i m H => m = xs.length - i ∧ i ≤ xs.length ∧ Same H1 H ∧ (xs.take i).all test = true, ⟨xs.length, rfl, Nat.zero_le _, Same.refl _, rfl⟩, ?_⟩
  rintro i m H ⟨rfl, hi, sm, al⟩
  have q := keepT sm hs
  by_cases lt : i < xs.length
  · refine .inr ⟨⟨xs, xs[i], q, by simp [lt]⟩, fun H' => Same H1 H' ∧ (xs.take (i + 1)).all test = true, fun H' p => ⟨xs.length - (i + 1), by omega, rfl, lt, p.1, p.2⟩, fun x H' y => ?_⟩
    obtain ⟨e, y⟩ := y
    subst e
    have hx := y xs q
    refine ⟨hw x, ?_⟩
    unfold tYes
    dsimp only
    rw [if_pos rfl]
    refine item i x _ _ hx sm fun H2 s2 => ⟨test x, rfl, fun k => ⟨sm.trans s2, by rw [take_all test hx, al, k]; rfl⟩, fun k => ?_⟩
    have := hd H2 (sm.trans s2)
    rw [all_false test hx k] at this
    exact this
  · have e : i = xs.length := by omega
    subst e
    rw [List.take_length] at al
    have := hd H sm
    rw [al] at this
    exact .inl ⟨⟨xs, q, Nat.le_refl _⟩, this⟩
theorem gw_rng {lo : Int} {n : Nat} (test : Nat → Bool) (hw : ∀ x, wipe ((wipe σ vs).set j (some x)) vs = wipe σ vs)
    (item : ∀ (i : Nat) (H : Hp) (R : VK), i < n → Same H1 H → (∀ H', Same H H' → R (.bl (test i)) H') → te ((wipe σ vs).set j (some (.int (lo + (i : Nat))))) H R) (hd : ∀ H', Same H1 H' → Q (.bl ((List.range n).all test)) H') :
    ∃ W : Nat → Nat → Hp → Prop, (∃ m, W 0 m H1) ∧ GWalk (Itr lo n) (gName j) tYes te vs σ (takeAll Q) (Q (.bl true)) W := by
  refine ⟨fun i m H => m = n - i ∧ i ≤ n ∧ Same H1 H ∧ ((List.range n).take i).all test = true, ⟨n, rfl, Nat.zero_le _, Same.refl _, rfl⟩, ?_⟩
  rintro i m H ⟨rfl, hi, sm, al⟩
  by_cases lt : i < n
  · refine .inr ⟨lt, fun H' => Same H1 H' ∧ ((List.range n).take (i + 1)).all test = true, fun H' p => ⟨n - (i + 1), by omega, rfl, lt, p.1, p.2⟩, fun x H' y => ?_⟩
    obtain ⟨e, rfl⟩ := y
    subst e
    have hx : (List.range n)[i]? = some i := List.getElem?_range lt
    refine ⟨hw _, ?_⟩
    unfold tYes
    dsimp only
    rw [if_pos rfl]
    refine item i _ _ lt sm fun H2 s2 => ⟨test i, rfl, fun k => ⟨sm.trans s2, by rw [take_all test hx, al, k]; rfl⟩, fun k => ?_⟩
    have := hd H2 (sm.trans s2)
    rw [all_false test hx k] at this
    exact this
  · have e : i = n := by omega
    subst e
    rw [List.take_of_length_le (by rw [List.length_range]; exact Nat.le_refl _)] at al
    have := hd H sm
    rw [al] at this
    exact .inl ⟨Nat.le_refl _, this⟩
theorem gw_sign {l : List Nat} (test : Nat → Bool) (hw : ∀ x, wipe ((wipe σ vs).set j (some x)) vs = wipe σ vs)
    (item : ∀ (i c : Nat) (H : Hp) (R : VK), l[i]? = some c → Same H1 H → (∀ H', Same H H' → R (.bl (test c)) H') → te ((wipe σ vs).set j (some (T [c]))) H R) (hd : ∀ H', Same H1 H' → Q (.bl (l.all test)) H') :
    ∃ W : Nat → Nat → Hp → Prop, (∃ m, W 0 m H1) ∧ GWalk (Its (mkS l)) (gName j) tYes te vs σ (takeAll Q) (Q (.bl true)) W := by
  have sz : (mkS l).cps.size = l.length := by simp [mkS]
  refine ⟨fun i m H => m = l.length - i ∧ i ≤ l.length ∧ Same H1 H ∧ (l.take i).all test = true, ⟨l.length, rfl, Nat.zero_le _, Same.refl _, rfl⟩, ?_⟩
  rintro i m H ⟨rfl, hi, sm, al⟩
  by_cases lt : i < l.length
  · refine .inr ⟨by show i < (mkS l).cps.size; omega, fun H' => Same H1 H' ∧ (l.take (i + 1)).all test = true, fun H' p => ⟨l.length - (i + 1), by omega, rfl, lt, p.1, p.2⟩, fun x H' yl => ?_⟩
    obtain ⟨rfl, c, hc, rfl⟩ := yl
    have gc : l[i]? = some c := by
      have : (mkS l).cps[i]? = l[i]? := by simp [mkS]
      rw [← this]
      exact hc
    refine ⟨hw _, ?_⟩
    unfold tYes
    dsimp only
    rw [if_pos rfl]
    refine item i c _ _ gc sm fun H2 s2 => ⟨test c, rfl, fun k => ⟨sm.trans s2, by rw [take_all test gc, al, k]; rfl⟩, fun k => ?_⟩
    have := hd H2 (sm.trans s2)
    rw [all_false test gc k] at this
    exact this
  · have e : i = l.length := by omega
    subst e
    rw [List.take_length] at al
    have := hd H sm
    rw [al] at this
    exact .inl ⟨by show (mkS l).cps.size ≤ _; omega, this⟩
/-- tuple(.. for i in range ..) -/
theorem gwT_rng {lo : Int} {n : Nat} (f : Nat → V) (hz : n ≤ sizeLine) (hw : ∀ x, wipe ((wipe σ vs).set j (some x)) vs = wipe σ vs)
    (item : ∀ (i : Nat) (H : Hp) (R : VK), i < n → Same H1 H → (∀ H', Same H H' → R (f i) H') → te ((wipe σ vs).set j (some (.int (lo + (i : Nat))))) H R) (hd : ∀ H', Same H1 H' → ∀ p, H' p = none → Q (.ref p) (upd H' p (.tup ((List.range n).map f)))) :
    ∃ W : Nat → Nat → List V → Hp → Prop, (∃ m, W 0 m [] H1) ∧ GWalkT (Itr lo n) (gName j) tYes te vs σ (fun ys H' => ys.length ≤ sizeLine ∧ ∀ p, H' p = none → Q (.ref p) (upd H' p (.tup ys))) W := by
  refine ⟨fun i m ys H => m = n - i ∧ i ≤ n ∧ Same H1 H ∧ ys = (List.range i).map f, ⟨n, rfl, Nat.zero_le _, Same.refl _, rfl⟩, ?_⟩
  rintro i m ys H ⟨rfl, hi, sm, rfl⟩
  by_cases lt : i < n
  · refine .inr ⟨lt, fun ys' H' => Same H1 H' ∧ ys' = (List.range (i + 1)).map f, fun ys' H' p => ⟨n - (i + 1), by omega, rfl, lt, p.1, p.2⟩, fun x H' y => ?_⟩
    obtain ⟨e, rfl⟩ := y
    subst e
    refine ⟨hw _, ?_⟩
    unfold tYes
    dsimp only
    rw [if_pos rfl]
    refine item i _ _ lt sm fun H2 s2 => ⟨by rw [List.length_map, List.length_range]; omega, sm.trans s2, ?_⟩
    rw [List.range_succ, List.map_append]
    rfl
  · have e : i = n := by omega
    subst e
    exact .inl ⟨Nat.le_refl _, by rw [List.length_map, List.length_range]; exact hz, hd H sm⟩
end
/-- a loop over zip of two lists, turn by turn -/
theorem for_zipI {K : PySem.W.Frag} {a b : Addr} {xs ys : List V} {g : TG} {tb : TS} {D : Ends} {σ : L2.St} {H : Hp} (Pv : Nat → L2.St → Hp → Prop) (h0 : Pv 0 σ H) (hq : ∀ i σ H, Pv i σ H → SqL K H a xs ∧ SqL K H b ys)
    (hs : ∀ (i : Nat) (x y : V) (T : Addr) (σ : L2.St) (H : Hp), xs[i]? = some x → ys[i]? = some y → Pv i σ H → H T = none → g (.ref T) σ (upd H T (.tup [x, y])) fun σ2 H2 => tb { D with nx := Pv (i + 1), ct := Pv (i + 1), bk := D.nx } σ2 H2) (hd : ∀ i σ H, (xs.length ≤ i ∨ ys.length ≤ i) → Pv i σ H → D.nx σ H) :
    ∃ W : Nat → Nat → L2.St → Hp → Prop, (∃ m, W 0 m σ H) ∧ ∀ i m σ H, W i m σ H →
      ((Itz K a b).stop i H ∧ D.nx σ H) ∨ ((Itz K a b).go i H ∧ ∃ N : L2.St → Hp → Prop, (∀ σ' H', N σ' H' → ∃ m', m' < m ∧ W (i + 1) m' σ' H') ∧ ∀ v H', (Itz K a b).yld i H v H' → g v σ H' fun σ2 H2 => tb { D with nx := N, ct := N, bk := D.nx } σ2 H2) := by
  refine ⟨fun i m σ H => m = xs.length - i ∧ Pv i σ H, ⟨xs.length, rfl, h0⟩, ?_⟩
  rintro i m σ H ⟨rfl, p⟩
  obtain ⟨qx, qy⟩ := hq i σ H p
  by_cases hlt : i < xs.length ∧ i < ys.length
  · have hx : xs[i]? = some xs[i] := List.getElem?_eq_getElem hlt.1
    have hy : ys[i]? = some ys[i] := List.getElem?_eq_getElem hlt.2
    refine .inr ⟨⟨xs, ys, _, _, qx, qy, hx, hy⟩, Pv (i + 1), fun σ' H' p' => ⟨xs.length - (i + 1), by omega, rfl, p'⟩, fun v H' y => ?_⟩
    obtain ⟨T, x', y', rfl, hT, rfl, f1, f2⟩ := y
    exact hs i x' y' T σ H (f1 xs qx) (f2 ys qy) p hT
  · refine .inl ⟨⟨xs, ys, qx, qy, by omega⟩, hd i σ H (by omega) p⟩
section
variable {X : Cx}
theorem pe_globS {x : Str} {z : Str} {pos : Pos} (hg : Gl X x) (h : ∃ t, X.mg x = some (.str z t)) (hd : (x == ("__debug__" : Str)) = false := by decide) : PE X (.Name x pos) (tC (.str z)) := by
  obtain ⟨t, e⟩ := h
  exact pe_glob hg e ⟨t, rfl⟩ hd
/-- a def of the module as a value -/
def tDefV (mg : Str → Option Value) (x : Str) : TE := fun _ H Q => ∀ f, mg x = some (.ref f) → Q (.ref f) H
theorem pe_defV {x : Str} {k : Nat} {ps : List Str} {sp : Sp} {pos : Pos} (C : Cal X.prog X.w X.K X.mg X.base x k ps sp) (hg : Gl X x := by rfl) (hd : (x == ("__debug__" : Str)) = false := by decide) : PE X (.Name x pos) (tDefV X.mg x) := by
  obtain ⟨f, fd, F, m, kp, b⟩ := C.ex
  exact PEweak (pe_glob (v := .ref f) hg m rfl hd) fun σ H Q q => q f m
end
end Fc

namespace Fc
open PySem PySem.Spec L2 PyProof.Rows
def topS (i : Nat) : Stmt := PySem.Challenge.pw_filecrate_k14_whole_texts_made_clean.main.body.getD i (.Pass ⟨0, 0, 0, 0⟩)
abbrev sIsPath : Stmt := topS 8
abbrev nIsPath : List Str := ["thing"]
theorem scIsPath : FnScope nIsPath ["thing"] (defScope sIsPath) := ⟨rfl, rfl, rfl, by decide +kernel, rfl, by decide +kernel, by decide +kernel⟩
abbrev sIsRowOf : Stmt := topS 9
abbrev nIsRowOf : List Str := ["thing", "is_right", "pieces", "piece"]
theorem scIsRowOf : FnScope nIsRowOf ["thing", "is_right"] (defScope sIsRowOf) := ⟨rfl, rfl, rfl, by decide +kernel, rfl, by decide +kernel, by decide +kernel⟩
abbrev sIsPart : Stmt := topS 10
abbrev nIsPart : List Str := ["text", "sign"]
theorem scIsPart : FnScope nIsPart ["text"] (defScope sIsPart) := ⟨rfl, rfl, rfl, by decide +kernel, rfl, by decide +kernel, by decide +kernel⟩
abbrev sPartsOf : Stmt := topS 11
abbrev nPartsOf : List Str := ["path"]
theorem scPartsOf : FnScope nPartsOf ["path"] (defScope sPartsOf) := ⟨rfl, rfl, rfl, by decide +kernel, rfl, by decide +kernel, by decide +kernel⟩
abbrev sClean : Stmt := topS 12
abbrev nClean : List Str := ["text", "kept", "piece", "path"]
theorem scClean : FnScope nClean ["text"] (defScope sClean) := ⟨rfl, rfl, rfl, by decide +kernel, rfl, by decide +kernel, by decide +kernel⟩
abbrev sKeepPiece : Stmt := topS 13
abbrev nKeepPiece : List Str := ["kept", "piece"]
theorem scKeepPiece : FnScope nKeepPiece ["kept", "piece"] (defScope sKeepPiece) := ⟨rfl, rfl, rfl, by decide +kernel, rfl, by decide +kernel, by decide +kernel⟩
abbrev sAbove : Stmt := topS 14
abbrev nAbove : List Str := ["path", "parts", "many"]
theorem scAbove : FnScope nAbove ["path"] (defScope sAbove) := ⟨rfl, rfl, rfl, by decide +kernel, rfl, by decide +kernel, by decide +kernel⟩
abbrev sLawD : Stmt := topS 16
abbrev nLawD : List Str := ["_law_cell_here", "_law_place", "_law_many", "_law_number"]
theorem scLawD : FnScope nLawD ["_law_cell_here", "_law_place", "_law_many"] (defScope sLawD) := ⟨rfl, rfl, rfl, by decide +kernel, rfl, by decide +kernel, by decide +kernel⟩
abbrev sLawCell : Stmt := topS 17
abbrev nLawCell : List Str := ["_law_script", "_law_k"]
theorem scLawCell : FnScope nLawCell ["_law_script", "_law_k"] (defScope sLawCell) := ⟨rfl, rfl, rfl, by decide +kernel, rfl, by decide +kernel, by decide +kernel⟩
abbrev sLawSame : Stmt := topS 18
abbrev nLawSame : List Str := ["_law_told_here", "_law_due", "_law_one", "_law_other"]
theorem scLawSame : FnScope nLawSame ["_law_told_here", "_law_due"] (defScope sLawSame) := ⟨rfl, rfl, rfl, by decide +kernel, rfl, by decide +kernel, by decide +kernel⟩
abbrev sLawIsPart : Stmt := topS 19
abbrev nLawIsPart : List Str := ["_law_text", "_law_good", "_law_sign"]
theorem scLawIsPart : FnScope nLawIsPart ["_law_text"] (defScope sLawIsPart) := ⟨rfl, rfl, rfl, by decide +kernel, rfl, by decide +kernel, by decide +kernel⟩
abbrev sLawPart : Stmt := topS 20
abbrev nLawPart : List Str := ["_law_cell_here", "_law_signs", "_law_text", "_law_k", "_law_at"]
theorem scLawPart : FnScope nLawPart ["_law_cell_here"] (defScope sLawPart) := ⟨rfl, rfl, rfl, by decide +kernel, rfl, by decide +kernel, by decide +kernel⟩
abbrev sLawTold : Stmt := topS 21
abbrev nLawTold : List Str := ["_law_text", "_law_found"]
theorem scLawTold : FnScope nLawTold ["_law_text"] (defScope sLawTold) := ⟨rfl, rfl, rfl, by decide +kernel, rfl, by decide +kernel, by decide +kernel⟩
abbrev sLawClean : Stmt := topS 22
abbrev nLawClean : List Str := ["_law_text", "_law_kept", "_law_part_here"]
theorem scLawClean : FnScope nLawClean ["_law_text"] (defScope sLawClean) := ⟨rfl, rfl, rfl, by decide +kernel, rfl, by decide +kernel, by decide +kernel⟩
abbrev sLawPiece : Stmt := topS 23
abbrev nLawPiece : List Str := ["_law_cell_here", "_law_part_here", "_law_signs", "_law_at"]
theorem scLawPiece : FnScope nLawPiece ["_law_cell_here"] (defScope sLawPiece) := ⟨rfl, rfl, rfl, by decide +kernel, rfl, by decide +kernel, by decide +kernel⟩
abbrev sLaw : Stmt := topS 24
abbrev nLaw : List Str := ["_law_script", "_law_begin", "_law_cells", "_law_text", "_law_due", "_law_path", "_law_parts", "_law_folders", "_law_cell_here", "_law_k"]
theorem scLaw : FnScope nLaw ["_law_script"] (defScope sLaw) := ⟨rfl, rfl, rfl, by decide +kernel, rfl, by decide +kernel, by decide +kernel⟩
structure Env (K : PySem.W.Frag) (mg : Str → Option Value) : Prop where
  b_all : mg "all" = none
  b_bool : mg "bool" = none
  b_int : mg "int" = none
  b_isinstance : mg "isinstance" = none
  b_len : mg "len" = none
  b_range : mg "range" = none
  b_str : mg "str" = none
  b_tuple : mg "tuple" = none
  b_zip : mg "zip" = none
  g_MOST_PARTS : ∃ t, mg "MOST_PARTS" = some (.int 8 t)
  g_MOST_SIGNS : ∃ t, mg "MOST_SIGNS" = some (.int 12 t)
  g_SIGNS : ∃ t, mg "SIGNS" = some (.str (Str.ofString "abcdefghijklmnopqrstuvwxyz0123456789_-.") t)
structure Excs (K : PySem.W.Frag) (mg : Str → Option Value) (e_BadPath e_LeadsOut : Addr) : Prop where
  BadPath : Exc K mg "BadPath" e_BadPath
  LeadsOut : Exc K mg "LeadsOut" e_LeadsOut
  p_BadPath_BadPath : PySem.W.exmOne K (.ref e_BadPath) (.ref e_BadPath) = some true
  p_BadPath_LeadsOut : PySem.W.exmOne K (.ref e_BadPath) (.ref e_LeadsOut) = some false
  p_LeadsOut_BadPath : PySem.W.exmOne K (.ref e_LeadsOut) (.ref e_BadPath) = some false
  p_LeadsOut_LeadsOut : PySem.W.exmOne K (.ref e_LeadsOut) (.ref e_LeadsOut) = some true

section
variable {P : Program} {w : World} {mg : Str → Option Value} {K : PySem.W.Frag} {base : Heap} {e_BadPath e_LeadsOut : Addr}
/-! ### a draw -/
def spD : Sp := fun vs H Q _ => ∃ c p m : Int, vs = [.int c, .int p, .int m] ∧ 0 ≤ p ∧ p < 100000 ∧ 0 < m ∧ ∀ d : Int, 0 ≤ d → d < m → Q (.int d) H
theorem ok_d {f : Addr} {fd : FuncData} (Ev : Env K mg) (F : Fun K "_law_d" "_law_d" sLawD f fd) : FnOk P w K mg base CX0 1 f fd ["_law_cell_here", "_law_place", "_law_many"] spD := by
  refine F.ok scLawD (fun vs H Q E h => ?_) (fun cdv A outer s H vs Q E hr h => ?_)
  · obtain ⟨c, p, m, rfl, _⟩ := h; rfl
  · obtain ⟨c, p, m, rfl, p0, p1, hm, q⟩ := h
    refine ⟨_, (pss_cons (ps_set (i := 3) scLawD.nd rfl (.inl rfl) (pe_op op_mod (pe_op op_add (pv 0) (pe_op op_mul pe_int (pv 1))) pe_int))
      (pss_cons (ps_set (i := 3) scLawD.nd rfl (.inl rfl) (pe_op op_mod (pe_op op_mul (pe_op op_mod (pe_op op_mul (pv 3) (pv 3)) pe_int) pe_int) pe_int))
      (pss_one (ps_ret (pe_op op_mod (pe_op op_fdiv (pv 3) pe_int) (pv 2)))))), ?_⟩
    refine ⟨_, rfl, _, rfl, _, _, rfl, rfl, .inl ⟨by decide, by decide⟩, _, _, rfl, rfl, _, 4294967291, rfl, rfl, (show (0 : Int) < 4294967291 by decide), ?_⟩
    have b := Int.emod_lt_of_pos (c + 104729 * p) (show (0 : Int) < 4294967291 by decide)
    have b' := Int.emod_nonneg (c + 104729 * p) (show (4294967291 : Int) ≠ 0 by decide)
    refine ⟨_, rfl, _, rfl, _, _, rfl, rfl, .inl ⟨by omega, by omega⟩, _, 4294967279, rfl, rfl, (show (0 : Int) < 4294967279 by decide), _, 48271, rfl, rfl, .inr ⟨by decide, by decide⟩, _, 4294967291, rfl, rfl, (show (0 : Int) < 4294967291 by decide), ?_⟩
    refine ⟨_, rfl, _, 64, rfl, rfl, ⟨by decide, by decide⟩, _, rfl, _, _, rfl, rfl, hm, q _ (Int.emod_nonneg _ (Int.ne_of_gt hm)) (Int.emod_lt_of_pos _ hm)⟩

/-! ### two things that are the same -/
def spSameD (K : PySem.W.Frag) (n : Nat) : Sp := fun vs H Q _ => ∃ (u v : V) (d : PyData), vs = [u, v] ∧ Dp K H u d ∧ Dp K H v d ∧ tupsOnly d = true ∧ PyData.depth d ≤ n ∧ ∀ H', Same H H' → Q (.bl true) H'
theorem ok_sameD {f : Addr} {fd : FuncData} (Ev : Env K mg) (F : Fun K "_law_same" "_law_same" sLawSame f fd) (mS : mg "_law_same" = some (.ref f)) (bS : Binds K fd ["_law_told_here", "_law_due"] []) : ∀ n : Nat, FnOk P w K mg base CX0 (n + 1) f fd ["_law_told_here", "_law_due"] (spSameD K n) := by
  have flat : ∀ (u v : V) (d : PyData) (H : Hp), Dp K H u d → Dp K H v d → (∀ ds, d ≠ .tuple ds) → tupsOnly d = true → (u = .non ∧ v = .non) ∨ (∃ b, u = .bl b ∧ v = .bl b) ∨ (∃ i, u = .int i ∧ v = .int i) ∨ (∃ x, u = .str x ∧ v = .str x) := by
    intro u v d H hu hv nt ok
    cases d with
    | none => cases hu; cases hv; exact .inl ⟨rfl, rfl⟩
    | bool b => cases hu; cases hv; exact .inr (.inl ⟨b, rfl, rfl⟩)
    | int i => cases hu; cases hv; exact .inr (.inr (.inl ⟨i, rfl, rfl⟩))
    | str x => cases hu; cases hv; exact .inr (.inr (.inr ⟨x, rfl, rfl⟩))
    | list ds => cases ok
    | tuple ds => exact absurd rfl (nt ds)
    | dict kvs => cases ok
  intro n
  induction n with
  | zero =>
    refine F.ok scLawSame (fun vs H Q E h => ?_) (fun cdv A outer s H vs Q E hr h => ?_)
    · obtain ⟨u, v, d, rfl, _⟩ := h; rfl
    · obtain ⟨u, v, d, rfl, hu, hv, ok, dp, q⟩ := h
      refine ⟨_, (pss_cons (ps_if (pt_cmpR op_isN (pv 1) pe_non (nomark _))
        (pss_one (ps_ret (pe_cmpR op_isN (pv 0) pe_non (nomark _))))
        pss_nil)
      (pss_cons (ps_if (pt_val (pe_callB call_isi (by rfl) Ev.b_isinstance (by decide +kernel) (pa_cons (pv 1) (pa_cons (pe_btype (n := "bool") (by rfl) Ev.b_bool (by decide +kernel)) pa_nil))))
        (pss_one (ps_ret (pe_and (pe_callB call_isi (by rfl) Ev.b_isinstance (by decide +kernel) (pa_cons (pv 0) (pa_cons (pe_btype (n := "bool") (by rfl) Ev.b_bool (by decide +kernel)) pa_nil))) (pe_one (pe_cmpR op_eq (pv 0) (pv 1) (nomark _))))))
        pss_nil)
      (pss_cons (ps_if (pt_val (pe_callB call_isi (by rfl) Ev.b_isinstance (by decide +kernel) (pa_cons (pv 1) (pa_cons (pe_btype (n := "tuple") (by rfl) Ev.b_tuple (by decide +kernel)) pa_nil))))
        pss_never
        pss_nil)
      (pss_cons (ps_if (pt_val (pe_callB call_isi (by rfl) Ev.b_isinstance (by decide +kernel) (pa_cons (pv 1) (pa_cons (pe_btype (n := "str") (by rfl) Ev.b_str (by decide +kernel)) pa_nil))))
        (pss_one (ps_ret (pe_and (pe_callB call_isi (by rfl) Ev.b_isinstance (by decide +kernel) (pa_cons (pv 0) (pa_cons (pe_btype (n := "str") (by rfl) Ev.b_str (by decide +kernel)) pa_nil))) (pe_one (pe_cmpR op_eq (pv 0) (pv 1) (nomark _))))))
        pss_nil)
      (pss_one (ps_ret (pe_and (pe_callB call_isi (by rfl) Ev.b_isinstance (by decide +kernel) (pa_cons (pv 0) (pa_cons (pe_btype (n := "int") (by rfl) Ev.b_int (by decide +kernel)) pa_nil))) (pe_and (pe_not (pe_callB call_isi (by rfl) Ev.b_isinstance (by decide +kernel) (pa_cons (pv 0) (pa_cons (pe_btype (n := "bool") (by rfl) Ev.b_bool (by decide +kernel)) pa_nil)))) (pe_one (pe_cmpR op_eq (pv 0) (pv 1) (nomark _))))))))))), ?_⟩
      have nt : ∀ ds, d ≠ .tuple ds := fun ds z => by
        rw [z, PyData.depth] at dp
        omega
      · have _u := nt
        rcases flat u v d H hu hv nt ok with ⟨rfl, rfl⟩ | ⟨b, rfl, rfl⟩ | ⟨i, rfl, rfl⟩ | ⟨x, rfl, rfl⟩
        · refine ⟨_, rfl, rfl, _, rfl, iteT ?_⟩
          exact ⟨_, rfl, rfl, q _ (Same.refl _)⟩
        · refine ⟨_, rfl, rfl, _, rfl, iteF ?_⟩
          refine ⟨.bl b, rfl, _, _, _, _, true, rfl, .ty "bool", .base (.bl _), k_bb, true, rfl, iteT ?_⟩
          refine ⟨.bl b, rfl, _, _, _, _, true, rfl, .ty "bool", .base (.bl _), k_bb, true, rfl, iteT ?_⟩
          refine ⟨.bl b, rfl, .bl b, rfl, rfl, ?_⟩
          rw [decide_eq_true rfl]
          exact q _ (Same.refl _)
        · refine ⟨_, rfl, rfl, _, rfl, iteF ?_⟩
          refine ⟨.int i, rfl, _, _, _, _, false, rfl, .ty "bool", .base (.int _), k_ib, false, rfl, iteF ?_⟩
          refine ⟨.int i, rfl, _, _, _, _, false, rfl, .ty "tuple", .base (.int _), k_it, false, rfl, iteF ?_⟩
          refine ⟨.int i, rfl, _, _, _, _, false, rfl, .ty "str", .base (.int _), k_is', false, rfl, iteF ?_⟩
          refine ⟨.int i, rfl, _, _, _, _, true, rfl, .ty "int", .base (.int _), k_ii, true, rfl, iteT ?_⟩
          refine ⟨.int i, rfl, _, _, _, _, false, rfl, .ty "bool", .base (.int _), k_ib, false, rfl, true, rfl, iteT ?_⟩
          refine ⟨.int i, rfl, .int i, rfl, rfl, ?_⟩
          rw [decide_eq_true rfl]
          exact q _ (Same.refl _)
        · refine ⟨_, rfl, rfl, _, rfl, iteF ?_⟩
          refine ⟨.str x, rfl, _, _, _, _, false, rfl, .ty "bool", .base (.str _), k_sb, false, rfl, iteF ?_⟩
          refine ⟨.str x, rfl, _, _, _, _, false, rfl, .ty "tuple", .base (.str _), k_st, false, rfl, iteF ?_⟩
          refine ⟨.str x, rfl, _, _, _, _, true, rfl, .ty "str", .base (.str _), k_ss, true, rfl, iteT ?_⟩
          refine ⟨.str x, rfl, _, _, _, _, true, rfl, .ty "str", .base (.str _), k_ss, true, rfl, iteT ?_⟩
          refine ⟨.str x, rfl, .str x, rfl, rfl, ?_⟩
          rw [decide_eq_true rfl]
          exact q _ (Same.refl _)

  | succ n ih =>
    have CLawSame : Cal P w K mg base "_law_same" (n + 1) ["_law_told_here", "_law_due"] (spSameD K n) := ⟨f, fd, ih, mS, F.kp, bS⟩
    refine F.ok scLawSame (fun vs H Q E h => ?_) (fun cdv A outer s H vs Q E hr h => ?_)
    · obtain ⟨u, v, d, rfl, _⟩ := h; rfl
    · obtain ⟨u, v, d, rfl, hu, hv, ok, dp, q⟩ := h
      refine ⟨_, (pss_cons (ps_if (pt_cmpR op_isN (pv 1) pe_non (nomark _))
        (pss_one (ps_ret (pe_cmpR op_isN (pv 0) pe_non (nomark _))))
        pss_nil)
      (pss_cons (ps_if (pt_val (pe_callB call_isi (by rfl) Ev.b_isinstance (by decide +kernel) (pa_cons (pv 1) (pa_cons (pe_btype (n := "bool") (by rfl) Ev.b_bool (by decide +kernel)) pa_nil))))
        (pss_one (ps_ret (pe_and (pe_callB call_isi (by rfl) Ev.b_isinstance (by decide +kernel) (pa_cons (pv 0) (pa_cons (pe_btype (n := "bool") (by rfl) Ev.b_bool (by decide +kernel)) pa_nil))) (pe_one (pe_cmpR op_eq (pv 0) (pv 1) (nomark _))))))
        pss_nil)
      (pss_cons (ps_if (pt_val (pe_callB call_isi (by rfl) Ev.b_isinstance (by decide +kernel) (pa_cons (pv 1) (pa_cons (pe_btype (n := "tuple") (by rfl) Ev.b_tuple (by decide +kernel)) pa_nil))))
        (pss_cons (ps_if (PW.pt (pw_or (pt_not (pt_val (pe_callB call_isi (by rfl) Ev.b_isinstance (by decide +kernel) (pa_cons (pv 0) (pa_cons (pe_btype (n := "tuple") (by rfl) Ev.b_tuple (by decide +kernel)) pa_nil))))) (pw_or1 (pt_cmpR op_ne (pe_callB call_len_seq (by rfl) Ev.b_len PySem.boot_len (pa_cons (pv 0) pa_nil)) (pe_callB call_len_seq (by rfl) Ev.b_len PySem.boot_len (pa_cons (pv 1) pa_nil)) (nomark _)))))
          (pss_one (ps_ret pe_bl))
          pss_nil)
        (pss_one (ps_ret (pe_callB (cr_all rfl) (by rfl) Ev.b_all (by decide +kernel) (pa_cons (pe_lc (own := [("_law_one", 2), ("_law_other", 3)]) (g := gTup K 2 (gCons (gName 2) (gCons (gName 3) (gNil)))) (tt := tYes) (by rfl) scLawSame.nd (RZ.pi_zipA (by rfl) Ev.b_zip (pa_cons (pv 0) (pa_cons (pv 1) pa_nil))) (blkOk_by (own := [("_law_one", 2), ("_law_other", 3)]) (N := nLawSame) (sc := defScope sLawSame) (by decide +kernel)) (fun _ _ _ _ _ => (pg_tup (by rfl) (pgs_cons (pg_name (i := 2) scLawSame.nd rfl (.inl rfl)) (pgs_cons (pg_name (i := 3) scLawSame.nd rfl (.inl rfl)) pgs_nil)))) (fun _ _ _ _ _ => pts_nil) (fun _ _ _ _ _ => (pe_c CLawSame (hr.mono (by omega)) (pa_cons (pv 2) (pa_cons (pv 3) pa_nil))))) pa_nil)))))
        pss_nil)
      (pss_cons (ps_if (pt_val (pe_callB call_isi (by rfl) Ev.b_isinstance (by decide +kernel) (pa_cons (pv 1) (pa_cons (pe_btype (n := "str") (by rfl) Ev.b_str (by decide +kernel)) pa_nil))))
        (pss_one (ps_ret (pe_and (pe_callB call_isi (by rfl) Ev.b_isinstance (by decide +kernel) (pa_cons (pv 0) (pa_cons (pe_btype (n := "str") (by rfl) Ev.b_str (by decide +kernel)) pa_nil))) (pe_one (pe_cmpR op_eq (pv 0) (pv 1) (nomark _))))))
        pss_nil)
      (pss_one (ps_ret (pe_and (pe_callB call_isi (by rfl) Ev.b_isinstance (by decide +kernel) (pa_cons (pv 0) (pa_cons (pe_btype (n := "int") (by rfl) Ev.b_int (by decide +kernel)) pa_nil))) (pe_and (pe_not (pe_callB call_isi (by rfl) Ev.b_isinstance (by decide +kernel) (pa_cons (pv 0) (pa_cons (pe_btype (n := "bool") (by rfl) Ev.b_bool (by decide +kernel)) pa_nil)))) (pe_one (pe_cmpR op_eq (pv 0) (pv 1) (nomark _))))))))))), ?_⟩
      by_cases tt : ∃ ds, d = .tuple ds
      · obtain ⟨ds, rfl⟩ := tt
        cases hu with
        | @tup p xs _ hp hxs =>
        cases hv with
        | @tup r ys _ hq hys =>
        rw [tupsOnly, Bool.and_eq_true] at ok
        have few : ds.length ≤ 100000 := of_decide_eq_true ok.1
        have lx := dpLen hxs
        have ly := dpLen hys
        refine ⟨_, rfl, rfl, _, rfl, iteF ?_⟩
        refine ⟨.ref r, rfl, _, _, _, _, false, rfl, .ty "bool", ty_tup hq, k_tb, false, rfl, iteF ?_⟩
        refine ⟨.ref r, rfl, _, _, _, _, true, rfl, .ty "tuple", ty_tup hq, k_tt, true, rfl, iteT ?_⟩
        refine ⟨.ref p, rfl, _, _, _, _, true, rfl, .ty "tuple", ty_tup hp, k_tt, true, rfl, iteF ?_⟩
        refine ⟨_, rfl, p, _, rfl, .inr hp, _, rfl, r, _, rfl, .inr hq, rfl, _, rfl, iteNS (by rw [lx, ly]) ?_⟩
        refine ⟨_, rfl, _, rfl, p, r, _, _, rfl, .inr ⟨hp, hq, fun D nD => ?_⟩⟩
        have lz : ((List.replicate ds.length true).map V.bl).length = xs.length := by rw [List.length_map, List.length_replicate, lx]
        refine lc_zip (xs := xs) (ys := ys) (zs := (List.replicate ds.length true).map V.bl) nD hp hq (by omega) lz ?_ (fun _ _ => rfl) (fun i x y z H2 R hx hy hz sm R1 => ?_) (fun H2 sm h2 => ?_)
        · rw [lx, sizeLine_eq]
          omega
        · obtain ⟨d1, e1, k1⟩ := dpGet hxs hx
          obtain ⟨d2, e2, k2⟩ := dpGet hys hy
          have ed : d1 = d2 := Option.some.inj (e1.symm.trans e2)
          subst ed
          have ez : z = .bl true := by
            rw [List.getElem?_map] at hz
            cases e : (List.replicate ds.length true)[i]? with
            | none => rw [e] at hz; cases hz
            | some b =>
              rw [e] at hz
              have eb : b = true := List.eq_of_mem_replicate (List.mem_of_getElem? e)
              rw [eb] at hz
              exact (Option.some.inj hz).symm
          subst ez
          have dd := depth_get e1
          rw [PyData.depth] at dp
          exact ⟨_, rfl, _, rfl, x, y, d1, rfl, dpKeep sm k1, dpKeep sm k2, tupsAll_get ok.2 e1, by omega, fun H' e => R1 _ e⟩
        · refine ⟨D, List.replicate ds.length true, rfl, SqL.of h2, ?_⟩
          have e : (List.replicate ds.length true).all id = true := by
            rw [List.all_eq_true]
            intro b hb
            rw [List.eq_of_mem_replicate hb]
            rfl
          rw [e]
          exact q _ sm
      · have nt : ∀ ds, d ≠ .tuple ds := fun ds z => tt ⟨ds, z⟩
        rcases flat u v d H hu hv nt ok with ⟨rfl, rfl⟩ | ⟨b, rfl, rfl⟩ | ⟨i, rfl, rfl⟩ | ⟨x, rfl, rfl⟩
        · refine ⟨_, rfl, rfl, _, rfl, iteT ?_⟩
          exact ⟨_, rfl, rfl, q _ (Same.refl _)⟩
        · refine ⟨_, rfl, rfl, _, rfl, iteF ?_⟩
          refine ⟨.bl b, rfl, _, _, _, _, true, rfl, .ty "bool", .base (.bl _), k_bb, true, rfl, iteT ?_⟩
          refine ⟨.bl b, rfl, _, _, _, _, true, rfl, .ty "bool", .base (.bl _), k_bb, true, rfl, iteT ?_⟩
          refine ⟨.bl b, rfl, .bl b, rfl, rfl, ?_⟩
          rw [decide_eq_true rfl]
          exact q _ (Same.refl _)
        · refine ⟨_, rfl, rfl, _, rfl, iteF ?_⟩
          refine ⟨.int i, rfl, _, _, _, _, false, rfl, .ty "bool", .base (.int _), k_ib, false, rfl, iteF ?_⟩
          refine ⟨.int i, rfl, _, _, _, _, false, rfl, .ty "tuple", .base (.int _), k_it, false, rfl, iteF ?_⟩
          refine ⟨.int i, rfl, _, _, _, _, false, rfl, .ty "str", .base (.int _), k_is', false, rfl, iteF ?_⟩
          refine ⟨.int i, rfl, _, _, _, _, true, rfl, .ty "int", .base (.int _), k_ii, true, rfl, iteT ?_⟩
          refine ⟨.int i, rfl, _, _, _, _, false, rfl, .ty "bool", .base (.int _), k_ib, false, rfl, true, rfl, iteT ?_⟩
          refine ⟨.int i, rfl, .int i, rfl, rfl, ?_⟩
          rw [decide_eq_true rfl]
          exact q _ (Same.refl _)
        · refine ⟨_, rfl, rfl, _, rfl, iteF ?_⟩
          refine ⟨.str x, rfl, _, _, _, _, false, rfl, .ty "bool", .base (.str _), k_sb, false, rfl, iteF ?_⟩
          refine ⟨.str x, rfl, _, _, _, _, false, rfl, .ty "tuple", .base (.str _), k_st, false, rfl, iteF ?_⟩
          refine ⟨.str x, rfl, _, _, _, _, true, rfl, .ty "str", .base (.str _), k_ss, true, rfl, iteT ?_⟩
          refine ⟨.str x, rfl, _, _, _, _, true, rfl, .ty "str", .base (.str _), k_ss, true, rfl, iteT ?_⟩
          refine ⟨.str x, rfl, .str x, rfl, rfl, ?_⟩
          rw [decide_eq_true rfl]
          exact q _ (Same.refl _)


/-! ### the law's parts and pieces -/
def spIsPart (K : PySem.W.Frag) : Sp := fun vs H Q _ => ∃ p : List Nat, vs = [T p] ∧ p.length ≤ 100000 ∧ ∀ H', Same H H' → Q (.bl (decide (partOk p))) H'
theorem ok_ispart {f : Addr} {fd : FuncData} (Ev : Env K mg) (F : Fun K "_law_is_part" "_law_is_part" sLawIsPart f fd) : FnOk P w K mg base CX0 1 f fd ["_law_text"] (spIsPart K) := by
  refine F.ok scLawIsPart (fun vs H Q E h => ?_) (fun cdv A outer s H vs Q E hr h => ?_)
  · obtain ⟨p, rfl, _⟩ := h; rfl
  · obtain ⟨p, rfl, few, q⟩ := h
    have sz : (mkS p).length ≤ sizeLine := by rw [len_mkS, sizeLine_eq]; omega
    have no : ¬ partOk p → ∀ {D : Ends}, D.rt = Q → D.rt (.bl false) H := fun n D e => by
      rw [e]
      have := q H (Same.refl _)
      rw [decide_eq_false n] at this
      exact this
    refine ⟨_, (pss_cons (ps_set (i := 1) scLawIsPart.nd rfl (.inr rfl) pe_str)
      (pss_cons (ps_if (PW.pt (pw_or (pt_cmpR op_eq (pv 0) pe_str (nomark _)) (pw_or (pt_cmpR op_eq (pv 0) pe_str (nomark _)) (pw_or1 (pt_not (pt_chain op_le op_le pe_int (pe_callB call_len_str (by rfl) Ev.b_len PySem.boot_len (pa_cons (pv 0) pa_nil)) pe_int))))))
        (pss_one (ps_ret pe_bl))
        pss_nil)
      (pss_one (ps_ret (pe_notT (pe_lc (own := [("_law_sign", 2)]) (g := gName 2) (by rfl) scLawIsPart.nd (pi_str (pv 0)) (blkOk_by (own := [("_law_sign", 2)]) (N := nLawIsPart) (sc := defScope sLawIsPart) (by decide +kernel)) (fun _ _ _ _ _ => (pg_name (i := 2) scLawIsPart.nd rfl (.inl rfl))) (fun _ _ _ _ _ => pts_one (pt_cmpR op_notIn_sign (pv 2) (pv 1) (by rfl))) (fun _ _ _ _ _ => (pv 2)))))))), ?_⟩
    refine ⟨_, rfl, rfl, _, rfl, ite2 (fun z => iteT (no (fun k => k.2.2.1 (T_inj ((of_decide_eq_true z).trans t_dot))) rfl)) (fun z1 => ?_)⟩
    refine ⟨_, rfl, rfl, _, rfl, ite2 (fun z => iteT (no (fun k => k.2.2.2.1 (T_inj ((of_decide_eq_true z).trans t_dots))) rfl)) (fun z2 => ?_)⟩
    refine ⟨_, rfl, mkS p, rfl, sz, _, _, rfl, rfl, _, rfl, ite2 (fun z3 => ?_) (fun z3 => ⟨_, rfl, iteT (no (fun k => z3 (decide_eq_true (by rw [len_mkS]; have := k.1; omega))) rfl)⟩)⟩
    refine ⟨_, _, rfl, rfl, _, rfl, ?_⟩
    have l1 : 1 ≤ p.length := by
      have := of_decide_eq_true z3
      rw [len_mkS] at this
      omega
    by_cases l12 : p.length ≤ 12
    case neg =>
      have e : decide (((mkS p).length : Int) ≤ 12) = false := decide_eq_false (by rw [len_mkS]; omega)
      rw [e]
      exact iteT (no (fun k => l12 k.2.1) rfl)
    have e : decide (((mkS p).length : Int) ≤ 12) = true := decide_eq_true (by rw [len_mkS]; omega)
    rw [e]
    refine iteF ?_
    refine ⟨_, rfl, mkS p, rfl, fun D nD => ?_⟩
    refine lc_sign (l := p) (keep := fun c => !decide (c ∈ good)) nD (by rw [sizeLine_eq]; omega) (fun _ => rfl) (fun i c H2 R hc sm R1 => ?_) (fun c H2 R sm R1 => ⟨_, rfl, R1 _ (Same.refl _)⟩) (fun H2 sm h2 => ?_)
    · refine ⟨_, rfl, _, rfl, c, Str.ofString "abcdefghijklmnopqrstuvwxyz0123456789.-_", rfl, rfl, _, rfl, ?_⟩
      rw [t_good]
      exact R1 _ (Same.refl _)
    · refine ⟨_, .inl ⟨_, SqL.of h2, rfl⟩, ?_⟩
      have d1 : p ≠ [46] := fun k => z1 (decide_eq_true (by rw [k]; exact t_dot.symm))
      have d2 : p ≠ [46, 46] := fun k => z2 (decide_eq_true (by rw [k]; exact t_dots.symm))
      have eb : (!(!((p.filter fun c => !decide (c ∈ good)).map fun c => T [c]).isEmpty)) = decide (partOk p) := by
        rw [Bool.not_not]
        by_cases g : ∀ c ∈ p, c ∈ good
        · rw [decide_eq_true ⟨l1, l12, d1, d2, g⟩]
          have : (p.filter fun c => !decide (c ∈ good)) = [] := List.filter_eq_nil_iff.mpr fun c hc => by simp [g c hc]
          rw [this]
          rfl
        · rw [decide_eq_false fun k => g k.2.2.2.2]
          cases e3 : p.filter fun c => !decide (c ∈ good) with
          | nil =>
            exfalso
            refine g fun c hc => ?_
            have := List.filter_eq_nil_iff.mp e3 c hc
            simpa using this
          | cons x r => rfl
      rw [eb]
      exact q _ sm

/-! ### a drawn part -/
def spPart (K : PySem.W.Frag) : Sp := fun vs H Q _ => ∃ c : Int, vs = [.int c] ∧ ∀ H' p, Same H H' → partOk p → Q (T p) H'
theorem four_parts {d : Int} (h0 : 0 ≤ d) (h1 : d < 4) : ∃ p, atI [V.str "a", .str "b", .str "c.d", .str "a-b"] d = some (T p) ∧ partOk p := by
  have : d = 0 ∨ d = 1 ∨ d = 2 ∨ d = 3 := by omega
  rcases this with rfl | rfl | rfl | rfl
  · exact ⟨[97], congrArg (fun x => some (V.str x)) (show Str.ofString "a" = mkS [97] by decide +kernel), by decide⟩
  · exact ⟨[98], congrArg (fun x => some (V.str x)) (show Str.ofString "b" = mkS [98] by decide +kernel), by decide⟩
  · exact ⟨[99, 46, 100], congrArg (fun x => some (V.str x)) (show Str.ofString "c.d" = mkS [99, 46, 100] by decide +kernel), by decide⟩
  · exact ⟨[97, 45, 98], congrArg (fun x => some (V.str x)) (show Str.ofString "a-b" = mkS [97, 45, 98] by decide +kernel), by decide⟩
theorem ok_part {f : Addr} {fd : FuncData} (Ev : Env K mg) (CLawD : Cal P w K mg base "_law_d" 1 ["_law_cell_here", "_law_place", "_law_many"] spD) (F : Fun K "_law_part" "_law_part" sLawPart f fd) : FnOk P w K mg base CX0 2 f fd ["_law_cell_here"] (spPart K) := by
  refine F.ok scLawPart (fun vs H Q E h => ?_) (fun cdv A outer s H vs Q E hr h => ?_)
  · obtain ⟨c, rfl, _⟩ := h; rfl
  · obtain ⟨c, rfl, q⟩ := h
    refine ⟨_, (pss_cons (ps_if (pt_cmpR op_gt (pe_c CLawD (hr.mono (by omega)) (pa_cons (pv 0) (pa_cons pe_int (pa_cons pe_int pa_nil)))) pe_int (nomark _))
        (pss_one (ps_ret (pe_ix ix_list (pe_lst (pa_cons pe_str (pa_cons pe_str (pa_cons pe_str (pa_cons pe_str pa_nil))))) (pe_c CLawD (hr.mono (by omega)) (pa_cons (pv 0) (pa_cons pe_int (pa_cons pe_int pa_nil)))) (fun _ _ => rfl))))
        pss_nil)
      (pss_cons (ps_set (i := 1) scLawPart.nd rfl (.inl rfl) pe_str)
      (pss_cons (ps_set (i := 2) scLawPart.nd rfl (.inl rfl) pe_str)
      (pss_cons (ps_for PassesOwn.never rfl (pi_range1 (by rfl) Ev.b_range (pa_cons (pe_op op_add pe_int (pe_c CLawD (hr.mono (by omega)) (pa_cons (pv 0) (pa_cons pe_int (pa_cons pe_int pa_nil))))) pa_nil)) (pg_name (i := 3) scLawPart.nd rfl (.inl rfl))
        (pss_cons (ps_set (i := 4) scLawPart.nd rfl (.inl rfl) (pe_op op_add (pe_op op_fdiv (pv 0) pe_int) (pe_op op_mul (pv 3) (pe_op op_add (pe_c CLawD (hr.mono (by omega)) (pa_cons (pv 0) (pa_cons pe_int (pa_cons pe_int pa_nil)))) pe_int))))
        (pss_one (ps_set (i := 2) scLawPart.nd rfl (.inl rfl) (pe_op op_add_str (pv 2) (pe_ix ix_str (pv 1) (pe_op op_mod (pv 4) pe_int) (fun _ _ => rfl)))))))
      (pss_cons (ps_if (pt_cmpR op_in_seq (pv 2) (pe_tupU (pa_cons pe_str (pa_cons pe_str pa_nil))) (by rfl))
        (pss_one (ps_ret pe_str))
        pss_nil)
      (pss_one (ps_ret (pv 2)))))))), ?_⟩
    refine ⟨_, rfl, c, 1, 3, rfl, by decide, by decide, by decide, fun d d0 d1 => ⟨_, _, rfl, rfl, _, rfl, ite2 (fun _ => ?_) (fun _ => ?_)⟩⟩
    · refine ⟨(show 4 ≤ sizeLine by rw [sizeLine_eq]; decide), fun pl nl => ?_⟩
      refine ⟨_, rfl, c, 3, 4, rfl, by decide, by decide, by decide, fun d2 e0 e1 => ?_⟩
      obtain ⟨p, ap, hp⟩ := four_parts e0 e1
      exact ⟨pl, _, _, _, rfl, rfl, SqL.of upd_same, ap, q _ _ (grow nl) hp⟩
    · refine ⟨_, rfl, c, 3, 12, rfl, by decide, by decide, by decide, fun d2 e0 e1 => ⟨_, _, rfl, rfl, _, rfl, by omega, by omega, for_range (lo := 0) (fun i σ H' => ∃ (t : List Nat) (y3 y4 : Option V), σ = [some (.int c), some (T good), some (T t), y3, y4] ∧ H' = H ∧ t.length = i ∧ ∀ x ∈ t, x ∈ good) ⟨[], none, none, ?_, rfl, rfl, (fun x hx => by cases hx)⟩ (fun i σ H' hi p => ?_) (fun σ H' p => ?_)⟩⟩
      · rw [← t_none]
        show [_, some (V.str (Str.ofString "abcdefghijklmnopqrstuvwxyz0123456789.-_")), _, _, _] = _
        rw [t_good]
        rfl
      · obtain ⟨t, y3, y4, rfl, rfl, lt, gt⟩ := p
        refine ⟨_, rfl, _, 36, rfl, rfl, ⟨by decide, by decide⟩, _, rfl, _, rfl, c, 1404, 38, rfl, by decide, by decide, by decide, fun d3 f0 f1 => ⟨_, _, rfl, rfl, _, _, rfl, rfl, .inl ⟨by omega, by omega⟩, _, _, rfl, rfl, ?_⟩⟩
        obtain ⟨a0, ea⟩ : ∃ a0 : Int, a0 = c / 36 + (0 + (i : Int)) * (d3 + 1) := ⟨_, rfl⟩
        have m0 := Int.emod_nonneg a0 (show (39 : Int) ≠ 0 by decide)
        have m1 := Int.emod_lt_of_pos a0 (show (0 : Int) < 39 by decide)
        have lk : (a0 % 39).toNat < good.length := by
          show _ < 39
          omega
        have gk : good[(a0 % 39).toNat]? = some good[(a0 % 39).toNat] := List.getElem?_eq_getElem lk
        have ek : a0 % 39 = (((a0 % 39).toNat : Nat) : Int) := by omega
        have at39 : atI good (a0 % 39) = some good[(a0 % 39).toNat] := at_ofA ek gk
        refine ⟨_, rfl, _, rfl, _, rfl, _, 39, rfl, rfl, (show (0 : Int) < 39 by decide), mkS good, _, _, rfl, rfl, (by rw [len_mkS, sizeLine_eq]; decide), (by rw [← ea]; exact at39), ?_⟩
        refine ⟨mkS t, mkS [good[(a0 % 39).toNat]], rfl, rfl, ?_, ?_⟩
        · rw [len_mkS, len_mkS, sizeLine_eq]
          simp only [List.length_cons, List.length_nil]
          omega
        · refine ⟨t ++ [good[(a0 % 39).toNat]], some (.int (0 + (i : Int))), some (.int (c / 36 + (0 + (i : Int)) * (d3 + 1))), ?_, rfl, ?_, ?_⟩
          · rw [mkS_app]
            rfl
          · rw [List.length_append, lt]
            rfl
          · intro x hx
            rcases List.mem_append.mp hx with hx | hx
            · exact gt x hx
            · rw [List.mem_singleton.mp hx]
              exact List.getElem_mem lk
      · obtain ⟨t, y3, y4, rfl, rfl, lt, gt⟩ := p
        refine ⟨_, rfl, (show 2 ≤ sizeLine by rw [sizeLine_eq]; decide), fun H3 t3 s3 h3 => ?_⟩
        refine ⟨t3, _, rfl, .inr h3, rfl, rfl, _, rfl, ite2 (fun z => ?_) (fun z => ?_)⟩
        · have : (V.str (Str.ofString "x")) = T [120] := by rw [show Str.ofString "x" = mkS [120] by decide +kernel]; rfl
          have k := q _ _ s3 (show partOk [120] by decide)
          rw [← this] at k
          exact k
        · refine ⟨_, rfl, q _ _ s3 ⟨by omega, by omega, fun e => ?_, fun e => ?_, gt⟩⟩
          · refine z ?_
            show inV (T t) [V.str (Str.ofString "."), V.str (Str.ofString "..")] = true
            rw [t_dot, t_dots, e]
            decide
          · refine z ?_
            show inV (T t) [V.str (Str.ofString "."), V.str (Str.ofString "..")] = true
            rw [t_dot, t_dots, e]
            decide

/-! ### a cell of the script -/
def spCellA (K : PySem.W.Frag) : Sp := fun vs H Q _ => ∃ (a : Addr) (ns : List Int) (k : Nat), vs = [.ref a, .int (k : Int)] ∧ SqL K H a (ns.map V.int) ∧ ∀ c : Int, Q (.int c) H
theorem ok_cell {f : Addr} {fd : FuncData} (Ev : Env K mg) (F : Fun K "_law_cell" "_law_cell" sLawCell f fd) : FnOk P w K mg base CX0 1 f fd ["_law_script", "_law_k"] (spCellA K) := by
  refine F.ok scLawCell (fun vs H Q E h => ?_) (fun cdv A outer s H vs Q E hr h => ?_)
  · obtain ⟨a, ns, k, rfl, _⟩ := h; rfl
  · obtain ⟨a, ns, k, rfl, hS, q⟩ := h
    refine ⟨_, (pss_cons (ps_if (pt_cmpR op_lt (pv 1) (pe_callB call_len_seq (by rfl) Ev.b_len PySem.boot_len (pa_cons (pv 0) pa_nil)) (nomark _))
        (pss_one (ps_ret (pe_ix ix_list (pv 0) (pv 1) (fun _ _ => rfl))))
        pss_nil)
      (pss_one (ps_ret pe_int))), ?_⟩
    refine ⟨_, rfl, _, rfl, a, _, rfl, .inl hS, _, _, rfl, rfl, _, rfl, ite2 (fun z => ?_) (fun _ => q _)⟩
    have lt : k < ns.length := by
      have := of_decide_eq_true z
      rw [List.length_map] at this
      omega
    have gk : (ns.map V.int)[k]? = some (.int ns[k]) := by rw [List.getElem?_map, List.getElem?_eq_getElem lt]; rfl
    exact ⟨_, rfl, _, rfl, a, _, _, _, rfl, rfl, hS, atI_nat gk, q _⟩

/-! ### the path, by a walk -/
def badS : V := .str "BadPath"
def outS : V := .str "LeadsOut"
def ShowsC (K : PySem.W.Frag) (H : Hp) (v : V) : CRes → Prop
  | .bad => v = badS
  | .out => v = outS
  | .ok ps => ∃ t, v = .ref t ∧ SqT K H t [T (pathOf ps)]
def spClean (K : PySem.W.Frag) : Sp := fun vs H Q _ => ∃ l : List Nat, vs = [T l] ∧ l.length ≤ 1000 ∧ ∀ H' v, Same H H' → ShowsC K H' v (cleanF l) → Q v H'
theorem ok_clean {f : Addr} {fd : FuncData} (Ev : Env K mg) (CLawIsPart : Cal P w K mg base "_law_is_part" 1 ["_law_text"] (spIsPart K)) (F : Fun K "_law_clean" "_law_clean" sLawClean f fd) : FnOk P w K mg base CX0 2 f fd ["_law_text"] (spClean K) := by
  refine F.ok scLawClean (fun vs H Q E h => ?_) (fun cdv A outer s H vs Q E hr h => ?_)
  · obtain ⟨l, rfl, _⟩ := h; rfl
  · obtain ⟨l, rfl, few, q⟩ := h
    refine ⟨_, (pss_cons (ps_if (pt_val (pe_m1 PySem.F.slot_str_startswith PySem.F.type_str_startswith mt_startswith (pv 0) pe_str))
        (pss_one (ps_ret pe_str))
        pss_nil)
      (pss_cons (ps_set (i := 1) scLawClean.nd rfl (.inl rfl) (pe_lst pa_nil))
      (pss_cons (ps_for PassesOwn.never rfl (pi_list (pe_split (pv 0) pe_str)) (pg_name (i := 2) scLawClean.nd rfl (.inl rfl))
        (pss_one (ps_if (pt_cmpR op_eq (pv 2) pe_str (nomark _))
          (pss_cons (ps_if (pt_cmpR op_eq (pe_callB call_len_seq (by rfl) Ev.b_len PySem.boot_len (pa_cons (pv 1) pa_nil)) pe_int (nomark _))
            (pss_one (ps_ret pe_str))
            pss_nil)
          (pss_one (ps_set (i := 1) scLawClean.nd rfl (.inl rfl) (pe_slice sl_list (pv 1) po_none (po_some (pe_un un_neg pe_int))))))
          (pss_one (ps_if (PW.pt (pw_and (pt_cmpR op_ne (pv 2) pe_str (nomark _)) (pw_and1 (pt_cmpR op_ne (pv 2) pe_str (nomark _)))))
            (pss_cons (ps_if (pt_not (pt_val (pe_c CLawIsPart (hr.mono (by omega)) (pa_cons (pv 2) pa_nil))))
              (pss_one (ps_ret pe_str))
              pss_nil)
            (pss_one (ps_expr (pe_bm PySem.F.plainAttrs_list PySem.F.slot_list_append PySem.F.type_list_append mt_append (pv 1) (pa_cons (pv 2) pa_nil)))))
            pss_nil)))))
      (pss_cons (ps_if (PW.pt (pw_or (pt_cmpR op_eq (pe_callB call_len_seq (by rfl) Ev.b_len PySem.boot_len (pa_cons (pv 1) pa_nil)) pe_int (nomark _)) (pw_or1 (pt_cmpR op_gt (pe_callB call_len_seq (by rfl) Ev.b_len PySem.boot_len (pa_cons (pv 1) pa_nil)) pe_int (nomark _)))))
        (pss_one (ps_ret pe_str))
        pss_nil)
      (pss_one (ps_ret (pe_tupU (pa_cons (pe_join pe_str (pv 1)) pa_nil)))))))), ?_⟩
    refine ⟨_, rfl, ⟨_, rfl⟩, mkS l, Str.ofString "/", rfl, rfl, _, rfl, ?_⟩
    rw [s_slash, starts_slash]
    refine ite2 (fun z => ?_) (fun z => ?_)
    · have e : cleanF l = .out := by
        unfold cleanF
        rw [if_pos (of_decide_eq_true z)]
      rw [e] at q
      exact q _ _ (Same.refl _) rfl
    have ec : cleanF l = walkC (splitC 47 l) [] := by
      unfold cleanF
      rw [if_neg fun k => z (decide_eq_true k)]
    rw [ec] at q
    refine ⟨Nat.zero_le _, fun pk nk => ?_⟩
    refine ⟨_, rfl, ⟨_, rfl⟩, mkS l, Str.ofString "/", rfl, rfl, (by decide +kernel), (by rw [len_mkS, sizeLine_eq]; omega), fun ps nps => ?_⟩
    rw [s_slash, split_mkS 47 (by decide) l, mapT]
    have sk : Same H (upd H pk (.lst [])) := grow nk
    have sp : Same (upd H pk (.lst [])) (upd (upd H pk (.lst [])) ps (.lst ((splitC 47 l).map T))) := grow nps
    have hk0 : (upd (upd H pk (.lst [])) ps (.lst ((splitC 47 l).map T))) pk = some (.lst (([] : List (List Nat)).map T)) := sp _ _ upd_same
    have hps : (upd (upd H pk (.lst [])) ps (.lst ((splitC 47 l).map T))) ps = some (.lst ((splitC 47 l).map T)) := upd_same
    have s0 := sk.trans sp
    have nps0 : H ps = none := sk.free nps
    have ne0 : pk ≠ ps := fun e => by
      rw [← e, upd_same] at nps
      cases nps
    generalize upd (upd H pk (.lst [])) ps (.lst ((splitC 47 l).map T)) = H1 at hk0 hps s0
    have many := splitC_many 47 l
    refine ⟨ps, rfl, ⟨_, SqL.of hps⟩, for_list (xs := (splitC 47 l).map T) (fun i σ H' => ∃ (kp : Addr) (kept : List (List Nat)) (y2 : Option V), σ = [some (T l), some (.ref kp), y2] ∧ Same H H' ∧ H kp = none ∧ H' kp = some (.lst (kept.map T)) ∧ H' ps = some (.lst ((splitC 47 l).map T)) ∧ kp ≠ ps ∧ kept.length ≤ i ∧ (∀ p ∈ kept, p.length ≤ 1000) ∧ walkC ((splitC 47 l).drop i) kept = walkC (splitC 47 l) [])
      ⟨pk, [], none, rfl, s0, nk, hk0, hps, ne0, Nat.le_refl _, (fun p hp => by cases hp), rfl⟩ (fun i σ H' _ p => ?_) (fun i x σ H2 hx p => ?_) (fun σ H2 p => ?_)⟩
    · obtain ⟨_, _, _, _, _, _, _, h, _⟩ := p
      exact SqL.of h
    · obtain ⟨kp, kept, y2, rfl, sm, nkp, hkp, hps2, nep, lk, szk, wk⟩ := p
      obtain ⟨t, ht, rfl⟩ : ∃ t, (splitC 47 l)[i]? = some t ∧ x = T t := by
        rw [List.getElem?_map] at hx
        cases e : (splitC 47 l)[i]? with
        | none => rw [e] at hx; cases hx
        | some t => rw [e] at hx; exact ⟨t, rfl, (Option.some.inj hx).symm⟩
      have li : i < (splitC 47 l).length := (List.getElem?_eq_some_iff.mp ht).1
      have lt := splitC_sizes 47 l t (List.mem_of_getElem? ht)
      have dr : (splitC 47 l).drop i = t :: (splitC 47 l).drop (i + 1) := by
        rw [List.drop_eq_getElem_cons li]
        congr 1
        exact (List.getElem?_eq_some_iff.mp ht).2
      rw [dr, walkC] at wk
      have hSk : SqL K H2 kp (kept.map T) := SqL.of hkp
      refine ⟨_, rfl, rfl, _, rfl, ite2 (fun z => ?_) (fun z => ?_)⟩
      · have e : t = [46, 46] := T_inj ((of_decide_eq_true z).trans t_dots)
        rw [if_pos e] at wk
        refine ⟨_, rfl, kp, _, rfl, .inl hSk, rfl, _, rfl, ite2 (fun y => ?_) (fun y => ?_)⟩
        · have k0 : kept = [] := by
            have := V.int.inj (of_decide_eq_true y)
            rw [List.length_map] at this
            exact List.eq_nil_of_length_eq_zero (by omega)
          rw [if_pos k0] at wk
          refine q _ _ sm ?_
          rw [← wk]
          rfl
        · have k0 : kept ≠ [] := fun k => y (decide_eq_true (by rw [k]; rfl))
          rw [if_neg k0] at wk
          refine ⟨_, rfl, 1, rfl, _, rfl, kp, _, rfl, hSk, fun pn nn => ?_⟩
          have cut : cutV (kept.map T) none (some (-1)) = kept.dropLast.map T := by
            unfold cutV
            have lp : 0 < kept.length := List.length_pos_iff.mpr k0
            have ls : HT.sIx (kept.map T).length (kept.map T).length (some (-1)) = kept.length - 1 := by
              rw [List.length_map]
              show (if (-1 : Int) < 0 then (-1 + (kept.length : Int)).toNat else min (-1 : Int).toNat kept.length) = _
              rw [if_pos (by decide)]
              omega
            rw [HT.sIx_none, ls, List.drop_zero, Nat.sub_zero, List.dropLast_eq_take, List.map_take]
          rw [cut]
          have sn : Same H2 (upd H2 pn (.lst (kept.dropLast.map T))) := grow nn
          have nep2 : pn ≠ ps := fun e => by
            rw [e, hps2] at nn
            cases nn
          refine ⟨pn, kept.dropLast, _, rfl, sm.trans sn, sm.free nn, upd_same, sn _ _ hps2, nep2, ?_, fun p hp => szk p ((List.dropLast_sublist _).mem hp), wk⟩
          rw [List.length_dropLast]
          omega
      · have e : t ≠ [46, 46] := fun k => z (decide_eq_true (by rw [k]; exact t_dots.symm))
        rw [if_neg e] at wk
        refine if_by2 (¬ (t = [] ∨ t = [46])) (t = [] ∨ t = [46]) (fun nsk => ?_) (fun sk => ?_) (fun go => ⟨_, rfl, rfl, _, rfl, ite2 (fun y => ⟨_, rfl, rfl, _, rfl, go _ (fun k => ?_) (fun k => ?_)⟩) (fun y => go false (fun k => nomatch k) fun _ => .inl ?_)⟩)
        · rw [if_neg nsk] at wk
          refine ⟨_, rfl, t, rfl, by omega, fun H3 s3 => ⟨_, rfl, ite2 (fun v => ?_) (fun v => ?_)⟩⟩
          · have np : ¬ partOk t := fun k => by
              rw [decide_eq_true k] at v
              cases v
            rw [if_neg np] at wk
            refine q _ _ (sm.trans s3) ?_
            rw [← wk]
            rfl
          · have pt : partOk t := by
              by_cases k : partOk t
              · exact k
              · rw [decide_eq_false k] at v
                exact absurd rfl v
            rw [if_pos pt] at wk
            have hk3 := s3 _ _ hkp
            refine ⟨_, rfl, .inl ⟨rfl, _, SqL.of hk3⟩, _, rfl, kp, _, _, rfl, rfl, hk3, ?_, kp, kept ++ [t], _, rfl, keep_lst (sm.trans s3) nkp, nkp, ?_, ?_, nep, ?_, ?_, wk⟩
            · rw [List.length_map, sizeLine_eq]
              omega
            · rw [upd_same, List.map_append]
              rfl
            · rw [upd_ne nep.symm]
              exact s3 _ _ hps2
            · rw [List.length_append]
              simp only [List.length_cons, List.length_nil]
              omega
            · intro p hp
              rcases List.mem_append.mp hp with hp | hp
              · exact szk p hp
              · rw [List.mem_singleton.mp hp]
                omega
        · rw [if_pos sk] at wk
          exact ⟨kp, kept, _, rfl, sm, nkp, hkp, hps2, nep, by omega, szk, wk⟩
        · intro bad
          rcases bad with bad | bad
          · rw [bad, show decide (T [] = V.str (Str.ofString "")) = true from decide_eq_true t_none.symm] at y
            cases y
          · rw [bad, show decide (T [46] = V.str (Str.ofString ".")) = true from decide_eq_true t_dot.symm] at k
            cases k
        · refine .inr ?_
          have : decide (T t = V.str (Str.ofString ".")) = true := by
            cases h : decide (T t = V.str (Str.ofString ".")) with
            | true => rfl
            | false => rw [h] at k; cases k
          exact T_inj ((of_decide_eq_true this).trans t_dot)
        · have : decide (T t = V.str (Str.ofString "")) = true := by
            cases h : decide (T t = V.str (Str.ofString "")) with
            | true => rfl
            | false => rw [h] at y; exact absurd rfl y
          exact T_inj ((of_decide_eq_true this).trans t_none)
    · obtain ⟨kp, kept, y2, rfl, sm, nkp, hkp, hps2, nep, lk, szk, wk⟩ := p
      rw [List.length_map, List.drop_length, walkC] at wk
      have hSk : SqL K H2 kp (kept.map T) := SqL.of hkp
      dsimp only
      refine seq_if2 (kept = [] ∨ 8 < kept.length) (¬ (kept = [] ∨ 8 < kept.length)) (fun b => ?_) (fun nb => ?_) (fun go => ⟨_, rfl, kp, _, rfl, .inl hSk, rfl, _, rfl, ite2 (fun y => go true (fun _ => .inl ?_) fun k => nomatch k) (fun y => ⟨_, rfl, kp, _, rfl, .inl hSk, _, _, rfl, rfl, _, rfl, go _ (fun k => .inr ?_) (fun k => ?_)⟩)⟩)
      · rw [if_pos b] at wk
        refine q _ _ sm ?_
        rw [← wk]
        rfl
      · rw [if_neg nb] at wk
        have l8 : kept.length ≤ 8 := by
          by_cases k : kept.length ≤ 8
          · exact k
          · exact absurd (.inr (by omega)) nb
        have sz : ∀ (ks : List (List Nat)), (∀ p ∈ ks, p.length ≤ 1000) → ((ks.map mkS).map (·.length)).sum ≤ ks.length * 1000 := by
          intro ks
          induction ks with
          | nil => intro _; exact Nat.le_refl _
          | cons x r ih =>
            intro h
            have h1 := h x (by simp)
            have h2 := ih fun p hp => h p (List.mem_cons_of_mem _ hp)
            rw [List.map_cons, List.map_cons, List.sum_cons, len_mkS, List.length_cons, Nat.add_mul, Nat.one_mul]
            omega
        have s8 := sz kept szk
        refine ⟨⟨_, rfl⟩, _, rfl, Str.ofString "/", kp, kept.map mkS, rfl, rfl, .inl (by rw [mapT]; exact hSk), ?_, (show 1 ≤ sizeLine by rw [sizeLine_eq]; decide), fun H3 t3 s3 h3 => q _ _ (sm.trans s3) ?_⟩
        · have e1 : (Str.ofString "/").length = 1 := by decide +kernel
          rw [e1, List.length_map]
          omega
        · rw [← wk]
          refine ⟨t3, rfl, ?_⟩
          rw [s_slash, join_mkS] at h3
          exact h3
      · have := V.int.inj (of_decide_eq_true y)
        rw [List.length_map] at this
        exact List.eq_nil_of_length_eq_zero (by omega)
      · have := of_decide_eq_true k
        rw [List.length_map] at this
        omega
      · intro bad
        rcases bad with bad | bad
        · exact y (decide_eq_true (by rw [bad]; rfl))
        · have h : decide ((8 : Int) < ((kept.map T).length : Int)) = true := decide_eq_true (by rw [List.length_map]; omega)
          rw [h] at k
          cases k

/-! ### a piece of a text -/
theorem lit {p : List Nat} (x : String) (h : Str.ofString x = mkS p) : V.str (Str.ofString x) = T p := congrArg V.str h
theorem eight_pieces {d : Int} (h0 : 0 ≤ d) (h1 : d < 8) : ∃ p, atI [V.str "", .str ".", .str "..", .str "...", .str "..", .str "-.", .str "a.", .str "abcdefghijklm"] d = some (T p) ∧ p.length ≤ 13 := by
  have : d = 0 ∨ d = 1 ∨ d = 2 ∨ d = 3 ∨ d = 4 ∨ d = 5 ∨ d = 6 ∨ d = 7 := by omega
  rcases this with rfl | rfl | rfl | rfl | rfl | rfl | rfl | rfl
  · exact ⟨[], congrArg some (lit "" (by decide +kernel)), by decide⟩
  · exact ⟨[46], congrArg some (lit "." (by decide +kernel)), by decide⟩
  · exact ⟨[46, 46], congrArg some (lit ".." (by decide +kernel)), by decide⟩
  · exact ⟨[46, 46, 46], congrArg some (lit "..." (by decide +kernel)), by decide⟩
  · exact ⟨[46, 46], congrArg some (lit ".." (by decide +kernel)), by decide⟩
  · exact ⟨[45, 46], congrArg some (lit "-." (by decide +kernel)), by decide⟩
  · exact ⟨[97, 46], congrArg some (lit "a." (by decide +kernel)), by decide⟩
  · exact ⟨[97, 98, 99, 100, 101, 102, 103, 104, 105, 106, 107, 108, 109], congrArg some (lit "abcdefghijklm" (by decide +kernel)), by decide⟩
def spPiece (K : PySem.W.Frag) : Sp := fun vs H Q _ => ∃ c : Int, vs = [.int c] ∧ ∀ H' p, Same H H' → p.length ≤ 13 → Q (T p) H'
theorem ok_piece {f : Addr} {fd : FuncData} (Ev : Env K mg) (CLawD : Cal P w K mg base "_law_d" 1 ["_law_cell_here", "_law_place", "_law_many"] spD) (CLawPart : Cal P w K mg base "_law_part" 2 ["_law_cell_here"] (spPart K)) (F : Fun K "_law_piece" "_law_piece" sLawPiece f fd) : FnOk P w K mg base CX0 3 f fd ["_law_cell_here"] (spPiece K) := by
  refine F.ok scLawPiece (fun vs H Q E h => ?_) (fun cdv A outer s H vs Q E hr h => ?_)
  · obtain ⟨c, rfl, _⟩ := h; rfl
  · obtain ⟨c, rfl, q⟩ := h
    refine ⟨_, (pss_cons (ps_if (pt_cmpR op_eq (pe_c CLawD (hr.mono (by omega)) (pa_cons (pv 0) (pa_cons pe_int (pa_cons pe_int pa_nil)))) pe_int (nomark _))
        (pss_one (ps_ret (pe_ix ix_list (pe_lst (pa_cons pe_str (pa_cons pe_str (pa_cons pe_str (pa_cons pe_str (pa_cons pe_str (pa_cons pe_str (pa_cons pe_str (pa_cons pe_str pa_nil))))))))) (pe_c CLawD (hr.mono (by omega)) (pa_cons (pv 0) (pa_cons pe_int (pa_cons pe_int pa_nil)))) (fun _ _ => rfl))))
        pss_nil)
      (pss_cons (ps_set (i := 1) scLawPiece.nd rfl (.inl rfl) (pe_c CLawPart (hr.mono (by omega)) (pa_cons (pe_op op_fdiv (pv 0) pe_int) pa_nil)))
      (pss_cons (ps_if (pt_cmpR op_eq (pe_c CLawD (hr.mono (by omega)) (pa_cons (pv 0) (pa_cons pe_int (pa_cons pe_int pa_nil)))) pe_int (nomark _))
        (pss_cons (ps_set (i := 2) scLawPiece.nd rfl (.inl rfl) pe_str)
        (pss_cons (ps_set (i := 3) scLawPiece.nd rfl (.inl rfl) (pe_c CLawD (hr.mono (by omega)) (pa_cons (pv 0) (pa_cons pe_int (pa_cons (pe_op op_add (pe_callB call_len_str (by rfl) Ev.b_len PySem.boot_len (pa_cons (pv 1) pa_nil)) pe_int) pa_nil)))))
        (pss_one (ps_ret (pe_op op_add_str (pe_op op_add_str (pe_slice sl_str (pv 1) po_none (po_some (pv 3))) (pe_ix ix_str (pv 2) (pe_c CLawD (hr.mono (by omega)) (pa_cons (pv 0) (pa_cons pe_int (pa_cons (pe_callB call_len_str (by rfl) Ev.b_len PySem.boot_len (pa_cons (pv 2) pa_nil)) pa_nil)))) (fun _ _ => rfl))) (pe_slice sl_str (pv 1) (po_some (pv 3)) po_none))))))
        pss_nil)
      (pss_one (ps_ret (pv 1)))))), ?_⟩
    refine ⟨_, rfl, c, 1, 4, rfl, by decide, by decide, by decide, fun d d0 d1 => ⟨rfl, _, rfl, ite2 (fun _ => ?_) (fun _ => ?_)⟩⟩
    · refine ⟨(show 8 ≤ sizeLine by rw [sizeLine_eq]; decide), fun pl nl => ?_⟩
      refine ⟨_, rfl, c, 4, 8, rfl, by decide, by decide, by decide, fun d2 e0 e1 => ?_⟩
      obtain ⟨p, ap, hp⟩ := eight_pieces e0 e1
      exact ⟨pl, _, _, _, rfl, rfl, SqL.of upd_same, ap, q _ _ (grow nl) hp⟩
    · refine ⟨_, rfl, _, 4, rfl, rfl, ⟨by decide, by decide⟩, _, rfl, fun H2 p s2 hp => ?_⟩
      have l12 := hp.2.1
      have sz : (mkS p).length ≤ sizeLine := by rw [len_mkS, sizeLine_eq]; omega
      refine ⟨_, rfl, c, 1, 17, rfl, by decide, by decide, by decide, fun d3 f0 f1 => ⟨rfl, _, rfl, ite2 (fun _ => ?_) (fun _ => ⟨_, rfl, q _ _ s2 (by omega)⟩)⟩⟩
      obtain ⟨sg, esg⟩ : ∃ sg : List Nat, Str.ofString " !\"#$&'()*+,-.0123456789:;<=>?@AMZ[\\]^_`amz{|}~" = mkS sg := ⟨_, (mkS_tl _).symm⟩
      have lsg : (mkS sg).length = 47 := by rw [← esg]; decide +kernel
      refine ⟨_, rfl, _, rfl, mkS p, rfl, sz, _, _, rfl, rfl, c, 68, _, rfl, by decide, by decide, by omega, fun d4 g0 g1 => ?_⟩
      obtain ⟨k, rfl⟩ : ∃ k : Nat, d4 = (k : Int) := ⟨d4.toNat, by omega⟩
      refine ⟨_, rfl, _, rfl, (k : Int), rfl, mkS p, rfl, sz, ?_⟩
      rw [cutS_to]
      refine ⟨_, rfl, _, rfl, _, rfl, mkS sg, congrArg (fun x => [V.str x]) esg, by rw [lsg, sizeLine_eq]; decide, c, 884, _, rfl, by decide, by decide, by rw [lsg]; decide, fun d5 h0 h1 => ?_⟩
      rw [lsg] at h1
      rw [len_mkS] at lsg
      obtain ⟨k5, rfl⟩ : ∃ k : Nat, d5 = (k : Int) := ⟨d5.toNat, by omega⟩
      have k5l : k5 < sg.length := by omega
      refine ⟨mkS sg, _, _, congrArg V.str esg, rfl, by rw [len_mkS, lsg, sizeLine_eq]; decide, atI_nat (List.getElem?_eq_getElem k5l), ?_⟩
      refine ⟨mkS (p.take k), mkS [sg[k5]], rfl, rfl, ?_, ?_⟩
      · rw [len_mkS, len_mkS, List.length_take, sizeLine_eq]
        simp only [List.length_cons, List.length_nil]
        omega
      rw [mkS_app]
      refine ⟨_, rfl, _, rfl, (k : Int), rfl, mkS p, rfl, sz, ?_⟩
      rw [cutS_from]
      refine ⟨_, _, rfl, rfl, ?_, ?_⟩
      · rw [len_mkS, len_mkS, List.length_append, List.length_take, List.length_drop, sizeLine_eq]
        simp only [List.length_cons, List.length_nil]
        omega
      · rw [mkS_app]
        refine q _ _ s2 ?_
        rw [List.length_append, List.length_append, List.length_take, List.length_drop]
        simp only [List.length_cons, List.length_nil]
        omega

/-! ### the program's parts and paths -/
def signs : List Nat := [97, 98, 99, 100, 101, 102, 103, 104, 105, 106, 107, 108, 109, 110, 111, 112, 113, 114, 115, 116, 117, 118, 119, 120, 121, 122, 48, 49, 50, 51, 52, 53, 54, 55, 56, 57, 95, 45, 46]
theorem t_signs : Str.ofString "abcdefghijklmnopqrstuvwxyz0123456789_-." = mkS signs := by decide +kernel
theorem signs_good : (∀ c ∈ signs, c ∈ good) ∧ ∀ c ∈ good, c ∈ signs := by decide
def spIsP (K : PySem.W.Frag) (ps : List Addr) : Sp := fun vs H Q _ => ∃ p : List Nat, vs = [T p] ∧ p.length ≤ 100000 ∧ Tabs ps H ∧ ∀ H', Same H H' → Q (.bl (decide (partOk p))) H'
theorem ok_isP {f : Addr} {fd : FuncData} {c pp : Addr} {tb : List Addr} (Ev : Env K mg) (TB : GxR.TabB base mg c pp) (hpp : pp ∈ tb) (F : FunC K "is_part" "is_part" sIsPart f fd c) : FnOk P w K mg base CX0 3 f fd ["text"] (spIsP K tb) := by
  refine F.ok scIsPart (fun vs H Q E h => ?_) (fun A outer s H vs Q E hr h => ?_)
  · obtain ⟨p, rfl, _⟩ := h; rfl
  · obtain ⟨p, rfl, few, tabs, q⟩ := h
    have sz : (mkS p).length ≤ sizeLine := by rw [len_mkS, sizeLine_eq]; omega
    have no : ¬ partOk p → Q (.bl false) H := fun n => by
      have := q H (Same.refl _)
      rw [decide_eq_false n] at this
      exact this
    refine ⟨_, (pss_cons (ps_if (PW.pt (pw_or (pt_cmpR op_eq (pv 0) pe_str (nomark _)) (pw_or1 (pt_cmpR op_eq (pv 0) pe_str (nomark _)))))
        (pss_one (ps_ret pe_bl))
        pss_nil)
      (pss_one (ps_ret (pe_and (pe_chain op_le op_le pe_int (pe_callB call_len_str (by rfl) Ev.b_len PySem.boot_len (pa_cons (pv 0) pa_nil)) (pe_globI (by rfl) Ev.g_MOST_SIGNS)) (pe_one (pe_allG (own := [("sign", 1)]) (g := gName 1) (tt := tYes) (k := 0) (hr.mono (by omega)) (by rfl) Ev.b_all (by decide +kernel) TB rfl scIsPart.nd (blkOk_by (own := [("sign", 1)]) (N := nIsPart) (sc := defScope sIsPart) (by decide +kernel)) ⟨rfl, by decide, rfl⟩ (pi_str (pv 0)) (fun _ _ _ _ _ _ _ => (pg_name (i := 1) scIsPart.nd rfl (.inl rfl))) (fun _ _ _ _ _ _ _ hr => pts_nil) (fun _ _ _ _ _ _ _ hr => (pe_cmpR op_in_sign (pv 1) (pe_globS (by rfl) Ev.g_SIGNS) (by rfl))) (by intro _; rfl))))))), ?_⟩
    refine ⟨_, rfl, rfl, _, rfl, ite2 (fun z => iteT (no fun k => k.2.2.1 (T_inj ((of_decide_eq_true z).trans t_dot)))) (fun z1 => ?_)⟩
    refine ⟨_, rfl, rfl, _, rfl, ite2 (fun z => no fun k => k.2.2.2.1 (T_inj ((of_decide_eq_true z).trans t_dots))) (fun z2 => ?_)⟩
    refine ⟨_, rfl, mkS p, rfl, sz, _, _, rfl, rfl, _, rfl, ite2 (fun z3 => ?_) (fun z3 => ⟨_, rfl, iteF (no fun k => z3 (decide_eq_true (by rw [len_mkS]; have := k.1; omega)))⟩)⟩
    refine ⟨_, _, rfl, rfl, _, rfl, ?_⟩
    have l1 : 1 ≤ p.length := by
      have := of_decide_eq_true z3
      rw [len_mkS] at this
      omega
    by_cases l12 : p.length ≤ 12
    case neg =>
      have e : decide (((mkS p).length : Int) ≤ 12) = false := decide_eq_false (by rw [len_mkS]; omega)
      rw [e]
      exact iteF (no fun k => l12 k.2.1)
    have e : decide (((mkS p).length : Int) ≤ 12) = true := decide_eq_true (by rw [len_mkS]; omega)
    rw [e]
    refine iteT ⟨_, rfl, mkS p, rfl, tabs pp hpp, fun H2 t2 => ?_⟩
    have s2 : Same H H2 := same_tab (tabs pp hpp) t2
    refine gw_sign (l := p) (fun c => decide (c ∈ signs)) (fun _ => rfl) (fun i c H3 R hc s3 r => ?_) (fun H3 s3 => ?_)
    · refine ⟨_, rfl, c, Str.ofString "abcdefghijklmnopqrstuvwxyz0123456789_-.", rfl, rfl, ?_⟩
      rw [t_signs]
      exact r _ (Same.refl _)
    · have d1 : p ≠ [46] := fun k => z1 (decide_eq_true (by rw [k]; exact t_dot.symm))
      have d2 : p ≠ [46, 46] := fun k => z2 (decide_eq_true (by rw [k]; exact t_dots.symm))
      have eb : (p.all fun c => decide (c ∈ signs)) = decide (partOk p) := by
        by_cases g : ∀ c ∈ p, c ∈ good
        · rw [decide_eq_true ⟨l1, l12, d1, d2, g⟩]
          exact List.all_eq_true.mpr fun c hc => decide_eq_true (signs_good.2 c (g c hc))
        · rw [decide_eq_false fun k => g k.2.2.2.2]
          cases e3 : p.all fun c => decide (c ∈ signs) with
          | false => rfl
          | true => exact absurd (fun c hc => signs_good.1 c (of_decide_eq_true (List.all_eq_true.mp e3 c hc))) g
      rw [eb]
      exact q _ (s2.trans s3)
def RowT (l : List Nat) : Prop := (splitC 47 l).length ≤ 8 ∧ ∀ p ∈ splitC 47 l, partOk p
instance (l : List Nat) : Decidable (RowT l) := by
  unfold RowT
  infer_instance
def spRow (K : PySem.W.Frag) (mg : Str → Option Value) (ps : List Addr) : Sp := fun vs H Q _ => ∃ (l : List Nat) (f : Addr), vs = [T l, .ref f] ∧ mg "is_part" = some (.ref f) ∧ l.length ≤ 20000 ∧ Tabs ps H ∧ ∀ H', Same H H' → Q (.bl (decide (RowT l))) H'
theorem ok_row {f : Addr} {fd : FuncData} {c pp : Addr} {tb : List Addr} (Ev : Env K mg) (TB : GxR.TabB base mg c pp) (hpp : pp ∈ tb) (CIsPart : Cal P w K mg base "is_part" 3 ["text"] (spIsP K tb)) (F : FunC K "is_row_of" "is_row_of" sIsRowOf f fd c) : FnOk P w K mg base CX0 6 f fd ["thing", "is_right"] (spRow K mg tb) := by
  obtain ⟨f0, fd0, Fis_right, m0, kis_right, bis_right⟩ := CIsPart.ex
  refine F.ok scIsRowOf (fun vs H Q E h => ?_) (fun A outer s H vs Q E hr h => ?_)
  · obtain ⟨l, g, rfl, _⟩ := h; rfl
  · obtain ⟨l, g, rfl, hm, few, tabs, q⟩ := h
    have eg : g = f0 := by
      have := hm.symm.trans m0
      cases this
      rfl
    subst eg
    refine ⟨_, (pss_cons (ps_if (pt_not (pt_val (pe_callB call_isi (by rfl) Ev.b_isinstance (by decide +kernel) (pa_cons (pv 0) (pa_cons (pe_btype (n := "str") (by rfl) Ev.b_str (by decide +kernel)) pa_nil)))))
        (pss_one (ps_ret pe_bl))
        pss_nil)
      (pss_cons (ps_set (i := 2) scIsRowOf.nd rfl (.inl rfl) (pe_split (pv 0) pe_str))
      (pss_one (ps_ret (pe_and (pe_cmpR op_le (pe_callB call_len_seq (by rfl) Ev.b_len PySem.boot_len (pa_cons (pv 2) pa_nil)) (pe_globI (by rfl) Ev.g_MOST_PARTS) (nomark _)) (pe_one (pe_allG (own := [("piece", 3)]) (g := gName 3) (tt := tYes) (k := 3) (hr.mono (by omega)) (by rfl) Ev.b_all (by decide +kernel) TB rfl scIsRowOf.nd (blkOk_by (own := [("piece", 3)]) (N := nIsRowOf) (sc := defScope sIsRowOf) (by decide +kernel)) ⟨rfl, by decide, rfl⟩ (pi_list (pv 2)) (fun _ _ _ _ _ _ _ => (pg_name (i := 3) scIsRowOf.nd rfl (.inl rfl))) (fun _ _ _ _ _ _ _ hr => pts_nil) (fun _ _ _ _ _ _ _ hr => (pe_callL (i := 1) (dvs := []) (E := E0) Fis_right (hr.mono (by omega)) rfl (.inr (.inr rfl)) kis_right bis_right .nil pass0 (pa_cons (pv 3) pa_nil))) (by intro _; rfl)))))))), ?_⟩
    have many := splitC_many 47 l
    refine ⟨.str _, rfl, _, _, _, _, true, rfl, .ty "str", .base (.str _), k_ss, true, rfl, iteF ?_⟩
    refine ⟨_, rfl, ⟨_, rfl⟩, mkS l, Str.ofString "/", rfl, rfl, (by decide +kernel), (by rw [len_mkS, sizeLine_eq]; omega), fun p1 n1 => ?_⟩
    rw [s_slash, split_mkS 47 (by decide) l, mapT]
    have s1 : Same H (upd H p1 (.lst ((splitC 47 l).map T))) := grow n1
    have h1 : (upd H p1 (.lst ((splitC 47 l).map T))) p1 = some (.lst ((splitC 47 l).map T)) := upd_same
    generalize upd H p1 (.lst ((splitC 47 l).map T)) = H1 at s1 h1
    refine ⟨_, rfl, p1, _, rfl, .inl (SqL.of h1), _, _, rfl, rfl, _, rfl, ite2 (fun z => ?_) (fun z => ?_)⟩
    · have z' := of_decide_eq_true z
      rw [List.length_map] at z'
      refine ⟨_, rfl, p1, rfl, ⟨_, SqL.of h1⟩, (tabs.keep s1) pp hpp, fun H2 t2 => ?_⟩
      have s2 : Same H1 H2 := same_tab ((tabs.keep s1) pp hpp) t2
      refine gw_list (xs := (splitC 47 l).map T) (fun v => match v with | .str x => decide (partOk (TL.tl x)) | _ => false) (SqL.of (s2 _ _ h1)) (fun _ => rfl) (fun i x H3 R hx s3 r => ?_) (fun H3 s3 => ?_)
      · obtain ⟨p, hp, rfl⟩ : ∃ p, (splitC 47 l)[i]? = some p ∧ x = T p := by
          rw [List.getElem?_map] at hx
          cases e : (splitC 47 l)[i]? with
          | none => rw [e] at hx; cases hx
          | some t => rw [e] at hx; exact ⟨t, rfl, (Option.some.inj hx).symm⟩
        have lp := splitC_sizes 47 l p (List.mem_of_getElem? hp)
        exact ⟨rfl, _, rfl, p, rfl, by omega, tabs.keep (s1.trans (s2.trans s3)), fun H' s' => r _ s'⟩
      · have eb : (((splitC 47 l).map T).all fun v => match v with | .str x => decide (partOk (TL.tl x)) | _ => false) = decide (RowT l) := by
          rw [List.all_map]
          by_cases g : ∀ p ∈ splitC 47 l, partOk p
          · rw [decide_eq_true ⟨by omega, g⟩]
            exact List.all_eq_true.mpr fun p hp => decide_eq_true (g p hp)
          · rw [decide_eq_false fun k => g k.2]
            cases e3 : (splitC 47 l).all _ with
            | false => rfl
            | true => exact absurd (fun p hp => of_decide_eq_true (List.all_eq_true.mp e3 p hp)) g
        rw [eb]
        exact q _ (s1.trans (s2.trans s3))
    · have z' : ¬ (((splitC 47 l).map T).length : Int) ≤ 8 := fun k => z (decide_eq_true k)
      rw [List.length_map] at z'
      have := q _ s1
      rw [decide_eq_false fun k => z' (by have := k.1; omega)] at this
      exact this
def spIsPathP (K : PySem.W.Frag) (ps : List Addr) : Sp := fun vs H Q _ => ∃ l : List Nat, vs = [T l] ∧ l.length ≤ 20000 ∧ Tabs ps H ∧ ∀ H', Same H H' → Q (.bl (decide (RowT l))) H'
theorem ok_isPath {f : Addr} {fd : FuncData} {tb : List Addr} (Ev : Env K mg) (CIsRowOf : Cal P w K mg base "is_row_of" 6 ["thing", "is_right"] (spRow K mg tb)) (CIsPart : Cal P w K mg base "is_part" 3 ["text"] (spIsP K tb)) (F : Fun K "is_path" "is_path" sIsPath f fd) : FnOk P w K mg base CX0 7 f fd ["thing"] (spIsPathP K tb) := by
  refine F.ok scIsPath (fun vs H Q E h => ?_) (fun cdv A outer s H vs Q E hr h => ?_)
  · obtain ⟨l, rfl, _⟩ := h; rfl
  · obtain ⟨l, rfl, few, tabs, q⟩ := h
    refine ⟨_, (pss_one (ps_ret (pe_c CIsRowOf (hr.mono (by omega)) (pa_cons (pv 0) (pa_cons (pe_defV CIsPart) pa_nil))))), ?_⟩
    exact ⟨_, rfl, fun g hg => ⟨l, g, rfl, hg, few, tabs, q⟩⟩

/-! ### the program's clean -/
def spKeep (K : PySem.W.Frag) (ps : List Addr) (cB cL : Addr) : Sp := fun vs H Q E => ∃ (kp : Addr) (kept : List (List Nat)) (p : List Nat), vs = [.ref kp, T p] ∧ H kp = some (.lst (kept.map T)) ∧ kept.length ≤ 10000 ∧ p.length ≤ 10000 ∧ Tabs ps H ∧
  (p = [46, 46] → kept = [] → E (.ref cL) none H) ∧ (p = [46, 46] → kept ≠ [] → Q .non (upd H kp (.lst (kept.dropLast.map T)))) ∧ (p = [] ∨ p = [46] → Q .non H) ∧ (partOk p → ∀ H1, Same H H1 → Q .non (upd H1 kp (.lst ((kept ++ [p]).map T)))) ∧
  (p ≠ [46, 46] → ¬ (p = [] ∨ p = [46]) → ¬ partOk p → ∀ H1, Same H H1 → E (.ref cB) none H1)
theorem ok_keep {f : Addr} {fd : FuncData} {tb : List Addr} (Ev : Env K mg) (Ex : Excs K mg e_BadPath e_LeadsOut) (CIsPart : Cal P w K mg base "is_part" 3 ["text"] (spIsP K tb)) (F : Fun K "keep_piece" "keep_piece" sKeepPiece f fd) : FnOk P w K mg base (L2.CX P w) 4 f fd ["kept", "piece"] (spKeep K tb e_BadPath e_LeadsOut) := by
  refine F.okX scKeepPiece (fun vs H Q E h => ?_) (fun cdv A outer s H vs Q E hr h => ?_)
  · obtain ⟨kp, kept, p, rfl, _⟩ := h; rfl
  · obtain ⟨kp, kept, p, rfl, hk, lk, lp, tabs, h1, h2, h3, h4, h5⟩ := h
    refine ⟨_, (pss_cons (ps_if (PW.pt (pw_or (pt_cmpR op_eq (pv 1) pe_str (nomark _)) (pw_or1 (pt_cmpR op_eq (pv 1) pe_str (nomark _)))))
        (pss_one (ps_retN))
        pss_nil)
      (pss_cons (ps_if (pt_cmpR op_eq (pv 1) pe_str (nomark _))
        (pss_cons (ps_if (pt_not (pt_truth (pv 0) (by intro _; rfl)))
          (pss_one (ps_raiseC (W := fun cls d _ H => E cls d H) rfl (takes_of rfl rfl rfl rfl) Ex.LeadsOut))
          pss_nil)
        (pss_cons (ps_expr (pe_bm0 PySem.F.plainAttrs_list PySem.F.slot_list_pop PySem.F.type_list_pop mt_pop (pv 0)))
        (pss_one (ps_retN))))
        pss_nil)
      (pss_cons (ps_if (pt_not (pt_val (pe_c CIsPart (hr.mono (by omega)) (pa_cons (pv 1) pa_nil))))
        (pss_one (ps_raiseC (W := fun cls d _ H => E cls d H) rfl (takes_of rfl rfl rfl rfl) Ex.BadPath))
        pss_nil)
      (pss_one (ps_expr (pe_bm PySem.F.plainAttrs_list PySem.F.slot_list_append PySem.F.type_list_append mt_append (pv 0) (pa_cons (pv 1) pa_nil))))))), ?_⟩
    refine ⟨_, rfl, rfl, _, rfl, ite2 (fun z => iteT (h3 (.inl (T_inj ((of_decide_eq_true z).trans t_none))))) (fun z1 => ?_)⟩
    refine ⟨_, rfl, rfl, _, rfl, ite2 (fun z => h3 (.inr (T_inj ((of_decide_eq_true z).trans t_dot)))) (fun z2 => ?_)⟩
    have n0 : ¬ (p = [] ∨ p = [46]) := fun k => by
      rcases k with k | k
      · exact z1 (decide_eq_true (by rw [k]; exact t_none.symm))
      · exact z2 (decide_eq_true (by rw [k]; exact t_dot.symm))
    refine ⟨_, rfl, rfl, _, rfl, ite2 (fun z => ?_) (fun z => ?_)⟩
    · have ep : p = [46, 46] := T_inj ((of_decide_eq_true z).trans t_dots)
      refine ⟨_, rfl, _, .inl ⟨_, SqL.of hk, rfl⟩, ?_⟩
      cases kept with
      | nil => exact iteT (h1 ep rfl)
      | cons x r =>
        obtain ⟨y, hy⟩ : ∃ y, (x :: r)[(x :: r).length - 1]? = some y := ⟨(x :: r)[(x :: r).length - 1]'(by rw [List.length_cons]; omega), List.getElem?_eq_getElem _⟩
        refine iteF ⟨_, rfl, .inl ⟨rfl, _, SqL.of hk⟩, kp, _, T y, rfl, rfl, hk, ?_, ?_⟩
        · rw [List.length_map, List.getElem?_map, hy]
          rfl
        · have := h2 ep (by simp)
          rw [List.map_dropLast] at this
          exact this
    · have np : p ≠ [46, 46] := fun k => z (decide_eq_true (by rw [k]; exact t_dots.symm))
      refine ⟨_, rfl, p, rfl, by omega, tabs, fun H1 s1 => ⟨_, rfl, ?_⟩⟩
      by_cases g : partOk p
      · rw [decide_eq_true g]
        have hk1 := s1 _ _ hk
        refine iteF ⟨_, rfl, .inl ⟨rfl, _, SqL.of hk1⟩, _, rfl, kp, _, _, rfl, rfl, hk1, by rw [List.length_map, sizeLine_eq]; omega, ?_⟩
        have := h4 g H1 s1
        rw [List.map_append] at this
        exact this
      · rw [decide_eq_false g]
        exact iteT (h5 np n0 g H1 s1)
def spClnT (K : PySem.W.Frag) (ps : List Addr) (cB cL : Addr) : Sp := fun vs H Q E => ∃ l : List Nat, vs = [T l] ∧ l.length ≤ 1000 ∧ Tabs ps H ∧ OutC K cB cL H Q E (cleanF l)
theorem row_kept {kept : List (List Nat)} (h : ∀ p ∈ kept, partOk p) : RowT (pathOf kept) ↔ ¬ (kept = [] ∨ 8 < kept.length) := by
  unfold RowT
  by_cases z : kept = []
  · subst z
    refine ⟨fun k => ?_, fun k => absurd (.inl rfl) k⟩
    have := k.2 [] (by decide)
    exact absurd this.1 (by decide)
  · rw [show splitC 47 (pathOf kept) = kept from split_joinC 47 z fun p k => no_stroke (h p k)]
    exact ⟨fun k q => by rcases q with q | q; exact z q; exact absurd k.1 (by omega), fun k => ⟨by have : ¬ 8 < kept.length := fun q => k (.inr q); omega, h⟩⟩
theorem ok_cln {f : Addr} {fd : FuncData} {tb : List Addr} (Ev : Env K mg) (Ex : Excs K mg e_BadPath e_LeadsOut) (CKeepPiece : CalX P w K mg base "keep_piece" 4 ["kept", "piece"] (spKeep K tb e_BadPath e_LeadsOut)) (CIsPath : Cal P w K mg base "is_path" 7 ["thing"] (spIsPathP K tb)) (F : Fun K "clean" "clean" sClean f fd) : FnOk P w K mg base (L2.CX P w) 8 f fd ["text"] (spClnT K tb e_BadPath e_LeadsOut) := by
  refine F.okX scClean (fun vs H Q E h => ?_) (fun cdv A outer s H vs Q E hr h => ?_)
  · obtain ⟨l, rfl, _⟩ := h; rfl
  · obtain ⟨l, rfl, few, tabs, out⟩ := h
    refine ⟨_, (pss_cons (ps_if (pt_val (pe_m1 PySem.F.slot_str_startswith PySem.F.type_str_startswith mt_startswith (pv 0) pe_str))
        (pss_one (ps_raiseC (W := fun cls d _ H => E cls d H) rfl (takes_of rfl rfl rfl rfl) Ex.LeadsOut))
        pss_nil)
      (pss_cons (ps_set (i := 1) scClean.nd rfl (.inl rfl) (pe_lst pa_nil))
      (pss_cons (ps_for (passes_of rfl) rfl (pi_list (pe_split (pv 0) pe_str)) (pg_name (i := 2) scClean.nd rfl (.inl rfl))
        (pss_one (ps_expr (pe_cx (E := E) CKeepPiece (hr.mono (by omega)) (takes_of rfl rfl rfl rfl) (pa_cons (pv 1) (pa_cons (pv 2) pa_nil))))))
      (pss_cons (ps_set (i := 3) scClean.nd rfl (.inl rfl) (pe_join pe_str (pv 1)))
      (pss_cons (ps_if (pt_not (pt_val (pe_c CIsPath (hr.mono (by omega)) (pa_cons (pv 3) pa_nil))))
        (pss_one (ps_raiseC (W := fun cls d _ H => E cls d H) rfl (takes_of rfl rfl rfl rfl) Ex.BadPath))
        pss_nil)
      (pss_one (ps_ret (pv 3)))))))), ?_⟩
    refine ⟨_, rfl, ⟨_, rfl⟩, mkS l, Str.ofString "/", rfl, rfl, _, rfl, ?_⟩
    rw [s_slash, starts_slash]
    refine ite2 (fun z => ?_) (fun z => ?_)
    · have e : cleanF l = .out := by
        unfold cleanF
        rw [if_pos (of_decide_eq_true z)]
      rw [e] at out
      exact out _ (Same.refl _)
    have ec : cleanF l = walkC (splitC 47 l) [] := by
      unfold cleanF
      rw [if_neg fun k => z (decide_eq_true k)]
    rw [ec] at out
    refine ⟨Nat.zero_le _, fun kp nk => ?_⟩
    refine ⟨_, rfl, ⟨_, rfl⟩, mkS l, Str.ofString "/", rfl, rfl, (by decide +kernel), (by rw [len_mkS, sizeLine_eq]; omega), fun ps nps => ?_⟩
    rw [s_slash, split_mkS 47 (by decide) l, mapT]
    have sk : Same H (upd H kp (.lst [])) := grow nk
    have sp : Same (upd H kp (.lst [])) (upd (upd H kp (.lst [])) ps (.lst ((splitC 47 l).map T))) := grow nps
    have hk0 : (upd (upd H kp (.lst [])) ps (.lst ((splitC 47 l).map T))) kp = some (.lst (([] : List (List Nat)).map T)) := sp _ _ upd_same
    have hps : (upd (upd H kp (.lst [])) ps (.lst ((splitC 47 l).map T))) ps = some (.lst ((splitC 47 l).map T)) := upd_same
    have s0 := sk.trans sp
    have ne0 : ps ≠ kp := fun e => by
      rw [e, upd_same] at nps
      cases nps
    generalize upd (upd H kp (.lst [])) ps (.lst ((splitC 47 l).map T)) = H1 at hk0 hps s0
    have many := splitC_many 47 l
    refine ⟨ps, rfl, ⟨_, SqL.of hps⟩, for_list (xs := (splitC 47 l).map T) (fun i σ H' => ∃ (kept : List (List Nat)) (y2 : Option V), σ = [some (T l), some (.ref kp), y2, none] ∧ Same H H' ∧ H' kp = some (.lst (kept.map T)) ∧ H' ps = some (.lst ((splitC 47 l).map T)) ∧ kept.length ≤ i ∧ (∀ p ∈ kept, partOk p) ∧ walkC ((splitC 47 l).drop i) kept = walkC (splitC 47 l) [])
      ⟨[], none, rfl, s0, hk0, hps, Nat.le_refl _, (fun p hp => by cases hp), rfl⟩ (fun i σ H' _ p => ?_) (fun i x σ H2 hx p => ?_) (fun σ H2 p => ?_)⟩
    · obtain ⟨_, _, _, _, _, h, _⟩ := p
      exact SqL.of h
    · obtain ⟨kept, y2, rfl, sm, hkp, hps2, lk, gk, wk⟩ := p
      obtain ⟨t, ht, rfl⟩ : ∃ t, (splitC 47 l)[i]? = some t ∧ x = T t := by
        rw [List.getElem?_map] at hx
        cases e : (splitC 47 l)[i]? with
        | none => rw [e] at hx; cases hx
        | some t => rw [e] at hx; exact ⟨t, rfl, (Option.some.inj hx).symm⟩
      have li : i < (splitC 47 l).length := (List.getElem?_eq_some_iff.mp ht).1
      have lt := splitC_sizes 47 l t (List.mem_of_getElem? ht)
      have dr : (splitC 47 l).drop i = t :: (splitC 47 l).drop (i + 1) := by
        rw [List.drop_eq_getElem_cons li]
        congr 1
        exact (List.getElem?_eq_some_iff.mp ht).2
      rw [dr, walkC] at wk
      refine ⟨_, rfl, _, rfl, kp, kept, t, rfl, hkp, by omega, by omega, tabs.keep sm, fun e k0 => ?_, fun e k0 => ?_, fun e => ?_, fun g H3 s3 => ?_, fun n1 n2 g H3 s3 => ?_⟩
      · rw [if_pos e, if_pos k0] at wk
        rw [← wk] at out
        exact out _ sm
      · rw [if_pos e, if_neg k0] at wk
        refine ⟨kept.dropLast, _, rfl, sm.over nk, upd_same, ?_, ?_, fun p hp => gk p ((List.dropLast_sublist _).mem hp), wk⟩
        · rw [upd_ne ne0]
          exact hps2
        · rw [List.length_dropLast]
          omega
      · have ne : t ≠ [46, 46] := fun k => by
          rw [k] at e
          rcases e with e | e <;> cases e
        rw [if_neg ne, if_pos e] at wk
        exact ⟨kept, _, rfl, sm, hkp, hps2, by omega, gk, wk⟩
      · have n1 : t ≠ [46, 46] := g.2.2.2.1
        have n2 : ¬ (t = [] ∨ t = [46]) := fun k => by
          rcases k with k | k
          · rw [k] at g
            exact absurd g.1 (by decide)
          · exact g.2.2.1 k
        rw [if_neg n1, if_neg n2, if_pos g] at wk
        refine ⟨kept ++ [t], _, rfl, (sm.trans s3).over nk, upd_same, ?_, ?_, fun p hp => ?_, wk⟩
        · rw [upd_ne ne0]
          exact s3 _ _ hps2
        · rw [List.length_append]
          simp only [List.length_cons, List.length_nil]
          omega
        · rcases List.mem_append.mp hp with hp | hp
          · exact gk p hp
          · rw [List.mem_singleton.mp hp]
            exact g
      · rw [if_neg n1, if_neg n2, if_neg g] at wk
        rw [← wk] at out
        exact out _ (sm.trans s3)
    · obtain ⟨kept, y2, rfl, sm, hkp, hps2, lk, gk, wk⟩ := p
      rw [List.length_map, List.drop_length, walkC] at wk
      rw [List.length_map] at lk
      have l1 : (Str.ofString "/").length = 1 := by decide +kernel
      have szs := sum_sizes (m := 12) kept fun p hp => (gk p hp).2.1
      have jl := joinC_len 47 kept 12 fun p hp => (gk p hp).2.1
      refine ⟨⟨_, rfl⟩, _, rfl, Str.ofString "/", kp, kept.map mkS, rfl, rfl, .inl (by rw [mapT]; exact SqL.of hkp), by rw [l1, List.length_map]; omega, ?_⟩
      rw [s_slash, join_mkS]
      refine ⟨_, rfl, joinC 47 kept, rfl, by omega, tabs.keep sm, fun H3 s3 => ⟨_, rfl, ?_⟩⟩
      by_cases g : RowT (joinC 47 kept)
      · rw [decide_eq_true g]
        rw [if_neg ((row_kept gk).mp g)] at wk
        rw [← wk] at out
        exact iteF ⟨_, rfl, out _ (sm.trans s3)⟩
      · rw [decide_eq_false g]
        rw [if_pos (Decidable.of_not_not fun k => g ((row_kept gk).mpr k))] at wk
        rw [← wk] at out
        exact iteT (out _ (sm.trans s3))

/-! ### the program's way between -/
def partsF (t : List Nat) : List (List Nat) := if t = [] then [] else splitC 47 t
def spPartsA (K : PySem.W.Frag) : Sp := fun vs H Q _ => ∃ t : List Nat, vs = [T t] ∧ t.length ≤ 1000 ∧ ∀ p, H p = none → Q (.ref p) (upd H p (.lst ((partsF t).map T)))
theorem ok_partsA {f : Addr} {fd : FuncData} (Ev : Env K mg) (F : Fun K "parts_of" "parts_of" sPartsOf f fd) : FnOk P w K mg base CX0 1 f fd ["path"] (spPartsA K) := by
  refine F.ok scPartsOf (fun vs H Q E h => ?_) (fun cdv A outer s H vs Q E hr h => ?_)
  · obtain ⟨t, rfl, _⟩ := h; rfl
  · obtain ⟨t, rfl, lt, q⟩ := h
    refine ⟨_, (pss_cons (ps_if (pt_cmpR op_eq (pv 0) pe_str (nomark _))
        (pss_one (ps_ret (pe_lst pa_nil)))
        pss_nil)
      (pss_one (ps_ret (pe_split (pv 0) pe_str)))), ?_⟩
    refine ⟨_, rfl, rfl, _, rfl, ite2 (fun z => ?_) (fun z => ?_)⟩
    · have e : t = [] := T_inj ((of_decide_eq_true z).trans t_none)
      unfold partsF at q
      rw [if_pos e] at q
      exact ⟨Nat.zero_le _, fun p np => q p np⟩
    · have nt : t ≠ [] := fun k => z (decide_eq_true (by rw [k]; exact t_none.symm))
      refine ⟨_, rfl, ⟨_, rfl⟩, mkS t, Str.ofString "/", rfl, rfl, (by decide +kernel), (by rw [len_mkS, sizeLine_eq]; omega), fun p np => ?_⟩
      rw [s_slash, split_mkS 47 (by decide) t, mapT]
      unfold partsF at q
      rw [if_neg nt] at q
      exact q p np
theorem parts_fol {fs : List (List Nat)} (h : FolOk fs) : partsF (pathOf fs) = fs := by
  unfold partsF
  rcases h with rfl | h
  · rfl
  · rw [if_neg (pathOf_ne h), split_path h]

/-! ### the program's above -/
def spAboveT (K : PySem.W.Frag) (tbs : List Addr) : Sp := fun vs H Q _ => ∃ ps, vs = [T (pathOf ps)] ∧ PathOk ps ∧ Tabs tbs H ∧ Tups K H ((aboveF ps).map T) Q
theorem ok_aboveP {f : Addr} {fd : FuncData} {c pp : Addr} {tbs : List Addr} (Ev : Env K mg) (TB : GxR.TabB base mg c pp) (hpp : pp ∈ tbs) (CPartsOf : Cal P w K mg base "parts_of" 1 ["path"] (spPartsA K)) (F : FunC K "above" "above" sAbove f fd c) : FnOk P w K mg base CX0 3 f fd ["path"] (spAboveT K tbs) := by
  refine F.ok scAbove (fun vs H Q E h => ?_) (fun A outer s H vs Q E hr h => ?_)
  · obtain ⟨ps, rfl, _⟩ := h; rfl
  · obtain ⟨ps, rfl, pk, tabs, q⟩ := h
    refine ⟨_, (pss_cons (ps_set (i := 1) scAbove.nd rfl (.inr rfl) (pe_c CPartsOf (hr.mono (by omega)) (pa_cons (pv 0) pa_nil)))
      (pss_one (ps_ret (pe_tupG (own := [("many", 2)]) (g := gName 2) (tt := tYes) (k := 0) (hr.mono (by omega)) (by rfl) Ev.b_tuple (by decide +kernel) TB rfl scAbove.nd (blkOk_by (own := [("many", 2)]) (N := nAbove) (sc := defScope sAbove) (by decide +kernel)) ⟨rfl, by decide, rfl⟩ (pi_range2 (by rfl) Ev.b_range (pa_cons pe_int (pa_cons (pe_callB call_len_seq (by rfl) Ev.b_len PySem.boot_len (pa_cons (pv 1) pa_nil)) pa_nil))) (fun _ _ _ _ _ _ _ => (pg_name (i := 2) scAbove.nd rfl (.inl rfl))) (fun _ _ _ _ _ _ _ hr => pts_nil) (fun _ _ _ _ _ _ _ hr => by exact (pe_joinq (K := K) rfl pe_str (pe_slice (sl_listq (K := K) rfl) (pv 1) po_none (po_some (pv 2))))) (by intro _; rfl))))), ?_⟩
    have l1 : (Str.ofString "/").length = 1 := by decide +kernel
    have pl := pathOf_len pk
    have l8 := pk.2.1
    have lp0 : 0 < ps.length := List.length_pos_iff.mpr pk.1
    refine ⟨_, rfl, pathOf ps, rfl, by omega, fun p1 n1 => ?_⟩
    rw [parts_fol (.inr pk)]
    have s1 : Same H (upd H p1 (.lst (ps.map T))) := grow n1
    have h1 : (upd H p1 (.lst (ps.map T))) p1 = some (.lst (ps.map T)) := upd_same
    generalize upd H p1 (.lst (ps.map T)) = H1 at s1 h1
    refine ⟨_, rfl, p1, _, rfl, .inl (SqL.of h1), 1, _, rfl, ⟨by decide, by decide, by omega, by rw [List.length_map]; omega⟩, (tabs.keep s1) pp hpp, fun H2 t2 => ?_⟩
    have s2 : Same H1 H2 := same_tab ((tabs.keep s1) pp hpp) t2
    have en : (((ps.map T).length : Int) - 1).toNat = ps.length - 1 := by rw [List.length_map]; omega
    rw [en]
    refine gwT_rng (lo := 1) (n := ps.length - 1) (fun k => T (pathOf (ps.take (k + 1)))) (by rw [sizeLine_eq]; omega) (fun _ => rfl) (fun k H3 R hk s3 r => ?_) (fun H3 s3 p np => ?_)
    · have ek : (1 : Int) + (k : Int) = ((k + 1 : Nat) : Int) := by omega
      refine ⟨⟨_, rfl⟩, _, rfl, _, rfl, ((k + 1 : Nat) : Int), congrArg V.int ek, p1, _, rfl, SqL.of ((s2.trans s3) _ _ h1), fun p3 n3 => ?_⟩
      rw [cutV_to, ← List.map_take]
      have szk := sum_sizes (m := 12) (ps.take (k + 1)) fun p hp => (pk.2.2 p ((List.take_sublist _ _).mem hp)).2.1
      have lk : (ps.take (k + 1)).length ≤ 8 := by rw [List.length_take]; omega
      refine ⟨Str.ofString "/", p3, (ps.take (k + 1)).map mkS, rfl, rfl, .inl (by rw [mapT]; exact SqL.of upd_same), by rw [l1, List.length_map]; omega, ?_⟩
      rw [s_slash, join_mkS]
      exact r _ (grow n3)
    · have ea : (List.range (ps.length - 1)).map (fun k => T (pathOf (ps.take (k + 1)))) = (aboveF ps).map T := by
        unfold aboveF
        rw [List.map_map]
        rfl
      rw [ea]
      exact q _ _ ((s1.trans (s2.trans s3)).trans (grow np)) (SqT.of upd_same)

/-! ### the program's clean, told or refused -/
def spToldC (K : PySem.W.Frag) (tbs : List Addr) : Sp := fun vs H Q _ => ∃ l : List Nat, vs = [T l] ∧ l.length ≤ 1000 ∧ Tabs tbs H ∧ ∀ H' v, Same H H' → ShowsC K H' v (cleanF l) → Q v H'
theorem ok_told {f : Addr} {fd : FuncData} {lv : Nat} {tbs : List Addr} (Ev : Env K mg) (Ex : Excs K mg e_BadPath e_LeadsOut) (CClean : CalX P w K mg base "clean" lv ["text"] (spClnT K tbs e_BadPath e_LeadsOut)) (F : Fun K "_law_told" "_law_told" sLawTold f fd) : FnOk P w K mg base CX0 (lv + 1) f fd ["_law_text"] (spToldC K tbs) := by
  refine F.ok scLawTold (fun vs H Q E h => ?_) (fun cdv A outer s H vs Q E hr h => ?_)
  · obtain ⟨l, rfl, _⟩ := h; rfl
  · obtain ⟨l, rfl, few, tabs, q⟩ := h
    refine ⟨_, (pss_cons (ps_set (i := 1) scLawTold.nd rfl (.inl rfl) pe_non)
      (pss_cons (ps_try_many (tb := fun W => tAsg (tTupU K (tCons (tCallS (spClnT K tbs e_BadPath e_LeadsOut) (WE W) (tCons (tVar 0) tNil)) tNil)) (gName 1)) (Wout := fun _ _ _ _ => False)
          (l := [(.ref e_BadPath, fun _ _ _ => tAsg (tC (.str "BadPath")) (gName 1)), (.ref e_LeadsOut, fun _ _ _ => tAsg (tC (.str "LeadsOut")) (gName 1))]) rfl rfl takes0
          (fun W pn xe tk _ => pss_one (ps_set (i := 1) scLawTold.nd rfl (.inl rfl) (pe_tupU (pa_cons (by exact (pe_cs CClean (hr.mono (by omega)) tk (by exact (pa_cons (pv 0) pa_nil)))) pa_nil))))
          (.cons ⟨rfl, by decide, .inl Ex.BadPath.g⟩ (fun a oe cls d pn hz hf => pss_one (ps_set (i := 1) scLawTold.nd rfl (.inl rfl) pe_str)) (.cons ⟨rfl, by decide, .inl Ex.LeadsOut.g⟩ (fun a oe cls d pn hz hf => pss_one (ps_set (i := 1) scLawTold.nd rfl (.inl rfl) pe_str)) .nil)))
      (pss_one (ps_ret (pv 1))))), ?_⟩
    refine ⟨_, rfl, l, rfl, few, tabs, ?_⟩
    cases e : cleanF l with
    | bad =>
      rw [e] at q
      exact fun H' sm => ⟨true, Ex.p_BadPath_BadPath, fun _ a na => ⟨_, rfl, q _ _ sm rfl⟩, fun z => nomatch z⟩
    | out =>
      rw [e] at q
      exact fun H' sm => ⟨false, Ex.p_LeadsOut_BadPath, (fun z => nomatch z), fun _ => ⟨true, Ex.p_LeadsOut_LeadsOut, fun _ a na => ⟨_, rfl, q _ _ sm rfl⟩, fun z => nomatch z⟩⟩
    | ok ps =>
      rw [e] at q
      exact fun H3 s3 => ⟨(show 1 ≤ sizeLine by rw [sizeLine_eq]; decide), fun H4 t4 s4 h4 => ⟨_, rfl, q _ _ (s3.trans s4) ⟨t4, rfl, h4⟩⟩⟩

/-! ### the law -/
def dC : CRes → PyData
  | .bad => .str "BadPath"
  | .out => .str "LeadsOut"
  | .ok ps => dTxts [pathOf ps]
theorem ShowsC.dp {K : PySem.W.Frag} {H : Hp} {v : V} {r : CRes} (h : ShowsC K H v r) : Dp K H v (dC r) := by
  cases r with
  | bad =>
    have e : v = badS := h
    subst e
    exact .str _
  | out =>
    have e : v = outS := h
    subst e
    exact .str _
  | ok ps =>
    obtain ⟨t, rfl, ht⟩ := h
    exact dpTxts (ls := [pathOf ps]) ht
theorem ShowsC.keep {K : PySem.W.Frag} {H H' : Hp} {v : V} {r : CRes} (h : ShowsC K H v r) (e : Same H H') : ShowsC K H' v r := by
  cases r with
  | bad => exact h
  | out => exact h
  | ok ps =>
    obtain ⟨t, rfl, ht⟩ := h
    exact ⟨t, rfl, keepT e ht⟩
theorem dC_ok (r : CRes) : tupsOnly (dC r) = true ∧ PyData.depth (dC r) ≤ 1 := by
  cases r with
  | bad => exact ⟨rfl, by decide⟩
  | out => exact ⟨rfl, by decide⟩
  | ok ps => exact dTxts_ok _ (by simp)
/-- of a path that is_path tells True -/
theorem four_a {d : Int} (h0 : 0 ≤ d) (h1 : d < 4) : ∃ p, atI [V.str "", .str "", .str "", .str "/"] d = some (T p) ∧ p.length ≤ 3 := by
  have : d = 0 ∨ d = 1 ∨ d = 2 ∨ d = 3 := by omega
  rcases this with rfl | rfl | rfl | rfl
  · exact ⟨[], congrArg some (lit "" (by decide +kernel)), by decide⟩
  · exact ⟨[], congrArg some (lit "" (by decide +kernel)), by decide⟩
  · exact ⟨[], congrArg some (lit "" (by decide +kernel)), by decide⟩
  · exact ⟨[47], congrArg some (lit "/" (by decide +kernel)), by decide⟩
theorem four_b {d : Int} (h0 : 0 ≤ d) (h1 : d < 4) : ∃ p, atI [V.str "", .str "", .str "/", .str "/.."] d = some (T p) ∧ p.length ≤ 3 := by
  have : d = 0 ∨ d = 1 ∨ d = 2 ∨ d = 3 := by omega
  rcases this with rfl | rfl | rfl | rfl
  · exact ⟨[], congrArg some (lit "" (by decide +kernel)), by decide⟩
  · exact ⟨[], congrArg some (lit "" (by decide +kernel)), by decide⟩
  · exact ⟨[47], congrArg some (lit "/" (by decide +kernel)), by decide⟩
  · exact ⟨[47, 46, 46], congrArg some (lit "/.." (by decide +kernel)), by decide⟩
theorem aboveF_len (ps : List (List Nat)) : (aboveF ps).length = ps.length - 1 := by
  unfold aboveF
  rw [List.length_map, List.length_range]
def spLaw (K : PySem.W.Frag) (ps : List Addr) : Sp := fun vs H Q _ => ∃ (a : Addr) (ns : List Int), vs = [.ref a] ∧ SqL K H a (ns.map V.int) ∧ ns.length ≤ 63 ∧ Tabs ps H ∧ ∀ H', Q (.bl true) H'
theorem ok_law {f : Addr} {fd : FuncData} {lc lp la : Nat} {tbs : List Addr} (Ev : Env K mg) (CIsPath : Cal P w K mg base "is_path" lp ["thing"] (spIsPathP K tbs)) (CAbove : Cal P w K mg base "above" la ["path"] (spAboveT K tbs))
    (CLawCell : Cal P w K mg base "_law_cell" 1 ["_law_script", "_law_k"] (spCellA K)) (CLawSame : Cal P w K mg base "_law_same" 2 ["_law_told_here", "_law_due"] (spSameD K 1)) (CLawPiece : Cal P w K mg base "_law_piece" 3 ["_law_cell_here"] (spPiece K))
    (CLawTold : Cal P w K mg base "_law_told" (lc + 1) ["_law_text"] (spToldC K tbs)) (CLawClean : Cal P w K mg base "_law_clean" 2 ["_law_text"] (spClean K)) (F : Fun K "law" "law" sLaw f fd) :
    FnOk P w K mg base CX0 (lc + lp + la + 4) f fd ["_law_script"] (spLaw K tbs) := by
  refine F.ok scLaw (fun vs H Q E h => ?_) (fun cdv A outer s H vs Q E hr h => ?_)
  · obtain ⟨a, ns, rfl, _⟩ := h; rfl
  · obtain ⟨a, ns, rfl, hS, hlen, tabs, q⟩ := h
    refine ⟨_, (pss_cons (ps_for PassesOwn.never rfl (pi_range3 (by rfl) Ev.b_range (pa_cons pe_int (pa_cons pe_int (pa_cons pe_int pa_nil)))) (pg_name (i := 1) scLaw.nd rfl (.inl rfl))
        (pss_cons (ps_set (i := 2) scLaw.nd rfl (.inl rfl) (pe_slice sl_list (pv 0) (po_some (pe_op op_add (pv 1) pe_int)) (po_some (pe_op op_add (pe_op op_add (pv 1) pe_int) (pe_op op_mod (pe_c CLawCell (hr.mono (by omega)) (pa_cons (pv 0) (pa_cons (pv 1) pa_nil))) pe_int)))))
        (pss_cons (ps_set (i := 3) scLaw.nd rfl (.inl rfl) (pe_join pe_str (pe_lc (own := [("_law_cell_here", 8)]) (g := gName 8) (tt := tYes) (by rfl) scLaw.nd (pi_list (pv 2)) (blkOk_by (own := [("_law_cell_here", 8)]) (N := nLaw) (sc := defScope sLaw) (by decide +kernel)) (fun _ _ _ _ _ => (pg_name (i := 8) scLaw.nd rfl (.inl rfl))) (fun _ _ _ _ _ => pts_nil) (fun _ _ _ _ _ => (pe_c CLawPiece (hr.mono (by omega)) (pa_cons (pv 8) pa_nil))))))
        (pss_cons (ps_set (i := 3) scLaw.nd rfl (.inl rfl) (pe_op op_add_str (pe_ix ix_list (pe_lst (pa_cons pe_str (pa_cons pe_str (pa_cons pe_str (pa_cons pe_str pa_nil))))) (pe_op op_mod (pe_op op_fdiv (pe_c CLawCell (hr.mono (by omega)) (pa_cons (pv 0) (pa_cons (pv 1) pa_nil))) pe_int) pe_int) (fun _ _ => rfl)) (pv 3)))
        (pss_cons (ps_set (i := 3) scLaw.nd rfl (.inl rfl) (pe_op op_add_str (pv 3) (pe_ix ix_list (pe_lst (pa_cons pe_str (pa_cons pe_str (pa_cons pe_str (pa_cons pe_str pa_nil))))) (pe_op op_mod (pe_op op_fdiv (pe_c CLawCell (hr.mono (by omega)) (pa_cons (pv 0) (pa_cons (pv 1) pa_nil))) pe_int) pe_int) (fun _ _ => rfl))))
        (pss_cons (ps_set (i := 4) scLaw.nd rfl (.inl rfl) (pe_c CLawClean (hr.mono (by omega)) (pa_cons (pv 3) pa_nil)))
        (pss_cons (ps_if (pt_not (pt_val (pe_c CLawSame (hr.mono (by omega)) (pa_cons (pe_c CLawTold (hr.mono (by omega)) (pa_cons (pv 3) pa_nil)) (pa_cons (pv 4) pa_nil)))))
          (pss_one (ps_ret pe_bl))
          pss_nil)
        (pss_one (ps_if (pt_val (pe_callB call_isi (by rfl) Ev.b_isinstance (by decide +kernel) (pa_cons (pv 4) (pa_cons (pe_btype (n := "tuple") (by rfl) Ev.b_tuple (by decide +kernel)) pa_nil))))
          (pss_cons (ps_set (i := 5) scLaw.nd rfl (.inl rfl) (pe_ix ix_tup (pv 4) pe_int (fun _ _ => rfl)))
          (pss_cons (ps_set (i := 6) scLaw.nd rfl (.inr rfl) (pe_split (pv 5) pe_str))
          (pss_cons (ps_set (i := 7) scLaw.nd rfl (.inl rfl) (pe_callTy call_tupleU (by rfl) Ev.b_tuple (by decide +kernel) (pa_cons (pe_lc (own := [("_law_k", 9)]) (g := gName 9) (tt := tYes) (by rfl) scLaw.nd (pi_range2 (by rfl) Ev.b_range (pa_cons pe_int (pa_cons (pe_callB call_len_seq (by rfl) Ev.b_len PySem.boot_len (pa_cons (pv 6) pa_nil)) pa_nil))) (blkOk_by (own := [("_law_k", 9)]) (N := nLaw) (sc := defScope sLaw) (by decide +kernel)) (fun _ _ _ _ _ => (pg_name (i := 9) scLaw.nd rfl (.inl rfl))) (fun _ _ _ _ _ => pts_nil) (fun _ _ _ _ _ => by exact (pe_joinq (K := K) rfl pe_str (pe_slice (sl_listq (K := K) rfl) (pv 6) po_none (po_some (pv 9)))))) pa_nil)))
          (pss_cons (ps_if (PW.pt (pw_or (pt_cmpR op_notBl (pe_c CIsPath (hr.mono (by omega)) (pa_cons (pv 5) pa_nil)) pe_bl (nomark _)) (pw_or (pt_not (pt_val (pe_c CLawSame (hr.mono (by omega)) (pa_cons (pe_c CLawTold (hr.mono (by omega)) (pa_cons (pv 5) pa_nil)) (pa_cons (pv 4) pa_nil))))) (pw_or1 (pt_not (pt_val (pe_c CLawSame (hr.mono (by omega)) (pa_cons (pe_c CAbove (hr.mono (by omega)) (pa_cons (pv 5) pa_nil)) (pa_cons (pv 7) pa_nil)))))))))
            (pss_one (ps_ret pe_bl))
            pss_nil)
          (pss_one (ps_if (pt_not (pt_val (pe_c CLawSame (hr.mono (by omega)) (pa_cons (pe_c CLawTold (hr.mono (by omega)) (pa_cons (pe_op op_add_str (pv 5) pe_str) pa_nil)) (pa_cons (pe_ifExp (pt_truth (pv 7) (by intro _; rfl)) (pe_tupU (pa_cons (pe_ix ix_tup (pv 7) (pe_un un_neg pe_int) (fun _ _ => rfl)) pa_nil)) pe_str) pa_nil)))))
            (pss_one (ps_ret pe_bl))
            pss_nil))))))
          pss_nil)))))))))
      (pss_one (ps_ret pe_bl))), ?_⟩
    have four : (4 : Nat) ≤ sizeLine := by rw [sizeLine_eq]; decide
    have one : (1 : Nat) ≤ sizeLine := by rw [sizeLine_eq]; decide
    refine ⟨0, 40, 10, 4, rfl, ⟨by decide, by decide, by decide, by decide⟩, for_rangeC (fun i σ H' => ∃ y1 y2 y3 y4 y5 y6 y7 : Option V, σ = [some (.ref a), y1, y2, y3, y4, y5, y6, y7, none, none] ∧ Same H H') ⟨none, none, none, none, none, none, none, rfl, Same.refl _⟩ (fun i σ H1 hi p => ?_) (fun σ H1 p => q _)⟩
    obtain ⟨y1, y2, y3, y4, y5, y6, y7, rfl, sm1⟩ := p
    have eb : (0 : Int) + (i : Int) * 10 = ((i * 10 : Nat) : Int) := by omega
    rw [eb]
    have hS1 := sm1.seq hS
    refine ⟨_, rfl, _, rfl, _, _, rfl, rfl, _, rfl, _, rfl, _, _, rfl, rfl, _, rfl, _, rfl, a, ns, i * 10, rfl, hS1, fun c1 => ⟨_, 13, rfl, rfl, (show (0 : Int) < 13 by decide), _, _, rfl, rfl, _, rfl, a, _, rfl, hS1, fun p2 n2 => ?_⟩⟩
    obtain ⟨ms, em, lm⟩ := cut_some ns (some (((i * 10 : Nat) : Int) + 1)) (some (((i * 10 : Nat) : Int) + 1 + c1 % 13))
    rw [em]
    refine ⟨⟨_, rfl⟩, _, rfl, p2, rfl, ⟨_, SqL.of upd_same⟩, fun D nD => ?_⟩
    refine lc_rowP (xs := ms.map V.int) (G := TxtOk 13) nD (SqL.of upd_same) (by rw [List.length_map, sizeLine_eq]; omega) (fun _ => rfl) (fun k x H2 R hx sm r => ?_) (fun ys H3 ly gy sm h3 => ?_)
    · obtain ⟨n, hn, rfl⟩ := got hx
      exact ⟨_, rfl, n, rfl, fun H' p s hp => r _ _ s ⟨p, rfl, hp⟩⟩
    obtain ⟨ts, rfl, hts⟩ := txts gy
    rw [List.length_map, List.length_map] at ly
    have sz := sum_sizes ts hts
    have l1 : (Str.ofString "/").length = 1 := by decide +kernel
    refine ⟨Str.ofString "/", D, ts.map mkS, rfl, rfl, .inl (by rw [mapT]; exact SqL.of h3), by rw [l1, List.length_map]; omega, ?_⟩
    rw [s_slash, join_mkS]
    have jl := joinC_len 47 ts 13 hts
    have jl2 : (joinC 47 ts).length ≤ 900 := by omega
    generalize joinC 47 ts = l at jl2
    have sm3 : Same H H3 := sm1.trans ((grow n2).trans sm)
    have hS3 := sm3.seq hS
    refine ⟨four, fun p4 n4 => ⟨_, rfl, _, rfl, a, ns, i * 10, rfl, (grow n4).seq hS3, fun c2 => ⟨_, 13, rfl, rfl, ⟨by decide, by decide⟩, _, 4, rfl, rfl, (show (0 : Int) < 4 by decide), ?_⟩⟩⟩
    obtain ⟨pa, ea, la4⟩ := four_a (Int.emod_nonneg (c2 / 13) (show (4 : Int) ≠ 0 by decide)) (Int.emod_lt_of_pos (c2 / 13) (show (0 : Int) < 4 by decide))
    refine ⟨p4, _, _, _, rfl, rfl, SqL.of upd_same, ea, _, rfl, mkS pa, mkS l, rfl, rfl, by rw [len_mkS, len_mkS, sizeLine_eq]; omega, ?_⟩
    rw [mkS_app]
    refine ⟨_, rfl, four, fun p5 n5 => ⟨_, rfl, _, rfl, a, ns, i * 10, rfl, (sm3.trans ((grow n4).trans (grow n5))).seq hS, fun c3 => ⟨_, 52, rfl, rfl, ⟨by decide, by decide⟩, _, 4, rfl, rfl, (show (0 : Int) < 4 by decide), ?_⟩⟩⟩
    obtain ⟨pb, eb4, lb4⟩ := four_b (Int.emod_nonneg (c3 / 52) (show (4 : Int) ≠ 0 by decide)) (Int.emod_lt_of_pos (c3 / 52) (show (0 : Int) < 4 by decide))
    refine ⟨p5, _, _, _, rfl, rfl, SqL.of upd_same, eb4, mkS (pa ++ l), mkS pb, rfl, rfl, by rw [len_mkS, len_mkS, List.length_append, sizeLine_eq]; omega, ?_⟩
    rw [mkS_app]
    have fl : (pa ++ l ++ pb).length ≤ 1000 := by rw [List.length_append, List.length_append]; omega
    generalize pa ++ l ++ pb = t at fl
    refine ⟨_, rfl, t, rfl, fl, fun H6 v6 s6 sh6 => ?_⟩
    have okd := dC_ok (cleanF t)
    have sm6 : Same H H6 := sm3.trans ((grow n4).trans ((grow n5).trans s6))
    refine ⟨_, rfl, t, rfl, fl, tabs.keep sm6, fun H7 u7 s7 sh7 => ⟨_, rfl, u7, v6, dC (cleanF t), rfl, sh7.dp, (sh6.keep s7).dp, okd.1, okd.2, fun H8 s8 => ⟨true, rfl, iteF ?_⟩⟩⟩
    have sm8 : Same H H8 := sm3.trans ((grow n4).trans ((grow n5).trans (s6.trans (s7.trans s8))))
    have sh8 := sh6.keep (s7.trans s8)
    cases ec : cleanF t with
    | bad =>
      rw [ec] at sh8
      have ev : v6 = badS := sh8
      subst ev
      exact ⟨badS, rfl, _, _, _, _, false, rfl, .ty "tuple", .base (.str _), k_st, false, rfl, iteF ⟨_, _, _, _, _, _, _, rfl, sm8⟩⟩
    | out =>
      rw [ec] at sh8
      have ev : v6 = outS := sh8
      subst ev
      exact ⟨outS, rfl, _, _, _, _, false, rfl, .ty "tuple", .base (.str _), k_st, false, rfl, iteF ⟨_, _, _, _, _, _, _, rfl, sm8⟩⟩
    | ok ps =>
      rw [ec] at sh8 okd
      have pk := cleanF_ok ec
      have pl := pathOf_len pk
      obtain ⟨t6, rfl, h6⟩ := sh8
      refine ⟨.ref t6, rfl, _, _, _, _, true, rfl, .ty "tuple", ty_tup h6, k_tt, true, rfl, iteT ?_⟩
      refine ⟨_, rfl, t6, _, 0, T (pathOf ps), rfl, rfl, h6, at_ofA (j := 0) rfl rfl, ?_⟩
      refine ⟨_, rfl, ⟨_, rfl⟩, mkS (pathOf ps), Str.ofString "/", rfl, rfl, (by decide +kernel), (by rw [len_mkS, sizeLine_eq]; omega), fun pp npp => ?_⟩
      rw [s_slash, split_mkS 47 (by decide) (pathOf ps), mapT, split_path pk]
      have spp : Same H8 (upd H8 pp (.lst (ps.map T))) := grow npp
      have hpp : (upd H8 pp (.lst (ps.map T))) pp = some (.lst (ps.map T)) := upd_same
      generalize upd H8 pp (.lst (ps.map T)) = H9 at spp hpp
      have l8 := pk.2.1
      have lp0 : 0 < ps.length := List.length_pos_iff.mpr pk.1
      refine ⟨_, rfl, pp, _, rfl, .inl (SqL.of hpp), 1, _, rfl, ⟨by decide, by decide, by omega, by rw [List.length_map]; omega⟩, fun D2 nD2 => ?_⟩
      have en : (((ps.map T).length : Int) - 1).toNat = ps.length - 1 := by rw [List.length_map]; omega
      rw [en]
      refine lc_rng (ys := (aboveF ps).map T) nD2 (by rw [List.length_map, aboveF_len]) (by rw [sizeLine_eq]; omega) (fun _ => rfl) (fun k y H2 R hk hy sm r => ?_) (fun Ha sma ha => ?_)
      · have ek : (1 : Int) + (k : Int) = ((k + 1 : Nat) : Int) := by omega
        have ey : y = T (pathOf (ps.take (k + 1))) := by
          unfold aboveF at hy
          rw [List.map_map, List.getElem?_map, List.getElem?_range hk] at hy
          exact (Option.some.inj hy).symm
        subst ey
        refine ⟨⟨_, rfl⟩, _, rfl, _, rfl, ((k + 1 : Nat) : Int), congrArg V.int ek, pp, _, rfl, SqL.of (sm _ _ hpp), fun p3 n3 => ?_⟩
        rw [cutV_to, ← List.map_take]
        have szk := sum_sizes (m := 12) (ps.take (k + 1)) fun p hp => (pk.2.2 p ((List.take_sublist _ _).mem hp)).2.1
        have lk : (ps.take (k + 1)).length ≤ 8 := by rw [List.length_take]; omega
        refine ⟨Str.ofString "/", p3, (ps.take (k + 1)).map mkS, rfl, rfl, .inl (by rw [mapT]; exact SqL.of upd_same), by rw [l1, List.length_map]; omega, ?_⟩
        rw [s_slash, join_mkS]
        exact r _ (grow n3)
      refine ⟨D2, _, rfl, SqL.of ha, fun Hb tb sb hb => ?_⟩
      have sm9b : Same H8 Hb := spp.trans (sma.trans sb)
      have okf := dTxts_ok (aboveF ps) (by rw [aboveF_len]; omega)
      have rt : decide (RowT (pathOf ps)) = true := decide_eq_true (by unfold RowT; rw [split_path pk]; exact ⟨l8, pk.2.2⟩)
      refine ⟨_, rfl, pathOf ps, rfl, by omega, tabs.keep (sm8.trans sm9b), fun Hc sc => ?_⟩
      rw [rt]
      refine ⟨true, true, rfl, rfl, _, rfl, iteF ?_⟩
      refine ⟨_, rfl, pathOf ps, rfl, by omega, tabs.keep (sm8.trans (sm9b.trans sc)), fun Hd ud sd shd => ?_⟩
      rw [clean_path pk] at shd
      refine ⟨_, rfl, ud, .ref t6, dC (.ok ps), rfl, shd.dp, dpTxts (ls := [pathOf ps]) (keepT (sm9b.trans (sc.trans sd)) h6), okd.1, okd.2, fun He se => ⟨true, rfl, iteF ?_⟩⟩
      refine ⟨_, rfl, ps, rfl, pk, tabs.keep (sm8.trans (sm9b.trans (sc.trans (sd.trans se)))), fun Hf tf sf hf => ?_⟩
      refine ⟨_, rfl, .ref tf, .ref tb, dTxts (aboveF ps), rfl, dpTxts hf, dpTxts (keepT (sc.trans (sd.trans (se.trans sf))) hb), okf.1, okf.2, fun Hg sg => ⟨true, rfl, iteF ?_⟩⟩
      have sbg : Same Hb Hg := sc.trans (sd.trans (se.trans (sf.trans sg)))
      have hbg := keepT sbg hb
      refine ⟨_, rfl, mkS (pathOf ps), Str.ofString "/..", rfl, rfl, ?_, ?_⟩
      · rw [len_mkS, show (Str.ofString "/..").length = 3 by decide +kernel, sizeLine_eq]
        omega
      rw [show Str.ofString "/.." = mkS [47, 46, 46] by decide +kernel, mkS_app]
      refine ⟨pathOf ps ++ [47, 46, 46], rfl, by rw [List.length_append]; simp only [List.length_cons, List.length_nil]; omega, tabs.keep (sm8.trans (sm9b.trans sbg)), fun Hh uh sh shh => ?_⟩
      have sm0h : Same H Hh := sm8.trans (sm9b.trans (sbg.trans sh))
      rw [clean_up pk] at shh
      have al := aboveF_last pk.1
      have hbh := keepT sh hbg
      refine ⟨_, rfl, _, .inr (.inl ⟨_, hbh, rfl⟩), ?_⟩
      by_cases ze : ps.dropLast = []
      · rw [if_pos ze] at shh al
        have ae : aboveF ps = [] := List.getLast?_eq_none_iff.mp al
        rw [ae]
        refine iteF ?_
        have okb := dC_ok .bad
        exact ⟨uh, badS, dC .bad, rfl, shh.dp, .str _, okb.1, okb.2, fun Hi si => ⟨true, rfl, iteF ⟨_, _, _, _, _, _, _, rfl, sm0h.trans si⟩⟩⟩
      · rw [if_neg ze] at shh al
        have an : (!((aboveF ps).map T).isEmpty) = true := by
          cases e : aboveF ps with
          | nil => rw [e] at al; cases al
          | cons x r => rfl
        rw [an]
        refine iteT ?_
        have al2 : ((aboveF ps).map T).getLast? = some (T (pathOf ps.dropLast)) := by rw [List.getLast?_map, al]; rfl
        refine ⟨_, rfl, 1, rfl, tb, _, -1, _, rfl, rfl, hbh, at_last al2, one, fun Hi ti si hi => ?_⟩
        have oko := dC_ok (.ok ps.dropLast)
        exact ⟨uh, .ref ti, dC (.ok ps.dropLast), rfl, (shh.keep si).dp, dpTxts (ls := [pathOf ps.dropLast]) hi, oko.1, oko.2, fun Hj sj => ⟨true, rfl, iteF ⟨_, _, _, _, _, _, _, rfl, sm0h.trans (si.trans sj)⟩⟩⟩

end
def hD0 : He.DefD := ⟨("is_part", none), "is_part", "is_part", defArgs sIsPart, defBody sIsPart, defScope sIsPart, [], []⟩
def hD1 : He.DefD := ⟨("is_row_of", none), "is_row_of", "is_row_of", defArgs sIsRowOf, defBody sIsRowOf, defScope sIsRowOf, [], []⟩
def hD2 : He.DefD := ⟨("is_path", none), "is_path", "is_path", defArgs sIsPath, defBody sIsPath, defScope sIsPath, [], []⟩
def hD3 : He.DefD := ⟨("keep_piece", none), "keep_piece", "keep_piece", defArgs sKeepPiece, defBody sKeepPiece, defScope sKeepPiece, [], []⟩
def hD4 : He.DefD := ⟨("clean", none), "clean", "clean", defArgs sClean, defBody sClean, defScope sClean, [], []⟩
def hD5 : He.DefD := ⟨("parts_of", none), "parts_of", "parts_of", defArgs sPartsOf, defBody sPartsOf, defScope sPartsOf, [], []⟩
def hD6 : He.DefD := ⟨("above", none), "above", "above", defArgs sAbove, defBody sAbove, defScope sAbove, [], []⟩
def hD7 : He.DefD := ⟨("_law_d", none), "_law_d", "_law_d", defArgs sLawD, defBody sLawD, defScope sLawD, [], []⟩
def hD8 : He.DefD := ⟨("_law_cell", none), "_law_cell", "_law_cell", defArgs sLawCell, defBody sLawCell, defScope sLawCell, [], []⟩
def hD9 : He.DefD := ⟨("_law_same", none), "_law_same", "_law_same", defArgs sLawSame, defBody sLawSame, defScope sLawSame, [], []⟩
def hD10 : He.DefD := ⟨("_law_is_part", none), "_law_is_part", "_law_is_part", defArgs sLawIsPart, defBody sLawIsPart, defScope sLawIsPart, [], []⟩
def hD11 : He.DefD := ⟨("_law_part", none), "_law_part", "_law_part", defArgs sLawPart, defBody sLawPart, defScope sLawPart, [], []⟩
def hD12 : He.DefD := ⟨("_law_told", none), "_law_told", "_law_told", defArgs sLawTold, defBody sLawTold, defScope sLawTold, [], []⟩
def hD13 : He.DefD := ⟨("_law_clean", none), "_law_clean", "_law_clean", defArgs sLawClean, defBody sLawClean, defScope sLawClean, [], []⟩
def hD14 : He.DefD := ⟨("_law_piece", none), "_law_piece", "_law_piece", defArgs sLawPiece, defBody sLawPiece, defScope sLawPiece, [], []⟩
def hD15 : He.DefD := ⟨("law", none), "law", "law", defArgs sLaw, defBody sLaw, defScope sLaw, [], []⟩
def hFn : List He.DefD := [hD0, hD1, hD2, hD3, hD4, hD5, hD6, hD7, hD8, hD9, hD10, hD11, hD12, hD13, hD14, hD15]
def hFa : List He.Fa := ([.glo "is_part", .glo "is_row_of", .glo "is_path", .glo "keep_piece", .glo "clean", .glo "parts_of", .glo "above", .glo "_law_d", .glo "_law_cell", .glo "_law_same", .glo "_law_is_part", .glo "_law_part", .glo "_law_told", .glo "_law_clean", .glo "_law_piece", .glo "law", .free "all", .free "bool", .free "int", .free "isinstance", .free "len", .free "range", .free "str", .free "tuple", .free "zip", .int "MOST_PARTS" 8, .int "MOST_SIGNS" 12, .str "SIGNS" (Str.ofString "abcdefghijklmnopqrstuvwxyz0123456789_-."), .exc "BadPath", .glo "BadPath"] : List He.Fa) ++ ([.exc "LeadsOut", .glo "LeadsOut", .exm "BadPath" "BadPath" true, .exm "BadPath" "LeadsOut" false, .exm "LeadsOut" "BadPath" false, .exm "LeadsOut" "LeadsOut" true] : List He.Fa)
def hTf : List He.Defn := [("is_part", none), ("is_row_of", none), ("above", none)]
def hEx (K : PySem.W.Frag) : Bool := (PySem.W.isClsIn K (He.ga K "BadPath") && (PySem.W.isClsIn K (He.ga K "LeadsOut") && true))
theorem all_mk {l : PySem.W.OpenLaw} {w : World} {K : PySem.W.Frag} {h : Heap} {mg : Str → Option Value} {fa : Addr} (X : K.In h) (G : h.Ns mainGlobals mg) (hfa : mg "law" = some (.ref fa)) (c : He.SaysX hFa hFn [] hTf hEx w h K) :
    LamX.LawAtS l w K CX0 22 63 "_law_script" mg fa h := by
  have cd : He.SaysD hFa hFn K := c.t.d
  have e := hfa.symm.trans (He.glo_ok X G (cd.fact 15 (f := .glo "law") rfl))
  cases e
  have Ev : Env K mg := ⟨He.free_ok X G (cd.fact 16 (f := .free "all") rfl), He.free_ok X G (cd.fact 17 (f := .free "bool") rfl), He.free_ok X G (cd.fact 18 (f := .free "int") rfl), He.free_ok X G (cd.fact 19 (f := .free "isinstance") rfl), He.free_ok X G (cd.fact 20 (f := .free "len") rfl), He.free_ok X G (cd.fact 21 (f := .free "range") rfl), He.free_ok X G (cd.fact 22 (f := .free "str") rfl), He.free_ok X G (cd.fact 23 (f := .free "tuple") rfl), He.free_ok X G (cd.fact 24 (f := .free "zip") rfl), He.int_ok X G (cd.fact 25 (f := .int "MOST_PARTS" 8) rfl), He.int_ok X G (cd.fact 26 (f := .int "MOST_SIGNS" 12) rfl), He.str_ok X G (cd.fact 27 (f := .str "SIGNS" (Str.ofString "abcdefghijklmnopqrstuvwxyz0123456789_-.")) rfl)⟩
  have X_BadPath : Exc K mg "BadPath" (He.ga K "BadPath") := ⟨He.glo_ok X G (cd.fact 29 (f := .glo "BadPath") rfl), (He.exc_ok (cd.fact 28 (f := .exc "BadPath") rfl)).1, (He.exc_ok (cd.fact 28 (f := .exc "BadPath") rfl)).2.1, (He.exc_ok (cd.fact 28 (f := .exc "BadPath") rfl)).2.2.1, (He.exc_ok (cd.fact 28 (f := .exc "BadPath") rfl)).2.2.2, (He.ba c.more).1⟩
  have X_LeadsOut : Exc K mg "LeadsOut" (He.ga K "LeadsOut") := ⟨He.glo_ok X G (cd.fact 31 (f := .glo "LeadsOut") rfl), (He.exc_ok (cd.fact 30 (f := .exc "LeadsOut") rfl)).1, (He.exc_ok (cd.fact 30 (f := .exc "LeadsOut") rfl)).2.1, (He.exc_ok (cd.fact 30 (f := .exc "LeadsOut") rfl)).2.2.1, (He.exc_ok (cd.fact 30 (f := .exc "LeadsOut") rfl)).2.2.2, (He.ba (He.ba c.more).2).1⟩
  have Ex : Excs K mg (He.ga K "BadPath") (He.ga K "LeadsOut") := ⟨X_BadPath, X_LeadsOut, He.exm_ok (cd.fact 32 (f := .exm "BadPath" "BadPath" true) rfl), He.exm_ok (cd.fact 33 (f := .exm "BadPath" "LeadsOut" false) rfl), He.exm_ok (cd.fact 34 (f := .exm "LeadsOut" "BadPath" false) rfl), He.exm_ok (cd.fact 35 (f := .exm "LeadsOut" "LeadsOut" true) rfl)⟩
  obtain ⟨fd0, D0⟩ := cd.def_ 0 (d := hD0) rfl
  have F0 := funC_ofD (x := "is_part") (st := sIsPart) D0
  obtain ⟨fd1, D1⟩ := cd.def_ 1 (d := hD1) rfl
  have F1 := funC_ofD (x := "is_row_of") (st := sIsRowOf) D1
  obtain ⟨fd2, D2⟩ := cd.def_ 2 (d := hD2) rfl
  have F2 := fun_ofD (x := "is_path") (st := sIsPath) D2
  obtain ⟨fd3, D3⟩ := cd.def_ 3 (d := hD3) rfl
  have F3 := fun_ofD (x := "keep_piece") (st := sKeepPiece) D3
  obtain ⟨fd4, D4⟩ := cd.def_ 4 (d := hD4) rfl
  have F4 := fun_ofD (x := "clean") (st := sClean) D4
  obtain ⟨fd5, D5⟩ := cd.def_ 5 (d := hD5) rfl
  have F5 := fun_ofD (x := "parts_of") (st := sPartsOf) D5
  obtain ⟨fd6, D6⟩ := cd.def_ 6 (d := hD6) rfl
  have F6 := funC_ofD (x := "above") (st := sAbove) D6
  obtain ⟨fd7, D7⟩ := cd.def_ 7 (d := hD7) rfl
  have F7 := fun_ofD (x := "_law_d") (st := sLawD) D7
  obtain ⟨fd8, D8⟩ := cd.def_ 8 (d := hD8) rfl
  have F8 := fun_ofD (x := "_law_cell") (st := sLawCell) D8
  obtain ⟨fd9, D9⟩ := cd.def_ 9 (d := hD9) rfl
  have F9 := fun_ofD (x := "_law_same") (st := sLawSame) D9
  obtain ⟨fd10, D10⟩ := cd.def_ 10 (d := hD10) rfl
  have F10 := fun_ofD (x := "_law_is_part") (st := sLawIsPart) D10
  obtain ⟨fd11, D11⟩ := cd.def_ 11 (d := hD11) rfl
  have F11 := fun_ofD (x := "_law_part") (st := sLawPart) D11
  obtain ⟨fd12, D12⟩ := cd.def_ 12 (d := hD12) rfl
  have F12 := fun_ofD (x := "_law_told") (st := sLawTold) D12
  obtain ⟨fd13, D13⟩ := cd.def_ 13 (d := hD13) rfl
  have F13 := fun_ofD (x := "_law_clean") (st := sLawClean) D13
  obtain ⟨fd14, D14⟩ := cd.def_ 14 (d := hD14) rfl
  have F14 := fun_ofD (x := "_law_piece") (st := sLawPiece) D14
  obtain ⟨fd15, D15⟩ := cd.def_ 15 (d := hD15) rfl
  have F15 := fun_ofD (x := "law") (st := sLaw) D15
  refine ⟨fd15, [(He.cT K ("is_part", none)), (He.cT K ("is_row_of", none)), (He.cT K ("above", none))], spLaw K [(He.cT K ("is_part", none)).2, (He.cT K ("is_row_of", none)).2, (He.cT K ("above", none)).2], List.forall_mem_cons.mpr ⟨c.empty _ (show (("is_part", none) : He.Defn) ∈ hTf by simp [hTf]), List.forall_mem_cons.mpr ⟨c.empty _ (show (("is_row_of", none) : He.Defn) ∈ hTf by simp [hTf]), List.forall_mem_cons.mpr ⟨c.empty _ (show (("above", none) : He.Defn) ∈ hTf by simp [hTf]), fun _ z => nomatch z⟩⟩⟩, List.forall_mem_cons.mpr ⟨c.out _ (show (("is_part", none) : He.Defn) ∈ hTf by simp [hTf]), List.forall_mem_cons.mpr ⟨c.out _ (show (("is_row_of", none) : He.Defn) ∈ hTf by simp [hTf]), List.forall_mem_cons.mpr ⟨c.out _ (show (("above", none) : He.Defn) ∈ hTf by simp [hTf]), fun _ z => nomatch z⟩⟩⟩, List.forall_mem_cons.mpr ⟨PySem.W.codeHd_of_K X (c.hd _ (show (("is_part", none) : He.Defn) ∈ hTf by simp [hTf])), List.forall_mem_cons.mpr ⟨PySem.W.codeHd_of_K X (c.hd _ (show (("is_row_of", none) : He.Defn) ∈ hTf by simp [hTf])), List.forall_mem_cons.mpr ⟨PySem.W.codeHd_of_K X (c.hd _ (show (("above", none) : He.Defn) ∈ hTf by simp [hTf])), fun _ z => nomatch z⟩⟩⟩, fun s v => ?_, fun H a ns hl _ hH hS => ⟨a, ns, rfl, hS, hl, List.forall_mem_cons.mpr ⟨tab_empty (hH (He.cT K ("is_part", none)) (by simp)), List.forall_mem_cons.mpr ⟨tab_empty (hH (He.cT K ("is_row_of", none)) (by simp)), List.forall_mem_cons.mpr ⟨tab_empty (hH (He.cT K ("above", none)) (by simp)), fun _ z => nomatch z⟩⟩⟩, fun _ => rfl⟩, fun base _ _ TBs => ?_⟩
  · exact (FunD.bindsA (ps := ["_law_script"]) D15 fun _ _ _ _ _ _ us hl => match us, hl with | [_], _ => rfl) s [v] rfl
  have TB0 := tabB_of (TBs (He.cT K ("is_part", none)) (by simp))
  have TB1 := tabB_of (TBs (He.cT K ("is_row_of", none)) (by simp))
  have TB6 := tabB_of (TBs (He.cT K ("above", none)) (by simp))
  have C_0 : Cal l.prog w K mg base "is_part" 3 ["text"] (spIsP K [(He.cT K ("is_part", none)).2, (He.cT K ("is_row_of", none)).2, (He.cT K ("above", none)).2]) := ⟨_, _, ok_isP Ev TB0 (by simp)  F0, He.glo_ok X G (cd.fact 0 (f := .glo "is_part") rfl), F0.to.kp, F0.to.binds fun _ _ _ _ _ _ us hl => match us, hl with | [_], _ => rfl⟩
  have C_1 : Cal l.prog w K mg base "is_row_of" 6 ["thing", "is_right"] (spRow K mg [(He.cT K ("is_part", none)).2, (He.cT K ("is_row_of", none)).2, (He.cT K ("above", none)).2]) := ⟨_, _, ok_row Ev TB1 (by simp) C_0 F1, He.glo_ok X G (cd.fact 1 (f := .glo "is_row_of") rfl), F1.to.kp, F1.to.binds fun _ _ _ _ _ _ us hl => match us, hl with | [_, _], _ => rfl⟩
  have C_2 : Cal l.prog w K mg base "is_path" 7 ["thing"] (spIsPathP K [(He.cT K ("is_part", none)).2, (He.cT K ("is_row_of", none)).2, (He.cT K ("above", none)).2]) := ⟨_, _, ok_isPath Ev C_1 C_0 F2, He.glo_ok X G (cd.fact 2 (f := .glo "is_path") rfl), F2.kp, F2.binds fun _ _ _ _ _ _ us hl => match us, hl with | [_], _ => rfl⟩
  have C_3 : CalX l.prog w K mg base "keep_piece" 4 ["kept", "piece"] (spKeep K [(He.cT K ("is_part", none)).2, (He.cT K ("is_row_of", none)).2, (He.cT K ("above", none)).2] (He.ga K "BadPath") (He.ga K "LeadsOut")) := ⟨_, _, ok_keep Ev Ex C_0 F3, He.glo_ok X G (cd.fact 3 (f := .glo "keep_piece") rfl), F3.kp, F3.binds fun _ _ _ _ _ _ us hl => match us, hl with | [_, _], _ => rfl⟩
  have C_4 : CalX l.prog w K mg base "clean" 8 ["text"] (spClnT K [(He.cT K ("is_part", none)).2, (He.cT K ("is_row_of", none)).2, (He.cT K ("above", none)).2] (He.ga K "BadPath") (He.ga K "LeadsOut")) := ⟨_, _, ok_cln Ev Ex C_3 C_2 F4, He.glo_ok X G (cd.fact 4 (f := .glo "clean") rfl), F4.kp, F4.binds fun _ _ _ _ _ _ us hl => match us, hl with | [_], _ => rfl⟩
  have C_5 : Cal l.prog w K mg base "parts_of" 1 ["path"] (spPartsA K) := ⟨_, _, ok_partsA Ev  F5, He.glo_ok X G (cd.fact 5 (f := .glo "parts_of") rfl), F5.kp, F5.binds fun _ _ _ _ _ _ us hl => match us, hl with | [_], _ => rfl⟩
  have C_6 : Cal l.prog w K mg base "above" 3 ["path"] (spAboveT K [(He.cT K ("is_part", none)).2, (He.cT K ("is_row_of", none)).2, (He.cT K ("above", none)).2]) := ⟨_, _, ok_aboveP Ev TB6 (by simp) C_5 F6, He.glo_ok X G (cd.fact 6 (f := .glo "above") rfl), F6.to.kp, F6.to.binds fun _ _ _ _ _ _ us hl => match us, hl with | [_], _ => rfl⟩
  have C_7 : Cal l.prog w K mg base "_law_d" 1 ["_law_cell_here", "_law_place", "_law_many"] spD := ⟨_, _, ok_d Ev  F7, He.glo_ok X G (cd.fact 7 (f := .glo "_law_d") rfl), F7.kp, F7.binds fun _ _ _ _ _ _ us hl => match us, hl with | [_, _, _], _ => rfl⟩
  have C_8 : Cal l.prog w K mg base "_law_cell" 1 ["_law_script", "_law_k"] (spCellA K) := ⟨_, _, ok_cell Ev  F8, He.glo_ok X G (cd.fact 8 (f := .glo "_law_cell") rfl), F8.kp, F8.binds fun _ _ _ _ _ _ us hl => match us, hl with | [_, _], _ => rfl⟩
  have C_9 : Cal l.prog w K mg base "_law_same" 2 ["_law_told_here", "_law_due"] (spSameD K 1) := ⟨_, _, ok_sameD Ev F9 (He.glo_ok X G (cd.fact 9 (f := .glo "_law_same") rfl)) (F9.binds fun _ _ _ _ _ _ us hl => match us, hl with | [_, _], _ => rfl) 1, He.glo_ok X G (cd.fact 9 (f := .glo "_law_same") rfl), F9.kp, F9.binds fun _ _ _ _ _ _ us hl => match us, hl with | [_, _], _ => rfl⟩
  have C_10 : Cal l.prog w K mg base "_law_is_part" 1 ["_law_text"] (spIsPart K) := ⟨_, _, ok_ispart Ev  F10, He.glo_ok X G (cd.fact 10 (f := .glo "_law_is_part") rfl), F10.kp, F10.binds fun _ _ _ _ _ _ us hl => match us, hl with | [_], _ => rfl⟩
  have C_11 : Cal l.prog w K mg base "_law_part" 2 ["_law_cell_here"] (spPart K) := ⟨_, _, ok_part Ev C_7 F11, He.glo_ok X G (cd.fact 11 (f := .glo "_law_part") rfl), F11.kp, F11.binds fun _ _ _ _ _ _ us hl => match us, hl with | [_], _ => rfl⟩
  have C_12 : Cal l.prog w K mg base "_law_told" 9 ["_law_text"] (spToldC K [(He.cT K ("is_part", none)).2, (He.cT K ("is_row_of", none)).2, (He.cT K ("above", none)).2]) := ⟨_, _, ok_told Ev Ex C_4 F12, He.glo_ok X G (cd.fact 12 (f := .glo "_law_told") rfl), F12.kp, F12.binds fun _ _ _ _ _ _ us hl => match us, hl with | [_], _ => rfl⟩
  have C_13 : Cal l.prog w K mg base "_law_clean" 2 ["_law_text"] (spClean K) := ⟨_, _, ok_clean Ev C_10 F13, He.glo_ok X G (cd.fact 13 (f := .glo "_law_clean") rfl), F13.kp, F13.binds fun _ _ _ _ _ _ us hl => match us, hl with | [_], _ => rfl⟩
  have C_14 : Cal l.prog w K mg base "_law_piece" 3 ["_law_cell_here"] (spPiece K) := ⟨_, _, ok_piece Ev C_7 C_11 F14, He.glo_ok X G (cd.fact 14 (f := .glo "_law_piece") rfl), F14.kp, F14.binds fun _ _ _ _ _ _ us hl => match us, hl with | [_], _ => rfl⟩
  exact ok_law Ev C_2 C_6 C_8 C_9 C_14 C_12 C_13 F15
abbrev hR : PySem.W.OpenRow := PySem.W.OpenLaw.row PySem.Challenge.rw_filecrate_k14_whole_texts_made_clean
def hLoose : List Str := (["CrateError", "BadPath", "LeadsOut", "SIGNS", "MOST_SIGNS", "MOST_PARTS", "is_path", "is_row_of", "is_part", "parts_of", "clean", "keep_piece", "above", "_law_d", "_law_cell", "_law_same", "_law_is_part", "_law_part", "_law_told", "_law_clean", "_law_piece"] : List Str)
abbrev hk : PySem.W.Hook := He.hookX 5 hFa hFn [] hTf hEx
def hOb (s : PySem.W.SharedT) : He.AlX := He.obsX 5 hFa hFn [] hTf hEx (HandSHeadRun.getT s)
theorem hOb_eq (s : PySem.W.SharedT) : hOb s = hk.obs s.abs := He.obsX_eq (HandSHeadRun.getT_eq s)
set_option maxHeartbeats 0 in
theorem hRun (w : World) : HandSHeadRun.RunEq hR (PySem.W.view hR.prog [24]) hk hOb 3000 hLoose w := by
  intro os
  kernel_rfl
end Fc
open PySem PySem.W PySem.Calls PyProof.Rows
set_option maxHeartbeats 0 in
theorem PySem.Challenge.cw_filecrate_k14_whole_texts_made_clean_holds : PySem.Challenge.rw_filecrate_k14_whole_texts_made_clean.Holds := by
  w_on; o_law
  refine HandSHeadRun.head_any (r := PySem.W.OpenLaw.row PySem.Challenge.rw_filecrate_k14_whole_texts_made_clean) (q := view (PySem.W.OpenLaw.row PySem.Challenge.rw_filecrate_k14_whole_texts_made_clean).prog [24]) (H := Fc.hk) (ob := Fc.hOb) (M := 3000) (loose := Fc.hLoose) (d := HandSHeadRun.topDef (PySem.W.OpenLaw.row PySem.Challenge.rw_filecrate_k14_whole_texts_made_clean).prog 24) (kwd := []) Fc.hOb_eq
    (by kernel_rfl) (fun s => by kernel_rfl) Fc.hRun (by kernel_rfl) (by kernel_rfl) (by kernel_rfl) (by rfl) (by first | assumption | decide +kernel) (by decide +kernel) ⟨rfl, rfl, rfl, rfl, rfl, by decide +kernel⟩ ?hw ?hc
  case hw => w_witness2
  case hc =>
    refine LamX.walk_ofTsE (l := PySem.Challenge.rw_filecrate_k14_whole_texts_made_clean) (n := 63) (k := 22) (x := "_law_script") (CX := fun _ => L2.CX0) rfl (by decide) (by kernel_rfl) ⟨rfl, by decide, by decide⟩ ?F (fun _ _ _ _ _ h => h)
    intro w mg fa h Y G hmg0
    obtain ⟨K, KX, c⟩ := Y
    have hmg : mg ("law" : PySem.Str) = some (.ref fa) := by
      have e : (HandSHeadRun.topDef (PySem.W.OpenLaw.row PySem.Challenge.rw_filecrate_k14_whole_texts_made_clean).prog 24).name = ("law" : PySem.Str) := by kernel_rfl
      rw [← e]
      exact hmg0
    exact ⟨K, KX, Fc.all_mk KX G hmg c⟩
