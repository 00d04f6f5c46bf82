import PyProof.Rows.All
import Wide.All
import OpenK.AllK
import Wide.FinOn
import HandS.ForMost
import HandS.IsInst
import HandS.TupAny
import HandS.TupMul
import HandS.Zip
import HandS.Style
import HandS.AnyAll
import HandS.Lambda
import HandS.ForExc
import HandS.TryMany
import HandS.GenList
import PyProof.TupleOfGen
import HandS.EndTab
import HandS.Head0
import HandS.Head1
import HandS.Head2
import HandS.HeadEnd
import HandS.HeadHook4
import HandS.HeadWalk
import HandS.CallLocal
import KE.KNestM
import HandS.Flow
import HandS.More
import KE.SortKeyHeap
import HandS.SortKw
import KE.GoesMore
import HandS.Iter
import HandS.Walk
import PySem.Challenge.RW_filecrate_k09_whole_looking_back_is_leas
set_option Elab.async false
set_option linter.all false
set_option maxRecDepth 100000
set_option maxHeartbeats 4000000
namespace Fc
open PySem PySem.Spec PyProof.Rows L2

/-! ### heaps that only grow (a code's table, which a generator expression lengthens, aside) -/
def NT : HO → Prop
  | .tbl _ => False
  | _ => True
/-- of the tables in which lambdas' code objects stand: what their lambdas are named -/
class LamNames where
  lam : Addr → Option Str
variable [LamNames]
/-- each code object that the table tells is known by this name -/
def Named (H : Hp) (ps : Array Value) (q : Str) : Prop := ∀ (pos : Pos) (cv : Value), codeAmong pos ps.toList = some cv → ∃ c, cv = .ref c ∧ H c = some (LamX.CodeO c q)
structure Same (H H' : Hp) : Prop where
  get : ∀ b o, H b = some o → NT o → H' b = some o
  tab : ∀ b ps, H b = some (.tbl ps) → ∃ ps' : Array Value, H' b = some (.tbl ps') ∧ (TriplesOk ps.toList → TriplesOk ps'.toList) ∧ ∀ q, LamNames.lam b = some q → Named H ps q → Named H' ps' q
theorem Same.at {H H' : Hp} (s : Same H H') (b : Addr) (o : HO) (e : H b = some o) (nt : NT o := by trivial) : H' b = some o := s.get b o e nt
instance {H H' : Hp} : CoeFun (Same H H') (fun _ => ∀ (b : Addr) (o : HO), H b = some o → (nt : NT o := by trivial) → H' b = some o) := ⟨@Same.at _ H H'⟩
theorem nt_or (o : HO) : NT o ∨ ∃ ps, o = .tbl ps := by
  cases o with
  | tbl ps => exact .inr ⟨ps, rfl⟩
  | _ => exact .inl trivial
theorem Same.refl (H : Hp) : Same H H := ⟨fun _ _ h _ => h, fun _ ps h => ⟨ps, h, fun z => z, fun _ _ z => z⟩⟩
theorem Same.trans {H H1 H2 : Hp} (a : Same H H1) (b : Same H1 H2) : Same H H2 := ⟨fun c o h nt => b.get c o (a.get c o h nt) nt, fun c ps h => by
  obtain ⟨ps1, h1, t1, m1⟩ := a.tab c ps h
  obtain ⟨ps2, h2, t2, m2⟩ := b.tab c ps1 h1
  exact ⟨ps2, h2, fun z => t2 (t1 z), fun q hq z => m2 q hq (m1 q hq z)⟩⟩
theorem Same.some {H H' : Hp} (e : Same H H') {b : Addr} {o : HO} (h : H b = .some o) : ∃ o', H' b = .some o' := by
  rcases nt_or o with n | ⟨ps, rfl⟩
  · exact ⟨o, e.get b o h n⟩
  · obtain ⟨ps', h', _⟩ := e.tab b ps h
    exact ⟨_, h'⟩
theorem Same.free {H H' : Hp} (e : Same H H') {l : Addr} (h : H' l = Option.none) : H l = Option.none := by
  cases q : H l with
  | none => rfl
  | some o =>
    obtain ⟨o', h'⟩ := e.some q
    rw [h] at h'
    cases h'
/-- nothing stands there, or what is no code object -/
def NC : Option HO → Prop
  | some (.ext _) => False
  | _ => True
theorem NC.lst {H : Hp} {p : Addr} {xs : List V} (h : H p = some (.lst xs)) : NC (H p) := by rw [h]; trivial
theorem NC.of {H : Hp} {p : Addr} {o : HO} (h : H p = some o) (k : NC (some o)) : NC (H p) := by rw [h]; exact k
theorem Same.over {H H' : Hp} (e : Same H H') {p : Addr} {o : HO} (n : H p = none) (nc : NC (H' p)) : Same H (upd H' p o) := ⟨fun b u h nt => by
  rw [upd_ne (ne_of_none h n)]
  exact e.get b u h nt, fun b ps h => by
  obtain ⟨ps', h', t, m⟩ := e.tab b ps h
  exact ⟨ps', by rw [upd_ne (ne_of_none h n)]; exact h', t, fun q hq z pos cv hc => by
    obtain ⟨c, e1, e2⟩ := m q hq z pos cv hc
    refine ⟨c, e1, ?_⟩
    rw [upd_ne (fun k => by rw [k] at e2; rw [e2] at nc; exact nc)]
    exact e2⟩⟩
theorem Same.seq {K : PySem.W.Frag} {H H' : Hp} {a : Addr} {xs : List V} (e : Same H H') (h : SqL K H a xs) : SqL K H' a xs := by
  rcases h with (h | ⟨o, h⟩) | h
  · exact .inl (.inl (e _ _ h))
  · exact .inl (.inr ⟨o, e _ _ h⟩)
  · exact .inr h
theorem grow {H : Hp} {p : Addr} {o : HO} (n : H p = none) : Same H (upd H p o) := (Same.refl H).over n (by rw [n]; trivial)
/-- this table stands, no lambda's is in it -/
structure TabN (H : Hp) (p : Addr) : Prop where
  g : GxR.TabG H p
  n : LamNames.lam p = none
/-- these tables stand -/
def Tabs (ps : List Addr) (H : Hp) : Prop := ∀ p ∈ ps, TabN H p
theorem Tabs.keep {ps : List Addr} {H H' : Hp} (t : Tabs ps H) (e : Same H H') : Tabs ps H' := fun p hp => by
  obtain ⟨⟨qs, h, ok⟩, n⟩ := t p hp
  obtain ⟨qs', h', k, _⟩ := e.tab p qs h
  exact ⟨⟨qs', h', k ok⟩, n⟩
/-- the tables of lambdas: told as LamX.TabS tells, and named so -/
structure LTab (H : Hp) (p : Addr) (q : Str) : Prop where
  s : LamX.TabS H p q
  n : LamNames.lam p = some q
theorem LTab.keep {p : Addr} {q : Str} {H H' : Hp} (t : LTab H p q) (e : Same H H') : LTab H' p q := by
  obtain ⟨⟨ps, h, ok, nm⟩, n⟩ := t
  obtain ⟨ps', h', k, m⟩ := e.tab p ps h
  exact ⟨⟨ps', h', k ok, m q n nm⟩, n⟩
theorem same_tab {P : Addr} {H H' : Hp} (hn : TabN H P) (t : GxR.Tabbed P H H') : Same H H' := by
  have h := hn.g
  refine ⟨fun b o e nt => ?_, fun b ps e => ?_⟩
  · have nb : b ≠ P := fun z => by
      obtain ⟨qs, h, _⟩ := h
      rw [z, h] at e
      cases e
      exact nt
    rw [t.2 b nb]
    exact e
  · by_cases z : b = P
    · obtain ⟨qs, h', ok⟩ := t.1
      rw [z]
      exact ⟨qs, h', fun _ => ok, fun q hq => by rw [hn.n] at hq; cases hq⟩
    · refine ⟨ps, by rw [t.2 b z]; exact e, fun k => k, fun q _ nm pos cv hc => ?_⟩
      obtain ⟨c, e1, e2⟩ := nm pos cv hc
      refine ⟨c, e1, ?_⟩
      rw [t.2 c fun k => by
        obtain ⟨qs, h, _⟩ := h
        rw [k, h] at e2
        cases e2]
      exact e2
theorem keepT {K : PySem.W.Frag} {H H' : Hp} {a : Addr} {xs : List V} (e : Same H H') (h : SqT K H a xs) : SqT K H' a xs := by
  rcases h with (h | ⟨o, h⟩) | h
  · left; left; exact e a _ h
  · left; right; exact ⟨o, e a _ h⟩
  · right; exact h
/-- behind it a tuple of these, and all that stood -/
def Tups (K : PySem.W.Frag) (H : Hp) (xs : List V) (Q : VK) : Prop := ∀ H' p, Same H H' → SqT K H' p xs → Q (.ref p) H'
theorem Tups.new {K : PySem.W.Frag} {H : Hp} {xs : List V} {Q : VK} (h : Tups K H xs Q) {p : Addr} (n : H p = none) : Q (.ref p) (upd H p (.tup xs)) := h _ _ (grow n) (SqT.of upd_same)
theorem Tups.old {K : PySem.W.Frag} {H : Hp} {xs ys : List V} {Q : VK} (h : Tups K H xs Q) {p : Addr} (e : SqT K H p ys) (eq : ys = xs) : Q (.ref p) H := by
  subst eq
  exact h _ _ (Same.refl H) e
theorem PEweak {X : Cx} {e : Expr} {t u : TE} (h : PE X e t) (w : ∀ σ H Q, u σ H Q → t σ H Q) : PE X e u := ⟨fun pins s σ H Q I q => h.run pins s σ H Q I (w σ H Q q)⟩
def upA (t : TA) : TA := fun σ H Q => ∃ R, t σ H R ∧ ∀ vs H', R vs H' → Q vs H'
theorem PAup {X : Cx} {es : List Expr} {t : TA} (h : PA X es t) : PA X es (upA t) := ⟨fun ps pins s σ H Q I q => by
  obtain ⟨R, q1, q2⟩ := q
  refine thn (h.run ps pins s σ H R I q1) fun us s' ⟨vs, H', I', r, k⟩ => ⟨vs, H', I', r, q2 _ _ k⟩⟩

/-! ### rules whose reading says Tups -/
section
variable {X : Cx}
def rCatU (K : PySem.W.Frag) : R2 := fun x y H Q => ∃ a b xs ys, x = .ref a ∧ y = .ref b ∧ SqT K H a xs ∧ SqT K H b ys ∧ xs.length + ys.length ≤ sizeLine ∧ Tups K H (xs ++ ys) Q
theorem op_catU : OpR X (binaryOp .Add) (rCatU X.K) := by
  intro pins s σ H x y v u Q I rx ry h
  obtain ⟨a, b, xs, ys, rfl, rfl, ha, hb, hz, q⟩ := h
  refine op_catA pins s σ H _ _ v u Q I rx ry ⟨a, b, xs, ys, rfl, rfl, ha, hb, hz, fun e => ?_, fun _ e => ?_, fun _ _ p n => q.new n⟩
  · subst e; exact q.old hb rfl
  · subst e; exact q.old ha (List.append_nil xs).symm
def rSlU (K : PySem.W.Frag) : V → Option Int → Option Int → Hp → VK → Prop := fun x lo hi H Q => ∃ a xs, x = .ref a ∧ SqT K H a xs ∧ Tups K H (cutV xs lo hi) Q
theorem sl_tupU : SlR X (rSlU X.K) := by
  intro pins s σ H x v vl vu lo hi sl Q I rx hs pl pu h
  obtain ⟨a, xs, rfl, hx, q⟩ := h
  refine sl_tupA pins s σ H _ v vl vu lo hi sl Q I rx hs pl pu ⟨a, xs, rfl, hx, fun e => q.old hx ?_, fun _ p n => q.new n⟩
  unfold cutV
  rw [e.1, e.2, List.drop_zero, Nat.sub_zero, List.take_length]
def tTupU (K : PySem.W.Frag) (t : TA) : TE := fun σ H Q => t σ H fun xs H1 => xs.length ≤ sizeLine ∧ Tups K H1 xs Q
theorem pe_tupU {es : List Expr} {x1 : Nat} {pos : Pos} {t : TA} (h : PA X es t) : PE X (.Tuple es x1 pos) (tTupU X.K t) :=
  PEweak (pe_tup (PAup h)) fun σ H Q q => ⟨_, q, fun vs H' k => ⟨k.1, fun p n => k.2.new n⟩⟩
theorem call_divmodU : CallR X (.builtin "divmod") (fun xs H Q => ∃ i j, xs = [.int i, .int j] ∧ CDiv i j ∧ Tups X.K H [.int (i / j), .int (i % j)] Q) := by
  intro pins s σ H xs us Q I r h
  obtain ⟨i, j, e, c, q⟩ := h
  exact call_divmod pins s σ H xs us Q I r ⟨i, j, e, c, fun p n => q.new n⟩
theorem call_tupleU : CallR X (.type "tuple") (fun xs H Q => ∃ p ys, xs = [.ref p] ∧ SqL X.K H p ys ∧ Tups X.K H ys Q) := by
  intro pins s σ H xs us Q I r h
  obtain ⟨p, ys, e, hp, q⟩ := h
  exact call_tuple_of pins s σ H xs us Q I r ⟨p, ys, e, .inl ⟨hp, fun l n => q.new n⟩⟩
theorem pe_globI {x : Str} {n : Int} {pos : Pos} (hg : Gl X x) (h : ∃ t, X.mg x = some (.int n t)) (hd : (x == ("__debug__" : Str)) = false := by decide) : PE X (.Name x pos) (tC (.int n)) := by
  obtain ⟨t, e⟩ := h
  exact pe_glob hg e ⟨t, rfl⟩ hd
def tGT (K : PySem.W.Frag) (xs : List V) : TE := fun _ H Q => ∀ a, (∀ H', SqT K H' a xs) → Q (.ref a) H
theorem pe_globT {x : Str} {xs : List V} {pos : Pos} (hg : Gl X x) (h : ∃ a, X.mg x = some (.ref a) ∧ ∀ H', SqT X.K H' a xs) (hd : (x == ("__debug__" : Str)) = false := by decide) : PE X (.Name x pos) (tGT X.K xs) := by
  obtain ⟨a, e, q⟩ := h
  exact PEweak (pe_glob (v := .ref a) hg e rfl hd) fun σ H Q k => k a q
theorem pe_btype {x : Str} {n : String} {pos : Pos} (hg : Gl X x) (hm : X.mg x = none) (hv : bootBuiltins x = some (.type n)) (hn : x ≠ "__name__" := by decide) (hd : (x == ("__debug__" : Str)) = false := by decide) : PE X (.Name x pos) (tC (.ty n)) := pe_bltn hg hm hv rfl hn hd
end

/-! ### a def that is called -/
structure Cal (P : Program) (w : World) (K : PySem.W.Frag) (mg : Str → Option Value) (base : Heap) (x : Str) (k : Nat) (ps : List Str) (sp : Sp) : Prop where
  ex : ∃ f fd, FnOk P w K mg base CX0 k f fd ps sp ∧ mg x = some (.ref f) ∧ PySem.W.keepIn K (.ref f) = true ∧ Binds K fd ps []
theorem pe_c {X : Cx} {x : Str} {k : Nat} {ps : List Str} {sp : Sp} {p pos : Pos} {e : Expr} {es : List Expr} {t : TA} (C : Cal X.prog X.w X.K X.mg X.base x k ps sp) (hr : Room k X.A) (ha : PA X (e :: es) t) (hg : Gl X x := by rfl) (hdb : (x == ("__debug__" : Str)) = false := by decide)
    (he : starEach (e :: es) X.env = (false, eval e X.env) :: starEach es X.env := by rfl) (hpl : (backTo pos (starEach es X.env)).any (·.1) = false := by rfl) : PE X (.Call (.Name x p) (e :: es) [] pos) (tCall sp [] E0 t) := by
  obtain ⟨f, fd, F, m, kp, b⟩ := C.ex
  exact pe_call F hr hg m kp b .nil pass0 ha hdb he hpl

/-! ### joining ways -/
theorem seq_by {t u : TS} {D : Ends} {σ : L2.St} {H : Hp} (P : L2.St → Hp → Prop) (h2 : ∀ σ H, P σ H → u D σ H) (h1 : (∀ σ H, P σ H → u D σ H) → t { D with nx := u D } σ H) : tSeq t u D σ H := h1 h2

theorem seq_c {v : V} {i : Nat} {u : TS} {D : Ends} {σ : L2.St} {H : Hp} (h : u D (σ.set i (some v)) H) : tSeq (tAsg (tC v) (gName i)) u D σ H := h

theorem if_by {c : TT} {a b : TS} {D : Ends} {σ : L2.St} {H : Hp} (PY : Prop) (hX : a D σ H) (hY : PY → b D σ H) (hc : (∀ k : Bool, (k = false → PY) → if k = true then a D σ H else b D σ H) → c σ H fun k H1 => if k = true then a D σ H1 else b D σ H1) : tIfS c a b D σ H := hc (fun k h => by
  cases k with
  | true => rw [if_pos rfl]; exact hX
  | false => rw [if_neg Bool.false_ne_true]; exact hY (h rfl))

theorem if_by2 {c : TT} {a b : TS} {D : Ends} {σ : L2.St} {H : Hp} (PX PY : Prop) (hX : PX → a D σ H) (hY : PY → b D σ H) (hc : (∀ k : Bool, (k = true → PX) → (k = false → PY) → if k = true then a D σ H else b D σ H) → c σ H fun k H1 => if k = true then a D σ H1 else b D σ H1) : tIfS c a b D σ H := hc (fun k hx h => by
  cases k with
  | true => rw [if_pos rfl]; exact hX (hx rfl)
  | false => rw [if_neg Bool.false_ne_true]; exact hY (h rfl))

theorem seq_if2 {c : TT} {a b u : TS} {D : Ends} {σ : L2.St} {H : Hp} (PX PY : Prop) (hX : PX → a { D with nx := u D } σ H) (hY : PY → b { D with nx := u D } σ H) (hc : (∀ k : Bool, (k = true → PX) → (k = false → PY) → if k = true then a { D with nx := u D } σ H else b { D with nx := u D } σ H) → c σ H fun k H1 => if k = true then a { D with nx := u D } σ H1 else b { D with nx := u D } σ H1) : tSeq (tIfS c a b) u D σ H := if_by2 PX PY hX hY hc

/-! ### isinstance -/
theorem k_ii {K : PySem.W.Frag} : PySem.W.kitOne K (.type "int") (.type "int") = some true := kit_ty (by decide +kernel)
theorem k_ib {K : PySem.W.Frag} : PySem.W.kitOne K (.type "int") (.type "bool") = some false := kit_ty (by decide +kernel)
theorem k_it {K : PySem.W.Frag} : PySem.W.kitOne K (.type "int") (.type "tuple") = some false := kit_ty (by decide +kernel)
theorem k_is' {K : PySem.W.Frag} : PySem.W.kitOne K (.type "int") (.type "str") = some false := kit_ty (by decide +kernel)
theorem k_tb {K : PySem.W.Frag} : PySem.W.kitOne K (.type "tuple") (.type "bool") = some false := kit_ty (by decide +kernel)
theorem k_tt {K : PySem.W.Frag} : PySem.W.kitOne K (.type "tuple") (.type "tuple") = some true := kit_ty (by decide +kernel)
theorem k_bb {K : PySem.W.Frag} : PySem.W.kitOne K (.type "bool") (.type "bool") = some true := kit_ty (by decide +kernel)
theorem k_sb {K : PySem.W.Frag} : PySem.W.kitOne K (.type "str") (.type "bool") = some false := kit_ty (by decide +kernel)
theorem k_st {K : PySem.W.Frag} : PySem.W.kitOne K (.type "str") (.type "tuple") = some false := kit_ty (by decide +kernel)
theorem k_ss {K : PySem.W.Frag} : PySem.W.kitOne K (.type "str") (.type "str") = some true := kit_ty (by decide +kernel)
theorem ty_tup {K : PySem.W.Frag} {H : Hp} {a : Addr} {xs : List V} (h : SqT K H a xs) : TyX K H (.ref a) (.type "tuple") := by
  rcases h with (h | ⟨o, h⟩) | ⟨o, its, n, h, c, _⟩
  · exact .base (.tup h)
  · exact .fTuple h
  · exact .kTuple h c

/-! ### cuts of whole numbers -/
theorem cut_to (ns : List Int) (k : Nat) : cutV (ns.map V.int) none (some (k : Int)) = (ns.take k).map V.int := by
  unfold cutV
  rw [HT.sIx_none, HT.sIx_nat, List.drop_zero, Nat.sub_zero, List.length_map, List.map_take]
  by_cases h : k ≤ ns.length
  · rw [Nat.min_eq_left h]
  · have h' : ns.length ≤ k := by omega
    rw [Nat.min_eq_right h', List.take_of_length_le (by rw [List.length_map]; omega), List.take_of_length_le (by rw [List.length_map]; omega)]
theorem cut_from (ns : List Int) (k : Nat) : cutV (ns.map V.int) (some (k : Int)) none = (ns.drop k).map V.int := by
  unfold cutV
  rw [HT.sIx_none, HT.sIx_nat, List.length_map, List.map_drop]
  by_cases h : k ≤ ns.length
  · rw [Nat.min_eq_left h]
    exact List.take_of_length_le (by rw [List.length_drop, List.length_map]; omega)
  · have h' : ns.length ≤ k := by omega
    rw [Nat.min_eq_right h', List.drop_of_length_le (by rw [List.length_map]; omega), List.drop_of_length_le (by rw [List.length_map]; omega), List.take_nil]
theorem cut_mid (ns : List Int) (i j : Nat) : cutV (ns.map V.int) (some (i : Int)) (some (j : Int)) = ((ns.drop i).take (j - i)).map V.int := by
  unfold cutV
  rw [HT.sIx_nat, HT.sIx_nat, List.length_map, List.map_take, List.map_drop]
  by_cases h : i ≤ ns.length
  · rw [Nat.min_eq_left h]
    by_cases g : j ≤ ns.length
    · rw [Nat.min_eq_left g]
    · have g' : ns.length ≤ j := by omega
      rw [Nat.min_eq_right g', List.take_of_length_le (by rw [List.length_drop, List.length_map]; omega), List.take_of_length_le (by rw [List.length_drop, List.length_map]; omega)]
  · have h' : ns.length ≤ i := by omega
    rw [Nat.min_eq_right h', List.drop_of_length_le (by rw [List.length_map]; omega), List.drop_of_length_le (by rw [List.length_map]; omega), List.take_nil, List.take_nil]

/-! ### a comprehension whose items are told by a row -/
theorem lc_row {K : PySem.W.Frag} {a : Addr} {xs ys : List V} {te : TE} {vs : List Nat} {σ : L2.St} {H1 : Hp} {D : Addr} {j : Nat} {Qd : Hp → Prop} (nD : H1 D = none) (hs : SqL K H1 a xs) (hy : ys.length = xs.length) (hz : xs.length ≤ sizeLine)
    (hw : ∀ x, wipe ((wipe σ vs).set j (some x)) vs = wipe σ vs)
    (turn : ∀ (i : Nat) (x y : V) (H : Hp) (R : V → Hp → Prop), xs[i]? = some x → ys[i]? = some y → Same H1 H → (∀ H', Same H H' → R y H') → te ((wipe σ vs).set j (some x)) H R) (hd : ∀ H', Same H1 H' → H' D = some (.lst ys) → Qd H') :
    ∃ W : Nat → Nat → Hp → Prop, (∃ m, W 0 m (upd H1 D (.lst []))) ∧ ∀ i m H, W i m H →
      ((Itl K a).stop i H ∧ Qd H) ∨ ((Itl K a).go i H ∧ ∃ Nx : Hp → Prop, (∀ H', Nx H' → ∃ m', m' < m ∧ W (i + 1) m' H') ∧ ∀ x H', (Itl K a).yld i H x H' → gName j x (wipe σ vs) H' fun σ2 H2 => wipe σ2 vs = wipe σ vs ∧ tYes σ2 H2 fun b H3 =>
        if b = true then te σ2 H3 fun y H4 => ∃ acc, H4 D = some (.lst acc) ∧ acc.length < sizeLine ∧ Nx (upd H4 D (.lst (acc ++ [y]))) else Nx H3) := by
  refine lc_list (xs := xs) (fun i H => Same H1 H ∧ H D = some (.lst (ys.take i))) ⟨grow nD, upd_same⟩ (fun i H _ p => p.1.seq hs) (fun i x H hx p => ?_) (fun H p => hd H p.1 ?_)
  · have hi : i < xs.length := (List.getElem?_eq_some_iff.mp hx).1
    have hiy : i < ys.length := by omega
    refine ⟨hw x, ?_⟩
    unfold tYes
    dsimp only
    rw [if_pos rfl]
    refine turn i x ys[i] H _ hx (List.getElem?_eq_getElem hiy) p.1 fun H' sm => ⟨ys.take i, sm _ _ p.2, ?_, ?_, ?_⟩
    · rw [List.length_take]; omega
    · exact (p.1.trans sm).over nD (.lst (sm _ _ p.2))
    · rw [upd_same, List.take_add_one, List.getElem?_eq_getElem hiy]
      rfl
  · have := p.2
    rw [← hy, List.take_length] at this
    exact this
theorem lc_rng {lo : Int} {n : Nat} {ys : List V} {te : TE} {vs : List Nat} {σ : L2.St} {H1 : Hp} {D : Addr} {j : Nat} {Qd : Hp → Prop} (nD : H1 D = none) (hy : ys.length = n) (hz : n ≤ sizeLine)
    (hw : ∀ x, wipe ((wipe σ vs).set j (some x)) vs = wipe σ vs)
    (turn : ∀ (i : Nat) (y : V) (H : Hp) (R : V → Hp → Prop), i < n → ys[i]? = some y → Same H1 H → (∀ H', Same H H' → R y H') → te ((wipe σ vs).set j (some (.int (lo + i)))) H R) (hd : ∀ H', Same H1 H' → H' D = some (.lst ys) → Qd H') :
    ∃ W : Nat → Nat → Hp → Prop, (∃ m, W 0 m (upd H1 D (.lst []))) ∧ ∀ i m H, W i m H →
      ((Itr lo n).stop i H ∧ Qd H) ∨ ((Itr lo n).go i H ∧ ∃ Nx : Hp → Prop, (∀ H', Nx H' → ∃ m', m' < m ∧ W (i + 1) m' H') ∧ ∀ x H', (Itr lo n).yld i H x H' → gName j x (wipe σ vs) H' fun σ2 H2 => wipe σ2 vs = wipe σ vs ∧ tYes σ2 H2 fun b H3 =>
        if b = true then te σ2 H3 fun y H4 => ∃ acc, H4 D = some (.lst acc) ∧ acc.length < sizeLine ∧ Nx (upd H4 D (.lst (acc ++ [y]))) else Nx H3) := by
  refine lc_range (fun i H => Same H1 H ∧ H D = some (.lst (ys.take i))) ⟨grow nD, upd_same⟩ (fun i H hi p => ?_) (fun H p => hd H p.1 ?_)
  · have hiy : i < ys.length := by omega
    refine ⟨hw _, ?_⟩
    unfold tYes
    dsimp only
    rw [if_pos rfl]
    refine turn i ys[i] H _ hi (List.getElem?_eq_getElem hiy) p.1 fun H' sm => ⟨ys.take i, sm _ _ p.2, ?_, ?_, ?_⟩
    · rw [List.length_take]; omega
    · exact (p.1.trans sm).over nD (.lst (sm _ _ p.2))
    · rw [upd_same, List.take_add_one, List.getElem?_eq_getElem hiy]
      rfl
  · have := p.2
    rw [← hy, List.take_length] at this
    exact this
end Fc

namespace Fc
open PySem PySem.Spec L2 PyProof.Rows
variable [LamNames]
/-! ### [e for x, y in zip(t, u)] over tuples, its items told by a row -/
theorem lc_zip {K : PySem.W.Frag} {a b : Addr} {xs ys zs : List V} {te : TE} {vs : List Nat} {σ : L2.St} {H1 : Hp} {D : Addr} {j k : Nat} {Qd : Hp → Prop} (nD : H1 D = none) (ha : SqT K H1 a xs) (hb : SqT K H1 b ys) (hy : ys.length = xs.length) (hzl : zs.length = xs.length) (hz : xs.length ≤ sizeLine)
    (hw : ∀ x y, wipe (((wipe σ vs).set j (some x)).set k (some y)) vs = wipe σ vs)
    (turn : ∀ (i : Nat) (x y z : V) (H : Hp) (R : V → Hp → Prop), xs[i]? = some x → ys[i]? = some y → zs[i]? = some z → Same H1 H → (∀ H', Same H H' → R z H') → te (((wipe σ vs).set j (some x)).set k (some y)) H R) (hd : ∀ H', Same H1 H' → H' D = some (.lst zs) → Qd H') :
    ∃ W : Nat → Nat → Hp → Prop, (∃ m, W 0 m (upd H1 D (.lst []))) ∧ ∀ i m H, W i m H →
      ((RZ.ItzT K a b).stop i H ∧ Qd H) ∨ ((RZ.ItzT K a b).go i H ∧ ∃ Nx : Hp → Prop, (∀ H', Nx H' → ∃ m', m' < m ∧ W (i + 1) m' H') ∧ ∀ x H', (RZ.ItzT K a b).yld i H x H' → gTup K 2 (gCons (gName j) (gCons (gName k) gNil)) x (wipe σ vs) H' fun σ2 H2 => wipe σ2 vs = wipe σ vs ∧ tYes σ2 H2 fun b H3 =>
        if b = true then te σ2 H3 fun y H4 => ∃ acc, H4 D = some (.lst acc) ∧ acc.length < sizeLine ∧ Nx (upd H4 D (.lst (acc ++ [y]))) else Nx H3) := by
  refine ⟨fun i m H => m = xs.length - i ∧ i ≤ xs.length ∧ Same H1 H ∧ H D = some (.lst (zs.take i)), ⟨xs.length, rfl, Nat.zero_le _, grow nD, upd_same⟩, ?_⟩
  rintro i m H ⟨rfl, hi, sm, hD⟩
  have qa := keepT sm ha
  have qb := keepT sm hb
  by_cases lt : i < xs.length
  · have ly : i < ys.length := by omega
    have lz : i < zs.length := by omega
    refine .inr ⟨⟨xs, ys, xs[i], ys[i], qa, qb, List.getElem?_eq_getElem lt, List.getElem?_eq_getElem ly⟩, fun H' => Same H1 H' ∧ H' D = some (.lst (zs.take (i + 1))), fun H' p => ⟨xs.length - (i + 1), by omega, rfl, lt, p.1, p.2⟩, fun v H' yl => ?_⟩
    obtain ⟨T, x, y, rfl, nT, rfl, fx, fy⟩ := yl
    have ex : xs[i]? = some x := fx xs qa
    have ey : ys[i]? = some y := fy ys qb
    refine ⟨T, [x, y], rfl, SqT.of upd_same, rfl, x, [y], rfl, y, [], rfl, rfl, hw x y, ?_⟩
    unfold tYes
    dsimp only
    rw [if_pos rfl]
    have sT : Same H (upd H T (.tup [x, y])) := grow nT
    refine turn i x y zs[i] _ _ ex ey (List.getElem?_eq_getElem lz) (sm.trans sT) fun H' e => ⟨zs.take i, e _ _ (sT _ _ hD), ?_, ?_, ?_⟩
    · rw [List.length_take]; omega
    · exact (sm.trans (sT.trans e)).over nD (.lst (e _ _ (sT _ _ hD)))
    · rw [upd_same, List.take_add_one, List.getElem?_eq_getElem lz]
      rfl
  · have e : i = xs.length := by omega
    subst e
    refine .inl ⟨⟨xs, ys, qa, qb, .inl (Nat.le_refl _)⟩, hd H sm ?_⟩
    rw [hD, ← hzl, List.take_length]
end Fc

namespace Fc
open PySem PySem.Spec L2 PyProof.Rows
variable [LamNames]
/-! ### lists that a def made itself -/
theorem keepT_lst {K : PySem.W.Frag} {H : Hp} {p t : Addr} {xs ys zs : List V} (h : SqT K H t xs) (e : H p = some (.lst ys)) : SqT K (upd H p (.lst zs)) t xs := by
  rcases h with (h | ⟨o, h⟩) | h
  · refine .inl (.inl ?_)
    rw [upd_ne (fun z => by rw [z, e] at h; cases h)]
    exact h
  · refine .inl (.inr ⟨o, ?_⟩)
    rw [upd_ne (fun z => by rw [z, e] at h; cases h)]
    exact h
  · exact .inr h
theorem keep_lst {H H' : Hp} {p : Addr} {zs : List V} (e : Same H H') (n : H p = none) (nc : NC (H' p) := by exact NC.of (by assumption) (by trivial)) : Same H (upd H' p (.lst zs)) := e.over n nc
theorem got {ns : List Int} {i : Nat} {x : V} (h : (ns.map V.int)[i]? = some x) : ∃ n, ns[i]? = some n ∧ x = .int n := by
  rw [List.getElem?_map] at h
  cases e : ns[i]? with
  | none => rw [e] at h; cases h
  | some n =>
    rw [e] at h
    exact ⟨n, rfl, (Option.some.inj h).symm⟩
theorem drop_head {S : List Int} {k : Nat} {x : Int} {r : List Int} (h : S.drop k = x :: r) : S[k]? = some x := by
  have := congrArg (·[0]?) h
  simpa [List.getElem?_drop] using this
theorem drop_more {S : List Int} {k : Nat} {x : Int} {r : List Int} (h : S.drop k = x :: r) : S.drop (k + 1) = r := by
  have := congrArg (·.drop 1) h
  simpa [List.drop_drop] using this
/-! ### the bytes of a number -/
def numB (n : Int) : List Int := if 127 < n then (n % 128 + 128) :: numB (n / 128) else [n]
termination_by n.toNat
decreasing_by omega
theorem numB_big {n : Int} (h : 127 < n) : numB n = (n % 128 + 128) :: numB (n / 128) := by
  conv => lhs; rw [numB]
  rw [if_pos h]
theorem numB_small {n : Int} (h : ¬ 127 < n) : numB n = [n] := by
  rw [numB, if_neg h]
theorem numB_len : ∀ (k : Nat) (n : Int), 0 ≤ n → n < 128 ^ (k + 1) → (numB n).length ≤ k + 1
  | 0, n, h0, h1 => by
    have : n < 128 := h1
    rw [numB_small (by omega)]
    simp
  | k + 1, n, h0, h1 => by
    by_cases z : 127 < n
    · rw [numB_big z, List.length_cons]
      have e : (128 : Int) ^ (k + 1 + 1) = 128 ^ (k + 1) * 128 := Int.pow_succ _ _
      have := numB_len k (n / 128) (by omega) (by
        rw [e] at h1
        exact Int.ediv_lt_of_lt_mul (by decide) h1)
      omega
    · rw [numB_small z]
      simp
theorem numB_few {n : Int} (h0 : 0 ≤ n) (h1 : n < 4398046511104) : (numB n).length ≤ 6 := numB_len 5 n h0 (by
  have : (128 : Int) ^ (5 + 1) = 4398046511104 := by decide
  rw [this]
  exact h1)
/-! ### fixed bytes -/
def low : Nat → Int → List Int
  | 0, _ => []
  | k + 1, n => n % 256 :: low k (n / 256)
def sh : Nat → Int → Int
  | 0, n => n
  | k + 1, n => sh k (n / 256)
theorem low_len : ∀ (k : Nat) (n : Int), (low k n).length = k
  | 0, _ => rfl
  | k + 1, n => by rw [low, List.length_cons, low_len]
theorem low_more : ∀ (k : Nat) (n : Int), low (k + 1) n = low k n ++ [sh k n % 256]
  | 0, n => rfl
  | k + 1, n => by
    rw [low, low_more k (n / 256)]
    rfl
theorem sh_more : ∀ (k : Nat) (n : Int), sh (k + 1) n = sh k n / 256
  | 0, n => rfl
  | k + 1, n => by
    show sh (k + 1) (n / 256) = sh k (n / 256) / 256
    rw [sh_more k (n / 256)]
def val256 (l : List Int) : Int := l.foldl (fun x b => x * 256 + b) 0
theorem val_low : ∀ (k : Nat) (n : Int), 0 ≤ n → n < 256 ^ k → val256 (low k n).reverse = n
  | 0, n, h0, h1 => by
    have : n < 1 := h1
    show (0 : Int) = n
    omega
  | k + 1, n, h0, h1 => by
    have e : (256 : Int) ^ (k + 1) = 256 ^ k * 256 := Int.pow_succ _ _
    have ih := val_low k (n / 256) (by omega) (by
      rw [e] at h1
      exact Int.ediv_lt_of_lt_mul (by decide) h1)
    rw [low, List.reverse_cons]
    unfold val256 at ih ⊢
    rw [List.foldl_append, ih]
    show n / 256 * 256 + n % 256 = n
    omega
theorem val_take {l : List Int} {i : Nat} {x : Int} (h : l[i]? = some x) : val256 (l.take (i + 1)) = val256 (l.take i) * 256 + x := by
  unfold val256
  rw [List.take_add_one, h, Option.toList_some, List.foldl_append]
  rfl
end Fc

namespace Fc
open PySem PySem.Spec L2 PyProof.Rows
variable [LamNames]
/-! ### t * k of any small k -/
theorem mul_self (l : Addr) (its : Array Value) (n : Nat) (dd : Option Addr) (sl : Array (Option Value)) (k : Int) (u : Tok) (c0 : (decide (k < -(2 ^ 63)) || decide (k ≥ 2 ^ 63)) = false) (c1 : (its.isEmpty || k == 1) = true) :
    Meets (Builtin.«tuple.__mul__» ⟨[.ref l, .int k u], []⟩) (fun _ R s => s.heap.get? l = some { cls := .type "tuple", dict := dd, data := .seq its n, slots := sl } ∧ R (.ok (.ret (Value.ref l))) s) :=
  .of_wp fun prog w A R s h => by
    obtain ⟨hp, g, d, tk, os⟩ := s
    obtain ⟨hl, h⟩ := h
    have f1 := AutoSeq1.idx_int
    wp_walk using wpAny_loadPart' hl
    repeat (first
      | (refine wpAny_ite_false (decide_eq_false (by rw [c0]; exact Bool.false_ne_true)) ?_; wp_walk using wpAny_loadPart' hl)
      | (refine wpAny_ite_true (decide_eq_true c1) ?_; wp_walk using wpAny_loadPart' hl))
    exact ⟨_, rfl, h⟩
theorem mul_none (l : Addr) (its : Array Value) (n : Nat) (dd : Option Addr) (sl : Array (Option Value)) (k : Int) (u : Tok) (c0 : (decide (k < -(2 ^ 63)) || decide (k ≥ 2 ^ 63)) = false) (c1 : (its.isEmpty || k == 1) = false) (c2 : (decide (k ≤ 0) || its.isEmpty) = true) :
    Meets (Builtin.«tuple.__mul__» ⟨[.ref l, .int k u], []⟩) (fun _ R s => s.heap.get? l = some { cls := .type "tuple", dict := dd, data := .seq its n, slots := sl } ∧
      R (.ok (.ret (Value.ref s.heap.objs.size))) { s with heap := s.heap.push { cls := Value.type "tuple", data := Data.seq #[] }, toks := s.toks }) :=
  .of_wp fun prog w A R s h => by
    obtain ⟨hp, g, d, tk, os⟩ := s
    obtain ⟨hl, h⟩ := h
    have f1 := AutoSeq1.idx_int
    wp_walk using wpAny_loadPart' hl
    repeat (first
      | (refine wpAny_ite_false (decide_eq_false (by rw [c0]; exact Bool.false_ne_true)) ?_; wp_walk using wpAny_loadPart' hl)
      | (refine wpAny_ite_false (decide_eq_false (by rw [c1]; exact Bool.false_ne_true)) ?_; wp_walk using wpAny_loadPart' hl)
      | (refine wpAny_ite_true (decide_eq_true c2) ?_; wp_walk using wpAny_loadPart' hl))
    exact ⟨_, rfl, h⟩
def rRepU (K : PySem.W.Frag) : R2 := fun x y H Q => ∃ l k xs, x = .ref l ∧ y = .int k ∧ SqT K H l xs ∧ 0 ≤ k ∧ k ≤ 1000 ∧ xs.length ≤ 1000 ∧ Tups K H (List.replicate k.toNat xs).flatten Q
section
variable {X : Cx}
theorem op_repU : OpR X (binaryOp .Mult) (rRepU X.K) := by
  intro pins s σ H x y v u Q I rx ry h
  obtain ⟨l, k, xs, rfl, rfl, hT, k0, k1, few, q⟩ := h
  by_cases hn : xs = [] ∨ k < 2
  · cases rx
    obtain ⟨t, rfl⟩ := ry
    obtain ⟨its, r, ⟨⟨cls, dd, data, sl⟩, ho, hc, n, hd⟩, hs⟩ := I.tuple hT
    simp only at hc hd
    subst hc hd
    have hle : its.length = xs.length := r.length.symm
    have c0 : (decide (k < -(2 ^ 63)) || decide (k ≥ 2 ^ 63)) = false := by
      rw [decide_eq_false (by omega), decide_eq_false (by omega)] <;> rfl
    by_cases he : xs = [] ∨ k = 1
    · have c1 : (its.toArray.isEmpty || k == 1) = true := by
        rcases he with e | e
        · have : its = [] := by
            rw [e] at hle
            exact List.eq_nil_of_length_eq_zero hle
          rw [this]
          rfl
        · rw [e]
          simp
      have ex : xs = (List.replicate k.toNat xs).flatten := by
        rcases he with e | e
        · rw [e]
          simp
        · rw [e]
          simp
      refine wpAny_binaryOp_repeat_ref (T := "tuple") (U := "int") (by decide) ⟨_, ho, rfl⟩ (fun s' => typeIs_int s' k t) noFill_tuple_mul F.fills_int_mul F.slot_int_rmul repeat_tuple F.slot_int_index.lookup
        (call_meets F.slot_int_rmul (typeIs_int s k t) F.entry_int_rmul (F.args_int_rmul_2 _ _) (int_rmul_tuple k t l its.toArray n dd sl)
          ⟨ho, rfl, ⟨_, ho, rfl⟩, call_meets F.slot_tuple_mul ⟨_, ho, rfl⟩ F.entry_tuple_mul (F.args_tuple_mul_2 _ _) (mul_self l its.toArray n dd sl k t c0 c1) ⟨ho, ?_⟩⟩)
      exact ⟨.ref l, H, I, rfl, q.old hT ex⟩
    · have hx : xs ≠ [] := fun e => he (.inl e)
      have h1 : k ≠ 1 := fun e => he (.inr e)
      have h0 : k = 0 := by
        rcases hn with e | e
        · exact absurd e hx
        · omega
      have hi : its.toArray.isEmpty = false := by
        cases its with
        | nil =>
          exact absurd (List.eq_nil_of_length_eq_zero hle.symm) hx
        | cons a b => rfl
      have c1 : (its.toArray.isEmpty || k == 1) = false := by
        rw [hi, h0]
        rfl
      have c2 : (decide (k ≤ 0) || its.toArray.isEmpty) = true := by
        rw [h0]
        rfl
      have ex : (List.replicate k.toNat xs).flatten = [] := by
        rw [h0]
        rfl
      rw [ex] at q
      refine wpAny_binaryOp_repeat_ref (T := "tuple") (U := "int") (by decide) ⟨_, ho, rfl⟩ (fun s' => typeIs_int s' k t) noFill_tuple_mul F.fills_int_mul F.slot_int_rmul repeat_tuple F.slot_int_index.lookup
        (call_meets F.slot_int_rmul (typeIs_int s k t) F.entry_int_rmul (F.args_int_rmul_2 _ _) (int_rmul_tuple k t l its.toArray n dd sl)
          ⟨ho, rfl, ⟨_, ho, rfl⟩, call_meets F.slot_tuple_mul ⟨_, ho, rfl⟩ F.entry_tuple_mul (F.args_tuple_mul_2 _ _) (mul_none l its.toArray n dd sl k t c0 c1 c2) ⟨ho, ?_⟩⟩)
      refine ⟨.ref s.heap.objs.size, _, I.laid (t' := s.toks) (o := .tup []) (fun b ob z => Heap.get?_push_of_some _ z) (Nat.le_refl _) ?_, rfl, q.new (I.hok.fresh (Nat.le_refl _))⟩
      exact ⟨Nat.zero_le _, [], .nil, IsTup.new _ _⟩
  · exact op_repT pins s σ H _ _ v u Q I rx ry ⟨l, k, xs, rfl, rfl, hT, fun e => hn (.inl e), by omega, k1, few, fun p z => q.new z⟩
/-- as rRepU, for more -/
def rRepV (K : PySem.W.Frag) : R2 := fun x y H Q => ∃ l k xs, x = .ref l ∧ y = .int k ∧ SqT K H l xs ∧ 0 ≤ k ∧ k ≤ 1000000 ∧ (xs.length : Int) * k ≤ 1000000 ∧ Tups K H (List.replicate k.toNat xs).flatten Q
theorem op_repV : OpR X (binaryOp .Mult) (rRepV X.K) := by
  intro pins s σ H x y v u Q I rx ry h
  obtain ⟨l, k, xs, rfl, rfl, hT, k0, k1, few, q⟩ := h
  by_cases sm : k ≤ 1000 ∧ xs.length ≤ 1000
  · exact op_repU pins s σ H _ _ v u Q I rx ry ⟨l, k, xs, rfl, rfl, hT, k0, sm.1, sm.2, q⟩
  · by_cases hn : xs = [] ∨ k < 2
    · rcases hn with e | e
      · subst e
        cases rx
        obtain ⟨t, rfl⟩ := ry
        obtain ⟨its, r, ⟨⟨cls, dd, data, sl⟩, ho, hc, n, hd⟩, hs⟩ := I.tuple hT
        simp only at hc hd
        subst hc hd
        have e0 : its = [] := List.eq_nil_of_length_eq_zero r.length.symm
        have c0 : (decide (k < -(2 ^ 63)) || decide (k ≥ 2 ^ 63)) = false := by
          rw [decide_eq_false (by omega), decide_eq_false (by omega)] <;> rfl
        have c1 : (its.toArray.isEmpty || k == 1) = true := by rw [e0]; rfl
        refine wpAny_binaryOp_repeat_ref (T := "tuple") (U := "int") (by decide) ⟨_, ho, rfl⟩ (fun s' => typeIs_int s' k t) noFill_tuple_mul F.fills_int_mul F.slot_int_rmul repeat_tuple F.slot_int_index.lookup
          (call_meets F.slot_int_rmul (typeIs_int s k t) F.entry_int_rmul (F.args_int_rmul_2 _ _) (int_rmul_tuple k t l its.toArray n dd sl)
            ⟨ho, rfl, ⟨_, ho, rfl⟩, call_meets F.slot_tuple_mul ⟨_, ho, rfl⟩ F.entry_tuple_mul (F.args_tuple_mul_2 _ _) (mul_self l its.toArray n dd sl k t c0 c1) ⟨ho, ?_⟩⟩)
        exact ⟨.ref l, H, I, rfl, q.old hT (by simp)⟩
      · have lx : 1000 < xs.length := by omega
        have hk : k = 0 ∨ k = 1 := by omega
        cases rx
        obtain ⟨t, rfl⟩ := ry
        obtain ⟨its, r, ⟨⟨cls, dd, data, sl⟩, ho, hc, n, hd⟩, hs⟩ := I.tuple hT
        simp only at hc hd
        subst hc hd
        have hle : its.length = xs.length := r.length.symm
        have c0 : (decide (k < -(2 ^ 63)) || decide (k ≥ 2 ^ 63)) = false := by
          rw [decide_eq_false (by omega), decide_eq_false (by omega)] <;> rfl
        have hi : its.toArray.isEmpty = false := by
          cases its with
          | nil =>
            have : xs.length = 0 := hle.symm
            omega
          | cons a b => rfl
        rcases hk with rfl | rfl
        · refine wpAny_binaryOp_repeat_ref (T := "tuple") (U := "int") (by decide) ⟨_, ho, rfl⟩ (fun s' => typeIs_int s' 0 t) noFill_tuple_mul F.fills_int_mul F.slot_int_rmul repeat_tuple F.slot_int_index.lookup
            (call_meets F.slot_int_rmul (typeIs_int s 0 t) F.entry_int_rmul (F.args_int_rmul_2 _ _) (int_rmul_tuple 0 t l its.toArray n dd sl)
              ⟨ho, rfl, ⟨_, ho, rfl⟩, call_meets F.slot_tuple_mul ⟨_, ho, rfl⟩ F.entry_tuple_mul (F.args_tuple_mul_2 _ _) (mul_none l its.toArray n dd sl 0 t c0 (by rw [hi]; rfl) rfl) ⟨ho, ?_⟩⟩)
          refine ⟨.ref s.heap.objs.size, _, I.laid (t' := s.toks) (o := .tup []) (fun b ob z => Heap.get?_push_of_some _ z) (Nat.le_refl _) ?_, rfl, Tups.new (xs := []) q (I.hok.fresh (Nat.le_refl _))⟩
          exact ⟨Nat.zero_le _, [], .nil, IsTup.new _ _⟩
        · refine wpAny_binaryOp_repeat_ref (T := "tuple") (U := "int") (by decide) ⟨_, ho, rfl⟩ (fun s' => typeIs_int s' 1 t) noFill_tuple_mul F.fills_int_mul F.slot_int_rmul repeat_tuple F.slot_int_index.lookup
            (call_meets F.slot_int_rmul (typeIs_int s 1 t) F.entry_int_rmul (F.args_int_rmul_2 _ _) (int_rmul_tuple 1 t l its.toArray n dd sl)
              ⟨ho, rfl, ⟨_, ho, rfl⟩, call_meets F.slot_tuple_mul ⟨_, ho, rfl⟩ F.entry_tuple_mul (F.args_tuple_mul_2 _ _) (mul_self l its.toArray n dd sl 1 t c0 (by rw [hi]; rfl)) ⟨ho, ?_⟩⟩)
          exact ⟨.ref l, H, I, rfl, q.old hT (by simp)⟩
    · have k2 : 2 ≤ k := by omega
      have hx : xs ≠ [] := fun e => hn (.inl e)
      cases rx
      obtain ⟨t, rfl⟩ := ry
      obtain ⟨its, r, ⟨⟨cls, dd, data, sl⟩, ho, hc, n, hd⟩, hs⟩ := I.tuple hT
      simp only at hc hd
      subst hc hd
      have hle : its.length = xs.length := r.length.symm
      have hi : its.toArray.isEmpty = false := by
        cases its with
        | nil => exact absurd (List.eq_nil_of_length_eq_zero hle.symm) hx
        | cons a b => rfl
      have hsz0 : its.toArray.size = xs.length := by rw [List.size_toArray, hle]
      have flenN : k.toNat * xs.length ≤ 1000000 := by
        have e : ((k.toNat * xs.length : Nat) : Int) = (xs.length : Int) * k := by
          rw [Int.natCast_mul, Int.toNat_of_nonneg k0, Int.mul_comm]
        omega
      have hm : ((its.toArray.size : Nat) : Int) * k ≤ 1000000 := by rw [hsz0]; exact few
      have flen : (List.replicate k.toNat its).flatten.length ≤ sizeLine := by
        rw [PyProof.Rows.lm_len_rep_flat, hle, sizeLine_eq]
        omega
      have c0 : (decide (k < -(2 ^ 63)) || decide (k ≥ 2 ^ 63)) = false := by
        rw [decide_eq_false (by omega), decide_eq_false (by omega)] <;> rfl
      have c1 : (its.toArray.isEmpty || k == 1) = false := by
        rw [hi, Bool.false_or]
        exact beq_eq_false_iff_ne.mpr (by omega)
      have c2 : (decide (k ≤ 0) || its.toArray.isEmpty) = false := by
        rw [hi, Bool.or_false]
        exact decide_eq_false (by omega)
      have c4 : Builtin.Tuple.tupleTooMany (((its.toArray.size : Nat) : Int) * k) = false := by
        unfold Builtin.Tuple.tupleTooMany
        rw [sizeLine_eq]
        exact decide_eq_false (by omega)
      refine wpAny_binaryOp_repeat_ref (T := "tuple") (U := "int") (by decide) ⟨_, ho, rfl⟩ (fun s' => typeIs_int s' k t) noFill_tuple_mul F.fills_int_mul F.slot_int_rmul repeat_tuple F.slot_int_index.lookup
        (call_meets F.slot_int_rmul (typeIs_int s k t) F.entry_int_rmul (F.args_int_rmul_2 _ _) (int_rmul_tuple k t l its.toArray n dd sl)
          ⟨ho, rfl, ⟨_, ho, rfl⟩, call_meets F.slot_tuple_mul ⟨_, ho, rfl⟩ F.entry_tuple_mul (F.args_tuple_mul_2 _ _) (tuple_mulW l its.toArray n dd sl k t c0 c1 c2 (by omega) c4 (by rw [size_rep, List.size_toArray]; exact flen)) ⟨ho, ?_⟩⟩)
      rw [size_rep]
      refine ⟨.ref s.heap.objs.size, _, I.laid (t' := s.toks) (o := .tup (List.replicate k.toNat xs).flatten) (fun b ob z => Heap.get?_push_of_some _ z) (Nat.le_refl _) ?_, rfl, q.new (I.hok.fresh (Nat.le_refl _))⟩
      refine ⟨?_, _, r.rep k.toNat, IsTup.new _ _⟩
      rw [PyProof.Rows.lm_len_rep_flat, sizeLine_eq]
      omega
end
end Fc

namespace Fc
open PySem PySem.Spec L2 PyProof.Rows
variable [LamNames]
/-! ### own errors, and defs that raise them -/
abbrev veMro : List Value := [.type "ValueError", .type "Exception", .type "BaseException", .type "object"]
structure Exc (K : PySem.W.Frag) (mg : Str → Option Value) (x : Str) (C : Addr) : Prop where
  g : mg x = some (.ref C)
  x : PySem.W.excIn K C veMro "ValueError.__new__" = true
  k : PySem.W.keepIn K (.ref C) = true
  s : PySem.W.subIn K (.ref C) (.type "BaseException") = some true
  t : PySem.W.typeIn K (.ref C) = some (.type "type")
  i : PySem.W.isClsIn K C = true
theorem caught {K : PySem.W.Frag} {mg : Str → Option Value} {x : Str} {B C : Addr} {b : Bool} (e : Exc K mg x C) (h : PySem.W.subIn K (.ref B) (.ref C) = some b) : PySem.W.exmOne K (.ref B) (.ref C) = some b := by
  unfold PySem.W.exmOne
  rw [if_pos (by rw [e.s]; rfl)]
  show (if ((PySem.W.clsIn K C).isSome && PySem.W.typeIn K (.ref C) == some (.type "type")) = true then PySem.W.subIn K (.ref B) (.ref C) else none) = some b
  rw [if_pos (by rw [show (PySem.W.clsIn K C).isSome = true from e.i, e.t]; rfl), h]
section
variable {X : Cx}
theorem ps_raiseC {W : WX} {x m : Str} {C : Addr} {j : Nat} {p p2 p3 pos : Pos} (hc : X.calm = true) (tk : Takes X W) (e : Exc X.K X.mg x C) (hg : Gl X x := by rfl) (hdb : (x == ("__debug__" : Str)) = false := by decide) :
    PS X (.Raise (some (.Call (.Name x p) [.Constant (.str m) j p2] [] p3)) none pos) (fun _ σ H => W (.ref C) none σ H) :=
  ps_raise hc tk (pmk_own PySem.F.excBase_ValueError e.x e.g e.k (raises_own e.s e.t) hg hdb)
end
/-- as Cal, of a def that may raise -/
structure CalX (P : Program) (w : World) (K : PySem.W.Frag) (mg : Str → Option Value) (base : Heap) (x : Str) (k : Nat) (ps : List Str) (sp : Sp) : Prop where
  ex : ∃ f fd, FnOk P w K mg base (L2.CX P w) k f fd ps sp ∧ mg x = some (.ref f) ∧ PySem.W.keepIn K (.ref f) = true ∧ Binds K fd ps []
section
variable {X : Cx} {x : Str} {k : Nat} {ps : List Str} {sp : Sp} {p pos : Pos} {e : Expr} {es : List Expr} {t : TA}
theorem pe_cx {E : XK} (C : CalX X.prog X.w X.K X.mg X.base x k ps sp) (hr : Room k X.A) (tk : Takes X (fun cls d _ H => E cls d H)) (ha : PA X (e :: es) t) (hg : Gl X x := by rfl) (hdb : (x == ("__debug__" : Str)) = false := by decide)
    (he : starEach (e :: es) X.env = (false, eval e X.env) :: starEach es X.env := by rfl) (hpl : (backTo pos (starEach es X.env)).any (·.1) = false := by rfl) : PE X (.Call (.Name x p) (e :: es) [] pos) (tCall sp [] E t) := by
  obtain ⟨f, fd, F, m, kp, b⟩ := C.ex
  exact pe_call F hr hg m kp b .nil (passes_call tk fun _ _ _ _ h => h) ha hdb he hpl
theorem pe_cn (C : CalX X.prog X.w X.K X.mg X.base x k ps sp) (hr : Room k X.A) (ha : PA X (e :: es) t) (hg : Gl X x := by rfl) (hdb : (x == ("__debug__" : Str)) = false := by decide)
    (he : starEach (e :: es) X.env = (false, eval e X.env) :: starEach es X.env := by rfl) (hpl : (backTo pos (starEach es X.env)).any (·.1) = false := by rfl) : PE X (.Call (.Name x p) (e :: es) [] pos) (tCall sp [] E0 t) := by
  obtain ⟨f, fd, F, m, kp, b⟩ := C.ex
  exact pe_call F hr hg m kp b .nil passL ha hdb he hpl
theorem pe_cs {W : WX} (C : CalX X.prog X.w X.K X.mg X.base x k ps sp) (hr : Room k X.A) (tk : Takes X W) (ha : PA X (e :: es) t) (hg : Gl X x := by rfl) (hdb : (x == ("__debug__" : Str)) = false := by decide)
    (he : starEach (e :: es) X.env = (false, eval e X.env) :: starEach es X.env := by rfl) (hpl : (backTo pos (starEach es X.env)).any (·.1) = false := by rfl) : PE X (.Call (.Name x p) (e :: es) [] pos) (tCallS sp (WE W) t) := by
  obtain ⟨f, fd, F, m, kp, b⟩ := C.ex
  exact pe_callS F hr hg m kp b (fun σ => passAt tk σ) ha hdb he hpl
end
end Fc

namespace Fc
open PySem PySem.Spec L2 PyProof.Rows
variable [LamNames]
/-! ### data of tuples, in heaps that grow -/
mutual
theorem dpKeep {K : PySem.W.Frag} {H H' : Hp} (e : Same H H') : ∀ {d : PyData} {v : V}, Dp K H v d → Dp K H' v d
  | .none, _, .non => .non
  | .bool _, _, .bl b => .bl b
  | .int _, _, .int i => .int i
  | .str _, _, .str x => .str x
  | .list _, _, .lst h hs => .lst (e.seq h) (dpKeepAll e hs)
  | .tuple _, _, .tup h hs => .tup (keepT e h) (dpKeepAll e hs)
theorem dpKeepAll {K : PySem.W.Frag} {H H' : Hp} (e : Same H H') : ∀ {ds : List PyData} {vs : List V}, DpAll K H vs ds → DpAll K H' vs ds
  | [], _, .nil => .nil
  | _ :: _, _, .cons h hs => .cons (dpKeep e h) (dpKeepAll e hs)
end
mutual
def tupsOnly : PyData → Bool
  | .none | .bool _ | .int _ | .str _ => true
  | .tuple ds => decide (ds.length ≤ 100000) && tupsAll ds
  | .list _ | .dict _ => false
def tupsAll : List PyData → Bool
  | [] => true
  | d :: r => tupsOnly d && tupsAll r
end
theorem tupsAll_get : ∀ {ds : List PyData} {i : Nat} {d : PyData}, tupsAll ds = true → ds[i]? = some d → tupsOnly d = true
  | [], _, _, _, h => by cases h
  | x :: r, 0, d, h, e => by
    rw [tupsAll, Bool.and_eq_true] at h
    cases e
    exact h.1
  | x :: r, i + 1, d, h, e => by
    rw [tupsAll, Bool.and_eq_true] at h
    exact tupsAll_get h.2 e
theorem depth_get : ∀ {ds : List PyData} {i : Nat} {d : PyData}, ds[i]? = some d → PyData.depth d ≤ PyData.depthAll ds
  | [], _, _, h => by cases h
  | x :: r, 0, d, e => by
    cases e
    rw [PyData.depthAll]
    exact Nat.le_max_left _ _
  | x :: r, i + 1, d, e => by
    rw [PyData.depthAll]
    exact Nat.le_trans (depth_get (ds := r) e) (Nat.le_max_right _ _)
theorem dpLen {K : PySem.W.Frag} {H : Hp} : ∀ {vs : List V} {ds : List PyData}, DpAll K H vs ds → vs.length = ds.length
  | _, _, .nil => rfl
  | _, _, .cons _ hs => congrArg (· + 1) (dpLen hs)
theorem dpGet {K : PySem.W.Frag} {H : Hp} : ∀ {vs : List V} {ds : List PyData} {i : Nat} {v : V}, DpAll K H vs ds → vs[i]? = some v → ∃ d, ds[i]? = some d ∧ Dp K H v d
  | _, _, _, _, .nil, h => by cases h
  | _, _, 0, _, .cons h hs, e => by
    cases e
    exact ⟨_, rfl, h⟩
  | _, _, i + 1, _, .cons h hs, e => dpGet (i := i) hs e
theorem dpInts {K : PySem.W.Frag} {H : Hp} : ∀ (A : List Int), DpAll K H (A.map V.int) (A.map PyData.int)
  | [] => .nil
  | a :: r => .cons (.int a) (dpInts r)
theorem tupsAll_ints : ∀ (A : List Int), tupsAll (A.map PyData.int) = true
  | [] => rfl
  | a :: r => by rw [List.map_cons, tupsAll, tupsAll_ints r]; rfl
theorem depthAll_ints : ∀ (A : List Int), PyData.depthAll (A.map PyData.int) = 0
  | [] => rfl
  | a :: r => by rw [List.map_cons, PyData.depthAll, depthAll_ints r]; rfl
/-- a tuple of whole numbers, as data -/
abbrev dInts (A : List Int) : PyData := .tuple (A.map PyData.int)
theorem dpTup {K : PySem.W.Frag} {H : Hp} {p : Addr} {A : List Int} (h : SqT K H p (A.map V.int)) : Dp K H (.ref p) (dInts A) := .tup h (dpInts A)
theorem dInts_ok (A : List Int) (h : A.length ≤ 100000) : tupsOnly (dInts A) = true ∧ PyData.depth (dInts A) ≤ 1 := ⟨by
  rw [tupsOnly, tupsAll_ints, decide_eq_true (by rw [List.length_map]; exact h)]
  rfl, by
  show PyData.depthAll (A.map PyData.int) + 1 ≤ 1
  rw [depthAll_ints]
  exact Nat.le_refl 1⟩
end Fc

namespace Fc
open PySem PySem.Spec L2 PyProof.Rows
variable [LamNames]
/-! ### tuples of whole numbers, compared -/
theorem lay_ints : ∀ (A : List Int), PyData.canLayAll0 (A.map PyData.int) = true
  | [] => by simp [PyData.canLayAll0]
  | a :: r => by
    rw [List.map_cons, PyData.canLayAll0, lay_ints r]
    simp [PyData.canLay0]
theorem deep_ints : ∀ (A : List Int), PyData.depthAll (A.map PyData.int) = 0
  | [] => by simp [PyData.depthAll]
  | a :: r => by
    rw [List.map_cons, PyData.depthAll, deep_ints r]
    simp [PyData.depth]
theorem shape_ints (A : List Int) : SeqAt.shaped (.tuple (A.map PyData.int)) = true := by
  unfold SeqAt.shaped
  rw [PyData.canLay0, lay_ints, PyData.depth, deep_ints]
  rfl
theorem dp_all (K : PySem.W.Frag) (H : Hp) : ∀ (A : List Int), DpAll K H (A.map V.int) (A.map PyData.int)
  | [] => .nil
  | a :: r => .cons (.int a) (dp_all K H r)
theorem dp_ints {K : PySem.W.Frag} {H : Hp} {p : Addr} {A : List Int} (h : SqT K H p (A.map V.int)) : Dp K H (.ref p) (.tuple (A.map PyData.int)) := .tup h (dp_all K H A)
theorem eqvAll_ints : ∀ (A B : List Int), PyData.eqvAll (A.map PyData.int) (B.map PyData.int) = decide (A = B)
  | [], [] => by simp [PyData.eqvAll]
  | [], b :: r => by simp [PyData.eqvAll]
  | a :: r, [] => by simp [PyData.eqvAll]
  | a :: r, b :: t => by
    rw [List.map_cons, List.map_cons, PyData.eqvAll, eqvAll_ints r t, Bool.eq_iff_iff]
    simp [PyData.eqv]
theorem eqv_tup (A B : List Int) : PyData.eqv (.tuple (A.map PyData.int)) (.tuple (B.map PyData.int)) = decide (A = B) := by
  rw [← eqvAll_ints]
  simp only [PyData.eqv]
end Fc

namespace Fc
open PySem PySem.Spec L2 PyProof.Rows
variable [LamNames]
/-! ### rows of deeds -/
def Byt (S : List Int) : Prop := ∀ x ∈ S, 0 ≤ x ∧ x < 256
theorem Byt.nil : Byt [] := fun x hx => by cases hx
theorem Byt.app {A B : List Int} (a : Byt A) (b : Byt B) : Byt (A ++ B) := fun x hx => by
  rcases List.mem_append.mp hx with h | h
  · exact a x h
  · exact b x h
theorem Byt.take {A : List Int} (a : Byt A) (k : Nat) : Byt (A.take k) := fun x hx => a x (List.mem_of_mem_take hx)
theorem Byt.drop {A : List Int} (a : Byt A) (k : Nat) : Byt (A.drop k) := fun x hx => a x (List.mem_of_mem_drop hx)
theorem Byt.one {x : Int} (h : 0 ≤ x ∧ x < 256) : Byt [x] := fun y hy => by
  rw [List.mem_singleton.mp hy]
  exact h
theorem Byt.rep {A : List Int} (a : Byt A) (k : Nat) : Byt (List.replicate k A).flatten := fun x hx => by
  obtain ⟨l, hl, hx'⟩ := List.mem_flatten.mp hx
  rw [(List.mem_replicate.mp hl).2] at hx'
  exact a x hx'
def moreB (far : Nat) (B : List Int) : List Int := B ++ [B.getD (B.length - far) 0]
def copyB : Nat → Nat → List Int → List Int
  | 0, _, B => B
  | k + 1, far, B => copyB k far (moreB far B)
theorem copyB_succ : ∀ (k far : Nat) (B : List Int), copyB (k + 1) far B = moreB far (copyB k far B)
  | 0, _, _ => rfl
  | k + 1, far, B => by
    show copyB (k + 1) far (moreB far B) = moreB far (copyB k far (moreB far B))
    exact copyB_succ k far (moreB far B)
theorem copyB_len : ∀ (k far : Nat) (B : List Int), (copyB k far B).length = B.length + k
  | 0, _, _ => rfl
  | k + 1, far, B => by
    show (copyB k far (moreB far B)).length = _
    rw [copyB_len k far, moreB, List.length_append]
    show B.length + 1 + k = B.length + (k + 1)
    omega
theorem moreB_byt {far : Nat} {B : List Int} (b : Byt B) (h : 0 < far) (h2 : far ≤ B.length) : Byt (moreB far B) := by
  refine b.app (Byt.one ?_)
  have lt : B.length - far < B.length := by omega
  rw [List.getD_eq_getElem?_getD, List.getElem?_eq_getElem lt]
  exact b _ (List.getElem_mem lt)
theorem copyB_byt {far : Nat} (h : 0 < far) : ∀ (k : Nat) {B : List Int}, Byt B → far ≤ B.length → Byt (copyB k far B)
  | 0, _, b, _ => b
  | k + 1, B, b, h2 => copyB_byt h k (moreB_byt b h h2) (by
    rw [moreB, List.length_append]
    omega)
def deedsF : Nat → List Int → List Int → Option (List Int)
  | _, [], B => if B.length ≤ 1000 then some B else none
  | 0, _ :: _, _ => none
  | f + 1, n :: r, B => if n ≤ 127 then (if r.length < (n + 1).toNat then none else deedsF f (r.drop (n + 1).toNat) (B ++ r.take (n + 1).toNat))
    else if r = [] then none else if (B.length : Int) ≤ r.headD 0 then none else deedsF f (r.drop 1) (copyB (n - 125).toNat (r.headD 0 + 1).toNat B)
def backF (S : List Int) : Option (List Int) := deedsF S.length S []
theorem deedsF_end {f : Nat} {B : List Int} : deedsF f [] B = if B.length ≤ 1000 then some B else none := by
  cases f <;> rfl
theorem deedsF_lit {f : Nat} {n : Int} {r B : List Int} (h : n ≤ 127) : deedsF (f + 1) (n :: r) B = if r.length < (n + 1).toNat then none else deedsF f (r.drop (n + 1).toNat) (B ++ r.take (n + 1).toNat) := by
  rw [deedsF, if_pos h]
theorem deedsF_back {f : Nat} {n d : Int} {r B : List Int} (h : ¬ n ≤ 127) : deedsF (f + 1) (n :: d :: r) B = if (B.length : Int) ≤ d then none else deedsF f r (copyB (n - 125).toNat (d + 1).toNat B) := by
  rw [deedsF, if_neg h, if_neg (List.cons_ne_nil d r)]
  rfl
theorem deedsF_cut {f : Nat} {n : Int} {B : List Int} (h : ¬ n ≤ 127) : deedsF (f + 1) [n] B = none := by
  rw [deedsF, if_neg h, if_pos rfl]
/-- a body, or None -/
def ShowsO (K : PySem.W.Frag) (H : Hp) (v : V) : Option (List Int) → Prop
  | none => v = .non
  | some B => ∃ t, v = .ref t ∧ SqT K H t (B.map V.int)
def unpF (k : Nat) (S : List Int) : Option (List Int) := if k = 0 then (if S.length ≤ 1000 then some S else none) else backF S
/-- a body, or a text -/
def ShowsR (K : PySem.W.Frag) (H : Hp) (v : V) : Option (List Int) → Prop
  | none => v = .str "refused"
  | some B => ∃ t, v = .ref t ∧ SqT K H t (B.map V.int)
/-- a def that tells a body or raises -/
def OutU (K : PySem.W.Frag) (cB : Addr) (H : Hp) (Q : VK) (E : XK) : Option (List Int) → Prop
  | none => ∀ H', Same H H' → E (.ref cB) none H'
  | some B => Tups K H (B.map V.int) Q
def spUnp (K : PySem.W.Frag) (cB : Addr) : Sp := fun vs H Q E => ∃ (k : Nat) (p : Addr) (S : List Int), vs = [.int (k : Int), .ref p] ∧ k ≤ 1 ∧ SqT K H p (S.map V.int) ∧ Byt S ∧ S.length ≤ 20000 ∧ OutU K cB H Q E (unpF k S)
theorem copy_alike (x : Int) : ∀ (k m : Nat), 0 < m → copyB k 1 (List.replicate m x) = List.replicate (m + k) x
  | 0, m, _ => rfl
  | k + 1, m, h => by
    show copyB k 1 (moreB 1 (List.replicate m x)) = _
    have e : moreB 1 (List.replicate m x) = List.replicate (m + 1) x := by
      unfold moreB
      rw [List.length_replicate, List.getD_eq_getElem?_getD, List.getElem?_replicate, if_pos (by omega), List.replicate_succ']
      rfl
    rw [e, copy_alike x k (m + 1) (by omega), show m + 1 + k = m + (k + 1) by omega]
theorem far_all (x : Int) : ∀ (n f m : Nat), 0 < m → n ≤ f → deedsF f (List.replicate n ([255, 0] : List Int)).flatten (List.replicate m x) = if m + 130 * n ≤ 1000 then some (List.replicate (m + 130 * n) x) else none
  | 0, f, m, _, _ => by
    show deedsF f [] _ = _
    rw [deedsF_end, List.length_replicate]
    rfl
  | n + 1, f, m, h, hf => by
    obtain ⟨g, rfl⟩ : ∃ g, f = g + 1 := ⟨f - 1, by omega⟩
    rw [List.replicate_succ, List.flatten_cons]
    show deedsF (g + 1) (255 :: 0 :: (List.replicate n ([255, 0] : List Int)).flatten) _ = _
    rw [deedsF_back (by decide), List.length_replicate, if_neg (by omega)]
    show deedsF g _ (copyB 130 1 (List.replicate m x)) = _
    rw [copy_alike x 130 m h, far_all x n g (m + 130) (by omega) (by omega), show m + 130 + 130 * n = m + 130 * (n + 1) by omega]
theorem far_begin (x : Int) (n : Nat) : backF ([0, x] ++ (List.replicate n ([255, 0] : List Int)).flatten) = if 1 + 130 * n ≤ 1000 then some (List.replicate (1 + 130 * n) x) else none := by
  unfold backF
  show deedsF ((x :: (List.replicate n ([255, 0] : List Int)).flatten).length + 1) (0 :: x :: (List.replicate n ([255, 0] : List Int)).flatten) [] = _
  rw [deedsF_lit (by decide), if_neg (by rw [List.length_cons]; show ¬ _ < 1; omega)]
  show deedsF _ (List.replicate n ([255, 0] : List Int)).flatten (List.replicate 1 x) = _
  rw [far_all x n _ 1 (by decide)]
  rw [List.length_cons, PyProof.Rows.lm_len_rep_flat]
  show n ≤ n * 2 + 1
  omega
end Fc

namespace Fc
open PySem PySem.Spec L2 PyProof.Rows
variable [LamNames]
/-! ### a list that grows by a tuple -/
theorem ext_any (l : Addr) (its : Array Value) (n : Nat) (b : Addr) (o : Obj) (its2 : Array Value) (n2 : Nat) (hc : o.cls = .type "tuple") (hd : o.data = .seq its2 n2) (hs0 : ¬(!its.isEmpty && Builtin.List.listTooLong (its.size + its2.size)) = true) (hs1 : its.size ≤ sizeLine) (hs2 : its.size + its2.size ≤ sizeLine + 1) :
    Meets (Builtin.«list.extend» ⟨[.ref l, .ref b], []⟩) (fun _ R s => s.heap.get? l = some { cls := .type "list", dict := none, data := .seq its n, slots := #[] } ∧ s.heap.get? b = some o ∧ R (.ok (.ret Value.none)) { s with heap := s.heap.update l (Obj.mapSeq fun x => x ++ its2), toks := s.toks }) := by
  refine .of_wp fun prog w A R s h => ?_
  obtain ⟨cls, dict, data, slots⟩ := o
  dsimp only at hc hd
  subst hc hd
  obtain ⟨hp, g, d, tk, os⟩ := s
  obtain ⟨hl, hb, h⟩ := h
  have f1 := PySem.AutoSeq1.sub_tuple_tuple
  have f2 := PySem.AutoSeq1.sub_list_list
  have f3 := PySem.AutoSeq1.sub_tuple_list
  have f4 := PySem.AutoSeq1.sub_list_tuple
  have f5 := PySem.AutoSeq1.idx_int
  have hz' : (its ++ its2).size ≤ sizeLine + 1 := by
    rw [Array.size_append]
    exact hs2
  wp_walk using (wpAny_updateSeq hl rfl (hz := hs1) (_hz' := hz')), wpAny_loadPart' hl, wpAny_loadPart' hb
  exact ⟨_, rfl, h⟩
section
variable {X : Cx}
def rExtT (K : PySem.W.Frag) : V → List V → Hp → VK → Prop := fun x vs H Q => ∃ l b xs zs, x = .ref l ∧ vs = [.ref b] ∧ H l = some (.lst xs) ∧ SqT K H b zs ∧ xs.length + zs.length ≤ sizeLine ∧ Q .non (upd H l (.lst (xs ++ zs)))
theorem mt_extendT : MtM X "list.extend" (rExtT X.K) := by
  intro pins s σ H x vs v us Q I rx rv h
  obtain ⟨l, b, xs, zs, rfl, rfl, hH, hB, hz, q⟩ := h
  cases rx
  obtain ⟨u, rfl, ru⟩ := rv.one
  cases ru
  obtain ⟨z, its, n, r, hl, e⟩ := I.lstM hH
  obtain ⟨its2, r2, ⟨o, e2, hc, n2, hd⟩, z2⟩ := I.tuple hB
  have l2 := r2.length
  have hsz : its.toArray.size + its2.toArray.size ≤ sizeLine := by rw [List.size_toArray, List.size_toArray]; omega
  have hlong : ¬ (!its.toArray.isEmpty && Builtin.List.listTooLong (its.toArray.size + its2.toArray.size)) = true := by
    rw [notLongL hsz, Bool.and_false]
    exact Bool.false_ne_true
  refine call_meets F.slot_list_extend ⟨_, e, rfl⟩ F.entry_list_extend (F.args_list_extend_2 _ _)
    (ext_any l its.toArray n b o its2.toArray n2 hc hd hlong (by rw [List.size_toArray]; omega) (by omega)) ⟨e, e2, ?_⟩
  refine ⟨.non, _, I.lset (its' := its ++ its2) hH e (by simp) (r.append r2) ?_, rfl, q⟩
  rw [List.length_append]
  omega
end
/-! ### all but one object -/
def But (b : Addr) (H H' : Hp) : Prop := ∀ a o, a ≠ b → H a = some o → H' a = some o
theorem But.refl (b : Addr) (H : Hp) : But b H H := fun _ _ _ h => h
theorem But.trans {b : Addr} {H H' H'' : Hp} (h : But b H H') (h2 : But b H' H'') : But b H H'' := fun a o n e => h2 a o n (h a o n e)
theorem But.set {b : Addr} {H H' : Hp} {o : HO} (h : But b H H') : But b H (upd H' b o) := fun a o' n e => by
  rw [upd_ne n]
  exact h a o' n e
/-- what is new behind a heap may change -/
theorem But.same {b : Addr} {H H1 H2 : Hp} (s : Same H H1) (n : H b = none) (nc : NC (H1 b)) (h : But b H1 H2) : Same H H2 := ⟨fun a o e nt => h a o (ne_of_none e n) (s.get a o e nt), fun a ps e => by
  obtain ⟨ps', e', t, m⟩ := s.tab a ps e
  refine ⟨ps', h a _ (ne_of_none e n) e', t, fun q hq z pos cv hc => ?_⟩
  obtain ⟨c, e1, e2⟩ := m q hq z pos cv hc
  exact ⟨c, e1, h c _ (fun k => by rw [k] at e2; rw [e2] at nc; exact nc) e2⟩⟩
theorem But.tup {K : PySem.W.Frag} {b t : Addr} {H H' : Hp} {xs ys : List V} (h : But b H H') (e : H b = some (.lst ys)) (ht : SqT K H t xs) : SqT K H' t xs := by
  rcases ht with (ht | ⟨o, ht⟩) | ht
  · left; left
    exact h t _ (fun z => by subst z; rw [e] at ht; cases ht) ht
  · left; right
    exact ⟨o, h t _ (fun z => by subst z; rw [e] at ht; cases ht) ht⟩
  · right; exact ht
end Fc

namespace Fc
open PySem PySem.Spec L2 PyProof.Rows GxR GenW
variable [LamNames]
/-! ### generator expressions whose parts may call own defs -/
/-- the names of the expression's own block -/
structure GxOk (scope : Scope) : Prop where
  co : scope.isCoroutine = false
  cell : ∀ y ∈ scope.names, y.2 ≠ .cell
  dot : scope.names.lookup (".0" : Str) = some NameKind.local
abbrev gxEnv (X : Cx) (scope : Scope) (C : Addr) (code : Value) : Env := genEnv scope (cloFrom X.env.cells scope.names []) C code builtinsNs X.env
/-- its frame's context -/
abbrev gxc (X : Cx) (A' : Around) (s : Shared) (H : Hp) (scope : Scope) (C : Addr) (code : Value) (fp : List Addr) (pn : List (Addr × Obj)) : Cx :=
  { X with A := A'.deeper (gxEnv X scope C code), s_0 := s, H_0 := H, env := gxEnv X scope C code, outer := X.stack, stack := gxEnv X scope C code :: X.stack, ex := fp, fn := fun _ => false, calm := true, pn := pn, xe := fun _ _ => False }
theorem over_gx {A : Around} {elt tg iter : Expr} {ifs : List Expr} {scope : Scope} {pos : Pos} {it acc : Value} {env : Env} : A.over (.compLoop (.GeneratorExp elt [⟨tg, iter, ifs, 0⟩] scope pos) 0 it acc env) [] = A.deeper env := by
  obtain ⟨hd, d, fr, gs, u⟩ := A
  simp [Around.over, Around.deeper, marksOver, frameCount, unitsOf, envsOf, guardsOf, pushEnvs, pushGuards, Code.envs, Code.env?, Code.isFrame, Code.guards, Code.isGuard, Code.weight, Code.frames, Code.isCreation, Code.isCaller, Code.cUnits]
theorem over_gx0 {A : Around} {elt tg iter : Expr} {ifs : List Expr} {scope : Scope} {pos : Pos} {it acc : Value} {env : Env} : A.over (.compStart (.GeneratorExp elt [⟨tg, iter, ifs, 0⟩] scope pos) 0 it acc env) [] = A.deeper env := by
  obtain ⟨hd, d, fr, gs, u⟩ := A
  simp [Around.over, Around.deeper, marksOver, frameCount, unitsOf, envsOf, guardsOf, pushEnvs, pushGuards, Code.envs, Code.env?, Code.isFrame, Code.guards, Code.isGuard, Code.weight, Code.frames, Code.isCreation, Code.isCaller, Code.cUnits]
section
variable {X : Cx} {pins : List (Addr × Obj)} {σ : L2.St} {H : Hp} {s : Shared}
theorem gx_start {A' : Around} {scope : Scope} {own : List (Str × Nat)} {fp : List Addr} {code : Value} {pn : List (Addr × Obj)} {s5 : Shared} {m : Str → Option Value} (I : Inv X pins σ H s) (ok : BlkOk X.N X.env.scope scope own) (gk : GxOk scope) (hN : X.N.Nodup)
    (hfp : ∀ b ∈ fp, FpOk X pins H b ∧ b < s.heap.objs.size) (hA : A'.frames = some X.stack) (hh : A'.handled = none) (ho : s5.os = s.os) (hb5 : AllBare s5.gens) (kp : ∀ b o, s.heap.get? b = some o → s5.heap.get? b = some o) (hns : s5.heap.Ns s.heap.objs.size m)
    (hpn : ∀ p ∈ pn, s5.heap.get? p.1 = some p.2 ∧ s.heap.objs.size < p.1 ∧ ∀ v, p.2.data ≠ .cell v) :
    Inv (gxc X A' s H scope s.heap.objs.size code fp pn) [] (wipe σ (own.map (·.2))) H s5 := by
  have hfree : ∀ y ∈ scope.names, y.2 = .free → ∃ c, X.env.cells.lookup y.1 = some c := fun y hy e => by
    rcases ok.free y hy e with k | k
    · exact I.ok.has _ (.inl k)
    · exact I.ok.has _ (.inr k)
  have cm : ∀ {y c}, (y, c) ∈ cloFrom X.env.cells scope.names [] → X.env.cells.lookup y = some c ∧ c < s.heap.objs.size := fun {y c} hm => by
    rcases cloFrom_mem hm with hm | ⟨h1, rfl⟩
    · cases hm
    · obtain ⟨c, hc⟩ := hfree _ h1 rfl
      rw [hc]
      obtain ⟨w, z⟩ := I.cell _ _ hc
      exact ⟨rfl, z.lt⟩
  have mem : ∀ {y c}, (gxEnv X scope s.heap.objs.size code).cells.lookup y = some c → X.env.cells.lookup y = some c ∧ c < s.heap.objs.size := fun {y c} e => cm (PySem.mem_of_lookup e)
  have look : ∀ {y}, scope.names.lookup y = some .free → ∃ c, (gxEnv X scope s.heap.objs.size code).cells.lookup y = some c ∧ X.env.cells.lookup y = some c := fun {y} hl => by
    have hy : (y, NameKind.free) ∈ scope.names := PySem.mem_of_lookup hl
    obtain ⟨c', e'⟩ := mem_lookup (cloFrom_has (cells := X.env.cells) (acc := []) hy)
    exact ⟨c', e', (mem e').1⟩
  have okB : (gxc X A' s H scope s.heap.objs.size code fp pn).Ok := by
    refine ⟨I.ok.mod, ok.kind, I.ok.glob, rfl, Nat.le_refl _, fun y z c e1 e2 => I.ok.inj y z c (mem e1).1 (mem e2).1, fun y hy => ?_, (fun y c z e => nomatch (show false = true from z)), fun _ => hh, Around.frames_deeper hA, .inr ⟨rfl, rfl⟩, fun b hb => ⟨Nat.ne_of_lt (hfp b hb).2, fun y c e z => (hfp b hb).1.2.2.2.2.1 y c (mem e).1 z⟩, I.bs, Nat.le_trans I.ok.bsz I.sz, fun b o e hb => ?_, fun b hb z => ?_, I.stack, I.stkFree⟩
    · rcases hy with hy | hy
      · exact absurd rfl (gk.cell _ (PySem.mem_of_lookup hy))
      · obtain ⟨c, h1, _⟩ := look hy
        exact ⟨c, h1⟩
    · rcases (hfp b hb).1.2.2.2.1 with z | z
      · exact I.ok.noex b o e z
      · exact absurd (Nat.lt_of_lt_of_le (Heap.lt_size e) (Nat.le_trans I.ok.bsz z)) (Nat.lt_irrefl _)
    · rcases List.mem_cons.mp (I.stkSub b z) with z | z
      · exact (hfp b hb).1.2.1 z
      · exact (hfp b hb).1.2.2.1 z
  refine ⟨okB, ho, hb5, Un.kept kp, ⟨m, hns, fun i y av e1 e2 e3 => ?_⟩, fun y c e => ?_, I.hok.fresh (Nat.le_refl _), fun y c e => I.freeC y c (mem e).1, fun p hp => ?_, I.hok.kept kp, by rw [wipe_length]; exact I.len⟩
  · obtain ⟨e2, hne⟩ := wipe_some e2
    have no : ∀ k', scope.names.lookup y = some k' → ¬ (k' = .local ∨ k' = .cell) := fun k' e hh => by
      rcases ok.own _ (PySem.mem_of_lookup e) hh with e' | e'
      · obtain ⟨p, hp, hpy⟩ := List.mem_map.mp e'
        have e3 := ok.ix p hp
        have : p.1 = y := hpy
        rw [this] at e3
        exact hne (List.mem_map.mpr ⟨p, hp, nodup_ix hN e3 e1⟩)
      · exact e' (List.mem_of_getElem? e1)
    have e3 : scope.names.lookup y = some .local ∨ scope.names.lookup y = some .cell ∨ scope.names.lookup y = some .free := e3
    have hfr : scope.names.lookup y = some .free := by
      rcases e3 with e3 | e3 | e3
      · exact absurd (.inl rfl) (no _ e3)
      · exact absurd (.inr rfl) (no _ e3)
      · exact e3
    obtain ⟨m', hn, hl⟩ := I.loc
    have hvis : Vis X.env.scope y := (ok.free _ (PySem.mem_of_lookup hfr) rfl).elim (fun k => .inr (.inl k)) (fun k => .inr (.inr k))
    obtain ⟨w, r, q⟩ := hl i y av e1 e2 hvis
    refine ⟨w, r, .inr ⟨.inr hfr, ?_⟩⟩
    obtain ⟨c, h1, h2⟩ := look hfr
    rcases q with ⟨k, _⟩ | ⟨_, c', e', z⟩
    · have k : X.env.scope.names.lookup y = some .local := k
      rcases ok.free _ (PySem.mem_of_lookup hfr) rfl with k' | k' <;> rw [show X.env.scope.names.lookup y = _ from k'] at k <;> cases k
    · rw [h2] at e'; cases e'
      exact ⟨c, h1, z.keeps kp⟩
  · obtain ⟨w, z⟩ := I.cell y c (mem e).1
    exact ⟨w, z.keeps kp⟩
  · have hp' : p ∈ pn := by
      have : p ∈ pn ++ [] := hp
      rwa [List.append_nil] at this
    obtain ⟨h1, h2, h3⟩ := hpn p hp'
    refine ⟨h1, I.hok.fresh (Nat.le_of_lt h2), Nat.ne_of_gt h2, fun z => ?_, h3⟩
    have : p.1 ∈ frs X.stack := z
    rcases List.mem_cons.mp (I.stkSub p.1 this) with z | z
    · rw [z] at h2
      exact absurd (Nat.lt_trans h2 I.lt) (Nat.lt_irrefl _)
    · exact I.nofs (Nat.le_of_lt h2) z
/-- the table of generators, the tokens may change -/
def Slp (s s' : Shared) : Prop := s'.heap = s.heap ∧ s'.os = s.os ∧ AllBare s'.gens
theorem Slp.inv {Y : Cx} {pins : List (Addr × Obj)} {σ : L2.St} {H : Hp} {s s' : Shared} (I : Inv Y pins σ H s) (z : Slp s s') : Inv Y pins σ H s' := by
  obtain ⟨h1, h2, h3⟩ := z
  exact ⟨I.ok, h2.trans I.os, h3, by rw [h1]; exact I.base, by rw [h1]; exact I.loc, by rw [h1]; exact I.cell, I.free, I.freeC, by rw [h1]; exact I.pin, by rw [h1]; exact I.hok, I.len⟩
end
/-! ### the walk for all -/
/-- the reading: W of the turn, a measure, the heap -/
def GWalk (J : It) (g : TG) (tt : TT) (te : TE) (vs : List Nat) (σ : L2.St) (take : V → Hp → (Hp → Prop) → Prop) (fin : Hp → Prop) (W : Nat → Nat → Hp → Prop) : Prop :=
  ∀ i m H, W i m H → (J.stop i H ∧ fin H) ∨ (J.go i H ∧ ∃ Nx : Hp → Prop, (∀ H', Nx H' → ∃ m', m' < m ∧ W (i + 1) m' H') ∧ ∀ x H', J.yld i H x H' → g x (wipe σ vs) H' fun σ2 H2 => wipe σ2 vs = wipe σ vs ∧ tt σ2 H2 fun b H3 =>
    if b = true then te σ2 H3 fun y H4 => take y H4 Nx else Nx H3)
def takeAll (Q : VK) (y : V) (H : Hp) (Nx : Hp → Prop) : Prop := ∃ k, y = .bl k ∧ (k = true → Nx H) ∧ (k = false → Q (.bl false) H)
def allY (Y : Cx) (σ : L2.St) (Q : VK) : Protocol := fun n s₀ v s kap => ∃ (k : Bool) (H' : Hp), v = .bool k ∧ Inv Y [] σ H' s ∧ (k = false → Q (.bl false) H') ∧ (k = true → ∀ s'', Slp s s'' → kap (.send .none) s'')
def allF (Y : Cx) (σ : L2.St) (Q : VK) (s₁ : Shared) : Prop := ∃ H', Inv Y [] σ H' s₁ ∧ Q (.bl true) H'
def allR (Y : Cx) (σ : L2.St) (Q : VK) : GenEnd := fun _ _ r s₁ => ((r = .ok (.ret .none) ∨ r = .ok .next) ∧ allF Y σ Q s₁) ∨ ∃ e, r = .error e ∧ False
section
variable {X : Cx} {A' : Around} {s4 : Shared} {H4 : Hp} {scope : Scope} {C : Addr} {code : Value} {fp : List Addr} {pn : List (Addr × Obj)}
theorem gx_loop {elt iter : Expr} {x : Str} {px pos : Pos} {ifs : List Expr} {vs : List Nat} {σ : L2.St} {g : TG} {tt : TT} {te : TE} {J : It} {it : Addr} {tn : Nat → Heap → Prop} {Q : VK} {W : Nat → Nat → Hp → Prop}
    (gk : GxOk scope) (hpn : ∀ p ∈ pn, p.1 ∉ fp)
    (T : Turn X.prog X.w X.K (.Name x px) J fp it tn)
    (pg : PG (gxc X A' s4 H4 scope C code fp pn) (.Name x px) g) (pt : PTs (gxc X A' s4 H4 scope C code fp pn) ifs tt) (pe : PE (gxc X A' s4 H4 scope C code fp pn) elt te)
    (turn : GWalk J g tt te vs σ (takeAll Q) (Q (.bl true)) W) :
    ∀ (m n i : Nat) (s₀ s : Shared) (H : Hp), W i m H → m < n → Inv (gxc X A' s4 H4 scope C code fp pn) [] (wipe σ vs) H s → tn i s.heap → (∀ b ∈ fp, H b = none) →
      Seg (model X.prog X.w) A' (allR (gxc X A' s4 H4 scope C code fp pn) (wipe σ vs) Q) (allY (gxc X A' s4 H4 scope C code fp pn) (wipe σ vs) Q) n s₀
        (.compLoop (.GeneratorExp elt [⟨.Name x px, iter, ifs, 0⟩] scope pos) 0 (.ref it) .none (gxEnv X scope C code)) ((model X.prog X.w).den (.compLoop (.GeneratorExp elt [⟨.Name x px, iter, ifs, 0⟩] scope pos) 0 (.ref it) .none (gxEnv X scope C code))) [] s := by
  generalize hY : gxc X A' s4 H4 scope C code fp pn = Y at pg pt pe
  have eP : Y.prog = X.prog := by rw [← hY]
  have ew : Y.w = X.w := by rw [← hY]
  have eK : Y.K = X.K := by rw [← hY]
  have eA : Y.A = A'.deeper (gxEnv X scope C code) := by rw [← hY]
  have eE : Y.env = gxEnv X scope C code := by rw [← hY]
  have ex : Y.ex = fp := by rw [← hY]
  have exe : Y.xe = fun _ _ => False := by rw [← hY]
  have epn : Y.pn = pn := by rw [← hY]
  have ecalm : Y.calm = true := by rw [← hY]
  have stat : ∀ {σ' : L2.St} {H' : Hp} {s' : Shared}, Inv Y [] σ' H' s' → (∀ b ∈ fp, H' b = none) → ∀ b ∈ fp, FpOk Y [] H' b := fun {σ' H' s'} I' hn b hb =>
    ⟨hn b hb, (I'.ok.exf b (by rw [ex]; exact hb)).1, I'.ok.exfs b (by rw [ex]; exact hb), .inl (by rw [ex]; exact hb), fun x c e => (I'.ok.exf b (by rw [ex]; exact hb)).2 x c e, fun p hp z => by
      rw [epn, List.append_nil] at hp
      exact hpn p hp (by rw [z]; exact hb)⟩
  intro m
  induction m using Nat.strongRecOn with
  | ind m ih =>
    intro n i s₀ s H w hmn I st nf
    show Seg _ A' _ _ _ s₀ _ ((compTurn (.GeneratorExp elt [⟨.Name x px, iter, ifs, 0⟩] scope pos) 0 (.ref it) .none (gxEnv X scope C code)).onRaise (leaving (gxEnv X scope C code))) [] s
    rw [compTurn_gen, Sem.onRaise_eq_wrap]
    refine seg_bind_wrap (wpAny_standAt ?_)
    rcases turn i m H w with ⟨stop, qq⟩ | ⟨go, Nx, hNx, step⟩
    · have td := T.done Y eP ew eK ecalm i [] s _ H (fun _ _ => False) I (stat I nf) st stop
      rw [eA] at td
      refine seg_bind_wrap ?_
      rw [over_gx]
      refine thnF td fun r s6 ⟨hr, I6⟩ => ?_
      subst hr
      exact seg_end (.ok .next) (.inl ⟨.inr rfl, H, I6, qq⟩)
    · have ti := T.item Y eP ew eK ecalm i [] s _ H (fun _ _ => False) I (stat I nf) st go
      rw [eA] at ti
      refine seg_bind_wrap ?_
      rw [over_gx]
      refine thnF ti fun r s6 ⟨u, hr, h6⟩ => ?_
      subst hr
      refine seg_bind_wrap ?_
      rw [over_gx]
      refine thnF h6 fun _ s7 ⟨y, H7, I7, r7, y7, st7, n7⟩ => ?_
      have I7' := I7.pinned (stat I7 n7) (T.obj _ _ st7)
      have pgr := pg.run _ s7 _ H7 y u _ I7' r7 (step y H7 y7)
      rw [eP, ew, eA, exe, eE] at pgr
      refine seg_bind_wrap ?_
      rw [over_gx]
      refine thnF pgr fun _ s8 ⟨σ8, H8, I8, hw8, q8⟩ => ?_
      have ptr := pt.run _ s8 σ8 H8 _ I8 q8
      rw [eP, ew, eA, exe, eE] at ptr
      refine seg_bind_wrap ?_
      rw [over_gx]
      refine thnF ptr fun b s9 ⟨H9, I9, q9⟩ => ?_
      have fin : ∀ {s' : Shared} {H' : Hp}, Inv Y ([] ++ pinsAt fp s7.heap) σ8 H' s' → Inv Y [] (wipe σ vs) H' s' ∧ tn (i + 1) s'.heap ∧ (∀ b ∈ fp, H' b = none) := fun {s' H'} I' => by
        have pin' : ∀ b ∈ fp, ∀ o, s7.heap.get? b = some o → s'.heap.get? b = some o ∧ H' b = none := fun b hb o e =>
          let z := I'.pin (b, o) (List.mem_append_right _ (List.mem_append_right _ (mem_pinsAt hb e)))
          ⟨z.1, z.2.1⟩
        have hl : (wipe σ vs).length = σ8.length := by rw [← hw8, wipe_length]
        refine ⟨(I'.unpinned (pins := [])).weak hl (fun j v e => ?_), T.keep _ _ _ st7 fun b hb o e => (pin' b hb o e).1, fun b hb => ?_⟩
        · rw [← hw8] at e
          exact (wipe_some e).1
        · obtain ⟨o, e, _⟩ := T.obj _ _ st7 b hb
          exact (pin' b hb o e).2
      cases b with
      | false =>
        simp only [Bool.false_eq_true, if_false] at q9 ⊢
        obtain ⟨f1, f2, f3⟩ := fin I9
        obtain ⟨m', hm', w'⟩ := hNx _ q9
        exact seg_again rfl (ih m' hm' n (i + 1) s₀ s9 H9 w' (by omega) f1 f2 f3)
      | true =>
        simp only [if_true] at q9 ⊢
        have hy : ∀ v, yieldOut (gxEnv X scope C code) v = yieldValue v := fun v => by
          have hco : (gxEnv X scope C code).scope.isCoroutine = false := gk.co
          simp only [yieldOut, hco, Bool.false_eq_true, if_false]
        simp only [hy]
        rw [Sem.bind_eq_wrap', Sem.bind_eq_wrap', Sem.wrap_wrap, Sem.wrap_wrap]
        have per := pe.run _ s9 σ8 H9 _ I9 q9
        rw [eP, ew, eA, exe, eE] at per
        refine seg_wrap ?_
        rw [over_gx]
        refine thnF per fun z s10 ⟨yv, H10, I10, r10, k, ek, kt, kf⟩ => ?_
        subst ek
        obtain rfl : z = .bool k := r10
        obtain ⟨f1, f2, f3⟩ := fin I10
        cases n with
        | zero => omega
        | succ n' =>
          refine seg_at (seg_yield rfl rfl rfl ⟨k, H10, rfl, f1, kf, fun ek s'' z => ?_⟩)
          obtain ⟨m', hm', w'⟩ := hNx _ (kt ek)
          have z1 := z.1
          exact seg_again rfl (ih m' hm' n' (i + 1) s'' s'' H10 w' (by omega) (z.inv f1) (by rw [z1]; exact f2) f3)
theorem gx_begin {elt iter : Expr} {x : Str} {px pos : Pos} {ifs : List Expr} {vs : List Nat} {σ : L2.St} {g : TG} {tt : TT} {te : TE} {J : It} {it : Addr} {tn : Nat → Heap → Prop} {Q : VK} {W : Nat → Nat → Hp → Prop}
    (gk : GxOk scope) (hpn : ∀ p ∈ pn, p.1 ∉ fp)
    (T : Turn X.prog X.w X.K (.Name x px) J fp it tn)
    (pg : PG (gxc X A' s4 H4 scope C code fp pn) (.Name x px) g) (pt : PTs (gxc X A' s4 H4 scope C code fp pn) ifs tt) (pe : PE (gxc X A' s4 H4 scope C code fp pn) elt te)
    (turn : GWalk J g tt te vs σ (takeAll Q) (Q (.bl true)) W) (m n : Nat) (s₀ s : Shared) (H : Hp) (w : W 0 m H) (hmn : m < n) (I : Inv (gxc X A' s4 H4 scope C code fp pn) [] (wipe σ vs) H s) (st : tn 0 s.heap) (nf : ∀ b ∈ fp, H b = none) :
      Seg (model X.prog X.w) A' (allR (gxc X A' s4 H4 scope C code fp pn) (wipe σ vs) Q) (allY (gxc X A' s4 H4 scope C code fp pn) (wipe σ vs) Q) n s₀
        (.compStart (.GeneratorExp elt [⟨.Name x px, iter, ifs, 0⟩] scope pos) 0 (.ref it) .none (gxEnv X scope C code)) ((model X.prog X.w).den (.compStart (.GeneratorExp elt [⟨.Name x px, iter, ifs, 0⟩] scope pos) 0 (.ref it) .none (gxEnv X scope C code))) [] s := by
  have loop := gx_loop (iter := iter) (pos := pos) gk hpn T pg pt pe turn m n 0 s₀ s H w hmn I st nf
  show Seg _ A' _ _ _ s₀ _ ((compStart (.GeneratorExp elt [⟨.Name x px, iter, ifs, 0⟩] scope pos) 0 (.ref it) .none (gxEnv X scope C code)).onRaise (leaving (gxEnv X scope C code))) [] s
  unfold compStart
  rw [Sem.onRaise_eq_wrap]
  show Seg _ A' _ _ _ s₀ _ ((ask >>= _).wrap _ _ _ _) [] s
  refine seg_bind_wrap (wpAny_askSetting ?_)
  split
  · exact seg_again rfl loop
  · first
      | exact seg_bind_wrap (wpAny_rule (seg_bind_wrap (wpAny_standAt (seg_bind_wrap (T.self _ 0 s _ _ st (seg_again rfl loop))))))
      | (refine seg_bind_wrap (wpAny_rule ?_); show Seg _ A' _ _ _ s₀ _ ((standAt iter.pos >>= _).wrap _ _ _ _) [] s; exact seg_bind_wrap (wpAny_standAt (seg_bind_wrap (T.self _ 0 s _ _ st (seg_again rfl loop)))))
/-- the loop of all, by what each next tells -/
theorem all_by {P : Program} {w : World} {A : Around} {a : Addr} {R : Result → Shared → Prop} (St : Nat → Shared → Prop)
    (step : ∀ m s, St m s → wpAny (model P w) A.in1 (pyNext (.ref a)) (fun r s1 => match r with | none => R (.ok (.ret (.bool true))) s1 | some v => ∃ k : Bool, v = .bool k ∧ (k = true → ∃ m', m' < m ∧ St m' s1) ∧ (k = false → R (.ok (.ret (.bool false))) s1)) (fun _ _ => False) s) :
    ∀ (m : Nat) (s : Shared), St m s → codeAny (model P w) A (.builtin "all.loop" ⟨[.ref a], []⟩) R s := by
  intro m
  induction m using Nat.strongRecOn with
  | ind m ih =>
    intro s hst
    refine codeAny_builtin F.entry_all_loop ?_
    rw [Around.under_plainId F.plain_all_loop _]
    show wpAny _ A.in1 (pyNext (.ref a) >>= _) _ _ s
    refine wpAny_bind (thnF (step m s hst) fun r s1 h => ?_)
    cases r with
    | none => exact wpAny_bind (wpAny_rule (wpAny_pure h))
    | some v =>
      obtain ⟨k, rfl, h1, h2⟩ := h
      refine wpAny_bind (wpAny_holding (wpAny_truthy_bool ?_))
      refine wpAny_bind (wpAny_letGo ?_)
      cases k with
      | true =>
        obtain ⟨m', hm, st'⟩ := h1 rfl
        simp only [if_true]
        exact wpAny_pure ⟨plainId_quiet F.plain_all_loop _, ih m' hm s1 st'⟩
      | false =>
        simp only [Bool.false_eq_true, if_false]
        exact wpAny_bind (wpAny_rule (wpAny_pure (h2 rfl)))
end
section
variable {X : Cx}
/-- all(elt for x in iter if ..): P the table of the def's code -/
def tAllG (P : Addr) (wi : TI) (g : TG) (tt : TT) (te : TE) (vs : List Nat) : TE := fun σ H Q => wi σ H fun J H1 => TabG H1 P ∧ ∀ H2, Tabbed P H1 H2 → ∃ W : Nat → Nat → Hp → Prop, (∃ m, W 0 m H2) ∧ GWalk J g tt te vs σ (takeAll Q) (Q (.bl true)) W
theorem pe_allG {c P : Addr} {elt iter : Expr} {x : Str} {px p pos gpos : Pos} {ifs : List Expr} {scope : Scope} {own : List (Str × Nat)} {wi : TI} {g : TG} {tt : TT} {te : TE} {k : Nat}
    (hr : Room (k + 2) X.A) (hg : Gl X "all") (hm : X.mg "all" = none) (hb : bootBuiltins "all" = some (.builtin "all")) (TB : TabB X.base X.mg c P) (hcode : X.env.code = .ref c) (hN : X.N.Nodup) (ok : BlkOk X.N X.env.scope scope own) (gk : GxOk scope)
    (hi : PI X (.Name x px) iter wi) (hgt : ∀ (A' : Around) (s : Shared) (H : Hp) (C : Addr) (code : Value) (fp : List Addr) (pn : List (Addr × Obj)), PG (gxc X A' s H scope C code fp pn) (.Name x px) g)
    (ht : ∀ (A' : Around) (s : Shared) (H : Hp) (C : Addr) (code : Value) (fp : List Addr) (pn : List (Addr × Obj)), Room k (gxc X A' s H scope C code fp pn).A → PTs (gxc X A' s H scope C code fp pn) ifs tt)
    (he : ∀ (A' : Around) (s : Shared) (H : Hp) (C : Addr) (code : Value) (fp : List Addr) (pn : List (Addr × Obj)), Room k (gxc X A' s H scope C code fp pn).A → PE (gxc X A' s H scope C code fp pn) elt te)
    (hs : ∀ v, genFold iter X.env v = pure v)
    (hst : starEach [.GeneratorExp elt [⟨.Name x px, iter, ifs, 0⟩] scope gpos] X.env = (false, eval (.GeneratorExp elt [⟨.Name x px, iter, ifs, 0⟩] scope gpos) X.env) :: starEach [] X.env := by rfl) :
    PE X (.Call (.Name "all" p) [.GeneratorExp elt [⟨.Name x px, iter, ifs, 0⟩] scope gpos] [] pos) (tAllG P wi g tt te (own.map (·.2))) := by
  refine ⟨fun pins s σ H Q I h => ?_⟩
  refine wpAny_Call_Name_kw (ld_blt I hg hm hb ?_)
  refine PyProof.Rows.callWith_builtin1 ?_ hst (by rfl)
  rw [hst]
  show wpAny _ _ (spliced ((false, eval (.GeneratorExp elt [⟨.Name x px, iter, ifs, 0⟩] scope gpos) X.env) :: backTo pos (starEach [] X.env))) _ _ s
  have hfree : ∀ y ∈ scope.names, y.2 = .free → ∃ c, X.env.cells.lookup y.1 = some c := fun y hy e => by
    rcases ok.free y hy e with k | k
    · exact I.ok.has _ (.inl k)
    · exact I.ok.has _ (.inr k)
  refine Calls.spliced_cons (wpAny_GeneratorExp_make gk.co (closure_ok hfree) gk.cell gk.dot ok.kind (by have := hr.dp; omega) (thn (hi.run pins s σ H _ I h) fun xv s1 hx => thn hx fun itv s2 h2 => ?_) hs)
  obtain ⟨it, fp, tn, J, H2, e, I2, T, st2, f2, ⟨ps, hP, htr⟩, q⟩ := h2
  subst e
  have hPs : s2.heap.get? P = some { cls := .none, data := .fields ps } := I2.hok P _ hP
  have nPf : P ∉ fp := fun z => by
    have := (f2 P z).1
    rw [hP] at this
    cases this
  have cd : PySem.W.CodeHd s2.heap c P := TB.code.keeps I2.bk
  refine ⟨I2.nolimit, ?_⟩
  have cont : ∀ (code : Value) (h3 : Heap) (tk : Nat) (more : Array Value), Heap.ExtBut P s2.heap h3 → h3.get? P = some { cls := .none, data := .fields (ps ++ more) } → TriplesOk (ps ++ more).toList →
      wpAny (model X.prog X.w) X.A (builtinsFor X.env.globals X.env.builtins) (fun bi s₄ => ∀ h', h'.Ns s₄.heap.objs.size (fun y => if y = ".0" then some (.ref it) else none) → Heap.SameBut s₄.heap.objs.size (s₄.heap.push { cls := .type "frame", data := .dict #[] }) h' →
        wpAny (model X.prog X.w) X.A (spliced (backTo pos (starEach [] X.env))) (fun us s' => wpAny (model X.prog X.w) X.A (call (.builtin "all") (.ref h'.objs.size :: us)) (EP X pins σ Q) X.xe s') X.xe { s₄ with
            gens := s₄.gens.push (.fresh (.compStart (.GeneratorExp elt [⟨.Name x px, iter, ifs, 0⟩] scope gpos) 0 (.ref it) .none (genEnv scope (cloFrom X.env.cells scope.names []) s₄.heap.objs.size code bi X.env))),
            toks := s₄.toks + 1 + 1 + 1,
            heap := h'.push { cls := .type "generator", data := .fields #[.int s₄.gens.size 0, .str "<genexpr>" (s₄.toks + 1), .str (X.env.qual ++ "<genexpr>") (s₄.toks + 1 + 1)] } }) X.xe { s2 with heap := h3, toks := tk } := by
    intro code h3 tk more hx hP3 ht3
    have I3 : Inv X pins σ (upd H2 P (.tbl (ps ++ more))) { s2 with heap := h3, toks := tk } := inv_tab (g' := s2.gens) (d' := s2.drawn) (t' := tk) I2 hP (fun b o hb e => hx b o hb e) hP3 I2.bare
    have hb2 : AllBare s2.gens := I2.bare
    have st3 : tn 0 h3 := T.keep _ _ _ st2 fun b hb o e => hx b o (fun z => nPf (by rw [← z]; exact hb)) e
    have f3 : ∀ b ∈ fp, FpOk X pins (upd H2 P (.tbl (ps ++ more))) b ∧ b < h3.objs.size := fun b hb => by
      have nb : b ≠ P := fun z => nPf (by rw [← z]; exact hb)
      obtain ⟨o, e, _⟩ := T.obj _ _ st2 b hb
      refine ⟨⟨?_, (f2 b hb).2⟩, Heap.lt_size (hx b o nb e)⟩
      rw [upd_ne nb]
      exact (f2 b hb).1
    obtain ⟨W, ⟨m0, w0⟩, turn⟩ := q (upd H2 P (.tbl (ps ++ more))) ⟨⟨ps ++ more, upd_same, ht3⟩, fun b hb => upd_ne hb⟩
    obtain ⟨bm, ob, e1, e2, e3, e4, e5, e6, e7, e8⟩ := TB.bm
    refine wpAny_builtinsFor (m := X.mg) (by rw [I3.ok.glob]; exact I3.mod.glob.keeps I3.bk) e1 e2 (I3.bk _ _ e5) e6 e7 e8 ?_
    intro h' hn' hs'
    have hn' : h'.Ns h3.objs.size (fun y => if y = ".0" then some (.ref it) else none) := hn'
    have hs' : Heap.SameBut h3.objs.size (h3.push { cls := .type "frame", data := .dict #[] }) h' := hs'
    have hsz : h'.objs.size = h3.objs.size + 1 := by rw [hs'.1, Heap.size_push]
    have keep' : ∀ b o, h3.get? b = some o → h'.get? b = some o := fun b o e => hs'.extBut b o (Nat.ne_of_lt (Heap.lt_size e)) (Heap.get?_push_of_some _ e)
    generalize hH3 : upd H2 P (.tbl (ps ++ more)) = H3 at I3 f3 w0
    generalize hgo : ({ cls := .type "generator", data := .fields #[.int s2.gens.size 0, .str "<genexpr>" (tk + 1), .str (X.env.qual ++ "<genexpr>") (tk + 1 + 1)] } : Obj) = go
    have goC : ∀ v, go.data ≠ .cell v := fun v z => by rw [← hgo] at z; cases z
    have goF : go.isFreed = false := by rw [← hgo]; rfl
    generalize hs5 : ({ s2 with heap := h'.push go, toks := tk + 1 + 1 + 1, gens := s2.gens.push (.fresh (.compStart (.GeneratorExp elt [⟨.Name x px, iter, ifs, 0⟩] scope gpos) 0 (.ref it) .none (gxEnv X scope h3.objs.size code))) } : Shared) = s5
    have k5 : ∀ b o, h3.get? b = some o → s5.heap.get? b = some o := fun b o e => by rw [← hs5]; exact Heap.get?_push_of_some _ (keep' b o e)
    have g5 : s5.heap.get? h'.objs.size = some go := by rw [← hs5]; exact Heap.get?_push_size _ goF
    have b5 : AllBare s5.gens := by rw [← hs5]; exact I2.bare.push rfl
    have I5 := gx_start (A' := X.A.in1.in1) (code := code) (pn := [(h'.objs.size, go)]) (s5 := s5) (s := { s2 with heap := h3, toks := tk }) I3 ok gk hN f3 I2.ok.frames hr.hd (by rw [← hs5]) b5 k5 (by rw [← hs5]; exact hn'.push _) (fun p hp => by
      rw [List.mem_singleton.mp hp]
      exact ⟨g5, by show h3.objs.size < h'.objs.size; omega, goC⟩)
    have rk : Room k (gxc X X.A.in1.in1 { s2 with heap := h3, toks := tk } H3 scope h3.objs.size code fp [(h'.objs.size, go)]).A := ⟨hr.hd, by have := hr.dp; show X.A.depth + 1 + 3 * k + 5 < _; omega, by have := hr.un; show X.A.units + 1 + 1 + 3 + 16 * k + 200 < _; omega⟩
    have pg := hgt X.A.in1.in1 { s2 with heap := h3, toks := tk } H3 h3.objs.size code fp [(h'.objs.size, go)]
    have pt := ht X.A.in1.in1 { s2 with heap := h3, toks := tk } H3 h3.objs.size code fp [(h'.objs.size, go)] rk
    have pe := he X.A.in1.in1 { s2 with heap := h3, toks := tk } H3 h3.objs.size code fp [(h'.objs.size, go)] rk
    have npn : ∀ p ∈ [(h'.objs.size, go)], p.1 ∉ fp := fun p hp z => by
      rw [List.mem_singleton.mp hp] at z
      have h9 : h'.objs.size < h3.objs.size := (f3 _ z).2
      omega
    have nf : ∀ b ∈ fp, H3 b = none := fun b hb => (f3 b hb).1.1
    have isG : ∀ {h : Heap}, h.get? h'.objs.size = some go → h.IsGen h'.objs.size s2.gens.size := fun {h} e => ⟨go, .str "<genexpr>" (tk + 1), .str (X.env.qual ++ "<genexpr>") (tk + 1 + 1), e, by rw [← hgo], by rw [← hgo], by rw [← hgo]⟩
    have back : ∀ {H' : Hp} {s₁ s' : Shared}, Inv (gxc X X.A.in1.in1 { s2 with heap := h3, toks := tk } H3 scope h3.objs.size code fp [(h'.objs.size, go)]) [] (wipe σ (own.map (·.2))) H' s₁ → s'.os = s₁.os → AllBare s'.gens → (∀ b o, s₁.heap.get? b = some o → s'.heap.get? b = some o) → Inv X pins σ H' s' := fun {H' s₁ s'} I' ho hb k =>
      I3.call' (ch := fp) (ho.trans I'.os) (I'.base.trans (Un.kept k)) (I'.hok.kept k) hb fun b hb => ⟨(f3 b hb).1.2.2.2.1, (f3 b hb).1.2.1, (f3 b hb).1.2.2.2.2.1, (f3 b hb).1.2.2.2.2.2⟩
    refine Calls.spliced_nil ?_
    show wpAny (model X.prog X.w) X.A (call (.builtin "all") [.ref h'.objs.size]) (EP X pins σ Q) X.xe s5
    refine call_function_tree F.kind_all F.plain_all F.entry_all (F.args_all1 _) ?_
    unfold Builtin.«all»
    refine wpAny_bind (m := oneArg "all" _) (wpAny_pure ?_)
    refine wpAny_bind (wpAny_pyIter_gen (isG g5) ?_)
    refine wpAny_pure ⟨plainId_quiet F.plain_all_loop _, ?_⟩
    refine all_by (A := X.A) (fun n s => s.heap.IsGen h'.objs.size s2.gens.size ∧ s.heap.NoLimit ∧ ∃ gs, s.gens[s2.gens.size]? = some gs ∧ gs.Goes (model X.prog X.w) X.A.in1.in1 (allR (gxc X X.A.in1.in1 { s2 with heap := h3, toks := tk } H3 scope h3.objs.size code fp [(h'.objs.size, go)]) (wipe σ (own.map (·.2))) Q) (allY (gxc X X.A.in1.in1 { s2 with heap := h3, toks := tk } H3 scope h3.objs.size code fp [(h'.objs.size, go)]) (wipe σ (own.map (·.2))) Q) n (.send .none) (s.setGen s2.gens.size .running)) ?_ (m0 + 1) s5 ?_
    · rintro n s ⟨hgn, hl, gs, hgs, hgoes⟩
      have hgl : s2.gens.size < s.gens.size := (Array.getElem?_eq_some_iff.mp hgs).1
      refine wpAny_gsz (n := s2.gens.size + 1) hgl (next_genG (A := X.A.in1) (F := fun _ _ s₁ => allF (gxc X X.A.in1.in1 { s2 with heap := h3, toks := tk } H3 scope h3.objs.size code fp [(h'.objs.size, go)]) (wipe σ (own.map fun (y : Str × Nat) => y.2)) Q s₁) (Er := fun _ _ => False) hr.hd hl (by have := hr.dp; show X.A.depth < _; omega) hgn hgs hgoes (fun v s₁ gs' hbare hv => ?_) (fun s₁ hp h'' hk => ?_) fun e s₁ he => he.elim)
      · intro hsz
        obtain ⟨kb, H', rfl, I', kf, kt⟩ := hv
        have hsz1 : s2.gens.size < s₁.gens.size := by
          have q : (s₁.setGen s2.gens.size gs').gens.size = s₁.gens.size := setGen_size _ _ _
          have hsz' : s2.gens.size + 1 ≤ (s₁.setGen s2.gens.size gs').gens.size := hsz
          omega
        refine ⟨kb, rfl, fun ek => ?_, fun ek => ?_⟩
        · have kt' := kt ek
          cases n with
          | zero => exact (kt' s₁ ⟨rfl, rfl, I'.bare⟩).elim
          | succ n' =>
            refine ⟨n', Nat.lt_succ_self _, isG (I'.pin (h'.objs.size, go) (by simp)).1, I'.nolimit, gs', setGen_at hsz1, kt' _ ⟨rfl, rfl, allBare_setGen (allBare_setGen I'.bare hbare) rfl⟩⟩
        · subst ek
          exact ⟨.bl false, H', back (s' := s₁.setGen s2.gens.size gs') I' rfl (allBare_setGen I'.bare hbare) (fun _ _ e => e), rfl, kf rfl⟩
      · intro _
        obtain ⟨H', I', q'⟩ := hp
        exact ⟨.bl true, H', back (s' := { s₁.setGen s2.gens.size .finished with heap := h'' }) I' rfl (allBare_setGen I'.bare rfl) hk, rfl, q'⟩
    · refine ⟨isG g5, I5.nolimit, .fresh (.compStart (.GeneratorExp elt [⟨.Name x px, iter, ifs, 0⟩] scope gpos) 0 (.ref it) .none (gxEnv X scope h3.objs.size code)), by rw [← hs5]; exact Array.getElem?_push_size .., rfl, ?_⟩
      exact gx_begin gk npn T pg pt pe turn m0 (m0 + 1) _ _ H3 w0 (Nat.lt_succ_self _) (Slp.inv I5 ⟨rfl, rfl, allBare_setGen b5 rfl⟩) (T.keep _ _ _ st3 fun b hb o e => k5 b o e) nf
  cases hf : codeAmong gpos ps.toList with
  | none =>
    refine wpAny_genexprCodeX hcode (cd.code hPs htr) (cd.tab hPs) hf fun c' h' tk hx hge hlt hco' _ htab' _ => ?_
    obtain ⟨o1, vs, f1, tf, fl, tg, inF, tx, tt, op, _, _, _, _, _, _, _, _, _, htr', _⟩ := hco'
    exact cont _ h' tk _ hx htab'.2 htr'
  | some cv =>
    refine wpAny_genexprCode_hit hcode (cd.code hPs htr) hf ?_
    exact cont cv s2.heap s2.toks #[] (Heap.ExtBut.refl _ _) (by simpa using hPs) (by simpa using htr)
end
end Fc

namespace Fc
open PySem PySem.Spec L2 PyProof.Rows GxR GenW
variable [LamNames]
/-! ### the walk for tuple: what is handed out stands in the consumer's list at S -/
def GWalkT (J : It) (g : TG) (tt : TT) (te : TE) (vs : List Nat) (σ : L2.St) (fin : List V → Hp → Prop) (W : Nat → Nat → List V → Hp → Prop) : Prop :=
  ∀ i m ys H, W i m ys H → (J.stop i H ∧ fin ys H) ∨ (J.go i H ∧ ∃ Nx : List V → Hp → Prop, (∀ ys' H', Nx ys' H' → ∃ m', m' < m ∧ W (i + 1) m' ys' H') ∧ ∀ x H', J.yld i H x H' → g x (wipe σ vs) H' fun σ2 H2 => wipe σ2 vs = wipe σ vs ∧ tt σ2 H2 fun b H3 =>
    if b = true then te σ2 H3 fun y H4 => ys.length < sizeLine ∧ Nx (ys ++ [y]) H4 else Nx ys H3)
def tupY (Y : Cx) (σ : L2.St) (S : Addr) : Protocol := fun n s₀ v s kap => ∃ (ys : List V) (y : V) (H' : Hp), RelV y v ∧ GI Y S [] ys σ H' s ∧ ys.length < sizeLine ∧ ∀ s'', Slept S v s s'' → kap (.send .none) s''
def tupF (Y : Cx) (σ : L2.St) (S : Addr) (fin : List V → Hp → Prop) (s₁ : Shared) : Prop := ∃ ys H', GI Y S [] ys σ H' s₁ ∧ fin ys H'
def tupR (Y : Cx) (σ : L2.St) (S : Addr) (fin : List V → Hp → Prop) : GenEnd := fun _ _ r s₁ => ((r = .ok (.ret .none) ∨ r = .ok .next) ∧ tupF Y σ S fin s₁) ∨ ∃ e, r = .error e ∧ False
section
variable {X : Cx} {A' : Around} {s4 : Shared} {H4 : Hp} {scope : Scope} {C : Addr} {code : Value} {fp : List Addr} {pn : List (Addr × Obj)} {S : Addr}
theorem gx_loopT {elt iter : Expr} {x : Str} {px pos : Pos} {ifs : List Expr} {vs : List Nat} {σ : L2.St} {g : TG} {tt : TT} {te : TE} {J : It} {it : Addr} {tn : Nat → Heap → Prop} {fin : List V → Hp → Prop} {W : Nat → Nat → List V → Hp → Prop}
    (gk : GxOk scope) (hpn : ∀ p ∈ pn, p.1 ∉ fp) (hpS : ∀ p ∈ pn, p.1 ≠ S) (nSf : S ∉ fp) (ap : Apart (gxc X A' s4 H4 scope C code fp pn) S)
    (T : Turn X.prog X.w X.K (.Name x px) J fp it tn)
    (pg : PG (gxc X A' s4 H4 scope C code fp pn) (.Name x px) g) (pt : PTs (gxc X A' s4 H4 scope C code fp pn) ifs tt) (pe : PE (gxc X A' s4 H4 scope C code fp pn) elt te)
    (turn : GWalkT J g tt te vs σ fin W) :
    ∀ (m n i : Nat) (s₀ s : Shared) (ys : List V) (H : Hp), W i m ys H → m < n → GI (gxc X A' s4 H4 scope C code fp pn) S [] ys (wipe σ vs) H s → tn i s.heap → (∀ b ∈ fp, H b = none) →
      Seg (model X.prog X.w) A' (tupR (gxc X A' s4 H4 scope C code fp pn) (wipe σ vs) S fin) (tupY (gxc X A' s4 H4 scope C code fp pn) (wipe σ vs) S) n s₀
        (.compLoop (.GeneratorExp elt [⟨.Name x px, iter, ifs, 0⟩] scope pos) 0 (.ref it) .none (gxEnv X scope C code)) ((model X.prog X.w).den (.compLoop (.GeneratorExp elt [⟨.Name x px, iter, ifs, 0⟩] scope pos) 0 (.ref it) .none (gxEnv X scope C code))) [] s := by
  generalize hY : gxc X A' s4 H4 scope C code fp pn = Y at pg pt pe ap
  have eP : Y.prog = X.prog := by rw [← hY]
  have ew : Y.w = X.w := by rw [← hY]
  have eK : Y.K = X.K := by rw [← hY]
  have eA : Y.A = A'.deeper (gxEnv X scope C code) := by rw [← hY]
  have eE : Y.env = gxEnv X scope C code := by rw [← hY]
  have ex : Y.ex = fp := by rw [← hY]
  have exe : Y.xe = fun _ _ => False := by rw [← hY]
  have epn : Y.pn = pn := by rw [← hY]
  have ecalm : Y.calm = true := by rw [← hY]
  have stat : ∀ {o : Obj} {σ' : L2.St} {H' : Hp} {s' : Shared}, Inv Y [(S, o)] σ' H' s' → (∀ b ∈ fp, H' b = none) → ∀ b ∈ fp, FpOk Y [(S, o)] H' b := fun {o σ' H' s'} I' hn b hb =>
    ⟨hn b hb, (I'.ok.exf b (by rw [ex]; exact hb)).1, I'.ok.exfs b (by rw [ex]; exact hb), .inl (by rw [ex]; exact hb), fun x c e => (I'.ok.exf b (by rw [ex]; exact hb)).2 x c e, fun p hp z => by
      rw [epn] at hp
      rcases List.mem_append.mp hp with hp | hp
      · exact hpn p hp (by rw [z]; exact hb)
      · rw [List.mem_singleton.mp hp] at z
        exact nSf (by rw [show S = b from z]; exact hb)⟩
  intro m
  induction m using Nat.strongRecOn with
  | ind m ih =>
    intro n i s₀ s ys H w hmn hGI st nf
    obtain ⟨acc, ca, ra, I⟩ := hGI
    show Seg _ A' _ _ _ s₀ _ ((compTurn (.GeneratorExp elt [⟨.Name x px, iter, ifs, 0⟩] scope pos) 0 (.ref it) .none (gxEnv X scope C code)).onRaise (leaving (gxEnv X scope C code))) [] s
    rw [compTurn_gen, Sem.onRaise_eq_wrap]
    refine seg_bind_wrap (wpAny_standAt ?_)
    rcases turn i m ys H w with ⟨stop, qq⟩ | ⟨go, Nx, hNx, step⟩
    · have td := T.done Y eP ew eK ecalm i [(S, lstObj acc ca)] s _ H (fun _ _ => False) I (stat I nf) st stop
      rw [eA] at td
      refine seg_bind_wrap ?_
      rw [over_gx]
      refine thnF td fun r s6 ⟨hr, I6⟩ => ?_
      subst hr
      exact seg_end (.ok .next) (.inl ⟨.inr rfl, ys, H, ⟨acc, ca, ra, I6⟩, qq⟩)
    · have ti := T.item Y eP ew eK ecalm i [(S, lstObj acc ca)] s _ H (fun _ _ => False) I (stat I nf) st go
      rw [eA] at ti
      refine seg_bind_wrap ?_
      rw [over_gx]
      refine thnF ti fun r s6 ⟨u, hr, h6⟩ => ?_
      subst hr
      refine seg_bind_wrap ?_
      rw [over_gx]
      refine thnF h6 fun _ s7 ⟨y, H7, I7, r7, y7, st7, n7⟩ => ?_
      have I7' := I7.pinned (stat I7 n7) (T.obj _ _ st7)
      have pgr := pg.run _ s7 _ H7 y u _ I7' r7 (step y H7 y7)
      rw [eP, ew, eA, exe, eE] at pgr
      refine seg_bind_wrap ?_
      rw [over_gx]
      refine thnF pgr fun _ s8 ⟨σ8, H8, I8, hw8, q8⟩ => ?_
      have ptr := pt.run _ s8 σ8 H8 _ I8 q8
      rw [eP, ew, eA, exe, eE] at ptr
      refine seg_bind_wrap ?_
      rw [over_gx]
      refine thnF ptr fun b s9 ⟨H9, I9, q9⟩ => ?_
      have fin' : ∀ {s' : Shared} {H' : Hp}, Inv Y ([(S, lstObj acc ca)] ++ pinsAt fp s7.heap) σ8 H' s' → GI Y S [] ys (wipe σ vs) H' s' ∧ tn (i + 1) s'.heap ∧ (∀ b ∈ fp, H' b = none) := fun {s' H'} I' => by
        have pin' : ∀ b ∈ fp, ∀ o, s7.heap.get? b = some o → s'.heap.get? b = some o ∧ H' b = none := fun b hb o e =>
          let z := I'.pin (b, o) (List.mem_append_right _ (List.mem_append_right _ (mem_pinsAt hb e)))
          ⟨z.1, z.2.1⟩
        have hl : (wipe σ vs).length = σ8.length := by rw [← hw8, wipe_length]
        refine ⟨⟨acc, ca, ra, (I'.unpinned (pins := [(S, lstObj acc ca)])).weak hl (fun j v e => ?_)⟩, T.keep _ _ _ st7 fun b hb o e => (pin' b hb o e).1, fun b hb => ?_⟩
        · rw [← hw8] at e
          exact (wipe_some e).1
        · obtain ⟨o, e, _⟩ := T.obj _ _ st7 b hb
          exact (pin' b hb o e).2
      cases b with
      | false =>
        simp only [Bool.false_eq_true, if_false] at q9 ⊢
        obtain ⟨f1, f2, f3⟩ := fin' I9
        obtain ⟨m', hm', w'⟩ := hNx _ _ q9
        exact seg_again rfl (ih m' hm' n (i + 1) s₀ s9 ys H9 w' (by omega) f1 f2 f3)
      | true =>
        simp only [if_true] at q9 ⊢
        have hy : ∀ v, yieldOut (gxEnv X scope C code) v = yieldValue v := fun v => by
          have hco : (gxEnv X scope C code).scope.isCoroutine = false := gk.co
          simp only [yieldOut, hco, Bool.false_eq_true, if_false]
        simp only [hy]
        rw [Sem.bind_eq_wrap', Sem.bind_eq_wrap', Sem.wrap_wrap, Sem.wrap_wrap]
        have per := pe.run _ s9 σ8 H9 _ I9 q9
        rw [eP, ew, eA, exe, eE] at per
        refine seg_wrap ?_
        rw [over_gx]
        refine thnF per fun z s10 ⟨yv, H10, I10, r10, lt, nx⟩ => ?_
        obtain ⟨f1, f2, f3⟩ := fin' I10
        cases n with
        | zero => omega
        | succ n' =>
          refine seg_at (seg_yield rfl rfl rfl ⟨ys, yv, H10, r10, f1, lt, fun s'' zz => ?_⟩)
          obtain ⟨m', hm', w'⟩ := hNx _ _ nx
          refine seg_again rfl (ih m' hm' n' (i + 1) s'' s'' (ys ++ [yv]) H10 w' (by omega) (GI.woken (by rw [epn]; exact hpS) (fun p hp => by cases hp) ap f1 r10 zz) (T.keep _ _ _ f2 fun b hb o e => zz.keep b o (fun k => nSf (by rw [← k]; exact hb)) e) f3)
theorem gx_beginT {elt iter : Expr} {x : Str} {px pos : Pos} {ifs : List Expr} {vs : List Nat} {σ : L2.St} {g : TG} {tt : TT} {te : TE} {J : It} {it : Addr} {tn : Nat → Heap → Prop} {fin : List V → Hp → Prop} {W : Nat → Nat → List V → Hp → Prop}
    (gk : GxOk scope) (hpn : ∀ p ∈ pn, p.1 ∉ fp) (hpS : ∀ p ∈ pn, p.1 ≠ S) (nSf : S ∉ fp) (ap : Apart (gxc X A' s4 H4 scope C code fp pn) S)
    (T : Turn X.prog X.w X.K (.Name x px) J fp it tn)
    (pg : PG (gxc X A' s4 H4 scope C code fp pn) (.Name x px) g) (pt : PTs (gxc X A' s4 H4 scope C code fp pn) ifs tt) (pe : PE (gxc X A' s4 H4 scope C code fp pn) elt te)
    (turn : GWalkT J g tt te vs σ fin W) (m n : Nat) (s₀ s : Shared) (ys : List V) (H : Hp) (w : W 0 m ys H) (hmn : m < n) (I : GI (gxc X A' s4 H4 scope C code fp pn) S [] ys (wipe σ vs) H s) (st : tn 0 s.heap) (nf : ∀ b ∈ fp, H b = none) :
      Seg (model X.prog X.w) A' (tupR (gxc X A' s4 H4 scope C code fp pn) (wipe σ vs) S fin) (tupY (gxc X A' s4 H4 scope C code fp pn) (wipe σ vs) S) n s₀
        (.compStart (.GeneratorExp elt [⟨.Name x px, iter, ifs, 0⟩] scope pos) 0 (.ref it) .none (gxEnv X scope C code)) ((model X.prog X.w).den (.compStart (.GeneratorExp elt [⟨.Name x px, iter, ifs, 0⟩] scope pos) 0 (.ref it) .none (gxEnv X scope C code))) [] s := by
  have loop := gx_loopT (iter := iter) (pos := pos) gk hpn hpS nSf ap T pg pt pe turn m n 0 s₀ s ys H w hmn I st nf
  show Seg _ A' _ _ _ s₀ _ ((compStart (.GeneratorExp elt [⟨.Name x px, iter, ifs, 0⟩] scope pos) 0 (.ref it) .none (gxEnv X scope C code)).onRaise (leaving (gxEnv X scope C code))) [] s
  unfold compStart
  rw [Sem.onRaise_eq_wrap]
  show Seg _ A' _ _ _ s₀ _ ((ask >>= _).wrap _ _ _ _) [] s
  refine seg_bind_wrap (wpAny_askSetting ?_)
  split
  · exact seg_again rfl loop
  · first
      | exact seg_bind_wrap (wpAny_rule (seg_bind_wrap (wpAny_standAt (seg_bind_wrap (T.self _ 0 s _ _ st (seg_again rfl loop))))))
      | (refine seg_bind_wrap (wpAny_rule ?_); show Seg _ A' _ _ _ s₀ _ ((standAt iter.pos >>= _).wrap _ _ _ _) [] s; exact seg_bind_wrap (wpAny_standAt (seg_bind_wrap (T.self _ 0 s _ _ st (seg_again rfl loop)))))
/-- the loop that fills a list, by what each next tells -/
theorem ext_by {P : Program} {w : World} {A : Around} {a S : Addr} {res : Value} {R : Result → Shared → Prop} (St : Nat → Shared → Prop)
    (step : ∀ m s, St m s → wpAny (model P w) A.in1 (pyNext (.ref a)) (fun r s1 => match r with | none => R (.ok (.ret res)) s1 | some v => ∃ (acc : Array Value) (c : Nat), s1.heap.get? S = some (lstObj acc c) ∧ acc.size < sizeLine ∧ ∃ m', m' < m ∧ St m' { s1 with heap := s1.heap.update S (Obj.mapSeq (·.push v)) }) (fun _ _ => False) s) :
    ∀ (m : Nat) (s : Shared), St m s → codeAny (model P w) A (.builtin "list.extend.loop" ⟨[.ref S, .ref a, res], []⟩) R s := by
  intro m
  induction m using Nat.strongRecOn with
  | ind m ih =>
    intro s hst
    refine codeAny_builtin F.entry_extend_loop ?_
    rw [Around.under_plainId F.plain_extend_loop _]
    show wpAny _ A.in1 (pyNext (.ref a) >>= _) _ _ s
    refine wpAny_bind (thnF (step m s hst) fun r s1 h => ?_)
    cases r with
    | none => exact wpAny_pure h
    | some v =>
      obtain ⟨acc, c, hS, lt, m', hm, st'⟩ := h
      show wpAny _ A.in1 (updateSeq S (·.push v) >>= _) _ _ _
      refine wpAny_bind ?_
      exact wpAny_updateSeq hS rfl (wpAny_pure ⟨plainId_quiet F.plain_extend_loop _, ih m' hm _ st'⟩) (Nat.le_of_lt lt) (by show (acc.push v).size ≤ sizeLine + 1; rw [Array.size_push]; omega)
/-- collect of a generator -/
theorem collect_by {P : Program} {w : World} {A : Around} {E : Value → Shared → Prop} {s : Shared} {a : Addr} {g : Nat} {Q : List Value → Shared → Prop} (hg : s.heap.IsGen a g) (ha : a < s.heap.objs.size)
    (h : ∀ (c : Nat) (h2 : Heap), (∀ b o, s.heap.get? b = some o → h2.get? b = some o) → h2.get? s.heap.objs.size = some (lstObj #[] c) → codeAny (model P w) A (.builtin "list.extend.loop" ⟨[.ref s.heap.objs.size, .ref a, .ref s.heap.objs.size], []⟩) (fun r s' => ∃ acc c, r = .ok (.ret (.ref s.heap.objs.size)) ∧ s'.heap.get? s.heap.objs.size = some (lstObj acc c) ∧ Q acc.toList s') { s with heap := h2 }) :
    wpAny (model P w) A (collect (.ref a)) Q E s := by
  have hSI : s.heap.objs.size ≠ a := Nat.ne_of_gt ha
  unfold collect
  refine wpAny_bind (wpAny_runValue (codeAny_builtin F.entry_proto_collect ?_))
  rw [Around.under_plainId F.plain_proto_collect _]
  show wpAny _ A.in1 (newList [] >>= fun l => again (.builtin "list.__iadd__" ⟨[l, .ref a], []⟩)) _ _ s
  refine wpAny_bind (wpAny_newObj_type ?_)
  refine wpAny_pure ⟨plainId_quiet F.plain_list_iadd _, codeAny_builtin F.entry_list_iadd ?_⟩
  rw [Around.under_plainId F.plain_list_iadd _]
  have k1 : ∀ b o, s.heap.get? b = some o → (s.heap.push { cls := .type "list", data := .seq ([] : List Value).toArray }).get? b = some o := fun b o e => Heap.get?_push_of_some _ e
  have gty : ∀ {h2 : Heap}, (∀ b o, s.heap.get? b = some o → h2.get? b = some o) → h2.IsGen a g := fun {h2} q => hg.keeps q
  show wpAny _ A.in1 (Builtin.List.listExtendWith (.ref s.heap.objs.size) (.ref a) (.ref s.heap.objs.size)) _ _ _
  unfold Builtin.List.listExtendWith
  refine wpAny_bind (wpAny_typeOf (Heap.IsGen.typeIs (s := { s with heap := _ }) (gty k1)) ?_)
  have h1 : Builtin.List.listSameRef (.ref s.heap.objs.size) (.ref a) = false := by simp [Builtin.List.listSameRef, hSI]
  have h2 : (Value.type "generator" == Value.type "list") = false := by decide
  have h3 : (Value.type "generator" == Value.type "tuple") = false := by decide
  simp only [h1, h2, h3, Bool.or_false, Bool.false_eq_true, if_false]
  refine wpAny_bind (wpAny_pyIter_gen (s := { s with heap := _ }) (gty k1) ?_)
  refine wpAny_bind (wpAny_holding ?_)
  unfold Builtin.List.listLengthHint
  refine wpAny_bind (wpAny_specialOf (Heap.IsGen.typeIs (s := { s with heap := _ }) (gty k1)) F.gen_no_len ?_)
  show wpAny _ A.in1 (specialOf (Value.ref a) (Str.ofString "__length_hint__") >>= _) _ _ _
  refine wpAny_bind (wpAny_specialOf (Heap.IsGen.typeIs (s := { s with heap := _ }) (gty k1)) F.gen_no_hint ?_)
  refine wpAny_pure ?_
  show wpAny _ A.in1 (rule "list.extend.makes-room" >>= fun _ => Builtin.List.listTouch (.ref s.heap.objs.size) >>= fun _ =>
    again (.builtin "list.extend.loop" ⟨[.ref s.heap.objs.size, .ref a, .ref s.heap.objs.size], []⟩)) _ _ _
  refine wpAny_bind (wpAny_rule ?_)
  have hS1 : (s.heap.push { cls := .type "list", data := .seq ([] : List Value).toArray }).get? s.heap.objs.size = some { cls := .type "list", data := .seq ([] : List Value).toArray } := Heap.get?_push_size _ rfl
  refine wpAny_bind ?_
  show wpAny _ A.in1 (updateSeq s.heap.objs.size (·.push .none) >>= fun _ => updateSeq s.heap.objs.size (·.pop)) _ _ _
  refine wpAny_bind (wpAny_updateSeq hS1 rfl ?_)
  have hS2 := Heap.get?_update_self (Obj.mapSeq (·.push Value.none)) hS1 rfl
  refine wpAny_updateSeq hS2 rfl ?_
  have hS3 := Heap.get?_update_self (Obj.mapSeq (·.pop)) hS2 rfl
  have up : ∀ (h : Heap) (f : Obj → Obj), (∀ b o, s.heap.get? b = some o → h.get? b = some o) → ∀ b o, s.heap.get? b = some o → (h.update s.heap.objs.size f).get? b = some o := fun h f q b o e =>
    (Heap.get?_update_other _ _ (Ne.symm (Nat.ne_of_lt (Heap.lt_size e)))).trans (q b o e)
  refine wpAny_pure ⟨plainId_quiet F.plain_extend_loop _, ?_⟩
  refine codeAny_mono (h _ _ (up _ (Obj.mapSeq (·.pop)) (up _ (Obj.mapSeq (·.push Value.none)) k1)) hS3) fun r s' hq => ?_
  obtain ⟨acc, c, rfl, hS', hq⟩ := hq
  show wpAny _ A (load s.heap.objs.size >>= _) _ _ s'
  refine wpAny_bind (wpAny_load hS' ?_)
  exact wpAny_pure hq
end
section
variable {X : Cx}
/-- tuple(elt for x in iter if ..): P the table of the def's code -/
def tTupG (P : Addr) (wi : TI) (g : TG) (tt : TT) (te : TE) (vs : List Nat) : TE := fun σ H Q => wi σ H fun J H1 => TabG H1 P ∧ ∀ H2, Tabbed P H1 H2 → ∃ W : Nat → Nat → List V → Hp → Prop, (∃ m, W 0 m [] H2) ∧ GWalkT J g tt te vs σ (fun ys H' => ys.length ≤ sizeLine ∧ ∀ p, H' p = none → Q (.ref p) (upd H' p (.tup ys))) W
theorem pe_tupG {c P : Addr} {elt iter : Expr} {x : Str} {px p pos gpos : Pos} {ifs : List Expr} {scope : Scope} {own : List (Str × Nat)} {wi : TI} {g : TG} {tt : TT} {te : TE} {k : Nat}
    (hr : Room (k + 2) X.A) (hg : Gl X "tuple") (hm : X.mg "tuple" = none) (hb : bootBuiltins "tuple" = some (.type "tuple")) (TB : TabB X.base X.mg c P) (hcode : X.env.code = .ref c) (hN : X.N.Nodup) (ok : BlkOk X.N X.env.scope scope own) (gk : GxOk scope)
    (hi : PI X (.Name x px) iter wi) (hgt : ∀ (A' : Around) (s : Shared) (H : Hp) (C : Addr) (code : Value) (fp : List Addr) (pn : List (Addr × Obj)), PG (gxc X A' s H scope C code fp pn) (.Name x px) g)
    (ht : ∀ (A' : Around) (s : Shared) (H : Hp) (C : Addr) (code : Value) (fp : List Addr) (pn : List (Addr × Obj)), Room k (gxc X A' s H scope C code fp pn).A → PTs (gxc X A' s H scope C code fp pn) ifs tt)
    (he : ∀ (A' : Around) (s : Shared) (H : Hp) (C : Addr) (code : Value) (fp : List Addr) (pn : List (Addr × Obj)), Room k (gxc X A' s H scope C code fp pn).A → PE (gxc X A' s H scope C code fp pn) elt te)
    (hs : ∀ v, genFold iter X.env v = pure v)
    (hst : starEach [.GeneratorExp elt [⟨.Name x px, iter, ifs, 0⟩] scope gpos] X.env = (false, eval (.GeneratorExp elt [⟨.Name x px, iter, ifs, 0⟩] scope gpos) X.env) :: starEach [] X.env := by rfl) :
    PE X (.Call (.Name "tuple" p) [.GeneratorExp elt [⟨.Name x px, iter, ifs, 0⟩] scope gpos] [] pos) (tTupG P wi g tt te (own.map (·.2))) := by
  refine ⟨fun pins s σ H Q I h => ?_⟩
  refine wpAny_Call_Name_kw (ld_blt I hg hm hb ?_)
  refine PyProof.Rows.callWith_type1 ?_ hst rfl
  rw [hst]
  show wpAny _ _ (spliced ((false, eval (.GeneratorExp elt [⟨.Name x px, iter, ifs, 0⟩] scope gpos) X.env) :: backTo pos (starEach [] X.env))) _ _ s
  have hfree : ∀ y ∈ scope.names, y.2 = .free → ∃ c, X.env.cells.lookup y.1 = some c := fun y hy e => by
    rcases ok.free y hy e with k | k
    · exact I.ok.has _ (.inl k)
    · exact I.ok.has _ (.inr k)
  refine Calls.spliced_cons (wpAny_GeneratorExp_make gk.co (closure_ok hfree) gk.cell gk.dot ok.kind (by have := hr.dp; omega) (thn (hi.run pins s σ H _ I h) fun xv s1 hx => thn hx fun itv s2 h2 => ?_) hs)
  obtain ⟨it, fp, tn, J, H2, e, I2, T, st2, f2, ⟨ps, hP, htr⟩, q⟩ := h2
  subst e
  have hPs : s2.heap.get? P = some { cls := .none, data := .fields ps } := I2.hok P _ hP
  have nPf : P ∉ fp := fun z => by
    have := (f2 P z).1
    rw [hP] at this
    cases this
  have cd : PySem.W.CodeHd s2.heap c P := TB.code.keeps I2.bk
  refine ⟨I2.nolimit, ?_⟩
  have cont : ∀ (code : Value) (h3 : Heap) (tk : Nat) (more : Array Value), Heap.ExtBut P s2.heap h3 → h3.get? P = some { cls := .none, data := .fields (ps ++ more) } → TriplesOk (ps ++ more).toList →
      wpAny (model X.prog X.w) X.A (builtinsFor X.env.globals X.env.builtins) (fun bi s₄ => ∀ h', h'.Ns s₄.heap.objs.size (fun y => if y = ".0" then some (.ref it) else none) → Heap.SameBut s₄.heap.objs.size (s₄.heap.push { cls := .type "frame", data := .dict #[] }) h' →
        wpAny (model X.prog X.w) X.A (spliced (backTo pos (starEach [] X.env))) (fun us s' => wpAny (model X.prog X.w) X.A (call (.type "tuple") (.ref h'.objs.size :: us)) (EP X pins σ Q) X.xe s') X.xe { s₄ with
            gens := s₄.gens.push (.fresh (.compStart (.GeneratorExp elt [⟨.Name x px, iter, ifs, 0⟩] scope gpos) 0 (.ref it) .none (genEnv scope (cloFrom X.env.cells scope.names []) s₄.heap.objs.size code bi X.env))),
            toks := s₄.toks + 1 + 1 + 1,
            heap := h'.push { cls := .type "generator", data := .fields #[.int s₄.gens.size 0, .str "<genexpr>" (s₄.toks + 1), .str (X.env.qual ++ "<genexpr>") (s₄.toks + 1 + 1)] } }) X.xe { s2 with heap := h3, toks := tk } := by
    intro code h3 tk more hx hP3 ht3
    have I3 : Inv X pins σ (upd H2 P (.tbl (ps ++ more))) { s2 with heap := h3, toks := tk } := inv_tab (g' := s2.gens) (d' := s2.drawn) (t' := tk) I2 hP (fun b o hb e => hx b o hb e) hP3 I2.bare
    have hb2 : AllBare s2.gens := I2.bare
    have st3 : tn 0 h3 := T.keep _ _ _ st2 fun b hb o e => hx b o (fun z => nPf (by rw [← z]; exact hb)) e
    have f3 : ∀ b ∈ fp, FpOk X pins (upd H2 P (.tbl (ps ++ more))) b ∧ b < h3.objs.size := fun b hb => by
      have nb : b ≠ P := fun z => nPf (by rw [← z]; exact hb)
      obtain ⟨o, e, _⟩ := T.obj _ _ st2 b hb
      refine ⟨⟨?_, (f2 b hb).2⟩, Heap.lt_size (hx b o nb e)⟩
      rw [upd_ne nb]
      exact (f2 b hb).1
    obtain ⟨W, ⟨m0, w0⟩, turn⟩ := q (upd H2 P (.tbl (ps ++ more))) ⟨⟨ps ++ more, upd_same, ht3⟩, fun b hb => upd_ne hb⟩
    obtain ⟨bm, ob, e1, e2, e3, e4, e5, e6, e7, e8⟩ := TB.bm
    refine wpAny_builtinsFor (m := X.mg) (by rw [I3.ok.glob]; exact I3.mod.glob.keeps I3.bk) e1 e2 (I3.bk _ _ e5) e6 e7 e8 ?_
    intro h' hn' hs'
    have hn' : h'.Ns h3.objs.size (fun y => if y = ".0" then some (.ref it) else none) := hn'
    have hs' : Heap.SameBut h3.objs.size (h3.push { cls := .type "frame", data := .dict #[] }) h' := hs'
    have hsz : h'.objs.size = h3.objs.size + 1 := by rw [hs'.1, Heap.size_push]
    have keep' : ∀ b o, h3.get? b = some o → h'.get? b = some o := fun b o e => hs'.extBut b o (Nat.ne_of_lt (Heap.lt_size e)) (Heap.get?_push_of_some _ e)
    generalize hH3 : upd H2 P (.tbl (ps ++ more)) = H3 at I3 f3 w0
    generalize hgo : ({ cls := .type "generator", data := .fields #[.int s2.gens.size 0, .str "<genexpr>" (tk + 1), .str (X.env.qual ++ "<genexpr>") (tk + 1 + 1)] } : Obj) = go
    have goC : ∀ v, go.data ≠ .cell v := fun v z => by rw [← hgo] at z; cases z
    have goF : go.isFreed = false := by rw [← hgo]; rfl
    generalize hs5 : ({ s2 with heap := h'.push go, toks := tk + 1 + 1 + 1, gens := s2.gens.push (.fresh (.compStart (.GeneratorExp elt [⟨.Name x px, iter, ifs, 0⟩] scope gpos) 0 (.ref it) .none (gxEnv X scope h3.objs.size code))) } : Shared) = s5
    have k5 : ∀ b o, h3.get? b = some o → s5.heap.get? b = some o := fun b o e => by rw [← hs5]; exact Heap.get?_push_of_some _ (keep' b o e)
    have g5 : s5.heap.get? h'.objs.size = some go := by rw [← hs5]; exact Heap.get?_push_size _ goF
    have b5 : AllBare s5.gens := by rw [← hs5]; exact I2.bare.push rfl
    have I5 := gx_start (A' := X.A.in1.in1.in1.in1) (code := code) (pn := [(h'.objs.size, go)]) (s5 := s5) (s := { s2 with heap := h3, toks := tk }) I3 ok gk hN f3 I2.ok.frames hr.hd (by rw [← hs5]) b5 k5 (by rw [← hs5]; exact hn'.push _) (fun p hp => by
      rw [List.mem_singleton.mp hp]
      exact ⟨g5, by show h3.objs.size < h'.objs.size; omega, goC⟩)
    have rk : Room k (gxc X X.A.in1.in1.in1.in1 { s2 with heap := h3, toks := tk } H3 scope h3.objs.size code fp [(h'.objs.size, go)]).A := ⟨hr.hd, by have := hr.dp; show X.A.depth + 1 + 3 * k + 5 < _; omega, by have := hr.un; show X.A.units + 1 + 1 + 1 + 1 + 3 + 16 * k + 200 < _; omega⟩
    have pg := hgt X.A.in1.in1.in1.in1 { s2 with heap := h3, toks := tk } H3 h3.objs.size code fp [(h'.objs.size, go)]
    have pt := ht X.A.in1.in1.in1.in1 { s2 with heap := h3, toks := tk } H3 h3.objs.size code fp [(h'.objs.size, go)] rk
    have pe := he X.A.in1.in1.in1.in1 { s2 with heap := h3, toks := tk } H3 h3.objs.size code fp [(h'.objs.size, go)] rk
    have npn : ∀ p ∈ [(h'.objs.size, go)], p.1 ∉ fp := fun p hp z => by
      rw [List.mem_singleton.mp hp] at z
      have h9 : h'.objs.size < h3.objs.size := (f3 _ z).2
      omega
    have nf : ∀ b ∈ fp, H3 b = none := fun b hb => (f3 b hb).1.1
    have isG : ∀ {h : Heap}, h.get? h'.objs.size = some go → h.IsGen h'.objs.size s2.gens.size := fun {h} e => ⟨go, .str "<genexpr>" (tk + 1), .str (X.env.qual ++ "<genexpr>") (tk + 1 + 1), e, by rw [← hgo], by rw [← hgo], by rw [← hgo]⟩
    have back : ∀ {H' : Hp} {s₁ s' : Shared}, Inv (gxc X X.A.in1.in1.in1.in1 { s2 with heap := h3, toks := tk } H3 scope h3.objs.size code fp [(h'.objs.size, go)]) [] (wipe σ (own.map (·.2))) H' s₁ → s'.os = s₁.os → AllBare s'.gens → (∀ b o, s₁.heap.get? b = some o → s'.heap.get? b = some o) → Inv X pins σ H' s' := fun {H' s₁ s'} I' ho hb k =>
      I3.call' (ch := fp) (ho.trans I'.os) (I'.base.trans (Un.kept k)) (I'.hok.kept k) hb fun b hb => ⟨(f3 b hb).1.2.2.2.1, (f3 b hb).1.2.1, (f3 b hb).1.2.2.2.2.1, (f3 b hb).1.2.2.2.2.2⟩
    refine Calls.spliced_nil ?_
    show wpAny (model X.prog X.w) X.A (call (.type "tuple") [.ref h'.objs.size]) (EP X pins σ Q) X.xe s5
    have a5 : h'.objs.size < s5.heap.objs.size := Heap.lt_size g5
    have C5 : h3.objs.size < s5.heap.objs.size := by omega
    have nSf : s5.heap.objs.size ∉ fp := fun z => by
      have h9 : s5.heap.objs.size < h3.objs.size := (f3 _ z).2
      omega
    have ap : Apart (gxc X X.A.in1.in1.in1.in1 { s2 with heap := h3, toks := tk } H3 scope h3.objs.size code fp [(h'.objs.size, go)]) s5.heap.objs.size := by
      refine ⟨Nat.le_of_lt C5, Nat.ne_of_gt C5, fun y c e z => ?_⟩
      obtain ⟨v, q⟩ := I5.cell y c e
      have := q.lt
      rw [z] at this
      exact absurd this (Nat.lt_irrefl _)
    have hpS : ∀ p ∈ [(h'.objs.size, go)], p.1 ≠ s5.heap.objs.size := fun p hp => by
      rw [List.mem_singleton.mp hp]
      exact Nat.ne_of_lt a5
    have hSc : s5.heap.objs.size ≠ cStatics := fun z => by
      obtain ⟨mc, hns, _⟩ := I5.nolimit
      have := hns.lt
      rw [← z] at this
      exact absurd this (Nat.lt_irrefl _)
    refine callType_codes (Q₁ := fun obj s₁ => s₁.TypeIs obj "tuple" ∧ EP X pins σ Q obj s₁) F.called_tuple (F.typeCall_tuple_1 _) F.entry_object_init ?_ fun obj s₁ h₁ => ⟨h₁.1, F.args_object_init_2 obj _, object_init_meets F.called_tuple.init.lookup F.called_tuple.made (by decide) X.prog X.w X.A.in1 _ s₁ ⟨h₁.1, rfl, h₁.2⟩⟩
    refine codeAny_of_tree ?_
    show wpAny _ X.A.in1.in1 (do checkBuiltinCall "tuple.__new__" ⟨[.type "tuple", .ref h'.objs.size], []⟩; again (.builtin "tuple.__new__" ⟨[.type "tuple", .ref h'.objs.size], []⟩)) _ _ s5
    refine wpAny_bind (wpAny_of_eq (F.newCall_tuple_1 _) (wpAny_pure ⟨plainId_quiet F.plain_tuple_new _, codeAny_builtin F.entry_tuple_new ?_⟩))
    rw [Around.under_plainId F.plain_tuple_new _]
    have hsub := sub_tuple_self
    have hinit := init_tuple_lookup
    have hmh := madeHere_tuple
    have hTI := (isG g5).typeIs
    wp_walk using wpAny_typeOf hTI, collect_by (isG g5) a5
    intro c0 h2 hk2 hS2
    refine ext_by (A := X.A.in1.in1) (fun n s => s.heap.IsGen h'.objs.size s2.gens.size ∧ s.heap.NoLimit ∧ ∃ gs, s.gens[s2.gens.size]? = some gs ∧ gs.Goes (model X.prog X.w) X.A.in1.in1.in1.in1 (tupR (gxc X X.A.in1.in1.in1.in1 { s2 with heap := h3, toks := tk } H3 scope h3.objs.size code fp [(h'.objs.size, go)]) (wipe σ (own.map (·.2))) s5.heap.objs.size (fun ys H' => ys.length ≤ sizeLine ∧ ∀ p, H' p = none → Q (.ref p) (upd H' p (.tup ys)))) (tupY (gxc X X.A.in1.in1.in1.in1 { s2 with heap := h3, toks := tk } H3 scope h3.objs.size code fp [(h'.objs.size, go)]) (wipe σ (own.map (·.2))) s5.heap.objs.size) n (.send .none) (s.setGen s2.gens.size .running)) ?_ (m0 + 1) _ ?_
    · rintro n s ⟨hgn, hl, gs, hgs, hgoes⟩
      have hgl : s2.gens.size < s.gens.size := (Array.getElem?_eq_some_iff.mp hgs).1
      refine wpAny_gsz (n := s2.gens.size + 1) hgl (next_genG (A := X.A.in1.in1.in1) (F := fun _ _ s₁ => tupF (gxc X X.A.in1.in1.in1.in1 { s2 with heap := h3, toks := tk } H3 scope h3.objs.size code fp [(h'.objs.size, go)]) (wipe σ (own.map fun (y : Str × Nat) => y.2)) s5.heap.objs.size (fun ys H' => ys.length ≤ sizeLine ∧ ∀ p, H' p = none → Q (.ref p) (upd H' p (.tup ys))) s₁) (Er := fun _ _ => False) hr.hd hl (by have := hr.dp; show X.A.depth < _; omega) hgn hgs hgoes (fun v s₁ gs' hbare hv => ?_) (fun s₁ hp h'' hk => ?_) fun e s₁ he => he.elim)
      · intro hsz
        obtain ⟨ys, yv, H', rv, gi, lt, kt⟩ := hv
        obtain ⟨_, _, _, acc, ca, ra, hS1⟩ := gi.at
        obtain ⟨acc0, ca0, ra0, I'⟩ := gi
        have hsz1 : s2.gens.size < s₁.gens.size := by
          have q : (s₁.setGen s2.gens.size gs').gens.size = s₁.gens.size := setGen_size _ _ _
          have hsz' : s2.gens.size + 1 ≤ (s₁.setGen s2.gens.size gs').gens.size := hsz
          omega
        have la : acc.size < sizeLine := by
          have e9 : ys.length = acc.size := ra.length.trans Array.length_toList
          rw [← e9]
          exact lt
        refine ⟨acc, ca, hS1, la, ?_⟩
        cases n with
        | zero => exact (kt _ (Slept.push hS1 I'.bare)).elim
        | succ n' =>
          have kp3 : ∀ b o, b ≠ s5.heap.objs.size → s₁.heap.get? b = some o → (s₁.heap.update s5.heap.objs.size (Obj.mapSeq (·.push v))).get? b = some o := fun b o hbS e => (Heap.get?_update_other _ _ (Ne.symm hbS)).trans e
          refine ⟨n', Nat.lt_succ_self _, isG (kp3 _ _ (Nat.ne_of_lt a5) (I'.pin (h'.objs.size, go) (by simp)).1), ?_, gs', setGen_at (s := s₁) hsz1, kt _ (Slept.push hS1 (allBare_setGen (s := s₁.setGen s2.gens.size gs') (allBare_setGen I'.bare hbare) rfl))⟩
          obtain ⟨mc, hns, hnn⟩ := I'.nolimit
          exact ⟨mc, hns.at' fun o e => kp3 _ o (Ne.symm hSc) e, hnn⟩
      · intro _
        obtain ⟨ys, H', gi, lq, q'⟩ := hp
        obtain ⟨_, _, _, acc, ca, ra, hS1⟩ := gi.at
        obtain ⟨acc0, ca0, ra0, I'⟩ := gi
        refine ⟨acc, ca, rfl, hk _ _ hS1, ?_⟩
        have IX := back (s' := { s₁.setGen s2.gens.size .finished with heap := h'' }) (I'.pins_of fun p hp => by cases hp) rfl (allBare_setGen I'.bare rfl) hk
        show wpAny _ _ (Builtin.Tuple.tupleExact acc.toList.toArray >>= fun v => ret v) _ _ _
        unfold Builtin.Tuple.tupleExact
        have la : acc.size ≤ sizeLine := by
          have e9 : ys.length = acc.size := ra.length.trans Array.length_toList
          rw [← e9]
          exact lq
        refine wpAny_bind (wpAny_newObj_type ?_ (by show acc.toList.toArray.size ≤ sizeLine; simp only [Array.toArray_toList]; exact la))
        refine wpAny_pure ?_
        have IL := IX.laid (t' := s₁.toks) (h' := h''.push { cls := .type "tuple", data := .seq acc.toList.toArray }) (a := h''.objs.size) (o := .tup ys) (fun b o e => Heap.get?_push_of_some _ e) (Nat.le_refl _) ⟨lq, acc.toList, ra, _, Heap.get?_push_size _ rfl, rfl, _, rfl⟩
        exact ⟨⟨_, Heap.get?_push_size _ rfl, rfl⟩, .ref h''.objs.size, _, IL, rfl, q' _ (IX.hok.fresh (Nat.le_refl _))⟩
    · have b5' : AllBare (({ s5 with heap := h2 } : Shared).setGen s2.gens.size .running).gens := allBare_setGen (s := { s5 with heap := h2 }) b5 rfl
      refine ⟨isG (hk2 _ _ g5), I5.nolimit.keeps hk2, .fresh (.compStart (.GeneratorExp elt [⟨.Name x px, iter, ifs, 0⟩] scope gpos) 0 (.ref it) .none (gxEnv X scope h3.objs.size code)), by rw [← hs5]; exact Array.getElem?_push_size .., rfl, ?_⟩
      have I6 := I5.kept (t' := s5.toks) hk2
      refine gx_beginT gk npn hpS nSf ap T pg pt pe turn m0 (m0 + 1) _ _ [] H3 w0 (Nat.lt_succ_self _) ⟨#[], c0, .nil, (Slp.inv (s' := ({ s5 with heap := h2 } : Shared).setGen s2.gens.size .running) I6 ⟨rfl, rfl, b5'⟩).pins_of fun p hp => ?_⟩ (T.keep _ _ _ st3 fun b hb o e => hk2 _ _ (k5 b o e)) nf
      rw [List.mem_singleton.mp hp]
      exact ⟨hS2, I5.hok.fresh (Nat.le_refl _), Nat.ne_of_gt C5, I5.nofs (Nat.le_refl _), fun v z => by cases z⟩
  cases hf : codeAmong gpos ps.toList with
  | none =>
    refine wpAny_genexprCodeX hcode (cd.code hPs htr) (cd.tab hPs) hf fun c' h' tk hx hge hlt hco' _ htab' _ => ?_
    obtain ⟨o1, vs, f1, tf, fl, tg, inF, tx, tt, op, _, _, _, _, _, _, _, _, _, htr', _⟩ := hco'
    exact cont _ h' tk _ hx htab'.2 htr'
  | some cv =>
    refine wpAny_genexprCode_hit hcode (cd.code hPs htr) hf ?_
    exact cont cv s2.heap s2.toks #[] (Heap.ExtBut.refl _ _) (by simpa using hPs) (by simpa using htr)
end
end Fc

namespace Fc
open PySem PySem.Spec L2 PyProof.Rows GxR
variable [LamNames]
/-! ### a def whose code object is known by its address -/
structure FunC (K : PySem.W.Frag) (x qual : Str) (st : Stmt) (f : Addr) (fd : FuncData) (c : Addr) : Prop where
  ex : ∃ (oc : Value) (od : Option Addr) (kV doc pm : Value) (an : Option Addr) (ct : Value) (osl : Array (Option Value)),
    fd = PySem.W.fnOf x qual (defArgs st) (defBody st) (defScope st) .none kV doc pm an (.ref c) ct ∧ K.lookup f = some ⟨oc, od, .func fd, osl⟩ ∧ PySem.W.codeIn K (.ref c) qual = true
  kp : PySem.W.keepIn K (.ref f) = true
theorem FunC.to {K : PySem.W.Frag} {x qual : Str} {st : Stmt} {f : Addr} {fd : FuncData} {c : Addr} (F : FunC K x qual st f fd c) : Fun K x qual st f fd := by
  obtain ⟨oc, od, kV, doc, pm, an, ct, osl, h1, h2, h3⟩ := F.ex
  exact ⟨⟨oc, od, kV, doc, pm, an, _, ct, osl, h1, h2, h3⟩, F.kp⟩
section
variable {P : Program} {w : World} {K : PySem.W.Frag} {mg : Str → Option Value} {base : Heap}
theorem FunC.ok {x qual : Str} {st : Stmt} {f : Addr} {fd : FuncData} {c : Addr} {N ps : List Str} {k : Nat} {sp : Sp} (F : FunC K x qual st f fd c) (S : FnScope N ps (defScope st)) (len : ∀ vs H Q E, sp vs H Q E → vs.length = ps.length)
    (hbody : ∀ (A : Around) (outer : List Env) (s : Shared) (H : Hp) (vs : List V) (Q : VK) (E : XK), Room k (A.deeper (envOfC qual (defScope st) s.heap.objs.size f (.ref c))) → sp vs H Q E →
      ∃ t, PSs (cxOf CX0 P w K mg base N qual (defScope st) f (.ref c) A outer s H E).nox (defBody st) t ∧ t { nx := fun _ H' => Q .non H', rt := Q } (start N vs) H) : FnOk P w K mg base CX0 (k + 1) f fd ps sp := by
  obtain ⟨oc, od, kV, doc, pm, an, ct, osl, rfl, lk, hcd⟩ := F.ex
  refine fn_of lk hcd S len fun A outer s H vs Q E hr hsp => ?_
  obtain ⟨t, h, q⟩ := hbody A outer s H vs Q E hr hsp
  exact ⟨t, h.nox, q⟩
theorem FunC.okX {x qual : Str} {st : Stmt} {f : Addr} {fd : FuncData} {c : Addr} {N ps : List Str} {k : Nat} {sp : Sp} (F : FunC K x qual st f fd c) (S : FnScope N ps (defScope st)) (len : ∀ vs H Q E, sp vs H Q E → vs.length = ps.length)
    (hbody : ∀ (A : Around) (outer : List Env) (s : Shared) (H : Hp) (vs : List V) (Q : VK) (E : XK), Room k (A.deeper (envOfC qual (defScope st) s.heap.objs.size f (.ref c))) → sp vs H Q E →
      ∃ t, PSs (cxOf (L2.CX P w) P w K mg base N qual (defScope st) f (.ref c) A outer s H E) (defBody st) t ∧ t { nx := fun _ H' => Q .non H', rt := Q } (start N vs) H) : FnOk P w K mg base (L2.CX P w) (k + 1) f fd ps sp := by
  obtain ⟨oc, od, kV, doc, pm, an, ct, osl, rfl, lk, hcd⟩ := F.ex
  exact fn_of lk hcd S len fun A outer s H vs Q E hr hsp => hbody A outer s H vs Q E hr hsp
end
theorem funC_mk {K : PySem.W.Frag} {x : Str} {st : Stmt} {f : Addr} {oc kV doc pm ct : Value} {od an : Option Addr} {osl : Array (Option Value)} {c : Addr} (l : K.lookup f = some ⟨oc, od, .func (PySem.W.fnOf x x (defArgs st) (defBody st) (defScope st) .none kV doc pm an (.ref c) ct), osl⟩) (hc : PySem.W.codeIn K (.ref c) x = true) (k : PySem.W.keepIn K (.ref f) = true) :
    FunC K x x st f (PySem.W.fnOf x x (defArgs st) (defBody st) (defScope st) .none kV doc pm an (.ref c) ct) c := ⟨⟨oc, od, kV, doc, pm, an, ct, osl, rfl, l, hc⟩, k⟩
/-! ### a head's facts, by names -/
theorem fun_ofD {K : PySem.W.Frag} {x : Str} {st : Stmt} {f : Addr} {fd : FuncData} (D : FunD K x x (defArgs st) (defBody st) (defScope st) [] [] f fd) : Fun K x x st f fd := by
  obtain ⟨oc, od, dV, kV, doc, pm, an, cdv, ct, osl, h1, h2, h3, h4, _⟩ := D.ex
  rcases h4 with ⟨_, h4⟩ | ⟨h4, _⟩
  · subst h4
    exact ⟨⟨oc, od, kV, doc, pm, an, cdv, ct, osl, h1, h2, h3⟩, D.kp⟩
  · exact absurd rfl h4
theorem funC_ofD {K : PySem.W.Frag} {x : Str} {st : Stmt} {fd : FuncData} (D : FunD K x x (defArgs st) (defBody st) (defScope st) [] [] (He.fAd K (x, none)) fd) : FunC K x x st (He.fAd K (x, none)) fd (He.cT K (x, none)).1 := by
  obtain ⟨oc, od, dV, kV, doc, pm, an, cdv, ct, osl, h1, h2, h3, h4, _⟩ := D.ex
  rcases h4 with ⟨_, h4⟩ | ⟨h4, _⟩
  · subst h4
    obtain ⟨c, rfl⟩ := He.codeIn_ref h3
    have e : He.codeOf K (x, none) = c := He.codeOf_eq h2 (by rw [h1] <;> rfl)
    show FunC K x x st (He.fAd K (x, none)) fd (He.codeOf K (x, none))
    rw [e]
    exact ⟨⟨oc, od, kV, doc, pm, an, ct, osl, h1, h2, h3⟩, D.kp⟩
  · exact absurd rfl h4
theorem tab_empty {H : Hp} {p : Addr} (h : H p = some (.tbl #[])) (n : LamNames.lam p = none) : TabN H p := ⟨⟨#[], h, by simp [TriplesOk]⟩, n⟩
theorem tabB_of {base : Heap} {mg : Str → Option Value} {c p : Addr} (t : LamX.TabB base mg c p) : TabB base mg c p := ⟨t.code, t.bm, t.gP⟩
end Fc

namespace Fc
open PySem PySem.Spec L2 PyProof.Rows
variable [LamNames]
/-! ### texts as rows of codes -/
def mkS (l : List Nat) : Str := ⟨l.toArray⟩
def T (l : List Nat) : V := .str (mkS l)
theorem tl_mkS (l : List Nat) : TL.tl (mkS l) = l := rfl
theorem mkS_tl (x : Str) : mkS (TL.tl x) = x := TL.mk_tl x
theorem mkS_inj {a b : List Nat} (h : mkS a = mkS b) : a = b := by
  have := congrArg TL.tl h
  exact this
theorem T_inj {a b : List Nat} (h : T a = T b) : a = b := mkS_inj (V.str.inj h)
theorem dec_T {a b : List Nat} : decide (T a = T b) = decide (a = b) := by
  by_cases z : a = b
  · rw [z]; simp
  · rw [decide_eq_false z]; exact decide_eq_false fun k => z (T_inj k)
theorem len_mkS (l : List Nat) : (mkS l).length = l.length := TL.len_tl _
theorem mkS_app (a b : List Nat) : mkS a ++ mkS b = mkS (a ++ b) := TL.ext_tl (by rw [TL.tl_append]; rfl)
theorem mkS_cut (l : List Nat) (lo hi : Option Int) : cutS (mkS l) lo hi = mkS ((l.drop (HT.sIx l.length 0 lo)).take (HT.sIx l.length l.length hi - HT.sIx l.length 0 lo)) := by
  apply TL.ext_tl
  unfold cutS
  rw [len_mkS]
  first
    | rfl
    | (rw [TL.tl_strSub]; rfl)
/-! ### pieces between strokes -/
def splitC (c : Nat) : List Nat → List (List Nat)
  | [] => [[]]
  | x :: r => if x = c then [] :: splitC c r else match splitC c r with
    | [] => [[x]]
    | p :: ps => (x :: p) :: ps
theorem splitC_ne (c : Nat) : ∀ l, splitC c l ≠ []
  | [] => by simp [splitC]
  | x :: r => by
    rw [splitC]
    split
    · simp
    · split <;> simp
theorem spl_splitC (c : Nat) : ∀ (l acc : List Nat), TL.spl [c] 0 acc l = (match splitC c l with | [] => [acc] | p :: ps => (acc ++ p) :: ps)
  | [], acc => by
    rw [TL.spl_nil, splitC]
    simp
  | x :: r, acc => by
    by_cases z : x = c
    · subst z
      rw [TL.spl_hit (by unfold TL.pre; simp)]
      show acc :: TL.spl [x] 0 [] r = _
      rw [spl_splitC x r [], splitC, if_pos rfl]
      cases e : splitC x r with
      | nil => exact absurd e (splitC_ne x r)
      | cons p ps => simp
    · rw [TL.spl_miss (TL.pre_of_head [] r z), spl_splitC c r (acc ++ [x]), splitC, if_neg z]
      cases e : splitC c r with
      | nil => exact absurd e (splitC_ne c r)
      | cons p ps => simp
theorem split_mkS (c : Nat) (hc : c < 256) (l : List Nat) : Txt.split (mkS l) (mkS [c]) = (splitC c l).map mkS := by
  apply TL.map_tl_inj
  rw [TL.split_spl (mkS l) (mkS [c]) (by rw [tl_mkS]; simp) (TL.kind_ok (by simp [mkS, hc]))]
  rw [tl_mkS, tl_mkS, spl_splitC, List.map_map]
  have e : (TL.tl ∘ mkS) = id := rfl
  rw [e, List.map_id]
  cases e2 : splitC c l with
  | nil => exact absurd e2 (splitC_ne c l)
  | cons p ps => simp
def joinC (c : Nat) (ps : List (List Nat)) : List Nat := TL.joinL [c] ps
theorem join_mkS (c : Nat) (ps : List (List Nat)) : Txt.join (mkS [c]) (ps.map mkS) = mkS (joinC c ps) := by
  apply TL.ext_tl
  rw [TL.join_eq, TL.tl_join, List.map_map]
  have e : (TL.tl ∘ mkS) = id := rfl
  rw [e, List.map_id]
  rfl
theorem split_joinC (c : Nat) {ps : List (List Nat)} (hne : ps ≠ []) (h : ∀ p ∈ ps, c ∉ p) : splitC c (joinC c ps) = ps := by
  have e := TL.spl_join (s := c) (S := []) hne h
  have e2 := spl_splitC c (joinC c ps) []
  rw [show TL.spl [c] 0 [] (joinC c ps) = ps from e] at e2
  cases q : splitC c (joinC c ps) with
  | nil => exact absurd q (splitC_ne _ _)
  | cons p r =>
    rw [q] at e2
    simpa using e2.symm
theorem joinC_len (c : Nat) : ∀ (ps : List (List Nat)) (m : Nat), (∀ p ∈ ps, p.length ≤ m) → (joinC c ps).length ≤ ps.length * (m + 1)
  | [], m, _ => by simp [joinC, TL.joinL]
  | [p], m, h => by
    have := h p (by simp)
    simp [joinC, TL.joinL]
    omega
  | p :: q :: r, m, h => by
    have ih := joinC_len c (q :: r) m fun x hx => h x (List.mem_cons_of_mem _ hx)
    have hp := h p (by simp)
    have e : joinC c (p :: q :: r) = p ++ [c] ++ joinC c (q :: r) := by simp [joinC, TL.joinL]
    have e3 : (p :: q :: r).length * (m + 1) = (q :: r).length * (m + 1) + (m + 1) := by
      show ((q :: r).length + 1) * (m + 1) = _
      rw [Nat.add_mul, Nat.one_mul]
    have e4 : ([c] : List Nat).length = 1 := rfl
    rw [e, e3, List.length_append, List.length_append, e4]
    omega
end Fc

namespace Fc
open PySem PySem.Spec L2 PyProof.Rows
variable [LamNames]
/-! ### parts and paths -/
/-- a to z, 0 to 9, the dot, the two strokes -/
def good : List Nat := [97, 98, 99, 100, 101, 102, 103, 104, 105, 106, 107, 108, 109, 110, 111, 112, 113, 114, 115, 116, 117, 118, 119, 120, 121, 122, 48, 49, 50, 51, 52, 53, 54, 55, 56, 57, 46, 45, 95]
def partOk (p : List Nat) : Prop := 1 ≤ p.length ∧ p.length ≤ 12 ∧ p ≠ [46] ∧ p ≠ [46, 46] ∧ ∀ c ∈ p, c ∈ good
instance (p : List Nat) : Decidable (partOk p) := by
  unfold partOk
  infer_instance
theorem no_stroke {p : List Nat} (h : partOk p) : 47 ∉ p := fun m => absurd (h.2.2.2.2 47 m) (by decide)
inductive CRes where
  | bad
  | out
  | ok (kept : List (List Nat))
def walkC : List (List Nat) → List (List Nat) → CRes
  | [], kept => if kept = [] ∨ 8 < kept.length then .bad else .ok kept
  | p :: r, kept => if p = [46, 46] then (if kept = [] then .out else walkC r kept.dropLast) else if p = [] ∨ p = [46] then walkC r kept else if partOk p then walkC r (kept ++ [p]) else .bad
def cleanF (l : List Nat) : CRes := if l.head? = some 47 then .out else walkC (splitC 47 l) []
/-- the path that these parts make -/
def pathOf (ps : List (List Nat)) : List Nat := joinC 47 ps
def PathOk (ps : List (List Nat)) : Prop := ps ≠ [] ∧ ps.length ≤ 8 ∧ ∀ p ∈ ps, partOk p
theorem walkC_ok : ∀ (ps kept : List (List Nat)) {k2 : List (List Nat)}, (∀ p ∈ kept, partOk p) → walkC ps kept = .ok k2 → PathOk k2
  | [], kept, k2, h, e => by
    rw [walkC] at e
    split at e
    · cases e
    · rename_i z
      cases e
      exact ⟨fun q => z (.inl q), by omega, h⟩
  | p :: r, kept, k2, h, e => by
    rw [walkC] at e
    split at e
    · split at e
      · cases e
      · exact walkC_ok r _ (fun q hq => h q ((List.dropLast_sublist _).mem hq)) e
    · split at e
      · exact walkC_ok r _ h e
      · split at e
        · rename_i g
          refine walkC_ok r _ (fun q hq => ?_) e
          rcases List.mem_append.mp hq with hq | hq
          · exact h q hq
          · rw [List.mem_singleton.mp hq]
            exact g
        · cases e
theorem cleanF_ok {l : List Nat} {ps : List (List Nat)} (h : cleanF l = .ok ps) : PathOk ps := by
  unfold cleanF at h
  split at h
  · cases h
  · exact walkC_ok _ _ (fun p hp => by cases hp) h
theorem walkC_parts : ∀ (ps kept : List (List Nat)) (r : List (List Nat)), (∀ p ∈ ps, partOk p) → walkC (ps ++ r) kept = walkC r (kept ++ ps)
  | [], kept, r, _ => by simp
  | p :: ps, kept, r, h => by
    have g := h p (by simp)
    have n1 : p ≠ [46, 46] := g.2.2.2.1
    have n2 : ¬ (p = [] ∨ p = [46]) := fun z => by
      rcases z with z | z
      · rw [z] at g
        exact absurd g.1 (by decide)
      · exact g.2.2.1 z
    rw [List.cons_append, walkC, if_neg n1, if_neg n2, if_pos g, walkC_parts ps (kept ++ [p]) r fun q hq => h q (List.mem_cons_of_mem _ hq), List.append_assoc]
    rfl
theorem head_join {ps : List (List Nat)} (h : PathOk ps) : (pathOf ps).head? ≠ some 47 := by
  obtain ⟨hne, _, hp⟩ := h
  cases ps with
  | nil => exact absurd rfl hne
  | cons p r =>
    have g := hp p (by simp)
    cases p with
    | nil => exact absurd g.1 (by decide)
    | cons c q =>
      have nc : c ≠ 47 := fun z => no_stroke g (by rw [z]; simp)
      cases r with
      | nil =>
        show (c :: q).head? ≠ some 47
        simpa using nc
      | cons p2 r2 =>
        show ((c :: q) ++ ([47] ++ TL.joinL [47] (p2 :: r2))).head? ≠ some 47
        simpa using nc
theorem split_path {ps : List (List Nat)} (h : PathOk ps) : splitC 47 (pathOf ps) = ps := split_joinC 47 h.1 fun p hp => no_stroke (h.2.2 p hp)
theorem clean_path {ps : List (List Nat)} (h : PathOk ps) : cleanF (pathOf ps) = .ok ps := by
  unfold cleanF
  rw [if_neg (head_join h), split_path h]
  have e := walkC_parts ps [] [] h.2.2
  rw [List.append_nil, List.nil_append] at e
  rw [e, walkC, if_neg (fun z => by rcases z with z | z; exact h.1 z; exact absurd h.2.1 (by omega))]
/-! ### a stroke and two dots behind -/
theorem splitC_app (c : Nat) : ∀ (l m : List Nat), splitC c (l ++ c :: m) = splitC c l ++ splitC c m
  | [], m => by
    show splitC c (c :: m) = [[]] ++ splitC c m
    rw [splitC, if_pos rfl]
    rfl
  | x :: r, m => by
    show splitC c (x :: (r ++ c :: m)) = _
    rw [splitC, splitC, splitC_app c r m]
    by_cases z : x = c
    · rw [if_pos z, if_pos z]
      rfl
    · rw [if_neg z, if_neg z]
      cases e : splitC c r with
      | nil => exact absurd e (splitC_ne c r)
      | cons p ps => rfl
theorem clean_up {ps : List (List Nat)} (h : PathOk ps) : cleanF (pathOf ps ++ [47, 46, 46]) = if ps.dropLast = [] then .bad else .ok ps.dropLast := by
  have hd : (pathOf ps ++ [47, 46, 46]).head? ≠ some 47 := by
    have := head_join h
    cases e : pathOf ps with
    | nil =>
      have s := split_path h
      rw [e] at s
      have g := h.2.2 [] (by rw [← s]; simp [splitC])
      exact absurd g.1 (by decide)
    | cons c q =>
      rw [e] at this
      simpa using this
  unfold cleanF
  rw [if_neg hd, show pathOf ps ++ [47, 46, 46] = pathOf ps ++ 47 :: [46, 46] from rfl, splitC_app, split_path h, show splitC 47 [46, 46] = [[46, 46]] by decide, walkC_parts ps [] _ h.2.2, List.nil_append, walkC, if_pos rfl, if_neg h.1, walkC]
  have l8 : ps.dropLast.length ≤ 8 := by
    rw [List.length_dropLast]
    have := h.2.1
    omega
  by_cases z : ps.dropLast = []
  · rw [if_pos (.inl z), if_pos z]
  · rw [if_neg (fun k => by rcases k with k | k; exact z k; omega), if_neg z]
/-- the paths above -/
def aboveF (ps : List (List Nat)) : List (List Nat) := (List.range (ps.length - 1)).map fun k => pathOf (ps.take (k + 1))
theorem aboveF_last {ps : List (List Nat)} (h : ps ≠ []) : (aboveF ps).getLast? = if ps.dropLast = [] then none else some (pathOf ps.dropLast) := by
  unfold aboveF
  have lp : 0 < ps.length := List.length_pos_iff.mpr h
  have ld := List.length_dropLast (xs := ps)
  by_cases z : ps.length = 1
  · have e : ps.dropLast = [] := List.eq_nil_of_length_eq_zero (by rw [ld]; omega)
    rw [if_pos e, z]
    rfl
  · have e : ps.dropLast ≠ [] := fun q => by
      rw [q] at ld
      simp at ld
      omega
    rw [if_neg e, List.getLast?_map, List.getLast?_range]
    have z2 : ¬ ps.length - 1 = 0 := by omega
    rw [if_neg z2]
    show some (pathOf (ps.take (ps.length - 1 - 1 + 1))) = _
    rw [show ps.length - 1 - 1 + 1 = ps.length - 1 by omega, List.dropLast_eq_take]
end Fc

namespace Fc
open PySem PySem.Spec L2 PyProof.Rows
variable [LamNames]
/-! ### [c for c in text if test] -/
theorem lc_sign {l : List Nat} {keep : Nat → Bool} {tt : TT} {te : TE} {vs : List Nat} {σ : L2.St} {H1 : Hp} {D : Addr} {j : Nat} {Qd : Hp → Prop} (nD : H1 D = none) (hz : l.length ≤ sizeLine)
    (hw : ∀ x, wipe ((wipe σ vs).set j (some x)) vs = wipe σ vs)
    (test : ∀ (i : Nat) (c : Nat) (H : Hp) (R : Bool → Hp → Prop), l[i]? = some c → Same H1 H → (∀ H', Same H H' → R (keep c) H') → tt ((wipe σ vs).set j (some (T [c]))) H R)
    (item : ∀ (c : Nat) (H : Hp) (R : V → Hp → Prop), Same H1 H → (∀ H', Same H H' → R (T [c]) H') → te ((wipe σ vs).set j (some (T [c]))) H R) (hd : ∀ H', Same H1 H' → H' D = some (.lst ((l.filter keep).map fun c => T [c])) → Qd H') :
    ∃ W : Nat → Nat → Hp → Prop, (∃ m, W 0 m (upd H1 D (.lst []))) ∧ ∀ i m H, W i m H →
      ((Its (mkS l)).stop i H ∧ Qd H) ∨ ((Its (mkS l)).go i H ∧ ∃ Nx : Hp → Prop, (∀ H', Nx H' → ∃ m', m' < m ∧ W (i + 1) m' H') ∧ ∀ x H', (Its (mkS l)).yld i H x H' → gName j x (wipe σ vs) H' fun σ2 H2 => wipe σ2 vs = wipe σ vs ∧ tt σ2 H2 fun b H3 =>
        if b = true then te σ2 H3 fun y H4 => ∃ acc, H4 D = some (.lst acc) ∧ acc.length < sizeLine ∧ Nx (upd H4 D (.lst (acc ++ [y]))) else Nx H3) := by
  have sz : (mkS l).cps.size = l.length := by simp [mkS]
  refine ⟨fun i m H => m = l.length - i ∧ i ≤ l.length ∧ Same H1 H ∧ H D = some (.lst (((l.take i).filter keep).map fun c => T [c])), ⟨l.length, rfl, Nat.zero_le _, grow nD, upd_same⟩, ?_⟩
  rintro i m H ⟨rfl, hi, sm, hD⟩
  by_cases lt : i < l.length
  · refine .inr ⟨by show i < (mkS l).cps.size; omega, fun H' => Same H1 H' ∧ H' D = some (.lst (((l.take (i + 1)).filter keep).map fun c => T [c])), fun H' p => ⟨l.length - (i + 1), by omega, rfl, lt, p.1, p.2⟩, fun x H' yl => ?_⟩
    obtain ⟨rfl, c, hc, rfl⟩ := yl
    have gc : l[i]? = some c := by
      have : (mkS l).cps[i]? = l[i]? := by simp [mkS]
      rw [← this]
      exact hc
    have ft : (l.take (i + 1)).filter keep = (l.take i).filter keep ++ (if keep c = true then [c] else []) := by
      rw [List.take_add_one, gc, Option.toList_some, List.filter_append]
      congr 1
      by_cases k : keep c = true
      · rw [if_pos k, List.filter_cons_of_pos k]; rfl
      · rw [if_neg k, List.filter_cons_of_neg k]; rfl
    refine ⟨hw _, test i c H' _ gc sm fun H3 s3 => ?_⟩
    by_cases k : keep c = true
    · rw [if_pos k]
      refine item c H3 _ (sm.trans s3) fun H4 s4 => ⟨_, s4 _ _ (s3 _ _ hD), ?_, ?_, ?_⟩
      · rw [List.length_map]
        have := List.length_filter_le keep (l.take i)
        rw [List.length_take] at this
        omega
      · exact (sm.trans (s3.trans s4)).over nD (.lst (s4 _ _ (s3 _ _ hD)))
      · rw [upd_same, ft, if_pos k, List.map_append]
        rfl
    · rw [if_neg k]
      refine ⟨sm.trans s3, ?_⟩
      rw [ft, if_neg k, List.append_nil]
      exact s3 _ _ hD
  · have e : i = l.length := by omega
    subst e
    refine .inl ⟨by show (mkS l).cps.size ≤ _; omega, hd H sm ?_⟩
    rw [hD, List.take_length]
theorem at_ofA {α : Type} {xs : List α} {z : Int} {j : Nat} {v : α} (e : z = (j : Int)) (h : xs[j]? = some v) : atI xs z = some v := by
  rw [e]
  exact atI_nat h
/-! ### written texts -/
theorem t_dot : (V.str (Str.ofString ".")) = T [46] := by rw [show Str.ofString "." = mkS [46] by decide +kernel]; rfl
theorem t_dots : (V.str (Str.ofString "..")) = T [46, 46] := by rw [show Str.ofString ".." = mkS [46, 46] by decide +kernel]; rfl
theorem t_none : (V.str (Str.ofString "")) = T [] := by rw [show Str.ofString "" = mkS [] by decide +kernel]; rfl
theorem t_slash : (V.str (Str.ofString "/")) = T [47] := by rw [show Str.ofString "/" = mkS [47] by decide +kernel]; rfl
theorem t_good : Str.ofString "abcdefghijklmnopqrstuvwxyz0123456789.-_" = mkS good := by decide +kernel
theorem s_slash : Str.ofString "/" = mkS [47] := by decide +kernel
theorem starts_slash (l : List Nat) : Txt.startswith (mkS l) (mkS [47]) = decide (l.head? = some 47) := by
  cases l with
  | nil => decide +kernel
  | cons c r =>
    have e : Txt.startswith (mkS (c :: r)) (mkS [47]) = Builtin.Str.subAt (mkS (c :: r)) (mkS [47]) 0 := by
      unfold Txt.startswith
      rw [decide_eq_true (by rw [len_mkS, len_mkS]; simp), Bool.true_and]
    rw [e]
    unfold Builtin.Str.subAt
    simp [mkS, Str.length]
    exact Bool.eq_iff_iff.mpr (by simp)
end Fc

namespace Fc
open PySem PySem.Spec L2 PyProof.Rows
variable [LamNames]
/-! ### a comprehension whose items are known by what holds of them -/
theorem lc_rowG {K : PySem.W.Frag} {a : Addr} {xs : List V} {G : Nat → V → Hp → Prop} {te : TE} {vs : List Nat} {σ : L2.St} {H1 : Hp} {D : Addr} {j : Nat} {Qd : Hp → Prop} (nD : H1 D = none) (hs : SqL K H1 a xs) (hz : xs.length ≤ sizeLine)
    (hw : ∀ x, wipe ((wipe σ vs).set j (some x)) vs = wipe σ vs) (gk : ∀ i v H H', Same H H' → G i v H → G i v H') (gu : ∀ i v H ys zs, H D = some (.lst ys) → G i v H → G i v (upd H D (.lst zs)))
    (turn : ∀ (i : Nat) (x : V) (H : Hp) (R : V → Hp → Prop), xs[i]? = some x → Same H1 H → (∀ y H', Same H H' → G i y H' → R y H') → te ((wipe σ vs).set j (some x)) H R) (hd : ∀ ys H', ys.length = xs.length → (∀ i y, ys[i]? = some y → G i y H') → Same H1 H' → H' D = some (.lst ys) → Qd H') :
    ∃ W : Nat → Nat → Hp → Prop, (∃ m, W 0 m (upd H1 D (.lst []))) ∧ ∀ i m H, W i m H →
      ((Itl K a).stop i H ∧ Qd H) ∨ ((Itl K a).go i H ∧ ∃ Nx : Hp → Prop, (∀ H', Nx H' → ∃ m', m' < m ∧ W (i + 1) m' H') ∧ ∀ x H', (Itl K a).yld i H x H' → gName j x (wipe σ vs) H' fun σ2 H2 => wipe σ2 vs = wipe σ vs ∧ tYes σ2 H2 fun b H3 =>
        if b = true then te σ2 H3 fun y H4 => ∃ acc, H4 D = some (.lst acc) ∧ acc.length < sizeLine ∧ Nx (upd H4 D (.lst (acc ++ [y]))) else Nx H3) := by
  refine lc_list (xs := xs) (fun i H => Same H1 H ∧ ∃ ys, ys.length = i ∧ H D = some (.lst ys) ∧ ∀ k y, ys[k]? = some y → G k y H) ⟨grow nD, [], rfl, upd_same, fun k y h => nomatch h⟩ (fun i H _ p => p.1.seq hs) (fun i x H hx p => ?_) (fun H p => ?_)
  · have hi : i < xs.length := (List.getElem?_eq_some_iff.mp hx).1
    obtain ⟨sm1, ys, ly, hD, hg⟩ := p
    refine ⟨hw x, ?_⟩
    unfold tYes
    dsimp only
    rw [if_pos rfl]
    refine turn i x H _ hx sm1 fun y H' sm gy => ⟨ys, sm _ _ hD, by omega, ?_, ys ++ [y], ?_, upd_same, ?_⟩
    · exact (sm1.trans sm).over nD (.lst (sm _ _ hD))
    · rw [List.length_append, ly]
      rfl
    · intro k z hk
      by_cases lt : k < ys.length
      · rw [List.getElem?_append_left lt] at hk
        exact gu _ _ _ _ _ (sm _ _ hD) (gk _ _ _ _ sm (hg k z hk))
      · rw [List.getElem?_append_right (by omega)] at hk
        have e : k = i := by
          have := (List.getElem?_eq_some_iff.mp hk).1
          simp only [List.length_cons, List.length_nil] at this
          omega
        subst e
        rw [ly, Nat.sub_self] at hk
        cases hk
        exact gu _ _ _ _ _ (sm _ _ hD) gy
  · obtain ⟨sm1, ys, ly, hD, hg⟩ := p
    exact hd ys H ly hg sm1 hD
/-- the same of flat things -/
theorem lc_rowP {K : PySem.W.Frag} {a : Addr} {xs : List V} {G : V → Prop} {te : TE} {vs : List Nat} {σ : L2.St} {H1 : Hp} {D : Addr} {j : Nat} {Qd : Hp → Prop} (nD : H1 D = none) (hs : SqL K H1 a xs) (hz : xs.length ≤ sizeLine)
    (hw : ∀ x, wipe ((wipe σ vs).set j (some x)) vs = wipe σ vs)
    (turn : ∀ (i : Nat) (x : V) (H : Hp) (R : V → Hp → Prop), xs[i]? = some x → Same H1 H → (∀ y H', Same H H' → G y → R y H') → te ((wipe σ vs).set j (some x)) H R) (hd : ∀ ys H', ys.length = xs.length → (∀ y ∈ ys, G y) → Same H1 H' → H' D = some (.lst ys) → Qd H') :
    ∃ W : Nat → Nat → Hp → Prop, (∃ m, W 0 m (upd H1 D (.lst []))) ∧ ∀ i m H, W i m H →
      ((Itl K a).stop i H ∧ Qd H) ∨ ((Itl K a).go i H ∧ ∃ Nx : Hp → Prop, (∀ H', Nx H' → ∃ m', m' < m ∧ W (i + 1) m' H') ∧ ∀ x H', (Itl K a).yld i H x H' → gName j x (wipe σ vs) H' fun σ2 H2 => wipe σ2 vs = wipe σ vs ∧ tYes σ2 H2 fun b H3 =>
        if b = true then te σ2 H3 fun y H4 => ∃ acc, H4 D = some (.lst acc) ∧ acc.length < sizeLine ∧ Nx (upd H4 D (.lst (acc ++ [y]))) else Nx H3) :=
  lc_rowG (G := fun _ v _ => G v) nD hs hz hw (fun _ _ _ _ _ h => h) (fun _ _ _ _ _ _ h => h) turn (fun ys H' l h => hd ys H' l fun y hy => by
    obtain ⟨i, e⟩ := List.getElem?_of_mem hy
    exact h i y e)
theorem lc_rngP {lo : Int} {n : Nat} {G : V → Prop} {te : TE} {vs : List Nat} {σ : L2.St} {H1 : Hp} {D : Addr} {j : Nat} {Qd : Hp → Prop} (nD : H1 D = none) (hz : n ≤ sizeLine)
    (hw : ∀ x, wipe ((wipe σ vs).set j (some x)) vs = wipe σ vs)
    (turn : ∀ (i : Nat) (H : Hp) (R : V → Hp → Prop), i < n → Same H1 H → (∀ y H', Same H H' → G y → R y H') → te ((wipe σ vs).set j (some (.int (lo + i)))) H R) (hd : ∀ ys H', ys.length = n → (∀ y ∈ ys, G y) → Same H1 H' → H' D = some (.lst ys) → Qd H') :
    ∃ W : Nat → Nat → Hp → Prop, (∃ m, W 0 m (upd H1 D (.lst []))) ∧ ∀ i m H, W i m H →
      ((Itr lo n).stop i H ∧ Qd H) ∨ ((Itr lo n).go i H ∧ ∃ Nx : Hp → Prop, (∀ H', Nx H' → ∃ m', m' < m ∧ W (i + 1) m' H') ∧ ∀ x H', (Itr lo n).yld i H x H' → gName j x (wipe σ vs) H' fun σ2 H2 => wipe σ2 vs = wipe σ vs ∧ tYes σ2 H2 fun b H3 =>
        if b = true then te σ2 H3 fun y H4 => ∃ acc, H4 D = some (.lst acc) ∧ acc.length < sizeLine ∧ Nx (upd H4 D (.lst (acc ++ [y]))) else Nx H3) := by
  refine lc_range (fun i H => Same H1 H ∧ ∃ ys, ys.length = i ∧ H D = some (.lst ys) ∧ ∀ y ∈ ys, G y) ⟨grow nD, [], rfl, upd_same, fun y h => nomatch h⟩ (fun i H hi p => ?_) (fun H p => ?_)
  · obtain ⟨sm1, ys, ly, hD, hg⟩ := p
    refine ⟨hw _, ?_⟩
    unfold tYes
    dsimp only
    rw [if_pos rfl]
    refine turn i H _ hi sm1 fun y H' sm gy => ⟨ys, sm _ _ hD, by omega, ?_, ys ++ [y], ?_, upd_same, ?_⟩
    · exact (sm1.trans sm).over nD (.lst (sm _ _ hD))
    · rw [List.length_append, ly]
      rfl
    · intro z hz
      rcases List.mem_append.mp hz with hz | hz
      · exact hg z hz
      · rw [List.mem_singleton.mp hz]
        exact gy
  · obtain ⟨sm1, ys, ly, hD, hg⟩ := p
    exact hd ys H ly hg sm1 hD
def PartV (v : V) : Prop := ∃ p : List Nat, v = T p ∧ partOk p
theorem partsV : ∀ {vs : List V}, (∀ v ∈ vs, PartV v) → ∃ ps : List (List Nat), vs = ps.map T ∧ ∀ p ∈ ps, partOk p
  | [], _ => ⟨[], rfl, fun p h => by cases h⟩
  | v :: r, h => by
    obtain ⟨p, rfl, hp⟩ := h v (by simp)
    obtain ⟨ps, rfl, hps⟩ := partsV fun u hu => h u (List.mem_cons_of_mem _ hu)
    refine ⟨p :: ps, rfl, fun q hq => ?_⟩
    rcases List.mem_cons.mp hq with rfl | hq
    · exact hp
    · exact hps q hq
theorem iteNS2 {b : Bool} {a c : Prop} (h : b = false) (k : c) : if b = true then a else c := by
  rw [h, if_neg Bool.false_ne_true]
  exact k
/-! ### cuts of any row -/
theorem cutV_to (xs : List V) (k : Nat) : cutV xs none (some (k : Int)) = xs.take k := by
  unfold cutV
  rw [HT.sIx_none, HT.sIx_nat, List.drop_zero, Nat.sub_zero]
  by_cases h : k ≤ xs.length
  · rw [Nat.min_eq_left h]
  · have h' : xs.length ≤ k := by omega
    rw [Nat.min_eq_right h', List.take_of_length_le (Nat.le_refl _), List.take_of_length_le h']
theorem cutV_from (xs : List V) (k : Nat) : cutV xs (some (k : Int)) none = xs.drop k := by
  unfold cutV
  rw [HT.sIx_none, HT.sIx_nat]
  by_cases h : k ≤ xs.length
  · rw [Nat.min_eq_left h]
    exact List.take_of_length_le (by rw [List.length_drop]; omega)
  · have h' : xs.length ≤ k := by omega
    rw [Nat.min_eq_right h', List.drop_of_length_le (Nat.le_refl _), List.drop_of_length_le h', List.take_nil]
theorem cut_some (ns : List Int) (lo hi : Option Int) : ∃ ms : List Int, cutV (ns.map V.int) lo hi = ms.map V.int ∧ ms.length ≤ ns.length := by
  refine ⟨(ns.drop (HT.sIx ns.length 0 lo)).take (HT.sIx ns.length ns.length hi - HT.sIx ns.length 0 lo), ?_, ?_⟩
  · unfold cutV
    rw [List.length_map, List.map_take, List.map_drop]
  · rw [List.length_take, List.length_drop]
    omega
theorem cutS_to (l : List Nat) (k : Nat) : cutS (mkS l) none (some (k : Int)) = mkS (l.take k) := by
  rw [mkS_cut, HT.sIx_none, HT.sIx_nat, List.drop_zero, Nat.sub_zero]
  by_cases h : k ≤ l.length
  · rw [Nat.min_eq_left h]
  · have h' : l.length ≤ k := by omega
    rw [Nat.min_eq_right h', List.take_of_length_le (Nat.le_refl _), List.take_of_length_le h']
theorem cutS_from (l : List Nat) (k : Nat) : cutS (mkS l) (some (k : Int)) none = mkS (l.drop k) := by
  rw [mkS_cut, HT.sIx_none, HT.sIx_nat]
  by_cases h : k ≤ l.length
  · rw [Nat.min_eq_left h]
    rw [List.take_of_length_le (by rw [List.length_drop]; omega)]
  · have h' : l.length ≤ k := by omega
    rw [Nat.min_eq_right h', List.drop_of_length_le (Nat.le_refl _), List.drop_of_length_le h', List.take_nil]
/-! ### rows of texts -/
def TxtOk (m : Nat) (v : V) : Prop := ∃ p : List Nat, v = T p ∧ p.length ≤ m
theorem txts {m : Nat} : ∀ {vs : List V}, (∀ v ∈ vs, TxtOk m v) → ∃ ps : List (List Nat), vs = ps.map T ∧ ∀ p ∈ ps, p.length ≤ m
  | [], _ => ⟨[], rfl, fun p h => by cases h⟩
  | v :: r, h => by
    obtain ⟨p, rfl, hp⟩ := h v (by simp)
    obtain ⟨ps, rfl, hps⟩ := txts fun u hu => h u (List.mem_cons_of_mem _ hu)
    refine ⟨p :: ps, rfl, fun q hq => ?_⟩
    rcases List.mem_cons.mp hq with rfl | hq
    · exact hp
    · exact hps q hq
theorem mapT (ps : List (List Nat)) : (ps.map mkS).map V.str = ps.map T := by rw [List.map_map]; rfl
theorem sum_sizes {m : Nat} : ∀ (ks : List (List Nat)), (∀ p ∈ ks, p.length ≤ m) → ((ks.map mkS).map (·.length)).sum ≤ ks.length * m
  | [], _ => by simp
  | x :: r, h => by
    have h1 := h x (by simp)
    have h2 := sum_sizes r fun p hp => h p (List.mem_cons_of_mem _ hp)
    rw [List.map_cons, List.map_cons, List.sum_cons, len_mkS, List.length_cons, Nat.add_mul, Nat.one_mul]
    omega
theorem splitC_sizes (c : Nat) : ∀ (l : List Nat) (p : List Nat), p ∈ splitC c l → p.length ≤ l.length
  | [], p, h => by
    rw [splitC, List.mem_singleton] at h
    rw [h]
    exact Nat.le_refl _
  | x :: r, p, h => by
    rw [splitC] at h
    by_cases z : x = c
    · rw [if_pos z] at h
      rcases List.mem_cons.mp h with h | h
      · rw [h]
        exact Nat.zero_le _
      · exact Nat.le_succ_of_le (splitC_sizes c r p h)
    · rw [if_neg z] at h
      cases e : splitC c r with
      | nil => exact absurd e (splitC_ne c r)
      | cons q qs =>
        rw [e] at h
        rcases List.mem_cons.mp h with h | h
        · rw [h, List.length_cons, List.length_cons]
          exact Nat.succ_le_succ (splitC_sizes c r q (by rw [e]; simp))
        · exact Nat.le_succ_of_le (splitC_sizes c r p (by rw [e]; exact List.mem_cons_of_mem _ h))
theorem splitC_many (c : Nat) : ∀ (l : List Nat), (splitC c l).length ≤ l.length + 1
  | [] => by simp [splitC]
  | x :: r => by
    have ih := splitC_many c r
    rw [splitC]
    by_cases z : x = c
    · rw [if_pos z, List.length_cons, List.length_cons]
      omega
    · rw [if_neg z]
      cases e : splitC c r with
      | nil => simp
      | cons q qs =>
        rw [e] at ih
        show (qs.length + 1) ≤ r.length + 1 + 1
        rw [List.length_cons] at ih
        omega
theorem len_str (x : String) : (Str.ofString x).length = (TL.tl (Str.ofString x)).length := by
  rw [← len_mkS, mkS_tl]
theorem at_last {α : Type} {xs : List α} {v : α} (h : xs.getLast? = some v) : atI xs (-1) = some v := by
  obtain ⟨ys, rfl⟩ := List.getLast?_eq_some_iff.mp h
  exact atI_last ys v
/-! ### rows of texts, as data -/
abbrev dTxts (ls : List (List Nat)) : PyData := .tuple (ls.map fun l => PyData.str (mkS l))
theorem dpTxtsAll {K : PySem.W.Frag} {H : Hp} : ∀ (ls : List (List Nat)), DpAll K H (ls.map T) (ls.map fun l => PyData.str (mkS l))
  | [] => .nil
  | a :: r => .cons (.str _) (dpTxtsAll r)
theorem dpTxts {K : PySem.W.Frag} {H : Hp} {p : Addr} {ls : List (List Nat)} (h : SqT K H p (ls.map T)) : Dp K H (.ref p) (dTxts ls) := .tup h (dpTxtsAll ls)
theorem tupsAll_txts : ∀ (ls : List (List Nat)), tupsAll (ls.map fun l => PyData.str (mkS l)) = true
  | [] => rfl
  | a :: r => by rw [List.map_cons, tupsAll, tupsAll_txts r]; rfl
theorem depthAll_txts : ∀ (ls : List (List Nat)), PyData.depthAll (ls.map fun l => PyData.str (mkS l)) = 0
  | [] => rfl
  | a :: r => by rw [List.map_cons, PyData.depthAll, depthAll_txts r]; rfl
theorem dTxts_ok (ls : List (List Nat)) (h : ls.length ≤ 100000) : tupsOnly (dTxts ls) = true ∧ PyData.depth (dTxts ls) ≤ 1 := ⟨by
  rw [tupsOnly, tupsAll_txts, decide_eq_true (by rw [List.length_map]; exact h)]
  rfl, by
  show PyData.depthAll (ls.map fun l => PyData.str (mkS l)) + 1 ≤ 1
  rw [depthAll_txts]
  exact Nat.le_refl 1⟩
theorem eqV_txt (a b : List Nat) : eqV (T a) (T b) = decide (a = b) := by
  show (decide (mkS a = mkS b) : Bool) = _ 
  by_cases z : a = b
  · rw [z]; simp
  · rw [decide_eq_false z]
    exact decide_eq_false fun k => z (mkS_inj k)
theorem inV_txt (p : List Nat) : ∀ ls : List (List Nat), inV (T p) (ls.map T) = decide (p ∈ ls)
  | [] => by simp [inV]
  | l :: r => by
    have ih := inV_txt p r
    unfold inV at ih ⊢
    rw [List.map_cons, List.any_cons, ih, eqV_txt]
    by_cases z : l = p
    · subst z; simp
    · rw [decide_eq_false z, Bool.false_or]
      by_cases y : p ∈ r
      · rw [decide_eq_true y, decide_eq_true (List.mem_cons_of_mem _ y)]
      · rw [decide_eq_false y]
        exact (decide_eq_false fun k => by
          rcases List.mem_cons.mp k with k | k
          · exact z k.symm
          · exact y k).symm
theorem flat_txts : ∀ ls : List (List Nat), (ls.map T).all flatV = true
  | [] => rfl
  | l :: r => by rw [List.map_cons, List.all_cons, flat_txts r]; rfl
end Fc

namespace Fc
open PySem PySem.Spec L2 PyProof.Rows
variable [LamNames]
/-! ### rules for within a comprehension, where the frag is given by name -/
section
variable {X : Cx} {K : PySem.W.Frag}
theorem ix_listq (hK : X.K = K) : IxR X (rIxL K) := by subst hK; exact ix_list
theorem ix_tupq (hK : X.K = K) : IxR X (rIxT K) := by subst hK; exact ix_tup
theorem sl_listq (hK : X.K = K) : SlR X (rSlL K) := by subst hK; exact sl_list
theorem sl_tupUq (hK : X.K = K) : SlR X (rSlU K) := by subst hK; exact sl_tupU
theorem op_catUq (hK : X.K = K) : OpR X (binaryOp .Add) (rCatU K) := by subst hK; exact op_catU
theorem op_in_seqq (hK : X.K = K) : OpR X (compareOp .In) (rIn K false) := by subst hK; exact op_in_seq
theorem op_notIn_seqq (hK : X.K = K) : OpR X (compareOp .NotIn) (rIn K true) := by subst hK; exact op_notIn_seq
theorem op_eqDq (hK : X.K = K) (hu : X.A.units + 64 < cLine) : OpR X (compareOp .Eq) (rEqD K) := by subst hK; exact op_eqD hu
theorem op_neDq (hK : X.K = K) (hu : X.A.units + 64 < cLine) : OpR X (compareOp .NotEq) (rNeD K) := by subst hK; exact op_neD hu
theorem call_len_seqq (hK : X.K = K) : CallR X (.builtin "len") (fun xs H Q => ∃ p ys, xs = [.ref p] ∧ (SqL K H p ys ∨ SqT K H p ys) ∧ Q (.int ys.length) H) := by subst hK; exact call_len_seq
theorem call_tupleUq (hK : X.K = K) : CallR X (.type "tuple") (fun xs H Q => ∃ p ys, xs = [.ref p] ∧ SqL K H p ys ∧ Tups K H ys Q) := by subst hK; exact call_tupleU
theorem call_isiq (hK : X.K = K) : CallR X (.builtin "isinstance") (rIsi K) := by subst hK; exact call_isi
theorem pe_tupUq (hK : X.K = K) {es : List Expr} {x1 : Nat} {pos : Pos} {t : TA} (h : PA X es t) : PE X (.Tuple es x1 pos) (tTupU K t) := by subst hK; exact pe_tupU h
theorem pe_notTq (hK : X.K = K) {a : Expr} {ta : TE} {pos : Pos} (ha : PE X a ta) : PE X (.UnaryOp .Not a pos) (tNotT K ta) := by subst hK; exact pe_notT ha
def tTru (K : PySem.W.Frag) (ta : TE) : TT := fun σ H Q => ta σ H fun x H' => ∃ k, TruV K x H' k ∧ Q k H'
theorem pt_truthq (hK : X.K = K) {a : Expr} {ta : TE} (ha : PE X a ta) (he : ∀ whole, isTrue a X.env whole = (do let v ← whole; standAt a.pos; holding [v] (truthy v))) :
    PT X a (tTru K ta) := by subst hK; exact pt_truth ha he
theorem pi_listq (hK : X.K = K) {l tg : Expr} {tl : TE} (hl : PE X l tl) : PI X tg l (iList K tl) := by subst hK; exact pi_list hl
theorem pi_tupq (hK : X.K = K) {l tg : Expr} {tl : TE} (hl : PE X l tl) : PI X tg l (iTup K tl) := by subst hK; exact pi_tup hl
theorem pe_joinq (hK : X.K = K) {o e : Expr} {to te : TE} {apos pos : Pos} (ho : PE X o to) (he : PE X e te) (hs : starEach [e] X.env = [(false, eval e X.env)] := by rfl) (hbase : attributeBase o "join" X.env (eval o X.env) = eval o X.env := by rfl) (hline : (apos.endLine == pos.line) = true := by rfl) :
    PE X (.Call (.Attribute o "join" apos) [e] [] pos) (tM1 (fun x xs H Q => ∃ a p, ∃ ys : List Str, x = .str a ∧ xs = [.ref p] ∧ (SqL K H p (ys.map V.str) ∨ SqT K H p (ys.map V.str)) ∧
      (ys.map (·.length)).sum + ys.length * a.length ≤ 16777216 ∧ Q (.str (Txt.join a ys)) H) to te) := by subst hK; exact pe_join ho he hs hbase hline
end
end Fc

namespace Fc
open PySem PySem.Spec L2 PyProof.Rows
variable [LamNames]
/-! ### two rows, one by one -/
inductive Al2 {α β : Type} (R : α → β → Prop) : List α → List β → Prop
  | nil : Al2 R [] []
  | cons {x : α} {y : β} {xs : List α} {ys : List β} (h : R x y) (hs : Al2 R xs ys) : Al2 R (x :: xs) (y :: ys)
theorem Al2.mono {α β : Type} {R S : α → β → Prop} (f : ∀ x y, R x y → S x y) : ∀ {xs : List α} {ys : List β}, Al2 R xs ys → Al2 S xs ys
  | _, _, .nil => .nil
  | _, _, .cons h hs => .cons (f _ _ h) (hs.mono f)
theorem Al2.length {α β : Type} {R : α → β → Prop} : ∀ {xs : List α} {ys : List β}, Al2 R xs ys → ys.length = xs.length
  | _, _, .nil => rfl
  | _, _, .cons _ hs => congrArg (· + 1) hs.length
theorem Al2.snoc {α β : Type} {R : α → β → Prop} {x : α} {y : β} (h : R x y) : ∀ {xs : List α} {ys : List β}, Al2 R xs ys → Al2 R (xs ++ [x]) (ys ++ [y])
  | _, _, .nil => .cons h .nil
  | _, _, .cons k hs => .cons k (hs.snoc h)
theorem Al2.eq_map {α β : Type} {f : α → β} : ∀ {xs : List α} {ys : List β}, Al2 (fun x y => y = f x) xs ys → ys = xs.map f
  | _, _, .nil => rfl
  | _, _, .cons h hs => by rw [List.map_cons, h, hs.eq_map]
theorem Al2.get {α β : Type} {R : α → β → Prop} : ∀ {xs : List α} {ys : List β} {i : Nat} {y : β}, Al2 R xs ys → ys[i]? = some y → ∃ x, xs[i]? = some x ∧ R x y
  | _, _, _, _, .nil, h => by cases h
  | _, _, 0, _, .cons h hs, e => by cases e; exact ⟨_, rfl, h⟩
  | _, _, i + 1, _, .cons h hs, e => hs.get (i := i) e
theorem Al2.mem {α β : Type} {R : α → β → Prop} : ∀ {xs : List α} {ys : List β} {y : β}, Al2 R xs ys → y ∈ ys → ∃ x ∈ xs, R x y
  | _, _, _, .nil, h => by cases h
  | _, _, _, .cons h hs, e => by
    rcases List.mem_cons.mp e with rfl | e
    · exact ⟨_, List.mem_cons_self .., h⟩
    · obtain ⟨x, hx, r⟩ := hs.mem e
      exact ⟨x, List.mem_cons_of_mem _ hx, r⟩
theorem take_filter {α : Type} {xs : List α} {i : Nat} {x : α} (keep : α → Bool) (h : xs[i]? = some x) : (xs.take (i + 1)).filter keep = (xs.take i).filter keep ++ (if keep x = true then [x] else []) := by
  rw [List.take_add_one, h, Option.toList_some, List.filter_append]
  congr 1
  by_cases k : keep x = true
  · rw [if_pos k, List.filter_cons_of_pos k]; rfl
  · rw [if_neg k, List.filter_cons_of_neg k]; rfl
/-! ### [e for x in xs if test]: which are kept, and what holds of the items -/
section
variable {xs : List V} {keep : V → Bool} {G : V → V → Hp → Prop} {tt : TT} {te : TE} {vs : List Nat} {σ : L2.St} {H1 : Hp} {D : Addr} {j : Nat} {Qd : Hp → Prop}
def LcP (xs : List V) (keep : V → Bool) (G : V → V → Hp → Prop) (H1 : Hp) (D : Addr) (i : Nat) (H : Hp) : Prop := Same H1 H ∧ ∃ ys, H D = some (.lst ys) ∧ Al2 (fun x y => G x y H) ((xs.take i).filter keep) ys
theorem lcp_step (nD : H1 D = none) (hz : xs.length ≤ sizeLine) (gk : ∀ x y H H', Same H H' → G x y H → G x y H') (gu : ∀ x y H ys zs, H D = some (.lst ys) → G x y H → G x y (upd H D (.lst zs)))
    (test : ∀ (i : Nat) (x : V) (H : Hp) (R : Bool → Hp → Prop), xs[i]? = some x → Same H1 H → (∀ H', Same H H' → R (keep x) H') → tt ((wipe σ vs).set j (some x)) H R)
    (item : ∀ (i : Nat) (x : V) (H : Hp) (R : V → Hp → Prop), xs[i]? = some x → keep x = true → Same H1 H → (∀ y H', Same H H' → G x y H' → R y H') → te ((wipe σ vs).set j (some x)) H R)
    {i : Nat} {x : V} {H : Hp} (hx : xs[i]? = some x) (p : LcP xs keep G H1 D i H) : tt ((wipe σ vs).set j (some x)) H fun b H3 =>
      if b = true then te ((wipe σ vs).set j (some x)) H3 fun y H4 => ∃ acc, H4 D = some (.lst acc) ∧ acc.length < sizeLine ∧ LcP xs keep G H1 D (i + 1) (upd H4 D (.lst (acc ++ [y]))) else LcP xs keep G H1 D (i + 1) H3 := by
  have hi : i < xs.length := (List.getElem?_eq_some_iff.mp hx).1
  obtain ⟨sm, ys, hD, al⟩ := p
  refine test i x H _ hx sm fun H3 s3 => ?_
  by_cases k : keep x = true
  · rw [if_pos k]
    refine item i x H3 _ hx k (sm.trans s3) fun y H4 s4 gy => ⟨ys, s4 _ _ (s3 _ _ hD), ?_, ?_, ys ++ [y], upd_same, ?_⟩
    · have := al.length
      have l2 := List.length_filter_le keep (xs.take i)
      rw [List.length_take] at l2
      omega
    · exact (sm.trans (s3.trans s4)).over nD (.lst (s4 _ _ (s3 _ _ hD)))
    · rw [take_filter keep hx, if_pos k]
      have hD4 := s4 _ _ (s3 _ _ hD)
      have al2 : Al2 (fun u v => G u v (upd H4 D (.lst (ys ++ [y])))) ((xs.take i).filter keep) ys := al.mono fun u v g => gu _ _ _ _ _ hD4 (gk _ _ _ _ (s3.trans s4) g)
      exact Al2.snoc (R := fun u v => G u v (upd H4 D (.lst (ys ++ [y])))) (gu _ _ _ _ _ hD4 gy) al2
  · rw [if_neg k]
    refine ⟨sm.trans s3, ys, s3 _ _ hD, ?_⟩
    rw [take_filter keep hx, if_neg k, List.append_nil]
    exact al.mono fun u v g => gk _ _ _ _ s3 g
theorem lcG_list {K : PySem.W.Frag} {a : Addr} (nD : H1 D = none) (hs : SqL K H1 a xs) (hz : xs.length ≤ sizeLine) (hw : ∀ x, wipe ((wipe σ vs).set j (some x)) vs = wipe σ vs)
    (gk : ∀ x y H H', Same H H' → G x y H → G x y H') (gu : ∀ x y H ys zs, H D = some (.lst ys) → G x y H → G x y (upd H D (.lst zs)))
    (test : ∀ (i : Nat) (x : V) (H : Hp) (R : Bool → Hp → Prop), xs[i]? = some x → Same H1 H → (∀ H', Same H H' → R (keep x) H') → tt ((wipe σ vs).set j (some x)) H R)
    (item : ∀ (i : Nat) (x : V) (H : Hp) (R : V → Hp → Prop), xs[i]? = some x → keep x = true → Same H1 H → (∀ y H', Same H H' → G x y H' → R y H') → te ((wipe σ vs).set j (some x)) H R)
    (hd : ∀ ys H', Al2 (fun x y => G x y H') (xs.filter keep) ys → Same H1 H' → H' D = some (.lst ys) → Qd H') :
    ∃ W : Nat → Nat → Hp → Prop, (∃ m, W 0 m (upd H1 D (.lst []))) ∧ ∀ i m H, W i m H →
      ((Itl K a).stop i H ∧ Qd H) ∨ ((Itl K a).go i H ∧ ∃ Nx : Hp → Prop, (∀ H', Nx H' → ∃ m', m' < m ∧ W (i + 1) m' H') ∧ ∀ x H', (Itl K a).yld i H x H' → gName j x (wipe σ vs) H' fun σ2 H2 => wipe σ2 vs = wipe σ vs ∧ tt σ2 H2 fun b H3 =>
        if b = true then te σ2 H3 fun y H4 => ∃ acc, H4 D = some (.lst acc) ∧ acc.length < sizeLine ∧ Nx (upd H4 D (.lst (acc ++ [y]))) else Nx H3) := by
  refine lc_list (xs := xs) (LcP xs keep G H1 D) ⟨grow nD, [], upd_same, .nil⟩ (fun i H _ p => p.1.seq hs) (fun i x H hx p => ⟨hw x, lcp_step nD hz gk gu test item hx p⟩) (fun H p => ?_)
  obtain ⟨sm, ys, hD, al⟩ := p
  rw [List.take_length] at al
  exact hd ys H al sm hD
theorem lcG_tup {K : PySem.W.Frag} {a : Addr} (nD : H1 D = none) (hs : SqT K H1 a xs) (hz : xs.length ≤ sizeLine) (hw : ∀ x, wipe ((wipe σ vs).set j (some x)) vs = wipe σ vs)
    (gk : ∀ x y H H', Same H H' → G x y H → G x y H') (gu : ∀ x y H ys zs, H D = some (.lst ys) → G x y H → G x y (upd H D (.lst zs)))
    (test : ∀ (i : Nat) (x : V) (H : Hp) (R : Bool → Hp → Prop), xs[i]? = some x → Same H1 H → (∀ H', Same H H' → R (keep x) H') → tt ((wipe σ vs).set j (some x)) H R)
    (item : ∀ (i : Nat) (x : V) (H : Hp) (R : V → Hp → Prop), xs[i]? = some x → keep x = true → Same H1 H → (∀ y H', Same H H' → G x y H' → R y H') → te ((wipe σ vs).set j (some x)) H R)
    (hd : ∀ ys H', Al2 (fun x y => G x y H') (xs.filter keep) ys → Same H1 H' → H' D = some (.lst ys) → Qd H') :
    ∃ W : Nat → Nat → Hp → Prop, (∃ m, W 0 m (upd H1 D (.lst []))) ∧ ∀ i m H, W i m H →
      ((Itt K a).stop i H ∧ Qd H) ∨ ((Itt K a).go i H ∧ ∃ Nx : Hp → Prop, (∀ H', Nx H' → ∃ m', m' < m ∧ W (i + 1) m' H') ∧ ∀ x H', (Itt K a).yld i H x H' → gName j x (wipe σ vs) H' fun σ2 H2 => wipe σ2 vs = wipe σ vs ∧ tt σ2 H2 fun b H3 =>
        if b = true then te σ2 H3 fun y H4 => ∃ acc, H4 D = some (.lst acc) ∧ acc.length < sizeLine ∧ Nx (upd H4 D (.lst (acc ++ [y]))) else Nx H3) := by
  refine ⟨fun i m H => m = xs.length - i ∧ i ≤ xs.length ∧ LcP xs keep G H1 D i H, ⟨xs.length, rfl, Nat.zero_le _, grow nD, [], upd_same, .nil⟩, ?_⟩
  rintro i m H ⟨rfl, hi, p⟩
  have q := keepT p.1 hs
  by_cases lt : i < xs.length
  · refine .inr ⟨⟨xs, xs[i], q, List.getElem?_eq_getElem lt⟩, LcP xs keep G H1 D (i + 1), fun H' p' => ⟨xs.length - (i + 1), by omega, rfl, lt, p'⟩, fun x H' y => ?_⟩
    obtain ⟨e, y⟩ := y
    subst e
    exact ⟨hw x, lcp_step nD hz gk gu test item (y xs q) p⟩
  · have e : i = xs.length := by omega
    subst e
    obtain ⟨sm, ys, hD, al⟩ := p
    rw [List.take_length] at al
    exact .inl ⟨⟨xs, q, Nat.le_refl _⟩, hd ys H al sm hD⟩
theorem lcG_rng {lo : Int} {n : Nat} (nD : H1 D = none) (hz : n ≤ sizeLine) (ex : xs = (List.range n).map fun i => V.int (lo + (i : Nat))) (hw : ∀ x, wipe ((wipe σ vs).set j (some x)) vs = wipe σ vs)
    (gk : ∀ x y H H', Same H H' → G x y H → G x y H') (gu : ∀ x y H ys zs, H D = some (.lst ys) → G x y H → G x y (upd H D (.lst zs)))
    (test : ∀ (i : Nat) (x : V) (H : Hp) (R : Bool → Hp → Prop), xs[i]? = some x → Same H1 H → (∀ H', Same H H' → R (keep x) H') → tt ((wipe σ vs).set j (some x)) H R)
    (item : ∀ (i : Nat) (x : V) (H : Hp) (R : V → Hp → Prop), xs[i]? = some x → keep x = true → Same H1 H → (∀ y H', Same H H' → G x y H' → R y H') → te ((wipe σ vs).set j (some x)) H R)
    (hd : ∀ ys H', Al2 (fun x y => G x y H') (xs.filter keep) ys → Same H1 H' → H' D = some (.lst ys) → Qd H') :
    ∃ W : Nat → Nat → Hp → Prop, (∃ m, W 0 m (upd H1 D (.lst []))) ∧ ∀ i m H, W i m H →
      ((Itr lo n).stop i H ∧ Qd H) ∨ ((Itr lo n).go i H ∧ ∃ Nx : Hp → Prop, (∀ H', Nx H' → ∃ m', m' < m ∧ W (i + 1) m' H') ∧ ∀ x H', (Itr lo n).yld i H x H' → gName j x (wipe σ vs) H' fun σ2 H2 => wipe σ2 vs = wipe σ vs ∧ tt σ2 H2 fun b H3 =>
        if b = true then te σ2 H3 fun y H4 => ∃ acc, H4 D = some (.lst acc) ∧ acc.length < sizeLine ∧ Nx (upd H4 D (.lst (acc ++ [y]))) else Nx H3) := by
  have lx : xs.length = n := by rw [ex, List.length_map, List.length_range]
  refine lc_range (LcP xs keep G H1 D) ⟨grow nD, [], upd_same, .nil⟩ (fun i H hi p => ⟨hw _, lcp_step nD (by omega) gk gu test item (i := i) ?_ p⟩) (fun H p => ?_)
  · rw [ex, List.getElem?_map, List.getElem?_range hi]
    rfl
  · obtain ⟨sm, ys, hD, al⟩ := p
    rw [← lx, List.take_length] at al
    exact hd ys H al sm hD
/-! ### the same, its items told by a row -/
theorem lcF_list {K : PySem.W.Frag} {a : Addr} (f : V → V) (nD : H1 D = none) (hs : SqL K H1 a xs) (hz : xs.length ≤ sizeLine) (hw : ∀ x, wipe ((wipe σ vs).set j (some x)) vs = wipe σ vs)
    (test : ∀ (i : Nat) (x : V) (H : Hp) (R : Bool → Hp → Prop), xs[i]? = some x → Same H1 H → (∀ H', Same H H' → R (keep x) H') → tt ((wipe σ vs).set j (some x)) H R)
    (item : ∀ (i : Nat) (x : V) (H : Hp) (R : V → Hp → Prop), xs[i]? = some x → keep x = true → Same H1 H → (∀ H', Same H H' → R (f x) H') → te ((wipe σ vs).set j (some x)) H R)
    (hd : ∀ H', Same H1 H' → H' D = some (.lst ((xs.filter keep).map f)) → Qd H') :
    ∃ W : Nat → Nat → Hp → Prop, (∃ m, W 0 m (upd H1 D (.lst []))) ∧ ∀ i m H, W i m H →
      ((Itl K a).stop i H ∧ Qd H) ∨ ((Itl K a).go i H ∧ ∃ Nx : Hp → Prop, (∀ H', Nx H' → ∃ m', m' < m ∧ W (i + 1) m' H') ∧ ∀ x H', (Itl K a).yld i H x H' → gName j x (wipe σ vs) H' fun σ2 H2 => wipe σ2 vs = wipe σ vs ∧ tt σ2 H2 fun b H3 =>
        if b = true then te σ2 H3 fun y H4 => ∃ acc, H4 D = some (.lst acc) ∧ acc.length < sizeLine ∧ Nx (upd H4 D (.lst (acc ++ [y]))) else Nx H3) :=
  lcG_list (G := fun x y _ => y = f x) nD hs hz hw (fun _ _ _ _ _ h => h) (fun _ _ _ _ _ _ h => h) test (fun i x H R hx k sm r => item i x H R hx k sm fun H' s => r _ _ s rfl) fun ys H' al sm h => hd H' sm (by rw [← al.eq_map]; exact h)
theorem lcF_tup {K : PySem.W.Frag} {a : Addr} (f : V → V) (nD : H1 D = none) (hs : SqT K H1 a xs) (hz : xs.length ≤ sizeLine) (hw : ∀ x, wipe ((wipe σ vs).set j (some x)) vs = wipe σ vs)
    (test : ∀ (i : Nat) (x : V) (H : Hp) (R : Bool → Hp → Prop), xs[i]? = some x → Same H1 H → (∀ H', Same H H' → R (keep x) H') → tt ((wipe σ vs).set j (some x)) H R)
    (item : ∀ (i : Nat) (x : V) (H : Hp) (R : V → Hp → Prop), xs[i]? = some x → keep x = true → Same H1 H → (∀ H', Same H H' → R (f x) H') → te ((wipe σ vs).set j (some x)) H R)
    (hd : ∀ H', Same H1 H' → H' D = some (.lst ((xs.filter keep).map f)) → Qd H') :
    ∃ W : Nat → Nat → Hp → Prop, (∃ m, W 0 m (upd H1 D (.lst []))) ∧ ∀ i m H, W i m H →
      ((Itt K a).stop i H ∧ Qd H) ∨ ((Itt K a).go i H ∧ ∃ Nx : Hp → Prop, (∀ H', Nx H' → ∃ m', m' < m ∧ W (i + 1) m' H') ∧ ∀ x H', (Itt K a).yld i H x H' → gName j x (wipe σ vs) H' fun σ2 H2 => wipe σ2 vs = wipe σ vs ∧ tt σ2 H2 fun b H3 =>
        if b = true then te σ2 H3 fun y H4 => ∃ acc, H4 D = some (.lst acc) ∧ acc.length < sizeLine ∧ Nx (upd H4 D (.lst (acc ++ [y]))) else Nx H3) :=
  lcG_tup (G := fun x y _ => y = f x) nD hs hz hw (fun _ _ _ _ _ h => h) (fun _ _ _ _ _ _ h => h) test (fun i x H R hx k sm r => item i x H R hx k sm fun H' s => r _ _ s rfl) fun ys H' al sm h => hd H' sm (by rw [← al.eq_map]; exact h)
end
/-! ### the same over a row that is known by another one -/
section
variable {α : Type} {es : List α} {xs : List V} {keep : α → Bool} {G : α → V → Hp → Prop} {tt : TT} {te : TE} {vs : List Nat} {σ : L2.St} {H1 : Hp} {D : Addr} {j : Nat} {Qd : Hp → Prop}
def LcE (es : List α) (keep : α → Bool) (G : α → V → Hp → Prop) (H1 : Hp) (D : Addr) (i : Nat) (H : Hp) : Prop := Same H1 H ∧ ∃ ys, H D = some (.lst ys) ∧ Al2 (fun e y => G e y H) ((es.take i).filter keep) ys
theorem lce_step (lx : es.length = xs.length) (nD : H1 D = none) (hz : xs.length ≤ sizeLine) (gk : ∀ e y H H', Same H H' → G e y H → G e y H') (gu : ∀ e y H ys zs, e ∈ es → H D = some (.lst ys) → G e y H → G e y (upd H D (.lst zs)))
    (test : ∀ (i : Nat) (e : α) (x : V) (H : Hp) (R : Bool → Hp → Prop), es[i]? = some e → xs[i]? = some x → Same H1 H → (∀ H', Same H H' → R (keep e) H') → tt ((wipe σ vs).set j (some x)) H R)
    (item : ∀ (i : Nat) (e : α) (x : V) (H : Hp) (R : V → Hp → Prop), es[i]? = some e → xs[i]? = some x → keep e = true → Same H1 H → (∀ y H', Same H H' → G e y H' → R y H') → te ((wipe σ vs).set j (some x)) H R)
    {i : Nat} {x : V} {H : Hp} (hx : xs[i]? = some x) (p : LcE es keep G H1 D i H) : tt ((wipe σ vs).set j (some x)) H fun b H3 =>
      if b = true then te ((wipe σ vs).set j (some x)) H3 fun y H4 => ∃ acc, H4 D = some (.lst acc) ∧ acc.length < sizeLine ∧ LcE es keep G H1 D (i + 1) (upd H4 D (.lst (acc ++ [y]))) else LcE es keep G H1 D (i + 1) H3 := by
  have hi : i < xs.length := (List.getElem?_eq_some_iff.mp hx).1
  obtain ⟨e, he⟩ : ∃ e, es[i]? = some e := ⟨_, List.getElem?_eq_getElem (by omega)⟩
  obtain ⟨sm, ys, hD, al⟩ := p
  refine test i e x H _ he hx sm fun H3 s3 => ?_
  by_cases k : keep e = true
  · rw [if_pos k]
    refine item i e x H3 _ he hx k (sm.trans s3) fun y H4 s4 gy => ⟨ys, s4 _ _ (s3 _ _ hD), ?_, ?_, ys ++ [y], upd_same, ?_⟩
    · have := al.length
      have l2 := List.length_filter_le keep (es.take i)
      rw [List.length_take] at l2
      omega
    · exact (sm.trans (s3.trans s4)).over nD (.lst (s4 _ _ (s3 _ _ hD)))
    · rw [take_filter keep he, if_pos k]
      have hD4 := s4 _ _ (s3 _ _ hD)
      have mem : ∀ u ∈ (es.take i).filter keep, u ∈ es := fun u hu => (List.take_sublist _ _).mem (List.mem_filter.mp hu).1
      have al2 : Al2 (fun u v => G u v (upd H4 D (.lst (ys ++ [y])))) ((es.take i).filter keep) ys := by
        clear hi he
        revert mem
        generalize (es.take i).filter keep = us at al
        intro mem
        have go : ∀ {us : List α} {ys' : List V}, Al2 (fun e y => G e y H) us ys' → (∀ u ∈ us, u ∈ es) → Al2 (fun u v => G u v (upd H4 D (.lst (ys ++ [y])))) us ys' := by
          intro us ys' al
          induction al with
          | nil => exact fun _ => .nil
          | cons h _ ih => exact fun mem => .cons (gu _ _ _ _ _ (mem _ (by simp)) hD4 (gk _ _ _ _ (s3.trans s4) h)) (ih fun u hu => mem u (List.mem_cons_of_mem _ hu))
        exact go al mem
      exact Al2.snoc (R := fun u v => G u v (upd H4 D (.lst (ys ++ [y])))) (gu _ _ _ _ _ (List.mem_of_getElem? he) hD4 gy) al2
  · rw [if_neg k]
    refine ⟨sm.trans s3, ys, s3 _ _ hD, ?_⟩
    rw [take_filter keep he, if_neg k, List.append_nil]
    exact al.mono fun u v g => gk _ _ _ _ s3 g
theorem lcE_list {K : PySem.W.Frag} {a : Addr} (lx : es.length = xs.length) (nD : H1 D = none) (hs : SqL K H1 a xs) (hz : xs.length ≤ sizeLine) (hw : ∀ x, wipe ((wipe σ vs).set j (some x)) vs = wipe σ vs)
    (gk : ∀ e y H H', Same H H' → G e y H → G e y H') (gu : ∀ e y H ys zs, e ∈ es → H D = some (.lst ys) → G e y H → G e y (upd H D (.lst zs)))
    (test : ∀ (i : Nat) (e : α) (x : V) (H : Hp) (R : Bool → Hp → Prop), es[i]? = some e → xs[i]? = some x → Same H1 H → (∀ H', Same H H' → R (keep e) H') → tt ((wipe σ vs).set j (some x)) H R)
    (item : ∀ (i : Nat) (e : α) (x : V) (H : Hp) (R : V → Hp → Prop), es[i]? = some e → xs[i]? = some x → keep e = true → Same H1 H → (∀ y H', Same H H' → G e y H' → R y H') → te ((wipe σ vs).set j (some x)) H R)
    (hd : ∀ ys H', Al2 (fun e y => G e y H') (es.filter keep) ys → Same H1 H' → H' D = some (.lst ys) → Qd H') :
    ∃ W : Nat → Nat → Hp → Prop, (∃ m, W 0 m (upd H1 D (.lst []))) ∧ ∀ i m H, W i m H →
      ((Itl K a).stop i H ∧ Qd H) ∨ ((Itl K a).go i H ∧ ∃ Nx : Hp → Prop, (∀ H', Nx H' → ∃ m', m' < m ∧ W (i + 1) m' H') ∧ ∀ x H', (Itl K a).yld i H x H' → gName j x (wipe σ vs) H' fun σ2 H2 => wipe σ2 vs = wipe σ vs ∧ tt σ2 H2 fun b H3 =>
        if b = true then te σ2 H3 fun y H4 => ∃ acc, H4 D = some (.lst acc) ∧ acc.length < sizeLine ∧ Nx (upd H4 D (.lst (acc ++ [y]))) else Nx H3) := by
  refine lc_list (xs := xs) (LcE es keep G H1 D) ⟨grow nD, [], upd_same, .nil⟩ (fun i H _ p => p.1.seq hs) (fun i x H hx p => ⟨hw x, lce_step lx nD hz gk gu test item hx p⟩) (fun H p => ?_)
  obtain ⟨sm, ys, hD, al⟩ := p
  rw [← lx, List.take_length] at al
  exact hd ys H al sm hD
theorem lcE_tup {K : PySem.W.Frag} {a : Addr} (lx : es.length = xs.length) (nD : H1 D = none) (hs : SqT K H1 a xs) (hz : xs.length ≤ sizeLine) (hw : ∀ x, wipe ((wipe σ vs).set j (some x)) vs = wipe σ vs)
    (gk : ∀ e y H H', Same H H' → G e y H → G e y H') (gu : ∀ e y H ys zs, e ∈ es → H D = some (.lst ys) → G e y H → G e y (upd H D (.lst zs)))
    (test : ∀ (i : Nat) (e : α) (x : V) (H : Hp) (R : Bool → Hp → Prop), es[i]? = some e → xs[i]? = some x → Same H1 H → (∀ H', Same H H' → R (keep e) H') → tt ((wipe σ vs).set j (some x)) H R)
    (item : ∀ (i : Nat) (e : α) (x : V) (H : Hp) (R : V → Hp → Prop), es[i]? = some e → xs[i]? = some x → keep e = true → Same H1 H → (∀ y H', Same H H' → G e y H' → R y H') → te ((wipe σ vs).set j (some x)) H R)
    (hd : ∀ ys H', Al2 (fun e y => G e y H') (es.filter keep) ys → Same H1 H' → H' D = some (.lst ys) → Qd H') :
    ∃ W : Nat → Nat → Hp → Prop, (∃ m, W 0 m (upd H1 D (.lst []))) ∧ ∀ i m H, W i m H →
      ((Itt K a).stop i H ∧ Qd H) ∨ ((Itt K a).go i H ∧ ∃ Nx : Hp → Prop, (∀ H', Nx H' → ∃ m', m' < m ∧ W (i + 1) m' H') ∧ ∀ x H', (Itt K a).yld i H x H' → gName j x (wipe σ vs) H' fun σ2 H2 => wipe σ2 vs = wipe σ vs ∧ tt σ2 H2 fun b H3 =>
        if b = true then te σ2 H3 fun y H4 => ∃ acc, H4 D = some (.lst acc) ∧ acc.length < sizeLine ∧ Nx (upd H4 D (.lst (acc ++ [y]))) else Nx H3) := by
  refine lc_tup (xs := xs) (LcE es keep G H1 D) ⟨grow nD, [], upd_same, .nil⟩ (fun i H _ p => keepT p.1 hs) (fun i x H hx p => ⟨hw x, lce_step lx nD hz gk gu test item hx p⟩) (fun H p => ?_)
  obtain ⟨sm, ys, hD, al⟩ := p
  rw [← lx, List.take_length] at al
  exact hd ys H al sm hD
end
theorem Al2.at {α β : Type} {R : α → β → Prop} : ∀ {xs : List α} {ys : List β} {i : Nat} {x : α} {y : β}, Al2 R xs ys → xs[i]? = some x → ys[i]? = some y → R x y
  | _, _, _, _, _, .nil, h, _ => by cases h
  | _, _, 0, _, _, .cons h hs, e, k => by cases e; cases k; exact h
  | _, _, i + 1, _, _, .cons h hs, e, k => hs.at (i := i) e k
end Fc

namespace Fc
open PySem PySem.Spec L2 PyProof.Rows
variable [LamNames]
theorem t_by {c : TT} {σ : L2.St} {H : Hp} {Q : Bool → Hp → Prop} (PX PY : Prop) (hX : PX → Q true H) (hY : PY → Q false H) (hc : (∀ k : Bool, (k = true → PX) → (k = false → PY) → Q k H) → c σ H Q) : c σ H Q := hc fun k hx hy => by
  cases k with
  | true => exact hX (hx rfl)
  | false => exact hY (hy rfl)
theorem te_by {t : TE} {σ : L2.St} {H : Hp} {Q : VK} (P : V → Hp → Prop) (hQ : ∀ v H', P v H' → Q v H') (h : (∀ v H', P v H' → Q v H') → t σ H Q) : t σ H Q := h hQ
/-! ### the program's clean: told or refused -/
def OutC (K : PySem.W.Frag) (cB cL : Addr) (H : Hp) (Q : VK) (E : XK) : CRes → Prop
  | .bad => ∀ H', Same H H' → E (.ref cB) none H'
  | .out => ∀ H', Same H H' → E (.ref cL) none H'
  | .ok ps => ∀ H', Same H H' → Q (T (pathOf ps)) H'
def spCln (K : PySem.W.Frag) (cB cL : Addr) : Sp := fun vs H Q E => ∃ l : List Nat, vs = [T l] ∧ l.length ≤ 1000 ∧ OutC K cB cL H Q E (cleanF l)
theorem pathOf_len {ps : List (List Nat)} (h : PathOk ps) : (pathOf ps).length ≤ 104 := by
  have := joinC_len 47 ps 12 fun p hp => (h.2.2 p hp).2.1
  have l8 := h.2.1
  unfold pathOf
  omega
/-! ### the way from a folder to a path -/
def strip : List (List Nat) → List (List Nat) → List (List Nat) × List (List Nat)
  | p :: ps, q :: qs => if p = q then strip ps qs else (p :: ps, q :: qs)
  | ps, qs => (ps, qs)
theorem strip_spec : ∀ (fs gs : List (List Nat)), ∃ c, fs = c ++ (strip fs gs).1 ∧ gs = c ++ (strip fs gs).2
  | [], gs => ⟨[], by simp [strip], by simp [strip]⟩
  | p :: ps, [] => ⟨[], by simp [strip], by simp [strip]⟩
  | p :: ps, q :: qs => by
    rw [strip]
    by_cases z : p = q
    · rw [if_pos z]
      obtain ⟨c, e1, e2⟩ := strip_spec ps qs
      exact ⟨p :: c, by rw [List.cons_append, ← e1], by rw [List.cons_append, ← e2, z]⟩
    · rw [if_neg z]
      exact ⟨[], rfl, rfl⟩
def dots : List Nat := [46, 46]
def wayP (a b : List (List Nat)) : List (List Nat) := a.map (fun _ => dots) ++ b
def wayTo (a b : List (List Nat)) : List Nat := if wayP a b = [] then [46] else joinC 47 (wayP a b)
def wayT (fs gs : List (List Nat)) : List Nat := wayTo (strip fs gs).1 (strip fs gs).2
theorem pops (r : List (List Nat)) : ∀ (n : Nat) (k : List (List Nat)), n ≤ k.length → walkC (List.replicate n dots ++ r) k = walkC r (k.take (k.length - n))
  | 0, k, _ => by simp
  | n + 1, k, h => by
    have k0 : k ≠ [] := fun e => by rw [e] at h; simp at h
    rw [List.replicate_succ, List.cons_append, walkC, if_pos (show dots = [46, 46] from rfl), if_neg k0, pops r n k.dropLast (by rw [List.length_dropLast]; omega), List.length_dropLast, List.dropLast_eq_take, List.take_take]
    congr 2
    omega
def FolOk (fs : List (List Nat)) : Prop := fs = [] ∨ PathOk fs
theorem FolOk.parts {fs : List (List Nat)} (h : FolOk fs) : ∀ p ∈ fs, partOk p := by
  rcases h with rfl | h
  · intro p hp; cases hp
  · exact h.2.2
theorem wayP_stroke {a b : List (List Nat)} (hb : ∀ p ∈ b, partOk p) : ∀ p ∈ wayP a b, 47 ∉ p := by
  intro p hp
  rcases List.mem_append.mp hp with hp | hp
  · obtain ⟨q, _, rfl⟩ := List.mem_map.mp hp
    decide
  · exact no_stroke (hb p hp)
theorem walk_way {fs gs : List (List Nat)} (hf : ∀ p ∈ fs, partOk p) (hg : PathOk gs) : walkC (fs ++ splitC 47 (wayT fs gs)) [] = .ok gs := by
  obtain ⟨c, e1, e2⟩ := strip_spec fs gs
  rw [walkC_parts fs [] _ hf, List.nil_append]
  unfold wayT wayTo
  generalize (strip fs gs).1 = a at e1 e2
  generalize (strip fs gs).2 = b at e1 e2
  have hb : ∀ p ∈ b, partOk p := fun p hp => hg.2.2 p (by rw [e2]; exact List.mem_append_right _ hp)
  have fin : walkC [] gs = .ok gs := by
    rw [walkC, if_neg fun z => by rcases z with z | z; exact hg.1 z; exact absurd hg.2.1 (by omega)]
  by_cases z : wayP a b = []
  · rw [if_pos z]
    unfold wayP at z
    rw [List.append_eq_nil_iff, List.map_eq_nil_iff] at z
    rw [z.1, List.append_nil] at e1
    rw [z.2, List.append_nil] at e2
    rw [show splitC 47 [46] = [[46]] by decide, walkC, if_neg (by decide), if_pos (.inr rfl), e1, ← e2]
    exact fin
  · rw [if_neg z, split_joinC 47 z (wayP_stroke hb)]
    unfold wayP
    rw [List.map_const', pops _ _ _ (by rw [e1, List.length_append]; omega), e1, List.length_append, Nat.add_sub_cancel, List.take_left]
    have w := walkC_parts b c [] hb
    rw [List.append_nil] at w
    rw [w, ← e2]
    exact fin
theorem join_ne {ws : List (List Nat)} (h : ws ≠ []) (hp : ∀ p ∈ ws, p ≠ []) : joinC 47 ws ≠ [] := by
  cases ws with
  | nil => exact absurd rfl h
  | cons p r =>
    have p0 := hp p (by simp)
    cases p with
    | nil => exact absurd rfl p0
    | cons c q =>
      cases r with
      | nil =>
        show (c :: q) ≠ []
        simp
      | cons p2 r2 =>
        show (c :: q) ++ ([47] ++ TL.joinL [47] (p2 :: r2)) ≠ []
        simp
theorem part_ne {p : List Nat} (h : partOk p) : p ≠ [] := fun e => by
  rw [e] at h
  exact absurd h.1 (by decide)
theorem wayP_ne {a b : List (List Nat)} (hb : ∀ p ∈ b, partOk p) : ∀ p ∈ wayP a b, p ≠ [] := by
  intro p hp
  rcases List.mem_append.mp hp with hp | hp
  · obtain ⟨q, _, rfl⟩ := List.mem_map.mp hp
    decide
  · exact part_ne (hb p hp)
theorem pathOf_ne {ps : List (List Nat)} (h : PathOk ps) : pathOf ps ≠ [] := join_ne h.1 fun p hp => part_ne (h.2.2 p hp)
/-- from the top -/
theorem clean_top {gs : List (List Nat)} (hg : PathOk gs) : cleanF (wayT [] gs) = .ok gs := by
  have e : wayT [] gs = pathOf gs := by
    unfold wayT wayTo wayP
    cases gs with
    | nil => exact absurd rfl hg.1
    | cons p r => rfl
  rw [e, clean_path hg]
/-- from a folder -/
theorem clean_way {fs gs : List (List Nat)} (hf : PathOk fs) (hg : PathOk gs) : cleanF (pathOf fs ++ [47] ++ wayT fs gs) = .ok gs := by
  have hd : (pathOf fs ++ [47] ++ wayT fs gs).head? ≠ some 47 := by
    have := head_join hf
    have ne := pathOf_ne hf
    cases e : pathOf fs with
    | nil => exact absurd e ne
    | cons c q =>
      rw [e] at this
      simpa using this
  unfold cleanF
  rw [if_neg hd, List.append_assoc]
  show walkC (splitC 47 (pathOf fs ++ 47 :: wayT fs gs)) [] = _
  rw [splitC_app, split_path hf]
  exact walk_way hf.2.2 hg
theorem split_fol {fs : List (List Nat)} (h : FolOk fs) : (splitC 47 (pathOf fs)).filter (fun p => decide (p ≠ [])) = fs := by
  rcases h with rfl | h
  · rfl
  · rw [split_path h]
    exact List.filter_eq_self.mpr fun p hp => decide_eq_true (part_ne (h.2.2 p hp))
theorem wayT_len {fs gs : List (List Nat)} (hf : FolOk fs) (hg : PathOk gs) : (wayT fs gs).length ≤ 300 := by
  obtain ⟨c, e1, e2⟩ := strip_spec fs gs
  unfold wayT wayTo
  generalize (strip fs gs).1 = a at e1 e2
  generalize (strip fs gs).2 = b at e1 e2
  have hb : ∀ p ∈ b, partOk p := fun p hp => hg.2.2 p (by rw [e2]; exact List.mem_append_right _ hp)
  have la : a.length ≤ 8 := by
    have : fs.length ≤ 8 := by
      rcases hf with rfl | h
      · simp
      · exact h.2.1
    rw [e1, List.length_append] at this
    omega
  have lb : b.length ≤ 8 := by
    have := hg.2.1
    rw [e2, List.length_append] at this
    omega
  split
  · simp
  · have := joinC_len 47 (wayP a b) 12 fun p hp => by
      rcases List.mem_append.mp hp with hp | hp
      · obtain ⟨q, _, rfl⟩ := List.mem_map.mp hp
        decide
      · exact (hb p hp).2.1
    have l2 : (wayP a b).length = a.length + b.length := by
      unfold wayP
      rw [List.length_append, List.length_map]
    omega
end Fc

namespace Fc
open PySem PySem.Spec L2 PyProof.Rows
variable [LamNames]
theorem hu1 {k : Nat} {A : Around} (r : Room k A) : A.units + 1 < cLine := Nat.lt_of_le_of_lt (by omega) r.units
/-! ### data stays where a list or a dict is written -/
def Wr (H : Hp) (p : Addr) : Prop := (∃ xs, H p = some (.lst xs)) ∨ ∃ kvs, H p = some (.dK kvs)
theorem Wr.nc {H : Hp} {p : Addr} (h : Wr H p) : NC (H p) := by
  rcases h with ⟨xs, h⟩ | ⟨kvs, h⟩ <;> (rw [h]; trivial)
theorem Wr.lst {H : Hp} {p : Addr} {xs : List V} (h : H p = some (.lst xs)) : Wr H p := .inl ⟨xs, h⟩
theorem Wr.dK {H : Hp} {p : Addr} {kvs : List (Key × V)} (h : H p = some (.dK kvs)) : Wr H p := .inr ⟨kvs, h⟩
theorem overT {K : PySem.W.Frag} {H : Hp} {p t : Addr} {xs : List V} {o : HO} (e : Wr H p) (h : SqT K H t xs) : SqT K (upd H p o) t xs := by
  have ne : ∀ {u : HO}, H t = some u → (∀ xs, u ≠ .lst xs) → (∀ kvs, u ≠ .dK kvs) → t ≠ p := by
    intro u hu n1 n2 z
    rw [z] at hu
    rcases e with ⟨ys, e⟩ | ⟨kvs, e⟩
    · rw [e] at hu
      exact n1 ys (Option.some.inj hu).symm
    · rw [e] at hu
      exact n2 kvs (Option.some.inj hu).symm
  rcases h with (h | ⟨o2, h⟩) | h
  · refine .inl (.inl ?_)
    rw [upd_ne (ne h (fun _ => nofun) (fun _ => nofun))]
    exact h
  · refine .inl (.inr ⟨o2, ?_⟩)
    rw [upd_ne (ne h (fun _ => nofun) (fun _ => nofun))]
    exact h
  · exact .inr h
mutual
theorem dpOver {K : PySem.W.Frag} {H : Hp} {p : Addr} {o : HO} (e : Wr H p) : ∀ {d : PyData} {v : V}, tupsOnly d = true → Dp K H v d → Dp K (upd H p o) v d
  | .none, _, _, .non => .non
  | .bool _, _, _, .bl b => .bl b
  | .int _, _, _, .int i => .int i
  | .str _, _, _, .str x => .str x
  | .list _, _, ok, _ => by cases ok
  | .tuple ds, _, ok, .tup h hs => .tup (overT e h) (dpOverAll e (by rw [tupsOnly, Bool.and_eq_true] at ok; exact ok.2) hs)
theorem dpOverAll {K : PySem.W.Frag} {H : Hp} {p : Addr} {o : HO} (e : Wr H p) : ∀ {ds : List PyData} {vs : List V}, tupsAll ds = true → DpAll K H vs ds → DpAll K (upd H p o) vs ds
  | [], _, _, .nil => .nil
  | d :: r, _, ok, .cons h hs => .cons (dpOver e (by rw [tupsAll, Bool.and_eq_true] at ok; exact ok.1) h) (dpOverAll e (by rw [tupsAll, Bool.and_eq_true] at ok; exact ok.2) hs)
end
theorem keep_new {H H' : Hp} {p : Addr} {o : HO} (e : Same H H') (n : H p = none) (nc : NC (H' p) := by first | exact NC.of (by assumption) (by trivial) | exact Wr.nc (by assumption)) : Same H (upd H' p o) := e.over n nc
/-! ### entries and trees -/
inductive Ent where
  | folder (t : List Nat)
  | file (t : List Nat) (b : List Int)
  | link (t : List Nat) (g : List Nat)
deriving DecidableEq
def Ent.path : Ent → List Nat
  | .folder t => t
  | .file t _ => t
  | .link t _ => t
def Ent.isFolder : Ent → Bool
  | .folder _ => true
  | _ => false
def sd (x : String) : PyData := .str (Str.ofString x)
def td (l : List Nat) : PyData := .str (mkS l)
def dEnt : Ent → PyData
  | .folder t => .tuple [sd "folder", td t]
  | .file t b => .tuple [sd "file", td t, dInts b]
  | .link t g => .tuple [sd "link", td t, td g]
def PathT (t : List Nat) : Prop := PathOk (splitC 47 t)
def aboveT (t : List Nat) : List (List Nat) := aboveF (splitC 47 t)
def GoalT (g : List Nat) : Prop := (splitC 47 g).length ≤ 8 ∧ ∀ p ∈ splitC 47 g, p = dots ∨ partOk p
def EntOk : Ent → Prop
  | .folder t => PathT t
  | .file t b => PathT t ∧ Byt b ∧ b.length ≤ 1000
  | .link t g => PathT t ∧ GoalT g
def dTree (es : List Ent) : PyData := .tuple (es.map dEnt)
structure TreeOk (es : List Ent) : Prop where
  ok : ∀ e ∈ es, EntOk e
  rise : es.Pairwise fun a b => a.path < b.path
  up : ∀ e ∈ es, ∀ a ∈ aboveT e.path, Ent.folder a ∈ es
  few : es.length ≤ 100
theorem EntOk.path {e : Ent} (h : EntOk e) : PathT e.path := by
  cases e with
  | folder t => exact h
  | file t b => exact h.1
  | link t g => exact h.1
theorem EntOk.small {e : Ent} (h : EntOk e) : ∀ t b, e = .file t b → b.length ≤ 1000 := by
  intro t b z
  rw [z] at h
  exact h.2.2
theorem join_split (c : Nat) : ∀ l : List Nat, joinC c (splitC c l) = l
  | [] => rfl
  | x :: r => by
    have ih := join_split c r
    rw [splitC]
    cases e : splitC c r with
    | nil => exact absurd e (splitC_ne c r)
    | cons p ps =>
      rw [e] at ih
      by_cases z : x = c
      · rw [if_pos z]
        have : joinC c ([] :: p :: ps) = c :: joinC c (p :: ps) := by
          show ([] : List Nat) ++ ([c] ++ TL.joinL [c] (p :: ps)) = _
          rfl
        rw [this, ih, z]
      · rw [if_neg z]
        cases ps with
        | nil =>
          have e1 : joinC c [p] = p := rfl
          rw [e1] at ih
          show x :: p = _
          rw [ih]
        | cons p2 ps2 =>
          have e1 : joinC c (p :: p2 :: ps2) = p ++ ([c] ++ TL.joinL [c] (p2 :: ps2)) := rfl
          rw [e1] at ih
          show (x :: p) ++ ([c] ++ TL.joinL [c] (p2 :: ps2)) = _
          rw [List.cons_append, ih]
theorem pathOf_parts (t : List Nat) : pathOf (splitC 47 t) = t := join_split 47 t
theorem PathT.of {ps : List (List Nat)} (h : PathOk ps) : PathT (pathOf ps) := by
  unfold PathT
  rw [split_path h]
  exact h
theorem aboveT_of {ps : List (List Nat)} (h : PathOk ps) : aboveT (pathOf ps) = aboveF ps := by
  unfold aboveT
  rw [split_path h]
theorem PathT.len {t : List Nat} (h : PathT t) : t.length ≤ 104 := by
  have := pathOf_len h
  rw [pathOf_parts] at this
  exact this
theorem PathT.ne {t : List Nat} (h : PathT t) : t ≠ [] := by
  have := pathOf_ne h
  rw [pathOf_parts] at this
  exact this
theorem aboveF_mem {ps : List (List Nat)} {a : List Nat} (h : a ∈ aboveF ps) : ∃ k, k + 1 < ps.length ∧ a = pathOf (ps.take (k + 1)) := by
  unfold aboveF at h
  obtain ⟨k, hk, rfl⟩ := List.mem_map.mp h
  rw [List.mem_range] at hk
  exact ⟨k, by omega, rfl⟩
theorem take_ok {ps : List (List Nat)} (h : PathOk ps) (k : Nat) : PathOk (ps.take (k + 1)) := by
  refine ⟨fun e => h.1 ?_, by rw [List.length_take]; have := h.2.1; omega, fun p hp => h.2.2 p ((List.take_sublist _ _).mem hp)⟩
  have := congrArg List.length e
  rw [List.length_take, List.length_nil] at this
  exact List.eq_nil_of_length_eq_zero (by omega)
theorem above_ok {t a : List Nat} (h : PathT t) (ha : a ∈ aboveT t) : PathT a := by
  obtain ⟨k, _, rfl⟩ := aboveF_mem ha
  exact PathT.of (take_ok h k)
/-- what is above what is above is above -/
theorem above_above {t a b : List Nat} (h : PathT t) (ha : a ∈ aboveT t) (hb : b ∈ aboveT a) : b ∈ aboveT t := by
  obtain ⟨k, lk, rfl⟩ := aboveF_mem ha
  rw [aboveT_of (take_ok h k)] at hb
  obtain ⟨j, lj, rfl⟩ := aboveF_mem hb
  rw [List.length_take] at lj
  unfold aboveT aboveF
  refine List.mem_map.mpr ⟨j, List.mem_range.mpr (by omega), ?_⟩
  rw [List.take_take, Nat.min_eq_left (by omega)]
theorem above_ne {t a : List Nat} (h : PathT t) (ha : a ∈ aboveT t) : a ≠ t := by
  obtain ⟨k, lk, rfl⟩ := aboveF_mem ha
  intro e
  have e2 : (splitC 47 (pathOf ((splitC 47 t).take (k + 1)))).length = (splitC 47 t).length := by rw [e]
  rw [split_path (take_ok h k), List.length_take] at e2
  omega
theorem dEnt_ok {e : Ent} (h : ∀ t b, e = .file t b → b.length ≤ 1000) : tupsOnly (dEnt e) = true ∧ PyData.depth (dEnt e) ≤ 2 := by
  cases e with
  | folder t => exact ⟨rfl, show max 0 (max 0 0) + 1 ≤ 2 by decide⟩
  | file t b =>
    have l := h t b rfl
    have k := dInts_ok b (by omega)
    constructor
    · show (decide ((3 : Nat) ≤ 100000) && (true && (true && (tupsOnly (dInts b) && true)))) = true
      rw [k.1]
      rfl
    · show max 0 (max 0 (max (PyData.depth (dInts b)) 0)) + 1 ≤ 2
      have := k.2
      omega
  | link t g => exact ⟨rfl, show max 0 (max 0 (max 0 0)) + 1 ≤ 2 by decide⟩
theorem dTree_ok {es : List Ent} (h : ∀ e ∈ es, ∀ t b, e = .file t b → b.length ≤ 1000) (few : es.length ≤ 100000) : tupsOnly (dTree es) = true ∧ PyData.depth (dTree es) ≤ 3 := by
  have all : ∀ (fs : List Ent), (∀ e ∈ fs, ∀ t b, e = .file t b → b.length ≤ 1000) → tupsAll (fs.map dEnt) = true ∧ PyData.depthAll (fs.map dEnt) ≤ 2 := by
    intro fs
    induction fs with
    | nil => intro _; exact ⟨rfl, by decide⟩
    | cons e r ih =>
      intro h
      have h1 := dEnt_ok (h e (by simp))
      have h2 := ih fun x hx => h x (List.mem_cons_of_mem _ hx)
      constructor
      · rw [List.map_cons, tupsAll, h1.1, h2.1]
        rfl
      · rw [List.map_cons, PyData.depthAll]
        have := h1.2
        have := h2.2
        omega
  have k := all es h
  constructor
  · unfold dTree
    rw [tupsOnly, k.1, decide_eq_true (by rw [List.length_map]; exact few)]
    rfl
  · unfold dTree
    rw [PyData.depth]
    have := k.2
    omega
/-- an entry in the heap: its parts -/
theorem dpEnt {K : PySem.W.Frag} {H : Hp} {v : V} {e : Ent} (h : Dp K H v (dEnt e)) : ∃ t xs, v = .ref t ∧ SqT K H t xs ∧ (match e with
    | .folder p => xs = [.str (Str.ofString "folder"), T p]
    | .file p b => ∃ u, xs = [.str (Str.ofString "file"), T p, .ref u] ∧ SqT K H u (b.map V.int)
    | .link p g => xs = [.str (Str.ofString "link"), T p, T g]) := by
  cases e with
  | folder p =>
    cases h with
    | tup h hs =>
      cases hs with
      | cons h1 hs =>
        cases hs with
        | cons h2 hs =>
          cases hs
          cases h1
          cases h2
          exact ⟨_, _, rfl, h, rfl⟩
  | file p b =>
    cases h with
    | tup h hs =>
      cases hs with
      | cons h1 hs =>
        cases hs with
        | cons h2 hs =>
          cases hs with
          | cons h3 hs =>
            cases hs
            cases h1
            cases h2
            cases h3 with
            | tup g gs =>
              refine ⟨_, _, rfl, h, _, rfl, ?_⟩
              have : ∀ {vs : List V} {b : List Int}, DpAll K H vs (b.map PyData.int) → vs = b.map V.int := by
                intro vs b
                induction b generalizing vs with
                | nil => intro k; cases k; rfl
                | cons x r ih =>
                  intro k
                  cases k with
                  | cons k1 ks =>
                    cases k1
                    rw [ih ks]
                    rfl
              rw [← this gs]
              exact g
  | link p g =>
    cases h with
    | tup h hs =>
      cases hs with
      | cons h1 hs =>
        cases hs with
        | cons h2 hs =>
          cases hs with
          | cons h3 hs =>
            cases hs
            cases h1
            cases h2
            cases h3
            exact ⟨_, _, rfl, h, rfl⟩
theorem dEnt_folder {K : PySem.W.Frag} {H : Hp} {t : Addr} {p : List Nat} (h : SqT K H t [.str (Str.ofString "folder"), T p]) : Dp K H (.ref t) (dEnt (.folder p)) := .tup h (.cons (.str _) (.cons (.str _) .nil))
theorem dEnt_link {K : PySem.W.Frag} {H : Hp} {t : Addr} {p g : List Nat} (h : SqT K H t [.str (Str.ofString "link"), T p, T g]) : Dp K H (.ref t) (dEnt (.link p g)) := .tup h (.cons (.str _) (.cons (.str _) (.cons (.str _) .nil)))
theorem dEnt_file {K : PySem.W.Frag} {H : Hp} {t u : Addr} {p : List Nat} {b : List Int} (h : SqT K H t [.str (Str.ofString "file"), T p, .ref u]) (g : SqT K H u (b.map V.int)) : Dp K H (.ref t) (dEnt (.file p b)) := .tup h (.cons (.str _) (.cons (.str _) (.cons (dpTup g) .nil)))
end Fc

namespace Fc
open PySem PySem.Spec L2 PyProof.Rows
variable [LamNames]
/-! ### a dict of entries by their paths -/
def kT (t : List Nat) : Key := .inr (mkS t)
theorem kT_inj {a b : List Nat} (h : kT a = kT b) : a = b := mkS_inj (Sum.inr.inj h)
def OneE (K : PySem.W.Frag) (H : Hp) (e : Ent) (kv : Key × V) : Prop := kv.1 = kT e.path ∧ Dp K H kv.2 (dEnt e)
abbrev OnE (K : PySem.W.Frag) (H : Hp) (es : List Ent) (kvs : List (Key × V)) : Prop := Al2 (OneE K H) es kvs
def atE (es : List Ent) (t : List Nat) : Option Ent := es.find? fun e => decide (e.path = t)
def putE (es : List Ent) (e : Ent) : List Ent := if (es.any fun x => decide (x.path = e.path)) = true then es.map (fun x => if x.path = e.path then e else x) else es ++ [e]
theorem onE_get {K : PySem.W.Frag} {H : Hp} (t : List Nat) : ∀ {es : List Ent} {kvs : List (Key × V)}, OnE K H es kvs → (atE es t = none ∧ valV kvs (kT t) = none) ∨ ∃ e v, atE es t = some e ∧ valV kvs (kT t) = some v ∧ Dp K H v (dEnt e)
  | _, _, .nil => .inl ⟨rfl, rfl⟩
  | e :: es, kv :: kvs, .cons h hs => by
    by_cases z : e.path = t
    · refine .inr ⟨e, kv.2, ?_, valV_pos (by rw [h.1, z]), h.2⟩
      unfold atE
      rw [List.find?_cons_of_pos (by simpa using z)]
    · have nz : ¬ kv.1 = kT t := fun k => z (kT_inj (h.1.symm.trans k))
      have e1 : atE (e :: es) t = atE es t := by
        unfold atE
        rw [List.find?_cons_of_neg (by simpa using z)]
      rw [e1, valV_neg nz]
      exact onE_get t hs
theorem onE_any {K : PySem.W.Frag} {H : Hp} (t : List Nat) : ∀ {es : List Ent} {kvs : List (Key × V)}, OnE K H es kvs → (kvs.any fun kv => decide (kv.1 = kT t)) = es.any fun x => decide (x.path = t)
  | _, _, .nil => rfl
  | e :: es, kv :: kvs, .cons h hs => by
    rw [List.any_cons, List.any_cons, onE_any t hs]
    congr 1
    by_cases z : e.path = t
    · rw [decide_eq_true z]
      exact decide_eq_true (by rw [h.1, z])
    · rw [decide_eq_false z]
      exact decide_eq_false fun k => z (kT_inj (h.1.symm.trans k))
theorem onE_map {K : PySem.W.Frag} {H : Hp} {e : Ent} {v : V} (hv : Dp K H v (dEnt e)) : ∀ {es : List Ent} {kvs : List (Key × V)}, OnE K H es kvs → OnE K H (es.map fun x => if x.path = e.path then e else x) (kvs.map fun kv => if kv.1 = kT e.path then (kv.1, v) else kv)
  | _, _, .nil => .nil
  | x :: es, kv :: kvs, .cons h hs => by
    rw [List.map_cons, List.map_cons]
    refine .cons ?_ (onE_map hv hs)
    by_cases z : x.path = e.path
    · have z2 : kv.1 = kT e.path := by rw [h.1, z]
      rw [if_pos z, if_pos z2]
      exact ⟨z2, hv⟩
    · have nz : ¬ kv.1 = kT e.path := fun k => z (kT_inj (h.1.symm.trans k))
      rw [if_neg z, if_neg nz]
      exact h
theorem onE_put {K : PySem.W.Frag} {H : Hp} {e : Ent} {v : V} {es : List Ent} {kvs : List (Key × V)} (h : OnE K H es kvs) (hv : Dp K H v (dEnt e)) : OnE K H (putE es e) (putK kvs (kT e.path) v) := by
  unfold putE putK
  rw [onE_any e.path h]
  by_cases z : (es.any fun x => decide (x.path = e.path)) = true
  · rw [if_pos z, if_pos z]
    exact onE_map hv h
  · rw [if_neg z, if_neg z]
    exact h.snoc ⟨rfl, hv⟩
def SmallE (es : List Ent) : Prop := ∀ e ∈ es, ∀ t b, e = .file t b → b.length ≤ 1000
theorem SmallE.tail {e : Ent} {es : List Ent} (h : SmallE (e :: es)) : SmallE es := fun x hx => h x (List.mem_cons_of_mem _ hx)
theorem onE_keep {K : PySem.W.Frag} {H H' : Hp} (s : Same H H') {es : List Ent} {kvs : List (Key × V)} (h : OnE K H es kvs) : OnE K H' es kvs := h.mono fun e kv k => ⟨k.1, dpKeep s k.2⟩
theorem onE_over {K : PySem.W.Frag} {H : Hp} {p : Addr} {o : HO} (w : Wr H p) : ∀ {es : List Ent} {kvs : List (Key × V)}, SmallE es → OnE K H es kvs → OnE K (upd H p o) es kvs
  | _, _, _, .nil => .nil
  | e :: es, kv :: kvs, sm, .cons h hs => .cons ⟨h.1, dpOver w (dEnt_ok (sm e (by simp))).1 h.2⟩ (onE_over w sm.tail hs)
theorem onE_keys {K : PySem.W.Frag} {H : Hp} : ∀ {es : List Ent} {kvs : List (Key × V)}, OnE K H es kvs → kvs.map (·.1) = (es.map fun e => mkS e.path).map Sum.inr
  | _, _, .nil => rfl
  | e :: es, kv :: kvs, .cons h hs => by rw [List.map_cons, List.map_cons, List.map_cons, h.1, onE_keys hs]; rfl
theorem atE_mem {es : List Ent} {t : List Nat} {e : Ent} (h : atE es t = some e) : e ∈ es ∧ e.path = t := ⟨List.mem_of_find?_eq_some h, by
  have := List.find?_some (p := fun e : Ent => decide (e.path = t)) h
  exact of_decide_eq_true this⟩
theorem atE_none {es : List Ent} {t : List Nat} (h : atE es t = none) : ∀ e ∈ es, e.path ≠ t := fun e he k => by
  have := List.find?_eq_none.mp h e he
  exact this (decide_eq_true k)
/-! ### the paths of a growing dict -/
abbrev Nod (es : List Ent) : Prop := (es.map Ent.path).Nodup
theorem Nod.eq {es : List Ent} (h : Nod es) {a b : Ent} (ha : a ∈ es) (hb : b ∈ es) (e : a.path = b.path) : a = b := by
  induction es with
  | nil => cases ha
  | cons x r ih =>
    rw [Nod, List.map_cons, List.nodup_cons] at h
    rcases List.mem_cons.mp ha with ka | ka
    · rcases List.mem_cons.mp hb with kb | kb
      · rw [ka, kb]
      · exact absurd (List.mem_map.mpr ⟨b, kb, by rw [← e, ka]⟩) h.1
    · rcases List.mem_cons.mp hb with kb | kb
      · exact absurd (List.mem_map.mpr ⟨a, ka, by rw [e, kb]⟩) h.1
      · exact ih h.2 ka kb
theorem atE_of {es : List Ent} (h : Nod es) {e : Ent} (he : e ∈ es) : atE es e.path = some e := by
  cases k : atE es e.path with
  | none => exact absurd rfl (atE_none k e he)
  | some x =>
    obtain ⟨hx, px⟩ := atE_mem k
    rw [h.eq hx he px]
theorem putE_new {es : List Ent} {e : Ent} (h : ∀ x ∈ es, x.path ≠ e.path) : putE es e = es ++ [e] := by
  unfold putE
  rw [if_neg]
  intro z
  obtain ⟨x, hx, k⟩ := List.any_eq_true.mp z
  exact h x hx (of_decide_eq_true k)
theorem putE_same {es : List Ent} {e : Ent} (h : ∀ x ∈ es, x.path = e.path → x = e) (he : ∃ x ∈ es, x.path = e.path) : putE es e = es := by
  unfold putE
  obtain ⟨x, hx, px⟩ := he
  rw [if_pos (List.any_eq_true.mpr ⟨x, hx, decide_eq_true px⟩)]
  have : es.map (fun x => if x.path = e.path then e else x) = es.map id := List.map_congr_left fun y hy => by
    by_cases z : y.path = e.path
    · rw [if_pos z]
      exact (h y hy z).symm
    · rw [if_neg z]
      rfl
  rw [this, List.map_id]
theorem nod_snoc {es : List Ent} {e : Ent} (h : Nod es) (n : ∀ x ∈ es, x.path ≠ e.path) : Nod (es ++ [e]) := by
  unfold Nod
  rw [List.map_append, List.nodup_append]
  refine ⟨h, by simp, fun a ha b hb k => ?_⟩
  obtain ⟨x, hx, rfl⟩ := List.mem_map.mp ha
  rw [List.map_cons, List.map_nil, List.mem_singleton] at hb
  exact n x hx (k.trans hb)
/-- the folders above are put in -/
structure Grown (es : List Ent) (as : List (List Nat)) (fs : List Ent) : Prop where
  nod : Nod fs
  old : ∀ e ∈ es, e ∈ fs
  new : ∀ e ∈ fs, e ∈ es ∨ ∃ a ∈ as, e = .folder a
  all : ∀ a ∈ as, Ent.folder a ∈ fs
  few : fs.length ≤ es.length + as.length
theorem Grown.nil {es : List Ent} (h : Nod es) : Grown es [] es := ⟨h, fun _ h => h, fun e h => .inl h, fun a h => (by cases h), by simp⟩
theorem Grown.step {es fs : List Ent} {as : List (List Nat)} {a : List Nat} (g : Grown es as fs) (nb : ∀ e ∈ es, e.path = a → e = .folder a) : Grown es (as ++ [a]) (putE fs (.folder a)) := by
  have same : ∀ x ∈ fs, x.path = (Ent.folder a).path → x = .folder a := fun x hx px => by
    rcases g.new x hx with h | ⟨b, _, rfl⟩
    · exact nb x h px
    · have : b = a := px
      rw [this]
  by_cases z : ∃ x ∈ fs, x.path = (Ent.folder a).path
  · rw [putE_same same z]
    refine ⟨g.nod, g.old, fun e he => ?_, fun b hb => ?_, by rw [List.length_append]; have := g.few; simp only [List.length_cons, List.length_nil]; omega⟩
    · rcases g.new e he with h | ⟨b, hb, h⟩
      · exact .inl h
      · exact .inr ⟨b, List.mem_append_left _ hb, h⟩
    · rcases List.mem_append.mp hb with hb | hb
      · exact g.all b hb
      · rw [List.mem_singleton.mp hb]
        obtain ⟨x, hx, px⟩ := z
        rw [← same x hx px]
        exact hx
  · have n : ∀ x ∈ fs, x.path ≠ (Ent.folder a).path := fun x hx k => z ⟨x, hx, k⟩
    rw [putE_new n]
    refine ⟨nod_snoc g.nod n, fun e he => List.mem_append_left _ (g.old e he), fun e he => ?_, fun b hb => ?_, by rw [List.length_append, List.length_append]; have := g.few; simp only [List.length_cons, List.length_nil]; omega⟩
    · rcases List.mem_append.mp he with he | he
      · rcases g.new e he with h | ⟨b, hb, h⟩
        · exact .inl h
        · exact .inr ⟨b, List.mem_append_left _ hb, h⟩
      · rw [List.mem_singleton.mp he]
        exact .inr ⟨a, by simp, rfl⟩
    · rcases List.mem_append.mp hb with hb | hb
      · exact List.mem_append_left _ (g.all b hb)
      · rw [List.mem_singleton.mp hb]
        simp
/-- a dict whose entries and folders are right -/
structure Stock (es : List Ent) : Prop where
  nod : Nod es
  ok : ∀ e ∈ es, EntOk e
  up : ∀ e ∈ es, ∀ a ∈ aboveT e.path, Ent.folder a ∈ es
theorem Stock.small {es : List Ent} (h : Stock es) : SmallE es := fun e he => (h.ok e he).small
theorem Stock.put {es fs : List Ent} {e : Ent} (h : Stock es) (g : Grown es (aboveT e.path) fs) (he : EntOk e) (n : ∀ x ∈ es, x.path ≠ e.path) : Stock (putE fs e) ∧ (putE fs e).length ≤ es.length + (aboveT e.path).length + 1 := by
  have n2 : ∀ x ∈ fs, x.path ≠ e.path := fun x hx => by
    rcases g.new x hx with k | ⟨a, ha, rfl⟩
    · exact n x k
    · exact above_ne he.path ha
  rw [putE_new n2]
  refine ⟨⟨nod_snoc g.nod n2, fun x hx => ?_, fun x hx a ha => ?_⟩, by rw [List.length_append]; have := g.few; simp only [List.length_cons, List.length_nil]; omega⟩
  · rcases List.mem_append.mp hx with hx | hx
    · rcases g.new x hx with k | ⟨a, ha, rfl⟩
      · exact h.ok x k
      · exact above_ok he.path ha
    · rw [List.mem_singleton.mp hx]
      exact he
  · rcases List.mem_append.mp hx with hx | hx
    · rcases g.new x hx with k | ⟨b, hb, rfl⟩
      · exact List.mem_append_left _ (g.old _ (h.up x k a ha))
      · exact List.mem_append_left _ (g.all _ (above_above he.path hb ha))
    · rw [List.mem_singleton.mp hx] at ha
      exact List.mem_append_left _ (g.all a ha)
/-! ### put in order -/
theorem lt_of_rising {x : Str} {r : List Str} (h : risingS x r = true) : ∀ y ∈ r, ltCps y.cps.toList x.cps.toList = false := by
  induction r generalizing x with
  | nil => intro y hy; cases hy
  | cons z r ih =>
    intro y hy
    have h' : (!ltCps z.cps.toList x.cps.toList && risingS z r) = true := h
    rw [Bool.and_eq_true, Bool.not_eq_true'] at h'
    rcases List.mem_cons.mp hy with rfl | hy
    · exact h'.1
    · have k := ih h'.2 y hy
      have h1 := h'.1
      rw [ltCps_eq] at k h1 ⊢
      rw [decide_eq_false_iff_not] at k h1 ⊢
      intro q
      rcases Decidable.em (x.cps.toList < z.cps.toList) with p | p
      · exact k (List.lt_trans q p)
      · have e : x.cps.toList = z.cps.toList := List.le_antisymm (List.not_lt.mp h1) (List.not_lt.mp p)
        rw [e] at q
        exact k q
theorem sorted_pairwise : ∀ {l : List Str}, sortedS l = true → l.Pairwise fun a b => ltCps b.cps.toList a.cps.toList = false
  | [], _ => .nil
  | x :: r, h => .cons (lt_of_rising h) (by
    cases r with
    | nil => exact .nil
    | cons z r =>
      have h' : (!ltCps z.cps.toList x.cps.toList && risingS z r) = true := h
      rw [Bool.and_eq_true] at h'
      exact sorted_pairwise (l := z :: r) h'.2)
theorem sorted_paths {ys : List (List Nat)} (h : sortedS (ys.map mkS) = true) (nd : ys.Nodup) : ys.Pairwise (· < ·) := by
  have p := List.pairwise_map.mp (sorted_pairwise h)
  refine (p.and nd).imp fun {a b} k => ?_
  have k1 : ltCps b a = false := k.1
  rw [ltCps_eq, decide_eq_false_iff_not] at k1
  rcases Decidable.em (a < b) with q | q
  · exact q
  · exact absurd (List.le_antisymm (List.not_lt.mp k1) (List.not_lt.mp q)) k.2
/-- the tree that a stock makes, its entries in the order of the paths -/
theorem Stock.tree {es fs : List Ent} {ys : List (List Nat)} (h : Stock es) (pm : ys.Perm (es.map Ent.path)) (so : sortedS (ys.map mkS) = true) (ef : fs.map Ent.path = ys) (sub : ∀ e ∈ fs, e ∈ es) (few : es.length ≤ 100) : TreeOk fs := by
  have nd : ys.Nodup := pm.nodup_iff.mpr h.nod
  refine ⟨fun e he => h.ok e (sub e he), ?_, fun e he a ha => ?_, ?_⟩
  · have := sorted_paths so nd
    rw [← ef, List.pairwise_map] at this
    exact this
  · have hm := h.up e (sub e he) a ha
    have : a ∈ ys := pm.mem_iff.mpr (List.mem_map.mpr ⟨_, hm, rfl⟩)
    rw [← ef] at this
    obtain ⟨x, hx, px⟩ := List.mem_map.mp this
    have : x = .folder a := h.nod.eq (sub x hx) hm px
    rw [← this]
    exact hx
  · have l1 := congrArg List.length ef
    have l2 := pm.length_eq
    rw [List.length_map] at l1 l2
    omega
/-! ### the word and the path of an entry -/
def wordOf : Ent → V
  | .folder _ => .str (Str.ofString "folder")
  | .file _ _ => .str (Str.ofString "file")
  | .link _ _ => .str (Str.ofString "link")
theorem word_ne (e : Ent) : (!decide (wordOf e = V.str (Str.ofString "folder"))) = !e.isFolder := by
  cases e with
  | folder t => exact congrArg (!·) (decide_eq_true rfl)
  | file t b => exact congrArg (!·) (decide_eq_false fun k => absurd (V.str.inj k) (by decide +kernel))
  | link t g => exact congrArg (!·) (decide_eq_false fun k => absurd (V.str.inj k) (by decide +kernel))
theorem dpWord {K : PySem.W.Frag} {H : Hp} {v : V} {e : Ent} (h : Dp K H v (dEnt e)) : ∃ t xs, v = .ref t ∧ SqT K H t xs ∧ xs[0]? = some (wordOf e) ∧ xs[1]? = some (T e.path) := by
  obtain ⟨t, xs, rfl, ht, k⟩ := dpEnt h
  refine ⟨t, xs, rfl, ht, ?_⟩
  cases e with
  | folder p => rw [k]; exact ⟨rfl, rfl⟩
  | file p b => obtain ⟨u, rfl, _⟩ := k; exact ⟨rfl, rfl⟩
  | link p g => rw [k]; exact ⟨rfl, rfl⟩
theorem choose_ents {K : PySem.W.Frag} {H : Hp} {es : List Ent} : ∀ {xs ys : List V}, Al2 (fun x y => ∃ e ∈ es, x = T e.path ∧ Dp K H y (dEnt e)) xs ys → ∃ fs : List Ent, xs = fs.map (fun e => T e.path) ∧ (∀ e ∈ fs, e ∈ es) ∧ DpAll K H ys (fs.map dEnt)
  | _, _, .nil => ⟨[], rfl, (fun e h => by cases h), .nil⟩
  | _, _, .cons ⟨e, he, hx, hd⟩ hs => by
    obtain ⟨fs, hf, hm, hD⟩ := choose_ents hs
    refine ⟨e :: fs, by rw [hx, hf]; rfl, fun x hx => ?_, .cons hd hD⟩
    rcases List.mem_cons.mp hx with rfl | hx
    · exact he
    · exact hm x hx
end Fc

namespace Fc
open PySem PySem.Spec L2 PyProof.Rows
variable [LamNames]
/-! ### isinstance of any data -/
def tyN : PyData → String
  | .none => "NoneType"
  | .bool _ => "bool"
  | .int _ => "int"
  | .str _ => "str"
  | .list _ => "list"
  | .tuple _ => "tuple"
  | .dict _ => "dict"
theorem ty_lst {K : PySem.W.Frag} {H : Hp} {a : Addr} {xs : List V} (h : SqL K H a xs) : TyX K H (.ref a) (.type "list") := by
  rcases h with (h | ⟨o, h⟩) | ⟨o, its, n, h, c, _⟩
  · exact .base (.lst h)
  · exact .base (.frz h)
  · exact .kList h c
theorem ty_dp {K : PySem.W.Frag} {H : Hp} : ∀ {d : PyData} {v : V}, Dp K H v d → TyX K H v (.type (tyN d))
  | .none, _, .non => .base .non
  | .bool _, _, .bl b => .base (.bl b)
  | .int _, _, .int i => .base (.int i)
  | .str _, _, .str x => .base (.str x)
  | .list _, _, .lst h _ => ty_lst h
  | .tuple _, _, .tup h _ => ty_tup h
def isBool : PyData → Bool
  | .bool _ => true
  | _ => false
def isInt : PyData → Bool
  | .bool _ | .int _ => true
  | _ => false
def isStr : PyData → Bool
  | .str _ => true
  | _ => false
def isTup : PyData → Bool
  | .tuple _ => true
  | _ => false
theorem kd_bool {K : PySem.W.Frag} (d : PyData) : PySem.W.kitOne K (.type (tyN d)) (.type "bool") = some (isBool d) := by cases d <;> exact kit_ty (by kernel_rfl)
theorem kd_int {K : PySem.W.Frag} (d : PyData) : PySem.W.kitOne K (.type (tyN d)) (.type "int") = some (isInt d) := by cases d <;> exact kit_ty (by kernel_rfl)
theorem kd_str {K : PySem.W.Frag} (d : PyData) : PySem.W.kitOne K (.type (tyN d)) (.type "str") = some (isStr d) := by cases d <;> exact kit_ty (by kernel_rfl)
theorem kd_tup {K : PySem.W.Frag} (d : PyData) : PySem.W.kitOne K (.type (tyN d)) (.type "tuple") = some (isTup d) := by cases d <;> exact kit_ty (by kernel_rfl)
/-! ### bytes and bodies, of any data -/
def byteB : PyData → Bool
  | .int i => decide (0 ≤ i) && decide (i ≤ 255)
  | _ => false
def bodyB : PyData → Bool
  | .tuple ds => decide (ds.length ≤ 1000) && ds.all byteB
  | _ => false
def byteV : V → Bool
  | .int i => decide (0 ≤ i) && decide (i ≤ 255)
  | _ => false
theorem byteV_of {K : PySem.W.Frag} {H : Hp} : ∀ {d : PyData} {v : V}, Dp K H v d → byteB d = byteV v
  | .none, _, .non => rfl
  | .bool _, _, .bl b => rfl
  | .int _, _, .int i => rfl
  | .str _, _, .str x => rfl
  | .list _, _, .lst h _ => rfl
  | .tuple _, _, .tup h _ => rfl
theorem byteV_all {K : PySem.W.Frag} {H : Hp} : ∀ {vs : List V} {ds : List PyData}, DpAll K H vs ds → vs.all byteV = ds.all byteB
  | _, _, .nil => rfl
  | _, _, .cons h hs => by rw [List.all_cons, List.all_cons, byteV_all hs, byteV_of h]
/-- a def that keeps two promises keeps the one of both -/
theorem fn_or {P : Program} {w : World} {K : PySem.W.Frag} {mg : Str → Option Value} {base : Heap} {CX : CXT} {k : Nat} {f : Addr} {fd : FuncData} {ps : List Str} {sp sp' : Sp} (F : FnOk P w K mg base CX k f fd ps sp) (F' : FnOk P w K mg base CX k f fd ps sp') :
    FnOk P w K mg base CX k f fd ps (fun vs H Q E => sp vs H Q E ∨ sp' vs H Q E) :=
  ⟨fun vs H Q E h => h.elim (F.len vs H Q E) (F'.len vs H Q E), fun A outer s H args us vs Q E hr e0 hb r h => h.elim (F.run A outer s H args us vs Q E hr e0 hb r) (F'.run A outer s H args us vs Q E hr e0 hb r)⟩
end Fc

namespace Fc
open PySem PySem.Spec L2 PyProof.Rows
variable [LamNames]
/-! ### xs[lo:hi:c]: some of the items -/
theorem vals_pick {xs : List V} {us : List Value} (r : Vals xs us) : ∀ (is : List Nat), Vals (is.filterMap (xs[·]?)) (is.filterMap (us[·]?))
  | [] => .nil
  | i :: is => by
    cases e : xs[i]? with
    | none =>
      rw [List.filterMap_cons_none e, List.filterMap_cons_none (r.none_of e)]
      exact vals_pick r is
    | some x =>
      obtain ⟨u, hu, rl⟩ := r.get e
      rw [List.filterMap_cons_some e, List.filterMap_cons_some hu]
      exact .cons rl (vals_pick r is)
def tStepL (K : PySem.W.Frag) (te : TE) (tl th : TO) : TE := fun σ H Q => te σ H fun x H1 => tl σ H1 fun _ H2 => th σ H2 fun _ H3 => ∃ a xs, x = .ref a ∧ SqL K H3 a xs ∧ ∀ p zs, (∀ z ∈ zs, z ∈ xs) → zs.length ≤ xs.length → H3 p = none → Q (.ref p) (upd H3 p (.lst zs))
theorem pe_stepL {X : Cx} {e : Expr} {lo hi : Option Expr} {te : TE} {tl th : TO} {c : Int} {k : Nat} {p1 p2 pos : Pos} (c0 : c ≠ 0) (he : PE X e te) (hl : PO X lo tl) (hu : PO X hi th) : PE X (.Subscript e (.Slice lo hi (some (.Constant (.int c) k p1)) p2) pos) (tStepL X.K te tl th) := by
  refine ⟨fun pins s σ H Q I h => ?_⟩
  refine Subscript_ (thn (he.run pins s σ H _ I h) fun v s1 ⟨x, H1, I1, r1, q1⟩ => ?_)
  have hst : PO X (some (.Constant (.int c) k p1)) (tPart (tC (.int c))) := po_some pe_int
  refine wpAny_Slice (thn (hl.run pins s1 σ H1 _ I1 q1) fun vl s2 ⟨l, H2, I2, pl, q2⟩ => ?_)
  refine thn (hu.run pins s2 σ H2 _ I2 q2) fun vu s3 ⟨u, H3, I3, pu, q3⟩ => ?_
  obtain ⟨a, xs, ex, hx, q⟩ := q3
  subst ex
  cases r1
  refine thn (hst.run pins s3 σ H3 (fun o H4 => o = some c ∧ H4 = H3) I3 ⟨c, rfl, rfl, rfl⟩) fun vs s4 ⟨o, H4, I4, ps, eo, e4⟩ => ?_
  subst eo e4
  have I5 : Inv X pins σ H4 { s4 with heap := s4.heap.push { cls := .type "slice", data := .fields #[vl, vu, vs] } } := I4.kept (t' := s4.toks) fun b ob q => Heap.get?_push_of_some _ q
  obtain ⟨its, r, ht, hz⟩ := I5.list hx
  have hlen := r.length
  show wpAny (model X.prog X.w) X.A (subscriptTail e (.Slice lo hi (some (.Constant (.int c) k p1)) p2) (.ref a) (.ref s4.heap.objs.size)) (EP X pins σ Q) X.xe { s4 with heap := s4.heap.push { cls := .type "slice", data := .fields #[vl, vu, vs] } }
  refine tail_any (ops := [.ref a, .ref s4.heap.objs.size]) ht.isList.typeIs (PySem.slot_list_getitem.lookup) ?_ (by with_unfolding_all rfl)
  refine wpAny_getItem_list_slice ht.isList (Heap.IsSliceOf.new _ vl vu vs) pl pu ps (fun z => c0 (Option.some.inj z)) ?_ (by rw [List.size_toArray]; omega)
  have sz := slicePick_size_le its.toArray l u (some c)
  obtain ⟨is, ep⟩ : ∃ is : List Nat, slicePick its.toArray l u (some c) = (is.filterMap (its[·]?)).toArray := by
    have ef : (fun i : Nat => its.toArray[i]?) = fun i => its[i]? := by
      funext i
      exact List.getElem?_toArray
    exact ⟨sliceRange (sliceBounds l u (some c) its.toArray.size).1 (sliceBounds l u (some c) its.toArray.size).2.1 (sliceBounds l u (some c) its.toArray.size).2.2, by unfold slicePick; rw [ef]⟩
  rw [ep] at sz ⊢
  rw [List.size_toArray, List.size_toArray] at sz
  have vp := vals_pick r is
  have lp := vp.length
  refine ⟨.ref _, _, I5.laid (t' := s4.toks) (o := .lst (is.filterMap (xs[·]?))) (fun b ob q => Heap.get?_push_of_some _ q) (Nat.le_refl _) ?_, rfl, q _ _ (fun z hz => ?_) (by omega) (I5.hok.fresh (Nat.le_refl _))⟩
  · exact ⟨by omega, _, 0, vp, Heap.get?_push_size _ rfl⟩
  · obtain ⟨i, _, hi⟩ := List.mem_filterMap.mp hz
    exact List.mem_of_getElem? hi
/-! ### a loop over zip of two lists of any lengths -/
theorem for_zipM {K : PySem.W.Frag} {a b : Addr} {xs ys : List V} {g : TG} {tb : TS} {D : Ends} {σ : L2.St} {H : Hp} (Pv : L2.St → Hp → Prop) (h0 : Pv σ H) (hq : ∀ σ H, Pv σ H → SqL K H a xs ∧ SqL K H b ys)
    (hs : ∀ (x y : V) (T : Addr) (σ : L2.St) (H : Hp), x ∈ xs → y ∈ ys → Pv σ H → H T = none → g (.ref T) σ (upd H T (.tup [x, y])) fun σ2 H2 => tb { D with nx := Pv, ct := Pv, bk := D.nx } σ2 H2) (hd : ∀ σ H, Pv σ H → D.nx σ H) :
    ∃ W : Nat → Nat → L2.St → Hp → Prop, (∃ m, W 0 m σ H) ∧ ∀ i m σ H, W i m σ H →
      ((Itz K a b).stop i H ∧ D.nx σ H) ∨ ((Itz K a b).go i H ∧ ∃ N : L2.St → Hp → Prop, (∀ σ' H', N σ' H' → ∃ m', m' < m ∧ W (i + 1) m' σ' H') ∧ ∀ v H', (Itz K a b).yld i H v H' → g v σ H' fun σ2 H2 => tb { D with nx := N, ct := N, bk := D.nx } σ2 H2) := by
  refine ⟨fun i m σ H => m = xs.length - i ∧ Pv σ H, ⟨xs.length, rfl, h0⟩, ?_⟩
  rintro i m σ H ⟨rfl, p⟩
  obtain ⟨qx, qy⟩ := hq σ H p
  by_cases hlt : i < xs.length ∧ i < ys.length
  · have hx : xs[i]? = some xs[i] := List.getElem?_eq_getElem hlt.1
    have hy : ys[i]? = some ys[i] := List.getElem?_eq_getElem hlt.2
    refine .inr ⟨⟨xs, ys, _, _, qx, qy, hx, hy⟩, Pv, fun σ' H' p' => ⟨xs.length - (i + 1), by omega, rfl, p'⟩, fun v H' y => ?_⟩
    obtain ⟨T, x', y', rfl, hT, rfl, f1, f2⟩ := y
    exact hs x' y' T σ H (List.mem_of_getElem? (f1 xs qx)) (List.mem_of_getElem? (f2 ys qy)) p hT
  · refine .inl ⟨⟨xs, ys, qx, qy, ?_⟩, hd σ H p⟩
    omega
end Fc

namespace Fc
open PySem PySem.Spec L2 PyProof.Rows GxR
variable [LamNames]
/-! ### all and tuple of generator expressions, by the row of their items -/
section
variable {j : Nat} {te : TE} {vs : List Nat} {σ : L2.St} {H1 : Hp} {Q : VK}
theorem take_all {α : Type} {xs : List α} {i : Nat} {x : α} (test : α → Bool) (h : xs[i]? = some x) : (xs.take (i + 1)).all test = ((xs.take i).all test && test x) := by
  rw [List.take_add_one, h, List.all_append]
  show (_ && (test x && true)) = _
  rw [Bool.and_true]
theorem all_false {α : Type} {xs : List α} {i : Nat} {x : α} (test : α → Bool) (h : xs[i]? = some x) (k : test x = false) : xs.all test = false := by
  cases e : xs.all test with
  | false => rfl
  | true =>
    have := List.all_eq_true.mp e x (List.mem_of_getElem? h)
    rw [k] at this
    cases this
theorem gw_list {K : PySem.W.Frag} {a : Addr} {xs : List V} (test : V → Bool) (hs : SqL K H1 a xs) (hw : ∀ x, wipe ((wipe σ vs).set j (some x)) vs = wipe σ vs)
    (item : ∀ (i : Nat) (x : V) (H : Hp) (R : VK), xs[i]? = some x → Same H1 H → (∀ H', Same H H' → R (.bl (test x)) H') → te ((wipe σ vs).set j (some x)) H R) (hd : ∀ H', Same H1 H' → Q (.bl (xs.all test)) H') :
    ∃ W : Nat → Nat → Hp → Prop, (∃ m, W 0 m H1) ∧ GWalk (Itl K a) (gName j) tYes te vs σ (takeAll Q) (Q (.bl true)) W := by
  refine ⟨fun i m H => m = xs.length - i ∧ i ≤ xs.length ∧ Same H1 H ∧ (xs.take i).all test = true, ⟨xs.length, rfl, Nat.zero_le _, Same.refl _, rfl⟩, ?_⟩
  rintro i m H ⟨rfl, hi, sm, al⟩
  have q := sm.seq hs
  by_cases lt : i < xs.length
  · refine .inr ⟨⟨xs, xs[i], q, by simp [lt]⟩, fun H' => Same H1 H' ∧ (xs.take (i + 1)).all test = true, fun H' p => ⟨xs.length - (i + 1), by omega, rfl, lt, p.1, p.2⟩, fun x H' y => ?_⟩
    obtain ⟨e, y⟩ := y
    subst e
    have hx := y xs q
    refine ⟨hw x, ?_⟩
    unfold tYes
    dsimp only
    rw [if_pos rfl]
    refine item i x _ _ hx sm fun H2 s2 => ⟨test x, rfl, fun k => ⟨sm.trans s2, by rw [take_all test hx, al, k]; rfl⟩, fun k => ?_⟩
    have := hd H2 (sm.trans s2)
    rw [all_false test hx k] at this
    exact this
  · have e : i = xs.length := by omega
    subst e
    rw [List.take_length] at al
    have := hd H sm
    rw [al] at this
    exact .inl ⟨⟨xs, q, Nat.le_refl _⟩, this⟩
theorem gw_tup {K : PySem.W.Frag} {a : Addr} {xs : List V} (test : V → Bool) (hs : SqT K H1 a xs) (hw : ∀ x, wipe ((wipe σ vs).set j (some x)) vs = wipe σ vs)
    (item : ∀ (i : Nat) (x : V) (H : Hp) (R : VK), xs[i]? = some x → Same H1 H → (∀ H', Same H H' → R (.bl (test x)) H') → te ((wipe σ vs).set j (some x)) H R) (hd : ∀ H', Same H1 H' → Q (.bl (xs.all test)) H') :
    ∃ W : Nat → Nat → Hp → Prop, (∃ m, W 0 m H1) ∧ GWalk (Itt K a) (gName j) tYes te vs σ (takeAll Q) (Q (.bl true)) W := by
  refine ⟨fun i m H => m = xs.length - i ∧ i ≤ xs.length ∧ Same H1 H ∧ (xs.take i).all test = true, ⟨xs.length, rfl, Nat.zero_le _, Same.refl _, rfl⟩, ?_⟩
  rintro i m H ⟨rfl, hi, sm, al⟩
  have q := keepT sm hs
  by_cases lt : i < xs.length
  · refine .inr ⟨⟨xs, xs[i], q, by simp [lt]⟩, fun H' => Same H1 H' ∧ (xs.take (i + 1)).all test = true, fun H' p => ⟨xs.length - (i + 1), by omega, rfl, lt, p.1, p.2⟩, fun x H' y => ?_⟩
    obtain ⟨e, y⟩ := y
    subst e
    have hx := y xs q
    refine ⟨hw x, ?_⟩
    unfold tYes
    dsimp only
    rw [if_pos rfl]
    refine item i x _ _ hx sm fun H2 s2 => ⟨test x, rfl, fun k => ⟨sm.trans s2, by rw [take_all test hx, al, k]; rfl⟩, fun k => ?_⟩
    have := hd H2 (sm.trans s2)
    rw [all_false test hx k] at this
    exact this
  · have e : i = xs.length := by omega
    subst e
    rw [List.take_length] at al
    have := hd H sm
    rw [al] at this
    exact .inl ⟨⟨xs, q, Nat.le_refl _⟩, this⟩
theorem gw_rng {lo : Int} {n : Nat} (test : Nat → Bool) (hw : ∀ x, wipe ((wipe σ vs).set j (some x)) vs = wipe σ vs)
    (item : ∀ (i : Nat) (H : Hp) (R : VK), i < n → Same H1 H → (∀ H', Same H H' → R (.bl (test i)) H') → te ((wipe σ vs).set j (some (.int (lo + (i : Nat))))) H R) (hd : ∀ H', Same H1 H' → Q (.bl ((List.range n).all test)) H') :
    ∃ W : Nat → Nat → Hp → Prop, (∃ m, W 0 m H1) ∧ GWalk (Itr lo n) (gName j) tYes te vs σ (takeAll Q) (Q (.bl true)) W := by
  refine ⟨fun i m H => m = n - i ∧ i ≤ n ∧ Same H1 H ∧ ((List.range n).take i).all test = true, ⟨n, rfl, Nat.zero_le _, Same.refl _, rfl⟩, ?_⟩
  rintro i m H ⟨rfl, hi, sm, al⟩
  by_cases lt : i < n
  · refine .inr ⟨lt, fun H' => Same H1 H' ∧ ((List.range n).take (i + 1)).all test = true, fun H' p => ⟨n - (i + 1), by omega, rfl, lt, p.1, p.2⟩, fun x H' y => ?_⟩
    obtain ⟨e, rfl⟩ := y
    subst e
    have hx : (List.range n)[i]? = some i := List.getElem?_range lt
    refine ⟨hw _, ?_⟩
    unfold tYes
    dsimp only
    rw [if_pos rfl]
    refine item i _ _ lt sm fun H2 s2 => ⟨test i, rfl, fun k => ⟨sm.trans s2, by rw [take_all test hx, al, k]; rfl⟩, fun k => ?_⟩
    have := hd H2 (sm.trans s2)
    rw [all_false test hx k] at this
    exact this
  · have e : i = n := by omega
    subst e
    rw [List.take_of_length_le (by rw [List.length_range]; exact Nat.le_refl _)] at al
    have := hd H sm
    rw [al] at this
    exact .inl ⟨Nat.le_refl _, this⟩
theorem gw_sign {l : List Nat} (test : Nat → Bool) (hw : ∀ x, wipe ((wipe σ vs).set j (some x)) vs = wipe σ vs)
    (item : ∀ (i c : Nat) (H : Hp) (R : VK), l[i]? = some c → Same H1 H → (∀ H', Same H H' → R (.bl (test c)) H') → te ((wipe σ vs).set j (some (T [c]))) H R) (hd : ∀ H', Same H1 H' → Q (.bl (l.all test)) H') :
    ∃ W : Nat → Nat → Hp → Prop, (∃ m, W 0 m H1) ∧ GWalk (Its (mkS l)) (gName j) tYes te vs σ (takeAll Q) (Q (.bl true)) W := by
  have sz : (mkS l).cps.size = l.length := by simp [mkS]
  refine ⟨fun i m H => m = l.length - i ∧ i ≤ l.length ∧ Same H1 H ∧ (l.take i).all test = true, ⟨l.length, rfl, Nat.zero_le _, Same.refl _, rfl⟩, ?_⟩
  rintro i m H ⟨rfl, hi, sm, al⟩
  by_cases lt : i < l.length
  · refine .inr ⟨by show i < (mkS l).cps.size; omega, fun H' => Same H1 H' ∧ (l.take (i + 1)).all test = true, fun H' p => ⟨l.length - (i + 1), by omega, rfl, lt, p.1, p.2⟩, fun x H' yl => ?_⟩
    obtain ⟨rfl, c, hc, rfl⟩ := yl
    have gc : l[i]? = some c := by
      have : (mkS l).cps[i]? = l[i]? := by simp [mkS]
      rw [← this]
      exact hc
    refine ⟨hw _, ?_⟩
    unfold tYes
    dsimp only
    rw [if_pos rfl]
    refine item i c _ _ gc sm fun H2 s2 => ⟨test c, rfl, fun k => ⟨sm.trans s2, by rw [take_all test gc, al, k]; rfl⟩, fun k => ?_⟩
    have := hd H2 (sm.trans s2)
    rw [all_false test gc k] at this
    exact this
  · have e : i = l.length := by omega
    subst e
    rw [List.take_length] at al
    have := hd H sm
    rw [al] at this
    exact .inl ⟨by show (mkS l).cps.size ≤ _; omega, this⟩
/-- tuple(.. for i in range ..) -/
theorem gwT_rng {lo : Int} {n : Nat} (f : Nat → V) (hz : n ≤ sizeLine) (hw : ∀ x, wipe ((wipe σ vs).set j (some x)) vs = wipe σ vs)
    (item : ∀ (i : Nat) (H : Hp) (R : VK), i < n → Same H1 H → (∀ H', Same H H' → R (f i) H') → te ((wipe σ vs).set j (some (.int (lo + (i : Nat))))) H R) (hd : ∀ H', Same H1 H' → ∀ p, H' p = none → Q (.ref p) (upd H' p (.tup ((List.range n).map f)))) :
    ∃ W : Nat → Nat → List V → Hp → Prop, (∃ m, W 0 m [] H1) ∧ GWalkT (Itr lo n) (gName j) tYes te vs σ (fun ys H' => ys.length ≤ sizeLine ∧ ∀ p, H' p = none → Q (.ref p) (upd H' p (.tup ys))) W := by
  refine ⟨fun i m ys H => m = n - i ∧ i ≤ n ∧ Same H1 H ∧ ys = (List.range i).map f, ⟨n, rfl, Nat.zero_le _, Same.refl _, rfl⟩, ?_⟩
  rintro i m ys H ⟨rfl, hi, sm, rfl⟩
  by_cases lt : i < n
  · refine .inr ⟨lt, fun ys' H' => Same H1 H' ∧ ys' = (List.range (i + 1)).map f, fun ys' H' p => ⟨n - (i + 1), by omega, rfl, lt, p.1, p.2⟩, fun x H' y => ?_⟩
    obtain ⟨e, rfl⟩ := y
    subst e
    refine ⟨hw _, ?_⟩
    unfold tYes
    dsimp only
    rw [if_pos rfl]
    refine item i _ _ lt sm fun H2 s2 => ⟨by rw [List.length_map, List.length_range]; omega, sm.trans s2, ?_⟩
    rw [List.range_succ, List.map_append]
    rfl
  · have e : i = n := by omega
    subst e
    exact .inl ⟨Nat.le_refl _, by rw [List.length_map, List.length_range]; exact hz, hd H sm⟩
end
/-- a loop over zip of two lists, turn by turn -/
theorem for_zipI {K : PySem.W.Frag} {a b : Addr} {xs ys : List V} {g : TG} {tb : TS} {D : Ends} {σ : L2.St} {H : Hp} (Pv : Nat → L2.St → Hp → Prop) (h0 : Pv 0 σ H) (hq : ∀ i σ H, Pv i σ H → SqL K H a xs ∧ SqL K H b ys)
    (hs : ∀ (i : Nat) (x y : V) (T : Addr) (σ : L2.St) (H : Hp), xs[i]? = some x → ys[i]? = some y → Pv i σ H → H T = none → g (.ref T) σ (upd H T (.tup [x, y])) fun σ2 H2 => tb { D with nx := Pv (i + 1), ct := Pv (i + 1), bk := D.nx } σ2 H2) (hd : ∀ i σ H, (xs.length ≤ i ∨ ys.length ≤ i) → Pv i σ H → D.nx σ H) :
    ∃ W : Nat → Nat → L2.St → Hp → Prop, (∃ m, W 0 m σ H) ∧ ∀ i m σ H, W i m σ H →
      ((Itz K a b).stop i H ∧ D.nx σ H) ∨ ((Itz K a b).go i H ∧ ∃ N : L2.St → Hp → Prop, (∀ σ' H', N σ' H' → ∃ m', m' < m ∧ W (i + 1) m' σ' H') ∧ ∀ v H', (Itz K a b).yld i H v H' → g v σ H' fun σ2 H2 => tb { D with nx := N, ct := N, bk := D.nx } σ2 H2) := by
  refine ⟨fun i m σ H => m = xs.length - i ∧ Pv i σ H, ⟨xs.length, rfl, h0⟩, ?_⟩
  rintro i m σ H ⟨rfl, p⟩
  obtain ⟨qx, qy⟩ := hq i σ H p
  by_cases hlt : i < xs.length ∧ i < ys.length
  · have hx : xs[i]? = some xs[i] := List.getElem?_eq_getElem hlt.1
    have hy : ys[i]? = some ys[i] := List.getElem?_eq_getElem hlt.2
    refine .inr ⟨⟨xs, ys, _, _, qx, qy, hx, hy⟩, Pv (i + 1), fun σ' H' p' => ⟨xs.length - (i + 1), by omega, rfl, p'⟩, fun v H' y => ?_⟩
    obtain ⟨T, x', y', rfl, hT, rfl, f1, f2⟩ := y
    exact hs i x' y' T σ H (f1 xs qx) (f2 ys qy) p hT
  · refine .inl ⟨⟨xs, ys, qx, qy, by omega⟩, hd i σ H (by omega) p⟩
section
variable {X : Cx}
theorem pe_globS {x : Str} {z : Str} {pos : Pos} (hg : Gl X x) (h : ∃ t, X.mg x = some (.str z t)) (hd : (x == ("__debug__" : Str)) = false := by decide) : PE X (.Name x pos) (tC (.str z)) := by
  obtain ⟨t, e⟩ := h
  exact pe_glob hg e ⟨t, rfl⟩ hd
/-- a def of the module as a value -/
def tDefV (mg : Str → Option Value) (x : Str) : TE := fun _ H Q => ∀ f, mg x = some (.ref f) → Q (.ref f) H
theorem pe_defV {x : Str} {k : Nat} {ps : List Str} {sp : Sp} {pos : Pos} (C : Cal X.prog X.w X.K X.mg X.base x k ps sp) (hg : Gl X x := by rfl) (hd : (x == ("__debug__" : Str)) = false := by decide) : PE X (.Name x pos) (tDefV X.mg x) := by
  obtain ⟨f, fd, F, m, kp, b⟩ := C.ex
  exact PEweak (pe_glob (v := .ref f) hg m rfl hd) fun σ H Q q => q f m
end
end Fc

namespace Fc
open PySem PySem.Spec L2 PyProof.Rows
variable [LamNames]
/-! ### things that are not too large -/
mutual
def fineB : PyData → Bool
  | .none | .bool _ | .int _ => true
  | .str x => PyData.canLay0 (.str x) && decide (x.length ≤ 2000)
  | .list ds => decide (ds.length ≤ 5000) && fineAll ds
  | .tuple ds => decide (ds.length ≤ 5000) && fineAll ds
  | .dict _ => false
def fineAll : List PyData → Bool
  | [] => true
  | d :: r => fineB d && fineAll r
end
mutual
theorem fine_lay : ∀ {d : PyData}, fineB d = true → PyData.canLay0 d = true
  | .none, _ => by simp [PyData.canLay0]
  | .bool _, _ => by simp [PyData.canLay0]
  | .int _, _ => by simp [PyData.canLay0]
  | .str x, h => by
    rw [fineB, Bool.and_eq_true] at h
    exact h.1
  | .list ds, h => by
    rw [fineB, Bool.and_eq_true] at h
    rw [PyData.canLay0]
    exact fine_layAll h.2
  | .tuple ds, h => by
    rw [fineB, Bool.and_eq_true] at h
    rw [PyData.canLay0]
    exact fine_layAll h.2
  | .dict _, h => by simp [fineB] at h
theorem fine_layAll : ∀ {ds : List PyData}, fineAll ds = true → PyData.canLayAll0 ds = true
  | [], _ => by simp [PyData.canLayAll0]
  | d :: r, h => by
    rw [fineAll, Bool.and_eq_true] at h
    rw [PyData.canLayAll0, fine_lay h.1, fine_layAll h.2]
    rfl
end
def Fine (n : Nat) (d : PyData) : Prop := fineB d = true ∧ d.depth ≤ n
theorem Fine.shaped {n : Nat} {d : PyData} (h : Fine n d) (hn : n ≤ 20 := by decide) : SeqAt.shaped d = true := by
  unfold SeqAt.shaped
  rw [fine_lay h.1, decide_eq_true (Nat.le_trans h.2 (by omega))]
  rfl
theorem Fine.mono {n m : Nat} {d : PyData} (h : Fine n d) (hn : n ≤ m) : Fine m d := ⟨h.1, Nat.le_trans h.2 hn⟩
theorem fineAll_get : ∀ {ds : List PyData} {i : Nat} {d : PyData}, fineAll ds = true → ds[i]? = some d → fineB d = true
  | [], _, _, _, h => by cases h
  | x :: r, 0, d, h, e => by
    rw [fineAll, Bool.and_eq_true] at h
    cases e
    exact h.1
  | x :: r, i + 1, d, h, e => by
    rw [fineAll, Bool.and_eq_true] at h
    exact fineAll_get h.2 e
theorem Fine.get {n : Nat} {ds : List PyData} {i : Nat} {d : PyData} (h : Fine (n + 1) (.tuple ds)) (e : ds[i]? = some d) : Fine n d := by
  obtain ⟨h1, h2⟩ := h
  rw [fineB, Bool.and_eq_true] at h1
  rw [PyData.depth] at h2
  exact ⟨fineAll_get h1.2 e, Nat.le_trans (depth_get e) (by omega)⟩
theorem Fine.getL {n : Nat} {ds : List PyData} {i : Nat} {d : PyData} (h : Fine (n + 1) (.list ds)) (e : ds[i]? = some d) : Fine n d := by
  obtain ⟨h1, h2⟩ := h
  rw [fineB, Bool.and_eq_true] at h1
  rw [PyData.depth] at h2
  exact ⟨fineAll_get h1.2 e, Nat.le_trans (depth_get e) (by omega)⟩
theorem Fine.few {n : Nat} {ds : List PyData} (h : Fine n (.tuple ds)) : ds.length ≤ 5000 := by
  have h1 := h.1
  rw [fineB, Bool.and_eq_true] at h1
  exact of_decide_eq_true h1.1
theorem Fine.fewL {n : Nat} {ds : List PyData} (h : Fine n (.list ds)) : ds.length ≤ 5000 := by
  have h1 := h.1
  rw [fineB, Bool.and_eq_true] at h1
  exact of_decide_eq_true h1.1
theorem Fine.len {n : Nat} {x : Str} (h : Fine n (.str x)) : (TL.tl x).length ≤ 2000 := by
  have h1 := h.1
  rw [fineB, Bool.and_eq_true] at h1
  have := of_decide_eq_true h1.2
  rw [← TL.len_tl]
  exact this
theorem fineAll_of : ∀ {ds : List PyData}, (∀ d ∈ ds, fineB d = true) → fineAll ds = true
  | [], _ => rfl
  | d :: r, h => by
    rw [fineAll, h d (by simp), fineAll_of fun x hx => h x (List.mem_cons_of_mem _ hx)]
    rfl
theorem depthAll_of {n : Nat} : ∀ {ds : List PyData}, (∀ d ∈ ds, d.depth ≤ n) → PyData.depthAll ds ≤ n
  | [], _ => by rw [PyData.depthAll]; omega
  | d :: r, h => by
    rw [PyData.depthAll]
    exact Nat.max_le.mpr ⟨h d (by simp), depthAll_of fun x hx => h x (List.mem_cons_of_mem _ hx)⟩
theorem Fine.tup {n : Nat} {ds : List PyData} (few : ds.length ≤ 5000) (h : ∀ d ∈ ds, Fine n d) : Fine (n + 1) (.tuple ds) := by
  refine ⟨?_, ?_⟩
  · rw [fineB, decide_eq_true few, fineAll_of fun d hd => (h d hd).1]
    rfl
  · rw [PyData.depth]
    have := depthAll_of fun d hd => (h d hd).2
    omega
theorem Fine.lst {n : Nat} {ds : List PyData} (few : ds.length ≤ 5000) (h : ∀ d ∈ ds, Fine n d) : Fine (n + 1) (.list ds) := by
  refine ⟨?_, ?_⟩
  · rw [fineB, decide_eq_true few, fineAll_of fun d hd => (h d hd).1]
    rfl
  · rw [PyData.depth]
    have := depthAll_of fun d hd => (h d hd).2
    omega
/-! ### rows and entries, told by data -/
def RowT (l : List Nat) : Prop := (splitC 47 l).length ≤ 8 ∧ ∀ p ∈ splitC 47 l, partOk p
instance (l : List Nat) : Decidable (RowT l) := by
  unfold RowT
  infer_instance
def goalPart (p : List Nat) : Prop := p = [46, 46] ∨ partOk p
instance (p : List Nat) : Decidable (goalPart p) := by
  unfold goalPart
  infer_instance
def RowG (l : List Nat) : Prop := (splitC 47 l).length ≤ 8 ∧ ∀ p ∈ splitC 47 l, goalPart p
instance (l : List Nat) : Decidable (RowG l) := by
  unfold RowG
  infer_instance
def short : PyData → Prop
  | .str x => (TL.tl x).length ≤ 20000
  | _ => True
theorem Fine.shortD {n : Nat} {d : PyData} (h : Fine n d) : short d := by
  cases d with
  | str x =>
    have := h.len
    show _ ≤ 20000
    omega
  | _ => trivial
def pathB : PyData → Bool
  | .str x => decide (RowT (TL.tl x))
  | _ => false
def goalB : PyData → Bool
  | .str x => decide (RowG (TL.tl x))
  | _ => false
def bytesB : PyData → Bool
  | .tuple ds => ds.all byteB
  | _ => false
theorem td_tl (x : Str) : td (TL.tl x) = .str x := congrArg PyData.str (mkS_tl x)
theorem pathB_iff {d : PyData} : pathB d = true ↔ ∃ t, d = td t ∧ PathT t := by
  constructor
  · intro h
    cases d with
    | str x =>
      have r : RowT (TL.tl x) := of_decide_eq_true h
      exact ⟨TL.tl x, (td_tl x).symm, splitC_ne _ _, r.1, r.2⟩
    | _ => cases h
  · rintro ⟨t, rfl, p⟩
    exact decide_eq_true (show RowT t from ⟨p.2.1, p.2.2⟩)
theorem goalB_iff {d : PyData} : goalB d = true ↔ ∃ g, d = td g ∧ GoalT g := by
  constructor
  · intro h
    cases d with
    | str x =>
      have r : RowG (TL.tl x) := of_decide_eq_true h
      exact ⟨TL.tl x, (td_tl x).symm, r.1, r.2⟩
    | _ => cases h
  · rintro ⟨t, rfl, p⟩
    exact decide_eq_true (show RowG t from ⟨p.1, p.2⟩)
theorem byt_rows : ∀ {ds : List PyData}, ds.all byteB = true → ∃ b : List Int, ds = b.map PyData.int ∧ Byt b
  | [], _ => ⟨[], rfl, fun x hx => by cases hx⟩
  | d :: r, h => by
    rw [List.all_cons, Bool.and_eq_true] at h
    obtain ⟨b, rfl, hb⟩ := byt_rows h.2
    cases d with
    | int i =>
      have hi : (decide (0 ≤ i) && decide (i ≤ 255)) = true := h.1
      rw [Bool.and_eq_true, decide_eq_true_eq, decide_eq_true_eq] at hi
      refine ⟨i :: b, rfl, fun x hx => ?_⟩
      rcases List.mem_cons.mp hx with rfl | hx
      · omega
      · exact hb x hx
    | _ => exact absurd h.1 (by simp [byteB])
theorem byt_all {b : List Int} (h : Byt b) : (b.map PyData.int).all byteB = true := by
  rw [List.all_map, List.all_eq_true]
  intro x hx
  have := h x hx
  show (decide (0 ≤ x) && decide (x ≤ 255)) = true
  rw [decide_eq_true this.1, decide_eq_true (show x ≤ 255 by omega)]
  rfl
theorem bodyB_iff {d : PyData} : bodyB d = true ↔ ∃ b, d = dInts b ∧ Byt b ∧ b.length ≤ 1000 := by
  constructor
  · intro h
    cases d with
    | tuple ds =>
      have h' : (decide (ds.length ≤ 1000) && ds.all byteB) = true := h
      rw [Bool.and_eq_true, decide_eq_true_eq] at h'
      obtain ⟨b, rfl, hb⟩ := byt_rows h'.2
      exact ⟨b, rfl, hb, by have := h'.1; rwa [List.length_map] at this⟩
    | _ => cases h
  · rintro ⟨b, rfl, hb, l⟩
    show (decide ((b.map PyData.int).length ≤ 1000) && (b.map PyData.int).all byteB) = true
    rw [byt_all hb, decide_eq_true (by rw [List.length_map]; exact l)]
    rfl
theorem eqv_sd {d : PyData} {x : String} : PyData.eqv d (sd x) = true ↔ d = sd x := by
  constructor
  · intro h
    cases d with
    | str y =>
      have h' : (y == Str.ofString x) = true := by simpa [PyData.eqv, sd] using h
      show PyData.str y = PyData.str _
      rw [eq_of_beq h']
    | _ => simp [PyData.eqv, sd] at h
  · rintro rfl
    simp [PyData.eqv, sd]
def EntD (d : PyData) : Prop := ∃ e, d = dEnt e ∧ EntOk e
theorem ent_words : sd "folder" ≠ sd "file" ∧ sd "folder" ≠ sd "link" ∧ sd "file" ≠ sd "link" := by
  refine ⟨fun k => ?_, fun k => ?_, fun k => ?_⟩ <;> exact absurd (PyData.str.inj k) (by decide +kernel)
theorem ent2 {a p : PyData} : EntD (.tuple [a, p]) ↔ pathB p = true ∧ a = sd "folder" := by
  rw [pathB_iff]
  constructor
  · rintro ⟨e, h, ok⟩
    cases e with
    | folder t => cases h; exact ⟨⟨t, rfl, ok⟩, rfl⟩
    | file t b => cases h
    | link t g => cases h
  · rintro ⟨⟨t, rfl, ok⟩, rfl⟩
    exact ⟨.folder t, rfl, ok⟩
theorem ent3 {a p x : PyData} : EntD (.tuple [a, p, x]) ↔ pathB p = true ∧ ((a = sd "file" ∧ bodyB x = true) ∨ (a = sd "link" ∧ goalB x = true)) := by
  rw [pathB_iff, bodyB_iff, goalB_iff]
  constructor
  · rintro ⟨e, h, ok⟩
    cases e with
    | folder t => cases h
    | file t b => cases h; exact ⟨⟨t, rfl, ok.1⟩, .inl ⟨rfl, b, rfl, ok.2.1, ok.2.2⟩⟩
    | link t g => cases h; exact ⟨⟨t, rfl, ok.1⟩, .inr ⟨rfl, g, rfl, ok.2⟩⟩
  · rintro ⟨⟨t, rfl, ok⟩, ⟨rfl, b, rfl, hb⟩ | ⟨rfl, g, rfl, hg⟩⟩
    · exact ⟨.file t b, rfl, ok, hb⟩
    · exact ⟨.link t g, rfl, ok, hg⟩
theorem ent_few {ds : List PyData} (h : ds.length < 2 ∨ 3 < ds.length) : ¬ EntD (.tuple ds) := by
  rintro ⟨e, k, _⟩
  cases e <;> (cases k; simp at h)
theorem ent_no {d : PyData} (h : isTup d = false) : ¬ EntD d := by
  rintro ⟨e, rfl, _⟩
  cases e <;> cases h
/-! ### trees, told by data -/
def pathAt (es : List Ent) (k : Nat) : List Nat := (es[k]?.map Ent.path).getD []
def riseB (es : List Ent) : Bool := (List.range (es.length - 1)).all fun k => decide (pathAt es k < pathAt es (k + 1))
def hasF (es : List Ent) (a : List Nat) : Bool := es.any fun x => x.isFolder && decide (x.path = a)
def foldB (es : List Ent) : Bool := es.all fun e => (aboveT e.path).all fun a => hasF es a
def areB (es : List Ent) : Bool := decide (es.length ≤ 100) && (riseB es && foldB es)
def TreeD (d : PyData) : Prop := ∃ es, d = dTree es ∧ (∀ e ∈ es, EntOk e) ∧ areB es = true
theorem dEnt_inj : ∀ {a b : Ent}, dEnt a = dEnt b → a = b := by
  have nts : ∀ {x y : List Int}, x.map PyData.int = y.map PyData.int → x = y := fun {x y} h => (List.map_inj_right fun a b k => PyData.int.inj k).mp h
  have tds : ∀ {x y : List Nat}, td x = td y → x = y := fun {x y} h => mkS_inj (PyData.str.inj h)
  intro a b h
  cases a with
  | folder t =>
    cases b with
    | folder u =>
      have h' := PyData.tuple.inj h
      simp only [List.cons.injEq, and_true, true_and] at h'
      rw [tds h']
    | file u b => simp [dEnt] at h
    | link u g => simp [dEnt] at h
  | file t x =>
    cases b with
    | folder u => simp [dEnt] at h
    | file u y =>
      have h' := PyData.tuple.inj h
      simp only [List.cons.injEq, and_true, true_and] at h'
      rw [tds h'.1, nts (PyData.tuple.inj h'.2)]
    | link u g =>
      have h' := PyData.tuple.inj h
      simp only [List.cons.injEq] at h'
      exact absurd h'.1 ent_words.2.2
  | link t x =>
    cases b with
    | folder u => simp [dEnt] at h
    | file u y =>
      have h' := PyData.tuple.inj h
      simp only [List.cons.injEq] at h'
      exact absurd h'.1.symm ent_words.2.2
    | link u y =>
      have h' := PyData.tuple.inj h
      simp only [List.cons.injEq, and_true, true_and] at h'
      rw [tds h'.1, tds h'.2]
theorem ents_of : ∀ {ds : List PyData}, (∀ d ∈ ds, EntD d) → ∃ es : List Ent, ds = es.map dEnt ∧ ∀ e ∈ es, EntOk e
  | [], _ => ⟨[], rfl, fun e h => by cases h⟩
  | d :: r, h => by
    obtain ⟨e, rfl, ok⟩ := h d (by simp)
    obtain ⟨es, rfl, oks⟩ := ents_of fun x hx => h x (List.mem_cons_of_mem _ hx)
    refine ⟨e :: es, rfl, fun x hx => ?_⟩
    rcases List.mem_cons.mp hx with rfl | hx
    · exact ok
    · exact oks x hx
theorem tree_iff {es : List Ent} (h : ∀ e ∈ es, EntOk e) : TreeD (dTree es) ↔ areB es = true := by
  constructor
  · rintro ⟨fs, k, _, a⟩
    have e : fs = es := (List.map_inj_right fun a b k => dEnt_inj k).mp (PyData.tuple.inj k).symm
    rw [← e]
    exact a
  · exact fun a => ⟨es, rfl, h, a⟩
theorem tree_ents {ds : List PyData} (h : TreeD (.tuple ds)) : ∀ d ∈ ds, EntD d := by
  obtain ⟨es, k, ok, _⟩ := h
  have k' := PyData.tuple.inj k
  subst k'
  intro d hd
  obtain ⟨e, he, rfl⟩ := List.mem_map.mp hd
  exact ⟨e, rfl, ok e he⟩
theorem tree_no {d : PyData} (h : isTup d = false) : ¬ TreeD d := by
  rintro ⟨es, rfl, _⟩
  cases h
/-! ### all(.. for x in a tuple), by places -/
section
open GxR
variable {j : Nat} {te : TE} {vs : List Nat} {σ : L2.St} {H1 : Hp} {Q : VK}
theorem gw_tupN {K : PySem.W.Frag} {a : Addr} {xs : List V} (test : Nat → Bool) (hs : SqT K H1 a xs) (hw : ∀ x, wipe ((wipe σ vs).set j (some x)) vs = wipe σ vs)
    (item : ∀ (i : Nat) (x : V) (H : Hp) (R : VK), xs[i]? = some x → Same H1 H → (∀ H', Same H H' → R (.bl (test i)) H') → te ((wipe σ vs).set j (some x)) H R) (hd : ∀ H', Same H1 H' → Q (.bl ((List.range xs.length).all test)) H') :
    ∃ W : Nat → Nat → Hp → Prop, (∃ m, W 0 m H1) ∧ GWalk (Itt K a) (gName j) tYes te vs σ (takeAll Q) (Q (.bl true)) W := by
  refine ⟨fun i m H => m = xs.length - i ∧ i ≤ xs.length ∧ Same H1 H ∧ ((List.range xs.length).take i).all test = true, ⟨xs.length, rfl, Nat.zero_le _, Same.refl _, rfl⟩, ?_⟩
  rintro i m H ⟨rfl, hi, sm, al⟩
  have q := keepT sm hs
  by_cases lt : i < xs.length
  · refine .inr ⟨⟨xs, xs[i], q, by simp [lt]⟩, fun H' => Same H1 H' ∧ ((List.range xs.length).take (i + 1)).all test = true, fun H' p => ⟨xs.length - (i + 1), by omega, rfl, lt, p.1, p.2⟩, fun x H' y => ?_⟩
    obtain ⟨e, y⟩ := y
    subst e
    have hx : (List.range xs.length)[i]? = some i := List.getElem?_range lt
    refine ⟨hw x, ?_⟩
    unfold tYes
    dsimp only
    rw [if_pos rfl]
    refine item i x _ _ (y xs q) sm fun H2 s2 => ⟨test i, rfl, fun k => ⟨sm.trans s2, by rw [take_all test hx, al, k]; rfl⟩, fun k => ?_⟩
    have := hd H2 (sm.trans s2)
    rw [all_false test hx k] at this
    exact this
  · have e : i = xs.length := by omega
    subst e
    rw [List.take_of_length_le (by rw [List.length_range]; exact Nat.le_refl _)] at al
    have := hd H sm
    rw [al] at this
    exact .inl ⟨⟨xs, q, Nat.le_refl _⟩, this⟩
end
end Fc

namespace Fc
open PySem PySem.Spec L2 PyProof.Rows
variable [LamNames]
/-! ### folders as trees: what is below a path, and what is put there -/
def Ent.re : Ent → List Nat → Ent
  | .folder _, t => .folder t
  | .file _ b, t => .file t b
  | .link _ g, t => .link t g
theorem re_path (e : Ent) (t : List Nat) : (e.re t).path = t := by cases e <;> rfl
theorem re_re (e : Ent) (t u : List Nat) : (e.re t).re u = e.re u := by cases e <;> rfl
theorem re_self (e : Ent) : e.re e.path = e := by cases e <;> rfl
theorem re_fol (e : Ent) (t : List Nat) : (e.re t).isFolder = e.isFolder := by cases e <;> rfl
theorem EntOk.re {e : Ent} (h : EntOk e) {t : List Nat} (p : PathT t) : EntOk (e.re t) := by
  cases e with
  | folder _ => exact p
  | file _ _ => exact ⟨p, h.2⟩
  | link _ _ => exact ⟨p, h.2⟩
def belowB (p q : List Nat) : Bool := (p ++ [47]).isPrefixOf q
theorem below_iff {p q : List Nat} : belowB p q = true ↔ ∃ r, q = p ++ 47 :: r := by
  unfold belowB
  rw [List.isPrefixOf_iff_prefix]
  constructor
  · rintro ⟨r, rfl⟩
    exact ⟨r, by simp⟩
  · rintro ⟨r, rfl⟩
    exact ⟨r, by simp⟩
theorem joinC_cons2 (c : Nat) (a : List Nat) {bs : List (List Nat)} (h : bs ≠ []) : joinC c (a :: bs) = a ++ c :: joinC c bs := by
  cases bs with
  | nil => exact absurd rfl h
  | cons b bs => rfl
theorem joinC_app (c : Nat) : ∀ {as bs : List (List Nat)}, as ≠ [] → bs ≠ [] → joinC c (as ++ bs) = joinC c as ++ c :: joinC c bs
  | [], _, h, _ => absurd rfl h
  | [a], bs, _, hb => by
    show joinC c (a :: bs) = _
    rw [joinC_cons2 c a hb]
    rfl
  | a :: b :: as, bs, _, hb => by
    show joinC c (a :: (b :: as ++ bs)) = _
    rw [joinC_cons2 c a (by simp), joinC_app c (as := b :: as) (by simp) hb, joinC_cons2 c a (bs := b :: as) (by simp)]
    simp
theorem above_iff {p q : List Nat} : p ∈ aboveT q ↔ ∃ r, q = p ++ 47 :: r := by
  unfold aboveT
  constructor
  · intro h
    obtain ⟨k, hk, rfl⟩ := aboveF_mem h
    refine ⟨joinC 47 ((splitC 47 q).drop (k + 1)), ?_⟩
    unfold pathOf
    rw [← joinC_app 47 (by intro z; have := congrArg List.length z; rw [List.length_take, List.length_nil] at this; omega) (by intro z; have := congrArg List.length z; rw [List.length_drop, List.length_nil] at this; omega), List.take_append_drop, join_split]
  · rintro ⟨r, rfl⟩
    unfold aboveF
    have l1 : 0 < (splitC 47 p).length := List.length_pos_iff.mpr (splitC_ne 47 p)
    have l2 : 0 < (splitC 47 r).length := List.length_pos_iff.mpr (splitC_ne 47 r)
    rw [List.mem_map]
    refine ⟨(splitC 47 p).length - 1, ?_, ?_⟩
    · rw [List.mem_range, splitC_app, List.length_append]
      omega
    · rw [splitC_app, show (splitC 47 p).length - 1 + 1 = (splitC 47 p).length by omega, List.take_left']
      · exact join_split 47 p
      · rfl
theorem below_above (p q : List Nat) : belowB p q = true ↔ p ∈ aboveT q := below_iff.trans above_iff.symm
theorem app_lt (l : List Nat) {a b : List Nat} : l ++ a < l ++ b ↔ a < b := by
  induction l with
  | nil => exact Iff.rfl
  | cons x l ih =>
    rw [List.cons_append, List.cons_append, List.cons_lt_cons_iff]
    constructor
    · rintro (h | ⟨_, h⟩)
      · exact absurd h (Nat.lt_irrefl _)
      · exact ih.mp h
    · exact fun h => .inr ⟨rfl, ih.mpr h⟩
def underE (es : List Ent) (p : List Nat) : List Ent := (es.filter fun e => belowB p e.path).map fun e => e.re (e.path.drop (p.length + 1))
def keptE (es : List Ent) (p : List Nat) : List Ent := es.filter fun e => !belowB p e.path
def comeE (part : List Ent) (p : List Nat) : List Ent := part.map fun e => e.re (p ++ 47 :: e.path)
def tooB (part : List Ent) (p : List Nat) : Bool := part.any fun e => decide (8 < (splitC 47 (p ++ 47 :: e.path)).length)
def sortE (es : List Ent) : List Ent := es.mergeSort fun a b => decide (a.path ≤ b.path)
theorem drop_below (p r : List Nat) : (p ++ 47 :: r).drop (p.length + 1) = r := by
  rw [show p ++ 47 :: r = (p ++ [47]) ++ r by simp, List.drop_left']
  simp
theorem path_app {p r : List Nat} : PathT (p ++ 47 :: r) ↔ (∀ x ∈ splitC 47 p, partOk x) ∧ (∀ x ∈ splitC 47 r, partOk x) ∧ (splitC 47 p).length + (splitC 47 r).length ≤ 8 := by
  unfold PathT PathOk
  rw [splitC_app, List.length_append]
  constructor
  · rintro ⟨_, h2, h3⟩
    exact ⟨fun x hx => h3 x (List.mem_append_left _ hx), fun x hx => h3 x (List.mem_append_right _ hx), h2⟩
  · rintro ⟨h1, h2, h3⟩
    refine ⟨fun z => splitC_ne 47 p (List.append_eq_nil_iff.mp z).1, h3, fun x hx => ?_⟩
    rcases List.mem_append.mp hx with h | h
    · exact h1 x h
    · exact h2 x h
theorem path_right {p r : List Nat} (h : PathT (p ++ 47 :: r)) : PathT r := by
  obtain ⟨_, h2, h3⟩ := path_app.mp h
  exact ⟨splitC_ne 47 r, by omega, h2⟩
/-- rising rows: one for each set -/
abbrev RiseE (es : List Ent) : Prop := es.Pairwise fun a b => a.path < b.path
theorem RiseE.nod {es : List Ent} (h : RiseE es) : Nod es := by
  rw [Nod, List.nodup_iff_pairwise_ne, List.pairwise_map]
  exact h.imp fun {a b} (k : a.path < b.path) (z : a.path = b.path) => List.lt_irrefl b.path (by rw [z] at k; exact k)
theorem rise_uniq : ∀ {a b : List Ent}, RiseE a → RiseE b → a.Perm b → a = b
  | [], b, _, _, p => (List.Perm.nil_eq p)
  | x :: a, [], _, _, p => absurd p.length_eq (by simp)
  | x :: a, y :: b, ha, hb, p => by
    have e : x = y := by
      have hx : x ∈ y :: b := p.mem_iff.mp (List.mem_cons_self ..)
      have hy : y ∈ x :: a := p.mem_iff.mpr (List.mem_cons_self ..)
      rcases List.mem_cons.mp hx with h | h
      · exact h
      · rcases List.mem_cons.mp hy with k | k
        · exact k.symm
        · have h1 := (List.pairwise_cons.mp hb).1 x h
          have h2 := (List.pairwise_cons.mp ha).1 y k
          exact absurd (List.lt_trans h1 h2) (List.lt_irrefl _)
    subst e
    rw [rise_uniq (List.pairwise_cons.mp ha).2 (List.pairwise_cons.mp hb).2 (List.Perm.cons_inv p)]
theorem sortE_perm (es : List Ent) : (sortE es).Perm es := List.mergeSort_perm es _
theorem sortE_rise {es : List Ent} (h : Nod es) : RiseE (sortE es) := by
  have nd : Nod (sortE es) := ((sortE_perm es).map Ent.path).nodup_iff.mpr h
  have pw : (sortE es).Pairwise fun a b => decide (a.path ≤ b.path) = true := List.pairwise_mergeSort (le := fun a b : Ent => decide (a.path ≤ b.path)) (fun a b c h1 h2 => decide_eq_true (List.le_trans (of_decide_eq_true h1) (of_decide_eq_true h2))) (fun a b => by
    rcases List.le_total a.path b.path with h | h
    · rw [decide_eq_true h, Bool.true_or]
    · rw [decide_eq_true h, Bool.or_true]) es
  rw [Nod, List.nodup_iff_pairwise_ne, List.pairwise_map] at nd
  exact (pw.and nd).imp fun {a b} (k : decide (a.path ≤ b.path) = true ∧ a.path ≠ b.path) => by
    by_cases h : a.path < b.path
    · exact h
    · exact absurd (List.le_antisymm (of_decide_eq_true k.1) (List.not_lt.mp h)) k.2
theorem sortE_of {es fs : List Ent} (h : Nod es) (r : RiseE fs) (p : fs.Perm es) : fs = sortE es := rise_uniq r (sortE_rise h) (p.trans (sortE_perm es).symm)
/-! what is below is a tree -/
theorem belowE {es : List Ent} {p : List Nat} {e : Ent} : e ∈ es.filter (fun e => belowB p e.path) ↔ e ∈ es ∧ ∃ r, e.path = p ++ 47 :: r := by
  rw [List.mem_filter]
  exact and_congr Iff.rfl below_iff
theorem under_mem {es : List Ent} {p : List Nat} {x : Ent} : x ∈ underE es p ↔ x.re (p ++ 47 :: x.path) ∈ es := by
  unfold underE
  rw [List.mem_map]
  constructor
  · rintro ⟨e, he, rfl⟩
    obtain ⟨h1, r, hr⟩ := belowE.mp he
    rw [re_path, re_re, hr, drop_below, ← hr, re_self]
    exact h1
  · intro h
    refine ⟨x.re (p ++ 47 :: x.path), belowE.mpr ⟨h, x.path, re_path _ _⟩, ?_⟩
    rw [re_path, re_re, drop_below, re_self]
theorem under_ok {es : List Ent} {p : List Nat} (h : TreeOk es) : TreeOk (underE es p) := by
  refine ⟨fun x hx => ?_, ?_, fun x hx a ha => ?_, ?_⟩
  · have h1 := h.ok _ (under_mem.mp hx)
    have h2 := h1.path
    rw [re_path] at h2
    have := h1.re (path_right h2)
    rw [re_re, re_self] at this
    exact this
  · unfold underE
    rw [List.pairwise_map]
    have h1 : (es.filter fun e => belowB p e.path).Pairwise fun a b => a.path < b.path := h.rise.filter _
    refine List.Pairwise.imp_of_mem (fun {a b} ha hb k => ?_) h1
    obtain ⟨_, ra, ea⟩ := belowE.mp ha
    obtain ⟨_, rb, eb⟩ := belowE.mp hb
    rw [re_path, re_path, ea, eb, drop_below, drop_below]
    rw [ea, eb, app_lt, List.cons_lt_cons_iff] at k
    rcases k with k | k
    · exact absurd k (Nat.lt_irrefl _)
    · exact k.2
  · refine under_mem.mpr ?_
    obtain ⟨r, hr⟩ := above_iff.mp ha
    refine h.up _ (under_mem.mp hx) (p ++ 47 :: a) (above_iff.mpr ⟨r, ?_⟩)
    rw [re_path, hr]
    simp
  · unfold underE
    rw [List.length_map]
    exact Nat.le_trans (List.length_filter_le _ _) h.few
theorem come_under (es : List Ent) (p : List Nat) : comeE (underE es p) p = es.filter fun e => belowB p e.path := by
  unfold comeE underE
  rw [List.map_map]
  refine (List.map_congr_left fun e he => ?_).trans (List.map_id _)
  obtain ⟨_, r, hr⟩ := belowE.mp he
  show (e.re _).re (p ++ 47 :: (e.re _).path) = e
  rw [re_path, re_re, hr, drop_below, ← hr, re_self]
theorem put_back {es : List Ent} {p : List Nat} (h : TreeOk es) : sortE (keptE es p ++ comeE (underE es p) p) = es := by
  have pm : (keptE es p ++ comeE (underE es p) p).Perm es := by
    rw [come_under]
    unfold keptE
    exact (List.perm_append_comm).trans (List.filter_append_perm (fun e => belowB p e.path) es)
  exact (sortE_of ((pm.map Ent.path).nodup_iff.mpr (RiseE.nod h.rise)) h.rise pm.symm).symm
theorem too_under {es : List Ent} {p : List Nat} (h : TreeOk es) : tooB (underE es p) p = false := by
  unfold tooB
  rw [List.any_eq_false]
  intro x hx z
  have h1 := (h.ok _ (under_mem.mp hx)).path
  rw [re_path] at h1
  have := of_decide_eq_true z
  have := h1.2.1
  omega
/-! what is put is a tree -/
theorem come_below (part : List Ent) (p : List Nat) {x : Ent} (h : x ∈ comeE part p) : ∃ e ∈ part, x = e.re (p ++ 47 :: e.path) := by
  obtain ⟨e, he, rfl⟩ := List.mem_map.mp h
  exact ⟨e, he, rfl⟩
theorem come_rise {part : List Ent} (p : List Nat) (h : RiseE part) : RiseE (comeE part p) := by
  unfold RiseE comeE
  rw [List.pairwise_map]
  refine h.imp fun {a b} k => ?_
  rw [re_path, re_path, app_lt, List.cons_lt_cons_iff]
  exact .inr ⟨rfl, k⟩
theorem put_nod {es part : List Ent} {p : List Nat} (h : RiseE es) (k : RiseE part) : Nod (keptE es p ++ comeE part p) := by
  rw [Nod, List.map_append, List.nodup_append]
  refine ⟨RiseE.nod (h.filter _), RiseE.nod (come_rise p k), fun a ha b hb e => ?_⟩
  obtain ⟨x, hx, rfl⟩ := List.mem_map.mp ha
  obtain ⟨y, hy, rfl⟩ := List.mem_map.mp hb
  obtain ⟨z, _, rfl⟩ := come_below part p hy
  rw [re_path] at e
  have := (List.mem_filter.mp hx).2
  rw [below_iff.mpr ⟨_, e⟩] at this
  cases this
theorem kept_mem {es : List Ent} {p : List Nat} {e : Ent} : e ∈ keptE es p ↔ e ∈ es ∧ ¬ ∃ r, e.path = p ++ 47 :: r := by
  unfold keptE
  rw [List.mem_filter]
  refine and_congr Iff.rfl ?_
  rw [← below_iff]
  cases belowB p e.path <;> simp
theorem put_ok {es part : List Ent} {p : List Nat} (h : TreeOk es) (k : TreeOk part) (f : Ent.folder p ∈ es) (t : tooB part p = false) (few : es.length + part.length ≤ 100) : TreeOk (sortE (keptE es p ++ comeE part p)) := by
  have mem : ∀ x, x ∈ sortE (keptE es p ++ comeE part p) ↔ x ∈ keptE es p ∨ x ∈ comeE part p := fun x => (sortE_perm _).mem_iff.trans List.mem_append
  have pp : PathT p := (h.ok _ f).path
  refine ⟨fun x hx => ?_, sortE_rise (put_nod h.rise k.rise), fun x hx a ha => ?_, ?_⟩
  · rcases (mem x).mp hx with hx | hx
    · exact h.ok x (kept_mem.mp hx).1
    · obtain ⟨e, he, rfl⟩ := come_below part p hx
      refine (k.ok e he).re (path_app.mpr ⟨pp.2.2, (k.ok e he).path.2.2, ?_⟩)
      have := List.any_eq_false.mp t e he
      rw [splitC_app, List.length_append] at this
      have n9 : ¬ 8 < (splitC 47 p).length + (splitC 47 e.path).length := fun z => this (decide_eq_true z)
      omega
  · obtain ⟨r, hr⟩ := above_iff.mp ha
    rw [mem]
    rcases (mem x).mp hx with hx | hx
    · obtain ⟨h1, h2⟩ := kept_mem.mp hx
      refine .inl (kept_mem.mpr ⟨h.up x h1 a ha, fun ⟨r2, z⟩ => h2 ⟨r2 ++ 47 :: r, ?_⟩⟩)
      rw [hr, show a = p ++ 47 :: r2 from z]
      simp
    · obtain ⟨e, he, rfl⟩ := come_below part p hx
      rw [re_path] at hr
      -- a / r = p / e.path
      have key : (a = p) ∨ (∃ s, p = a ++ 47 :: s) ∨ ∃ s, a = p ++ 47 :: s ∧ e.path = s ++ 47 :: r := by
        rcases List.append_eq_append_iff.mp hr with ⟨w, e1, e2⟩ | ⟨w, e1, e2⟩
        · -- a = p ++ w
          cases w with
          | nil => exact .inl (by rw [e1, List.append_nil])
          | cons c w =>
            rw [List.cons_append] at e2
            injection e2 with c1 c2
            subst c1
            exact .inr (.inr ⟨w, e1, c2⟩)
        · cases w with
          | nil => exact .inl (by rw [e1, List.append_nil])
          | cons c w =>
            rw [List.cons_append] at e2
            injection e2 with c1 c2
            subst c1
            exact .inr (.inl ⟨w, e1⟩)
      have lone : ∀ q s : List Nat, q = q ++ 47 :: s → False := fun q s z => by
        have := congrArg List.length z
        simp at this
      rcases key with rfl | ⟨s, hs⟩ | ⟨s, hs, hp⟩
      · exact .inl (kept_mem.mpr ⟨f, fun ⟨r2, z⟩ => lone a r2 z⟩)
      · refine .inl (kept_mem.mpr ⟨h.up _ f a (above_iff.mpr ⟨s, hs⟩), fun ⟨r2, z⟩ => ?_⟩)
        have z' : a = p ++ 47 :: r2 := z
        rw [hs] at z'
        have := congrArg List.length z'
        simp at this
      · refine .inr (List.mem_map.mpr ⟨.folder s, k.up e he s (above_iff.mpr ⟨r, hp⟩), ?_⟩)
        rw [hs]
        rfl
  · rw [(sortE_perm _).length_eq, List.length_append]
    have := List.length_filter_le (fun e : Ent => !belowB p e.path) es
    unfold keptE comeE
    rw [List.length_map]
    omega
theorem under_put {es part : List Ent} {p : List Nat} (h : TreeOk es) (k : TreeOk part) : underE (sortE (keptE es p ++ comeE part p)) p = part := by
  have e1 : (sortE (keptE es p ++ comeE part p)).filter (fun e => belowB p e.path) = comeE part p := by
    refine rise_uniq ((sortE_rise (put_nod h.rise k.rise)).filter _) (come_rise p k.rise) (((sortE_perm _).filter _).trans ?_)
    rw [List.filter_append]
    have n1 : (keptE es p).filter (fun e => belowB p e.path) = [] := by
      rw [List.filter_eq_nil_iff]
      intro e he z
      exact (kept_mem.mp he).2 (below_iff.mp z)
    have n2 : (comeE part p).filter (fun e => belowB p e.path) = comeE part p := by
      rw [List.filter_eq_self]
      intro e he
      obtain ⟨x, _, rfl⟩ := come_below part p he
      exact below_iff.mpr ⟨x.path, re_path _ _⟩
    rw [n1, n2]
    exact .refl _
  unfold underE
  rw [e1]
  unfold comeE
  rw [List.map_map]
  refine (List.map_congr_left fun e he => ?_).trans (List.map_id _)
  show (e.re _).re ((e.re _).path.drop (p.length + 1)) = e
  rw [re_path, re_re, drop_below, re_self]
theorem TreeOk.are {es : List Ent} (h : TreeOk es) : areB es = true := by
  unfold areB
  rw [Bool.and_eq_true, Bool.and_eq_true]
  refine ⟨decide_eq_true h.few, ?_, ?_⟩
  · unfold riseB
    rw [List.all_eq_true]
    intro i hi
    have hi := List.mem_range.mp hi
    have h1 : i < es.length := by omega
    have h2 : i + 1 < es.length := by omega
    have := List.pairwise_iff_getElem.mp h.rise i (i + 1) h1 h2 (Nat.lt_succ_self i)
    unfold pathAt
    rw [List.getElem?_eq_getElem h1, List.getElem?_eq_getElem h2]
    exact decide_eq_true this
  · unfold foldB
    rw [List.all_eq_true]
    intro e he
    rw [List.all_eq_true]
    intro a ha
    unfold hasF
    rw [List.any_eq_true]
    refine ⟨_, h.up e he a ha, ?_⟩
    rw [Bool.and_eq_true]
    exact ⟨rfl, decide_eq_true rfl⟩
theorem TreeOk.treeD {es : List Ent} (h : TreeOk es) : TreeD (dTree es) := (tree_iff h.ok).mpr h.are
end Fc

namespace Fc
open PySem PySem.Spec L2 PyProof.Rows
variable [LamNames]
/-! ### a lambda with parameters, of no captured name, handed about -/
/-- what is known of one: where it stands, its code object, its name, its text -/
structure Lam where
  f : Addr
  c : Addr
  pm : Value
  ct : Value
  q : Str
  params : Arguments
  body : Expr
  scope : Scope
def Lam.fd (l : Lam) : FuncData := PySem.W.kla_fn "<lambda>" l.q l.params l.body l.scope [] l.pm (.ref l.c) l.ct
def Lam.obj (l : Lam) : Obj := { cls := .type "function", data := .func l.fd }
def LamO (l : Lam) : HO := .ext fun h => h.get? l.f = some l.obj
structure LamAt (H : Hp) (l : Lam) : Prop where
  fn : H l.f = some (LamO l)
  cd : H l.c = some (LamX.CodeO l.c l.q)
theorem LamAt.keep {H H' : Hp} {l : Lam} (a : LamAt H l) (e : Same H H') : LamAt H' l := ⟨e.get _ _ a.fn trivial, e.get _ _ a.cd trivial⟩
section
variable {P : Program} {w : World} {K : PySem.W.Frag} {mg : Str → Option Value} {base : Heap}
/-- a lambda keeps a promise, told where it stands -/
theorem lam_ok {l : Lam} {k : Nat} {N ps : List Str} {sp : Sp} (S : FnScope N ps l.scope) (len : ∀ vs H Q E, sp vs H Q E → vs.length = ps.length) (at_ : ∀ vs H Q E, sp vs H Q E → LamAt H l)
    (hbody : ∀ (A : Around) (outer : List Env) (s : Shared) (H : Hp) (vs : List V) (Q : VK) (E : XK), Room k (A.deeper (envOfC l.q l.scope s.heap.objs.size l.f (.ref l.c))) → sp vs H Q E →
      ∃ t, PE (cxOf CX0 P w K mg base N l.q l.scope l.f (.ref l.c) A outer s H E).nox l.body t ∧ t (start N vs) H Q) : FnOk P w K mg base CX0 (k + 1) l.f l.fd ps sp := by
  refine ⟨len, fun A outer s H args us vs Q E hr e0 hb r hsp => ?_⟩
  have L := at_ _ _ _ _ hsp
  have ho : s.heap.get? l.f = some l.obj := (e0.hok _ _ L.fn).1
  obtain ⟨oc, ws, t, hoc, hdc, hvc⟩ := (e0.hok _ _ L.cd).1
  have lim : s.heap.NoLimit := e0.mod.nolimit.keeps fun b o e => (e0.bs b o e).1
  have hkind : ∀ y ∈ ps.zip us, l.scope.names.lookup y.1 = some .local ∨ (l.scope.names.lookup y.1 = some .cell ∧ ((cellsFrom (s.heap.objs.size + 1) l.scope.names []).lookup y.1).isSome = true) := fun y hy =>
    (S.par y.1 (List.of_mem_zip (show (y.1, y.2) ∈ ps.zip us from hy)).1).elim .inl fun z => .inr ⟨z, PySem.W.cellsFrom_some _ _ _ (.inl z)⟩
  refine PySem.W.kla_callFunE hr.depth ho rfl S.co S.gen rfl ⟨l.c, oc, ws, t, rfl, hoc, hdc, hvc⟩ (hb _ _ _ _ ?_)
  refine wpAny_newFunctionEnv_cells S.kind hkind fun env he s1 x => ?_
  subst he
  refine ⟨lim.keeps x.toInCall.keep, PySem.W.kla_codeExpr ?_⟩
  obtain ⟨t, ht, hq⟩ := hbody A outer s H vs Q E (hr.deeper _) hsp
  have I : Inv (cxOf CX0 P w K mg base N l.q l.scope l.f (.ref l.c) A outer s H E) [] (start N vs) H s1 := inv_start S hr.hd e0 (len _ _ _ _ hsp) r x
  refine wpAny_mono (ht.nox.run [] s1 (start N vs) H _ I hq) (fun u s' ⟨v, H', J, rv, q⟩ => ?_) fun e s' hs => hs
  exact ⟨v, H', J.os, J.bare, J.base, J.hok, rv, q⟩
end
section
variable {X : Cx} {x : Str} {i k : Nat} {ps : List Str} {sp : Sp} {p pos : Pos} {e : Expr} {es : List Expr} {t : TA}
/-- x(e, ..), x a slot that holds the lambda -/
def tCallM (i : Nat) (l : Lam) (sp : Sp) (t : TA) : TE := fun σ H Q => σ[i]? = some (some (.ref l.f)) ∧ LamAt H l ∧ t σ H fun vs H1 => LamAt H1 l ∧ sp vs H1 Q E0
theorem pe_callM {l : Lam} (F : FnOk X.prog X.w X.K X.mg X.base CX0 k l.f l.fd ps sp) (hr : Room k X.A) (hN : X.N[i]? = some x) (hv : Vis X.env.scope x) (hb : Binds X.K l.fd ps []) (ha : PA X (e :: es) t)
    (hdb : (x == ("__debug__" : Str)) = false := by decide) (hcd : (x == ("__classdict__" : Str)) = false := by decide)
    (he : starEach (e :: es) X.env = (false, eval e X.env) :: starEach es X.env := by rfl) (hpl : (backTo pos (starEach es X.env)).any (·.1) = false := by rfl) : PE X (.Call (.Name x p) (e :: es) [] pos) (tCallM i l sp t) := by
  refine ⟨fun pins s σ H Q I h => ?_⟩
  obtain ⟨hs, hL, ht⟩ := h
  refine wpAny_Call_Name_kw (thn ((pe_var (pos := p) hN hv hdb hcd).run pins s σ H (fun v H1 => v = .ref l.f ∧ H1 = H) I ⟨.ref l.f, hs, rfl, rfl⟩) fun u s1 ⟨v, H1, I1, r1, e1, e2⟩ => ?_)
  subst e1
  rw [e2] at I1
  cases r1
  refine PySem.W.callWith_F ⟨_, _, _, _, (I1.hok _ _ hL.fn).1⟩ (thn (ha.run pos pins s1 σ H _ I1 ht) fun us s2 ⟨vs, H2, I2, r, hL2, q⟩ => ⟨⟨_, _, _, _, (I2.hok _ _ hL2.fn).1⟩, ?_⟩) he hpl
  exact run_fn (E := E0) (dvs := []) (ds := []) F hr hb .nil (fun _ _ _ _ _ _ _ z => False.elim z) I2 r (by rw [List.append_nil]; exact q)
end
/-! ### it is made -/
/-- from H to H' the lambda l came, and its code object into the table at P or it was there -/
structure Made (P : Addr) (H H' : Hp) (l : Lam) : Prop where
  keep : ∀ b o, H b = some o → b ≠ P → H' b = some o
  new : H l.f = none
  tab : LamX.TabS H' P l.q
  at_ : LamAt H' l
def tLamV (P : Addr) (q : Str) (params : Arguments) (body : Expr) (scope : Scope) : TE := fun _ H Q => LamX.TabS H P q ∧ ∀ (f c : Addr) (pm ct : Value) (H' : Hp), Made P H H' ⟨f, c, pm, ct, q, params, body, scope⟩ → Q (.ref f) H'
section
variable {X : Cx}
theorem lamO_ok {P : Program} {w : World} {H : Hp} {h : Heap} {l : Lam} (e : h.get? l.f = some l.obj) : ObjOk P w H h l.f (LamO l) := ⟨e, ⟨_, e⟩, fun _ _ a k => k _ a⟩
theorem pe_lamV {c P : Addr} {params : Arguments} {body : Expr} {scope : Scope} {pos : Pos} (TB : LamX.TabB X.base X.mg c P) (hcode : X.env.code = .ref c) (hdef : defaultsOf params X.env = ([], [])) (hclo : closureFor scope X.env = pure []) :
    PE X (.Lambda params body scope pos) (tLamV P (X.env.qual ++ "<lambda>") params body scope) := by
  refine ⟨fun pins s σ H Q I h => ?_⟩
  obtain ⟨⟨ps, hP, ht, ha⟩, q⟩ := h
  have bP : s.heap.BuiltinsAt X.mg P := TB.bm.keeps I.bk
  have hP' : s.heap.get? P = some { cls := .none, data := .fields ps } := I.hok P _ hP
  have gl := I.mod.glob.keeps I.bk
  have cd := TB.code.keeps I.bk
  refine PySem.W.kla_eval hdef ?_
  cases hc : codeAmong pos ps.toList with
  | some cv =>
    obtain ⟨c', rfl, hco⟩ := ha pos cv hc
    refine PySem.W.kla_makeFunctionHit (mg := X.mg) (c := c) (P := P) (ps := ps) hclo I.ok.glob gl hcode cd hP' ht hc bP fun ctv h' tk hx hsz => ?_
    have hn : H h'.objs.size = none := I.hok.fresh hsz
    have J := I.laid (t' := tk) (a := h'.objs.size) (o := LamO ⟨h'.objs.size, c', (X.mg "__name__").getD .none, ctv, X.env.qual ++ "<lambda>", params, body, scope⟩) (h' := h'.push (Lam.obj ⟨h'.objs.size, c', (X.mg "__name__").getD .none, ctv, X.env.qual ++ "<lambda>", params, body, scope⟩))
      (fun b u e => Heap.get?_push_of_some _ (hx b u e)) hsz (lamO_ok (Heap.get?_push_size _ rfl))
    refine ⟨.ref h'.objs.size, _, J, rfl, q h'.objs.size c' _ ctv _ ⟨fun b o e _ => ?_, hn, ⟨ps, ?_, ht, fun p v hv => ?_⟩, ⟨upd_same, ?_⟩⟩⟩
    · rw [upd_ne (ne_of_none e hn)]
      exact e
    · rw [upd_ne (ne_of_none hP hn)]
      exact hP
    · obtain ⟨d, rfl, hd⟩ := ha p v hv
      exact ⟨d, rfl, by rw [upd_ne (ne_of_none hd hn)]; exact hd⟩
    · show upd H h'.objs.size _ c' = _
      rw [upd_ne (ne_of_none hco hn)]
      exact hco
  | none =>
    refine PySem.W.kla_makeFunction (mg := X.mg) (c := c) (P := P) (ps := ps) hclo I.ok.glob gl hcode cd hP' ht hc TB.gP bP fun c' ctv h' tk hx hge hlt hrec htb => ?_
    obtain ⟨c2, oc, vs, t, e2, hoc, hd, hv⟩ := hrec
    cases e2
    have nC : H c' = none := I.hok.fresh hge
    have I1 := LamX.inv_table (t' := tk) (more := #[rawInt pos.line, rawInt pos.col, .ref c']) (h' := h') I hP hx htb hge ⟨oc, vs, t, hoc, hd, hv⟩
    have nF : H h'.objs.size = none := I.hok.fresh (Nat.le_trans hge (Nat.le_of_lt hlt))
    have n1 : upd (upd H P (.tbl (ps ++ #[rawInt pos.line, rawInt pos.col, .ref c']))) c' (LamX.CodeO c' (X.env.qual ++ "<lambda>")) h'.objs.size = none := I1.hok.fresh (Nat.le_refl _)
    have J := I1.laid (t' := tk) (a := h'.objs.size) (o := LamO ⟨h'.objs.size, c', (X.mg "__name__").getD .none, ctv, X.env.qual ++ "<lambda>", params, body, scope⟩) (h' := h'.push (Lam.obj ⟨h'.objs.size, c', (X.mg "__name__").getD .none, ctv, X.env.qual ++ "<lambda>", params, body, scope⟩))
      (fun b u e => Heap.get?_push_of_some _ e) (Nat.le_refl _) (lamO_ok (Heap.get?_push_size _ rfl))
    have old : ∀ b o, H b = some o → b ≠ P → upd (upd (upd H P (.tbl (ps ++ #[rawInt pos.line, rawInt pos.col, .ref c']))) c' (LamX.CodeO c' (X.env.qual ++ "<lambda>"))) h'.objs.size (LamO ⟨h'.objs.size, c', (X.mg "__name__").getD .none, ctv, X.env.qual ++ "<lambda>", params, body, scope⟩) b = some o := fun b o e hb => by
      rw [upd_ne (ne_of_none e nF), upd_ne (ne_of_none e nC), upd_ne hb]
      exact e
    have eL : (ps ++ #[rawInt pos.line, rawInt pos.col, .ref c']).toList = ps.toList ++ [rawInt pos.line, rawInt pos.col, .ref c'] := by simp
    have hC : upd (upd (upd H P (.tbl (ps ++ #[rawInt pos.line, rawInt pos.col, .ref c']))) c' (LamX.CodeO c' (X.env.qual ++ "<lambda>"))) h'.objs.size (LamO ⟨h'.objs.size, c', (X.mg "__name__").getD .none, ctv, X.env.qual ++ "<lambda>", params, body, scope⟩) c' = some (LamX.CodeO c' (X.env.qual ++ "<lambda>")) := by
      rw [upd_ne (Nat.ne_of_lt hlt), upd_same]
    refine ⟨.ref h'.objs.size, _, J, rfl, q h'.objs.size c' _ ctv _ ⟨old, nF, ⟨_, ?_, by rw [eL]; exact PySem.TriplesOk_snoc _ _ _ _ ht, fun p v hv => ?_⟩, ⟨upd_same, hC⟩⟩⟩
    · rw [upd_ne (ne_of_none hP nF), upd_ne (ne_of_none hP nC), upd_same]
    · rw [eL] at hv
      rcases LamX.among_app _ ht hv with z | z
      · obtain ⟨d, rfl, hd⟩ := ha p v z
        exact ⟨d, rfl, old d _ hd fun e => by rw [e, hP] at hd; cases hd⟩
      · exact ⟨c', z, hC⟩
end
/-- a lambda that is made leaves all else as it was -/
theorem Made.same {P : Addr} {H H' : Hp} {l : Lam} (m : Made P H H' l) (t : LTab H P l.q) : Same H H' := by
  obtain ⟨⟨ps0, h0, ok0, nm0⟩, n⟩ := t
  have far : ∀ b o, H b = some o → NT o → b ≠ P := fun b o e nt z => by
    rw [z, h0] at e
    cases e
    exact nt
  refine ⟨fun b o e nt => m.keep b o e (far b o e nt), fun b ps e => ?_⟩
  by_cases z : b = P
  · obtain ⟨ps', h', ok', nm'⟩ := m.tab
    rw [z]
    refine ⟨ps', h', fun _ => ok', fun q hq _ => ?_⟩
    rw [n] at hq
    cases hq
    exact nm'
  · refine ⟨ps, m.keep b _ e z, fun k => k, fun q _ nm pos cv hc => ?_⟩
    obtain ⟨c, e1, e2⟩ := nm pos cv hc
    exact ⟨c, e1, m.keep c _ e2 (far c _ e2 trivial)⟩
theorem Made.ltab {P : Addr} {H H' : Hp} {l : Lam} (m : Made P H H' l) (t : LTab H P l.q) : LTab H' P l.q := ⟨m.tab, t.n⟩
end Fc

namespace Fc
open PySem PySem.Spec L2 PyProof.Rows
variable [LamNames]
/-! ### sorted(l, key=lambda entry: entry[1]) -/
section
variable {X : Cx}
/-- the lambda called at a tuple whose second part is a text -/
theorem lam_ix1 {P : Program} {w : World} {A : Around} {s : Shared} {l : Lam} {x : Str} {p1 p2 p3 : Pos} {kd : Nat} {t : Addr} {its : Array Value} {y : Value} {Q : Value → Shared → Prop} {E : Value → Shared → Prop}
    (hb : l.body = .Subscript (.Name x p1) (.Constant (.int 1) kd p2) p3) (S : FnScope [x] [x] l.scope) (loc : l.scope.names.lookup x = some .local) (lim : s.heap.NoLimit) (hroom : A.depth < recursionLimit) (ho : s.heap.get? l.f = some l.obj) (hc : s.heap.CodeRec (.ref l.c) l.q) (bd : BindsTo s l.fd ⟨[.ref t], []⟩ ([x].zip [.ref t]))
    (hdb : (x == ("__debug__" : Str)) = false) (ht : IsTup s.heap t its) (hy : its[1]? = some y)
    (q : ∀ h' tk, (∀ b o, s.heap.get? b = some o → h'.get? b = some o) → Q y { s with heap := h', toks := tk }) : wpAny (model P w) A (call (.ref l.f) [.ref t]) Q E s := by
  refine wpAny_call ?_
  have hkind : ∀ z ∈ [x].zip [Value.ref t], l.scope.names.lookup z.1 = some .local ∨ (l.scope.names.lookup z.1 = some .cell ∧ ((cellsFrom (s.heap.objs.size + 1) l.scope.names []).lookup z.1).isSome = true) := fun z hz =>
    (S.par z.1 (List.of_mem_zip (show (z.1, z.2) ∈ [x].zip [Value.ref t] from hz)).1).elim .inl fun k => .inr ⟨k, PySem.W.cellsFrom_some _ _ _ (.inl k)⟩
  refine PySem.W.kla_callFunE hroom ho rfl S.co S.gen rfl hc (bd _ _ _ _ ?_)
  refine wpAny_newFunctionEnv_cells S.kind hkind fun env he s1 z => ?_
  subst he
  refine ⟨lim.keeps z.toInCall.keep, PySem.W.kla_codeExpr ?_⟩
  rw [hb]
  obtain ⟨h1, tk, rfl, hk⟩ := z.done
  refine wpAny_Subscript_Constant_late (wpAny_Name (wpAny_loadName_local (v := .ref t) S.kind loc z.toInCall.ns ?_ ?_) hdb)
  · show (if l.scope.names.lookup x = some .local then fun y => if y = x then some (Value.ref t) else none else fun _ => none) x = some (.ref t)
    rw [if_pos loc]
    exact if_pos rfl
  · have ht1 : IsTup h1 t its := ht.keeps hk
    refine wpAny_Constant_int ⟨"tuple", _, PyProof.Rows.slot_tuple_getitem.lookup, ht1.typeIs, getItem_tuple ht1 (by decide) (by decide) (j := 1) ?_ hy (q _ _ hk)⟩
    have l1 : 1 < its.size := (Array.getElem?_eq_some_iff.mp hy).1
    unfold seqIndex?
    simp only [show ¬ ((1 : Int) < 0) by decide, if_false]
    rw [if_pos (by rw [Bool.and_eq_true]; exact ⟨by decide, decide_eq_true (by omega)⟩)]
    rfl
/-- sorted(l, key=the lambda): the rows by the texts in their second place -/
def rSortL (K : PySem.W.Frag) (q : Str) (A : Arguments) (B : Expr) (S : Scope) : List V → List V → Hp → VK → Prop := fun vs zs H Q => ∃ (a f c : Addr) (pm ct : Value) (ps : List (V × List Nat)), vs = [.ref a] ∧ zs = [.ref f] ∧ LamAt H ⟨f, c, pm, ct, q, A, B, S⟩ ∧ SqL K H a (ps.map Prod.fst) ∧
  (∀ x ∈ ps, ∃ t us, x.1 = .ref t ∧ SqT K H t us ∧ us[1]? = some (T x.2)) ∧ ∀ p, H p = none → Q (.ref p) (upd H p (.lst ((ps.mergeSort fun x y => decide (x.2 ≤ y.2)).map Prod.fst)))
theorem each_vals : ∀ {ps : List (V × List Nat)} {us : List Value}, Vals (ps.map Prod.fst) us → PySem.W.EachIs (fun u x => RelV x.1 u) us ps
  | [], _, .nil => .nil
  | _ :: _, _, .cons h t => .cons h (each_vals t)
theorem vals_each : ∀ {ps : List (V × List Nat)} {us : List Value}, PySem.W.EachIs (fun u x => RelV x.1 u) us ps → Vals (ps.map Prod.fst) us
  | _, _, .nil => .nil
  | _, _, .cons h t => .cons h (vals_each t)
theorem cr_sortedL {k : Nat} {x : Str} {q : Str} {A : Arguments} {B : Expr} {S : Scope} {p1 p2 p3 : Pos} {kd : Nat} (hb : B = .Subscript (.Name x p1) (.Constant (.int 1) kd p2) p3) (Sc : FnScope [x] [x] S) (loc : S.names.lookup x = some .local) (hdb : (x == ("__debug__" : Str)) = false) (hr : Room k X.A)
    (bL : ∀ f c pm ct, L2.Binds X.K (Lam.fd ⟨f, c, pm, ct, q, A, B, S⟩) [x] []) : CallRK X (.builtin "sorted") [Str.ofString "key"] (rSortL X.K q A B S) := by
  intro pins s σ H vs zs us ws Q I r rz h
  obtain ⟨a, f, c, pm, ct, ps, rfl, rfl, L, hs, rows, fin⟩ := h
  obtain rfl := Vals.ref1 r
  obtain rfl := Vals.ref1 rz
  obtain ⟨its, rv, hl, hz⟩ := I.list hs
  rw [List.length_map] at hz
  have hu := hr.units
  refine PySem.W.sorted_key_data (b := false) (R := fun u (x : V × List Nat) => RelV x.1 u) (fun x : V × List Nat => .str (mkS x.2)) hl.isList (each_vals rv) (PySem.W.AllAlike.of fun _ _ => by simp [PySem.W.alike]) (PySem.W.Sortable.others fun _ => ⟨by simp, by simp⟩) hz (fun x _ => ?_) (ksk_s1 _ _) (fun _ => ksk_l1 _ _) (fun _ => ksk_t1 _ _)
    (fun v x hR hx h tk kp => ?_) fun out cc h' tk kp hn hD hlen eo => ?_
  · have hd : (PySem.PyData.str (mkS x.2)).depth = 0 := by simp [PySem.PyData.depth]
    omega
  · obtain ⟨x, kx⟩ := x
    obtain ⟨t, ys, rfl, ht, hy⟩ := rows _ hx
    obtain rfl : v = .ref t := hR
    obtain ⟨it, ri, hT, _⟩ := I.tuple ht
    obtain ⟨y, hy1, ry⟩ : ∃ y, it[1]? = some y ∧ RelV (T kx) y := ri.get hy
    obtain ⟨tk2, rfl⟩ : ∃ tk2, y = .str (mkS kx) tk2 := ry
    obtain ⟨oc, ws, tc, hoc, hdc, hvc⟩ := (I.hok _ _ L.cd).1
    refine lam_ix1 (l := ⟨f, c, pm, ct, q, A, B, S⟩) (its := it.toArray) hb Sc loc ?_ ?_ ?_ ?_ ?_ hdb (hT.keeps kp) (by simpa using hy1) fun h2 tk3 k2 => ⟨h2, tk3, rfl, k2, .str _ _⟩
    · exact I.nolimit.keeps kp
    · exact hr.depth
    · exact kp _ _ (I.hok _ _ L.fn).1
    · exact ⟨c, oc, ws, tc, rfl, kp _ _ hoc, hdc, hvc⟩
    · exact bL f c pm ct _ [.ref t] (I.kIn.keeps kp) rfl
  · rw [PySem.W.dataLe_str] at eo
    have eo' : PySem.W.EachIs (fun u (x : V × List Nat) => RelV x.1 u) out (ps.mergeSort fun x y => decide (x.2 ≤ y.2)) := eo
    refine ⟨.ref _, upd H (s.heap.objs.size + 1) (.lst ((ps.mergeSort fun x y => decide (x.2 ≤ y.2)).map Prod.fst)), I.laid (t' := tk) kp (Nat.le_succ _) ⟨?_, out, cc, vals_each eo', hD⟩, rfl, fin _ (I.hok.fresh (Nat.le_succ _))⟩
    rw [List.length_map, List.length_mergeSort]
    exact hz
end
end Fc

namespace Fc
open PySem PySem.Spec L2 PyProof.Rows
open AutoSeq1 (wpAny_loadPart')
variable [LamNames]
/-! ### enumerate of a tuple -/
def enO (a : Addr) : Obj := { cls := .type "enumerate", data := .fields #[.none, .bool false, .ref a, rawInt 0, .none, .none] }
def tiO (l : Addr) : Obj := { cls := .type "tuple_iterator", data := .fields #[.ref l, .int 0 0] }
theorem enum_newT (l : Addr) (its : Array Value) (n : Nat) (dd : Option Addr) (sl : Array (Option Value)) :
    Meets (Builtin.«enumerate.__new__» ⟨[.type "enumerate", .ref l], []⟩) (fun _ R s => s.heap.get? l = some { cls := .type "tuple", dict := dd, data := .seq its n, slots := sl } ∧
      R (.ok (.ret (.ref (s.heap.push (tiO l)).objs.size))) { s with heap := (s.heap.push (tiO l)).push (enO s.heap.objs.size) }) := .of_wp fun prog w A R s h => by
  obtain ⟨hp, g, d, tk, os⟩ := s
  obtain ⟨hl, h⟩ := h
  have sub := sub_enumerate
  have ht : Heap.IsTuple (Shared.heap ⟨hp, g, d, tk, os⟩) l its := ⟨_, hl, rfl, n, rfl⟩
  wp_walk using wpAny_loadPart' hl
  refine wpAny_stack_any fun st => wpAny_pure ?_
  split
  · rename_i c _ _ _ _ _
    cases (c == Value.type "enumerate") <;> (wp_walk using wpAny_loadPart' hl, wpAny_pyIter_tuple ht; exact ⟨_, rfl, h⟩)
  · wp_walk using wpAny_loadPart' hl, wpAny_pyIter_tuple ht
    exact ⟨_, rfl, h⟩
theorem call_enumT {prog : Program} {w : World} {A : Around} {E : Value → Shared → Prop} {s : Shared} {l : Addr} {its : Array Value} {Q : Value → Shared → Prop} (ht : s.heap.IsTuple l its)
    (h : ∀ h', IsEnum h' (s.heap.objs.size + 1) s.heap.objs.size 0 .none → h'.IsTupleIter s.heap.objs.size l 0 → (∀ b o, s.heap.get? b = some o → h'.get? b = some o) → Q (.ref (s.heap.objs.size + 1)) { s with heap := h' }) :
    wpAny (model prog w) A (call (.type "enumerate") [.ref l]) Q E s := by
  obtain ⟨⟨c, dd, dt, sl⟩, hl, hc, n, hd⟩ := ht
  dsimp only at hc hd
  subst hc hd
  refine callType_new F.called_enumerate (by decide) (F.typeCall_enumerate_1 _) (F.newCall_enumerate_1 _) (fun obj => F.args_object_init_2 obj _) F.entry_enumerate_new (enum_newT l its n dd sl) ⟨hl, ?_⟩
  have z1 : (s.heap.push (tiO l)).objs.size = s.heap.objs.size + 1 := Heap.size_push ..
  have he : IsEnum ((s.heap.push (tiO l)).push (enO s.heap.objs.size)) (s.heap.objs.size + 1) s.heap.objs.size 0 .none := by
    have q := Heap.get?_push_size (s.heap.push (tiO l)) (o := enO s.heap.objs.size) rfl
    rw [z1] at q
    exact q
  show _ ∧ _
  rw [z1]
  exact ⟨⟨_, he, rfl⟩, h _ he ⟨_, Heap.get?_push_of_some _ (Heap.get?_push_size _ rfl), rfl, rfl⟩ fun b o x => Heap.get?_push_of_some _ (Heap.get?_push_of_some _ x)⟩
def IteT (K : PySem.W.Frag) (a : Addr) : It where
  go := fun i H => ∃ (xs : List V) (x : V), SqT K H a xs ∧ xs[i]? = some x
  yld := fun i H v H' => ∃ T x, v = .ref T ∧ H T = none ∧ H' = upd H T (.tup [.int (i : Nat), x]) ∧ ∀ xs, SqT K H a xs → xs[i]? = some x
  stop := fun i H => ∃ xs : List V, SqT K H a xs ∧ xs.length = i
theorem turn_enumT {P : Program} {w : World} {K : PySem.W.Frag} {es : List Expr} {kk : Nat} {tp : Pos} (a e it : Addr) :
    Turn P w K (.Tuple es kk tp) (IteT K a) [e, it] e (fun i h => (∃ old, IsEnum h e it ((i : Nat) : Int) old) ∧ h.IsTupleIter it a i ∧ e ≠ it) where
  mem := by simp
  obj := fun i h st b hb => by
    obtain ⟨⟨old, he⟩, ⟨o, ho, _, hd⟩, _⟩ := st
    rcases (show b = e ∨ b = it by simpa using hb) with rfl | rfl
    · exact ⟨_, he, fun v q => nomatch q⟩
    · exact ⟨o, ho, fun v q => by rw [hd] at q; cases q⟩
  keep := fun i h h' st k => by
    obtain ⟨⟨old, he⟩, hi, ne⟩ := st
    exact ⟨⟨old, k e (by simp) _ he⟩, hi.at fun o q => k it (by simp) o q, ne⟩
  item := by
    intro X hP hw hK hc i pins s σ H E I hf st hg
    subst hP hw hK
    obtain ⟨⟨old, he⟩, hit, ne⟩ := st
    obtain ⟨xs, x, hq, hx⟩ := hg
    obtain ⟨its, rv, p, _⟩ := I.tuple hq
    obtain ⟨u, hu, ru⟩ := rv.get hx
    obtain ⟨oa, ha, ca, na, da⟩ := id p
    obtain ⟨oi, hi, ci, di⟩ := id hit
    have nai : a ≠ it := fun z => by
      rw [z, hi] at ha
      cases ha
      rw [di] at da
      cases da
    have nea : e ≠ a := fun z => by
      have he' : s.heap.get? e = _ := he
      rw [z, ha] at he'
      cases he'
      cases da
    have hel : e < s.heap.objs.size := Heap.lt_size he
    have hil : it < s.heap.objs.size := Heap.lt_size hi
    have hlt : i < its.toArray.size := by
      have := (List.getElem?_eq_some_iff.mp hu).1
      simpa using this
    refine wpAny_pyNext_enum_itemD (Draws.tuple (A := X.A.in1) (I.ok.hd hc) it a nai its.toArray) he ⟨hit, p⟩ hlt ne (by simp [ne, nea]) fun y h1 tk py ho st1 hT _ hk => ?_
    have ey : y = u := by
      have z : its.toArray[i]? = some u := by simpa using hu
      exact Option.some.inj (py.symm.trans z)
    subst ey
    refine ⟨_, rfl, wpAny_letOwnedTupleGo_enum (s := { s with heap := h1, toks := tk + 1 }) ho fun h2 he2 sb => ?_⟩
    have hT2 : h2.get? s.heap.objs.size = some { cls := .type "tuple", data := .seq #[.int i tk, y] } := (sb.2 _ (Nat.ne_of_gt hel)).trans hT
    have new : ObjOk X.prog X.w (upd H s.heap.objs.size (.tup [.int (i : Nat), x])) h2 s.heap.objs.size (.tup [.int (i : Nat), x]) := ⟨by show 2 ≤ sizeLine; rw [sizeLine_eq]; decide, [.int i tk, y], .cons ⟨_, rfl⟩ (.cons ru .nil), ⟨_, hT2, rfl, _, rfl⟩⟩
    have I1 : Inv X pins σ (upd H s.heap.objs.size (.tup [.int (i : Nat), x])) { s with heap := h2, toks := tk + 1 } :=
      I.turnedNew (t' := tk + 1) (ch := [e, it]) (fun b ob hb q => (sb.2 b fun z => hb (by simp [z])).trans (hk b ob (fun z => hb (by simp [z])) (fun z => hb (by simp [z])) q)) hf (Nat.le_refl _) new
    refine ⟨.ref s.heap.objs.size, _, I1, rfl, ⟨_, x, rfl, I.hok.fresh (Nat.le_refl _), rfl, fun l hl => by rw [I.tuple_inj hl hq]; exact hx⟩, ⟨⟨y, ?_⟩, st1.1.at fun o q => (sb.2 it (Ne.symm ne)).trans q, ne⟩, fun b hb => ?_⟩
    · rw [show ((i + 1 : Nat) : Int) = (i : Int) + 1 by omega]
      exact he2
    · have hb' : b < s.heap.objs.size := by
        rcases (show b = e ∨ b = it by simpa using hb) with rfl | rfl
        · exact hel
        · exact hil
      rw [upd_ne (Nat.ne_of_lt hb')]
      exact (hf b hb).1
  done := by
    intro X hP hw hK hc i pins s σ H E I hf st hg
    subst hP hw hK
    obtain ⟨⟨old, he⟩, hit, ne⟩ := st
    obtain ⟨xs, hq, hx⟩ := hg
    obtain ⟨its, rv, p, _⟩ := I.tuple hq
    obtain ⟨f0, f1, f2, f3, f4, f5⟩ := hf it (by simp)
    obtain ⟨oa, ha, ca, na, da⟩ := id p
    obtain ⟨oi, hi, ci, di⟩ := id hit
    have nai : a ≠ it := fun z => by
      rw [z, hi] at ha
      cases ha
      rw [di] at da
      cases da
    have ei : i = its.toArray.size := by
      have := rv.length
      simp
      omega
    have st0 : s.heap.IsTupleIter it a its.toArray.size := by rw [← ei]; exact hit
    exact wpAny_pyNext_enum_endD (Draws.tuple (A := X.A.in1) (I.ok.hd hc) it a nai its.toArray) he ⟨st0, p⟩ fun h' eb => ⟨rfl, I.turned (t' := s.toks) (fun b o hb q => eb b o hb q) f0 f1 f3 f4 f5⟩
  self := fun A i s Q E st h => by
    obtain ⟨⟨_, he⟩, _⟩ := st
    exact wpAny_pyIter_enum he h
def iEnumT (K : PySem.W.Frag) (ta : TA) : TI := fun σ H R => ta σ H fun vs H1 => ∃ a xs, vs = [.ref a] ∧ SqT K H1 a xs ∧ R (IteT K a) H1
theorem pi_enumT {X : Cx} {e : Expr} {ta : TA} {p pos tp : Pos} {es : List Expr} {kk : Nat} (hg : Gl X "enumerate") (hm : X.mg "enumerate" = none) (ha : PA X [e] ta) (hs : starEach [e] X.env = [(false, eval e X.env)] := by rfl) :
    PI X (.Tuple es kk tp) (.Call (.Name "enumerate" p) [e] [] pos) (iEnumT X.K ta) := ⟨fun pins s σ H R I h => by
  refine Call_ (ld_blt I hg hm boot_enumerate (PyProof.Rows.callWith_type1 (thn (ha.run pos pins s σ H _ I h) fun us s1 ⟨vs, H1, I1, r1, q1⟩ => ?_) hs rfl))
  obtain ⟨a, xs, ex, hq, q⟩ := q1
  subst ex
  obtain ⟨u, rfl, r⟩ := r1.one
  cases r
  obtain ⟨its, rv, p', _⟩ := I1.tuple hq
  refine call_enumT p' fun h' he hit hk => wpAny_pyIter_enum he ?_
  have I2 : Inv X pins σ H1 { s1 with heap := h' } := I1.kept (t' := s1.toks) hk
  refine ⟨s1.heap.objs.size + 1, [s1.heap.objs.size + 1, s1.heap.objs.size], _, _, H1, rfl, I2, turn_enumT a (s1.heap.objs.size + 1) s1.heap.objs.size, ⟨⟨.none, he⟩, hit, Nat.succ_ne_self _⟩, fun b hb => ?_, q⟩
  have hle : s1.heap.objs.size ≤ b := by
    rcases (show b = s1.heap.objs.size + 1 ∨ b = s1.heap.objs.size by simpa using hb) with rfl | rfl
    · exact Nat.le_add_right _ _
    · exact Nat.le_refl _
  exact I1.fpOk hle (I1.hok.fresh hle)⟩
theorem walk_enumT {K : PySem.W.Frag} {a : Addr} {xs : List V} : Walk (IteT K a) xs.length (fun H => SqT K H a xs) (YPair (fun i => some (.int (i : Nat))) (fun i => xs[i]?)) :=
  ⟨fun i _ hi q => ⟨xs, xs[i], q, by simp [hi]⟩, fun _ q => ⟨xs, q, rfl⟩, fun i H v H' _ q y => by
    obtain ⟨T, x, h1, h2, h3, h4⟩ := y
    exact ⟨T, .int (i : Nat), x, h1, h2, h3, rfl, h4 xs q⟩⟩
end Fc

namespace Fc
open PySem PySem.Spec L2 PyProof.Rows GxR
variable [LamNames]
/-! ### comprehensions by what is walked, their items by a relation -/
section
variable {J : It} {n : Nat} {G0 : Hp → Prop} {Y : Nat → Hp → V → Hp → Prop} {α : Type} {es : List α} {G : α → V → Hp → Prop} {te : TE} {vs : List Nat} {σ : L2.St} {H1 : Hp} {D : Addr} {Qd : Hp → Prop}
/-- what stands behind i turns -/
def LcW (es : List α) (G : α → V → Hp → Prop) (H1 : Hp) (D : Addr) (i : Nat) (H : Hp) : Prop := Same H1 H ∧ ∃ ys, H D = some (.lst ys) ∧ Al2 (fun e y => G e y H) (es.take i) ys
theorem lcw_more (nD : H1 D = none) (hz : es.length ≤ sizeLine) (gk : ∀ e y H H', Same H H' → G e y H → G e y H') (gu : ∀ e y H ys zs, H D = some (.lst ys) → G e y H → G e y (upd H D (.lst zs)))
    {i : Nat} {e : α} {H H4 : Hp} {y : V} (he : es[i]? = some e) (p : LcW es G H1 D i H) (s4 : Same H H4) (g : G e y H4) : ∃ acc, H4 D = some (.lst acc) ∧ acc.length < sizeLine ∧ LcW es G H1 D (i + 1) (upd H4 D (.lst (acc ++ [y]))) := by
  obtain ⟨sm, ys, hD, al⟩ := p
  have hi : i < es.length := (List.getElem?_eq_some_iff.mp he).1
  have hD4 := s4 _ _ hD
  refine ⟨ys, hD4, ?_, (sm.trans s4).over nD (.lst hD4), ys ++ [y], upd_same, ?_⟩
  · have := al.length
    rw [List.length_take] at this
    omega
  · rw [List.take_add_one, he]
    exact Al2.snoc (R := fun u v => G u v (upd H4 D (.lst (ys ++ [y])))) (gu _ _ _ _ _ hD4 g) (al.mono fun u v k => gu _ _ _ _ _ hD4 (gk _ _ _ _ s4 k))
theorem lcW (w : Walk J n G0 Y) {g : TG} (hn : es.length = n) (nD : H1 D = none) (hz : n ≤ sizeLine) (hG : ∀ H, Same H1 H → G0 H)
    (gk : ∀ e y H H', Same H H' → G e y H → G e y H') (gu : ∀ e y H ys zs, H D = some (.lst ys) → G e y H → G e y (upd H D (.lst zs)))
    (turn : ∀ (i : Nat) (e : α) (x : V) (H H' : Hp) (R : V → Hp → Prop), i < n → es[i]? = some e → Same H1 H → Y i H x H' → (∀ y H4, Same H H4 → G e y H4 → R y H4) → ∀ Z : Hp → Prop, g x (wipe σ vs) H' fun σ2 H2 => wipe σ2 vs = wipe σ vs ∧ tYes σ2 H2 fun b H3 => if b = true then te σ2 H3 R else Z H3)
    (hd : ∀ ys H', Al2 (fun e y => G e y H') es ys → Same H1 H' → H' D = some (.lst ys) → Qd H') :
    ∃ W : Nat → Nat → Hp → Prop, (∃ m, W 0 m (upd H1 D (.lst []))) ∧ ∀ i m H, W i m H →
      (J.stop i H ∧ Qd H) ∨ (J.go i H ∧ ∃ Nx : Hp → Prop, (∀ H', Nx H' → ∃ m', m' < m ∧ W (i + 1) m' H') ∧ ∀ x H', J.yld i H x H' → g x (wipe σ vs) H' fun σ2 H2 => wipe σ2 vs = wipe σ vs ∧ tYes σ2 H2 fun b H3 =>
        if b = true then te σ2 H3 fun y H4 => ∃ acc, H4 D = some (.lst acc) ∧ acc.length < sizeLine ∧ Nx (upd H4 D (.lst (acc ++ [y]))) else Nx H3) := by
  refine lc_it w (LcW es G H1 D) ⟨grow nD, [], upd_same, .nil⟩ (fun i H _ p => hG H p.1) (fun i x H H' hi p y => ?_) (fun H p => ?_)
  · have he : es[i]? = some es[i] := List.getElem?_eq_getElem (by omega)
    exact turn i _ x H H' _ hi he p.1 y (fun y H4 s4 g => lcw_more nD (by omega) gk gu he p s4 g) _
  · obtain ⟨sm, ys, hD, al⟩ := p
    rw [← hn, List.take_length] at al
    exact hd ys H al sm hD
/-- over numbers or items told: one name -/
theorem lcWn {f : Nat → V} {j : Nat} (w : Walk J n G0 (YFn f)) (hn : es.length = n) (nD : H1 D = none) (hz : n ≤ sizeLine) (hG : ∀ H, Same H1 H → G0 H) (hw : ∀ x, wipe ((wipe σ vs).set j (some x)) vs = wipe σ vs)
    (gk : ∀ e y H H', Same H H' → G e y H → G e y H') (gu : ∀ e y H ys zs, H D = some (.lst ys) → G e y H → G e y (upd H D (.lst zs)))
    (turn : ∀ (i : Nat) (e : α) (H : Hp) (R : V → Hp → Prop), i < n → es[i]? = some e → Same H1 H → (∀ y H4, Same H H4 → G e y H4 → R y H4) → te ((wipe σ vs).set j (some (f i))) H R)
    (hd : ∀ ys H', Al2 (fun e y => G e y H') es ys → Same H1 H' → H' D = some (.lst ys) → Qd H') :
    ∃ W : Nat → Nat → Hp → Prop, (∃ m, W 0 m (upd H1 D (.lst []))) ∧ ∀ i m H, W i m H →
      (J.stop i H ∧ Qd H) ∨ (J.go i H ∧ ∃ Nx : Hp → Prop, (∀ H', Nx H' → ∃ m', m' < m ∧ W (i + 1) m' H') ∧ ∀ x H', J.yld i H x H' → gName j x (wipe σ vs) H' fun σ2 H2 => wipe σ2 vs = wipe σ vs ∧ tYes σ2 H2 fun b H3 =>
        if b = true then te σ2 H3 fun y H4 => ∃ acc, H4 D = some (.lst acc) ∧ acc.length < sizeLine ∧ Nx (upd H4 D (.lst (acc ++ [y]))) else Nx H3) := by
  refine lcW w hn nD hz hG gk gu (fun i e x H H' R hi he sm y r Z => ?_) hd
  obtain ⟨rfl, rfl⟩ := y
  refine ⟨hw _, ?_⟩
  unfold tYes
  dsimp only
  rw [if_pos rfl]
  exact turn i e _ R hi he sm r
theorem lcWi {xs : List V} {j : Nat} (w : Walk J n G0 (YAt xs)) (hn : es.length = n) (nD : H1 D = none) (hz : n ≤ sizeLine) (hG : ∀ H, Same H1 H → G0 H) (hw : ∀ x, wipe ((wipe σ vs).set j (some x)) vs = wipe σ vs)
    (gk : ∀ e y H H', Same H H' → G e y H → G e y H') (gu : ∀ e y H ys zs, H D = some (.lst ys) → G e y H → G e y (upd H D (.lst zs)))
    (turn : ∀ (i : Nat) (e : α) (x : V) (H : Hp) (R : V → Hp → Prop), i < n → es[i]? = some e → xs[i]? = some x → Same H1 H → (∀ y H4, Same H H4 → G e y H4 → R y H4) → te ((wipe σ vs).set j (some x)) H R)
    (hd : ∀ ys H', Al2 (fun e y => G e y H') es ys → Same H1 H' → H' D = some (.lst ys) → Qd H') :
    ∃ W : Nat → Nat → Hp → Prop, (∃ m, W 0 m (upd H1 D (.lst []))) ∧ ∀ i m H, W i m H →
      (J.stop i H ∧ Qd H) ∨ (J.go i H ∧ ∃ Nx : Hp → Prop, (∀ H', Nx H' → ∃ m', m' < m ∧ W (i + 1) m' H') ∧ ∀ x H', J.yld i H x H' → gName j x (wipe σ vs) H' fun σ2 H2 => wipe σ2 vs = wipe σ vs ∧ tYes σ2 H2 fun b H3 =>
        if b = true then te σ2 H3 fun y H4 => ∃ acc, H4 D = some (.lst acc) ∧ acc.length < sizeLine ∧ Nx (upd H4 D (.lst (acc ++ [y]))) else Nx H3) := by
  refine lcW w hn nD hz hG gk gu (fun i e x H H' R hi he sm y r Z => ?_) hd
  obtain ⟨rfl, hx⟩ := y
  refine ⟨hw _, ?_⟩
  unfold tYes
  dsimp only
  rw [if_pos rfl]
  exact turn i e x _ R hi he hx sm r
/-- over pairs: two names -/
theorem lcWp {K : PySem.W.Frag} {f h : Nat → Option V} {j k : Nat} (w : Walk J n G0 (YPair f h)) (hn : es.length = n) (nD : H1 D = none) (hz : n ≤ sizeLine) (hG : ∀ H, Same H1 H → G0 H) (hw : ∀ x y, wipe (((wipe σ vs).set j (some x)).set k (some y)) vs = wipe σ vs)
    (gk : ∀ e y H H', Same H H' → G e y H → G e y H') (gu : ∀ e y H ys zs, H D = some (.lst ys) → G e y H → G e y (upd H D (.lst zs)))
    (turn : ∀ (i : Nat) (e : α) (x y : V) (H : Hp) (R : V → Hp → Prop), i < n → es[i]? = some e → f i = some x → h i = some y → Same H1 H → (∀ y H4, Same H H4 → G e y H4 → R y H4) → te (((wipe σ vs).set j (some x)).set k (some y)) H R)
    (hd : ∀ ys H', Al2 (fun e y => G e y H') es ys → Same H1 H' → H' D = some (.lst ys) → Qd H') :
    ∃ W : Nat → Nat → Hp → Prop, (∃ m, W 0 m (upd H1 D (.lst []))) ∧ ∀ i m H, W i m H →
      (J.stop i H ∧ Qd H) ∨ (J.go i H ∧ ∃ Nx : Hp → Prop, (∀ H', Nx H' → ∃ m', m' < m ∧ W (i + 1) m' H') ∧ ∀ x H', J.yld i H x H' → gTup K 2 (gCons (gName j) (gCons (gName k) gNil)) x (wipe σ vs) H' fun σ2 H2 => wipe σ2 vs = wipe σ vs ∧ tYes σ2 H2 fun b H3 =>
        if b = true then te σ2 H3 fun y H4 => ∃ acc, H4 D = some (.lst acc) ∧ acc.length < sizeLine ∧ Nx (upd H4 D (.lst (acc ++ [y]))) else Nx H3) := by
  refine lcW w hn nD hz hG gk gu (fun i e x H H' R hi he sm y r Z => ?_) hd
  obtain ⟨T, x, y, rfl, nT, rfl, fx, fy⟩ := y
  refine ⟨T, [x, y], rfl, SqT.of upd_same, rfl, x, [y], rfl, y, [], rfl, rfl, hw x y, ?_⟩
  unfold tYes
  dsimp only
  rw [if_pos rfl]
  have sT : Same H (upd H T (.tup [x, y])) := grow nT
  exact turn i e x y _ R hi he fx fy (sm.trans sT) fun z H4 s4 g => r z H4 (sT.trans s4) g
end
/-! ### a tuple of a generator expression over a list, its items by a relation -/
section
variable {j : Nat} {te : TE} {vs : List Nat} {σ : L2.St} {H1 : Hp} {Q : VK}
theorem gwT_rel {K : PySem.W.Frag} {a : Addr} {xs : List V} {α : Type} {es : List α} (G : α → V → Hp → Prop) (hs : SqL K H1 a xs) (hl : es.length = xs.length) (hz : es.length ≤ sizeLine) (hw : ∀ x, wipe ((wipe σ vs).set j (some x)) vs = wipe σ vs) (gk : ∀ e y H H', Same H H' → G e y H → G e y H')
    (item : ∀ (i : Nat) (e : α) (x : V) (H : Hp) (R : VK), es[i]? = some e → xs[i]? = some x → Same H1 H → (∀ y H', Same H H' → G e y H' → R y H') → te ((wipe σ vs).set j (some x)) H R)
    (hd : ∀ ys H', Al2 (fun e y => G e y H') es ys → Same H1 H' → ∀ p, H' p = none → Q (.ref p) (upd H' p (.tup ys))) :
    ∃ W : Nat → Nat → List V → Hp → Prop, (∃ m, W 0 m [] H1) ∧ GWalkT (Itl K a) (gName j) tYes te vs σ (fun ys H' => ys.length ≤ sizeLine ∧ ∀ p, H' p = none → Q (.ref p) (upd H' p (.tup ys))) W := by
  refine ⟨fun i m ys H => m = es.length - i ∧ i ≤ es.length ∧ Same H1 H ∧ Al2 (fun e y => G e y H) (es.take i) ys, ⟨es.length, rfl, Nat.zero_le _, Same.refl _, .nil⟩, ?_⟩
  rintro i m ys H ⟨rfl, hi, sm, al⟩
  have q := sm.seq hs
  have few : ys.length = i := by
    rw [al.length, List.length_take]
    omega
  by_cases lt : i < es.length
  · have lx : i < xs.length := by omega
    have he : es[i]? = some es[i] := List.getElem?_eq_getElem lt
    refine .inr ⟨⟨xs, xs[i], q, List.getElem?_eq_getElem lx⟩, fun ys' H' => Same H1 H' ∧ Al2 (fun e y => G e y H') (es.take (i + 1)) ys', fun ys' H' p => ⟨es.length - (i + 1), by omega, rfl, lt, p.1, p.2⟩, fun x H' y => ?_⟩
    obtain ⟨e, y⟩ := y
    subst e
    refine ⟨hw x, ?_⟩
    unfold tYes
    dsimp only
    rw [if_pos rfl]
    refine item i es[i] x _ _ he (y xs q) sm fun y2 H2 s2 g2 => ⟨by omega, sm.trans s2, ?_⟩
    rw [List.take_add_one, he]
    exact Al2.snoc (R := fun u v => G u v H2) g2 (al.mono fun u v k => gk _ _ _ _ s2 k)
  · have e : i = es.length := by omega
    subst e
    rw [List.take_length] at al
    exact .inl ⟨⟨xs, q, by omega⟩, by omega, hd ys H al sm⟩
end
/-! ### rows of tuples of whole numbers -/
/-- v is a tuple of these -/
def IsB (K : PySem.W.Frag) (b : List Int) (v : V) (H : Hp) : Prop := ∃ p, v = .ref p ∧ SqT K H p (b.map V.int)
theorem IsB.keep {K : PySem.W.Frag} {b : List Int} {v : V} {H H' : Hp} (s : Same H H') (h : IsB K b v H) : IsB K b v H' := by
  obtain ⟨p, e, k⟩ := h
  exact ⟨p, e, keepT s k⟩
theorem IsB.put {K : PySem.W.Frag} {b : List Int} {v : V} {H : Hp} {D : Addr} {ys zs : List V} (e : H D = some (.lst ys)) (h : IsB K b v H) : IsB K b v (upd H D (.lst zs)) := by
  obtain ⟨p, e1, k⟩ := h
  exact ⟨p, e1, keepT_lst k e⟩
abbrev Bs (K : PySem.W.Frag) (H : Hp) (B : List (List Int)) (vs : List V) : Prop := Al2 (fun b v => IsB K b v H) B vs
theorem Bs.keep {K : PySem.W.Frag} {H H' : Hp} {B : List (List Int)} {vs : List V} (s : Same H H') (h : Bs K H B vs) : Bs K H' B vs := h.mono fun _ _ k => k.keep s
theorem Bs.put {K : PySem.W.Frag} {H : Hp} {B : List (List Int)} {vs : List V} {D : Addr} {ys zs : List V} (e : H D = some (.lst ys)) (h : Bs K H B vs) : Bs K (upd H D (.lst zs)) B vs := h.mono fun _ _ k => k.put e
theorem Bs.dp {K : PySem.W.Frag} {H : Hp} : ∀ {B : List (List Int)} {vs : List V}, Bs K H B vs → DpAll K H vs (B.map dInts)
  | _, _, .nil => .nil
  | _, _, .cons h hs => by
    obtain ⟨p, rfl, k⟩ := h
    exact .cons (dpTup k) (Bs.dp hs)
/-- a tuple of such rows, as data -/
abbrev dRows (B : List (List Int)) : PyData := .tuple (B.map dInts)
theorem dRows_ok {B : List (List Int)} (h : B.length ≤ 100000) (hb : ∀ b ∈ B, b.length ≤ 100000) : tupsOnly (dRows B) = true ∧ PyData.depth (dRows B) ≤ 2 := by
  have a : ∀ {B : List (List Int)}, (∀ b ∈ B, b.length ≤ 100000) → tupsAll (B.map dInts) = true ∧ PyData.depthAll (B.map dInts) ≤ 1 := by
    intro B
    induction B with
    | nil => exact fun _ => ⟨rfl, Nat.zero_le _⟩
    | cons b r ih =>
      intro hb
      have i := ih fun c hc => hb c (List.mem_cons_of_mem _ hc)
      have o := dInts_ok b (hb b (by simp))
      rw [List.map_cons, tupsAll, o.1, i.1, PyData.depthAll]
      exact ⟨rfl, Nat.max_le.mpr ⟨o.2, i.2⟩⟩
  have o := a hb
  refine ⟨?_, ?_⟩
  · rw [tupsOnly, o.1, decide_eq_true (by rw [List.length_map]; exact h)]
    rfl
  · show PyData.depthAll (B.map dInts) + 1 ≤ 2
    omega
/-! ### an object that is made -/
structure CalM (P : Program) (w : World) (K : PySem.W.Frag) (mg : Str → Option Value) (base : Heap) (x : Str) (C : Addr) (k : Nat) (ps : List Str) (sp : Sp) : Prop where
  ex : ∃ f fd, Mk K C f ∧ FnOk P w K mg base CX0 k f fd ps sp ∧ mg x = some (.ref C) ∧ Binds K fd ps []
theorem pe_mk {X : Cx} {x : Str} {C : Addr} {k : Nat} {ps : List Str} {sp : Sp} {p pos : Pos} {e : Expr} {es : List Expr} {t : TA} (M : CalM X.prog X.w X.K X.mg X.base x C k ps sp) (hr : Room (k + 1) X.A) (ha : PA X (e :: es) t) (hg : Gl X x := by rfl) (hdb : (x == ("__debug__" : Str)) = false := by decide)
    (he : starEach (e :: es) X.env = (false, eval e X.env) :: starEach es X.env := by rfl) (hpl : (backTo pos (starEach es X.env)).any (·.1) = false := by rfl) : PE X (.Call (.Name x p) (e :: es) [] pos) (tMake C sp [] E0 t) := by
  obtain ⟨f, fd, mk, F, m, b⟩ := M.ex
  exact pe_make mk F hr hg m b .nil pass0 ha hdb he hpl
theorem fun_ofDq {K : PySem.W.Frag} {x qual : Str} {st : Stmt} {f : Addr} {fd : FuncData} (D : FunD K x qual (defArgs st) (defBody st) (defScope st) [] [] f fd) : Fun K x qual st f fd := by
  obtain ⟨oc, od, dV, kV, doc, pm, an, cdv, ct, osl, h1, h2, h3, h4, _⟩ := D.ex
  rcases h4 with ⟨_, h4⟩ | ⟨h4, _⟩
  · cases h4
    exact ⟨⟨oc, od, kV, doc, pm, an, cdv, ct, osl, h1, h2, h3⟩, D.kp⟩
  · exact absurd rfl h4
/-! ### try, when the body raises nothing -/
theorem ps_tryN {X : Cx} {body : List Stmt} {h₀ : ExceptHandler} {hds : List ExceptHandler} {pos : Pos} {tb : TS} (hb : ∀ (pn : List (Addr × Obj)) (xe : Value → Shared → Prop), PSs (X.tr pn xe) body tb) : PS X (.Try body (h₀ :: hds) [] [] pos) tb := by
  refine ⟨fun pins s σ H D I h => ?_⟩
  have ok := I.ok
  refine wpAny_Try_except ?_
  refine wpAny_mono ((hb (X.pn ++ pins) _).run [] s σ H D (I.toTry _) h) (fun f s1 hsp => ?_) (fun e s1 he => he)
  cases f with
  | next =>
    obtain ⟨σ', H', J', q⟩ := hsp
    exact wpAny_execs_nil ⟨σ', H', J'.ofTry ok, q⟩
  | ret u =>
    obtain ⟨v, σ', H', J', r, q⟩ := hsp
    exact ⟨v, σ', H', J'.ofTry ok, r, q⟩
  | _ =>
    obtain ⟨σ', H', J', q⟩ := hsp
    exact ⟨σ', H', J'.ofTry ok, q⟩
end Fc

namespace Fc
open PySem PySem.Spec L2 PyProof.Rows
variable [LamNames]
theorem starts_mk (x y : List Nat) : Txt.startswith (mkS x) (mkS y) = y.isPrefixOf x := by
  unfold Txt.startswith
  rw [PySem.StrLaws.subAt_eq]
  show (decide (0 + y.toArray.size ≤ x.toArray.size) && ((x.toArray.toList.drop 0).take y.toArray.size == y.toArray.toList)) = _
  simp only [List.size_toArray, List.toList_toArray, List.drop_zero, Nat.zero_add]
  rw [Bool.eq_iff_iff, Bool.and_eq_true, List.isPrefixOf_iff_prefix, beq_iff_eq, decide_eq_true_eq]
  constructor
  · rintro ⟨_, h⟩
    rw [← h]
    exact List.take_prefix _ _
  · rintro ⟨r, rfl⟩
    exact ⟨by simp, by simp⟩
theorem add_mk (x y : List Nat) : mkS x ++ mkS y = mkS (x ++ y) := by
  show (⟨_⟩ : Str) = ⟨_⟩
  simp [mkS]
/-! ### an entry with another path -/
section
variable {K : PySem.W.Frag} {H : Hp}
theorem dpEnt3 {v : V} {e : Ent} (h : Dp K H v (dEnt e)) : ∃ t xs, v = .ref t ∧ SqT K H t (wordOf e :: T e.path :: xs) ∧ xs.length ≤ 1 ∧ ∀ H' t' (u : List Nat), Same H H' → SqT K H' t' (wordOf e :: T u :: xs) → Dp K H' (.ref t') (dEnt (e.re u)) := by
  obtain ⟨t, xs, rfl, hx, m⟩ := dpEnt h
  cases e with
  | folder p =>
    subst m
    exact ⟨t, [], rfl, hx, by simp, fun H' t' u s h => dEnt_folder h⟩
  | file p b =>
    obtain ⟨w, rfl, hw⟩ := m
    exact ⟨t, [.ref w], rfl, hx, by simp, fun H' t' u s h => dEnt_file h (keepT s hw)⟩
  | link p g =>
    subst m
    exact ⟨t, [T g], rfl, hx, by simp, fun H' t' u s h => dEnt_link h⟩
end
theorem cut2 (a b : V) (xs : List V) : cutV (a :: b :: xs) (some 2) none = xs := by
  rw [show (some (2 : Int)) = some ((2 : Nat) : Int) from rfl, cutV_from]
  rfl
theorem al_of {α β : Type} {R : α → β → Prop} : ∀ {qs : List (α × β)}, (∀ q ∈ qs, R q.1 q.2) → Al2 R (qs.map Prod.fst) (qs.map Prod.snd)
  | [], _ => .nil
  | q :: qs, h => .cons (h q (List.mem_cons_self ..)) (al_of fun x hx => h x (List.mem_cons_of_mem _ hx))
theorem al_pairs {α β : Type} {R : α → β → Prop} : ∀ {xs : List α} {ys : List β}, Al2 R xs ys → ∃ qs : List (α × β), qs.map Prod.fst = xs ∧ qs.map Prod.snd = ys ∧ ∀ q ∈ qs, R q.1 q.2
  | _, _, .nil => ⟨[], rfl, rfl, fun q h => nomatch h⟩
  | x :: xs, y :: ys, .cons h t => by
    obtain ⟨qs, rfl, rfl, hq⟩ := al_pairs t
    exact ⟨(x, y) :: qs, rfl, rfl, fun q m => (List.mem_cons.mp m).elim (fun e => e ▸ h) (hq q)⟩
theorem sort_al {R : Ent → V → Prop} {es : List Ent} {xs : List V} (al : Al2 R es xs) : ∃ ps : List (V × List Nat), ps.map Prod.fst = xs ∧ (∀ x ∈ ps, ∃ e ∈ es, R e x.1 ∧ x.2 = e.path) ∧ Al2 R (sortE es) ((ps.mergeSort fun x y => decide (x.2 ≤ y.2)).map Prod.fst) := by
  obtain ⟨qs, rfl, rfl, hq⟩ := al_pairs al
  refine ⟨qs.map fun q => (q.2, q.1.path), by rw [List.map_map]; rfl, fun x hx => ?_, ?_⟩
  · obtain ⟨q, m, rfl⟩ := List.mem_map.mp hx
    exact ⟨q.1, List.mem_map.mpr ⟨q, m, rfl⟩, hq q m, rfl⟩
  · have e1 : sortE (qs.map Prod.fst) = (qs.mergeSort fun a b => decide (a.1.path ≤ b.1.path)).map Prod.fst := by
      unfold sortE
      exact (List.map_mergeSort (f := Prod.fst) (r := fun (a b : Ent × V) => decide (a.1.path ≤ b.1.path)) (s := fun (a b : Ent) => decide (a.path ≤ b.path)) fun a _ b _ => rfl).symm
    have e2 : (qs.map fun q => (q.2, q.1.path)).mergeSort (fun (x y : V × List Nat) => decide (x.2 ≤ y.2)) = (qs.mergeSort fun a b => decide (a.1.path ≤ b.1.path)).map fun q => (q.2, q.1.path) := (List.map_mergeSort (f := fun q : Ent × V => (q.2, q.1.path)) (r := fun (a b : Ent × V) => decide (a.1.path ≤ b.1.path)) (s := fun (x y : V × List Nat) => decide (x.2 ≤ y.2)) fun a _ b _ => rfl).symm
    rw [e1, e2, List.map_map]
    exact al_of fun q m => hq q ((List.mergeSort_perm _ _).mem_iff.mp m)
/-! ### [x for e in .. if ..], its items by a relation to what the row stands for -/
theorem al_mem {α β : Type} {R : α → β → Prop} : ∀ {xs : List α} {ys : List β}, Al2 R xs ys → Al2 (fun x y => R x y ∧ x ∈ xs) xs ys
  | _, _, .nil => .nil
  | x :: xs, y :: ys, .cons h t => .cons ⟨h, List.mem_cons_self ..⟩ ((al_mem t).mono fun _ _ k => ⟨k.1, List.mem_cons_of_mem _ k.2⟩)
theorem al_append {α β : Type} {R : α → β → Prop} : ∀ {xs xs' : List α} {ys ys' : List β}, Al2 R xs ys → Al2 R xs' ys' → Al2 R (xs ++ xs') (ys ++ ys')
  | _, _, _, _, .nil, k => k
  | _ :: _, _, _ :: _, _, .cons h t, k => .cons h (al_append t k)
theorem al_map {α β γ : Type} {R : γ → β → Prop} {f : α → γ} : ∀ {xs : List α} {ys : List β}, Al2 (fun x y => R (f x) y) xs ys → Al2 R (xs.map f) ys
  | _, _, .nil => .nil
  | _ :: _, _ :: _, .cons h t => .cons h (al_map t)
section
variable {α : Type} {tt : TT} {te : TE} {vs : List Nat} {σ : L2.St} {H1 : Hp} {D : Addr} {j : Nat} {Qd : Hp → Prop}
theorem lcR_tup {K : PySem.W.Frag} {a : Addr} {xs : List V} {es : List α} (keep : α → Bool) (G : α → V → Hp → Prop) (nD : H1 D = none) (hs : SqT K H1 a xs) (hl : es.length = xs.length) (hz : es.length ≤ sizeLine) (hw : ∀ x, wipe ((wipe σ vs).set j (some x)) vs = wipe σ vs)
    (gk : ∀ e y H H', Same H H' → G e y H → G e y H') (gu : ∀ e y H ys zs, H D = some (.lst ys) → e ∈ es → G e y H → G e y (upd H D (.lst zs)))
    (test : ∀ (i : Nat) (e : α) (x : V) (H : Hp) (R : Bool → Hp → Prop), es[i]? = some e → xs[i]? = some x → Same H1 H → (∀ H', Same H H' → R (keep e) H') → tt ((wipe σ vs).set j (some x)) H R)
    (item : ∀ (i : Nat) (e : α) (x : V) (H : Hp) (R : V → Hp → Prop), es[i]? = some e → xs[i]? = some x → keep e = true → Same H1 H → (∀ y H', Same H H' → G e y H' → R y H') → te ((wipe σ vs).set j (some x)) H R)
    (hd : ∀ ys H', Al2 (fun e y => G e y H') (es.filter keep) ys → Same H1 H' → H' D = some (.lst ys) → Qd H') :
    ∃ W : Nat → Nat → Hp → Prop, (∃ m, W 0 m (upd H1 D (.lst []))) ∧ ∀ i m H, W i m H →
      ((Itt K a).stop i H ∧ Qd H) ∨ ((Itt K a).go i H ∧ ∃ Nx : Hp → Prop, (∀ H', Nx H' → ∃ m', m' < m ∧ W (i + 1) m' H') ∧ ∀ x H', (Itt K a).yld i H x H' → gName j x (wipe σ vs) H' fun σ2 H2 => wipe σ2 vs = wipe σ vs ∧ tt σ2 H2 fun b H3 =>
        if b = true then te σ2 H3 fun y H4 => ∃ acc, H4 D = some (.lst acc) ∧ acc.length < sizeLine ∧ Nx (upd H4 D (.lst (acc ++ [y]))) else Nx H3) := by
  refine ⟨fun i m H => m = es.length - i ∧ i ≤ es.length ∧ Same H1 H ∧ ∃ ys, H D = some (.lst ys) ∧ Al2 (fun e y => G e y H) ((es.take i).filter keep) ys, ⟨es.length, rfl, Nat.zero_le _, grow nD, [], upd_same, .nil⟩, ?_⟩
  rintro i m H ⟨rfl, hi, sm, ys, hD, al⟩
  have q := keepT sm hs
  by_cases lt : i < es.length
  · have lx : i < xs.length := by omega
    have he : es[i]? = some es[i] := List.getElem?_eq_getElem lt
    refine .inr ⟨⟨xs, xs[i], q, List.getElem?_eq_getElem lx⟩, fun H' => Same H1 H' ∧ ∃ ys, H' D = some (.lst ys) ∧ Al2 (fun e y => G e y H') ((es.take (i + 1)).filter keep) ys, fun H' p' => ⟨es.length - (i + 1), by omega, rfl, lt, p'⟩, fun x H' y => ?_⟩
    obtain ⟨e, y⟩ := y
    subst e
    refine ⟨hw x, test i es[i] x _ _ he (y xs q) sm fun H3 s3 => ?_⟩
    have ft : (es.take (i + 1)).filter keep = (es.take i).filter keep ++ (if keep es[i] = true then [es[i]] else []) := by
      rw [List.take_add_one, he, Option.toList_some, List.filter_append]
      congr 1
      by_cases k : keep es[i] = true
      · rw [if_pos k, List.filter_cons_of_pos k]; rfl
      · rw [if_neg k, List.filter_cons_of_neg k]; rfl
    by_cases k : keep es[i] = true
    · rw [if_pos k]
      refine item i es[i] x H3 _ he (y xs q) k (sm.trans s3) fun z H4 s4 g => ?_
      have hD4 := s4 _ _ (s3 _ _ hD)
      refine ⟨ys, hD4, ?_, (sm.trans (s3.trans s4)).over nD (.lst hD4), _, upd_same, ?_⟩
      · rw [al.length]
        have l1 := List.length_filter_le keep (es.take i)
        rw [List.length_take] at l1
        omega
      · rw [ft, if_pos k]
        have al2 : Al2 (fun u v => G u v (upd H4 D (.lst (ys ++ [z])))) ((es.take i).filter keep) ys := (al_mem al).mono fun u v g => gu _ _ _ _ _ hD4 (List.mem_of_mem_take (List.mem_filter.mp g.2).1) (gk _ _ _ _ (s3.trans s4) g.1)
        exact Al2.snoc (R := fun u v => G u v (upd H4 D (.lst (ys ++ [z])))) (gu _ _ _ _ _ hD4 (List.getElem_mem lt) g) al2
    · rw [if_neg k]
      refine ⟨sm.trans s3, ys, s3 _ _ hD, ?_⟩
      rw [ft, if_neg k, List.append_nil]
      exact al.mono fun u v g => gk _ _ _ _ s3 g
  · have e : i = es.length := by omega
    rw [e, List.take_length] at al
    exact .inl ⟨⟨xs, q, by omega⟩, hd ys H al sm hD⟩
theorem lcR_list {K : PySem.W.Frag} {a : Addr} {xs : List V} {es : List α} (keep : α → Bool) (G : α → V → Hp → Prop) (nD : H1 D = none) (hs : SqL K H1 a xs) (hl : es.length = xs.length) (hz : es.length ≤ sizeLine) (hw : ∀ x, wipe ((wipe σ vs).set j (some x)) vs = wipe σ vs)
    (gk : ∀ e y H H', Same H H' → G e y H → G e y H') (gu : ∀ e y H ys zs, H D = some (.lst ys) → e ∈ es → G e y H → G e y (upd H D (.lst zs)))
    (test : ∀ (i : Nat) (e : α) (x : V) (H : Hp) (R : Bool → Hp → Prop), es[i]? = some e → xs[i]? = some x → Same H1 H → (∀ H', Same H H' → R (keep e) H') → tt ((wipe σ vs).set j (some x)) H R)
    (item : ∀ (i : Nat) (e : α) (x : V) (H : Hp) (R : V → Hp → Prop), es[i]? = some e → xs[i]? = some x → keep e = true → Same H1 H → (∀ y H', Same H H' → G e y H' → R y H') → te ((wipe σ vs).set j (some x)) H R)
    (hd : ∀ ys H', Al2 (fun e y => G e y H') (es.filter keep) ys → Same H1 H' → H' D = some (.lst ys) → Qd H') :
    ∃ W : Nat → Nat → Hp → Prop, (∃ m, W 0 m (upd H1 D (.lst []))) ∧ ∀ i m H, W i m H →
      ((Itl K a).stop i H ∧ Qd H) ∨ ((Itl K a).go i H ∧ ∃ Nx : Hp → Prop, (∀ H', Nx H' → ∃ m', m' < m ∧ W (i + 1) m' H') ∧ ∀ x H', (Itl K a).yld i H x H' → gName j x (wipe σ vs) H' fun σ2 H2 => wipe σ2 vs = wipe σ vs ∧ tt σ2 H2 fun b H3 =>
        if b = true then te σ2 H3 fun y H4 => ∃ acc, H4 D = some (.lst acc) ∧ acc.length < sizeLine ∧ Nx (upd H4 D (.lst (acc ++ [y]))) else Nx H3) := by
  refine ⟨fun i m H => m = es.length - i ∧ i ≤ es.length ∧ Same H1 H ∧ ∃ ys, H D = some (.lst ys) ∧ Al2 (fun e y => G e y H) ((es.take i).filter keep) ys, ⟨es.length, rfl, Nat.zero_le _, grow nD, [], upd_same, .nil⟩, ?_⟩
  rintro i m H ⟨rfl, hi, sm, ys, hD, al⟩
  have q := sm.seq hs
  by_cases lt : i < es.length
  · have lx : i < xs.length := by omega
    have he : es[i]? = some es[i] := List.getElem?_eq_getElem lt
    refine .inr ⟨⟨xs, xs[i], q, List.getElem?_eq_getElem lx⟩, fun H' => Same H1 H' ∧ ∃ ys, H' D = some (.lst ys) ∧ Al2 (fun e y => G e y H') ((es.take (i + 1)).filter keep) ys, fun H' p' => ⟨es.length - (i + 1), by omega, rfl, lt, p'⟩, fun x H' y => ?_⟩
    obtain ⟨e, y⟩ := y
    subst e
    refine ⟨hw x, test i es[i] x _ _ he (y xs q) sm fun H3 s3 => ?_⟩
    have ft : (es.take (i + 1)).filter keep = (es.take i).filter keep ++ (if keep es[i] = true then [es[i]] else []) := by
      rw [List.take_add_one, he, Option.toList_some, List.filter_append]
      congr 1
      by_cases k : keep es[i] = true
      · rw [if_pos k, List.filter_cons_of_pos k]; rfl
      · rw [if_neg k, List.filter_cons_of_neg k]; rfl
    by_cases k : keep es[i] = true
    · rw [if_pos k]
      refine item i es[i] x H3 _ he (y xs q) k (sm.trans s3) fun z H4 s4 g => ?_
      have hD4 := s4 _ _ (s3 _ _ hD)
      refine ⟨ys, hD4, ?_, (sm.trans (s3.trans s4)).over nD (.lst hD4), _, upd_same, ?_⟩
      · rw [al.length]
        have l1 := List.length_filter_le keep (es.take i)
        rw [List.length_take] at l1
        omega
      · rw [ft, if_pos k]
        have al2 : Al2 (fun u v => G u v (upd H4 D (.lst (ys ++ [z])))) ((es.take i).filter keep) ys := (al_mem al).mono fun u v g => gu _ _ _ _ _ hD4 (List.mem_of_mem_take (List.mem_filter.mp g.2).1) (gk _ _ _ _ (s3.trans s4) g.1)
        exact Al2.snoc (R := fun u v => G u v (upd H4 D (.lst (ys ++ [z])))) (gu _ _ _ _ _ hD4 (List.getElem_mem lt) g) al2
    · rw [if_neg k]
      refine ⟨sm.trans s3, ys, s3 _ _ hD, ?_⟩
      rw [ft, if_neg k, List.append_nil]
      exact al.mono fun u v g => gk _ _ _ _ s3 g
  · have e : i = es.length := by omega
    rw [e, List.take_length] at al
    exact .inl ⟨⟨xs, q, by omega⟩, hd ys H al sm hD⟩
end
theorem al_dpAll {K : PySem.W.Frag} {H : Hp} : ∀ {es : List Ent} {xs : List V}, Al2 (fun e x => Dp K H x (dEnt e)) es xs → DpAll K H xs (es.map dEnt)
  | _, _, .nil => .nil
  | _ :: _, _ :: _, .cons h t => .cons h (al_dpAll t)
theorem rise_uniqL : ∀ {a b : List (List Nat)}, a.Pairwise (· < ·) → b.Pairwise (· < ·) → a.Perm b → a = b
  | [], b, _, _, p => (List.Perm.nil_eq p)
  | x :: a, [], _, _, p => absurd p.length_eq (by simp)
  | x :: a, y :: b, ha, hb, p => by
    have e : x = y := by
      have hx : x ∈ y :: b := p.mem_iff.mp (List.mem_cons_self ..)
      have hy : y ∈ x :: a := p.mem_iff.mpr (List.mem_cons_self ..)
      rcases List.mem_cons.mp hx with h | h
      · exact h
      · rcases List.mem_cons.mp hy with k | k
        · exact k.symm
        · have h1 := (List.pairwise_cons.mp hb).1 x h
          have h2 := (List.pairwise_cons.mp ha).1 y k
          exact absurd (List.lt_trans h1 h2) (List.lt_irrefl _)
    subst e
    rw [rise_uniqL (List.pairwise_cons.mp ha).2 (List.pairwise_cons.mp hb).2 (List.Perm.cons_inv p)]
theorem paths_inj {L : List Ent} (nd : Nod L) : ∀ {fs gs : List Ent}, (∀ e ∈ fs, e ∈ L) → (∀ e ∈ gs, e ∈ L) → fs.map Ent.path = gs.map Ent.path → fs = gs
  | [], [], _, _, _ => rfl
  | [], _ :: _, _, _, h => by cases h
  | _ :: _, [], _, _, h => by cases h
  | f :: fs, g :: gs, hf, hg, h => by
    rw [List.map_cons, List.map_cons] at h
    injection h with h1 h2
    rw [nd.eq (hf f (List.mem_cons_self ..)) (hg g (List.mem_cons_self ..)) h1, paths_inj nd (fun e he => hf e (List.mem_cons_of_mem _ he)) (fun e he => hg e (List.mem_cons_of_mem _ he)) h2]
theorem sorted_is {L fs : List Ent} {ys : List (List Nat)} (nd : Nod L) (pm : ys.Perm (L.map Ent.path)) (so : sortedS (ys.map mkS) = true) (ef : fs.map Ent.path = ys) (sub : ∀ e ∈ fs, e ∈ L) : fs = sortE L := by
  have ny : ys.Nodup := pm.nodup_iff.mpr nd
  have r1 := sorted_paths so ny
  have r2 : ((sortE L).map Ent.path).Pairwise (· < ·) := by
    rw [List.pairwise_map]
    exact sortE_rise nd
  have e1 : ys = (sortE L).map Ent.path := rise_uniqL r1 r2 (pm.trans ((sortE_perm L).map Ent.path).symm)
  exact paths_inj nd sub (fun e he => (sortE_perm L).mem_iff.mp he) (ef.trans e1)
theorem kept_snoc (es : List Ent) (e : Ent) (p : List Nat) : keptE (es ++ [e]) p = keptE es p ++ (if belowB p e.path = true then [] else [e]) := by
  unfold keptE
  rw [List.filter_append]
  congr 1
  by_cases k : belowB p e.path = true
  · rw [if_pos k, List.filter_cons_of_neg (by rw [k]; decide)]
    rfl
  · rw [if_neg k, List.filter_cons_of_pos (by rw [Bool.eq_false_iff.mpr k]; rfl)]
    rfl
theorem come_snoc (es : List Ent) (e : Ent) (p : List Nat) : comeE (es ++ [e]) p = comeE es p ++ [e.re (p ++ 47 :: e.path)] := by
  unfold comeE
  rw [List.map_append]
  rfl
theorem SmallE.re {es : List Ent} (h : SmallE es) {e : Ent} (me : e ∈ es) (u : List Nat) : ∀ t b, e.re u = .file t b → b.length ≤ 1000 := fun t b z => by
  cases e with
  | folder _ => cases z
  | link _ _ => cases z
  | file t' b' => cases z; exact h _ me _ _ rfl
end Fc

namespace Fc
open PySem PySem.Spec L2 PyProof.Rows
variable [LamNames]
/-! ### a tuple that is known by its place -/
def Tupn (H : Hp) (xs : List V) (Q : VK) : Prop := ∀ H' p, Same H H' → H' p = some (.tup xs) → Q (.ref p) H'
theorem Tupn.new {H : Hp} {xs : List V} {Q : VK} (h : Tupn H xs Q) {p : Addr} (n : H p = none) : Q (.ref p) (upd H p (.tup xs)) := h _ _ (grow n) upd_same
section
variable {X : Cx}
theorem call_tupleN : CallR X (.type "tuple") (fun xs H Q => ∃ p ys, xs = [.ref p] ∧ SqL X.K H p ys ∧ Tupn H ys Q) := by
  intro pins s σ H xs us Q I r h
  obtain ⟨p, ys, e, hp, q⟩ := h
  exact call_tuple_of pins s σ H xs us Q I r ⟨p, ys, e, .inl ⟨hp, fun l n => q.new n⟩⟩
def rSlN : V → Option Int → Option Int → Hp → VK → Prop := fun x lo hi H Q => ∃ a xs, x = .ref a ∧ H a = some (.tup xs) ∧ Tupn H (cutV xs lo hi) Q
theorem sl_tupN : SlR X rSlN := by
  intro pins s σ H x v vl vu lo hi sl Q I rx hs pl pu h
  obtain ⟨a, xs, rfl, hx, q⟩ := h
  refine sl_tupA pins s σ H _ v vl vu lo hi sl Q I rx hs pl pu ⟨a, xs, rfl, SqT.of hx, fun e => ?_, fun _ p n => q.new n⟩
  have ec : cutV xs lo hi = xs := by
    unfold cutV
    rw [e.1, e.2, List.drop_zero, Nat.sub_zero, List.take_length]
  exact q _ _ (Same.refl H) (by rw [ec]; exact hx)
end
/-! ### what is written leaves tuples as they are -/
def Wo : HO → Prop
  | .lst _ => True
  | .dK _ => True
  | .dT _ => True
  | _ => False
theorem Wo.nc {H : Hp} {p : Addr} {o : HO} (h : H p = some o) (w : Wo o) : NC (H p) := by
  rw [h]
  cases o <;> first | trivial | exact w.elim
theorem keepT_wo {K : PySem.W.Frag} {H : Hp} {p t : Addr} {xs : List V} {o o' : HO} (h : SqT K H t xs) (e : H p = some o) (w : Wo o) : SqT K (upd H p o') t xs := by
  rcases h with (h | ⟨u, h⟩) | h
  · refine .inl (.inl ?_)
    rw [upd_ne (fun z => by rw [z, e] at h; cases h; exact w)]
    exact h
  · refine .inl (.inr ⟨u, ?_⟩)
    rw [upd_ne (fun z => by rw [z, e] at h; cases h; exact w)]
    exact h
  · exact .inr h
theorem upd_at {H : Hp} {p a : Addr} {o o' u : HO} (h : H a = some u) (e : H p = some o) (n : u ≠ o) : upd H p o' a = some u := by
  rw [upd_ne (fun z => by rw [z, e] at h; cases h; exact n rfl)]
  exact h
theorem ixNn {n j : Nat} (hj : j < n) : ixN n (j : Int) = some j := by
  have a : (0 : Int) ≤ (j : Int) := Int.natCast_nonneg j
  have b : (j : Int) < (n : Int) := by omega
  simp [ixN, a, b]
/-- a row of whole numbers, not below zero -/
def nV (xs : List Nat) : List V := xs.map fun n : Nat => V.int (n : Int)
theorem nV_len (xs : List Nat) : (nV xs).length = xs.length := List.length_map ..
theorem nV_get {xs : List Nat} {i : Nat} {v : V} (h : (nV xs)[i]? = some v) : ∃ n, xs[i]? = some n ∧ v = .int (n : Int) := by
  unfold nV at h
  rw [List.getElem?_map] at h
  cases e : xs[i]? with
  | none => rw [e] at h; cases h
  | some n => rw [e] at h; exact ⟨n, rfl, (Option.some.inj h).symm⟩
theorem nV_ints (xs : List Nat) : nV xs = (xs.map fun n : Nat => (n : Int)).map V.int := by
  unfold nV
  rw [List.map_map]
  rfl
theorem nV_app (xs ys : List Nat) : nV (xs ++ ys) = nV xs ++ nV ys := List.map_append ..
/-- a pair of whole numbers -/
def IsP (K : PySem.W.Frag) (x : Nat × Nat) (v : V) (H : Hp) : Prop := ∃ t, v = .ref t ∧ SqT K H t [.int (x.1 : Int), .int (x.2 : Int)]
theorem IsP.keep {K : PySem.W.Frag} {x : Nat × Nat} {v : V} {H H' : Hp} (s : Same H H') (h : IsP K x v H) : IsP K x v H' := by
  obtain ⟨t, e, k⟩ := h
  exact ⟨t, e, keepT s k⟩
theorem IsP.put {K : PySem.W.Frag} {x : Nat × Nat} {v : V} {H : Hp} {p : Addr} {o o' : HO} (e : H p = some o) (w : Wo o) (h : IsP K x v H) : IsP K x v (upd H p o') := by
  obtain ⟨t, ev, k⟩ := h
  exact ⟨t, ev, keepT_wo k e w⟩
def Ps (K : PySem.W.Frag) (H : Hp) (T : List (Nat × Nat)) (vs : List V) : Prop := Al2 (fun x v => IsP K x v H) T vs
end Fc

namespace Fc
/-! ### copies of what stood ahead -/
def agr (S : List Int) (q far m : Nat) : Prop := q + m ≤ S.length ∧ ∀ i, i < m → S[q + i]? = S[q + i - far]?
def cop (S : List Int) (q far m : Nat) : Prop := 1 ≤ far ∧ far ≤ q ∧ far ≤ 256 ∧ m ≤ 130 ∧ agr S q far m
theorem agr.le {S : List Int} {q far m m' : Nat} (h : agr S q far m) (l : m' ≤ m) : agr S q far m' := ⟨by have := h.1; omega, fun i hi => h.2 i (by omega)⟩
theorem cop.le {S : List Int} {q far m m' : Nat} (h : cop S q far m) (l : m' ≤ m) : cop S q far m' := ⟨h.1, h.2.1, h.2.2.1, by have := h.2.2.2.1; omega, h.2.2.2.2.le l⟩
theorem cop.next {S : List Int} {q far m : Nat} (h : cop S q far (m + 1)) : cop S (q + 1) far m := by
  obtain ⟨a, b, c, d, e, f⟩ := h
  refine ⟨a, by omega, c, by omega, by omega, fun i hi => ?_⟩
  have := f (i + 1) (by omega)
  rw [show q + 1 + i = q + (i + 1) by omega]
  exact this
def runF (p : Nat → Bool) : Nat → Nat → Nat
  | 0, i => i
  | f + 1, i => if p i = true then runF p f (i + 1) else i
theorem runF_ge (p : Nat → Bool) : ∀ f i, i ≤ runF p f i
  | 0, i => Nat.le_refl _
  | f + 1, i => by
    rw [runF]
    split
    · have := runF_ge p f (i + 1)
      omega
    · exact Nat.le_refl _
theorem runF_le (p : Nat → Bool) : ∀ f i, runF p f i ≤ i + f
  | 0, i => Nat.le_refl _
  | f + 1, i => by
    rw [runF]
    split
    · have := runF_le p f (i + 1)
      omega
    · omega
theorem runF_all (p : Nat → Bool) : ∀ f i j, i ≤ j → j < runF p f i → p j = true
  | 0, i, j, h1, h2 => by
    rw [runF] at h2
    omega
  | f + 1, i, j, h1, h2 => by
    rw [runF] at h2
    split at h2
    · rename_i hp
      by_cases e : j = i
      · rw [e]; exact hp
      · exact runF_all p f (i + 1) j (by omega) h2
    · omega
theorem runF_end (p : Nat → Bool) : ∀ f i, runF p f i = i + f ∨ p (runF p f i) = false
  | 0, i => .inl rfl
  | f + 1, i => by
    rw [runF]
    split
    · rcases runF_end p f (i + 1) with h | h
      · left; omega
      · exact .inr h
    · rename_i hp
      exact .inr (Bool.eq_false_iff.mpr hp)
def eqAt (S : List Int) (q far i : Nat) : Bool := decide (S[q + i]? = S[q + i - far]?)
def runS (S : List Int) (q far : Nat) : Nat := runF (eqAt S q far) (S.length - q) 0
def repF (S : List Int) (q far : Nat) : Nat := min (runS S q far) 130
theorem agr_iff {S : List Int} {q far m : Nat} (hq : q ≤ S.length) : agr S q far m ↔ m ≤ runS S q far := by
  unfold runS
  constructor
  · intro ⟨h1, h2⟩
    rcases runF_end (eqAt S q far) (S.length - q) 0 with h | h
    · omega
    · by_cases l : m ≤ runF (eqAt S q far) (S.length - q) 0
      · exact l
      · have := h2 _ (Nat.lt_of_not_le l)
        unfold eqAt at h
        exact absurd this (of_decide_eq_false h)
  · intro h
    have hl := runF_le (eqAt S q far) (S.length - q) 0
    exact ⟨by omega, fun i hi => of_decide_eq_true (runF_all (eqAt S q far) (S.length - q) 0 i (Nat.zero_le _) (by omega))⟩
theorem cop_iff {S : List Int} {q far m : Nat} (hq : q ≤ S.length) (h1 : 1 ≤ far) (h2 : far ≤ q) (h3 : far ≤ 256) : cop S q far m ↔ m ≤ repF S q far := by
  unfold repF
  constructor
  · intro ⟨_, _, _, a, b⟩
    have := (agr_iff hq).mp b
    omega
  · intro h
    exact ⟨h1, h2, h3, by omega, (agr_iff hq).mpr (by omega)⟩
theorem fmax_ge : ∀ (l : List Nat) (a : Nat), a ≤ l.foldl max a ∧ ∀ x ∈ l, x ≤ l.foldl max a
  | [], a => ⟨Nat.le_refl _, fun x h => nomatch h⟩
  | y :: r, a => by
    have := fmax_ge r (max a y)
    refine ⟨by show a ≤ r.foldl max (max a y); omega, fun x hx => ?_⟩
    rcases List.mem_cons.mp hx with rfl | hx
    · show x ≤ r.foldl max (max a x)
      omega
    · exact this.2 x hx
theorem fmax_at : ∀ (l : List Nat) (a : Nat), l.foldl max a = a ∨ l.foldl max a ∈ l
  | [], a => .inl rfl
  | y :: r, a => by
    show r.foldl max (max a y) = a ∨ r.foldl max (max a y) ∈ y :: r
    rcases fmax_at r (max a y) with h | h
    · rw [h]
      by_cases l : y ≤ a
      · left; omega
      · right
        rw [show max a y = y by omega]
        exact List.mem_cons_self ..
    · exact .inr (List.mem_cons_of_mem _ h)
def reps (S : List Int) (q : Nat) : List Nat := (List.range (min q 256)).map fun j => repF S q (j + 1)
def lonF (S : List Int) (q : Nat) : Nat := (reps S q).foldl max 0
theorem lon_is {S : List Int} {q m : Nat} (hm : m ∈ 0 :: reps S q) (h : ∀ x ∈ 0 :: reps S q, x ≤ m) : m = lonF S q := by
  have g := fmax_ge (reps S q) 0
  have a : lonF S q ≤ m := by
    rcases fmax_at (reps S q) 0 with e | e
    · unfold lonF; omega
    · exact h _ (List.mem_cons_of_mem _ e)
  have b : m ≤ lonF S q := by
    rcases List.mem_cons.mp hm with e | e
    · omega
    · exact g.2 _ e
  omega
theorem lon_le {S : List Int} {q far m : Nat} (hq : q ≤ S.length) (h : cop S q far m) : m ≤ lonF S q := by
  have := (cop_iff hq h.1 h.2.1 h.2.2.1).mp h
  have g := (fmax_ge (reps S q) 0).2 (repF S q far) (List.mem_map.mpr ⟨far - 1, List.mem_range.mpr (by have := h.1; have := h.2.1; have := h.2.2.1; omega), by rw [show far - 1 + 1 = far by have := h.1; omega]⟩)
  unfold lonF
  omega
theorem lon_at {S : List Int} {q : Nat} (hq : q ≤ S.length) : lonF S q = 0 ∨ ∃ far, cop S q far (lonF S q) := by
  rcases fmax_at (reps S q) 0 with e | e
  · exact .inl e
  · right
    obtain ⟨j, hj, e2⟩ := List.mem_map.mp e
    have := List.mem_range.mp hj
    exact ⟨j + 1, (cop_iff hq (by omega) (by omega) (by omega)).mpr (by unfold lonF; omega)⟩
/-- a longest copy as the program tells it: right where it counts -/
structure LonOk (S : List Int) (q m b : Nat) : Prop where
  ok : 3 ≤ m → cop S q b m
  all : ∀ far k, 3 ≤ k → cop S q far k → k ≤ m
theorem LonOk.eq {S : List Int} {q m b : Nat} (hq : q ≤ S.length) (h : LonOk S q m b) (h3 : 3 ≤ m) : m = lonF S q := by
  have a := lon_le hq (h.ok h3)
  rcases lon_at hq with e | ⟨far, e⟩
  · omega
  · have := h.all far _ (by omega) e
    omega
theorem LonOk.few {S : List Int} {q m b : Nat} (hq : q ≤ S.length) (h : LonOk S q m b) (h3 : ¬ 3 ≤ m) : lonF S q < 3 := by
  rcases lon_at hq with e | ⟨far, e⟩
  · omega
  · by_cases l : lonF S q < 3
    · exact l
    · have := h.all far _ (by omega) e
      omega
theorem lon_few {S : List Int} {q : Nat} (hq : q ≤ S.length) : lonF S q ≤ S.length - q ∧ lonF S q ≤ 130 := by
  rcases lon_at hq with e | ⟨far, e⟩
  · omega
  · have := e.2.2.2.1
    have := e.2.2.2.2.1
    omega
/-! ### the least cost -/
def minL : List Nat → Nat
  | [] => 0
  | x :: r => r.foldl min x
theorem fmin_le : ∀ (l : List Nat) (a : Nat), l.foldl min a ≤ a ∧ ∀ x ∈ l, l.foldl min a ≤ x
  | [], a => ⟨Nat.le_refl _, fun x h => nomatch h⟩
  | y :: r, a => by
    have := fmin_le r (min a y)
    refine ⟨by show r.foldl min (min a y) ≤ a; omega, fun x hx => ?_⟩
    rcases List.mem_cons.mp hx with rfl | hx
    · show r.foldl min (min a x) ≤ x
      omega
    · exact this.2 x hx
theorem fmin_at : ∀ (l : List Nat) (a : Nat), l.foldl min a = a ∨ l.foldl min a ∈ l
  | [], a => .inl rfl
  | y :: r, a => by
    show r.foldl min (min a y) = a ∨ r.foldl min (min a y) ∈ y :: r
    rcases fmin_at r (min a y) with h | h
    · rw [h]
      by_cases l : a ≤ y
      · left; omega
      · right
        rw [show min a y = y by omega]
        exact List.mem_cons_self ..
    · exact .inr (List.mem_cons_of_mem _ h)
theorem minL_is {l : List Nat} {m : Nat} (hm : m ∈ l) (h : ∀ x ∈ l, m ≤ x) : m = minL l := by
  cases l with
  | nil => cases hm
  | cons x r =>
    have g := fmin_le r x
    have a : minL (x :: r) ≤ m := by
      show r.foldl min x ≤ m
      rcases List.mem_cons.mp hm with e | e
      · omega
      · exact g.2 _ e
    have b : m ≤ minL (x :: r) := by
      show m ≤ r.foldl min x
      rcases fmin_at r x with e | e
      · rw [e]; exact h _ (List.mem_cons_self ..)
      · exact h _ (List.mem_cons_of_mem _ e)
    omega
theorem minL_mem {l : List Nat} (hl : 0 < l.length) : minL l ∈ l ∧ ∀ x ∈ l, minL l ≤ x := by
  cases l with
  | nil => cases hl
  | cons x r =>
    have g := fmin_le r x
    refine ⟨?_, fun y hy => ?_⟩
    · show r.foldl min x ∈ x :: r
      rcases fmin_at r x with e | e
      · rw [e]; exact List.mem_cons_self ..
      · exact List.mem_cons_of_mem _ e
    · show r.foldl min x ≤ y
      rcases List.mem_cons.mp hy with e | e
      · rw [e]; exact g.1
      · exact g.2 _ e
def rowN (C : List Nat) (k : Nat) : List Nat := (List.range k).map fun j => 2 + j + C.getD j 0
def rowC (C : List Nat) (l : Nat) : List Nat := (List.range (l - 2)).map fun j => 2 + C.getD (j + 2) 0
def stepC (l k : Nat) (C : List Nat) : List Nat := minL (rowN C (min 128 (k + 1)) ++ rowC C l) :: C
def costR (L : Nat → Nat) : Nat → List Nat
  | 0 => [0]
  | k + 1 => stepC (L (k + 1)) k (costR L k)
def cst (L : Nat → Nat) (k : Nat) : Nat := (costR L k).headD 0
theorem costR_len (L : Nat → Nat) : ∀ k, (costR L k).length = k + 1
  | 0 => rfl
  | k + 1 => by
    show (costR L k).length + 1 = _
    rw [costR_len L k]
theorem cost_get (L : Nat → Nat) : ∀ (k j : Nat), j ≤ k → (costR L k).getD j 0 = cst L (k - j)
  | 0, j, h => by
    obtain rfl : j = 0 := by omega
    rfl
  | k + 1, 0, _ => by
    show (costR L (k + 1)).getD 0 0 = (costR L (k + 1)).headD 0
    rfl
  | k + 1, j + 1, h => by
    rw [show k + 1 - (j + 1) = k - j by omega, ← cost_get L k j (by omega)]
    rfl
theorem cst_zero (L : Nat → Nat) : cst L 0 = 0 := rfl
theorem cst_succ (L : Nat → Nat) (k : Nat) : cst L (k + 1) = minL (rowN (costR L k) (min 128 (k + 1)) ++ rowC (costR L k) (L (k + 1))) := rfl
/-- v is a cost of a first deed -/
def Way (L : Nat → Nat) (k v : Nat) : Prop := (∃ j, j < 128 ∧ j ≤ k ∧ v = 2 + j + cst L (k - j)) ∨ ∃ j, j + 3 ≤ L (k + 1) ∧ v = 2 + cst L (k - (j + 2))
theorem way_mem {L : Nat → Nat} {k v : Nat} (hl : L (k + 1) ≤ k + 1) : v ∈ rowN (costR L k) (min 128 (k + 1)) ++ rowC (costR L k) (L (k + 1)) ↔ Way L k v := by
  unfold Way rowN rowC
  rw [List.mem_append, List.mem_map, List.mem_map]
  constructor
  · rintro (⟨j, hj, e⟩ | ⟨j, hj, e⟩)
    · have := List.mem_range.mp hj
      rw [cost_get L k j (by omega)] at e
      exact .inl ⟨j, by omega, by omega, e.symm⟩
    · have := List.mem_range.mp hj
      rw [cost_get L k (j + 2) (by omega)] at e
      exact .inr ⟨j, by omega, e.symm⟩
  · rintro (⟨j, h1, h2, e⟩ | ⟨j, h1, e⟩)
    · exact .inl ⟨j, List.mem_range.mpr (by omega), by rw [cost_get L k j (by omega)]; exact e.symm⟩
    · exact .inr ⟨j, List.mem_range.mpr (by omega), by rw [cost_get L k (j + 2) (by omega)]; exact e.symm⟩
theorem cst_is {L : Nat → Nat} {k v : Nat} (hl : L (k + 1) ≤ k + 1) (hv : Way L k v) (h : ∀ u, Way L k u → v ≤ u) : cst L (k + 1) = v := by
  rw [cst_succ]
  exact (minL_is ((way_mem hl).mpr hv) fun x hx => h x ((way_mem hl).mp hx)).symm
theorem cst_way {L : Nat → Nat} {k : Nat} (hl : L (k + 1) ≤ k + 1) : Way L k (cst L (k + 1)) ∧ ∀ u, Way L k u → cst L (k + 1) ≤ u := by
  have hp : 0 < (rowN (costR L k) (min 128 (k + 1)) ++ rowC (costR L k) (L (k + 1))).length := by
    unfold rowN
    rw [List.length_append, List.length_map, List.length_range]
    omega
  have := minL_mem hp
  rw [cst_succ]
  exact ⟨(way_mem hl).mp this.1, fun u hu => this.2 u ((way_mem hl).mpr hu)⟩
theorem cst_le {L : Nat → Nat} {n : Nat} (hl : ∀ k, k < n → L (k + 1) ≤ k + 1) : ∀ k, k ≤ n → cst L k ≤ 2 * k
  | 0, _ => Nat.le_refl _
  | k + 1, h => by
    have a := (cst_way (hl k (by omega))).2 (2 + 0 + cst L (k - 0)) (.inl ⟨0, by omega, by omega, rfl⟩)
    have b := cst_le hl k (by omega)
    rw [Nat.sub_zero] at a
    omega
/-- costs tell alike if the longest copies do -/
theorem cost_congr {L M : Nat → Nat} : ∀ (n : Nat), (∀ k, k < n → L (k + 1) - 2 = M (k + 1) - 2) → costR L n = costR M n
  | 0, _ => rfl
  | k + 1, h => by
    have e := cost_congr k fun j hj => h j (by omega)
    show stepC _ k (costR L k) = stepC _ k (costR M k)
    rw [e]
    unfold stepC rowC
    rw [h k (by omega)]
/-- by a formula -/
theorem cst_by {L f : Nat → Nat} {n : Nat} (hl : ∀ k, k < n → L (k + 1) ≤ k + 1) (f0 : f 0 = 0)
    (hf : ∀ k, k < n → ((∃ j, j < 128 ∧ j ≤ k ∧ f (k + 1) = 2 + j + f (k - j)) ∨ ∃ j, j + 3 ≤ L (k + 1) ∧ f (k + 1) = 2 + f (k - (j + 2))) ∧ (∀ j, j < 128 → j ≤ k → f (k + 1) ≤ 2 + j + f (k - j)) ∧ ∀ j, j + 3 ≤ L (k + 1) → f (k + 1) ≤ 2 + f (k - (j + 2))) :
    ∀ k, k ≤ n → cst L k = f k := by
  have go : ∀ m k, k ≤ m → k ≤ n → cst L k = f k := by
    intro m
    induction m with
    | zero =>
      intro k h _
      obtain rfl : k = 0 := by omega
      rw [f0]
      rfl
    | succ m ih =>
      intro k h hn
      cases k with
      | zero => rw [f0]; rfl
      | succ k =>
        obtain ⟨h1, h2, h3⟩ := hf k (by omega)
        refine cst_is (hl k (by omega)) ?_ (fun u hu => ?_)
        · rcases h1 with ⟨j, a, b, e⟩ | ⟨j, a, e⟩
          · exact .inl ⟨j, a, b, by rw [ih (k - j) (by omega) (by omega)]; exact e⟩
          · exact .inr ⟨j, a, by rw [ih (k - (j + 2)) (by omega) (by omega)]; exact e⟩
        · rcases hu with ⟨j, a, b, rfl⟩ | ⟨j, a, rfl⟩
          · rw [ih (k - j) (by omega) (by omega)]
            exact h2 j a b
          · rw [ih (k - (j + 2)) (by omega) (by omega)]
            exact h3 j a
  exact fun k hk => go k k (Nat.le_refl _) hk
/-- no copies -/
theorem cst_new {L : Nat → Nat} {n : Nat} (hn : n ≤ 200) (hl : ∀ k, k < n → L (k + 1) < 3) (hl2 : ∀ k, k < n → L (k + 1) ≤ k + 1) : cst L n = n + (n + 127) / 128 := by
  refine cst_by (f := fun k => k + (k + 127) / 128) (n := n) hl2 rfl (fun k hk => ⟨?_, fun j h1 h2 => ?_, fun j h => ?_⟩) n (Nat.le_refl _)
  · left
    by_cases z : k < 128
    · exact ⟨k, z, Nat.le_refl _, by omega⟩
    · exact ⟨127, by omega, by omega, by omega⟩
  · omega
  · have := hl k hk
    omega
/-- all alike -/
def alikeF (n k : Nat) : Nat := if k = 0 then 0 else if k = n then (if n = 131 then 4 else if n = 132 then 5 else 6) else if k ≤ 2 then k + 1 else if k ≤ 130 then 2 else 4
theorem cst_alike {L : Nat → Nat} {n : Nat} (h1 : 131 ≤ n) (h2 : n ≤ 136) (hl : ∀ k, k + 1 < n → L (k + 1) = min (k + 1) 130) (hn : L n = 0) : cst L n = min (4 + (n - 131)) 6 := by
  have hl2 : ∀ k, k < n → L (k + 1) ≤ k + 1 := fun k hk => by
    by_cases z : k + 1 < n
    · rw [hl k z]; omega
    · rw [show k + 1 = n by omega, hn]; omega
  have e := cst_by (f := alikeF n) hl2 rfl (fun k hk => ⟨?_, fun j a b => ?_, fun j a => ?_⟩) n (Nat.le_refl _)
  · rw [e]
    unfold alikeF
    split
    · omega
    · split
      · split
        · omega
        · split <;> omega
      · omega
  · by_cases z : k + 1 < n
    · rw [hl k z]
      by_cases z2 : k + 1 ≤ 2
      · left
        refine ⟨k, by omega, by omega, ?_⟩
        unfold alikeF
        repeat' split
        all_goals omega
      · right
        by_cases z3 : k + 1 ≤ 130
        · refine ⟨k - 2, by omega, ?_⟩
          unfold alikeF
          repeat' split
          all_goals omega
        · refine ⟨127 - (if k + 1 - 130 ≤ 2 then 3 else 0), by split <;> omega, ?_⟩
          unfold alikeF
          repeat' split
          all_goals omega
    · left
      by_cases z4 : n = 132
      · refine ⟨1, by omega, by omega, ?_⟩
        unfold alikeF
        repeat' split
        all_goals omega
      · refine ⟨0, by omega, by omega, ?_⟩
        unfold alikeF
        repeat' split
        all_goals omega
  · unfold alikeF
    repeat' split
    all_goals omega
  · by_cases z : k + 1 < n
    · rw [hl k z] at a
      unfold alikeF
      repeat' split
      all_goals omega
    · rw [show k + 1 = n by omega, hn] at a
      omega
variable [LamNames]
/-! ### deeds that bring a body -/
def dF (r B : List Int) : Option (List Int) := deedsF r.length r B
theorem deedsF_fuel : ∀ (f g : Nat) (r B : List Int), r.length ≤ f → r.length ≤ g → deedsF f r B = deedsF g r B
  | f, g, [], B, _, _ => by rw [deedsF_end, deedsF_end]
  | 0, _, _ :: _, _, h, _ => by simp at h
  | _, 0, _ :: _, _, _, h => by simp at h
  | f + 1, g + 1, n :: r, B, h, h' => by
    rw [List.length_cons] at h h'
    rw [deedsF, deedsF]
    split
    · split
      · rfl
      · exact deedsF_fuel f g _ _ (by rw [List.length_drop]; omega) (by rw [List.length_drop]; omega)
    · split
      · rfl
      · split
        · rfl
        · exact deedsF_fuel f g _ _ (by rw [List.length_drop]; omega) (by rw [List.length_drop]; omega)
theorem dF_new {m : Nat} {X r B : List Int} (h1 : 1 ≤ m) (h2 : m ≤ 128) (hX : X.length = m) : dF ((((m : Int) - 1) :: X) ++ r) B = dF r (B ++ X) := by
  unfold dF
  rw [List.cons_append, List.length_cons, deedsF_lit (by omega), show ((m : Int) - 1 + 1).toNat = m by omega, if_neg (by rw [List.length_append]; omega), List.drop_left' hX, List.take_left' hX]
  exact deedsF_fuel _ _ _ _ (by rw [List.length_append]; omega) (Nat.le_refl _)
theorem dF_copy {m b : Nat} {r B : List Int} (h1 : 3 ≤ m) (hb : 1 ≤ b) (h2 : b ≤ B.length) : dF (([((m : Int) - 3 + 128), ((b : Int) - 1)]) ++ r) B = dF r (copyB m b B) := by
  unfold dF
  show deedsF (r.length + 1 + 1) ((((m : Int) - 3 + 128)) :: ((b : Int) - 1) :: r) B = _
  rw [deedsF_back (by omega), if_neg (by omega), show ((m : Int) - 3 + 128 - 125).toNat = m by omega, show ((b : Int) - 1 + 1).toNat = b by omega]
  exact deedsF_fuel _ _ _ _ (by omega) (Nat.le_refl _)
theorem copy_take {S : List Int} {q far : Nat} : ∀ {m : Nat}, cop S q far m → copyB m far (S.take q) = S.take (q + m)
  | 0, _ => rfl
  | m + 1, h => by
    rw [copyB_succ, copy_take (h.le (Nat.le_succ m))]
    have h4 := h.2.2.2.2.1
    have f1 := h.1
    have f2 := h.2.1
    have e := h.2.2.2.2.2 m (by omega)
    unfold moreB
    rw [List.length_take, show min (q + m) S.length = q + m by omega, show q + (m + 1) = q + m + 1 by omega, List.take_add_one, e, List.getD_eq_getElem?_getD, List.getElem?_take, if_pos (by omega), List.getElem?_eq_getElem (show q + m - far < S.length by omega)]
    rfl
end Fc

namespace Fc
open PySem PySem.Spec L2 PyProof.Rows
def topS (i : Nat) : Stmt := PySem.Challenge.pw_filecrate_k09_whole_looking_back_is_leas.main.body.getD i (.Pass ⟨0, 0, 0, 0⟩)
abbrev sBodyDeeds : Stmt := topS 11
abbrev nBodyDeeds : List Str := ["body", "steps", "told", "at", "many", "back"]
theorem scBodyDeeds : FnScope nBodyDeeds ["body"] (defScope sBodyDeeds) := ⟨rfl, rfl, rfl, by decide +kernel, rfl, by decide +kernel, by decide +kernel⟩
abbrev sDeedBytes : Stmt := topS 12
abbrev nDeedBytes : List Str := ["body", "at", "many", "back"]
theorem scDeedBytes : FnScope nDeedBytes ["body", "at", "many", "back"] (defScope sDeedBytes) := ⟨rfl, rfl, rfl, by decide +kernel, rfl, by decide +kernel, by decide +kernel⟩
abbrev sCheapestSteps : Stmt := topS 13
abbrev nCheapestSteps : List Str := ["body", "copies", "costs", "steps", "at", "longest", "back", "many", "cost"]
theorem scCheapestSteps : FnScope nCheapestSteps ["body"] (defScope sCheapestSteps) := ⟨rfl, rfl, rfl, by decide +kernel, rfl, by decide +kernel, by decide +kernel⟩
abbrev sCheapestNew : Stmt := topS 14
abbrev nCheapestNew : List Str := ["costs", "at", "most", "ways", "cost", "many"]
theorem scCheapestNew : FnScope nCheapestNew ["costs", "at"] (defScope sCheapestNew) := ⟨rfl, rfl, rfl, by decide +kernel, rfl, by decide +kernel, by decide +kernel⟩
abbrev sCheapestCopy : Stmt := topS 15
abbrev nCheapestCopy : List Str := ["costs", "at", "longest", "ways", "cost", "many"]
theorem scCheapestCopy : FnScope nCheapestCopy ["costs", "at", "longest"] (defScope sCheapestCopy) := ⟨rfl, rfl, rfl, by decide +kernel, rfl, by decide +kernel, by decide +kernel⟩
abbrev sLongestCopies : Stmt := topS 16
abbrev nLongestCopies : List Str := ["body", "told", "earlier", "many", "back", "at", "three", "near", "start"]
theorem scLongestCopies : FnScope nLongestCopies ["body"] (defScope sLongestCopies) := ⟨rfl, rfl, rfl, by decide +kernel, rfl, by decide +kernel, by decide +kernel⟩
abbrev sCanCopy : Stmt := topS 17
abbrev nCanCopy : List Str := ["body", "start", "at", "many"]
theorem scCanCopy : FnScope nCanCopy ["body", "start", "at", "many"] (defScope sCanCopy) := ⟨rfl, rfl, rfl, by decide +kernel, rfl, by decide +kernel, by decide +kernel⟩
abbrev sBodyOfDeeds : Stmt := topS 18
abbrev nBodyOfDeeds : List Str := ["some", "body", "at", "behind"]
theorem scBodyOfDeeds : FnScope nBodyOfDeeds ["some"] (defScope sBodyOfDeeds) := ⟨rfl, rfl, rfl, by decide +kernel, rfl, by decide +kernel, by decide +kernel⟩
abbrev sCheckWhole : Stmt := topS 19
abbrev nCheckWhole : List Str := ["some", "behind"]
theorem scCheckWhole : FnScope nCheckWhole ["some", "behind"] (defScope sCheckWhole) := ⟨rfl, rfl, rfl, by decide +kernel, rfl, by decide +kernel, by decide +kernel⟩
abbrev sAddCopies : Stmt := topS 20
abbrev nAddCopies : List Str := ["body", "many", "back", "k"]
theorem scAddCopies : FnScope nAddCopies ["body", "many", "back"] (defScope sAddCopies) := ⟨rfl, rfl, rfl, by decide +kernel, rfl, by decide +kernel, by decide +kernel⟩
abbrev sPressed : Stmt := topS 47
abbrev nPressed : List Str := ["kind", "body"]
theorem scPressed : FnScope nPressed ["kind", "body"] (defScope sPressed) := ⟨rfl, rfl, rfl, by decide +kernel, rfl, by decide +kernel, by decide +kernel⟩
abbrev sUnpressed : Stmt := topS 48
abbrev nUnpressed : List Str := ["kind", "some"]
theorem scUnpressed : FnScope nUnpressed ["kind", "some"] (defScope sUnpressed) := ⟨rfl, rfl, rfl, by decide +kernel, rfl, by decide +kernel, by decide +kernel⟩
abbrev sLawD : Stmt := topS 50
abbrev nLawD : List Str := ["_law_cell", "_law_place", "_law_many", "_law_number"]
theorem scLawD : FnScope nLawD ["_law_cell", "_law_place", "_law_many"] (defScope sLawD) := ⟨rfl, rfl, rfl, by decide +kernel, rfl, by decide +kernel, by decide +kernel⟩
abbrev sLawSame : Stmt := topS 51
abbrev nLawSame : List Str := ["_law_told", "_law_due", "_law_one", "_law_other"]
theorem scLawSame : FnScope nLawSame ["_law_told", "_law_due"] (defScope sLawSame) := ⟨rfl, rfl, rfl, by decide +kernel, rfl, by decide +kernel, by decide +kernel⟩
abbrev sLawIsBytes : Stmt := topS 52
abbrev nLawIsBytes : List Str := ["_law_thing", "_law_one"]
theorem scLawIsBytes : FnScope nLawIsBytes ["_law_thing"] (defScope sLawIsBytes) := ⟨rfl, rfl, rfl, by decide +kernel, rfl, by decide +kernel, by decide +kernel⟩
abbrev sLawFew : Stmt := topS 53
abbrev nLawFew : List Str := ["_law_script", "_law_begin", "_law_end", "_law_cell", "_law_wide", "_law_one"]
theorem scLawFew : FnScope nLawFew ["_law_script", "_law_begin", "_law_end"] (defScope sLawFew) := ⟨rfl, rfl, rfl, by decide +kernel, rfl, by decide +kernel, by decide +kernel⟩
abbrev sLawBack : Stmt := topS 54
abbrev nLawBack : List Str := ["_law_some", "_law_body", "_law_at", "_law_many", "_law_far", "_law_k"]
theorem scLawBack : FnScope nLawBack ["_law_some"] (defScope sLawBack) := ⟨rfl, rfl, rfl, by decide +kernel, rfl, by decide +kernel, by decide +kernel⟩
abbrev sLawRepeats : Stmt := topS 55
abbrev nLawRepeats : List Str := ["_law_body", "_law_at", "_law_far", "_law_many"]
theorem scLawRepeats : FnScope nLawRepeats ["_law_body", "_law_at", "_law_far"] (defScope sLawRepeats) := ⟨rfl, rfl, rfl, by decide +kernel, rfl, by decide +kernel, by decide +kernel⟩
abbrev sLawLeast : Stmt := topS 56
abbrev nLawLeast : List Str := ["_law_body", "_law_least_here", "_law_at", "_law_some", "_law_longest", "_law_many", "_law_far"]
theorem scLawLeast : FnScope nLawLeast ["_law_body"] (defScope sLawLeast) := ⟨rfl, rfl, rfl, by decide +kernel, rfl, by decide +kernel, by decide +kernel⟩
abbrev sLawRight : Stmt := topS 57
abbrev nLawRight : List Str := ["_law_body", "_law_due", "_law_some"]
theorem scLawRight : FnScope nLawRight ["_law_body", "_law_due"] (defScope sLawRight) := ⟨rfl, rfl, rfl, by decide +kernel, rfl, by decide +kernel, by decide +kernel⟩
abbrev sLaw : Stmt := topS 58
abbrev nLaw : List Str := ["_law_script", "_law_body", "_law_cell", "_law_many", "_law_more", "_law_k"]
theorem scLaw : FnScope nLaw ["_law_script"] (defScope sLaw) := ⟨rfl, rfl, rfl, by decide +kernel, rfl, by decide +kernel, by decide +kernel⟩
structure Env (K : PySem.W.Frag) (mg : Str → Option Value) : Prop where
  b_all : mg "all" = none
  b_bool : mg "bool" = none
  b_int : mg "int" = none
  b_isinstance : mg "isinstance" = none
  b_len : mg "len" = none
  b_max : mg "max" = none
  b_min : mg "min" = none
  b_range : mg "range" = none
  b_str : mg "str" = none
  b_tuple : mg "tuple" = none
  b_zip : mg "zip" = none
  g_FIRST_COPY : ∃ t, mg "FIRST_COPY" = some (.int 128 t)
  g_KINDS : ∃ a, mg "KINDS" = some (.ref a) ∧ ∀ H, SqT K H a [.int 0, .int 1, .int 2]
  g_LEAST_COPIED : ∃ t, mg "LEAST_COPIED" = some (.int 3 t)
  g_MOST_BACK : ∃ t, mg "MOST_BACK" = some (.int 256 t)
  g_MOST_COPIED : ∃ t, mg "MOST_COPIED" = some (.int 130 t)
  g_MOST_NEW : ∃ t, mg "MOST_NEW" = some (.int 128 t)
  g_MOST_OF_BODY : ∃ t, mg "MOST_OF_BODY" = some (.int 1000 t)
structure Excs (K : PySem.W.Frag) (mg : Str → Option Value) (e_BadForm : Addr) : Prop where
  BadForm : Exc K mg "BadForm" e_BadForm
  p_BadForm_BadForm : PySem.W.exmOne K (.ref e_BadForm) (.ref e_BadForm) = some true

section
variable [LamNames] {P : Program} {w : World} {mg : Str → Option Value} {K : PySem.W.Frag} {base : Heap} {e_BadForm : Addr}
/-! ### can_copy -/
theorem take_agr {S : List Int} {s q m : Nat} (hs : s ≤ q) (hm : q + m ≤ S.length) : (S.drop s).take m = (S.drop q).take m ↔ agr S q (q - s) m := by
  unfold agr
  constructor
  · intro h
    refine ⟨hm, fun i hi => ?_⟩
    have := congrArg (fun l => l[i]?) h
    simp only [List.getElem?_take, List.getElem?_drop, if_pos hi] at this
    rw [show q + i - (q - s) = s + i by omega]
    exact this.symm
  · intro ⟨_, h⟩
    apply List.ext_getElem?
    intro i
    rw [List.getElem?_take, List.getElem?_take]
    by_cases hi : i < m
    · rw [if_pos hi, if_pos hi, List.getElem?_drop, List.getElem?_drop, h i hi, show q + i - (q - s) = s + i by omega]
    · rw [if_neg hi, if_neg hi]
def spCan (K : PySem.W.Frag) : Sp := fun vs H Q _ => ∃ (p : Addr) (S : List Int) (s q m : Nat), vs = [.ref p, .int (s : Int), .int (q : Int), .int (m : Int)] ∧ SqT K H p (S.map V.int) ∧ s < q ∧ 1 ≤ m ∧ ∀ b H', Same H H' → (b = true ↔ m ≤ 130 ∧ agr S q (q - s) m) → Q (.bl b) H'
theorem ok_can {f : Addr} {fd : FuncData} (Ev : Env K mg) (F : Fun K "can_copy" "can_copy" sCanCopy f fd) : FnOk P w K mg base CX0 1 f fd ["body", "start", "at", "many"] (spCan K) := by
  refine F.ok scCanCopy (fun vs H Q E h => ?_) (fun cdv A outer s H vs Q E hr h => ?_)
  · obtain ⟨p, S, s, q, m, rfl, _⟩ := h; rfl
  · obtain ⟨p, S, st, pl, m, rfl, hp, lt, m1, q⟩ := h
    refine ⟨_, (pss_cons (ps_if (PW.pt (pw_or (pt_cmpR op_gt (pv 3) (pe_globI (by rfl) Ev.g_MOST_COPIED) (nomark _)) (pw_or1 (pt_cmpR op_gt (pe_op op_add (pv 2) (pv 3)) (pe_callB call_len_seq (by rfl) Ev.b_len PySem.boot_len (pa_cons (pv 0) pa_nil)) (nomark _)))))
        (pss_one (ps_ret pe_bl))
        pss_nil)
      (pss_cons (ps_if (pt_cmpR op_ne (pe_ix ix_tup (pv 0) (pe_op op_sub (pe_op op_add (pv 1) (pv 3)) pe_int) (fun _ _ => rfl)) (pe_ix ix_tup (pv 0) (pe_op op_sub (pe_op op_add (pv 2) (pv 3)) pe_int) (fun _ _ => rfl)) (nomark _))
        (pss_one (ps_ret pe_bl))
        pss_nil)
      (pss_one (ps_ret (pe_cmpR (op_eqD hr.units) (pe_slice sl_tupU (pv 0) (po_some (pv 1)) (po_some (pe_op op_add (pv 1) (pv 3)))) (pe_slice sl_tupU (pv 0) (po_some (pv 2)) (po_some (pe_op op_add (pv 2) (pv 3)))) (nomark _)))))), ?_⟩
    have no : ¬ (m ≤ 130 ∧ agr S pl (pl - st) m) → Q (.bl false) H := fun n => q false H (Same.refl _) ⟨(fun z => nomatch z), fun z => absurd z n⟩
    refine ⟨_, rfl, _, _, rfl, rfl, _, rfl, ite2 (fun z => iteT ?_) (fun z => ?_)⟩
    · have z' := of_decide_eq_true z
      exact no fun ⟨a, _⟩ => by omega
    have z' : ¬ (130 : Int) < (m : Int) := fun y => z (decide_eq_true y)
    refine ⟨_, rfl, _, rfl, _, _, rfl, rfl, _, rfl, p, _, rfl, .inr hp, _, _, rfl, rfl, _, rfl, ite2 (fun y => ?_) (fun y => ?_)⟩
    · have y' := of_decide_eq_true y
      rw [List.length_map] at y'
      exact no fun ⟨_, a⟩ => by have := a.1; omega
    have y' : ¬ (((S.map V.int).length : Int) < (pl : Int) + (m : Int)) := fun x => y (decide_eq_true x)
    rw [List.length_map] at y'
    have l1 : st + m - 1 < S.length := by omega
    have l2 : pl + m - 1 < S.length := by omega
    have g1 : (S.map V.int)[st + m - 1]? = some (.int S[st + m - 1]) := by rw [List.getElem?_map, List.getElem?_eq_getElem l1]; rfl
    have g2 : (S.map V.int)[pl + m - 1]? = some (.int S[pl + m - 1]) := by rw [List.getElem?_map, List.getElem?_eq_getElem l2]; rfl
    refine ⟨_, rfl, _, rfl, _, rfl, _, _, rfl, rfl, _, _, rfl, rfl, p, _, _, _, rfl, rfl, hp, at_of (show (st : Int) + (m : Int) - 1 = ((st + m - 1 : Nat) : Int) by omega) g1, _, rfl, _, rfl, _, rfl, _, _, rfl, rfl, _, _, rfl, rfl, p, _, _, _, rfl, rfl, hp, at_of (show (pl : Int) + (m : Int) - 1 = ((pl + m - 1 : Nat) : Int) by omega) g2, rfl, _, rfl, ite2 (fun x => ?_) (fun x => ?_)⟩
    · have ne : S[st + m - 1] ≠ S[pl + m - 1] := fun e => by
        rw [e, decide_eq_true rfl] at x
        cases x
      exact no fun ⟨_, a⟩ => ne (by
        have := a.2 (m - 1) (by omega)
        rw [show pl + (m - 1) = pl + m - 1 by omega, show pl + m - 1 - (pl - st) = st + m - 1 by omega, List.getElem?_eq_getElem l2, List.getElem?_eq_getElem l1] at this
        exact (Option.some.inj this).symm)
    · refine ⟨_, rfl, _, rfl, (st : Int), rfl, _, rfl, _, rfl, _, _, rfl, rfl, ((st + m : Nat) : Int), congrArg V.int (by omega), p, _, rfl, hp, fun H1 t1 s1 h1 => ⟨_, rfl, _, rfl, (pl : Int), rfl, _, rfl, _, rfl, _, _, rfl, rfl, ((pl + m : Nat) : Int), congrArg V.int (by omega), p, _, rfl, keepT s1 hp, fun H2 t2 s2 h2 => ?_⟩⟩
      rw [cut_mid, show st + m - st = m by omega] at h1
      rw [cut_mid, show pl + m - pl = m by omega] at h2
      refine ⟨_, _, dp_ints (keepT s2 h1), dp_ints h2, shape_ints _, shape_ints _, ?_⟩
      rw [eqv_tup]
      refine q _ _ (s1.trans s2) ?_
      rw [decide_eq_true_eq, take_agr (by omega) (by omega)]
      exact ⟨fun a => ⟨by omega, a⟩, fun a => a.2⟩

/-! ### longest_copies -/
def thr (S : List Int) (s : Nat) : List Int := (S.drop s).take 3
def ky (k : List Int) : List Key := k.map Sum.inl
theorem ky_kV (k : List Int) : (ky k).map kV = k.map V.int := by
  unfold ky
  rw [List.map_map]
  rfl
/-- what earlier tells of the first i places -/
def Near (S : List Int) (d : Addr) (i : Nat) (H : Hp) (k : List Int) : Option V → Prop
  | none => ∀ s, s < i → thr S s ≠ k
  | some v => ∃ l xs, v = .ref l ∧ l ≠ d ∧ H l = some (.lst (nV xs)) ∧ xs.length ≤ i ∧ (∀ x ∈ xs, x < i) ∧ ∀ s, s < i → thr S s = k → s ∈ xs ∨ s + 256 < i
def EOk (S : List Int) (d : Addr) (i : Nat) (H : Hp) (kvs : List (List Key × V)) : Prop := ∀ k : List Int, Near S d i H k (valV kvs (ky k))
theorem ky_inj {a b : List Int} (h : ky a = ky b) : a = b := by
  unfold ky at h
  exact (List.map_inj_right (fun x y e => Sum.inl.inj e)).mp h
theorem thr_eq {S : List Int} {q far m : Nat} (h : cop S q far m) (h3 : 3 ≤ m) : thr S (q - far) = thr S q := by
  have f1 := h.1
  have f2 := h.2.1
  have l := h.2.2.2.2.1
  have := (take_agr (S := S) (s := q - far) (q := q) (m := 3) (by omega) (by omega)).mpr (by
    rw [show q - (q - far) = far by omega]
    exact h.2.2.2.2.le h3)
  exact this
def spLon (K : PySem.W.Frag) : Sp := fun vs H Q _ => ∃ (p : Addr) (S : List Int), vs = [.ref p] ∧ H p = some (.tup (S.map V.int)) ∧ S.length ≤ 1000 ∧ ∀ H' d ts (T : List (Nat × Nat)), Same H H' → H' d = some (.lst ts) → Ps K H' T ts → T.length = S.length → (∀ j x, T[j]? = some x → LonOk S j x.1 x.2) → Q (.ref d) H'
structure LonI (K : PySem.W.Frag) (S : List Int) (H : Hp) (p d e : Addr) (i : Nat) (m b : Nat) (T : List (Nat × Nat)) (ts : List V) (kvs : List (List Key × V)) (H' : Hp) : Prop where
  sm : Same H H'
  hd : H' d = some (.lst ts)
  ps : Ps K H' T ts
  lT : T.length = i
  ok : ∀ j x, T[j]? = some x → LonOk S j x.1 x.2
  he : H' e = some (.dT kvs)
  lk : kvs.length ≤ i
  ek : EOk S d i H' kvs
  mb : m = 0 ∨ (1 ≤ i ∧ cop S (i - 1) b m)
theorem putK_len (kvs : List (List Key × V)) (k : List Key) (v : V) : (putK kvs k v).length ≤ kvs.length + 1 := length_putK kvs k v
theorem ok_lon {f : Addr} {fd : FuncData} (Ev : Env K mg) (CCanCopy : Cal P w K mg base "can_copy" 1 ["body", "start", "at", "many"] (spCan K)) (F : Fun K "longest_copies" "longest_copies" sLongestCopies f fd) : FnOk P w K mg base CX0 2 f fd ["body"] (spLon K) := by
  refine F.ok scLongestCopies (fun vs H Q E h => ?_) (fun cdv A outer s H vs Q E hr h => ?_)
  · obtain ⟨p, S, rfl, _⟩ := h; rfl
  · obtain ⟨p, S, rfl, hp, few, q⟩ := h
    refine ⟨_, (pss_cons (ps_set (i := 1) scLongestCopies.nd rfl (.inl rfl) (pe_lst pa_nil))
      (pss_cons (ps_set (i := 2) scLongestCopies.nd rfl (.inl rfl) pe_dnewT)
      (pss_cons (ps_set (i := 3) scLongestCopies.nd rfl (.inl rfl) pe_int)
      (pss_cons (ps_set (i := 4) scLongestCopies.nd rfl (.inl rfl) pe_int)
      (pss_cons (ps_for PassesOwn.never rfl (pi_range1 (by rfl) Ev.b_range (pa_cons (pe_callB call_len_seq (by rfl) Ev.b_len PySem.boot_len (pa_cons (pv 0) pa_nil)) pa_nil)) (pg_name (i := 5) scLongestCopies.nd rfl (.inr rfl))
        (pss_cons (ps_set (i := 3) scLongestCopies.nd rfl (.inl rfl) (pe_callB (call_max2 rfl) (by rfl) Ev.b_max (by decide +kernel) (pa_cons pe_int (pa_cons (pe_op op_sub (pv 3) pe_int) pa_nil))))
        (pss_cons (ps_set (i := 6) scLongestCopies.nd rfl (.inl rfl) (pe_slice sl_tupN (pv 0) (po_some (pv 5)) (po_some (pe_op op_add (pv 5) (pe_globI (by rfl) Ev.g_LEAST_COPIED)))))
        (pss_cons (ps_setLc (i := 7) (own := [("start", 8)]) (g := gName 8) (by rfl) scLongestCopies.nd rfl rfl (sw_true rfl rfl rfl (by decide +kernel)) (pi_list (pe_dget2 (hu1 hr) (pv 2) (pv 6) (pe_lst pa_nil) ⟨rfl, rfl, rfl, rfl⟩)) (blkOk_by (own := [("start", 8)]) (N := nLongestCopies) (sc := defScope sLongestCopies) (by decide +kernel)) (fun _ _ _ _ _ => (pg_name (i := 8) scLongestCopies.nd rfl (.inl rfl))) (fun _ _ _ _ _ => pts_one (pt_cmpR op_le (pe_op op_sub (pv 5) (pv 8)) (pe_globI (by rfl) Ev.g_MOST_BACK) (nomark _))) (fun _ _ _ _ _ => (pv 8)))
        (pss_cons (ps_for PassesOwn.never rfl (pi_list (pv 7)) (pg_name (i := 8) scLongestCopies.nd rfl (.inl rfl))
          (pss_one (ps_while PassesOwn.never (pt_val (pe_c CCanCopy (hr.mono (by omega)) (pa_cons (pv 0) (pa_cons (pv 8) (pa_cons (pv 5) (pa_cons (pe_op op_add (pv 3) pe_int) pa_nil))))))
            (pss_cons (ps_aug (i := 3) scLongestCopies.nd rfl (.inl rfl) pe_int ip_add)
            (pss_one (ps_set (i := 4) scLongestCopies.nd rfl (.inl rfl) (pe_op op_sub (pv 5) (pv 8))))))))
        (pss_cons (ps_expr (pe_bm PySem.F.plainAttrs_list PySem.F.slot_list_append PySem.F.type_list_append mt_append (pv 1) (pa_cons (pe_tupU (pa_cons (pv 3) (pa_cons (pv 4) pa_nil))) pa_nil)))
        (pss_one (ps_dput (hu1 hr) (pv 2) (pv 6) (pe_op op_cat (pv 7) (pe_lst (pa_cons (pv 5) pa_nil))) rfl))))))))
      (pss_one (ps_ret (pv 1)))))))), ?_⟩
    have sz : ∀ n : Nat, n ≤ 5000 → n ≤ sizeLine := fun n h => by rw [sizeLine_eq]; omega
    refine ⟨Nat.zero_le _, fun d nd e ne => ?_⟩
    have s1 : Same H (upd H d (.lst [])) := grow nd
    have s2 : Same H (upd (upd H d (.lst [])) e (.dT [])) := s1.trans (grow ne)
    have nde : e ≠ d := fun z => by rw [z, upd_same] at ne; cases ne
    have neH : H e = none := by rw [upd_ne nde] at ne; exact ne
    have hd0 : (upd (upd H d (.lst [])) e (.dT [])) d = some (.lst []) := by rw [upd_ne (Ne.symm nde), upd_same]
    have he0 : (upd (upd H d (.lst [])) e (.dT [])) e = some (.dT []) := upd_same
    refine ⟨_, rfl, p, _, rfl, .inr (SqT.of (s2 _ _ hp)), _, rfl, by rw [List.length_map]; omega, by rw [List.length_map]; omega, for_range (lo := 0) (fun i σ H' => ∃ (m b : Nat) (T : List (Nat × Nat)) (ts : List V) (kvs : List (List Key × V)) (y5 y6 y7 y8 : Option V), σ = [some (.ref p), some (.ref d), some (.ref e), some (.int (m : Int)), some (.int (b : Int)), y5, y6, y7, y8] ∧ LonI K S H p d e i m b T ts kvs H') ⟨0, 0, [], [], [], none, none, none, none, rfl, ⟨s2, hd0, .nil, rfl, (fun j x z => by cases z), he0, Nat.le_refl _, (fun k s hs => absurd hs (by omega)), .inl rfl⟩⟩ (fun i σ H' hi p' => ?_) (fun σ H' p' => ?_)⟩
    · obtain ⟨m, b, T, ts, kvs, y5, y6, y7, y8, rfl, inv⟩ := p'
      have li : i < S.length := by
        rw [List.length_map] at hi
        omega
      have e0 : (0 : Int) + (i : Int) = (i : Int) := by omega
      rw [e0]
      refine ⟨_, rfl, _, _, rfl, rfl, _, _, rfl, ?_⟩
      have em : (if (m : Int) - 1 > 0 then (m : Int) - 1 else 0) = ((m - 1 : Nat) : Int) := by
        split <;> omega
      dsimp only
      rw [em]
      have mb : m - 1 = 0 ∨ cop S i b (m - 1) := by
        rcases inv.mb with z | ⟨i1, c⟩
        · left; omega
        · by_cases z : m ≤ 1
          · left; omega
          · right
            have c' : cop S (i - 1) b (m - 1 + 1) := by rw [show m - 1 + 1 = m by omega]; exact c
            have := c'.next
            rw [show i - 1 + 1 = i by omega] at this
            exact this
      generalize m - 1 = m0 at mb em ⊢
      have hp' := inv.sm _ _ hp
      refine ⟨_, rfl, _, rfl, (i : Int), rfl, _, rfl, _, _, rfl, rfl, ((i + 3 : Nat) : Int), congrArg V.int (by omega), p, _, rfl, hp', fun H1 t3 g1 h1 => ?_⟩
      rw [cut_mid, show i + 3 - i = 3 by omega] at h1
      have h1k : H1 t3 = some (.tup ((ky (thr S i)).map kV)) := by rw [ky_kV]; exact h1
      have he1 := g1 _ _ inv.he
      have hd1 := g1 _ _ inv.hd
      refine ⟨_, rfl, e, rfl, .inr ⟨_, .inl he1⟩, _, rfl, Nat.zero_le _, fun l0 n0 => ⟨_, DGet.t (g1.trans (grow n0) _ _ inv.he) (grow n0 _ _ h1k), ?_⟩⟩
      have g2 : Same H' (upd H1 l0 (.lst [])) := g1.trans (grow n0)
      have hl0 : (upd H1 l0 (.lst [])) l0 = some (.lst []) := upd_same
      have h2k := (grow n0 (o := .lst [])) _ _ h1k
      have nl0 : H' l0 = none := g1.free n0
      generalize upd H1 l0 (.lst []) = H2 at g2 hl0 h2k
      -- the starts that are told
      have hx : ∃ l xs, ((valV kvs (ky (thr S i))).getD (.ref l0)) = .ref l ∧ l ≠ d ∧ H2 l = some (.lst (nV xs)) ∧ xs.length ≤ i ∧ (∀ x ∈ xs, x < i) ∧ ∀ s, s < i → thr S s = thr S i → s ∈ xs ∨ s + 256 < i := by
        have ek := inv.ek (thr S i)
        cases ev : valV kvs (ky (thr S i)) with
        | none =>
          rw [ev] at ek
          exact ⟨l0, [], rfl, (fun z => by rw [z, inv.hd] at nl0; cases nl0), hl0, Nat.zero_le _, (fun x h => nomatch h), fun s hs e => absurd e (ek s hs)⟩
        | some v =>
          rw [ev] at ek
          obtain ⟨l, xs, rfl, k1, k2, k3⟩ := ek
          exact ⟨l, xs, rfl, k1, g2 _ _ k2, k3⟩
      obtain ⟨l, xs, el, nld, hl, lx, bx, cx⟩ := hx
      rw [el]
      refine ⟨l, rfl, ⟨_, SqL.of hl⟩, fun D nD => ?_⟩
      refine lcR_list (es := xs) (fun x : Nat => decide ((i : Int) - (x : Int) ≤ 256)) (fun x y _ => y = .int (x : Int)) nD (SqL.of hl) (nV_len xs).symm (sz _ (by omega)) (fun _ => rfl) (fun _ _ _ _ _ k => k) (fun _ _ _ _ _ _ _ k => k) (fun j x v H3 R hx hv s3 r => ?_) (fun j x v H3 R hx hv _ s3 r => ?_) (fun ys H3 al s3 hD => ?_)
      · obtain ⟨n, hn, rfl⟩ := nV_get hv
        have en : n = x := Option.some.inj (hn.symm.trans hx)
        subst en
        exact ⟨_, rfl, _, rfl, _, _, rfl, rfl, _, _, rfl, rfl, _, rfl, r _ (Same.refl _)⟩
      · obtain ⟨n, hn, rfl⟩ := nV_get hv
        have en : n = x := Option.some.inj (hn.symm.trans hx)
        subst en
        exact ⟨_, rfl, r _ _ (Same.refl _) rfl⟩
      obtain ⟨near, enr⟩ : ∃ near, near = xs.filter fun x : Nat => decide ((i : Int) - (x : Int) ≤ 256) := ⟨_, rfl⟩
      have eys : ys = nV near := by rw [enr]; exact al.eq_map
      rw [eys] at hD
      have lnr : near.length ≤ i := by
        rw [enr]
        exact Nat.le_trans (List.length_filter_le _ _) lx
      have bnr : ∀ x ∈ near, x < i ∧ i - x ≤ 256 := fun x hx => by
        rw [enr] at hx
        obtain ⟨a1, a2⟩ := List.mem_filter.mp hx
        have := of_decide_eq_true a2
        exact ⟨bx x a1, by omega⟩
      have cnr : ∀ s, s < i → thr S s = thr S i → i - s ≤ 256 → s ∈ near := fun s hs e h => by
        rcases cx s hs e with z | z
        · rw [enr]
          exact List.mem_filter.mpr ⟨z, decide_eq_true (by omega)⟩
        · omega
      have g3 : Same H' H3 := g2.trans s3
      have hD' : H' D = none := g2.free nD
      refine ⟨_, rfl, D, rfl, ⟨_, SqL.of hD⟩, for_list (xs := nV near) (fun j σ H4 => ∃ (m' b' : Nat) (y8 : Option V), σ = [some (.ref p), some (.ref d), some (.ref e), some (.int (m' : Int)), some (.int (b' : Int)), some (.int (i : Int)), some (.ref t3), some (.ref D), y8] ∧ Same H3 H4 ∧ (m' = 0 ∨ cop S i b' m') ∧ ∀ s ∈ near.take j, ¬ (m' + 1 ≤ 130 ∧ agr S i (i - s) (m' + 1))) ⟨m0, b, _, rfl, Same.refl _, mb, fun s hs => by cases hs⟩ (fun j σ H4 _ p' => ?_) (fun j x σ H4 hj p' => ?_) (fun σ H4 p' => ?_)⟩
      · obtain ⟨_, _, _, _, e4, _⟩ := p'
        exact e4.seq (SqL.of hD)
      · obtain ⟨m', b', y8, rfl, g4, c4, k4⟩ := p'
        obtain ⟨st, hst, rfl⟩ := nV_get hj
        have bst := bnr st (List.mem_of_getElem? hst)
        refine ⟨fun μ σ H5 => ∃ (m2 b2 : Nat), σ = [some (.ref p), some (.ref d), some (.ref e), some (.int (m2 : Int)), some (.int (b2 : Int)), some (.int (i : Int)), some (.ref t3), some (.ref D), some (.int (st : Int))] ∧ μ = 131 - m2 ∧ Same H3 H5 ∧ (m2 = 0 ∨ cop S i b2 m2) ∧ m' ≤ m2, ⟨_, m', b', rfl, rfl, g4, c4, Nat.le_refl _⟩, fun μ σ H5 hW => ?_⟩
        obtain ⟨m2, b2, rfl, rfl, g5, c5, le5⟩ := hW
        refine ⟨_, rfl, _, rfl, _, rfl, _, rfl, _, _, rfl, rfl, p, S, st, i, m2 + 1, congrArg (fun z => [V.ref p, V.int (st : Int), V.int (i : Int), V.int z]) (by omega), SqT.of ((g3.trans g5) _ _ hp'), bst.1, by omega, fun bb H6 g6 hb => ⟨bb, rfl, ite2 (fun z => ?_) (fun z => ?_)⟩⟩
        · obtain ⟨z1, z2⟩ := hb.mp z
          refine ⟨fun σ' H'' => ∃ m', m' < 131 - m2 ∧ _, fun σ' H'' h => h, ?_⟩
          refine ⟨_, rfl, _, _, rfl, rfl, _, rfl, _, rfl, _, _, rfl, rfl, 131 - (m2 + 1), by omega, m2 + 1, i - st, ?_, rfl, g5.trans g6, .inr ⟨by omega, by omega, by omega, z1, z2⟩, by omega⟩
          show [_, _, _, some (V.int ((m2 : Int) + 1)), some (V.int ((i : Int) - (st : Int))), _, _, _, _] = _
          rw [show (m2 : Int) + 1 = ((m2 + 1 : Nat) : Int) by omega, show (i : Int) - (st : Int) = ((i - st : Nat) : Int) by omega]
        · have nz : ¬ (m2 + 1 ≤ 130 ∧ agr S i (i - st) (m2 + 1)) := fun y => z (hb.mpr y)
          refine ⟨m2, b2, _, rfl, g5.trans g6, c5, fun s hs => ?_⟩
          rw [List.take_add_one, hst, Option.toList_some] at hs
          rcases List.mem_append.mp hs with hs | hs
          · exact fun y => k4 s hs ⟨by omega, y.2.le (by omega)⟩
          · rw [List.mem_singleton.mp hs]
            exact nz
      obtain ⟨m', b', y8, rfl, g4, c4, k4⟩ := p'
      rw [nV_len, List.take_length] at k4
      have g4' : Same H' H4 := g3.trans g4
      have hd4 := g4' _ _ inv.hd
      refine ⟨_, rfl, .inl ⟨rfl, _, SqL.of hd4⟩, _, rfl, _, rfl, sz _ (by simp), fun H5 t5 g5 h5 => ?_⟩
      have hd5 := g5 _ _ hd4
      have lts : ts.length = i := by rw [inv.ps.length, inv.lT]
      refine ⟨d, _, _, rfl, rfl, hd5, (by have := sz (ts.length + 1) (by omega); omega), ?_⟩
      -- the list of starts, anew
      have hD5 := g5 _ _ (g4 _ _ hD)
      have nDd : D ≠ d := fun z => by rw [z, inv.hd] at hD'; cases hD'
      obtain ⟨H6, e6⟩ : ∃ H6, H6 = upd H5 d (.lst (ts ++ [.ref t5])) := ⟨_, rfl⟩
      rw [← e6]
      have hD6 : H6 D = some (.lst (nV near)) := by rw [e6, upd_ne nDd]; exact hD5
      refine ⟨_, rfl, _, rfl, sz _ (by simp), fun l1 n1 => ⟨D, l1, _, _, rfl, rfl, (grow n1) _ _ hD6, upd_same, sz _ (by rw [nV_len]; show near.length + 1 ≤ _; omega), fun l2 n2 => ?_⟩⟩
      have g7 : Same H6 (upd (upd H6 l1 (.lst [.int (i : Int)])) l2 (.lst (nV near ++ [.int (i : Int)]))) := (grow n1).trans (grow n2)
      have hl7 : (upd (upd H6 l1 (.lst [.int (i : Int)])) l2 (.lst (nV near ++ [.int (i : Int)]))) l2 = some (.lst (nV near ++ [.int (i : Int)])) := upd_same
      have nl2 : H6 l2 = none := (grow n1).free n2
      generalize upd (upd H6 l1 (.lst [.int (i : Int)])) l2 (.lst (nV near ++ [.int (i : Int)])) = H7 at g7 hl7
      have g45 : Same H' H5 := g4'.trans g5
      have ned : e ≠ d := nde
      have he6 : H6 e = some (.dT kvs) := by rw [e6, upd_ne ned]; exact g45 _ _ inv.he
      have h36 : H6 t3 = some (.tup ((ky (thr S i)).map kV)) := by rw [e6]; exact upd_at (g5 _ _ (g4 _ _ (s3 _ _ h2k))) hd5 (fun z => nomatch z)
      have lkz : kvs.length < sizeLine := by
        have := sz (kvs.length + 1) (by have := inv.lk; omega)
        omega
      refine ⟨_, rfl, _, rfl, e, _, rfl, DPut.t (g7 _ _ he6) (g7 _ _ h36) lkz, ?_⟩
      have he7 := g7 _ _ he6
      have hd6 : H6 d = some (.lst (ts ++ [.ref t5])) := by rw [e6]; exact upd_same
      have hd7 := g7 _ _ hd6
      have el2 : nV near ++ [V.int (i : Int)] = nV (near ++ [i]) := by rw [nV_app]; rfl
      rw [el2] at hl7
      have nl2d : l2 ≠ d := fun z => by rw [z, hd6] at nl2; cases nl2
      refine ⟨m', b', T ++ [(m', b')], ts ++ [.ref t5], _, _, _, _, _, rfl, ⟨?_, ?_, ?_, ?_, ?_, upd_same, ?_, fun k => ?_, ?_⟩⟩
      · refine Same.over (Same.trans ?_ g7) neH (Wo.nc he7 trivial)
        rw [e6]
        exact (inv.sm.trans g45).over nd (Wo.nc hd5 trivial)
      · rw [upd_ne (Ne.symm ned)]
        exact hd7
      · have a5 : Ps K H5 T ts := inv.ps.mono fun _ _ k => k.keep g45
        have a6 : Ps K H6 (T ++ [(m', b')]) (ts ++ [.ref t5]) := by
          rw [e6]
          have one : IsP K (m', b') (.ref t5) (upd H5 d (.lst (ts ++ [.ref t5]))) := ⟨t5, rfl, keepT_wo h5 hd5 trivial⟩
          exact Al2.snoc (R := fun x v => IsP K x v (upd H5 d (.lst (ts ++ [.ref t5])))) one (a5.mono fun _ _ k => k.put hd5 trivial)
        exact a6.mono fun _ _ k => (k.keep g7).put he7 trivial
      · rw [List.length_append, inv.lT]; rfl
      · intro j x hx
        by_cases lj : j < T.length
        · rw [List.getElem?_append_left lj] at hx
          exact inv.ok j x hx
        · have ej : j = i := by
            have := (List.getElem?_eq_some_iff.mp hx).1
            rw [List.length_append, inv.lT] at this
            have l1 := inv.lT
            simp at this
            omega
          rw [ej, List.getElem?_append_right (by rw [inv.lT]; exact Nat.le_refl _), inv.lT, Nat.sub_self] at hx
          cases hx
          rw [ej]
          refine ⟨fun h3 => c4.resolve_left (by dsimp only at h3; omega), fun far k k3 ck => ?_⟩
          have f1 := ck.1
          have f2 := ck.2.1
          have f3 := ck.2.2.1
          have f4 := ck.2.2.2.1
          have mem := cnr (i - far) (by omega) (thr_eq ck k3) (by omega)
          have no := k4 _ mem
          rw [show i - (i - far) = far by omega] at no
          by_cases le : k ≤ m'
          · exact le
          · exact absurd ⟨by omega, ck.2.2.2.2.le (by omega)⟩ no
      · have := length_putK kvs (ky (thr S i)) (.ref l2)
        have := inv.lk
        omega
      · rw [valV_put]
        by_cases ek : ky k = ky (thr S i)
        · rw [if_pos ek]
          refine ⟨l2, near ++ [i], rfl, nl2d, ?_, ?_, fun x hx => ?_, fun s hs e => ?_⟩
          · rw [upd_ne (fun z => by rw [z, he7] at hl7; cases hl7)]
            exact hl7
          · rw [List.length_append]; simp; omega
          · rcases List.mem_append.mp hx with hx | hx
            · have := (bnr x hx).1
              omega
            · rw [List.mem_singleton.mp hx]; omega
          · rw [ky_inj ek] at e
            by_cases es : s = i
            · left; rw [es]; simp
            · by_cases w : i - s ≤ 256
              · exact .inl (List.mem_append_left _ (cnr s (by omega) e w))
              · right; omega
        · rw [if_neg ek]
          have old := inv.ek k
          cases ev : valV kvs (ky k) with
          | none =>
            rw [ev] at old
            intro s hs e
            by_cases es : s = i
            · rw [es] at e
              exact ek (congrArg ky e.symm)
            · exact old s (by omega) e
          | some v =>
            rw [ev] at old
            obtain ⟨l, xs, rfl, k1, k2, k3, k5, k6⟩ := old
            have kl : H6 l = some (.lst (nV xs)) := by rw [e6, upd_ne k1]; exact g45 _ _ k2
            refine ⟨l, xs, rfl, k1, upd_at (g7 _ _ kl) he7 (fun z => nomatch z), by omega, fun x hx => by have := k5 x hx; omega, fun s hs e => ?_⟩
            by_cases es : s = i
            · rw [es] at e
              exact absurd (congrArg ky e.symm) ek
            · rcases k6 s (by omega) e with z | z
              · exact .inl z
              · right; omega
      · rcases c4 with z | z
        · exact .inl z
        · exact .inr ⟨by omega, by rw [show i + 1 - 1 = i by omega]; exact z⟩
    · obtain ⟨m, b, T, ts, kvs, y5, y6, y7, y8, rfl, inv⟩ := p'
      have en : (((S.map V.int).length : Int)).toNat = S.length := by rw [List.length_map]; omega
      rw [en] at inv
      exact ⟨_, rfl, q _ _ _ T inv.sm inv.hd inv.ps inv.lT inv.ok⟩

/-! ### the cheapest first deed -/
theorem first_of {ns : List Int} {m : Int} (h : m ∈ ns) : ∃ j : Nat, ns[j]? = some m ∧ ∀ i : Nat, i < j → ns[i]? ≠ some m := by
  induction ns with
  | nil => cases h
  | cons x r ih =>
    by_cases e : x = m
    · exact ⟨0, by rw [e]; rfl, fun i hi => by omega⟩
    · obtain ⟨j, h1, h2⟩ := ih ((List.mem_cons.mp h).resolve_left (Ne.symm e))
      refine ⟨j + 1, h1, fun i hi => ?_⟩
      cases i with
      | zero => intro z; exact e (Option.some.inj z)
      | succ i => exact h2 i (by omega)
def rowI (g : Nat → Nat) (k : Nat) : List Int := (List.range k).map fun j => ((g j : Nat) : Int)
theorem rowI_len (g : Nat → Nat) (k : Nat) : (rowI g k).length = k := by rw [rowI, List.length_map, List.length_range]
theorem rowI_get {g : Nat → Nat} {k j : Nat} {x : Int} (h : (rowI g k)[j]? = some x) : j < k ∧ x = ((g j : Nat) : Int) := by
  have l : j < k := by
    have := (List.getElem?_eq_some_iff.mp h).1
    rwa [rowI_len] at this
  rw [rowI, List.getElem?_map, List.getElem?_range l] at h
  exact ⟨l, (Option.some.inj h).symm⟩
theorem rowI_min {g : Nat → Nat} {k : Nat} {m : Int} (hm : m ∈ rowI g k) (h : ∀ y ∈ rowI g k, m ≤ y) : ∃ j, j < k ∧ m = ((g j : Nat) : Int) ∧ (∀ i, i < k → g j ≤ g i) ∧ (rowI g k)[j]? = some m ∧ ∀ i, i < j → (rowI g k)[i]? ≠ some m := by
  obtain ⟨j, h1, h2⟩ := first_of hm
  obtain ⟨l, e⟩ := rowI_get h1
  refine ⟨j, l, e, fun i hi => ?_, h1, h2⟩
  have := h _ (List.mem_map.mpr ⟨i, List.mem_range.mpr hi, rfl⟩)
  omega
theorem flat_ints : ∀ ns : List Int, (ns.map V.int).all flatV = true
  | [] => rfl
  | n :: r => by rw [List.map_cons, List.all_cons, flat_ints r]; rfl
theorem ahead_ints {ns : List Int} {j : Nat} {m : Int} (h : ∀ i, i < j → ns[i]? ≠ some m) (i : Nat) (z : V) (hi : i < j) (hz : (ns.map V.int)[i]? = some z) : eqV z (.int m) = false := by
  obtain ⟨n, hn, rfl⟩ := got hz
  show (n == m) = false
  rw [beq_eq_false_iff_ne]
  intro e
  rw [e] at hn
  exact h i hi hn
theorem eqV_int (m : Int) : eqV (.int m) (.int m) = true := by
  show (m == m) = true
  rw [beq_self_eq_true]
theorem nV_at {A : List Nat} {i : Nat} (h : i < A.length) : (nV A)[i]? = some (.int ((A.getD i 0 : Nat) : Int)) := by
  unfold nV
  rw [List.getElem?_map, List.getElem?_eq_getElem h, List.getD_eq_getElem?_getD, List.getElem?_eq_getElem h]
  rfl
def spNew (K : PySem.W.Frag) : Sp := fun vs H Q _ => ∃ (c : Addr) (A : List Nat) (n q : Nat), vs = [.ref c, .int (q : Int)] ∧ H c = some (.lst (nV A)) ∧ A.length = n + 1 ∧ q < n ∧ n ≤ 1000 ∧ ∀ H' t j, Same H H' → j < 128 → q + 1 + j ≤ n → (∀ i, i < 128 → q + 1 + i ≤ n → 2 + j + A.getD (q + 1 + j) 0 ≤ 2 + i + A.getD (q + 1 + i) 0) → SqT K H' t [.int ((2 + j + A.getD (q + 1 + j) 0 : Nat) : Int), .int ((j + 1 : Nat) : Int)] → Q (.ref t) H'
theorem ok_new {f : Addr} {fd : FuncData} (Ev : Env K mg) (F : Fun K "cheapest_new" "cheapest_new" sCheapestNew f fd) : FnOk P w K mg base CX0 1 f fd ["costs", "at"] (spNew K) := by
  refine F.ok scCheapestNew (fun vs H Q E h => ?_) (fun cdv A outer s H vs Q E hr h => ?_)
  · obtain ⟨c, A, n, q, rfl, _⟩ := h; rfl
  · obtain ⟨c, C, n, pl, rfl, hc, lC, hq, few, q⟩ := h
    refine ⟨_, (pss_cons (ps_set (i := 2) scCheapestNew.nd rfl (.inl rfl) (pe_callB (call_min2 rfl) (by rfl) Ev.b_min (by decide +kernel) (pa_cons (pe_globI (by rfl) Ev.g_MOST_NEW) (pa_cons (pe_op op_sub (pe_op op_sub (pe_callB call_len_seq (by rfl) Ev.b_len PySem.boot_len (pa_cons (pv 0) pa_nil)) pe_int) (pv 1)) pa_nil))))
      (pss_cons (ps_setLc (i := 3) (own := [("many", 5)]) (g := gName 5) (tt := tYes) (by rfl) scCheapestNew.nd rfl rfl (sw_true rfl rfl rfl (by decide +kernel)) (pi_range2 (by rfl) Ev.b_range (pa_cons pe_int (pa_cons (pe_op op_add (pv 2) pe_int) pa_nil))) (blkOk_by (own := [("many", 5)]) (N := nCheapestNew) (sc := defScope sCheapestNew) (by decide +kernel)) (fun _ _ _ _ _ => (pg_name (i := 5) scCheapestNew.nd rfl (.inl rfl))) (fun _ _ _ _ _ => pts_nil) (fun _ _ _ _ _ => (pe_op op_add (pe_op op_add pe_int (pv 5)) (pe_ix (ix_listq (K := K) rfl) (pv 0) (pe_op op_add (pv 1) (pv 5)) (fun _ _ => rfl)))))
      (pss_cons (ps_set (i := 4) scCheapestNew.nd rfl (.inl rfl) (pe_callB (cr_min rfl) (by rfl) Ev.b_min (by decide +kernel) (pa_cons (pv 3) pa_nil)))
      (pss_one (ps_ret (pe_tupU (pa_cons (pv 4) (pa_cons (pe_op op_add (pe_bm PySem.F.plainAttrs_list PySem.F.slot_list_index PySem.F.type_list_index mt_index (pv 3) (pa_cons (pv 4) pa_nil)) pe_int) pa_nil)))))))), ?_⟩
    have sz : ∀ n : Nat, n ≤ 5000 → n ≤ sizeLine := fun n h => by rw [sizeLine_eq]; omega
    refine ⟨_, rfl, c, _, rfl, .inl (SqL.of hc), _, _, rfl, rfl, _, rfl, _, _, rfl, rfl, _, _, rfl, ?_⟩
    obtain ⟨k, ek⟩ : ∃ k, k = min 128 (n - pl) := ⟨_, rfl⟩
    have e1 : (if ((nV C).length : Int) - 1 - (pl : Int) < 128 then ((nV C).length : Int) - 1 - (pl : Int) else 128) = (k : Int) := by
      rw [nV_len, lC]
      split <;> omega
    dsimp only
    rw [e1]
    refine ⟨_, rfl, _, _, rfl, rfl, _, _, rfl, ⟨by omega, by omega, by omega, by omega⟩, fun D nD => ?_⟩
    have e2 : ((k : Int) + 1 - 1).toNat = k := by omega
    rw [e2]
    refine lc_rng (lo := 1) (n := k) (ys := (rowI (fun j => 2 + j + C.getD (pl + 1 + j) 0) k).map V.int) nD (by rw [List.length_map, rowI_len]) (sz _ (by omega)) (fun _ => rfl) (fun j y H2 R hj hy s2 r => ?_) (fun H2 s2 hD => ?_)
    · obtain ⟨x, hx, rfl⟩ := got hy
      obtain ⟨_, rfl⟩ := rowI_get hx
      have g := nV_at (A := C) (i := pl + 1 + j) (by omega)
      refine ⟨_, rfl, _, _, rfl, rfl, _, rfl, _, rfl, _, rfl, _, _, rfl, rfl, c, _, _, _, rfl, rfl, SqL.of (s2 _ _ hc), at_of (show (pl : Int) + (1 + (j : Int)) = ((pl + 1 + j : Nat) : Int) by omega) g, _, _, rfl, rfl, ?_⟩
      have e : (1 : Int) + (1 + (j : Int)) + ((C.getD (pl + 1 + j) 0 : Nat) : Int) = ((2 + j + C.getD (pl + 1 + j) 0 : Nat) : Int) := by omega
      dsimp only
      rw [e]
      exact r _ (Same.refl _)
    · refine ⟨_, rfl, D, _, rfl, SqL.of hD, by rw [rowI_len]; omega, fun m hm hall => ?_⟩
      obtain ⟨j, hj, rfl, hmin, g1, g2⟩ := rowI_min hm hall
      refine ⟨_, rfl, _, rfl, .inl ⟨rfl, _, SqL.of hD⟩, _, rfl, D, _, _, j, _, rfl, rfl, SqL.of hD, rfl, flat_ints _, by rw [List.getElem?_map, g1]; rfl, eqV_int _, ahead_ints g2, _, _, rfl, rfl, sz _ (by simp), fun H3 t s3 h3 => ?_⟩
      refine q _ t j (s2.trans s3) (by omega) (by omega) (fun i i1 i2 => hmin i (by omega)) ?_
      rw [show ((j + 1 : Nat) : Int) = (j : Int) + 1 by omega]
      exact h3
def spCpy (K : PySem.W.Frag) : Sp := fun vs H Q _ => ∃ (c : Addr) (A : List Nat) (n q l : Nat), vs = [.ref c, .int (q : Int), .int (l : Int)] ∧ H c = some (.lst (nV A)) ∧ A.length = n + 1 ∧ 3 ≤ l ∧ q + l ≤ n ∧ n ≤ 1000 ∧ ∀ H' t j, Same H H' → j + 3 ≤ l → (∀ i, i + 3 ≤ l → 2 + A.getD (q + 3 + j) 0 ≤ 2 + A.getD (q + 3 + i) 0) → SqT K H' t [.int ((2 + A.getD (q + 3 + j) 0 : Nat) : Int), .int ((j + 3 : Nat) : Int)] → Q (.ref t) H'
theorem ok_cpy {f : Addr} {fd : FuncData} (Ev : Env K mg) (F : Fun K "cheapest_copy" "cheapest_copy" sCheapestCopy f fd) : FnOk P w K mg base CX0 1 f fd ["costs", "at", "longest"] (spCpy K) := by
  refine F.ok scCheapestCopy (fun vs H Q E h => ?_) (fun cdv A outer s H vs Q E hr h => ?_)
  · obtain ⟨c, A, n, q, l, rfl, _⟩ := h; rfl
  · obtain ⟨c, C, n, pl, l, rfl, hc, lC, l3, hq, few, q⟩ := h
    refine ⟨_, (pss_cons (ps_setLc (i := 3) (own := [("many", 5)]) (g := gName 5) (tt := tYes) (by rfl) scCheapestCopy.nd rfl rfl (sw_true rfl rfl rfl (by decide +kernel)) (pi_range2 (by rfl) Ev.b_range (pa_cons (pe_globI (by rfl) Ev.g_LEAST_COPIED) (pa_cons (pe_op op_add (pv 2) pe_int) pa_nil))) (blkOk_by (own := [("many", 5)]) (N := nCheapestCopy) (sc := defScope sCheapestCopy) (by decide +kernel)) (fun _ _ _ _ _ => (pg_name (i := 5) scCheapestCopy.nd rfl (.inl rfl))) (fun _ _ _ _ _ => pts_nil) (fun _ _ _ _ _ => (pe_op op_add pe_int (pe_ix (ix_listq (K := K) rfl) (pv 0) (pe_op op_add (pv 1) (pv 5)) (fun _ _ => rfl)))))
      (pss_cons (ps_set (i := 4) scCheapestCopy.nd rfl (.inl rfl) (pe_callB (cr_min rfl) (by rfl) Ev.b_min (by decide +kernel) (pa_cons (pv 3) pa_nil)))
      (pss_one (ps_ret (pe_tupU (pa_cons (pv 4) (pa_cons (pe_op op_add (pe_bm PySem.F.plainAttrs_list PySem.F.slot_list_index PySem.F.type_list_index mt_index (pv 3) (pa_cons (pv 4) pa_nil)) (pe_globI (by rfl) Ev.g_LEAST_COPIED)) pa_nil))))))), ?_⟩
    have sz : ∀ n : Nat, n ≤ 5000 → n ≤ sizeLine := fun n h => by rw [sizeLine_eq]; omega
    refine ⟨_, rfl, _, _, rfl, rfl, _, _, rfl, ⟨by omega, by omega, by omega, by omega⟩, fun D nD => ?_⟩
    obtain ⟨k, ek⟩ : ∃ k, k = l - 2 := ⟨_, rfl⟩
    have e2 : ((l : Int) + 1 - 3).toNat = k := by omega
    rw [e2]
    refine lc_rng (lo := 3) (n := k) (ys := (rowI (fun j => 2 + C.getD (pl + 3 + j) 0) k).map V.int) nD (by rw [List.length_map, rowI_len]) (sz _ (by omega)) (fun _ => rfl) (fun j y H2 R hj hy s2 r => ?_) (fun H2 s2 hD => ?_)
    · obtain ⟨x, hx, rfl⟩ := got hy
      obtain ⟨_, rfl⟩ := rowI_get hx
      have g := nV_at (A := C) (i := pl + 3 + j) (by omega)
      refine ⟨_, rfl, _, rfl, _, rfl, _, _, rfl, rfl, c, _, _, _, rfl, rfl, SqL.of (s2 _ _ hc), at_of (show (pl : Int) + (3 + (j : Int)) = ((pl + 3 + j : Nat) : Int) by omega) g, _, _, rfl, rfl, ?_⟩
      have e : (2 : Int) + ((C.getD (pl + 3 + j) 0 : Nat) : Int) = ((2 + C.getD (pl + 3 + j) 0 : Nat) : Int) := by omega
      dsimp only
      rw [e]
      exact r _ (Same.refl _)
    · refine ⟨_, rfl, D, _, rfl, SqL.of hD, by rw [rowI_len]; omega, fun m hm hall => ?_⟩
      obtain ⟨j, hj, rfl, hmin, g1, g2⟩ := rowI_min hm hall
      refine ⟨_, rfl, _, rfl, .inl ⟨rfl, _, SqL.of hD⟩, _, rfl, D, _, _, j, _, rfl, rfl, SqL.of hD, rfl, flat_ints _, by rw [List.getElem?_map, g1]; rfl, eqV_int _, ahead_ints g2, _, _, rfl, rfl, sz _ (by simp), fun H3 t s3 h3 => ?_⟩
      refine q _ t j (s2.trans s3) (by omega) (fun i i1 => hmin i (by omega)) ?_
      rw [show ((j + 3 : Nat) : Int) = (j : Int) + 3 by omega]
      exact h3

/-! ### cheapest_steps -/
def lonL (S : List Int) (k : Nat) : Nat := lonF S (S.length - k)
def StepOk (S : List Int) (q : Nat) (x : Nat × Nat) : Prop :=
  (x.2 = 0 ∧ 1 ≤ x.1 ∧ x.1 ≤ 128 ∧ q + x.1 ≤ S.length ∧ cst (lonL S) (S.length - q) = 1 + x.1 + cst (lonL S) (S.length - (q + x.1))) ∨
  (3 ≤ x.1 ∧ cop S q x.2 x.1 ∧ cst (lonL S) (S.length - q) = 2 + cst (lonL S) (S.length - (q + x.1)))
theorem lonL_le {S : List Int} (k : Nat) (h : k < S.length) : lonL S (k + 1) ≤ k + 1 := by
  unfold lonL
  have := (lon_few (S := S) (q := S.length - (k + 1)) (by omega)).1
  omega
def spSteps (K : PySem.W.Frag) : Sp := fun vs H Q _ => ∃ (p : Addr) (S : List Int), vs = [.ref p] ∧ H p = some (.tup (S.map V.int)) ∧ S.length ≤ 1000 ∧ ∀ H' d ts (T : List (Nat × Nat)), Same H H' → H' d = some (.lst ts) → Ps K H' T ts → T.length = S.length → (∀ j x, T[j]? = some x → StepOk S j x) → Q (.ref d) H'
theorem rep_one {α : Type} (x : α) : ∀ n : Nat, (List.replicate n [x]).flatten = List.replicate n x
  | 0 => rfl
  | n + 1 => by rw [List.replicate_succ, List.flatten_cons, rep_one x n, List.replicate_succ]; rfl
theorem ps_rep {K : PySem.W.Frag} {H : Hp} {x : Nat × Nat} {v : V} (h : IsP K x v H) : ∀ n : Nat, Ps K H (List.replicate n x) (List.replicate n v)
  | 0 => .nil
  | n + 1 => .cons h (ps_rep h n)
theorem Al2.setAt {α β : Type} {R : α → β → Prop} {x : α} {y : β} (h : R x y) : ∀ {xs : List α} {ys : List β} (j : Nat), Al2 R xs ys → Al2 R (xs.set j x) (ys.set j y)
  | _, _, _, .nil => .nil
  | _ :: _, _ :: _, 0, .cons _ t => .cons h t
  | _ :: _, _ :: _, j + 1, .cons a t => .cons a (Al2.setAt h j t)
theorem nV_set (A : List Nat) (j v : Nat) : (nV A).set j (.int (v : Int)) = nV (A.set j v) := by
  unfold nV
  rw [List.map_set]
structure StI (K : PySem.W.Frag) (S : List Int) (H : Hp) (c st : Addr) (i : Nat) (A : List Nat) (T : List (Nat × Nat)) (ts : List V) (H' : Hp) : Prop where
  sm : Same H H'
  hc : H' c = some (.lst (nV A))
  hs : H' st = some (.lst ts)
  ne : c ≠ st
  lA : A.length = S.length + 1
  lT : T.length = S.length
  ps : Ps K H' T ts
  ca : ∀ j, S.length ≤ j + i → j ≤ S.length → A.getD j 0 = cst (lonL S) (S.length - j)
  ok : ∀ j x, S.length ≤ j + i → T[j]? = some x → StepOk S j x
theorem getD_set_self {A : List Nat} {j v : Nat} (h : j < A.length) : (A.set j v).getD j 0 = v := by
  rw [List.getD_eq_getElem?_getD, List.getElem?_set_self h]
  rfl
theorem getD_set_ne {A : List Nat} {j k v : Nat} (h : j ≠ k) : (A.set j v).getD k 0 = A.getD k 0 := by
  rw [List.getD_eq_getElem?_getD, List.getElem?_set_ne h, ← List.getD_eq_getElem?_getD]
/-- one place more -/
theorem StI.next {K : PySem.W.Frag} {S : List Int} {H : Hp} {c st : Addr} {i q v : Nat} {A : List Nat} {T : List (Nat × Nat)} {ts : List V} {x : Nat × Nat} {t : Addr} {H' H2 : Hp} (h : StI K S H c st i A T ts H') (eq : q + i + 1 = S.length)
    (sm : Same H H2) (hc : H2 c = some (.lst (nV (A.set q v)))) (hs : H2 st = some (.lst (ts.set q (.ref t)))) (pt : Ps K H2 (T.set q x) (ts.set q (.ref t))) (hv : v = cst (lonL S) (i + 1)) (hx : StepOk S q x) : StI K S H c st (i + 1) (A.set q v) (T.set q x) (ts.set q (.ref t)) H2 where
  sm := sm
  hc := hc
  hs := hs
  ne := h.ne
  lA := by rw [List.length_set]; exact h.lA
  lT := by rw [List.length_set]; exact h.lT
  ps := pt
  ca := fun j h1 h2 => by
    by_cases e : q = j
    · rw [← e, getD_set_self (by rw [h.lA]; omega), hv, show S.length - q = i + 1 by omega]
    · rw [getD_set_ne e]
      exact h.ca j (by omega) h2
  ok := fun j y h1 hy => by
    by_cases e : q = j
    · rw [← e, List.getElem?_set_self (by rw [h.lT]; omega)] at hy
      cases hy
      rw [← e]
      exact hx
    · rw [List.getElem?_set_ne e] at hy
      exact h.ok j y (by omega) hy
theorem ok_steps {f : Addr} {fd : FuncData} (Ev : Env K mg) (CLongestCopies : Cal P w K mg base "longest_copies" 2 ["body"] (spLon K)) (CCheapestNew : Cal P w K mg base "cheapest_new" 1 ["costs", "at"] (spNew K)) (CCheapestCopy : Cal P w K mg base "cheapest_copy" 1 ["costs", "at", "longest"] (spCpy K)) (F : Fun K "cheapest_steps" "cheapest_steps" sCheapestSteps f fd) : FnOk P w K mg base CX0 3 f fd ["body"] (spSteps K) := by
  refine F.ok scCheapestSteps (fun vs H Q E h => ?_) (fun cdv A outer s H vs Q E hr h => ?_)
  · obtain ⟨p, S, rfl, _⟩ := h; rfl
  · obtain ⟨p, S, rfl, hp, few, q⟩ := h
    refine ⟨_, (pss_cons (ps_set (i := 1) scCheapestSteps.nd rfl (.inl rfl) (pe_c CLongestCopies (hr.mono (by omega)) (pa_cons (pv 0) pa_nil)))
      (pss_cons (ps_set (i := 2) scCheapestSteps.nd rfl (.inl rfl) (pe_op op_rep (pe_lst (pa_cons pe_int pa_nil)) (pe_op op_add (pe_callB call_len_seq (by rfl) Ev.b_len PySem.boot_len (pa_cons (pv 0) pa_nil)) pe_int)))
      (pss_cons (ps_set (i := 3) scCheapestSteps.nd rfl (.inl rfl) (pe_op op_rep (pe_lst (pa_cons (pe_tupU (pa_cons pe_int (pa_cons pe_int pa_nil))) pa_nil)) (pe_callB call_len_seq (by rfl) Ev.b_len PySem.boot_len (pa_cons (pv 0) pa_nil))))
      (pss_cons (ps_for PassesOwn.never rfl (pi_range3 (by rfl) Ev.b_range (pa_cons (pe_op op_sub (pe_callB call_len_seq (by rfl) Ev.b_len PySem.boot_len (pa_cons (pv 0) pa_nil)) pe_int) (pa_cons (pe_un un_neg pe_int) (pa_cons (pe_un un_neg pe_int) pa_nil)))) (pg_name (i := 4) scCheapestSteps.nd rfl (.inl rfl))
        (pss_cons (ps_asg (pe_ix ix_list (pv 1) (pv 4) (fun _ _ => rfl)) (pg_tup (by rfl) (pgs_cons (pg_name (i := 5) scCheapestSteps.nd rfl (.inl rfl)) (pgs_cons (pg_name (i := 6) scCheapestSteps.nd rfl (.inl rfl)) pgs_nil))))
        (pss_cons (ps_asg (pe_c CCheapestNew (hr.mono (by omega)) (pa_cons (pv 2) (pa_cons (pv 4) pa_nil))) (pg_tup (by rfl) (pgs_cons (pg_sub (pv 2) (pv 4) set_list) (pgs_cons (pg_name (i := 7) scCheapestSteps.nd rfl (.inl rfl)) pgs_nil))))
        (pss_cons (ps_asg (pe_tupU (pa_cons (pv 7) (pa_cons pe_int pa_nil))) (pg_sub (pv 3) (pv 4) set_list))
        (pss_one (ps_if (pt_cmpR op_ge (pv 5) (pe_globI (by rfl) Ev.g_LEAST_COPIED) (nomark _))
          (pss_cons (ps_asg (pe_c CCheapestCopy (hr.mono (by omega)) (pa_cons (pv 2) (pa_cons (pv 4) (pa_cons (pv 5) pa_nil)))) (pg_tup (by rfl) (pgs_cons (pg_name (i := 8) scCheapestSteps.nd rfl (.inl rfl)) (pgs_cons (pg_name (i := 7) scCheapestSteps.nd rfl (.inl rfl)) pgs_nil))))
          (pss_one (ps_if (pt_cmpR op_lt (pv 8) (pe_ix ix_list (pv 2) (pv 4) (fun _ _ => rfl)) (nomark _))
            (pss_cons (ps_asg (pv 8) (pg_sub (pv 2) (pv 4) set_list))
            (pss_one (ps_asg (pe_tupU (pa_cons (pv 7) (pa_cons (pv 6) pa_nil))) (pg_sub (pv 3) (pv 4) set_list))))
            pss_nil)))
          pss_nil))))))
      (pss_one (ps_ret (pv 3))))))), ?_⟩
    have sz : ∀ n : Nat, n ≤ 5000 → n ≤ sizeLine := fun n h => by rw [sizeLine_eq]; omega
    refine ⟨_, rfl, p, S, rfl, hp, few, fun H1 d cs M s1 hd1 pc lM okM => ?_⟩
    have hp1 := s1 _ _ hp
    refine ⟨sz _ (by simp), fun l1 n1 => ?_⟩
    refine ⟨_, rfl, p, _, rfl, .inr (SqT.of ((grow n1) _ _ hp1)), _, _, rfl, rfl, l1, _, _, rfl, rfl, upd_same, by rw [List.length_map]; omega, by rw [List.length_map]; omega, by rw [List.length_map]; refine sz _ ?_; simp; omega, fun c nc => ?_⟩
    have s2 : Same H1 (upd (upd H1 l1 (.lst [.int 0])) c (.lst (List.replicate (((S.map V.int).length : Int) + 1).toNat [V.int 0]).flatten)) := (grow n1).trans (grow nc)
    have hc2 : (upd (upd H1 l1 (.lst [.int 0])) c (.lst (List.replicate (((S.map V.int).length : Int) + 1).toNat [V.int 0]).flatten)) c = some (.lst (nV (List.replicate (S.length + 1) 0))) := by
      rw [upd_same, rep_one, List.length_map, show ((S.length : Int) + 1).toNat = S.length + 1 by omega]
      unfold nV
      rw [List.map_replicate]
      rfl
    have nc1 : H1 c = none := (grow n1).free nc
    generalize upd (upd H1 l1 (.lst [.int 0])) c (.lst (List.replicate (((S.map V.int).length : Int) + 1).toNat [V.int 0]).flatten) = H2 at s2 hc2
    refine ⟨sz _ (by simp), fun H3 t3 s3 h3 => ⟨sz _ (by simp), fun l4 n4 => ?_⟩⟩
    have hp3 := s3 _ _ (s2 _ _ hp1)
    refine ⟨_, rfl, p, _, rfl, .inr (SqT.of ((grow n4) _ _ hp3)), l4, _, _, rfl, rfl, upd_same, by rw [List.length_map]; omega, by rw [List.length_map]; omega, by rw [List.length_map]; refine sz _ ?_; simp; omega, fun st nst => ?_⟩
    have nst3 : H3 st = none := (grow n4).free nst
    have s5 : Same H3 (upd (upd H3 l4 (.lst [.ref t3])) st (.lst (List.replicate ((S.map V.int).length : Int).toNat [V.ref t3]).flatten)) := (grow n4).trans (grow nst)
    have hs5 : (upd (upd H3 l4 (.lst [.ref t3])) st (.lst (List.replicate ((S.map V.int).length : Int).toNat [V.ref t3]).flatten)) st = some (.lst (List.replicate S.length (.ref t3))) := by
      rw [upd_same, rep_one, List.length_map, show (S.length : Int).toNat = S.length by omega]
    generalize upd (upd H3 l4 (.lst [.ref t3])) st (.lst (List.replicate ((S.map V.int).length : Int).toNat [V.ref t3]).flatten) = H5 at s5 hs5
    have z5 : Same H1 H5 := s2.trans (s3.trans s5)
    have hc5 := s5 _ _ (s3 _ _ hc2)
    have pt5 : Ps K H5 (List.replicate S.length (0, 0)) (List.replicate S.length (.ref t3)) := ps_rep ⟨t3, rfl, keepT s5 h3⟩ _
    have necs : c ≠ st := fun z => by
      have := s3 _ _ hc2
      rw [z, nst3] at this
      cases this
    have ncH : H c = none := s1.free nc1
    have nstH : H st = none := (s1.trans (s2.trans s3)).free nst3
    have nst1 : H1 st = none := (s2.trans s3).free nst3
    have ndc : d ≠ c := fun z => by rw [z, nc1] at hd1; cases hd1
    have nds : d ≠ st := fun z => by rw [z, nst1] at hd1; cases hd1
    refine ⟨_, rfl, p, _, rfl, .inr (SqT.of (z5 _ _ hp1)), _, _, rfl, rfl, _, rfl, _, rfl, (S.length : Int) - 1, -1, -1, S.length, by rw [List.length_map], ?_, ?_⟩
    · have := RgC.neg (i := (S.length : Int) - 1) (j := -1) (by omega) (by omega) (by omega) (by omega)
      rw [show ((S.length : Int) - 1 - -1).toNat = S.length by omega] at this
      exact this
    refine for_rangeC (fun i σ H' => ∃ (C : List Nat) (T : List (Nat × Nat)) (ts : List V) (y4 y5 y6 y7 y8 : Option V), σ = [some (.ref p), some (.ref d), some (.ref c), some (.ref st), y4, y5, y6, y7, y8] ∧ StI K S H c st i C T ts H' ∧ Ps K H' M cs ∧ H' d = some (.lst cs)) ⟨_, _, _, none, none, none, none, none, rfl, ⟨s1.trans z5, hc5, hs5, necs, by simp, by simp, pt5, fun j h1 h2 => ?_, fun j x h1 hx => ?_⟩, pc.mono fun _ _ k => k.keep z5, z5 _ _ hd1⟩ (fun i σ H' hi p' => ?_) (fun σ H' p' => ?_)
    · obtain rfl : j = S.length := by omega
      rw [Nat.sub_self, List.getD_eq_getElem?_getD, List.getElem?_replicate]
      split <;> rfl
    · have := (List.getElem?_eq_some_iff.mp hx).1
      simp at this
      omega
    · obtain ⟨C, T, ts, y4, y5, y6, y7, y8, rfl, inv, pM, hdM⟩ := p'
      obtain ⟨pl, epl⟩ : ∃ pl, pl + i + 1 = S.length := ⟨S.length - 1 - i, by omega⟩
      have e0 : (S.length : Int) - 1 + (i : Nat) * (-1 : Int) = (pl : Int) := by omega
      rw [e0]
      have lcs : cs.length = S.length := by rw [pM.length, lM]
      obtain ⟨x, hx, ⟨tx, ex, htx⟩⟩ := pM.get (i := pl) (y := cs[pl]'(by omega)) (List.getElem?_eq_getElem (by omega))
      have gx : cs[pl]? = some (.ref tx) := by rw [List.getElem?_eq_getElem (by omega), ex]
      have okx := okM pl x hx
      have lpl : pl < S.length := by omega
      refine ⟨_, rfl, _, rfl, d, _, _, _, rfl, rfl, SqL.of hdM, atI_nat gx, tx, [_, _], rfl, htx, rfl, _, [_], rfl, _, [], rfl, rfl, ?_⟩
      refine ⟨_, rfl, _, rfl, c, C, S.length, pl, rfl, inv.hc, inv.lA, lpl, few, fun H6 t6 j s6 j1 j2 jmin h6 => ?_⟩
      have hc6 := s6 _ _ inv.hc
      have hs6 := s6 _ _ inv.hs
      obtain ⟨v, ev⟩ : ∃ v, v = 2 + j + C.getD (pl + 1 + j) 0 := ⟨_, rfl⟩
      rw [← ev] at h6
      refine ⟨t6, [_, _], rfl, h6, rfl, _, [_], rfl, _, rfl, _, rfl, c, _, (pl : Int), pl, rfl, rfl, hc6, ixNn (by rw [nV_len, inv.lA]; omega), _, [], rfl, rfl, ?_⟩
      rw [nV_set]
      obtain ⟨H7, e7⟩ : ∃ H7, H7 = upd H6 c (.lst (nV (C.set pl v))) := ⟨_, rfl⟩
      rw [← e7]
      have hc7 : H7 c = some (.lst (nV (C.set pl v))) := by rw [e7]; exact upd_same
      have hs7 : H7 st = some (.lst ts) := by rw [e7, upd_ne (Ne.symm inv.ne)]; exact hs6
      have sm7 : Same H H7 := by rw [e7]; exact (inv.sm.trans s6).over ncH (Wo.nc hc6 trivial)
      have ps7 : Ps K H7 T ts := by rw [e7]; exact inv.ps.mono fun _ _ k => (k.keep s6).put hc6 trivial
      have pM7 : Ps K H7 M cs := by rw [e7]; exact pM.mono fun _ _ k => (k.keep s6).put hc6 trivial
      have hd7 : H7 d = some (.lst cs) := by rw [e7, upd_ne ndc]; exact s6 _ _ hdM
      refine ⟨_, rfl, sz _ (by simp), fun H8 t8 s8 h8 => ?_⟩
      have hs8 := s8 _ _ hs7
      have hc8 := s8 _ _ hc7
      refine ⟨_, rfl, _, rfl, st, _, (pl : Int), pl, rfl, rfl, hs8, ixNn (by rw [inv.ps.length, inv.lT]; omega), ?_⟩
      obtain ⟨H9, e9⟩ : ∃ H9, H9 = upd H8 st (.lst (ts.set pl (.ref t8))) := ⟨_, rfl⟩
      rw [← e9]
      have hs9 : H9 st = some (.lst (ts.set pl (.ref t8))) := by rw [e9]; exact upd_same
      have hc9 : H9 c = some (.lst (nV (C.set pl v))) := by rw [e9, upd_ne inv.ne]; exact hc8
      have sm9 : Same H H9 := by rw [e9]; exact (sm7.trans s8).over nstH (Wo.nc hs8 trivial)
      have one8 : IsP K (j + 1, 0) (.ref t8) H8 := ⟨t8, rfl, h8⟩
      have ps9 : Ps K H9 (T.set pl (j + 1, 0)) (ts.set pl (.ref t8)) := by
        rw [e9]
        exact (Al2.setAt (R := fun x v => IsP K x v H8) one8 pl (ps7.mono fun _ _ k => k.keep s8)).mono fun _ _ k => k.put hs8 trivial
      have pM9 : Ps K H9 M cs := by rw [e9]; exact pM7.mono fun _ _ k => (k.keep s8).put hs8 trivial
      have hd9 : H9 d = some (.lst cs) := by rw [e9, upd_ne nds]; exact s8 _ _ hd7
      -- costs of what is behind
      have cg : ∀ m, m ≤ i → C.getD (pl + 1 + m) 0 = cst (lonL S) (i - m) := fun m hm => by
        rw [inv.ca (pl + 1 + m) (by omega) (by omega), show S.length - (pl + 1 + m) = i - m by omega]
      have wayN : Way (lonL S) i v := .inl ⟨j, j1, by omega, by rw [ev, cg j (by omega)]⟩
      have minN : ∀ m, m < 128 → m ≤ i → v ≤ 2 + m + cst (lonL S) (i - m) := fun m h1 h2 => by
        have := jmin m h1 (by omega)
        rw [cg m h2] at this
        omega
      have eL : lonL S (i + 1) = lonF S pl := by unfold lonL; rw [show S.length - (i + 1) = pl by omega]
      have hl := lonL_le (S := S) i (by omega)
      have stN : cst (lonL S) (i + 1) = v → StepOk S pl (j + 1, 0) := fun e => .inl ⟨rfl, by omega, by dsimp only; omega, by dsimp only; omega, by
        dsimp only
        rw [show S.length - pl = i + 1 by omega, e, ev, cg j (by omega), show S.length - (pl + (j + 1)) = i - j by omega]
        omega⟩
      refine ⟨_, rfl, _, _, rfl, rfl, _, rfl, ite2 (fun z => ?_) (fun z => ?_)⟩
      · have x3 : 3 ≤ x.1 := by
          have := of_decide_eq_true z
          omega
        have ex1 := okx.eq (by omega) x3
        have cx := okx.ok x3
        have cl := cx.2.2.2.2.1
        refine ⟨_, rfl, _, rfl, _, rfl, c, _, S.length, pl, x.1, rfl, hc9, by rw [List.length_set]; exact inv.lA, x3, cl, few, fun HA tA k sA k1 kmin hA => ?_⟩
        have cg2 : ∀ m, m + 3 ≤ x.1 → (C.set pl v).getD (pl + 3 + m) 0 = cst (lonL S) (i - (m + 2)) := fun m hm => by
          rw [getD_set_ne (by omega), show pl + 3 + m = pl + 1 + (m + 2) by omega, cg (m + 2) (by omega)]
        obtain ⟨u, eu⟩ : ∃ u, u = 2 + (C.set pl v).getD (pl + 3 + k) 0 := ⟨_, rfl⟩
        rw [← eu] at hA
        refine ⟨tA, [_, _], rfl, hA, rfl, _, [_], rfl, _, [], rfl, rfl, ?_⟩
        have hcA := sA _ _ hc9
        have hsA := sA _ _ hs9
        have gv : (nV (C.set pl v))[pl]? = some (.int (v : Int)) := by
          rw [nV_at (by rw [List.length_set, inv.lA]; omega), getD_set_self (by rw [inv.lA]; omega)]
        have wayC : Way (lonL S) i u := .inr ⟨k, by rw [eL]; omega, by rw [eu, cg2 k k1]⟩
        have minC : ∀ m, m + 3 ≤ lonL S (i + 1) → u ≤ 2 + cst (lonL S) (i - (m + 2)) := fun m h => by
          rw [eL] at h
          have := kmin m (by omega)
          rw [cg2 m (by omega)] at this
          omega
        refine ⟨_, rfl, _, rfl, _, rfl, c, _, _, _, rfl, rfl, SqL.of hcA, atI_nat gv, _, _, rfl, rfl, _, rfl, ite2 (fun y => ?_) (fun y => ?_)⟩
        · have lt : u < v := by
            have := of_decide_eq_true y
            omega
          have ec : cst (lonL S) (i + 1) = u := cst_is hl wayC fun a ha => by
            rcases ha with ⟨m, h1, h2, rfl⟩ | ⟨m, h1, rfl⟩
            · have := minN m h1 h2
              omega
            · exact minC m h1
          refine ⟨_, rfl, _, rfl, _, rfl, c, _, (pl : Int), pl, rfl, rfl, hcA, ixNn (by rw [nV_len, List.length_set, inv.lA]; omega), ?_⟩
          rw [nV_set, List.set_set]
          obtain ⟨HB, eB⟩ : ∃ HB, HB = upd HA c (.lst (nV (C.set pl u))) := ⟨_, rfl⟩
          rw [← eB]
          have hcB : HB c = some (.lst (nV (C.set pl u))) := by rw [eB]; exact upd_same
          have hsB : HB st = some (.lst (ts.set pl (.ref t8))) := by rw [eB, upd_ne (Ne.symm inv.ne)]; exact hsA
          have smB : Same H HB := by rw [eB]; exact (sm9.trans sA).over ncH (Wo.nc hcA trivial)
          have psB : Ps K HB (T.set pl (j + 1, 0)) (ts.set pl (.ref t8)) := by rw [eB]; exact ps9.mono fun _ _ k => (k.keep sA).put hcA trivial
          have pMB : Ps K HB M cs := by rw [eB]; exact pM9.mono fun _ _ k => (k.keep sA).put hcA trivial
          have hdB : HB d = some (.lst cs) := by rw [eB, upd_ne ndc]; exact sA _ _ hd9
          refine ⟨_, rfl, _, rfl, sz _ (by simp), fun HC tC sC hC => ?_⟩
          have hsC := sC _ _ hsB
          have hcC := sC _ _ hcB
          refine ⟨_, rfl, _, rfl, st, _, (pl : Int), pl, rfl, rfl, hsC, ixNn (by rw [List.length_set, inv.ps.length, inv.lT]; omega), ?_⟩
          rw [List.set_set]
          have oneC : IsP K (k + 3, x.2) (.ref tC) HC := ⟨tC, rfl, hC⟩
          have psC := Al2.setAt (R := fun x v => IsP K x v HC) oneC pl (psB.mono fun _ _ k => k.keep sC)
          rw [List.set_set, List.set_set] at psC
          refine ⟨C.set pl u, T.set pl (k + 3, x.2), ts.set pl (.ref tC), _, _, _, _, _, rfl, inv.next epl ?_ ?_ upd_same (psC.mono fun _ _ k => k.put hsC trivial) ec.symm (.inr ⟨by dsimp only; omega, cx.le (by dsimp only; omega), ?_⟩), pMB.mono fun _ _ k => (k.keep sC).put hsC trivial, ?_⟩
          · exact (smB.trans sC).over nstH (Wo.nc hsC trivial)
          · rw [upd_ne inv.ne]; exact hcC
          · dsimp only
            rw [show S.length - pl = i + 1 by omega, ec, eu, cg2 k k1, show S.length - (pl + (k + 3)) = i - (k + 2) by omega]
          · rw [upd_ne nds]; exact sC _ _ hdB
        · have ge : v ≤ u := by
            have : ¬ (u : Int) < (v : Int) := fun x => y (decide_eq_true x)
            omega
          have ec : cst (lonL S) (i + 1) = v := cst_is hl wayN fun a ha => by
            rcases ha with ⟨m, h1, h2, rfl⟩ | ⟨m, h1, rfl⟩
            · exact minN m h1 h2
            · have := minC m h1
              omega
          exact ⟨C.set pl v, T.set pl (j + 1, 0), ts.set pl (.ref t8), _, _, _, _, _, rfl, inv.next epl (sm9.trans sA) hcA hsA (ps9.mono fun _ _ k => k.keep sA) ec.symm (stN ec), pM9.mono fun _ _ k => k.keep sA, sA _ _ hd9⟩
      · have x3 : ¬ 3 ≤ x.1 := fun y => z (decide_eq_true (by omega))
        have fw := okx.few (by omega) x3
        have ec : cst (lonL S) (i + 1) = v := cst_is hl wayN fun a ha => by
          rcases ha with ⟨m, h1, h2, rfl⟩ | ⟨m, h1, rfl⟩
          · exact minN m h1 h2
          · rw [eL] at h1
            omega
        exact ⟨C.set pl v, T.set pl (j + 1, 0), ts.set pl (.ref t8), _, _, _, _, _, rfl, inv.next epl sm9 hc9 hs9 ps9 ec.symm (stN ec), pM9, hd9⟩
    · obtain ⟨C, T, ts, y4, y5, y6, y7, y8, rfl, inv, pM, hdM⟩ := p'
      exact ⟨_, rfl, q _ _ _ T inv.sm inv.hs inv.ps inv.lT fun j x hx => inv.ok j x (by omega) hx⟩

/-! ### body_deeds, pressed -/
def spDeed (K : PySem.W.Frag) : Sp := fun vs H Q _ => ∃ (p : Addr) (S : List Int) (q m b : Nat), vs = [.ref p, .int (q : Int), .int (m : Int), .int (b : Int)] ∧ SqT K H p (S.map V.int) ∧ S.length ≤ 1000 ∧
  (b = 0 → Tups K H ((((m : Int) - 1) :: (S.drop q).take m).map V.int) Q) ∧ (b ≠ 0 → Tups K H (([(m : Int) - 3 + 128, (b : Int) - 1] : List Int).map V.int) Q)
theorem ok_deed {f : Addr} {fd : FuncData} (Ev : Env K mg) (F : Fun K "deed_bytes" "deed_bytes" sDeedBytes f fd) : FnOk P w K mg base CX0 1 f fd ["body", "at", "many", "back"] (spDeed K) := by
  refine F.ok scDeedBytes (fun vs H Q E h => ?_) (fun cdv A outer s H vs Q E hr h => ?_)
  · obtain ⟨p, S, q, m, b, rfl, _⟩ := h; rfl
  · obtain ⟨p, S, pl, m, b, rfl, hp, few, q1, q2⟩ := h
    refine ⟨_, (pss_cons (ps_if (pt_cmpR op_eq (pv 3) pe_int (nomark _))
        (pss_one (ps_ret (pe_op op_catU (pe_tupU (pa_cons (pe_op op_sub (pv 2) pe_int) pa_nil)) (pe_slice sl_tupU (pv 0) (po_some (pv 1)) (po_some (pe_op op_add (pv 1) (pv 2)))))))
        pss_nil)
      (pss_one (ps_ret (pe_tupU (pa_cons (pe_op op_add (pe_op op_sub (pv 2) (pe_globI (by rfl) Ev.g_LEAST_COPIED)) (pe_globI (by rfl) Ev.g_FIRST_COPY)) (pa_cons (pe_op op_sub (pv 3) pe_int) pa_nil)))))), ?_⟩
    have sz : ∀ n : Nat, n ≤ 5000 → n ≤ sizeLine := fun n h => by rw [sizeLine_eq]; omega
    refine ⟨_, rfl, rfl, _, rfl, ite2 (fun z => ?_) (fun z => ?_)⟩
    · have eb : b = 0 := by
        have := V.int.inj (of_decide_eq_true z)
        omega
      refine ⟨_, rfl, _, _, rfl, rfl, sz _ (by simp), fun H1 t1 s1 h1 => ⟨_, rfl, _, rfl, (pl : Int), rfl, _, rfl, _, rfl, _, _, rfl, rfl, ((pl + m : Nat) : Int), congrArg V.int (by omega), p, _, rfl, keepT s1 hp, fun H2 t2 s2 h2 => ?_⟩⟩
      rw [cut_mid, show pl + m - pl = m by omega] at h2
      refine ⟨t1, t2, _, _, rfl, rfl, keepT s2 h1, h2, sz _ ?_, fun H3 t3 s3 h3 => q1 eb _ _ (s1.trans (s2.trans s3)) h3⟩
      rw [List.length_map, List.length_take, List.length_drop]
      simp
      omega
    · have nb : b ≠ 0 := fun e => z (decide_eq_true (by rw [e]; rfl))
      exact ⟨_, rfl, _, _, rfl, rfl, _, _, rfl, rfl, _, rfl, _, _, rfl, rfl, sz _ (by simp), fun H1 t1 s1 h1 => q2 nb _ _ s1 h1⟩
def spBD (K : PySem.W.Frag) : Sp := fun vs H Q _ => ∃ (p : Addr) (S : List Int), vs = [.ref p] ∧ H p = some (.tup (S.map V.int)) ∧ Byt S ∧ S.length ≤ 1000 ∧ ∀ D : List Int, Byt D → dF D [] = some S → D.length = cst (lonL S) S.length → Tups K H (D.map V.int) Q
theorem take_more (S : List Int) (q m : Nat) : S.take q ++ (S.drop q).take m = S.take (q + m) := by rw [List.take_add]
theorem ok_bd {f : Addr} {fd : FuncData} (Ev : Env K mg) (CCheapestSteps : Cal P w K mg base "cheapest_steps" 3 ["body"] (spSteps K)) (CDeedBytes : Cal P w K mg base "deed_bytes" 1 ["body", "at", "many", "back"] (spDeed K)) (F : Fun K "body_deeds" "body_deeds" sBodyDeeds f fd) : FnOk P w K mg base CX0 4 f fd ["body"] (spBD K) := by
  refine F.ok scBodyDeeds (fun vs H Q E h => ?_) (fun cdv A outer s H vs Q E hr h => ?_)
  · obtain ⟨p, S, rfl, _⟩ := h; rfl
  · obtain ⟨p, S, rfl, hp, hb, few, q⟩ := h
    refine ⟨_, (pss_cons (ps_set (i := 1) scBodyDeeds.nd rfl (.inl rfl) (pe_c CCheapestSteps (hr.mono (by omega)) (pa_cons (pv 0) pa_nil)))
      (pss_cons (ps_set (i := 2) scBodyDeeds.nd rfl (.inl rfl) (pe_lst pa_nil))
      (pss_cons (ps_set (i := 3) scBodyDeeds.nd rfl (.inl rfl) pe_int)
      (pss_cons (ps_while PassesOwn.never (pt_cmpR op_lt (pv 3) (pe_callB call_len_seq (by rfl) Ev.b_len PySem.boot_len (pa_cons (pv 0) pa_nil)) (nomark _))
        (pss_cons (ps_asg (pe_ix ix_list (pv 1) (pv 3) (fun _ _ => rfl)) (pg_tup (by rfl) (pgs_cons (pg_name (i := 4) scBodyDeeds.nd rfl (.inl rfl)) (pgs_cons (pg_name (i := 5) scBodyDeeds.nd rfl (.inl rfl)) pgs_nil))))
        (pss_cons (ps_expr (pe_bm PySem.F.plainAttrs_list PySem.F.slot_list_extend PySem.F.type_list_extend mt_extendT (pv 2) (pa_cons (pe_c CDeedBytes (hr.mono (by omega)) (pa_cons (pv 0) (pa_cons (pv 3) (pa_cons (pv 4) (pa_cons (pv 5) pa_nil))))) pa_nil)))
        (pss_one (ps_aug (i := 3) scBodyDeeds.nd rfl (.inl rfl) (pv 4) ip_add)))))
      (pss_one (ps_ret (pe_callTy call_tupleU (by rfl) Ev.b_tuple (by decide +kernel) (pa_cons (pv 2) pa_nil)))))))), ?_⟩
    have sz : ∀ n : Nat, n ≤ 5000 → n ≤ sizeLine := fun n h => by rw [sizeLine_eq]; omega
    refine ⟨_, rfl, p, S, rfl, hp, few, fun H1 d ts T s1 hd1 pT lT okT => ?_⟩
    refine ⟨Nat.zero_le _, fun l nl => ?_⟩
    have s2 : Same H1 (upd H1 l (.lst [])) := grow nl
    have hl2 : (upd H1 l (.lst [])) l = some (.lst []) := upd_same
    have hd2 := s2 _ _ hd1
    have nlH : H l = none := s1.free nl
    have nld : d ≠ l := fun z => by rw [z, nl] at hd1; cases hd1
    have pT2 : Ps K (upd H1 l (.lst [])) T ts := pT.mono fun _ _ k => k.keep s2
    generalize upd H1 l (.lst []) = H2 at s2 hl2 hd2 pT2
    obtain ⟨n, en⟩ : ∃ n, n = S.length := ⟨_, rfl⟩
    have ctot : cst (lonL S) S.length ≤ 2 * S.length := cst_le (n := S.length) (fun k hk => lonL_le k hk) _ (Nat.le_refl _)
    refine ⟨fun μ σ H' => ∃ (pl : Nat) (D : List Int) (y4 y5 : Option V), σ = [some (.ref p), some (.ref d), some (.ref l), some (.int (pl : Int)), y4, y5] ∧ μ = S.length - pl ∧ pl ≤ S.length ∧ Same H H' ∧ H' l = some (.lst (D.map V.int)) ∧ H' d = some (.lst ts) ∧ Ps K H' T ts ∧ Byt D ∧ D.length + cst (lonL S) (S.length - pl) = cst (lonL S) S.length ∧ ∀ r, dF (D ++ r) [] = dF r (S.take pl), ⟨_, 0, [], none, none, rfl, rfl, Nat.zero_le _, s1.trans s2, hl2, hd2, pT2, Byt.nil, by simp, fun r => rfl⟩, fun μ σ H' hW => ?_⟩
    obtain ⟨pl, D, y4, y5, rfl, rfl, lpl, sm, hl, hd, pT', bD, lD, rD⟩ := hW
    have hp' := sm _ _ hp
    refine ⟨_, rfl, _, rfl, p, _, rfl, .inr (SqT.of hp'), _, _, rfl, rfl, _, rfl, ite2 (fun z => ?_) (fun z => ?_)⟩
    · have lt : pl < S.length := by
        have := of_decide_eq_true z
        rw [List.length_map] at this
        omega
      refine ⟨fun σ' H'' => ∃ m', m' < S.length - pl ∧ _, fun σ' H'' h => h, ?_⟩
      have lts : ts.length = S.length := by rw [pT'.length, lT]
      obtain ⟨x, hx, ⟨tx, ex, htx⟩⟩ := pT'.get (i := pl) (y := ts[pl]'(by omega)) (List.getElem?_eq_getElem (by omega))
      have gx : ts[pl]? = some (.ref tx) := by rw [List.getElem?_eq_getElem (by omega), ex]
      have okx := okT pl x hx
      refine ⟨_, rfl, _, rfl, d, _, _, _, rfl, rfl, SqL.of hd, atI_nat gx, tx, [_, _], rfl, htx, rfl, _, [_], rfl, _, [], rfl, rfl, ?_⟩
      -- the deed's bytes, whichever
      have fin : ∀ (X : List Int) (H3 : Hp) (t3 : Addr), Same H' H3 → SqT K H3 t3 (X.map V.int) → Byt X → pl < pl + x.1 → pl + x.1 ≤ S.length → D.length + X.length + cst (lonL S) (S.length - (pl + x.1)) = cst (lonL S) S.length → (∀ r, dF (X ++ r) (S.take pl) = dF r (S.take (pl + x.1))) →
          ∃ l0 b0 xs zs, V.ref l = V.ref l0 ∧ [V.ref t3] = [V.ref b0] ∧ H3 l0 = some (.lst xs) ∧ SqT K H3 b0 zs ∧ xs.length + zs.length ≤ sizeLine ∧ ∃ m', m' < S.length - pl ∧ ∃ (pl' : Nat) (D' : List Int) (y4 y5 : Option V), [some (.ref p), some (.ref d), some (.ref l), some (.int ((pl : Int) + (x.1 : Int))), some (V.int (x.1 : Int)), some (V.int (x.2 : Int))] = [some (.ref p), some (.ref d), some (.ref l), some (.int (pl' : Int)), y4, y5] ∧ m' = S.length - pl' ∧ pl' ≤ S.length ∧ Same H (upd H3 l0 (.lst (xs ++ zs))) ∧ (upd H3 l0 (.lst (xs ++ zs))) l = some (.lst (D'.map V.int)) ∧ (upd H3 l0 (.lst (xs ++ zs))) d = some (.lst ts) ∧ Ps K (upd H3 l0 (.lst (xs ++ zs))) T ts ∧ Byt D' ∧ D'.length + cst (lonL S) (S.length - pl') = cst (lonL S) S.length ∧ ∀ r, dF (D' ++ r) [] = dF r (S.take pl') := by
        intro X H3 t3 s3 h3 bX l1 l2 lX rX
        have hl3 := s3 _ _ hl
        refine ⟨l, t3, _, _, rfl, rfl, hl3, h3, sz _ (by rw [List.length_map, List.length_map]; omega), S.length - (pl + x.1), by omega, pl + x.1, D ++ X, _, _, by rw [Int.natCast_add], rfl, l2, (sm.trans s3).over nlH (Wo.nc hl3 trivial), by rw [upd_same, List.map_append], ?_, ?_, bD.app bX, by rw [List.length_append]; exact lX, fun r => ?_⟩
        · rw [upd_ne nld]; exact s3 _ _ hd
        · exact pT'.mono fun _ _ k => (k.keep s3).put hl3 trivial
        · rw [List.append_assoc, rD, rX]
      refine ⟨_, rfl, .inl ⟨rfl, _, SqL.of hl⟩, _, rfl, _, rfl, _, rfl, _, rfl, p, S, pl, x.1, x.2, rfl, SqT.of hp', few, fun e0 => ?_, fun e0 => ?_⟩
      · intro H3 t3 s3 h3
        rcases okx with ⟨_, x1, x2, x4, x5⟩ | ⟨_, c, _⟩
        · obtain ⟨l0, b0, xs, zs, a1, a2, a3, a4, a5, m', a6, a7⟩ := fin _ H3 t3 s3 h3 (by
            intro y hy
            rcases List.mem_cons.mp hy with rfl | hy
            · omega
            · exact hb y (List.mem_of_mem_drop (List.mem_of_mem_take hy))) (by omega) x4 (by rw [List.length_cons, List.length_take, List.length_drop]; omega) (fun r => by
            rw [dF_new x1 x2 (by rw [List.length_take, List.length_drop]; omega), take_more])
          exact ⟨l0, b0, xs, zs, a1, a2, a3, a4, a5, _, rfl, _, rfl, _, _, rfl, rfl, m', a6, a7⟩
        · have := c.1
          omega
      · intro H3 t3 s3 h3
        rcases okx with ⟨c, _⟩ | ⟨x1, c, x5⟩
        · exact absurd c e0
        · have c1 := c.1
          have c2 := c.2.1
          have c3 := c.2.2.1
          have c4 := c.2.2.2.1
          have c5 := c.2.2.2.2.1
          obtain ⟨l0, b0, xs, zs, a1, a2, a3, a4, a5, m', a6, a7⟩ := fin _ H3 t3 s3 h3 (by
            intro y hy
            simp only [List.mem_cons, List.not_mem_nil, or_false] at hy
            rcases hy with rfl | rfl <;> omega) (by omega) c5 (by simp only [List.length_cons, List.length_nil]; omega) (fun r => by
            rw [dF_copy x1 c1 (by rw [List.length_take]; omega), copy_take c])
          exact ⟨l0, b0, xs, zs, a1, a2, a3, a4, a5, _, rfl, _, rfl, _, _, rfl, rfl, m', a6, a7⟩
    · have ek : pl = S.length := by
        have : ¬ (pl : Int) < ((S.map V.int).length : Int) := fun y => z (decide_eq_true y)
        rw [List.length_map] at this
        omega
      subst ek
      rw [Nat.sub_self, cst_zero] at lD
      refine ⟨_, rfl, l, _, rfl, SqL.of hl, fun H3 t3 s3 h3 => q D bD ?_ (by omega) _ _ (sm.trans s3) h3⟩
      have := rD []
      rw [List.append_nil, List.take_length] at this
      rw [this]
      unfold dF
      rw [deedsF_end, if_pos few]
def spPr (K : PySem.W.Frag) : Sp := fun vs H Q _ => ∃ (p : Addr) (S : List Int), vs = [.int 1, .ref p] ∧ H p = some (.tup (S.map V.int)) ∧ Byt S ∧ S.length ≤ 1000 ∧ ∀ D : List Int, Byt D → dF D [] = some S → D.length = cst (lonL S) S.length → Tups K H (D.map V.int) Q
theorem ok_pr {f : Addr} {fd : FuncData} (Ev : Env K mg) (CBodyDeeds : Cal P w K mg base "body_deeds" 4 ["body"] (spBD K)) (F : Fun K "pressed" "pressed" sPressed f fd) : FnOk P w K mg base CX0 5 f fd ["kind", "body"] (spPr K) := by
  refine F.ok scPressed (fun vs H Q E h => ?_) (fun cdv A outer s H vs Q E hr h => ?_)
  · obtain ⟨p, S, rfl, _⟩ := h; rfl
  · obtain ⟨p, S, rfl, hp, hb, few, q⟩ := h
    refine ⟨_, (pss_cons (ps_if (pt_cmpR op_eq (pv 0) pe_int (nomark _))
        pss_never
        pss_nil)
      (pss_cons (ps_if (pt_cmpR op_eq (pv 0) pe_int (nomark _))
        (pss_one (ps_ret (pe_c CBodyDeeds (hr.mono (by omega)) (pa_cons (pv 1) pa_nil))))
        pss_nil)
      (pss_one (ps_never)))), ?_⟩
    refine ⟨_, rfl, rfl, _, rfl, ite2 (fun z => absurd z (by decide)) (fun _ => ?_)⟩
    refine ⟨_, rfl, rfl, _, rfl, ite2 (fun _ => ?_) (fun z => absurd rfl z)⟩
    exact ⟨_, rfl, p, S, rfl, hp, hb, few, q⟩

/-! ### a draw -/
def spD : Sp := fun vs H Q _ => ∃ c p m : Int, vs = [.int c, .int p, .int m] ∧ 0 ≤ p ∧ p < 100000 ∧ 0 < m ∧ ∀ d : Int, 0 ≤ d → d < m → Q (.int d) H
theorem ok_d {f : Addr} {fd : FuncData} (Ev : Env K mg) (F : Fun K "_law_d" "_law_d" sLawD f fd) : FnOk P w K mg base CX0 1 f fd ["_law_cell", "_law_place", "_law_many"] spD := by
  refine F.ok scLawD (fun vs H Q E h => ?_) (fun cdv A outer s H vs Q E hr h => ?_)
  · obtain ⟨c, p, m, rfl, _⟩ := h; rfl
  · obtain ⟨c, p, m, rfl, p0, p1, hm, q⟩ := h
    refine ⟨_, (pss_cons (ps_set (i := 3) scLawD.nd rfl (.inl rfl) (pe_op op_mod (pe_op op_add (pv 0) (pe_op op_mul pe_int (pv 1))) pe_int))
      (pss_cons (ps_set (i := 3) scLawD.nd rfl (.inl rfl) (pe_op op_mod (pe_op op_mul (pe_op op_mod (pe_op op_mul (pv 3) (pv 3)) pe_int) pe_int) pe_int))
      (pss_one (ps_ret (pe_op op_mod (pe_op op_fdiv (pv 3) pe_int) (pv 2)))))), ?_⟩
    refine ⟨_, rfl, _, rfl, _, _, rfl, rfl, .inl ⟨by decide, by decide⟩, _, _, rfl, rfl, _, 4294967291, rfl, rfl, (show (0 : Int) < 4294967291 by decide), ?_⟩
    have b := Int.emod_lt_of_pos (c + 104729 * p) (show (0 : Int) < 4294967291 by decide)
    have b' := Int.emod_nonneg (c + 104729 * p) (show (4294967291 : Int) ≠ 0 by decide)
    refine ⟨_, rfl, _, rfl, _, _, rfl, rfl, .inl ⟨by omega, by omega⟩, _, 4294967279, rfl, rfl, (show (0 : Int) < 4294967279 by decide), _, 48271, rfl, rfl, .inr ⟨by decide, by decide⟩, _, 4294967291, rfl, rfl, (show (0 : Int) < 4294967291 by decide), ?_⟩
    refine ⟨_, rfl, _, 64, rfl, rfl, ⟨by decide, by decide⟩, _, rfl, _, _, rfl, rfl, hm, q _ (Int.emod_nonneg _ (Int.ne_of_gt hm)) (Int.emod_lt_of_pos _ hm)⟩

/-! ### two things that are the same -/
def spSameD (K : PySem.W.Frag) (n : Nat) : Sp := fun vs H Q _ => ∃ (u v : V) (d : PyData), vs = [u, v] ∧ Dp K H u d ∧ Dp K H v d ∧ tupsOnly d = true ∧ PyData.depth d ≤ n ∧ ∀ H', Same H H' → Q (.bl true) H'
theorem ok_sameD {f : Addr} {fd : FuncData} (Ev : Env K mg) (F : Fun K "_law_same" "_law_same" sLawSame f fd) (mS : mg "_law_same" = some (.ref f)) (bS : Binds K fd ["_law_told", "_law_due"] []) : ∀ n : Nat, FnOk P w K mg base CX0 (n + 1) f fd ["_law_told", "_law_due"] (spSameD K n) := by
  have flat : ∀ (u v : V) (d : PyData) (H : Hp), Dp K H u d → Dp K H v d → (∀ ds, d ≠ .tuple ds) → tupsOnly d = true → (u = .non ∧ v = .non) ∨ (∃ b, u = .bl b ∧ v = .bl b) ∨ (∃ i, u = .int i ∧ v = .int i) ∨ (∃ x, u = .str x ∧ v = .str x) := by
    intro u v d H hu hv nt ok
    cases d with
    | none => cases hu; cases hv; exact .inl ⟨rfl, rfl⟩
    | bool b => cases hu; cases hv; exact .inr (.inl ⟨b, rfl, rfl⟩)
    | int i => cases hu; cases hv; exact .inr (.inr (.inl ⟨i, rfl, rfl⟩))
    | str x => cases hu; cases hv; exact .inr (.inr (.inr ⟨x, rfl, rfl⟩))
    | list ds => cases ok
    | tuple ds => exact absurd rfl (nt ds)
    | dict kvs => cases ok
  intro n
  induction n with
  | zero =>
    refine F.ok scLawSame (fun vs H Q E h => ?_) (fun cdv A outer s H vs Q E hr h => ?_)
    · obtain ⟨u, v, d, rfl, _⟩ := h; rfl
    · obtain ⟨u, v, d, rfl, hu, hv, ok, dp, q⟩ := h
      refine ⟨_, (pss_cons (ps_if (pt_cmpR op_isN (pv 1) pe_non (nomark _))
        (pss_one (ps_ret (pe_cmpR op_isN (pv 0) pe_non (nomark _))))
        pss_nil)
      (pss_cons (ps_if (pt_val (pe_callB call_isi (by rfl) Ev.b_isinstance (by decide +kernel) (pa_cons (pv 1) (pa_cons (pe_btype (n := "bool") (by rfl) Ev.b_bool (by decide +kernel)) pa_nil))))
        (pss_one (ps_ret (pe_and (pe_callB call_isi (by rfl) Ev.b_isinstance (by decide +kernel) (pa_cons (pv 0) (pa_cons (pe_btype (n := "bool") (by rfl) Ev.b_bool (by decide +kernel)) pa_nil))) (pe_one (pe_cmpR op_eq (pv 0) (pv 1) (nomark _))))))
        pss_nil)
      (pss_cons (ps_if (pt_val (pe_callB call_isi (by rfl) Ev.b_isinstance (by decide +kernel) (pa_cons (pv 1) (pa_cons (pe_btype (n := "tuple") (by rfl) Ev.b_tuple (by decide +kernel)) pa_nil))))
        pss_never
        pss_nil)
      (pss_cons (ps_if (pt_val (pe_callB call_isi (by rfl) Ev.b_isinstance (by decide +kernel) (pa_cons (pv 1) (pa_cons (pe_btype (n := "str") (by rfl) Ev.b_str (by decide +kernel)) pa_nil))))
        (pss_one (ps_ret (pe_and (pe_callB call_isi (by rfl) Ev.b_isinstance (by decide +kernel) (pa_cons (pv 0) (pa_cons (pe_btype (n := "str") (by rfl) Ev.b_str (by decide +kernel)) pa_nil))) (pe_one (pe_cmpR op_eq (pv 0) (pv 1) (nomark _))))))
        pss_nil)
      (pss_one (ps_ret (pe_and (pe_callB call_isi (by rfl) Ev.b_isinstance (by decide +kernel) (pa_cons (pv 0) (pa_cons (pe_btype (n := "int") (by rfl) Ev.b_int (by decide +kernel)) pa_nil))) (pe_and (pe_not (pe_callB call_isi (by rfl) Ev.b_isinstance (by decide +kernel) (pa_cons (pv 0) (pa_cons (pe_btype (n := "bool") (by rfl) Ev.b_bool (by decide +kernel)) pa_nil)))) (pe_one (pe_cmpR op_eq (pv 0) (pv 1) (nomark _))))))))))), ?_⟩
      have nt : ∀ ds, d ≠ .tuple ds := fun ds z => by
        rw [z, PyData.depth] at dp
        omega
      · have _u := nt
        rcases flat u v d H hu hv nt ok with ⟨rfl, rfl⟩ | ⟨b, rfl, rfl⟩ | ⟨i, rfl, rfl⟩ | ⟨x, rfl, rfl⟩
        · refine ⟨_, rfl, rfl, _, rfl, iteT ?_⟩
          exact ⟨_, rfl, rfl, q _ (Same.refl _)⟩
        · refine ⟨_, rfl, rfl, _, rfl, iteF ?_⟩
          refine ⟨.bl b, rfl, _, _, _, _, true, rfl, .ty "bool", .base (.bl _), k_bb, true, rfl, iteT ?_⟩
          refine ⟨.bl b, rfl, _, _, _, _, true, rfl, .ty "bool", .base (.bl _), k_bb, true, rfl, iteT ?_⟩
          refine ⟨.bl b, rfl, .bl b, rfl, rfl, ?_⟩
          rw [decide_eq_true rfl]
          exact q _ (Same.refl _)
        · refine ⟨_, rfl, rfl, _, rfl, iteF ?_⟩
          refine ⟨.int i, rfl, _, _, _, _, false, rfl, .ty "bool", .base (.int _), k_ib, false, rfl, iteF ?_⟩
          refine ⟨.int i, rfl, _, _, _, _, false, rfl, .ty "tuple", .base (.int _), k_it, false, rfl, iteF ?_⟩
          refine ⟨.int i, rfl, _, _, _, _, false, rfl, .ty "str", .base (.int _), k_is', false, rfl, iteF ?_⟩
          refine ⟨.int i, rfl, _, _, _, _, true, rfl, .ty "int", .base (.int _), k_ii, true, rfl, iteT ?_⟩
          refine ⟨.int i, rfl, _, _, _, _, false, rfl, .ty "bool", .base (.int _), k_ib, false, rfl, true, rfl, iteT ?_⟩
          refine ⟨.int i, rfl, .int i, rfl, rfl, ?_⟩
          rw [decide_eq_true rfl]
          exact q _ (Same.refl _)
        · refine ⟨_, rfl, rfl, _, rfl, iteF ?_⟩
          refine ⟨.str x, rfl, _, _, _, _, false, rfl, .ty "bool", .base (.str _), k_sb, false, rfl, iteF ?_⟩
          refine ⟨.str x, rfl, _, _, _, _, false, rfl, .ty "tuple", .base (.str _), k_st, false, rfl, iteF ?_⟩
          refine ⟨.str x, rfl, _, _, _, _, true, rfl, .ty "str", .base (.str _), k_ss, true, rfl, iteT ?_⟩
          refine ⟨.str x, rfl, _, _, _, _, true, rfl, .ty "str", .base (.str _), k_ss, true, rfl, iteT ?_⟩
          refine ⟨.str x, rfl, .str x, rfl, rfl, ?_⟩
          rw [decide_eq_true rfl]
          exact q _ (Same.refl _)

  | succ n ih =>
    have CLawSame : Cal P w K mg base "_law_same" (n + 1) ["_law_told", "_law_due"] (spSameD K n) := ⟨f, fd, ih, mS, F.kp, bS⟩
    refine F.ok scLawSame (fun vs H Q E h => ?_) (fun cdv A outer s H vs Q E hr h => ?_)
    · obtain ⟨u, v, d, rfl, _⟩ := h; rfl
    · obtain ⟨u, v, d, rfl, hu, hv, ok, dp, q⟩ := h
      refine ⟨_, (pss_cons (ps_if (pt_cmpR op_isN (pv 1) pe_non (nomark _))
        (pss_one (ps_ret (pe_cmpR op_isN (pv 0) pe_non (nomark _))))
        pss_nil)
      (pss_cons (ps_if (pt_val (pe_callB call_isi (by rfl) Ev.b_isinstance (by decide +kernel) (pa_cons (pv 1) (pa_cons (pe_btype (n := "bool") (by rfl) Ev.b_bool (by decide +kernel)) pa_nil))))
        (pss_one (ps_ret (pe_and (pe_callB call_isi (by rfl) Ev.b_isinstance (by decide +kernel) (pa_cons (pv 0) (pa_cons (pe_btype (n := "bool") (by rfl) Ev.b_bool (by decide +kernel)) pa_nil))) (pe_one (pe_cmpR op_eq (pv 0) (pv 1) (nomark _))))))
        pss_nil)
      (pss_cons (ps_if (pt_val (pe_callB call_isi (by rfl) Ev.b_isinstance (by decide +kernel) (pa_cons (pv 1) (pa_cons (pe_btype (n := "tuple") (by rfl) Ev.b_tuple (by decide +kernel)) pa_nil))))
        (pss_cons (ps_if (PW.pt (pw_or (pt_not (pt_val (pe_callB call_isi (by rfl) Ev.b_isinstance (by decide +kernel) (pa_cons (pv 0) (pa_cons (pe_btype (n := "tuple") (by rfl) Ev.b_tuple (by decide +kernel)) pa_nil))))) (pw_or1 (pt_cmpR op_ne (pe_callB call_len_seq (by rfl) Ev.b_len PySem.boot_len (pa_cons (pv 0) pa_nil)) (pe_callB call_len_seq (by rfl) Ev.b_len PySem.boot_len (pa_cons (pv 1) pa_nil)) (nomark _)))))
          (pss_one (ps_ret pe_bl))
          pss_nil)
        (pss_one (ps_ret (pe_callB (cr_all rfl) (by rfl) Ev.b_all (by decide +kernel) (pa_cons (pe_lc (own := [("_law_one", 2), ("_law_other", 3)]) (g := gTup K 2 (gCons (gName 2) (gCons (gName 3) (gNil)))) (tt := tYes) (by rfl) scLawSame.nd (RZ.pi_zipA (by rfl) Ev.b_zip (pa_cons (pv 0) (pa_cons (pv 1) pa_nil))) (blkOk_by (own := [("_law_one", 2), ("_law_other", 3)]) (N := nLawSame) (sc := defScope sLawSame) (by decide +kernel)) (fun _ _ _ _ _ => (pg_tup (by rfl) (pgs_cons (pg_name (i := 2) scLawSame.nd rfl (.inl rfl)) (pgs_cons (pg_name (i := 3) scLawSame.nd rfl (.inl rfl)) pgs_nil)))) (fun _ _ _ _ _ => pts_nil) (fun _ _ _ _ _ => (pe_c CLawSame (hr.mono (by omega)) (pa_cons (pv 2) (pa_cons (pv 3) pa_nil))))) pa_nil)))))
        pss_nil)
      (pss_cons (ps_if (pt_val (pe_callB call_isi (by rfl) Ev.b_isinstance (by decide +kernel) (pa_cons (pv 1) (pa_cons (pe_btype (n := "str") (by rfl) Ev.b_str (by decide +kernel)) pa_nil))))
        (pss_one (ps_ret (pe_and (pe_callB call_isi (by rfl) Ev.b_isinstance (by decide +kernel) (pa_cons (pv 0) (pa_cons (pe_btype (n := "str") (by rfl) Ev.b_str (by decide +kernel)) pa_nil))) (pe_one (pe_cmpR op_eq (pv 0) (pv 1) (nomark _))))))
        pss_nil)
      (pss_one (ps_ret (pe_and (pe_callB call_isi (by rfl) Ev.b_isinstance (by decide +kernel) (pa_cons (pv 0) (pa_cons (pe_btype (n := "int") (by rfl) Ev.b_int (by decide +kernel)) pa_nil))) (pe_and (pe_not (pe_callB call_isi (by rfl) Ev.b_isinstance (by decide +kernel) (pa_cons (pv 0) (pa_cons (pe_btype (n := "bool") (by rfl) Ev.b_bool (by decide +kernel)) pa_nil)))) (pe_one (pe_cmpR op_eq (pv 0) (pv 1) (nomark _))))))))))), ?_⟩
      by_cases tt : ∃ ds, d = .tuple ds
      · obtain ⟨ds, rfl⟩ := tt
        cases hu with
        | @tup p xs _ hp hxs =>
        cases hv with
        | @tup r ys _ hq hys =>
        rw [tupsOnly, Bool.and_eq_true] at ok
        have few : ds.length ≤ 100000 := of_decide_eq_true ok.1
        have lx := dpLen hxs
        have ly := dpLen hys
        refine ⟨_, rfl, rfl, _, rfl, iteF ?_⟩
        refine ⟨.ref r, rfl, _, _, _, _, false, rfl, .ty "bool", ty_tup hq, k_tb, false, rfl, iteF ?_⟩
        refine ⟨.ref r, rfl, _, _, _, _, true, rfl, .ty "tuple", ty_tup hq, k_tt, true, rfl, iteT ?_⟩
        refine ⟨.ref p, rfl, _, _, _, _, true, rfl, .ty "tuple", ty_tup hp, k_tt, true, rfl, iteF ?_⟩
        refine ⟨_, rfl, p, _, rfl, .inr hp, _, rfl, r, _, rfl, .inr hq, rfl, _, rfl, iteNS (by rw [lx, ly]) ?_⟩
        refine ⟨_, rfl, _, rfl, p, r, _, _, rfl, .inr ⟨hp, hq, fun D nD => ?_⟩⟩
        have lz : ((List.replicate ds.length true).map V.bl).length = xs.length := by rw [List.length_map, List.length_replicate, lx]
        refine lc_zip (xs := xs) (ys := ys) (zs := (List.replicate ds.length true).map V.bl) nD hp hq (by omega) lz ?_ (fun _ _ => rfl) (fun i x y z H2 R hx hy hz sm R1 => ?_) (fun H2 sm h2 => ?_)
        · rw [lx, sizeLine_eq]
          omega
        · obtain ⟨d1, e1, k1⟩ := dpGet hxs hx
          obtain ⟨d2, e2, k2⟩ := dpGet hys hy
          have ed : d1 = d2 := Option.some.inj (e1.symm.trans e2)
          subst ed
          have ez : z = .bl true := by
            rw [List.getElem?_map] at hz
            cases e : (List.replicate ds.length true)[i]? with
            | none => rw [e] at hz; cases hz
            | some b =>
              rw [e] at hz
              have eb : b = true := List.eq_of_mem_replicate (List.mem_of_getElem? e)
              rw [eb] at hz
              exact (Option.some.inj hz).symm
          subst ez
          have dd := depth_get e1
          rw [PyData.depth] at dp
          exact ⟨_, rfl, _, rfl, x, y, d1, rfl, dpKeep sm k1, dpKeep sm k2, tupsAll_get ok.2 e1, by omega, fun H' e => R1 _ e⟩
        · refine ⟨D, List.replicate ds.length true, rfl, SqL.of h2, ?_⟩
          have e : (List.replicate ds.length true).all id = true := by
            rw [List.all_eq_true]
            intro b hb
            rw [List.eq_of_mem_replicate hb]
            rfl
          rw [e]
          exact q _ sm
      · have nt : ∀ ds, d ≠ .tuple ds := fun ds z => tt ⟨ds, z⟩
        rcases flat u v d H hu hv nt ok with ⟨rfl, rfl⟩ | ⟨b, rfl, rfl⟩ | ⟨i, rfl, rfl⟩ | ⟨x, rfl, rfl⟩
        · refine ⟨_, rfl, rfl, _, rfl, iteT ?_⟩
          exact ⟨_, rfl, rfl, q _ (Same.refl _)⟩
        · refine ⟨_, rfl, rfl, _, rfl, iteF ?_⟩
          refine ⟨.bl b, rfl, _, _, _, _, true, rfl, .ty "bool", .base (.bl _), k_bb, true, rfl, iteT ?_⟩
          refine ⟨.bl b, rfl, _, _, _, _, true, rfl, .ty "bool", .base (.bl _), k_bb, true, rfl, iteT ?_⟩
          refine ⟨.bl b, rfl, .bl b, rfl, rfl, ?_⟩
          rw [decide_eq_true rfl]
          exact q _ (Same.refl _)
        · refine ⟨_, rfl, rfl, _, rfl, iteF ?_⟩
          refine ⟨.int i, rfl, _, _, _, _, false, rfl, .ty "bool", .base (.int _), k_ib, false, rfl, iteF ?_⟩
          refine ⟨.int i, rfl, _, _, _, _, false, rfl, .ty "tuple", .base (.int _), k_it, false, rfl, iteF ?_⟩
          refine ⟨.int i, rfl, _, _, _, _, false, rfl, .ty "str", .base (.int _), k_is', false, rfl, iteF ?_⟩
          refine ⟨.int i, rfl, _, _, _, _, true, rfl, .ty "int", .base (.int _), k_ii, true, rfl, iteT ?_⟩
          refine ⟨.int i, rfl, _, _, _, _, false, rfl, .ty "bool", .base (.int _), k_ib, false, rfl, true, rfl, iteT ?_⟩
          refine ⟨.int i, rfl, .int i, rfl, rfl, ?_⟩
          rw [decide_eq_true rfl]
          exact q _ (Same.refl _)
        · refine ⟨_, rfl, rfl, _, rfl, iteF ?_⟩
          refine ⟨.str x, rfl, _, _, _, _, false, rfl, .ty "bool", .base (.str _), k_sb, false, rfl, iteF ?_⟩
          refine ⟨.str x, rfl, _, _, _, _, false, rfl, .ty "tuple", .base (.str _), k_st, false, rfl, iteF ?_⟩
          refine ⟨.str x, rfl, _, _, _, _, true, rfl, .ty "str", .base (.str _), k_ss, true, rfl, iteT ?_⟩
          refine ⟨.str x, rfl, _, _, _, _, true, rfl, .ty "str", .base (.str _), k_ss, true, rfl, iteT ?_⟩
          refine ⟨.str x, rfl, .str x, rfl, rfl, ?_⟩
          rw [decide_eq_true rfl]
          exact q _ (Same.refl _)


/-! ### the body, by hand -/
def spBack (K : PySem.W.Frag) : Sp := fun vs H Q _ => ∃ (p : Addr) (S : List Int), vs = [.ref p] ∧ SqT K H p (S.map V.int) ∧ Byt S ∧ S.length ≤ 20000 ∧ ∀ H' v, Same H H' → ShowsO K H' v (backF S) → Q v H'
def wBack (K : PySem.W.Frag) (H : Hp) (p : Addr) (S : List Int) (m : Nat) (σ : L2.St) (H' : Hp) : Prop :=
  ∃ (k : Nat) (B : List Int) (t : Addr) (y3 y4 y5 : Option V), σ = [some (.ref p), some (.ref t), some (.int (k : Int)), y3, y4, y5] ∧ m = S.length - k ∧ k ≤ S.length ∧ Same H H' ∧ SqT K H' t (B.map V.int) ∧ B.length ≤ 130 * k ∧ ∃ f, S.length - k ≤ f ∧ deedsF f (S.drop k) B = backF S
theorem ok_back {f : Addr} {fd : FuncData} (Ev : Env K mg) (F : Fun K "_law_back" "_law_back" sLawBack f fd) : FnOk P w K mg base CX0 1 f fd ["_law_some"] (spBack K) := by
  refine F.ok scLawBack (fun vs H Q E h => ?_) (fun cdv A outer s H vs Q E hr h => ?_)
  · obtain ⟨p, S, rfl, _⟩ := h; rfl
  · obtain ⟨p, S, rfl, hp, hb, few, q⟩ := h
    refine ⟨_, (pss_cons (ps_set (i := 1) scLawBack.nd rfl (.inl rfl) (pe_tupU pa_nil))
      (pss_cons (ps_set (i := 2) scLawBack.nd rfl (.inl rfl) pe_int)
      (pss_cons (ps_while PassesOwn.never (pt_cmpR op_lt (pv 2) (pe_callB call_len_seq (by rfl) Ev.b_len PySem.boot_len (pa_cons (pv 0) pa_nil)) (nomark _))
        (pss_cons (ps_set (i := 3) scLawBack.nd rfl (.inl rfl) (pe_op op_add (pe_ix ix_tup (pv 0) (pv 2) (fun _ _ => rfl)) pe_int))
        (pss_one (ps_if (pt_cmpR op_le (pv 3) pe_int (nomark _))
          (pss_cons (ps_if (pt_cmpR op_lt (pe_callB call_len_seq (by rfl) Ev.b_len PySem.boot_len (pa_cons (pv 0) pa_nil)) (pe_op op_add (pe_op op_add (pv 2) pe_int) (pv 3)) (nomark _))
            (pss_one (ps_ret pe_non))
            pss_nil)
          (pss_cons (ps_set (i := 1) scLawBack.nd rfl (.inl rfl) (pe_op op_catU (pv 1) (pe_slice sl_tupU (pv 0) (po_some (pe_op op_add (pv 2) pe_int)) (po_some (pe_op op_add (pe_op op_add (pv 2) pe_int) (pv 3))))))
          (pss_one (ps_set (i := 2) scLawBack.nd rfl (.inl rfl) (pe_op op_add (pe_op op_add (pv 2) pe_int) (pv 3))))))
          (pss_cons (ps_if (PW.pt (pw_or (pt_cmpR op_lt (pe_callB call_len_seq (by rfl) Ev.b_len PySem.boot_len (pa_cons (pv 0) pa_nil)) (pe_op op_add (pv 2) pe_int) (nomark _)) (pw_or1 (pt_cmpR op_ge (pe_ix ix_tup (pv 0) (pe_op op_add (pv 2) pe_int) (fun _ _ => rfl)) (pe_callB call_len_seq (by rfl) Ev.b_len PySem.boot_len (pa_cons (pv 1) pa_nil)) (nomark _)))))
            (pss_one (ps_ret pe_non))
            pss_nil)
          (pss_cons (ps_set (i := 4) scLawBack.nd rfl (.inl rfl) (pe_op op_add (pe_ix ix_tup (pv 0) (pe_op op_add (pv 2) pe_int) (fun _ _ => rfl)) pe_int))
          (pss_cons (ps_for PassesOwn.never rfl (pi_range1 (by rfl) Ev.b_range (pa_cons (pe_op op_sub (pv 3) pe_int) pa_nil)) (pg_name (i := 5) scLawBack.nd rfl (.inl rfl))
            (pss_one (ps_set (i := 1) scLawBack.nd rfl (.inl rfl) (pe_op op_catU (pv 1) (pe_tupU (pa_cons (pe_ix ix_tup (pv 1) (pe_op op_sub (pe_callB call_len_seq (by rfl) Ev.b_len PySem.boot_len (pa_cons (pv 1) pa_nil)) (pv 4)) (fun _ _ => rfl)) pa_nil))))))
          (pss_one (ps_set (i := 2) scLawBack.nd rfl (.inl rfl) (pe_op op_add (pv 2) pe_int))))))))))
      (pss_cons (ps_if (pt_cmpR op_gt (pe_callB call_len_seq (by rfl) Ev.b_len PySem.boot_len (pa_cons (pv 1) pa_nil)) pe_int (nomark _))
        (pss_one (ps_ret pe_non))
        pss_nil)
      (pss_one (ps_ret (pv 1))))))), ?_⟩
    refine ⟨Nat.zero_le _, fun H1 t1 s1 h1 => ?_⟩
    refine ⟨wBack K H p S, ⟨_, 0, [], t1, none, none, none, rfl, rfl, Nat.zero_le _, s1, h1, Nat.zero_le _, S.length, Nat.le_refl _, rfl⟩, fun m σ H' hW => ?_⟩
    obtain ⟨k, B, t, y3, y4, y5, rfl, rfl, lk, sm, ht, lB, g, lg, eg⟩ := hW
    have hp' := keepT sm hp
    have size : ∀ n : Nat, n ≤ 130 * 20000 + 1000 → n ≤ sizeLine := fun n h => by rw [sizeLine_eq]; omega
    refine ⟨_, rfl, _, rfl, p, _, rfl, .inr hp', _, _, rfl, rfl, _, rfl, ite2 (fun z => ?_) (fun z => ?_)⟩
    · have lt : k < S.length := by
        have := of_decide_eq_true z
        rw [List.length_map] at this
        omega
      obtain ⟨g', rfl⟩ : ∃ g', g = g' + 1 := ⟨g - 1, by omega⟩
      obtain ⟨n, en⟩ : ∃ n, n = S[k] := ⟨_, rfl⟩
      have bn := hb S[k] (List.getElem_mem lt)
      rw [← en] at bn
      have gk : (S.map V.int)[k]? = some (.int n) := by rw [List.getElem?_map, List.getElem?_eq_getElem lt, en]; rfl
      rw [List.drop_eq_getElem_cons lt, ← en] at eg
      have lr : (S.drop (k + 1)).length = S.length - (k + 1) := List.length_drop ..
      refine ⟨fun σ' H'' => ∃ m', m' < S.length - k ∧ wBack K H p S m' σ' H'', fun σ' H'' h => h, ?_⟩
      refine ⟨_, rfl, _, rfl, p, _, _, _, rfl, rfl, hp', atI_nat gk, _, _, rfl, rfl, ?_⟩
      refine ⟨_, rfl, _, _, rfl, rfl, _, rfl, ite2 (fun y => ?_) (fun y => ?_)⟩
      · have small : n ≤ 127 := by
          have : n + 1 ≤ 128 := of_decide_eq_true y
          omega
        rw [deedsF_lit small] at eg
        refine ⟨_, rfl, p, _, rfl, .inr hp', _, rfl, _, _, rfl, rfl, _, rfl, _, _, rfl, rfl, _, _, rfl, rfl, _, rfl, ite2 (fun x => ?_) (fun x => ?_)⟩
        · have x' : ((S.map V.int).length : Int) < (k : Int) + 1 + (n + 1) := of_decide_eq_true x
          rw [List.length_map] at x'
          rw [if_pos (by rw [lr]; omega)] at eg
          refine q _ _ sm ?_
          rw [← eg]
          rfl
        have x' : ¬ ((S.map V.int).length : Int) < (k : Int) + 1 + (n + 1) := fun v => x (decide_eq_true v)
        rw [List.length_map] at x'
        rw [if_neg (by rw [lr]; omega)] at eg
        refine ⟨_, rfl, _, rfl, _, rfl, _, _, rfl, rfl, _, rfl, _, rfl, _, _, rfl, rfl, _, rfl, _, _, rfl, rfl, _, rfl, p, _, rfl, hp', fun Ha ta sa ha => ?_⟩
        have e1 : (k : Int) + 1 = ((k + 1 : Nat) : Int) := by omega
        have e2 : (k : Int) + 1 + (n + 1) = ((k + 1 + (n + 1).toNat : Nat) : Int) := by omega
        rw [e1, show ((k + 1 : Nat) : Int) + (n + 1) = ((k + 1 + (n + 1).toNat : Nat) : Int) by omega, cut_mid, Nat.add_sub_cancel_left] at ha
        have lt2 : ((S.drop (k + 1)).take (n + 1).toNat).length ≤ 128 := by
          rw [List.length_take]
          omega
        refine ⟨t, ta, _, _, rfl, rfl, keepT sa ht, ha, ?_, fun Hb tb sb hbb => ?_⟩
        · refine size _ ?_
          rw [List.length_map, List.length_map]
          omega
        rw [← List.map_append] at hbb
        refine ⟨_, rfl, _, _, rfl, rfl, _, rfl, _, _, rfl, rfl, S.length - (k + 1 + (n + 1).toNat), by omega, k + 1 + (n + 1).toNat, B ++ (S.drop (k + 1)).take (n + 1).toNat, tb, some (.int (n + 1)), y4, y5, ?_, rfl, by omega, sm.trans (sa.trans sb), hbb, ?_, g', by omega, ?_⟩
        · show [_, _, some (V.int ((k : Int) + 1 + (n + 1))), _, _, _] = _
          rw [e2]
        · rw [List.length_append]
          omega
        · rw [← eg, List.drop_drop]
      · have big : ¬ n ≤ 127 := fun v => y (decide_eq_true (show n + 1 ≤ 128 by omega))
        refine ⟨_, rfl, p, _, rfl, .inr hp', _, rfl, _, _, rfl, rfl, _, _, rfl, rfl, _, rfl, ite2 (fun x => iteT ?_) (fun x => ?_)⟩
        · have x' : ((S.map V.int).length : Int) < (k : Int) + 2 := of_decide_eq_true x
          rw [List.length_map] at x'
          have nil : S.drop (k + 1) = [] := List.drop_of_length_le (by omega)
          rw [nil, deedsF_cut big] at eg
          refine q _ _ sm ?_
          rw [← eg]
          rfl
        have x' : ¬ ((S.map V.int).length : Int) < (k : Int) + 2 := fun v => x (decide_eq_true v)
        rw [List.length_map] at x'
        have lt1 : k + 1 < S.length := by omega
        obtain ⟨d, ed⟩ : ∃ d, d = S[k + 1] := ⟨_, rfl⟩
        have bd := hb S[k + 1] (List.getElem_mem lt1)
        rw [← ed] at bd
        have gd : (S.map V.int)[k + 1]? = some (.int d) := by rw [List.getElem?_map, List.getElem?_eq_getElem lt1, ed]; rfl
        rw [List.drop_eq_getElem_cons lt1, ← ed, deedsF_back big] at eg
        have e1 : (k : Int) + 1 = ((k + 1 : Nat) : Int) := by omega
        refine ⟨_, rfl, _, rfl, _, _, rfl, rfl, p, _, _, _, rfl, rfl, hp', at_of e1 gd, _, rfl, t, _, rfl, .inr ht, _, _, rfl, rfl, _, rfl, ite2 (fun v => ?_) (fun v => ?_)⟩
        · have v' : ((B.map V.int).length : Int) ≤ d := of_decide_eq_true v
          rw [List.length_map] at v'
          rw [if_pos v'] at eg
          refine q _ _ sm ?_
          rw [← eg]
          rfl
        have v' : ¬ ((B.map V.int).length : Int) ≤ d := fun z => v (decide_eq_true z)
        rw [List.length_map] at v'
        rw [if_neg v'] at eg
        refine ⟨_, rfl, _, rfl, _, _, rfl, rfl, p, _, _, _, rfl, rfl, hp', at_of e1 gd, _, _, rfl, rfl, ?_⟩
        obtain ⟨far, ef⟩ : ∃ far : Nat, far = (d + 1).toNat := ⟨_, rfl⟩
        have efI : d + 1 = (far : Int) := by omega
        rw [← ef] at eg
        refine ⟨_, rfl, _, _, rfl, rfl, _, rfl, by omega, by omega, for_range (lo := 0) (fun i σ Hx => ∃ (tx : Addr) (y5 : Option V), σ = [some (.ref p), some (.ref tx), some (.int (k : Int)), some (.int (n + 1)), some (.int (d + 1)), y5] ∧ Same H' Hx ∧ SqT K Hx tx ((copyB i far B).map V.int)) ⟨t, _, rfl, Same.refl _, ht⟩ (fun i σ Hx hi p' => ?_) (fun σ Hx p' => ?_)⟩
        · obtain ⟨tx, y5, rfl, sx, htx⟩ := p'
          have i130 : i < 130 := by omega
          have lc : (copyB i far B).length = B.length + i := copyB_len ..
          have ltf : (copyB i far B).length - far < (copyB i far B).length := by omega
          have gi : ((copyB i far B).map V.int)[(copyB i far B).length - far]? = some (.int ((copyB i far B).getD ((copyB i far B).length - far) 0)) := by
            rw [List.getElem?_map, List.getD_eq_getElem?_getD, List.getElem?_eq_getElem ltf]
            rfl
          have ei : (((copyB i far B).map V.int).length : Int) - (d + 1) = (((copyB i far B).length - far : Nat) : Int) := by
            rw [List.length_map, efI]
            omega
          refine ⟨_, rfl, _, rfl, _, rfl, tx, _, rfl, .inr htx, _, rfl, _, _, rfl, rfl, tx, _, _, _, rfl, rfl, htx, at_of ei gi, (show 1 ≤ sizeLine by rw [sizeLine_eq]; decide), fun Hy ty sy hy => ?_⟩
          refine ⟨tx, ty, _, _, rfl, rfl, keepT sy htx, hy, ?_, fun Hz tz sz hz => ?_⟩
          · refine size _ ?_
            rw [List.length_map, lc]
            simp only [List.length_cons, List.length_nil]
            omega
          refine ⟨tz, _, rfl, sx.trans (sy.trans sz), ?_⟩
          rw [copyB_succ, moreB, List.map_append]
          exact hz
        · obtain ⟨tx, y5, rfl, sx, htx⟩ := p'
          have en2 : (n + 1 - 126).toNat = (n - 125).toNat := by omega
          rw [en2] at htx
          refine ⟨_, rfl, _, _, rfl, rfl, S.length - (k + 2), by omega, k + 2, copyB (n - 125).toNat far B, tx, some (.int (n + 1)), some (.int (d + 1)), y5, ?_, rfl, by omega, sm.trans sx, htx, ?_, g', by omega, eg⟩
          · show [_, _, some (V.int ((k : Int) + 2)), _, _, _] = _
            rw [show (k : Int) + 2 = ((k + 2 : Nat) : Int) by omega]
          · rw [copyB_len]
            omega
    · have ek : k = S.length := by
        have : ¬ (k : Int) < ((S.map V.int).length : Int) := fun y => z (decide_eq_true y)
        rw [List.length_map] at this
        omega
      have nil : S.drop k = [] := List.drop_of_length_le (by omega)
      rw [nil, deedsF_end] at eg
      refine ⟨_, rfl, t, _, rfl, .inr ht, _, _, rfl, rfl, _, rfl, ite2 (fun y => ?_) (fun y => ?_)⟩
      · have y' : (1000 : Int) < ((B.map V.int).length : Int) := of_decide_eq_true y
        rw [List.length_map] at y'
        rw [if_neg (by omega)] at eg
        refine q _ _ sm ?_
        rw [← eg]
        rfl
      · have y' : ¬ (1000 : Int) < ((B.map V.int).length : Int) := fun v => y (decide_eq_true v)
        rw [List.length_map] at y'
        rw [if_pos (by omega)] at eg
        refine ⟨_, rfl, q _ _ sm ?_⟩
        rw [← eg]
        exact ⟨t, rfl, ht⟩

/-! ### the program's deeds -/
theorem deedsF_long : ∀ (f : Nat) (r B : List Int), 1000 < B.length → deedsF f r B = none
  | f, [], B, h => by rw [deedsF_end, if_neg (by omega)]
  | 0, _ :: _, _, _ => rfl
  | f + 1, n :: r, B, h => by
    rw [deedsF]
    split
    · split
      · rfl
      · exact deedsF_long f _ _ (by rw [List.length_append]; omega)
    · split
      · rfl
      · split
        · rfl
        · exact deedsF_long f _ _ (by rw [copyB_len]; omega)
def spWhole (K : PySem.W.Frag) (cB : Addr) : Sp := fun vs H Q E => ∃ (p : Addr) (S : List Int) (n : Int), vs = [.ref p, .int n] ∧ SqT K H p (S.map V.int) ∧ (n ≤ S.length → Q .non H) ∧ ((S.length : Int) < n → E (.ref cB) none H)
theorem ok_whole {f : Addr} {fd : FuncData} (Ev : Env K mg) (Ex : Excs K mg e_BadForm) (F : Fun K "check_whole" "check_whole" sCheckWhole f fd) : FnOk P w K mg base (L2.CX P w) 1 f fd ["some", "behind"] (spWhole K e_BadForm) := by
  refine F.okX scCheckWhole (fun vs H Q E h => ?_) (fun cdv A outer s H vs Q E hr h => ?_)
  · obtain ⟨p, S, n, rfl, _⟩ := h; rfl
  · obtain ⟨p, S, n, rfl, hp, hq, he⟩ := h
    refine ⟨_, (pss_one (ps_if (pt_cmpR op_gt (pv 1) (pe_callB call_len_seq (by rfl) Ev.b_len PySem.boot_len (pa_cons (pv 0) pa_nil)) (nomark _))
        (pss_one (ps_raiseC (W := fun cls d _ H => E cls d H) rfl (takes_of rfl rfl rfl rfl) Ex.BadForm))
        pss_nil)), ?_⟩
    refine ⟨_, rfl, _, rfl, p, _, rfl, .inr hp, _, _, rfl, rfl, _, rfl, ite2 (fun z => ?_) (fun z => ?_)⟩
    · have z' := of_decide_eq_true z
      rw [List.length_map] at z'
      exact he z'
    · have z' : ¬ ((S.map V.int).length : Int) < n := fun y => z (decide_eq_true y)
      rw [List.length_map] at z'
      exact hq (by omega)
def spCopies (K : PySem.W.Frag) (cB : Addr) : Sp := fun vs H Q E => ∃ (b : Addr) (B : List Int) (many back : Nat), vs = [.ref b, .int (many : Int), .int (back : Int)] ∧ H b = some (.lst (B.map V.int)) ∧ 1 ≤ back ∧ many ≤ 1000 ∧ B.length ≤ 2000 ∧ (B.length < back → E (.ref cB) none H) ∧ (back ≤ B.length → ∀ H', But b H H' → H' b = some (.lst ((copyB many back B).map V.int)) → Q .non H')
theorem ok_copies {f : Addr} {fd : FuncData} (Ev : Env K mg) (Ex : Excs K mg e_BadForm) (F : Fun K "add_copies" "add_copies" sAddCopies f fd) : FnOk P w K mg base (L2.CX P w) 1 f fd ["body", "many", "back"] (spCopies K e_BadForm) := by
  refine F.okX scAddCopies (fun vs H Q E h => ?_) (fun cdv A outer s H vs Q E hr h => ?_)
  · obtain ⟨b, B, many, back, rfl, _⟩ := h; rfl
  · obtain ⟨b, B, many, back, rfl, hb, b1, m1, lB, he, hq⟩ := h
    refine ⟨_, (pss_cons (ps_if (pt_cmpR op_gt (pv 2) (pe_callB call_len_seq (by rfl) Ev.b_len PySem.boot_len (pa_cons (pv 0) pa_nil)) (nomark _))
        (pss_one (ps_raiseC (W := fun cls d _ H => E cls d H) rfl (takes_of rfl rfl rfl rfl) Ex.BadForm))
        pss_nil)
      (pss_one (ps_for (passes_of rfl) rfl (pi_range1 (by rfl) Ev.b_range (pa_cons (pv 1) pa_nil)) (pg_name (i := 3) scAddCopies.nd rfl (.inl rfl))
        (pss_one (ps_expr (pe_bm PySem.F.plainAttrs_list PySem.F.slot_list_append PySem.F.type_list_append mt_append (pv 0) (pa_cons (pe_ix ix_list (pv 0) (pe_op op_sub (pe_callB call_len_seq (by rfl) Ev.b_len PySem.boot_len (pa_cons (pv 0) pa_nil)) (pv 2)) (fun _ _ => rfl)) pa_nil))))))), ?_⟩
    refine ⟨_, rfl, _, rfl, b, _, rfl, .inl (SqL.of hb), _, _, rfl, rfl, _, rfl, ite2 (fun z => ?_) (fun z => ?_)⟩
    · have z' := of_decide_eq_true z
      rw [List.length_map] at z'
      exact he (by omega)
    have z' : ¬ ((B.map V.int).length : Int) < (back : Int) := fun y => z (decide_eq_true y)
    rw [List.length_map] at z'
    have le : back ≤ B.length := by omega
    have mx : (many : Int).toNat = many := by omega
    refine ⟨_, rfl, _, rfl, by omega, by omega, for_range (lo := 0) (fun i σ Hx => ∃ y3, σ = [some (.ref b), some (.int (many : Int)), some (.int (back : Int)), y3] ∧ But b H Hx ∧ Hx b = some (.lst ((copyB i back B).map V.int))) ⟨none, rfl, But.refl b H, hb⟩ (fun i σ Hx hi p' => ?_) (fun σ Hx p' => ?_)⟩
    · obtain ⟨y3, rfl, sx, hx⟩ := p'
      have lc : (copyB i back B).length = B.length + i := copyB_len ..
      have ltf : (copyB i back B).length - back < (copyB i back B).length := by omega
      have gi : ((copyB i back B).map V.int)[(copyB i back B).length - back]? = some (.int ((copyB i back B).getD ((copyB i back B).length - back) 0)) := by
        rw [List.getElem?_map, List.getD_eq_getElem?_getD, List.getElem?_eq_getElem ltf]
        rfl
      have ei : (((copyB i back B).map V.int).length : Int) - (back : Int) = (((copyB i back B).length - back : Nat) : Int) := by
        rw [List.length_map]
        omega
      refine ⟨_, rfl, .inl ⟨rfl, _, SqL.of hx⟩, _, rfl, _, rfl, b, _, rfl, .inl (SqL.of hx), _, rfl, _, _, rfl, rfl, b, _, _, _, rfl, rfl, SqL.of hx, at_of ei gi, b, _, _, rfl, rfl, hx, ?_, _, rfl, sx.set, ?_⟩
      · rw [List.length_map, lc, sizeLine_eq]
        omega
      · rw [upd_same, copyB_succ, moreB, List.map_append]
        rfl
    · obtain ⟨y3, rfl, sx, hx⟩ := p'
      exact hq le _ sx hx
def spDeedsP (K : PySem.W.Frag) (cB : Addr) : Sp := fun vs H Q E => ∃ (p : Addr) (S : List Int), vs = [.ref p] ∧ SqT K H p (S.map V.int) ∧ Byt S ∧ S.length ≤ 20000 ∧ OutU K cB H Q E (backF S)
def wDeeds (K : PySem.W.Frag) (H : Hp) (p : Addr) (S : List Int) (m : Nat) (σ : L2.St) (H' : Hp) : Prop :=
  ∃ (k : Nat) (B : List Int) (b : Addr) (y3 : Option V), σ = [some (.ref p), some (.ref b), some (.int (k : Int)), y3] ∧ m = S.length - k ∧ k ≤ S.length ∧ Same H H' ∧ H b = none ∧ H' b = some (.lst (B.map V.int)) ∧ B.length ≤ 1000 ∧ ∃ f, S.length - k ≤ f ∧ deedsF f (S.drop k) B = backF S
theorem ok_deedsP {f : Addr} {fd : FuncData} (Ev : Env K mg) (Ex : Excs K mg e_BadForm) (CCheckWhole : CalX P w K mg base "check_whole" 1 ["some", "behind"] (spWhole K e_BadForm)) (CAddCopies : CalX P w K mg base "add_copies" 1 ["body", "many", "back"] (spCopies K e_BadForm)) (F : Fun K "body_of_deeds" "body_of_deeds" sBodyOfDeeds f fd) : FnOk P w K mg base (L2.CX P w) 2 f fd ["some"] (spDeedsP K e_BadForm) := by
  refine F.okX scBodyOfDeeds (fun vs H Q E h => ?_) (fun cdv A outer s H vs Q E hr h => ?_)
  · obtain ⟨p, S, rfl, _⟩ := h; rfl
  · obtain ⟨p, S, rfl, hp, hb, few, out⟩ := h
    refine ⟨_, (pss_cons (ps_set (i := 1) scBodyOfDeeds.nd rfl (.inl rfl) (pe_lst pa_nil))
      (pss_cons (ps_set (i := 2) scBodyOfDeeds.nd rfl (.inl rfl) pe_int)
      (pss_cons (ps_while (passes_of rfl) (pt_cmpR op_lt (pv 2) (pe_callB call_len_seq (by rfl) Ev.b_len PySem.boot_len (pa_cons (pv 0) pa_nil)) (nomark _))
        (pss_cons (ps_if (pt_cmpR op_lt (pe_ix ix_tup (pv 0) (pv 2) (fun _ _ => rfl)) (pe_globI (by rfl) Ev.g_FIRST_COPY) (nomark _))
          (pss_cons (ps_set (i := 3) scBodyOfDeeds.nd rfl (.inl rfl) (pe_op op_add (pe_op op_add (pv 2) (pe_ix ix_tup (pv 0) (pv 2) (fun _ _ => rfl))) pe_int))
          (pss_cons (ps_expr (pe_cx (E := E) CCheckWhole (hr.mono (by omega)) (takes_of rfl rfl rfl rfl) (pa_cons (pv 0) (pa_cons (pv 3) pa_nil))))
          (pss_one (ps_expr (pe_bm PySem.F.plainAttrs_list PySem.F.slot_list_extend PySem.F.type_list_extend mt_extendT (pv 1) (pa_cons (pe_slice sl_tupU (pv 0) (po_some (pe_op op_add (pv 2) pe_int)) (po_some (pv 3))) pa_nil))))))
          (pss_cons (ps_set (i := 3) scBodyOfDeeds.nd rfl (.inl rfl) (pe_op op_add (pv 2) pe_int))
          (pss_cons (ps_expr (pe_cx (E := E) CCheckWhole (hr.mono (by omega)) (takes_of rfl rfl rfl rfl) (pa_cons (pv 0) (pa_cons (pv 3) pa_nil))))
          (pss_one (ps_expr (pe_cx (E := E) CAddCopies (hr.mono (by omega)) (takes_of rfl rfl rfl rfl) (pa_cons (pv 1) (pa_cons (pe_op op_add (pe_op op_sub (pe_ix ix_tup (pv 0) (pv 2) (fun _ _ => rfl)) (pe_globI (by rfl) Ev.g_FIRST_COPY)) (pe_globI (by rfl) Ev.g_LEAST_COPIED)) (pa_cons (pe_op op_add (pe_ix ix_tup (pv 0) (pe_op op_add (pv 2) pe_int) (fun _ _ => rfl)) pe_int) pa_nil)))))))))
        (pss_cons (ps_if (pt_cmpR op_gt (pe_callB call_len_seq (by rfl) Ev.b_len PySem.boot_len (pa_cons (pv 1) pa_nil)) (pe_globI (by rfl) Ev.g_MOST_OF_BODY) (nomark _))
          (pss_one (ps_raiseC (W := fun cls d _ H => E cls d H) rfl (takes_of rfl rfl rfl rfl) Ex.BadForm))
          pss_nil)
        (pss_one (ps_set (i := 2) scBodyOfDeeds.nd rfl (.inl rfl) (pv 3))))))
      (pss_one (ps_ret (pe_callTy call_tupleU (by rfl) Ev.b_tuple (by decide +kernel) (pa_cons (pv 1) pa_nil))))))), ?_⟩
    have size : ∀ n : Nat, n ≤ 5000 → n ≤ sizeLine := fun n h => by rw [sizeLine_eq]; omega
    refine ⟨Nat.zero_le _, fun b nb => ?_⟩
    refine ⟨wDeeds K H p S, ⟨_, 0, [], b, none, rfl, rfl, Nat.zero_le _, grow nb, nb, upd_same, Nat.zero_le _, S.length, Nat.le_refl _, rfl⟩, fun m σ H' hW => ?_⟩
    obtain ⟨k, B, b, y3, rfl, rfl, lk, sm, nb, h', lB, g, lg, eg⟩ := hW
    have hp' := keepT sm hp
    refine ⟨_, rfl, _, rfl, p, _, rfl, .inr hp', _, _, rfl, rfl, _, rfl, ite2 (fun z => ?_) (fun z => ?_)⟩
    · have lt : k < S.length := by
        have := of_decide_eq_true z
        rw [List.length_map] at this
        omega
      obtain ⟨g', rfl⟩ : ∃ g', g = g' + 1 := ⟨g - 1, by omega⟩
      obtain ⟨n, en⟩ : ∃ n, n = S[k] := ⟨_, rfl⟩
      have bn := hb S[k] (List.getElem_mem lt)
      rw [← en] at bn
      have gk : (S.map V.int)[k]? = some (.int n) := by rw [List.getElem?_map, List.getElem?_eq_getElem lt, en]; rfl
      rw [List.drop_eq_getElem_cons lt, ← en] at eg
      have lr : (S.drop (k + 1)).length = S.length - (k + 1) := List.length_drop ..
      refine ⟨fun σ' H'' => ∃ m', m' < S.length - k ∧ wDeeds K H p S m' σ' H'', fun σ' H'' h => h, ?_⟩
      -- what stands behind the if
      refine seq_by (t := tIfS _ _ _) (fun σ' Hx => ∃ (k' : Nat) (B' : List Int), σ' = [some (.ref p), some (.ref b), some (.int (k : Int)), some (.int (k' : Int))] ∧ k < k' ∧ k' ≤ S.length ∧ B'.length ≤ 2000 ∧ Same H Hx ∧ Hx b = some (.lst (B'.map V.int)) ∧ deedsF g' (S.drop k') B' = backF S) (fun σ' Hx pp => ?_) (fun go => ?_)
      · obtain ⟨k', B', rfl, lk', lk2, lB', sx, hx, ed⟩ := pp
        refine ⟨_, rfl, b, _, rfl, .inl (SqL.of hx), _, _, rfl, rfl, _, rfl, ite2 (fun y => ?_) (fun y => ?_)⟩
        · have y' := of_decide_eq_true y
          rw [List.length_map] at y'
          rw [deedsF_long _ _ _ (by omega)] at ed
          rw [← ed] at out
          exact out _ sx
        · have y' : ¬ (1000 : Int) < ((B'.map V.int).length : Int) := fun v => y (decide_eq_true v)
          rw [List.length_map] at y'
          exact ⟨_, rfl, S.length - k', by omega, k', B', b, _, rfl, rfl, lk2, sx, nb, hx, by omega, g', by omega, ed⟩
      refine ⟨_, rfl, _, rfl, p, _, _, _, rfl, rfl, hp', atI_nat gk, _, _, rfl, rfl, _, rfl, ite2 (fun y => ?_) (fun y => ?_)⟩
      · have small : n ≤ 127 := by
          have : n < 128 := of_decide_eq_true y
          omega
        rw [deedsF_lit small] at eg
        have e2 : (k : Int) + n + 2 = ((k + 1 + (n + 1).toNat : Nat) : Int) := by omega
        refine ⟨_, rfl, _, rfl, _, rfl, p, _, _, _, rfl, rfl, hp', atI_nat gk, _, _, rfl, rfl, _, _, rfl, rfl, ?_⟩
        refine ⟨_, rfl, _, rfl, p, S, _, rfl, hp', fun x' => ?_, fun x' => ?_⟩
        · rw [if_neg (by rw [lr]; omega)] at eg
          refine ⟨_, rfl, .inl ⟨rfl, _, SqL.of h'⟩, _, rfl, _, rfl, _, _, rfl, rfl, _, rfl, _, rfl, _, rfl, p, _, rfl, hp', fun Ha ta sa ha => ?_⟩
          rw [show (k : Int) + 1 = ((k + 1 : Nat) : Int) by omega, e2, cut_mid, Nat.add_sub_cancel_left] at ha
          have lt2 : ((S.drop (k + 1)).take (n + 1).toNat).length ≤ 128 := by
            rw [List.length_take]
            omega
          have hba := sa _ _ h'
          refine ⟨b, ta, _, _, rfl, rfl, hba, ha, ?_, ?_⟩
          · refine size _ ?_
            rw [List.length_map, List.length_map]
            omega
          refine go _ _ ⟨k + 1 + (n + 1).toNat, B ++ (S.drop (k + 1)).take (n + 1).toNat, (by show [_, _, _, some (V.int ((k : Int) + n + 2))] = _; rw [e2]), by omega, by omega, (by rw [List.length_append]; omega), keep_lst (sm.trans sa) nb, ?_, ?_⟩
          · rw [upd_same, List.map_append]
          · rw [← eg, List.drop_drop]
        · rw [if_pos (by rw [lr]; omega)] at eg
          rw [← eg] at out
          exact out _ sm
      · have big : ¬ n ≤ 127 := fun v => y (decide_eq_true (show n < 128 by omega))
        refine ⟨_, rfl, _, _, rfl, rfl, ?_⟩
        refine ⟨_, rfl, _, rfl, p, S, _, rfl, hp', fun x' => ?_, fun x' => ?_⟩
        · have lt1 : k + 1 < S.length := by omega
          obtain ⟨d, ed⟩ : ∃ d, d = S[k + 1] := ⟨_, rfl⟩
          have bd := hb S[k + 1] (List.getElem_mem lt1)
          rw [← ed] at bd
          have gd : (S.map V.int)[k + 1]? = some (.int d) := by rw [List.getElem?_map, List.getElem?_eq_getElem lt1, ed]; rfl
          rw [List.drop_eq_getElem_cons lt1, ← ed, deedsF_back big] at eg
          have e1 : (k : Int) + 1 = ((k + 1 : Nat) : Int) := by omega
          have em : n - 128 + 3 = (((n - 125).toNat : Nat) : Int) := by omega
          have eb : d + 1 = (((d + 1).toNat : Nat) : Int) := by omega
          refine ⟨_, rfl, _, rfl, _, rfl, p, _, _, _, rfl, rfl, hp', atI_nat gk, _, _, rfl, rfl, _, _, rfl, rfl, _, rfl, _, rfl, _, _, rfl, rfl, p, _, _, _, rfl, rfl, hp', at_of e1 gd, _, _, rfl, rfl, ?_⟩
          refine ⟨b, B, (n - 125).toNat, (d + 1).toNat, ?_, h', by omega, by omega, by omega, fun v => ?_, fun v Hx bx hx => ?_⟩
          · show [V.ref b, V.int (n - 128 + 3), V.int (d + 1)] = _
            rw [em, ← eb]
          · rw [if_pos (by omega)] at eg
            rw [← eg] at out
            exact out _ sm
          · rw [if_neg (by omega)] at eg
            exact go _ _ ⟨k + 2, _, (by show [_, _, _, some (V.int ((k : Int) + 2))] = _; rw [show (k : Int) + 2 = ((k + 2 : Nat) : Int) by omega]), by omega, by omega, (by rw [copyB_len]; omega), But.same sm nb (NC.lst h') bx, hx, eg⟩
        · have nil : S.drop (k + 1) = [] := List.drop_of_length_le (by omega)
          rw [nil, deedsF_cut big] at eg
          rw [← eg] at out
          exact out _ sm
    · have ek : k = S.length := by
        have : ¬ (k : Int) < ((S.map V.int).length : Int) := fun y => z (decide_eq_true y)
        rw [List.length_map] at this
        omega
      have nil : S.drop k = [] := List.drop_of_length_le (by omega)
      rw [nil, deedsF_end, if_pos lB] at eg
      rw [← eg] at out
      exact ⟨_, rfl, b, _, rfl, SqL.of h', fun Hx tx sx hx => out _ _ (sm.trans sx) hx⟩
theorem ok_unp {f : Addr} {fd : FuncData} (Ev : Env K mg) (Ex : Excs K mg e_BadForm) (CBodyOfDeeds : CalX P w K mg base "body_of_deeds" 2 ["some"] (spDeedsP K e_BadForm)) (F : Fun K "unpressed" "unpressed" sUnpressed f fd) : FnOk P w K mg base (L2.CX P w) 3 f fd ["kind", "some"] (spUnp K e_BadForm) := by
  refine F.okX scUnpressed (fun vs H Q E h => ?_) (fun cdv A outer s H vs Q E hr h => ?_)
  · obtain ⟨k, p, S, rfl, _⟩ := h; rfl
  · obtain ⟨k, p, S, rfl, k1, hp, hb, few, out⟩ := h
    refine ⟨_, (pss_cons (ps_if (pt_cmpR op_notIn_seq (pv 0) (pe_globT (by rfl) Ev.g_KINDS) (by rfl))
        (pss_one (ps_raiseC (W := fun cls d _ H => E cls d H) rfl (takes_of rfl rfl rfl rfl) Ex.BadForm))
        pss_nil)
      (pss_cons (ps_if (pt_cmpR op_eq (pv 0) pe_int (nomark _))
        (pss_one (ps_ret (pe_cx (E := E) CBodyOfDeeds (hr.mono (by omega)) (takes_of rfl rfl rfl rfl) (pa_cons (pv 1) pa_nil))))
        pss_nil)
      (pss_cons (ps_if (pt_cmpR op_eq (pv 0) pe_int (nomark _))
        pss_never
        pss_nil)
      (pss_cons (ps_if (pt_cmpR op_gt (pe_callB call_len_seq (by rfl) Ev.b_len PySem.boot_len (pa_cons (pv 1) pa_nil)) (pe_globI (by rfl) Ev.g_MOST_OF_BODY) (nomark _))
        (pss_one (ps_raiseC (W := fun cls d _ H => E cls d H) rfl (takes_of rfl rfl rfl rfl) Ex.BadForm))
        pss_nil)
      (pss_one (ps_ret (pv 1))))))), ?_⟩
    obtain rfl | rfl : k = 0 ∨ k = 1 := by omega
    · refine ⟨_, rfl, fun a ha => ⟨a, _, rfl, .inr (ha _), rfl, rfl, _, rfl, iteF ?_⟩⟩
      refine ⟨_, rfl, rfl, _, rfl, iteF ?_⟩
      refine ⟨_, rfl, rfl, _, rfl, iteF ?_⟩
      refine ⟨_, rfl, p, _, rfl, .inr hp, _, _, rfl, rfl, _, rfl, ite2 (fun y => ?_) (fun y => ?_)⟩
      · have y' := of_decide_eq_true y
        rw [List.length_map] at y'
        unfold unpF at out
        rw [if_pos rfl, if_neg (by omega)] at out
        exact out _ (Same.refl _)
      · have y' : ¬ (1000 : Int) < ((S.map V.int).length : Int) := fun v => y (decide_eq_true v)
        rw [List.length_map] at y'
        unfold unpF at out
        rw [if_pos rfl, if_pos (by omega)] at out
        exact ⟨_, rfl, out _ _ (Same.refl _) hp⟩
    · refine ⟨_, rfl, fun a ha => ⟨a, _, rfl, .inr (ha _), rfl, rfl, _, rfl, iteF ?_⟩⟩
      refine ⟨_, rfl, rfl, _, rfl, iteT ?_⟩
      exact ⟨_, rfl, p, S, rfl, hp, hb, few, out⟩

/-! ### the law's bytes -/
def spFew (K : PySem.W.Frag) : Sp := fun vs H Q _ => ∃ (a : Addr) (ns : List Int) (b e : Nat), vs = [.ref a, .int (b : Int), .int (e : Int)] ∧ SqL K H a (ns.map V.int) ∧ ns.length ≤ 63 ∧ ∀ bs : List Int, (∀ x ∈ bs, 0 ≤ x ∧ x < 256) → bs.length = min (e - b) (ns.length - b) → Tupn H (bs.map V.int) Q
theorem ok_few {f : Addr} {fd : FuncData} (Ev : Env K mg) (CLawD : Cal P w K mg base "_law_d" 1 ["_law_cell", "_law_place", "_law_many"] spD) (F : Fun K "_law_few" "_law_few" sLawFew f fd) : FnOk P w K mg base CX0 2 f fd ["_law_script", "_law_begin", "_law_end"] (spFew K) := by
  refine F.ok scLawFew (fun vs H Q E h => ?_) (fun cdv A outer s H vs Q E hr h => ?_)
  · obtain ⟨a, ns, b, e, rfl, _⟩ := h; rfl
  · obtain ⟨a, ns, b, e, rfl, hS, hz, q⟩ := h
    refine ⟨_, (pss_cons (ps_set (i := 3) scLawFew.nd rfl (.inr rfl) pe_int)
      (pss_cons (ps_if (pt_truth (pv 0) (by intro _; rfl))
        (pss_one (ps_set (i := 3) scLawFew.nd rfl (.inr rfl) (pe_ix ix_list (pv 0) pe_int (fun _ _ => rfl))))
        pss_nil)
      (pss_cons (ps_set (i := 4) scLawFew.nd rfl (.inr rfl) (pe_ix ix_list (pe_lst (pa_cons pe_int (pa_cons pe_int (pa_cons pe_int (pa_cons pe_int pa_nil))))) (pe_c CLawD (hr.mono (by omega)) (pa_cons (pv 3) (pa_cons pe_int (pa_cons pe_int pa_nil)))) (fun _ _ => rfl)))
      (pss_one (ps_ret (pe_callTy call_tupleN (by rfl) Ev.b_tuple (by decide +kernel) (pa_cons (pe_lc (own := [("_law_one", 5)]) (g := gName 5) (tt := tYes) (by rfl) scLawFew.nd (pi_list (pe_slice sl_list (pv 0) (po_some (pv 1)) (po_some (pv 2)))) (blkOk_by (own := [("_law_one", 5)]) (N := nLawFew) (sc := defScope sLawFew) (by decide +kernel)) (fun _ _ _ _ _ => (pg_name (i := 5) scLawFew.nd rfl (.inl rfl))) (fun _ _ _ _ _ => pts_nil) (fun _ _ _ _ _ => (pe_op op_mod (pe_op op_add (pe_op op_mod (pv 5) (pv 4)) (pe_op op_fdiv (pv 3) pe_int)) pe_int))) pa_nil))))))), ?_⟩
    refine seq_c (v := .int 0) (i := 3) ?_
    dsimp only
    refine seq_by (t := tIfS _ _ _) (fun σ H' => H' = H ∧ ∃ c : Int, σ = [some (.ref a), some (.int (b : Int)), some (.int (e : Int)), some (.int c), none, none]) (fun σ H' p => ?_) (fun go => ?_)
    · obtain ⟨rfl, c, rfl⟩ := p
      refine ⟨(show 4 ≤ sizeLine by rw [sizeLine_eq]; decide), fun pl nl => ?_⟩
      refine ⟨_, rfl, _, _, _, rfl, by decide, by decide, by decide, fun d d0 d1 => ?_⟩
      have hw : ∃ wd : Int, atI [V.int 2, .int 3, .int 5, .int 256] d = some (.int wd) ∧ 0 < wd := by
        have : d = 0 ∨ d = 1 ∨ d = 2 ∨ d = 3 := by omega
        rcases this with rfl | rfl | rfl | rfl
        · exact ⟨2, rfl, by decide⟩
        · exact ⟨3, rfl, by decide⟩
        · exact ⟨5, rfl, by decide⟩
        · exact ⟨256, rfl, by decide⟩
      obtain ⟨wd, aw, pw⟩ := hw
      refine ⟨pl, _, _, _, rfl, rfl, SqL.of upd_same, aw, ?_⟩
      have s1 : Same H' (upd H' pl (.lst [V.int 2, .int 3, .int 5, .int 256])) := grow nl
      generalize upd H' pl (.lst [V.int 2, .int 3, .int 5, .int 256]) = H1 at s1
      refine ⟨_, rfl, _, rfl, (b : Int), rfl, _, rfl, (e : Int), rfl, a, _, rfl, s1.seq hS, fun p np => ⟨p, rfl, ⟨_, SqL.of upd_same⟩, fun D nD => ?_⟩⟩
      rw [cut_mid] at nD ⊢
      obtain ⟨bs, ebs⟩ : ∃ bs : List Int, bs = ((ns.drop b).take (e - b)).map fun n => (n % wd + c / 4) % 256 := ⟨_, rfl⟩
      have hbs : ∀ x ∈ bs, 0 ≤ x ∧ x < 256 := by
        intro x hx
        rw [ebs] at hx
        obtain ⟨y, _, rfl⟩ := List.mem_map.mp hx
        omega
      have lbs : bs.length = ((ns.drop b).take (e - b)).length := by rw [ebs, List.length_map]
      have lbs2 : bs.length = min (e - b) (ns.length - b) := by rw [lbs, List.length_take, List.length_drop]
      refine lc_row (xs := ((ns.drop b).take (e - b)).map V.int) (ys := bs.map V.int) nD (SqL.of upd_same) ?_ ?_ (fun _ => rfl) (fun i x y H2 R hx hy sm r => ?_) (fun H2 sm h2 => ?_)
      · rw [List.length_map, List.length_map, lbs]
      · rw [List.length_map, List.length_take, List.length_drop]
        exact Nat.le_of_lt (small1000 (by omega))
      · obtain ⟨n, hn, rfl⟩ := got hx
        have ey : y = .int ((n % wd + c / 4) % 256) := by
          rw [ebs, List.getElem?_map, List.getElem?_map, hn] at hy
          exact (Option.some.inj hy).symm
        subst ey
        exact ⟨_, rfl, _, rfl, _, _, rfl, rfl, pw, _, rfl, _, 4, rfl, rfl, ⟨by decide, by decide⟩, _, _, rfl, rfl, _, 256, rfl, rfl, (show (0 : Int) < 256 by decide), r _ (Same.refl _)⟩
      · exact ⟨D, _, rfl, SqL.of h2, fun H3 t s3 h3 => q bs hbs lbs2 _ _ (s1.trans (((grow np).trans sm).trans s3)) h3⟩
    · refine ⟨_, rfl, _, .inl ⟨_, hS, rfl⟩, ite2 (fun z => ?_) (fun _ => go _ _ ⟨rfl, 0, rfl⟩)⟩
      have hns : 0 < ns.length := by
        cases ns with
        | nil => cases z
        | cons x r => exact Nat.zero_lt_succ _
      have g0 : (ns.map V.int)[0]? = some (.int ns[0]) := by rw [List.getElem?_map, List.getElem?_eq_getElem hns]; rfl
      exact ⟨_, rfl, a, _, 0, _, rfl, rfl, hS, at_of (j := 0) rfl g0, go _ _ ⟨rfl, _, rfl⟩⟩

/-! ### bytes, by hand -/
def spIsB (K : PySem.W.Frag) : Sp := fun vs H Q _ => ∃ (p : Addr) (S : List Int), vs = [.ref p] ∧ SqT K H p (S.map V.int) ∧ Byt S ∧ S.length ≤ 100000 ∧ ∀ H', Same H H' → Q (.bl true) H'
theorem ok_isB {f : Addr} {fd : FuncData} (Ev : Env K mg) (F : Fun K "_law_is_bytes" "_law_is_bytes" sLawIsBytes f fd) : FnOk P w K mg base CX0 1 f fd ["_law_thing"] (spIsB K) := by
  refine F.ok scLawIsBytes (fun vs H Q E h => ?_) (fun cdv A outer s H vs Q E hr h => ?_)
  · obtain ⟨p, S, rfl, _⟩ := h; rfl
  · obtain ⟨p, S, rfl, hp, hb, few, q⟩ := h
    refine ⟨_, (pss_cons (ps_if (pt_not (pt_val (pe_callB call_isi (by rfl) Ev.b_isinstance (by decide +kernel) (pa_cons (pv 0) (pa_cons (pe_btype (n := "tuple") (by rfl) Ev.b_tuple (by decide +kernel)) pa_nil)))))
        (pss_one (ps_ret pe_bl))
        pss_nil)
      (pss_one (ps_ret (pe_callB (cr_all rfl) (by rfl) Ev.b_all (by decide +kernel) (pa_cons (pe_lc (own := [("_law_one", 1)]) (g := gName 1) (tt := tYes) (by rfl) scLawIsBytes.nd (pi_tup (pv 0)) (blkOk_by (own := [("_law_one", 1)]) (N := nLawIsBytes) (sc := defScope sLawIsBytes) (by decide +kernel)) (fun _ _ _ _ _ => (pg_name (i := 1) scLawIsBytes.nd rfl (.inl rfl))) (fun _ _ _ _ _ => pts_nil) (fun _ _ _ _ _ => (pe_and (pe_callB (call_isiq (K := K) rfl) (by rfl) Ev.b_isinstance (by decide +kernel) (pa_cons (pv 1) (pa_cons (pe_btype (n := "int") (by rfl) Ev.b_int (by decide +kernel)) pa_nil))) (pe_and (pe_not (pe_callB (call_isiq (K := K) rfl) (by rfl) Ev.b_isinstance (by decide +kernel) (pa_cons (pv 1) (pa_cons (pe_btype (n := "bool") (by rfl) Ev.b_bool (by decide +kernel)) pa_nil)))) (pe_one (pe_chain op_le op_le pe_int (pv 1) pe_int)))))) pa_nil))))), ?_⟩
    refine ⟨.ref p, rfl, _, _, _, _, true, rfl, .ty "tuple", ty_tup hp, k_tt, true, rfl, iteF ?_⟩
    refine ⟨_, rfl, p, rfl, ⟨_, hp⟩, fun D nD => ?_⟩
    refine lcR_tup (es := S) (tt := tYes) (fun _ => true) (fun _ y _ => y = .bl true) nD hp (by rw [List.length_map]) (by rw [sizeLine_eq]; omega) (fun _ => rfl) (fun _ _ _ _ _ k => k) (fun _ _ _ _ _ _ _ k => k) (fun j x v H3 R hx hv s3 r => r _ (Same.refl _)) (fun j x v H3 R hx hv _ s3 r => ?_) (fun ys H3 al s3 hD => ?_)
    · obtain ⟨n, hn, rfl⟩ := got hv
      have bn := hb n (List.mem_of_getElem? hn)
      refine ⟨.int n, rfl, _, _, _, _, true, rfl, .ty "int", .base (.int _), k_ii, true, rfl, iteT ?_⟩
      refine ⟨.int n, rfl, _, _, _, _, false, rfl, .ty "bool", .base (.int _), k_ib, false, rfl, true, rfl, iteT ?_⟩
      refine ⟨.int n, rfl, _, _, rfl, rfl, _, rfl, ?_⟩
      rw [decide_eq_true bn.1]
      refine iteT ⟨_, _, rfl, rfl, ?_⟩
      dsimp only
      rw [decide_eq_true (show n ≤ 255 by omega)]
      exact r _ _ (Same.refl _) rfl
    · have e : ys = (S.map fun _ => true).map V.bl := by
        rw [List.filter_eq_self.mpr (fun _ _ => rfl)] at al
        rw [List.map_map]
        exact al.eq_map
      rw [e] at hD
      refine ⟨D, _, rfl, SqL.of hD, ?_⟩
      have ea : (S.map fun _ => true).all id = true := by
        rw [List.all_eq_true]
        intro b hb
        obtain ⟨_, _, rfl⟩ := List.mem_map.mp hb
        rfl
      rw [ea]
      exact q _ s3
/-! ### how many are repeated -/
theorem agr_succ {S : List Int} {q far m : Nat} : agr S q far (m + 1) ↔ agr S q far m ∧ q + m + 1 ≤ S.length ∧ S[q + m]? = S[q + m - far]? := by
  unfold agr
  constructor
  · intro ⟨a, b⟩
    exact ⟨⟨by omega, fun i hi => b i (by omega)⟩, by omega, b m (by omega)⟩
  · intro ⟨⟨a, b⟩, c, d⟩
    refine ⟨by omega, fun i hi => ?_⟩
    by_cases e : i = m
    · rw [e]; exact d
    · exact b i (by omega)
def spRep (K : PySem.W.Frag) : Sp := fun vs H Q _ => ∃ (p : Addr) (S : List Int) (q far : Nat), vs = [.ref p, .int (q : Int), .int (far : Int)] ∧ SqT K H p (S.map V.int) ∧ far ≤ q ∧ q ≤ S.length ∧ Q (.int ((repF S q far : Nat) : Int)) H
theorem ok_rep {f : Addr} {fd : FuncData} (Ev : Env K mg) (F : Fun K "_law_repeats" "_law_repeats" sLawRepeats f fd) : FnOk P w K mg base CX0 1 f fd ["_law_body", "_law_at", "_law_far"] (spRep K) := by
  refine F.ok scLawRepeats (fun vs H Q E h => ?_) (fun cdv A outer s H vs Q E hr h => ?_)
  · obtain ⟨p, S, q, far, rfl, _⟩ := h; rfl
  · obtain ⟨p, S, pl, far, rfl, hp, lf, lq, q⟩ := h
    refine ⟨_, (pss_cons (ps_set (i := 3) scLawRepeats.nd rfl (.inl rfl) pe_int)
      (pss_cons (ps_while PassesOwn.never (PW.pt (pw_and (pt_cmpR op_lt (pe_op op_add (pv 1) (pv 3)) (pe_callB call_len_seq (by rfl) Ev.b_len PySem.boot_len (pa_cons (pv 0) pa_nil)) (nomark _)) (pw_and1 (pt_cmpR op_eq (pe_ix ix_tup (pv 0) (pe_op op_add (pv 1) (pv 3)) (fun _ _ => rfl)) (pe_ix ix_tup (pv 0) (pe_op op_sub (pe_op op_add (pv 1) (pv 3)) (pv 2)) (fun _ _ => rfl)) (nomark _)))))
        (pss_one (ps_set (i := 3) scLawRepeats.nd rfl (.inl rfl) (pe_op op_add (pv 3) pe_int))))
      (pss_one (ps_ret (pe_callB (call_min2 rfl) (by rfl) Ev.b_min (by decide +kernel) (pa_cons (pv 3) (pa_cons pe_int pa_nil))))))), ?_⟩
    refine ⟨fun μ σ H' => ∃ m : Nat, σ = [some (.ref p), some (.int (pl : Int)), some (.int (far : Int)), some (.int (m : Int))] ∧ H' = H ∧ μ = S.length - (pl + m) ∧ agr S pl far m, ⟨_, 0, rfl, rfl, rfl, by omega, fun i hi => by omega⟩, fun μ σ H' hW => ?_⟩
    obtain ⟨m, rfl, rfl, rfl, ag⟩ := hW
    have lm := ag.1
    have fin : ¬ agr S pl far (m + 1) → (if (130 : Int) < (m : Int) then (130 : Int) else (m : Int)) = ((repF S pl far : Nat) : Int) := fun n => by
      have a := (agr_iff (far := far) lq).mp ag
      have b : ¬ m + 1 ≤ runS S pl far := fun z => n ((agr_iff lq).mpr z)
      unfold repF
      split <;> omega
    refine ⟨_, rfl, _, rfl, _, _, rfl, rfl, _, rfl, p, _, rfl, .inr hp, _, _, rfl, rfl, _, rfl, ite2 (fun z => ?_) (fun z => ?_)⟩
    · have lt : pl + m < S.length := by
        have := of_decide_eq_true z
        rw [List.length_map] at this
        omega
      have l2 : pl + m - far < S.length := by omega
      have g1 : (S.map V.int)[pl + m]? = some (.int S[pl + m]) := by rw [List.getElem?_map, List.getElem?_eq_getElem lt]; rfl
      have g2 : (S.map V.int)[pl + m - far]? = some (.int S[pl + m - far]) := by rw [List.getElem?_map, List.getElem?_eq_getElem l2]; rfl
      refine ⟨_, rfl, _, rfl, _, rfl, _, _, rfl, rfl, p, _, _, _, rfl, rfl, hp, at_of (show (pl : Int) + (m : Int) = ((pl + m : Nat) : Int) by omega) g1, _, rfl, _, rfl, _, rfl, _, _, rfl, rfl, _, rfl, _, _, rfl, rfl, p, _, _, _, rfl, rfl, hp, at_of (show (pl : Int) + (m : Int) - (far : Int) = ((pl + m - far : Nat) : Int) by omega) g2, rfl, _, rfl, ite2 (fun y => ?_) (fun y => ?_)⟩
      · have eq : S[pl + m] = S[pl + m - far] := V.int.inj (of_decide_eq_true y)
        refine ⟨fun σ' H'' => ∃ m', m' < S.length - (pl + m) ∧ _, fun σ' H'' h => h, ?_⟩
        refine ⟨_, rfl, _, _, rfl, rfl, S.length - (pl + (m + 1)), by omega, m + 1, ?_, rfl, rfl, agr_succ.mpr ⟨ag, by omega, by rw [List.getElem?_eq_getElem lt, List.getElem?_eq_getElem l2, eq]⟩⟩
        show [_, _, _, some (V.int ((m : Int) + 1))] = _
        rw [show (m : Int) + 1 = ((m + 1 : Nat) : Int) by omega]
      · refine ⟨_, rfl, _, _, rfl, ?_⟩
        dsimp only
        rw [fin fun a => y (decide_eq_true (congrArg V.int (by
          have := (agr_succ.mp a).2.2
          rw [List.getElem?_eq_getElem lt, List.getElem?_eq_getElem l2] at this
          exact Option.some.inj this)))]
        exact q
    · have ge : ¬ pl + m < S.length := fun y => z (decide_eq_true (by rw [List.length_map]; omega))
      refine iteF ⟨_, rfl, _, _, rfl, ?_⟩
      dsimp only
      rw [fin fun a => by have := a.1; omega]
      exact q
/-! ### the table -/
theorem min_cast {l : List Nat} {m : Int} (hm : m ∈ l.map fun n : Nat => (n : Int)) (h : ∀ y ∈ l.map (fun n : Nat => (n : Int)), m ≤ y) : m = ((minL l : Nat) : Int) := by
  obtain ⟨n, hn, rfl⟩ := List.mem_map.mp hm
  have := minL_is hn fun x hx => by
    have := h _ (List.mem_map.mpr ⟨x, hx, rfl⟩)
    omega
  rw [this]
theorem max_cast {S : List Int} {q : Nat} {m : Int} (hm : m ∈ (0 :: reps S q).map fun n : Nat => (n : Int)) (h : ∀ y ∈ (0 :: reps S q).map (fun n : Nat => (n : Int)), y ≤ m) : m = ((lonF S q : Nat) : Int) := by
  obtain ⟨n, hn, rfl⟩ := List.mem_map.mp hm
  have := lon_is hn fun x hx => by
    have := h _ (List.mem_map.mpr ⟨x, hx, rfl⟩)
    omega
  rw [this]
theorem row_get {g : Nat → Nat} {k j n : Nat} (h : ((List.range k).map g)[j]? = some n) : j < k ∧ n = g j := by
  have l : j < k := by
    have := (List.getElem?_eq_some_iff.mp h).1
    rwa [List.length_map, List.length_range] at this
  rw [List.getElem?_map, List.getElem?_range l] at h
  exact ⟨l, (Option.some.inj h).symm⟩
def spLeast (K : PySem.W.Frag) : Sp := fun vs H Q _ => ∃ (p : Addr) (S : List Int), vs = [.ref p] ∧ SqT K H p (S.map V.int) ∧ S.length ≤ 1000 ∧ ∀ H', Same H H' → Q (.int ((cst (lonL S) S.length : Nat) : Int)) H'
theorem ok_least {f : Addr} {fd : FuncData} (Ev : Env K mg) (CLawRepeats : Cal P w K mg base "_law_repeats" 1 ["_law_body", "_law_at", "_law_far"] (spRep K)) (F : Fun K "_law_least" "_law_least" sLawLeast f fd) : FnOk P w K mg base CX0 2 f fd ["_law_body"] (spLeast K) := by
  refine F.ok scLawLeast (fun vs H Q E h => ?_) (fun cdv A outer s H vs Q E hr h => ?_)
  · obtain ⟨p, S, rfl, _⟩ := h; rfl
  · obtain ⟨p, S, rfl, hp, few, q⟩ := h
    refine ⟨_, (pss_cons (ps_set (i := 1) scLawLeast.nd rfl (.inr rfl) (pe_lst (pa_cons pe_int pa_nil)))
      (pss_cons (ps_for PassesOwn.never rfl (pi_range3 (by rfl) Ev.b_range (pa_cons (pe_op op_sub (pe_callB call_len_seq (by rfl) Ev.b_len PySem.boot_len (pa_cons (pv 0) pa_nil)) pe_int) (pa_cons (pe_un un_neg pe_int) (pa_cons (pe_un un_neg pe_int) pa_nil)))) (pg_name (i := 2) scLawLeast.nd rfl (.inr rfl))
        (pss_cons (ps_setLc (i := 3) (own := [("_law_many", 5)]) (g := gName 5) (tt := tYes) (by rfl) scLawLeast.nd rfl rfl (sw_true rfl rfl rfl (by decide +kernel)) (pi_range2 (by rfl) Ev.b_range (pa_cons pe_int (pa_cons (pe_op op_add (pe_callB (call_min2 rfl) (by rfl) Ev.b_min (by decide +kernel) (pa_cons pe_int (pa_cons (pe_op op_sub (pe_callB call_len_seq (by rfl) Ev.b_len PySem.boot_len (pa_cons (pv 0) pa_nil)) (pv 2)) pa_nil))) pe_int) pa_nil))) (blkOk_by (own := [("_law_many", 5)]) (N := nLawLeast) (sc := defScope sLawLeast) (by decide +kernel)) (fun _ _ _ _ _ => (pg_name (i := 5) scLawLeast.nd rfl (.inl rfl))) (fun _ _ _ _ _ => pts_nil) (fun _ _ _ _ _ => (pe_op op_add (pe_op op_add pe_int (pv 5)) (pe_ix (ix_listq (K := K) rfl) (pv 1) (pe_op op_sub (pv 5) pe_int) (fun _ _ => rfl)))))
        (pss_cons (ps_set (i := 4) scLawLeast.nd rfl (.inl rfl) (pe_callB (cr_max rfl) (by rfl) Ev.b_max (by decide +kernel) (pa_cons (pe_op op_cat (pe_lst (pa_cons pe_int pa_nil)) (pe_lc (own := [("_law_far", 6)]) (g := gName 6) (tt := tYes) (by rfl) scLawLeast.nd (pi_range2 (by rfl) Ev.b_range (pa_cons pe_int (pa_cons (pe_op op_add (pe_callB (call_min2 rfl) (by rfl) Ev.b_min (by decide +kernel) (pa_cons (pv 2) (pa_cons pe_int pa_nil))) pe_int) pa_nil))) (blkOk_by (own := [("_law_far", 6)]) (N := nLawLeast) (sc := defScope sLawLeast) (by decide +kernel)) (fun _ _ _ _ _ => (pg_name (i := 6) scLawLeast.nd rfl (.inl rfl))) (fun _ _ _ _ _ => pts_nil) (fun _ _ _ _ _ => (pe_c CLawRepeats (hr.mono (by omega)) (pa_cons (pv 0) (pa_cons (pv 2) (pa_cons (pv 6) pa_nil))))))) pa_nil)))
        (pss_cons (ps_set (i := 3) scLawLeast.nd rfl (.inl rfl) (pe_op op_cat (pv 3) (pe_lc (own := [("_law_many", 5)]) (g := gName 5) (tt := tYes) (by rfl) scLawLeast.nd (pi_range2 (by rfl) Ev.b_range (pa_cons pe_int (pa_cons (pe_op op_add (pv 4) pe_int) pa_nil))) (blkOk_by (own := [("_law_many", 5)]) (N := nLawLeast) (sc := defScope sLawLeast) (by decide +kernel)) (fun _ _ _ _ _ => (pg_name (i := 5) scLawLeast.nd rfl (.inl rfl))) (fun _ _ _ _ _ => pts_nil) (fun _ _ _ _ _ => (pe_op op_add pe_int (pe_ix (ix_listq (K := K) rfl) (pv 1) (pe_op op_sub (pv 5) pe_int) (fun _ _ => rfl)))))))
        (pss_one (ps_set (i := 1) scLawLeast.nd rfl (.inr rfl) (pe_op op_cat (pe_lst (pa_cons (pe_callB (cr_min rfl) (by rfl) Ev.b_min (by decide +kernel) (pa_cons (pv 3) pa_nil)) pa_nil)) (pv 1))))))))
      (pss_one (ps_ret (pe_ix ix_list (pv 1) pe_int (fun _ _ => rfl)))))), ?_⟩
    have sz : ∀ n : Nat, n ≤ 5000 → n ≤ sizeLine := fun n h => by rw [sizeLine_eq]; omega
    refine ⟨sz _ (by simp), fun l0 n0 => ?_⟩
    have s0 : Same H (upd H l0 (.lst [.int 0])) := grow n0
    have h0 : (upd H l0 (.lst [.int 0])) l0 = some (.lst (nV (costR (lonL S) 0))) := upd_same
    generalize upd H l0 (.lst [.int 0]) = H0 at s0 h0
    refine ⟨_, rfl, p, _, rfl, .inr (keepT s0 hp), _, _, rfl, rfl, _, rfl, _, rfl, (S.length : Int) - 1, -1, -1, S.length, by rw [List.length_map], ?_, ?_⟩
    · have := RgC.neg (i := (S.length : Int) - 1) (j := -1) (by omega) (by omega) (by omega) (by omega)
      rw [show ((S.length : Int) - 1 - -1).toNat = S.length by omega] at this
      exact this
    refine for_rangeC (fun i σ H' => ∃ (l : Addr) (y2 y3 y4 y5 y6 : Option V), σ = [some (.ref p), some (.ref l), y2, y3, y4, y5, y6] ∧ Same H H' ∧ H' l = some (.lst (nV (costR (lonL S) i)))) ⟨l0, none, none, none, none, none, rfl, s0, h0⟩ (fun i σ H' hi p' => ?_) (fun σ H' p' => ?_)
    · obtain ⟨l, y2, y3, y4, y5, y6, rfl, sm, hl⟩ := p'
      obtain ⟨pl, epl⟩ : ∃ pl, pl + i + 1 = S.length := ⟨S.length - 1 - i, by omega⟩
      have e0 : (S.length : Int) - 1 + (i : Nat) * (-1 : Int) = (pl : Int) := by omega
      rw [e0]
      obtain ⟨C, eC⟩ : ∃ C, C = costR (lonL S) i := ⟨_, rfl⟩
      have lC : C.length = i + 1 := by rw [eC, costR_len]
      have hl' := hl
      rw [← eC] at hl'
      have hp' := keepT sm hp
      obtain ⟨k, ek⟩ : ∃ k, k = min 128 (i + 1) := ⟨_, rfl⟩
      have e1 : (if ((S.map V.int).length : Int) - (pl : Int) < 128 then ((S.map V.int).length : Int) - (pl : Int) else 128) = (k : Int) := by
        rw [List.length_map]
        split <;> omega
      refine ⟨_, rfl, p, _, rfl, .inr hp', _, rfl, _, _, rfl, rfl, _, _, rfl, ?_⟩
      dsimp only
      rw [e1]
      refine ⟨_, _, rfl, rfl, _, _, rfl, ⟨by omega, by omega, by omega, by omega⟩, fun D nD => ?_⟩
      have e2 : ((k : Int) + 1 - 1).toNat = k := by omega
      rw [e2]
      refine lc_rng (lo := 1) (n := k) (ys := nV (rowN C k)) nD (by rw [nV_len, rowN, List.length_map, List.length_range]) (sz _ (by omega)) (fun _ => rfl) (fun j y H2 R hj hy s2 r => ?_) (fun H2 s2 hD => ?_)
      · obtain ⟨x, hx, rfl⟩ := nV_get hy
        obtain ⟨_, rfl⟩ := row_get hx
        have g := nV_at (A := C) (i := j) (by omega)
        refine ⟨_, rfl, _, _, rfl, rfl, _, rfl, _, rfl, _, _, rfl, rfl, l, _, _, _, rfl, rfl, SqL.of (s2 _ _ hl'), at_of (show (1 : Int) + (j : Int) - 1 = ((j : Nat) : Int) by omega) g, _, _, rfl, rfl, ?_⟩
        dsimp only
        rw [show (1 : Int) + (1 + (j : Int)) + ((C.getD j 0 : Nat) : Int) = ((2 + j + C.getD j 0 : Nat) : Int) by omega]
        exact r _ (Same.refl _)
      refine ⟨sz _ (by simp), fun l3 n3 => ?_⟩
      have s3 : Same H2 (upd H2 l3 (.lst [.int 0])) := grow n3
      have h3 : (upd H2 l3 (.lst [.int 0])) l3 = some (.lst [.int 0]) := upd_same
      generalize upd H2 l3 (.lst [.int 0]) = H3 at s3 h3
      obtain ⟨w0, ew⟩ : ∃ w0, w0 = min pl 256 := ⟨_, rfl⟩
      have e3 : (if (256 : Int) < (pl : Int) then (256 : Int) else (pl : Int)) = (w0 : Int) := by
        split <;> omega
      refine ⟨_, rfl, _, _, rfl, ?_⟩
      dsimp only
      rw [e3]
      refine ⟨_, _, rfl, rfl, _, _, rfl, ⟨by omega, by omega, by omega, by omega⟩, fun D4 nD4 => ?_⟩
      have e4 : ((w0 : Int) + 1 - 1).toNat = w0 := by omega
      rw [e4]
      have y3 := s2.trans s3
      refine lc_rng (lo := 1) (n := w0) (ys := nV (reps S pl)) nD4 (by rw [nV_len, reps, List.length_map, List.length_range, ew]) (sz _ (by omega)) (fun _ => rfl) (fun j y H5 R hj hy s5 r => ?_) (fun H5 s5 hD5 => ?_)
      · obtain ⟨x, hx, rfl⟩ := nV_get hy
        obtain ⟨_, rfl⟩ := row_get hx
        refine ⟨_, rfl, _, rfl, _, rfl, p, S, pl, j + 1, congrArg (fun z => [V.ref p, V.int (pl : Int), V.int z]) (by omega), keepT (y3.trans s5) hp', by omega, by omega, r _ (Same.refl _)⟩
      refine ⟨l3, D4, _, _, rfl, rfl, s5 _ _ h3, hD5, sz _ ?_, fun l6 n6 => ?_⟩
      · rw [nV_len, reps, List.length_map, List.length_range]
        simp
        omega
      have s6 : Same H5 (upd H5 l6 (.lst ([.int 0] ++ nV (reps S pl)))) := grow n6
      have h6 : (upd H5 l6 (.lst ([.int 0] ++ nV (reps S pl)))) l6 = some (.lst (nV (0 :: reps S pl))) := upd_same
      generalize upd H5 l6 (.lst ([.int 0] ++ nV (reps S pl))) = H6 at s6 h6
      rw [nV_ints] at h6
      refine ⟨l6, _, rfl, SqL.of h6, by simp, fun m hm hall => ?_⟩
      have em := max_cast hm hall
      subst em
      have ll := lon_few (S := S) (q := pl) (by omega)
      have z6 : Same H2 H6 := s3.trans (s5.trans s6)
      refine ⟨_, rfl, _, rfl, _, _, rfl, rfl, _, _, rfl, ⟨by omega, by omega, by omega, by omega⟩, fun D7 nD7 => ?_⟩
      obtain ⟨lo, elo⟩ : ∃ lo, lo = lonF S pl := ⟨_, rfl⟩
      rw [← elo] at ll ⊢
      have e7 : ((lo : Int) + 1 - 3).toNat = lo - 2 := by omega
      rw [e7]
      refine lc_rng (lo := 3) (n := lo - 2) (ys := nV (rowC C lo)) nD7 (by rw [nV_len, rowC, List.length_map, List.length_range]) (sz _ (by omega)) (fun _ => rfl) (fun j y H8 R hj hy s8 r => ?_) (fun H8 s8 hD8 => ?_)
      · obtain ⟨x, hx, rfl⟩ := nV_get hy
        obtain ⟨_, rfl⟩ := row_get hx
        have g := nV_at (A := C) (i := j + 2) (by omega)
        refine ⟨_, rfl, _, rfl, _, _, rfl, rfl, l, _, _, _, rfl, rfl, SqL.of ((s2.trans (z6.trans s8)) _ _ hl'), at_of (show (3 : Int) + (j : Int) - 1 = ((j + 2 : Nat) : Int) by omega) g, _, _, rfl, rfl, ?_⟩
        dsimp only
        rw [show (2 : Int) + ((C.getD (j + 2) 0 : Nat) : Int) = ((2 + C.getD (j + 2) 0 : Nat) : Int) by omega]
        exact r _ (Same.refl _)
      have z8 := z6.trans s8
      refine ⟨D, D7, _, _, rfl, rfl, z8 _ _ hD, hD8, sz _ ?_, fun l9 n9 => ?_⟩
      · rw [nV_len, nV_len, rowN, rowC, List.length_map, List.length_range, List.length_map, List.length_range]
        omega
      have s9 : Same H8 (upd H8 l9 (.lst (nV (rowN C k) ++ nV (rowC C lo)))) := grow n9
      have h9 : (upd H8 l9 (.lst (nV (rowN C k) ++ nV (rowC C lo)))) l9 = some (.lst (nV (rowN C k ++ rowC C lo))) := by rw [upd_same, nV_app]
      generalize upd H8 l9 (.lst (nV (rowN C k) ++ nV (rowC C lo))) = H9 at s9 h9
      rw [nV_ints] at h9
      refine ⟨_, rfl, l9, _, rfl, SqL.of h9, ?_, fun m hm hall => ?_⟩
      · rw [List.length_map, List.length_append, rowN, List.length_map, List.length_range]
        omega
      have em := min_cast hm hall
      subst em
      refine ⟨sz _ (by simp), fun lA nA => ⟨_, rfl, lA, l, _, nV C, rfl, rfl, upd_same, ?_, sz _ ?_, fun lB nB => ?_⟩⟩
      · exact (grow nA) _ _ ((s2.trans (z8.trans s9)) _ _ hl')
      · rw [nV_len, lC]
        simp
        omega
      refine ⟨lB, _, _, _, _, _, rfl, ((sm.trans (s2.trans (z8.trans s9))).trans (grow nA)).trans (grow nB), ?_⟩
      rw [upd_same]
      have eL : lonL S (i + 1) = lo := by unfold lonL; rw [elo, show S.length - (i + 1) = pl by omega]
      show some (HO.lst ([V.int ((minL (rowN C k ++ rowC C lo) : Nat) : Int)] ++ nV C)) = some (HO.lst (nV (stepC (lonL S (i + 1)) i (costR (lonL S) i))))
      rw [eL, ← eC, ek]
      rfl
    · obtain ⟨l, y2, y3, y4, y5, y6, rfl, sm, hl⟩ := p'
      have g := nV_at (A := costR (lonL S) S.length) (i := 0) (by rw [costR_len]; omega)
      rw [cost_get _ _ _ (Nat.zero_le _), Nat.sub_zero] at g
      exact ⟨_, rfl, l, _, _, _, rfl, rfl, SqL.of hl, at_of (j := 0) rfl g, q _ sm⟩
def spRight (K : PySem.W.Frag) : Sp := fun vs H Q _ => ∃ (p : Addr) (S : List Int), vs = [.ref p, .int ((cst (lonL S) S.length : Nat) : Int)] ∧ H p = some (.tup (S.map V.int)) ∧ Byt S ∧ S.length ≤ 1000 ∧ ∀ H', Same H H' → Q (.bl true) H'
theorem ok_right {f : Addr} {fd : FuncData} (Ev : Env K mg) (CPressed : Cal P w K mg base "pressed" 5 ["kind", "body"] (spPr K)) (CUnpressed : CalX P w K mg base "unpressed" 3 ["kind", "some"] (spUnp K e_BadForm)) (CLawSame : Cal P w K mg base "_law_same" 2 ["_law_told", "_law_due"] (spSameD K 1)) (CLawIsBytes : Cal P w K mg base "_law_is_bytes" 1 ["_law_thing"] (spIsB K)) (CLawBack : Cal P w K mg base "_law_back" 1 ["_law_some"] (spBack K)) (F : Fun K "_law_right" "_law_right" sLawRight f fd) : FnOk P w K mg base CX0 6 f fd ["_law_body", "_law_due"] (spRight K) := by
  refine F.ok scLawRight (fun vs H Q E h => ?_) (fun cdv A outer s H vs Q E hr h => ?_)
  · obtain ⟨p, S, rfl, _⟩ := h; rfl
  · obtain ⟨p, S, rfl, hp, hb, few, q⟩ := h
    refine ⟨_, (pss_cons (ps_set (i := 2) scLawRight.nd rfl (.inl rfl) (pe_c CPressed (hr.mono (by omega)) (pa_cons pe_int (pa_cons (pv 0) pa_nil))))
      (pss_cons (ps_if (PW.pt (pw_or (pt_not (pt_val (pe_c CLawIsBytes (hr.mono (by omega)) (pa_cons (pv 2) pa_nil)))) (pw_or (pt_cmpR (op_neD hr.units) (pe_c CLawBack (hr.mono (by omega)) (pa_cons (pv 2) pa_nil)) (pv 0) (nomark _)) (pw_or1 (pt_not (pt_val (pe_c CLawSame (hr.mono (by omega)) (pa_cons (pe_cn CUnpressed (hr.mono (by omega)) (pa_cons pe_int (pa_cons (pv 2) pa_nil))) (pa_cons (pv 0) pa_nil)))))))))
        (pss_one (ps_ret pe_bl))
        pss_nil)
      (pss_one (ps_ret (pe_cmpR op_eq (pe_callB call_len_seq (by rfl) Ev.b_len PySem.boot_len (pa_cons (pv 2) pa_nil)) (pv 1) (nomark _)))))), ?_⟩
    have ctot : cst (lonL S) S.length ≤ 2 * S.length := cst_le (n := S.length) (fun k hk => lonL_le k hk) _ (Nat.le_refl _)
    refine ⟨_, rfl, p, S, rfl, hp, hb, few, fun D bD dD lD H1 t1 s1 h1 => ?_⟩
    have eB : backF D = some S := dD
    refine ⟨_, rfl, t1, D, rfl, h1, bD, by omega, fun H2 s2 => ⟨_, rfl, iteF ?_⟩⟩
    refine ⟨_, rfl, t1, D, rfl, keepT s2 h1, bD, by omega, fun H3 v s3 hv => ?_⟩
    rw [eB] at hv
    obtain ⟨t3, rfl, h3⟩ := hv
    have z3 := s1.trans (s2.trans s3)
    refine ⟨_, rfl, _, _, dp_ints h3, dp_ints (SqT.of (z3 _ _ hp)), shape_ints _, shape_ints _, _, rfl, ?_⟩
    rw [eqv_tup, decide_eq_true rfl]
    refine iteF ?_
    have eU : unpF 1 D = some S := by unfold unpF; rw [if_neg (by decide)]; exact eB
    refine ⟨_, rfl, 1, t1, D, rfl, by decide, keepT (s2.trans s3) h1, bD, by omega, ?_⟩
    rw [eU]
    intro H4 t4 s4 h4
    have z4 := z3.trans s4
    refine ⟨_, rfl, _, _, dInts S, rfl, dpTup h4, dpTup (SqT.of (z4 _ _ hp)), (dInts_ok S (by omega)).1, (dInts_ok S (by omega)).2, fun H5 s5 => ⟨_, rfl, iteF ?_⟩⟩
    refine ⟨_, rfl, t1, _, rfl, .inr (keepT (s2.trans (s3.trans (s4.trans s5))) h1), _, rfl, rfl, ?_⟩
    rw [List.length_map, lD, decide_eq_true rfl]
    exact q _ (z4.trans s5)
/-! ### bodies whose costs are told by hand -/
theorem new_get {c : Int} {n i : Nat} (h : i < n) : ((List.range n).map fun k : Nat => (7 * (k : Int) + c) % 256)[i]? = some ((7 * (i : Int) + c) % 256) := by
  rw [List.getElem?_map, List.getElem?_range h]
  rfl
theorem new_cost {c : Int} {n : Nat} (hn : n ≤ 140) : cst (lonL ((List.range n).map fun k : Nat => (7 * (k : Int) + c) % 256)) n = n + (n + 127) / 128 := by
  obtain ⟨S, eS⟩ : ∃ S, S = (List.range n).map fun k : Nat => (7 * (k : Int) + c) % 256 := ⟨_, rfl⟩
  have lS : S.length = n := by rw [eS, List.length_map, List.length_range]
  rw [← eS]
  have no : ∀ q, q ≤ S.length → lonF S q = 0 := fun q hq => by
    rcases lon_at hq with e | ⟨far, e⟩
    · exact e
    · by_cases z : lonF S q = 0
      · exact z
      · have f1 := e.1
        have f2 := e.2.1
        have l := e.2.2.2.2.1
        have := e.2.2.2.2.2 0 (by omega)
        rw [Nat.add_zero, eS, new_get (by omega), new_get (by omega)] at this
        have := Option.some.inj this
        omega
  refine cst_new (by omega) (fun k hk => ?_) (fun k hk => lonL_le k (by omega))
  unfold lonL
  rw [no _ (by omega)]
  decide
theorem alike_cost {d : Int} {n : Nat} (h1 : 131 ≤ n) (h2 : n ≤ 136) : cst (lonL (List.replicate n d)) n = min (4 + (n - 131)) 6 := by
  refine cst_alike h1 h2 (fun k hk => ?_) ?_
  · unfold lonL
    rw [List.length_replicate]
    have hq : n - (k + 1) ≤ (List.replicate n d).length := by rw [List.length_replicate]; omega
    have a := lon_few hq
    rw [List.length_replicate] at a
    have c : cop (List.replicate n d) (n - (k + 1)) 1 (min (k + 1) 130) := by
      refine ⟨by omega, by omega, by omega, by omega, by rw [List.length_replicate]; omega, fun i hi => ?_⟩
      rw [List.getElem?_replicate, List.getElem?_replicate, if_pos (by omega), if_pos (by omega)]
    have b := lon_le hq c
    omega
  · unfold lonL
    rw [List.length_replicate, Nat.sub_self]
    rfl
/-! ### the law -/
def spLaw (K : PySem.W.Frag) (tbs : List Addr) : Sp := fun vs H Q _ => ∃ (a : Addr) (ns : List Int), vs = [.ref a] ∧ SqL K H a (ns.map V.int) ∧ ns.length ≤ 63 ∧ Tabs tbs H ∧ ∀ H', Q (.bl true) H'
theorem ok_law {f : Addr} {fd : FuncData} {tb : List Addr} (Ev : Env K mg) (CLawD : Cal P w K mg base "_law_d" 1 ["_law_cell", "_law_place", "_law_many"] spD) (CLawFew : Cal P w K mg base "_law_few" 2 ["_law_script", "_law_begin", "_law_end"] (spFew K)) (CLawLeast : Cal P w K mg base "_law_least" 2 ["_law_body"] (spLeast K)) (CLawRight : Cal P w K mg base "_law_right" 6 ["_law_body", "_law_due"] (spRight K)) (F : Fun K "law" "law" sLaw f fd) : FnOk P w K mg base CX0 7 f fd ["_law_script"] (spLaw K tb) := by
  refine F.ok scLaw (fun vs H Q E h => ?_) (fun cdv A outer s H vs Q E hr h => ?_)
  · obtain ⟨a, ns, rfl, _⟩ := h; rfl
  · obtain ⟨a, ns, rfl, hS, hlen, _, q⟩ := h
    refine ⟨_, (pss_cons (ps_set (i := 1) scLaw.nd rfl (.inl rfl) (pe_c CLawFew (hr.mono (by omega)) (pa_cons (pv 0) (pa_cons pe_int (pa_cons pe_int pa_nil)))))
      (pss_cons (ps_if (pt_not (pt_val (pe_c CLawRight (hr.mono (by omega)) (pa_cons (pv 1) (pa_cons (pe_c CLawLeast (hr.mono (by omega)) (pa_cons (pv 1) pa_nil)) pa_nil)))))
        (pss_one (ps_ret pe_bl))
        pss_nil)
      (pss_cons (ps_set (i := 2) scLaw.nd rfl (.inr rfl) pe_int)
      (pss_cons (ps_if (pt_truth (pv 0) (by intro _; rfl))
        (pss_one (ps_set (i := 2) scLaw.nd rfl (.inr rfl) (pe_ix ix_list (pv 0) pe_int (fun _ _ => rfl))))
        pss_nil)
      (pss_cons (ps_if (pt_cmpR op_eq (pe_c CLawD (hr.mono (by omega)) (pa_cons (pv 2) (pa_cons pe_int (pa_cons pe_int pa_nil)))) pe_int (nomark _))
        (pss_cons (ps_set (i := 3) scLaw.nd rfl (.inl rfl) (pe_op op_add pe_int (pe_c CLawD (hr.mono (by omega)) (pa_cons (pv 2) (pa_cons pe_int (pa_cons pe_int pa_nil))))))
        (pss_one (ps_if (pt_not (pt_val (pe_c CLawRight (hr.mono (by omega)) (pa_cons (pe_callTy call_tupleN (by rfl) Ev.b_tuple (by decide +kernel) (pa_cons (pe_lc (own := [("_law_k", 5)]) (g := gName 5) (tt := tYes) (by rfl) scLaw.nd (pi_range1 (by rfl) Ev.b_range (pa_cons (pv 3) pa_nil)) (blkOk_by (own := [("_law_k", 5)]) (N := nLaw) (sc := defScope sLaw) (by decide +kernel)) (fun _ _ _ _ _ => (pg_name (i := 5) scLaw.nd rfl (.inl rfl))) (fun _ _ _ _ _ => pts_nil) (fun _ _ _ _ _ => (pe_op op_mod (pe_op op_add (pe_op op_mul pe_int (pv 5)) (pv 2)) pe_int))) pa_nil)) (pa_cons (pe_op op_add (pv 3) (pe_op op_fdiv (pe_op op_add (pv 3) pe_int) pe_int)) pa_nil)))))
          (pss_one (ps_ret pe_bl))
          pss_nil)))
        pss_nil)
      (pss_cons (ps_if (pt_cmpR op_eq (pe_c CLawD (hr.mono (by omega)) (pa_cons (pv 2) (pa_cons pe_int (pa_cons pe_int pa_nil)))) pe_int (nomark _))
        (pss_cons (ps_set (i := 4) scLaw.nd rfl (.inl rfl) (pe_c CLawD (hr.mono (by omega)) (pa_cons (pv 2) (pa_cons pe_int (pa_cons pe_int pa_nil)))))
        (pss_one (ps_ret (pe_c CLawRight (hr.mono (by omega)) (pa_cons (pe_op op_repT (pe_tupU (pa_cons (pe_c CLawD (hr.mono (by omega)) (pa_cons (pv 2) (pa_cons pe_int (pa_cons pe_int pa_nil)))) pa_nil)) (pe_op op_add pe_int (pv 4))) (pa_cons (pe_callB (call_min2 rfl) (by rfl) Ev.b_min (by decide +kernel) (pa_cons (pe_op op_add pe_int (pv 4)) (pa_cons pe_int pa_nil))) pa_nil))))))
        pss_nil)
      (pss_one (ps_ret pe_bl)))))))), ?_⟩
    have sz : ∀ n : Nat, n ≤ 5000 → n ≤ sizeLine := fun n h => by rw [sizeLine_eq]; omega
    refine ⟨_, rfl, a, ns, 1, 30, rfl, hS, hlen, fun bs hbs lbs H1 t1 s1 h1 => ?_⟩
    refine ⟨_, rfl, _, rfl, t1, bs, rfl, SqT.of h1, by omega, fun H2 s2 => ⟨t1, bs, rfl, s2 _ _ h1, hbs, by omega, fun H3 s3 => ⟨_, rfl, iteF ?_⟩⟩⟩
    have hS3 := (s1.trans (s2.trans s3)).seq hS
    refine seq_c (v := .int 0) (i := 2) ?_
    dsimp only
    refine seq_by (t := tIfS _ _ _) (fun σ H' => ∃ c : Int, σ = [some (.ref a), some (.ref t1), some (.int c), none, none, none]) (fun σ H4 p => ?_) (fun go => ?_)
    · obtain ⟨c, rfl⟩ := p
      refine seq_by (t := tIfS _ _ _) (fun σ H' => ∃ y3 y5 : Option V, σ = [some (.ref a), some (.ref t1), some (.int c), y3, none, y5]) (fun σ H5 p => ?_) (fun go => ?_)
      · obtain ⟨y3, y5, rfl⟩ := p
        refine ⟨_, rfl, c, 1, 64, rfl, by decide, by decide, by decide, fun d d0 d1 => ⟨rfl, _, rfl, ite2 (fun _ => ?_) (fun _ => q _)⟩⟩
        refine ⟨_, rfl, c, 64, 6, rfl, by decide, by decide, by decide, fun m m0 m1 => ?_⟩
        obtain ⟨mo, rfl⟩ : ∃ mo : Nat, m = (mo : Int) := ⟨m.toNat, by omega⟩
        refine ⟨_, rfl, c, 384, 256, rfl, by decide, by decide, by decide, fun x x0 x1 => ⟨sz _ (by simp), fun H6 t6 s6 h6 => ?_⟩⟩
        refine ⟨_, rfl, _, _, rfl, rfl, t6, _, _, rfl, rfl, h6, (fun z => nomatch z), by omega, by omega, by simp, fun t7 n7 => ?_⟩
        have e7 : (List.replicate ((131 : Int) + (mo : Int)).toNat [V.int x]).flatten = (List.replicate (131 + mo) x).map V.int := by
          rw [rep_one, List.map_replicate, show ((131 : Int) + (mo : Int)).toNat = 131 + mo by omega]
        rw [e7]
        have h7 : (upd H6 t7 (.tup ((List.replicate (131 + mo) x).map V.int))) t7 = some (.tup ((List.replicate (131 + mo) x).map V.int)) := upd_same
        generalize upd H6 t7 (.tup ((List.replicate (131 + mo) x).map V.int)) = H7 at h7
        refine ⟨_, rfl, _, _, rfl, rfl, _, _, rfl, t7, List.replicate (131 + mo) x, ?_, h7, ?_, by rw [List.length_replicate]; omega, fun H8 s8 => q _⟩
        · have e : (if (6 : Int) < 4 + (mo : Int) then (6 : Int) else 4 + (mo : Int)) = ((cst (lonL (List.replicate (131 + mo) x)) (List.replicate (131 + mo) x).length : Nat) : Int) := by
            rw [List.length_replicate, alike_cost (by omega) (by omega)]
            split <;> omega
          rw [← e]
          rfl
        · intro y hy
          rw [List.eq_of_mem_replicate hy]
          exact ⟨x0, x1⟩
      · refine ⟨_, rfl, c, 1, 16, rfl, by decide, by decide, by decide, fun d d0 d1 => ⟨rfl, _, rfl, ite2 (fun _ => ?_) (fun _ => go _ _ ⟨none, none, rfl⟩)⟩⟩
        refine ⟨_, rfl, c, 16, 20, rfl, by decide, by decide, by decide, fun m m0 m1 => ⟨_, _, rfl, rfl, ?_⟩⟩
        obtain ⟨n, en⟩ : ∃ n : Nat, (120 : Int) + m = (n : Int) := ⟨(120 + m).toNat, by omega⟩
        dsimp only
        rw [en]
        refine ⟨_, rfl, _, rfl, by omega, by omega, fun D nD => ?_⟩
        rw [show (n : Int).toNat = n by omega]
        obtain ⟨X, eX⟩ : ∃ X, X = (List.range n).map fun k : Nat => (7 * (k : Int) + c) % 256 := ⟨_, rfl⟩
        have lX : X.length = n := by rw [eX, List.length_map, List.length_range]
        refine lc_rng (lo := 0) (n := n) (ys := X.map V.int) nD (by rw [List.length_map, lX]) (sz _ (by omega)) (fun _ => rfl) (fun j y H5 R hj hy s5 r => ?_) (fun H5 s5 hD => ?_)
        · obtain ⟨x, hx, rfl⟩ := got hy
          rw [eX, new_get hj] at hx
          cases hx
          refine ⟨_, rfl, _, _, rfl, rfl, .inl ⟨by decide, by decide⟩, _, rfl, _, _, rfl, rfl, _, 256, rfl, rfl, (show (0 : Int) < 256 by decide), ?_⟩
          dsimp only
          rw [show (7 : Int) * (0 + (j : Int)) + c = 7 * (j : Int) + c by omega]
          exact r _ (Same.refl _)
        refine ⟨D, _, rfl, SqL.of hD, fun H6 t6 s6 h6 => ?_⟩
        refine ⟨_, rfl, _, rfl, _, _, rfl, rfl, _, 128, rfl, rfl, ⟨by decide, by decide⟩, _, _, rfl, rfl, t6, X, ?_, h6, ?_, by omega, fun H7 s7 => ⟨_, rfl, iteF (go _ _ ⟨_, _, rfl⟩)⟩⟩
        · have e : (n : Int) + ((n : Int) + 127) / 128 = ((cst (lonL X) X.length : Nat) : Int) := by
            rw [lX, eX, new_cost (by omega)]
            omega
          rw [← e]
          rfl
        · intro y hy
          rw [eX] at hy
          obtain ⟨k, _, rfl⟩ := List.mem_map.mp hy
          omega
    · refine ⟨_, rfl, _, .inl ⟨_, hS3, rfl⟩, ite2 (fun z => ?_) (fun _ => go _ _ ⟨0, rfl⟩)⟩
      have hns : 0 < ns.length := by
        cases ns with
        | nil => cases z
        | cons x r => exact Nat.zero_lt_succ _
      have g0 : (ns.map V.int)[0]? = some (.int ns[0]) := by rw [List.getElem?_map, List.getElem?_eq_getElem hns]; rfl
      exact ⟨_, rfl, a, _, 0, _, rfl, rfl, hS3, at_of (j := 0) rfl g0, go _ _ ⟨_, rfl⟩⟩

end
def hD0 : He.DefD := ⟨("can_copy", none), "can_copy", "can_copy", defArgs sCanCopy, defBody sCanCopy, defScope sCanCopy, [], []⟩
def hD1 : He.DefD := ⟨("longest_copies", none), "longest_copies", "longest_copies", defArgs sLongestCopies, defBody sLongestCopies, defScope sLongestCopies, [], []⟩
def hD2 : He.DefD := ⟨("cheapest_new", none), "cheapest_new", "cheapest_new", defArgs sCheapestNew, defBody sCheapestNew, defScope sCheapestNew, [], []⟩
def hD3 : He.DefD := ⟨("cheapest_copy", none), "cheapest_copy", "cheapest_copy", defArgs sCheapestCopy, defBody sCheapestCopy, defScope sCheapestCopy, [], []⟩
def hD4 : He.DefD := ⟨("cheapest_steps", none), "cheapest_steps", "cheapest_steps", defArgs sCheapestSteps, defBody sCheapestSteps, defScope sCheapestSteps, [], []⟩
def hD5 : He.DefD := ⟨("deed_bytes", none), "deed_bytes", "deed_bytes", defArgs sDeedBytes, defBody sDeedBytes, defScope sDeedBytes, [], []⟩
def hD6 : He.DefD := ⟨("body_deeds", none), "body_deeds", "body_deeds", defArgs sBodyDeeds, defBody sBodyDeeds, defScope sBodyDeeds, [], []⟩
def hD7 : He.DefD := ⟨("pressed", none), "pressed", "pressed", defArgs sPressed, defBody sPressed, defScope sPressed, [], []⟩
def hD8 : He.DefD := ⟨("check_whole", none), "check_whole", "check_whole", defArgs sCheckWhole, defBody sCheckWhole, defScope sCheckWhole, [], []⟩
def hD9 : He.DefD := ⟨("add_copies", none), "add_copies", "add_copies", defArgs sAddCopies, defBody sAddCopies, defScope sAddCopies, [], []⟩
def hD10 : He.DefD := ⟨("body_of_deeds", none), "body_of_deeds", "body_of_deeds", defArgs sBodyOfDeeds, defBody sBodyOfDeeds, defScope sBodyOfDeeds, [], []⟩
def hD11 : He.DefD := ⟨("unpressed", none), "unpressed", "unpressed", defArgs sUnpressed, defBody sUnpressed, defScope sUnpressed, [], []⟩
def hD12 : He.DefD := ⟨("_law_d", none), "_law_d", "_law_d", defArgs sLawD, defBody sLawD, defScope sLawD, [], []⟩
def hD13 : He.DefD := ⟨("_law_same", none), "_law_same", "_law_same", defArgs sLawSame, defBody sLawSame, defScope sLawSame, [], []⟩
def hD14 : He.DefD := ⟨("_law_is_bytes", none), "_law_is_bytes", "_law_is_bytes", defArgs sLawIsBytes, defBody sLawIsBytes, defScope sLawIsBytes, [], []⟩
def hD15 : He.DefD := ⟨("_law_few", none), "_law_few", "_law_few", defArgs sLawFew, defBody sLawFew, defScope sLawFew, [], []⟩
def hD16 : He.DefD := ⟨("_law_back", none), "_law_back", "_law_back", defArgs sLawBack, defBody sLawBack, defScope sLawBack, [], []⟩
def hD17 : He.DefD := ⟨("_law_repeats", none), "_law_repeats", "_law_repeats", defArgs sLawRepeats, defBody sLawRepeats, defScope sLawRepeats, [], []⟩
def hD18 : He.DefD := ⟨("_law_least", none), "_law_least", "_law_least", defArgs sLawLeast, defBody sLawLeast, defScope sLawLeast, [], []⟩
def hD19 : He.DefD := ⟨("_law_right", none), "_law_right", "_law_right", defArgs sLawRight, defBody sLawRight, defScope sLawRight, [], []⟩
def hD20 : He.DefD := ⟨("law", none), "law", "law", defArgs sLaw, defBody sLaw, defScope sLaw, [], []⟩
def hFn : List He.DefD := [hD0, hD1, hD2, hD3, hD4, hD5, hD6, hD7, hD8, hD9, hD10, hD11, hD12, hD13, hD14, hD15, hD16, hD17, hD18, hD19, hD20]
def hFa : List He.Fa := ([.glo "can_copy", .glo "longest_copies", .glo "cheapest_new", .glo "cheapest_copy", .glo "cheapest_steps", .glo "deed_bytes", .glo "body_deeds", .glo "pressed", .glo "check_whole", .glo "add_copies", .glo "body_of_deeds", .glo "unpressed", .glo "_law_d", .glo "_law_same", .glo "_law_is_bytes", .glo "_law_few", .glo "_law_back", .glo "_law_repeats", .glo "_law_least", .glo "_law_right", .glo "law", .free "all", .free "bool", .free "int", .free "isinstance", .free "len", .free "max", .free "min", .free "range", .free "str"] : List He.Fa) ++ ([.free "tuple", .free "zip", .int "FIRST_COPY" 128, .glo "KINDS", .int "LEAST_COPIED" 3, .int "MOST_BACK" 256, .int "MOST_COPIED" 130, .int "MOST_NEW" 128, .int "MOST_OF_BODY" 1000, .exc "BadForm", .glo "BadForm", .exm "BadForm" "BadForm" true] : List He.Fa)
def hTf : List He.Defn := []
def hEx (K : PySem.W.Frag) : Bool := (He.tupB K "KINDS" [.int 0, .int 1, .int 2] && (PySem.W.isClsIn K (He.ga K "BadForm") && true))
theorem all_mk {l : PySem.W.OpenLaw} {w : World} {K : PySem.W.Frag} {h : Heap} {mg : Str → Option Value} {fa : Addr} (X : K.In h) (G : h.Ns mainGlobals mg) (hfa : mg "law" = some (.ref fa)) (c : He.SaysX hFa hFn [] hTf hEx w h K) :
    LamX.LawAtS l w K CX0 7 63 "_law_script" mg fa h := by
  letI : LamNames := ⟨fun _ => none⟩
  have cd : He.SaysD hFa hFn K := c.t.d
  have e := hfa.symm.trans (He.glo_ok X G (cd.fact 20 (f := .glo "law") rfl))
  cases e
  have Ev : Env K mg := ⟨He.free_ok X G (cd.fact 21 (f := .free "all") rfl), He.free_ok X G (cd.fact 22 (f := .free "bool") rfl), He.free_ok X G (cd.fact 23 (f := .free "int") rfl), He.free_ok X G (cd.fact 24 (f := .free "isinstance") rfl), He.free_ok X G (cd.fact 25 (f := .free "len") rfl), He.free_ok X G (cd.fact 26 (f := .free "max") rfl), He.free_ok X G (cd.fact 27 (f := .free "min") rfl), He.free_ok X G (cd.fact 28 (f := .free "range") rfl), He.free_ok X G (cd.fact 29 (f := .free "str") rfl), He.free_ok X G (cd.fact 30 (f := .free "tuple") rfl), He.free_ok X G (cd.fact 31 (f := .free "zip") rfl), He.int_ok X G (cd.fact 32 (f := .int "FIRST_COPY" 128) rfl), ⟨_, He.glo_ok X G (cd.fact 33 (f := .glo "KINDS") rfl), fun H => He.tupB_ok (x := "KINDS") (vs := [.int 0, .int 1, .int 2]) (He.ba c.more).1 H⟩, He.int_ok X G (cd.fact 34 (f := .int "LEAST_COPIED" 3) rfl), He.int_ok X G (cd.fact 35 (f := .int "MOST_BACK" 256) rfl), He.int_ok X G (cd.fact 36 (f := .int "MOST_COPIED" 130) rfl), He.int_ok X G (cd.fact 37 (f := .int "MOST_NEW" 128) rfl), He.int_ok X G (cd.fact 38 (f := .int "MOST_OF_BODY" 1000) rfl)⟩
  have X_BadForm : Exc K mg "BadForm" (He.ga K "BadForm") := ⟨He.glo_ok X G (cd.fact 40 (f := .glo "BadForm") rfl), (He.exc_ok (cd.fact 39 (f := .exc "BadForm") rfl)).1, (He.exc_ok (cd.fact 39 (f := .exc "BadForm") rfl)).2.1, (He.exc_ok (cd.fact 39 (f := .exc "BadForm") rfl)).2.2.1, (He.exc_ok (cd.fact 39 (f := .exc "BadForm") rfl)).2.2.2, (He.ba (He.ba c.more).2).1⟩
  have Ex : Excs K mg (He.ga K "BadForm") := ⟨X_BadForm, He.exm_ok (cd.fact 41 (f := .exm "BadForm" "BadForm" true) rfl)⟩
  obtain ⟨fd0, D0⟩ := cd.def_ 0 (d := hD0) rfl
  have F0 := fun_ofD (x := "can_copy") (st := sCanCopy) D0
  obtain ⟨fd1, D1⟩ := cd.def_ 1 (d := hD1) rfl
  have F1 := fun_ofD (x := "longest_copies") (st := sLongestCopies) D1
  obtain ⟨fd2, D2⟩ := cd.def_ 2 (d := hD2) rfl
  have F2 := fun_ofD (x := "cheapest_new") (st := sCheapestNew) D2
  obtain ⟨fd3, D3⟩ := cd.def_ 3 (d := hD3) rfl
  have F3 := fun_ofD (x := "cheapest_copy") (st := sCheapestCopy) D3
  obtain ⟨fd4, D4⟩ := cd.def_ 4 (d := hD4) rfl
  have F4 := fun_ofD (x := "cheapest_steps") (st := sCheapestSteps) D4
  obtain ⟨fd5, D5⟩ := cd.def_ 5 (d := hD5) rfl
  have F5 := fun_ofD (x := "deed_bytes") (st := sDeedBytes) D5
  obtain ⟨fd6, D6⟩ := cd.def_ 6 (d := hD6) rfl
  have F6 := fun_ofD (x := "body_deeds") (st := sBodyDeeds) D6
  obtain ⟨fd7, D7⟩ := cd.def_ 7 (d := hD7) rfl
  have F7 := fun_ofD (x := "pressed") (st := sPressed) D7
  obtain ⟨fd8, D8⟩ := cd.def_ 8 (d := hD8) rfl
  have F8 := fun_ofD (x := "check_whole") (st := sCheckWhole) D8
  obtain ⟨fd9, D9⟩ := cd.def_ 9 (d := hD9) rfl
  have F9 := fun_ofD (x := "add_copies") (st := sAddCopies) D9
  obtain ⟨fd10, D10⟩ := cd.def_ 10 (d := hD10) rfl
  have F10 := fun_ofD (x := "body_of_deeds") (st := sBodyOfDeeds) D10
  obtain ⟨fd11, D11⟩ := cd.def_ 11 (d := hD11) rfl
  have F11 := fun_ofD (x := "unpressed") (st := sUnpressed) D11
  obtain ⟨fd12, D12⟩ := cd.def_ 12 (d := hD12) rfl
  have F12 := fun_ofD (x := "_law_d") (st := sLawD) D12
  obtain ⟨fd13, D13⟩ := cd.def_ 13 (d := hD13) rfl
  have F13 := fun_ofD (x := "_law_same") (st := sLawSame) D13
  obtain ⟨fd14, D14⟩ := cd.def_ 14 (d := hD14) rfl
  have F14 := fun_ofD (x := "_law_is_bytes") (st := sLawIsBytes) D14
  obtain ⟨fd15, D15⟩ := cd.def_ 15 (d := hD15) rfl
  have F15 := fun_ofD (x := "_law_few") (st := sLawFew) D15
  obtain ⟨fd16, D16⟩ := cd.def_ 16 (d := hD16) rfl
  have F16 := fun_ofD (x := "_law_back") (st := sLawBack) D16
  obtain ⟨fd17, D17⟩ := cd.def_ 17 (d := hD17) rfl
  have F17 := fun_ofD (x := "_law_repeats") (st := sLawRepeats) D17
  obtain ⟨fd18, D18⟩ := cd.def_ 18 (d := hD18) rfl
  have F18 := fun_ofD (x := "_law_least") (st := sLawLeast) D18
  obtain ⟨fd19, D19⟩ := cd.def_ 19 (d := hD19) rfl
  have F19 := fun_ofD (x := "_law_right") (st := sLawRight) D19
  obtain ⟨fd20, D20⟩ := cd.def_ 20 (d := hD20) rfl
  have F20 := fun_ofD (x := "law") (st := sLaw) D20
  refine ⟨fd20, [], spLaw K [], (fun _ z => nomatch z), (fun _ z => nomatch z), (fun _ z => nomatch z), fun s v => ?_, fun H a ns hl _ hH hS => ⟨a, ns, rfl, hS, hl, (fun _ z => nomatch z), fun _ => rfl⟩, fun base _ _ TBs => ?_⟩
  · exact (FunD.bindsA (ps := ["_law_script"]) D20 fun _ _ _ _ _ _ us hl => match us, hl with | [_], _ => rfl) s [v] rfl
  have C_0 : Cal l.prog w K mg base "can_copy" 1 ["body", "start", "at", "many"] (spCan K) := ⟨_, _, ok_can Ev  F0, He.glo_ok X G (cd.fact 0 (f := .glo "can_copy") rfl), F0.kp, F0.binds fun _ _ _ _ _ _ us hl => match us, hl with | [_, _, _, _], _ => rfl⟩
  have C_1 : Cal l.prog w K mg base "longest_copies" 2 ["body"] (spLon K) := ⟨_, _, ok_lon Ev C_0 F1, He.glo_ok X G (cd.fact 1 (f := .glo "longest_copies") rfl), F1.kp, F1.binds fun _ _ _ _ _ _ us hl => match us, hl with | [_], _ => rfl⟩
  have C_2 : Cal l.prog w K mg base "cheapest_new" 1 ["costs", "at"] (spNew K) := ⟨_, _, ok_new Ev  F2, He.glo_ok X G (cd.fact 2 (f := .glo "cheapest_new") rfl), F2.kp, F2.binds fun _ _ _ _ _ _ us hl => match us, hl with | [_, _], _ => rfl⟩
  have C_3 : Cal l.prog w K mg base "cheapest_copy" 1 ["costs", "at", "longest"] (spCpy K) := ⟨_, _, ok_cpy Ev  F3, He.glo_ok X G (cd.fact 3 (f := .glo "cheapest_copy") rfl), F3.kp, F3.binds fun _ _ _ _ _ _ us hl => match us, hl with | [_, _, _], _ => rfl⟩
  have C_4 : Cal l.prog w K mg base "cheapest_steps" 3 ["body"] (spSteps K) := ⟨_, _, ok_steps Ev C_1 C_2 C_3 F4, He.glo_ok X G (cd.fact 4 (f := .glo "cheapest_steps") rfl), F4.kp, F4.binds fun _ _ _ _ _ _ us hl => match us, hl with | [_], _ => rfl⟩
  have C_5 : Cal l.prog w K mg base "deed_bytes" 1 ["body", "at", "many", "back"] (spDeed K) := ⟨_, _, ok_deed Ev  F5, He.glo_ok X G (cd.fact 5 (f := .glo "deed_bytes") rfl), F5.kp, F5.binds fun _ _ _ _ _ _ us hl => match us, hl with | [_, _, _, _], _ => rfl⟩
  have C_6 : Cal l.prog w K mg base "body_deeds" 4 ["body"] (spBD K) := ⟨_, _, ok_bd Ev C_4 C_5 F6, He.glo_ok X G (cd.fact 6 (f := .glo "body_deeds") rfl), F6.kp, F6.binds fun _ _ _ _ _ _ us hl => match us, hl with | [_], _ => rfl⟩
  have C_7 : Cal l.prog w K mg base "pressed" 5 ["kind", "body"] (spPr K) := ⟨_, _, ok_pr Ev C_6 F7, He.glo_ok X G (cd.fact 7 (f := .glo "pressed") rfl), F7.kp, F7.binds fun _ _ _ _ _ _ us hl => match us, hl with | [_, _], _ => rfl⟩
  have C_8 : CalX l.prog w K mg base "check_whole" 1 ["some", "behind"] (spWhole K (He.ga K "BadForm")) := ⟨_, _, ok_whole Ev Ex  F8, He.glo_ok X G (cd.fact 8 (f := .glo "check_whole") rfl), F8.kp, F8.binds fun _ _ _ _ _ _ us hl => match us, hl with | [_, _], _ => rfl⟩
  have C_9 : CalX l.prog w K mg base "add_copies" 1 ["body", "many", "back"] (spCopies K (He.ga K "BadForm")) := ⟨_, _, ok_copies Ev Ex  F9, He.glo_ok X G (cd.fact 9 (f := .glo "add_copies") rfl), F9.kp, F9.binds fun _ _ _ _ _ _ us hl => match us, hl with | [_, _, _], _ => rfl⟩
  have C_10 : CalX l.prog w K mg base "body_of_deeds" 2 ["some"] (spDeedsP K (He.ga K "BadForm")) := ⟨_, _, ok_deedsP Ev Ex C_8 C_9 F10, He.glo_ok X G (cd.fact 10 (f := .glo "body_of_deeds") rfl), F10.kp, F10.binds fun _ _ _ _ _ _ us hl => match us, hl with | [_], _ => rfl⟩
  have C_11 : CalX l.prog w K mg base "unpressed" 3 ["kind", "some"] (spUnp K (He.ga K "BadForm")) := ⟨_, _, ok_unp Ev Ex C_10 F11, He.glo_ok X G (cd.fact 11 (f := .glo "unpressed") rfl), F11.kp, F11.binds fun _ _ _ _ _ _ us hl => match us, hl with | [_, _], _ => rfl⟩
  have C_12 : Cal l.prog w K mg base "_law_d" 1 ["_law_cell", "_law_place", "_law_many"] spD := ⟨_, _, ok_d Ev  F12, He.glo_ok X G (cd.fact 12 (f := .glo "_law_d") rfl), F12.kp, F12.binds fun _ _ _ _ _ _ us hl => match us, hl with | [_, _, _], _ => rfl⟩
  have C_13 : Cal l.prog w K mg base "_law_same" 2 ["_law_told", "_law_due"] (spSameD K 1) := ⟨_, _, ok_sameD Ev F13 (He.glo_ok X G (cd.fact 13 (f := .glo "_law_same") rfl)) (F13.binds fun _ _ _ _ _ _ us hl => match us, hl with | [_, _], _ => rfl) 1, He.glo_ok X G (cd.fact 13 (f := .glo "_law_same") rfl), F13.kp, F13.binds fun _ _ _ _ _ _ us hl => match us, hl with | [_, _], _ => rfl⟩
  have C_14 : Cal l.prog w K mg base "_law_is_bytes" 1 ["_law_thing"] (spIsB K) := ⟨_, _, ok_isB Ev  F14, He.glo_ok X G (cd.fact 14 (f := .glo "_law_is_bytes") rfl), F14.kp, F14.binds fun _ _ _ _ _ _ us hl => match us, hl with | [_], _ => rfl⟩
  have C_15 : Cal l.prog w K mg base "_law_few" 2 ["_law_script", "_law_begin", "_law_end"] (spFew K) := ⟨_, _, ok_few Ev C_12 F15, He.glo_ok X G (cd.fact 15 (f := .glo "_law_few") rfl), F15.kp, F15.binds fun _ _ _ _ _ _ us hl => match us, hl with | [_, _, _], _ => rfl⟩
  have C_16 : Cal l.prog w K mg base "_law_back" 1 ["_law_some"] (spBack K) := ⟨_, _, ok_back Ev  F16, He.glo_ok X G (cd.fact 16 (f := .glo "_law_back") rfl), F16.kp, F16.binds fun _ _ _ _ _ _ us hl => match us, hl with | [_], _ => rfl⟩
  have C_17 : Cal l.prog w K mg base "_law_repeats" 1 ["_law_body", "_law_at", "_law_far"] (spRep K) := ⟨_, _, ok_rep Ev  F17, He.glo_ok X G (cd.fact 17 (f := .glo "_law_repeats") rfl), F17.kp, F17.binds fun _ _ _ _ _ _ us hl => match us, hl with | [_, _, _], _ => rfl⟩
  have C_18 : Cal l.prog w K mg base "_law_least" 2 ["_law_body"] (spLeast K) := ⟨_, _, ok_least Ev C_17 F18, He.glo_ok X G (cd.fact 18 (f := .glo "_law_least") rfl), F18.kp, F18.binds fun _ _ _ _ _ _ us hl => match us, hl with | [_], _ => rfl⟩
  have C_19 : Cal l.prog w K mg base "_law_right" 6 ["_law_body", "_law_due"] (spRight K) := ⟨_, _, ok_right Ev C_7 C_11 C_13 C_14 C_16 F19, He.glo_ok X G (cd.fact 19 (f := .glo "_law_right") rfl), F19.kp, F19.binds fun _ _ _ _ _ _ us hl => match us, hl with | [_, _], _ => rfl⟩
  exact ok_law Ev C_12 C_15 C_18 C_19 F20
abbrev hR : PySem.W.OpenRow := PySem.W.OpenLaw.row PySem.Challenge.rw_filecrate_k09_whole_looking_back_is_leas
def hLoose : List Str := (["MOST_OF_BODY", "CrateError", "Cut", "BadForm", "MOST_NEW", "LEAST_COPIED", "MOST_COPIED", "MOST_BACK", "FIRST_COPY", "body_deeds", "deed_bytes", "cheapest_steps", "cheapest_new", "cheapest_copy", "longest_copies", "can_copy", "body_of_deeds", "check_whole", "add_copies", "MOST_BYTES", "number_bytes", "read_number", "read_fixed", "byte_at", "LONGEST_WORD", "body_words", "counted", "word_lengths", "words_of", "word_bits"] : List Str) ++ (["head_of", "bytes_of_bits", "byte_of_bits", "body_of_words", "read_lengths", "read_head_number", "read_head_byte", "check_lengths", "read_word", "bit_at", "check_rest", "KINDS", "pressed", "unpressed", "_law_d", "_law_same", "_law_is_bytes", "_law_few", "_law_back", "_law_repeats", "_law_least", "_law_right"] : List Str)
abbrev hk : PySem.W.Hook := He.hookX 5 hFa hFn [] hTf hEx
def hOb (s : PySem.W.SharedT) : He.AlX := He.obsX 5 hFa hFn [] hTf hEx (HandSHeadRun.getT s)
theorem hOb_eq (s : PySem.W.SharedT) : hOb s = hk.obs s.abs := He.obsX_eq (HandSHeadRun.getT_eq s)
set_option maxHeartbeats 0 in
theorem hRun (w : World) : HandSHeadRun.RunEq hR (PySem.W.view hR.prog [58]) hk hOb 3000 hLoose w := by
  intro os
  kernel_rfl
end Fc
open PySem PySem.W PySem.Calls PyProof.Rows
set_option maxHeartbeats 0 in
theorem PySem.Challenge.cw_filecrate_k09_whole_looking_back_is_leas_holds : PySem.Challenge.rw_filecrate_k09_whole_looking_back_is_leas.Holds := by
  w_on; o_law
  refine HandSHeadRun.head_any (r := PySem.W.OpenLaw.row PySem.Challenge.rw_filecrate_k09_whole_looking_back_is_leas) (q := view (PySem.W.OpenLaw.row PySem.Challenge.rw_filecrate_k09_whole_looking_back_is_leas).prog [58]) (H := Fc.hk) (ob := Fc.hOb) (M := 3000) (loose := Fc.hLoose) (d := HandSHeadRun.topDef (PySem.W.OpenLaw.row PySem.Challenge.rw_filecrate_k09_whole_looking_back_is_leas).prog 58) (kwd := []) Fc.hOb_eq
    (by kernel_rfl) (fun s => by kernel_rfl) Fc.hRun (by kernel_rfl) (by kernel_rfl) (by kernel_rfl) (by rfl) (by first | assumption | decide +kernel) (by decide +kernel) ⟨rfl, rfl, rfl, rfl, rfl, by decide +kernel⟩ ?hw ?hc
  case hw => w_witness2
  case hc =>
    refine LamX.walk_ofTsE (l := PySem.Challenge.rw_filecrate_k09_whole_looking_back_is_leas) (n := 63) (k := 7) (x := "_law_script") (CX := fun _ => L2.CX0) rfl (by decide) (by kernel_rfl) ⟨rfl, by decide, by decide⟩ ?F (fun _ _ _ _ _ h => h)
    intro w mg fa h Y G hmg0
    obtain ⟨K, KX, c⟩ := Y
    have hmg : mg ("law" : PySem.Str) = some (.ref fa) := by
      have e : (HandSHeadRun.topDef (PySem.W.OpenLaw.row PySem.Challenge.rw_filecrate_k09_whole_looking_back_is_leas).prog 58).name = ("law" : PySem.Str) := by kernel_rfl
      rw [← e]
      exact hmg0
    exact ⟨K, KX, Fc.all_mk KX G hmg c⟩
