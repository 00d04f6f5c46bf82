import PyProof.Rows.All
import Wide.All
import OpenK.AllK
import Wide.FinOn
import HandS.ForMost
import HandS.IsInst
import HandS.TupAny
import HandS.TupMul
import HandS.Zip
import HandS.Style
import HandS.AnyAll
import HandS.Lambda
import HandS.ForExc
import HandS.TryMany
import HandS.Flow
import HandS.More
import HandS.GenList
import PyProof.TupleOfGen
import HandS.EndTab
import HandS.Head0
import HandS.Head1
import HandS.Head2
import HandS.HeadEnd
import HandS.HeadHook4
import HandS.HeadWalk
import HandS.CallLocal
import KE.KNestM
import HandS.DictComp
import KE.GoesMore
import HandS.Iter
import HandS.Walk
import KE.SortKeyHeap
import HandS.SortKw
import PyProof.Rows.SortShellAny
import HandS.TupSets
import HandS.SetTxt0
import PyProof.Rows.SetFrom
import HandS.SetFor
import KE.SortData
import PyProof.Rows.SortWalk
import HandS.FStr
import HandS.Deep
import PySem.Challenge.RW_filecrate_k19_whole_differences
set_option Elab.async false
set_option linter.all false
set_option maxRecDepth 100000
set_option maxHeartbeats 4000000
namespace Fc
open PySem PySem.Spec PyProof.Rows L2

/-! ### heaps that only grow (a code's table, which a generator expression lengthens, aside) -/
def NT : HO → Prop
  | .tbl _ => False
  | _ => True
/-- of the tables in which lambdas' code objects stand: what their lambdas are named -/
class LamNames where
  lam : Addr → Option Str
variable [LamNames]
/-- each code object that the table tells is known by this name -/
def Named (H : Hp) (ps : Array Value) (q : Str) : Prop := ∀ (pos : Pos) (cv : Value), codeAmong pos ps.toList = some cv → ∃ c, cv = .ref c ∧ H c = some (LamX.CodeO c q)
structure Same (H H' : Hp) : Prop where
  get : ∀ b o, H b = some o → NT o → H' b = some o
  tab : ∀ b ps, H b = some (.tbl ps) → ∃ ps' : Array Value, H' b = some (.tbl ps') ∧ (TriplesOk ps.toList → TriplesOk ps'.toList) ∧ ∀ q, LamNames.lam b = some q → Named H ps q → Named H' ps' q
theorem Same.at {H H' : Hp} (s : Same H H') (b : Addr) (o : HO) (e : H b = some o) (nt : NT o := by trivial) : H' b = some o := s.get b o e nt
instance {H H' : Hp} : CoeFun (Same H H') (fun _ => ∀ (b : Addr) (o : HO), H b = some o → (nt : NT o := by trivial) → H' b = some o) := ⟨@Same.at _ H H'⟩
theorem nt_or (o : HO) : NT o ∨ ∃ ps, o = .tbl ps := by
  cases o with
  | tbl ps => exact .inr ⟨ps, rfl⟩
  | _ => exact .inl trivial
theorem Same.refl (H : Hp) : Same H H := ⟨fun _ _ h _ => h, fun _ ps h => ⟨ps, h, fun z => z, fun _ _ z => z⟩⟩
theorem Same.trans {H H1 H2 : Hp} (a : Same H H1) (b : Same H1 H2) : Same H H2 := ⟨fun c o h nt => b.get c o (a.get c o h nt) nt, fun c ps h => by
  obtain ⟨ps1, h1, t1, m1⟩ := a.tab c ps h
  obtain ⟨ps2, h2, t2, m2⟩ := b.tab c ps1 h1
  exact ⟨ps2, h2, fun z => t2 (t1 z), fun q hq z => m2 q hq (m1 q hq z)⟩⟩
theorem Same.some {H H' : Hp} (e : Same H H') {b : Addr} {o : HO} (h : H b = .some o) : ∃ o', H' b = .some o' := by
  rcases nt_or o with n | ⟨ps, rfl⟩
  · exact ⟨o, e.get b o h n⟩
  · obtain ⟨ps', h', _⟩ := e.tab b ps h
    exact ⟨_, h'⟩
theorem Same.free {H H' : Hp} (e : Same H H') {l : Addr} (h : H' l = Option.none) : H l = Option.none := by
  cases q : H l with
  | none => rfl
  | some o =>
    obtain ⟨o', h'⟩ := e.some q
    rw [h] at h'
    cases h'
/-- nothing stands there, or what is no code object -/
def NC : Option HO → Prop
  | some (.ext _) => False
  | _ => True
theorem NC.lst {H : Hp} {p : Addr} {xs : List V} (h : H p = some (.lst xs)) : NC (H p) := by rw [h]; trivial
theorem NC.of {H : Hp} {p : Addr} {o : HO} (h : H p = some o) (k : NC (some o)) : NC (H p) := by rw [h]; exact k
theorem Same.over {H H' : Hp} (e : Same H H') {p : Addr} {o : HO} (n : H p = none) (nc : NC (H' p)) : Same H (upd H' p o) := ⟨fun b u h nt => by
  rw [upd_ne (ne_of_none h n)]
  exact e.get b u h nt, fun b ps h => by
  obtain ⟨ps', h', t, m⟩ := e.tab b ps h
  exact ⟨ps', by rw [upd_ne (ne_of_none h n)]; exact h', t, fun q hq z pos cv hc => by
    obtain ⟨c, e1, e2⟩ := m q hq z pos cv hc
    refine ⟨c, e1, ?_⟩
    rw [upd_ne (fun k => by rw [k] at e2; rw [e2] at nc; exact nc)]
    exact e2⟩⟩
theorem Same.seq {K : PySem.W.Frag} {H H' : Hp} {a : Addr} {xs : List V} (e : Same H H') (h : SqL K H a xs) : SqL K H' a xs := by
  rcases h with (h | ⟨o, h⟩) | h
  · exact .inl (.inl (e _ _ h))
  · exact .inl (.inr ⟨o, e _ _ h⟩)
  · exact .inr h
theorem grow {H : Hp} {p : Addr} {o : HO} (n : H p = none) : Same H (upd H p o) := (Same.refl H).over n (by rw [n]; trivial)
/-- this table stands, no lambda's is in it -/
structure TabN (H : Hp) (p : Addr) : Prop where
  g : GxR.TabG H p
  n : LamNames.lam p = none
/-- these tables stand -/
def Tabs (ps : List Addr) (H : Hp) : Prop := ∀ p ∈ ps, TabN H p
theorem Tabs.keep {ps : List Addr} {H H' : Hp} (t : Tabs ps H) (e : Same H H') : Tabs ps H' := fun p hp => by
  obtain ⟨⟨qs, h, ok⟩, n⟩ := t p hp
  obtain ⟨qs', h', k, _⟩ := e.tab p qs h
  exact ⟨⟨qs', h', k ok⟩, n⟩
/-- the tables of lambdas: told as LamX.TabS tells, and named so -/
structure LTab (H : Hp) (p : Addr) (q : Str) : Prop where
  s : LamX.TabS H p q
  n : LamNames.lam p = some q
theorem LTab.keep {p : Addr} {q : Str} {H H' : Hp} (t : LTab H p q) (e : Same H H') : LTab H' p q := by
  obtain ⟨⟨ps, h, ok, nm⟩, n⟩ := t
  obtain ⟨ps', h', k, m⟩ := e.tab p ps h
  exact ⟨⟨ps', h', k ok, m q n nm⟩, n⟩
theorem same_tab {P : Addr} {H H' : Hp} (hn : TabN H P) (t : GxR.Tabbed P H H') : Same H H' := by
  have h := hn.g
  refine ⟨fun b o e nt => ?_, fun b ps e => ?_⟩
  · have nb : b ≠ P := fun z => by
      obtain ⟨qs, h, _⟩ := h
      rw [z, h] at e
      cases e
      exact nt
    rw [t.2 b nb]
    exact e
  · by_cases z : b = P
    · obtain ⟨qs, h', ok⟩ := t.1
      rw [z]
      exact ⟨qs, h', fun _ => ok, fun q hq => by rw [hn.n] at hq; cases hq⟩
    · refine ⟨ps, by rw [t.2 b z]; exact e, fun k => k, fun q _ nm pos cv hc => ?_⟩
      obtain ⟨c, e1, e2⟩ := nm pos cv hc
      refine ⟨c, e1, ?_⟩
      rw [t.2 c fun k => by
        obtain ⟨qs, h, _⟩ := h
        rw [k, h] at e2
        cases e2]
      exact e2
theorem keepT {K : PySem.W.Frag} {H H' : Hp} {a : Addr} {xs : List V} (e : Same H H') (h : SqT K H a xs) : SqT K H' a xs := by
  rcases h with (h | ⟨o, h⟩) | h
  · left; left; exact e a _ h
  · left; right; exact ⟨o, e a _ h⟩
  · right; exact h
/-- behind it a tuple of these, and all that stood -/
def Tups (K : PySem.W.Frag) (H : Hp) (xs : List V) (Q : VK) : Prop := ∀ H' p, Same H H' → SqT K H' p xs → Q (.ref p) H'
theorem Tups.new {K : PySem.W.Frag} {H : Hp} {xs : List V} {Q : VK} (h : Tups K H xs Q) {p : Addr} (n : H p = none) : Q (.ref p) (upd H p (.tup xs)) := h _ _ (grow n) (SqT.of upd_same)
theorem Tups.old {K : PySem.W.Frag} {H : Hp} {xs ys : List V} {Q : VK} (h : Tups K H xs Q) {p : Addr} (e : SqT K H p ys) (eq : ys = xs) : Q (.ref p) H := by
  subst eq
  exact h _ _ (Same.refl H) e
theorem PEweak {X : Cx} {e : Expr} {t u : TE} (h : PE X e t) (w : ∀ σ H Q, u σ H Q → t σ H Q) : PE X e u := ⟨fun pins s σ H Q I q => h.run pins s σ H Q I (w σ H Q q)⟩
def upA (t : TA) : TA := fun σ H Q => ∃ R, t σ H R ∧ ∀ vs H', R vs H' → Q vs H'
theorem PAup {X : Cx} {es : List Expr} {t : TA} (h : PA X es t) : PA X es (upA t) := ⟨fun ps pins s σ H Q I q => by
  obtain ⟨R, q1, q2⟩ := q
  refine thn (h.run ps pins s σ H R I q1) fun us s' ⟨vs, H', I', r, k⟩ => ⟨vs, H', I', r, q2 _ _ k⟩⟩

/-! ### rules whose reading says Tups -/
section
variable {X : Cx}
def rCatU (K : PySem.W.Frag) : R2 := fun x y H Q => ∃ a b xs ys, x = .ref a ∧ y = .ref b ∧ SqT K H a xs ∧ SqT K H b ys ∧ xs.length + ys.length ≤ sizeLine ∧ Tups K H (xs ++ ys) Q
theorem op_catU : OpR X (binaryOp .Add) (rCatU X.K) := by
  intro pins s σ H x y v u Q I rx ry h
  obtain ⟨a, b, xs, ys, rfl, rfl, ha, hb, hz, q⟩ := h
  refine op_catA pins s σ H _ _ v u Q I rx ry ⟨a, b, xs, ys, rfl, rfl, ha, hb, hz, fun e => ?_, fun _ e => ?_, fun _ _ p n => q.new n⟩
  · subst e; exact q.old hb rfl
  · subst e; exact q.old ha (List.append_nil xs).symm
def rSlU (K : PySem.W.Frag) : V → Option Int → Option Int → Hp → VK → Prop := fun x lo hi H Q => ∃ a xs, x = .ref a ∧ SqT K H a xs ∧ Tups K H (cutV xs lo hi) Q
theorem sl_tupU : SlR X (rSlU X.K) := by
  intro pins s σ H x v vl vu lo hi sl Q I rx hs pl pu h
  obtain ⟨a, xs, rfl, hx, q⟩ := h
  refine sl_tupA pins s σ H _ v vl vu lo hi sl Q I rx hs pl pu ⟨a, xs, rfl, hx, fun e => q.old hx ?_, fun _ p n => q.new n⟩
  unfold cutV
  rw [e.1, e.2, List.drop_zero, Nat.sub_zero, List.take_length]
def tTupU (K : PySem.W.Frag) (t : TA) : TE := fun σ H Q => t σ H fun xs H1 => xs.length ≤ sizeLine ∧ Tups K H1 xs Q
theorem pe_tupU {es : List Expr} {x1 : Nat} {pos : Pos} {t : TA} (h : PA X es t) : PE X (.Tuple es x1 pos) (tTupU X.K t) :=
  PEweak (pe_tup (PAup h)) fun σ H Q q => ⟨_, q, fun vs H' k => ⟨k.1, fun p n => k.2.new n⟩⟩
theorem call_divmodU : CallR X (.builtin "divmod") (fun xs H Q => ∃ i j, xs = [.int i, .int j] ∧ CDiv i j ∧ Tups X.K H [.int (i / j), .int (i % j)] Q) := by
  intro pins s σ H xs us Q I r h
  obtain ⟨i, j, e, c, q⟩ := h
  exact call_divmod pins s σ H xs us Q I r ⟨i, j, e, c, fun p n => q.new n⟩
theorem call_tupleU : CallR X (.type "tuple") (fun xs H Q => ∃ p ys, xs = [.ref p] ∧ SqL X.K H p ys ∧ Tups X.K H ys Q) := by
  intro pins s σ H xs us Q I r h
  obtain ⟨p, ys, e, hp, q⟩ := h
  exact call_tuple_of pins s σ H xs us Q I r ⟨p, ys, e, .inl ⟨hp, fun l n => q.new n⟩⟩
theorem pe_globI {x : Str} {n : Int} {pos : Pos} (hg : Gl X x) (h : ∃ t, X.mg x = some (.int n t)) (hd : (x == ("__debug__" : Str)) = false := by decide) : PE X (.Name x pos) (tC (.int n)) := by
  obtain ⟨t, e⟩ := h
  exact pe_glob hg e ⟨t, rfl⟩ hd
def tGT (K : PySem.W.Frag) (xs : List V) : TE := fun _ H Q => ∀ a, (∀ H', SqT K H' a xs) → Q (.ref a) H
theorem pe_globT {x : Str} {xs : List V} {pos : Pos} (hg : Gl X x) (h : ∃ a, X.mg x = some (.ref a) ∧ ∀ H', SqT X.K H' a xs) (hd : (x == ("__debug__" : Str)) = false := by decide) : PE X (.Name x pos) (tGT X.K xs) := by
  obtain ⟨a, e, q⟩ := h
  exact PEweak (pe_glob (v := .ref a) hg e rfl hd) fun σ H Q k => k a q
theorem pe_btype {x : Str} {n : String} {pos : Pos} (hg : Gl X x) (hm : X.mg x = none) (hv : bootBuiltins x = some (.type n)) (hn : x ≠ "__name__" := by decide) (hd : (x == ("__debug__" : Str)) = false := by decide) : PE X (.Name x pos) (tC (.ty n)) := pe_bltn hg hm hv rfl hn hd
end

/-! ### a def that is called -/
structure Cal (P : Program) (w : World) (K : PySem.W.Frag) (mg : Str → Option Value) (base : Heap) (x : Str) (k : Nat) (ps : List Str) (sp : Sp) : Prop where
  ex : ∃ f fd, FnOk P w K mg base CX0 k f fd ps sp ∧ mg x = some (.ref f) ∧ PySem.W.keepIn K (.ref f) = true ∧ Binds K fd ps []
theorem pe_c {X : Cx} {x : Str} {k : Nat} {ps : List Str} {sp : Sp} {p pos : Pos} {e : Expr} {es : List Expr} {t : TA} (C : Cal X.prog X.w X.K X.mg X.base x k ps sp) (hr : Room k X.A) (ha : PA X (e :: es) t) (hg : Gl X x := by rfl) (hdb : (x == ("__debug__" : Str)) = false := by decide)
    (he : starEach (e :: es) X.env = (false, eval e X.env) :: starEach es X.env := by rfl) (hpl : (backTo pos (starEach es X.env)).any (·.1) = false := by rfl) : PE X (.Call (.Name x p) (e :: es) [] pos) (tCall sp [] E0 t) := by
  obtain ⟨f, fd, F, m, kp, b⟩ := C.ex
  exact pe_call F hr hg m kp b .nil pass0 ha hdb he hpl

/-! ### joining ways -/
theorem seq_by {t u : TS} {D : Ends} {σ : L2.St} {H : Hp} (P : L2.St → Hp → Prop) (h2 : ∀ σ H, P σ H → u D σ H) (h1 : (∀ σ H, P σ H → u D σ H) → t { D with nx := u D } σ H) : tSeq t u D σ H := h1 h2

theorem seq_c {v : V} {i : Nat} {u : TS} {D : Ends} {σ : L2.St} {H : Hp} (h : u D (σ.set i (some v)) H) : tSeq (tAsg (tC v) (gName i)) u D σ H := h

theorem if_by {c : TT} {a b : TS} {D : Ends} {σ : L2.St} {H : Hp} (PY : Prop) (hX : a D σ H) (hY : PY → b D σ H) (hc : (∀ k : Bool, (k = false → PY) → if k = true then a D σ H else b D σ H) → c σ H fun k H1 => if k = true then a D σ H1 else b D σ H1) : tIfS c a b D σ H := hc (fun k h => by
  cases k with
  | true => rw [if_pos rfl]; exact hX
  | false => rw [if_neg Bool.false_ne_true]; exact hY (h rfl))

theorem if_by2 {c : TT} {a b : TS} {D : Ends} {σ : L2.St} {H : Hp} (PX PY : Prop) (hX : PX → a D σ H) (hY : PY → b D σ H) (hc : (∀ k : Bool, (k = true → PX) → (k = false → PY) → if k = true then a D σ H else b D σ H) → c σ H fun k H1 => if k = true then a D σ H1 else b D σ H1) : tIfS c a b D σ H := hc (fun k hx h => by
  cases k with
  | true => rw [if_pos rfl]; exact hX (hx rfl)
  | false => rw [if_neg Bool.false_ne_true]; exact hY (h rfl))

theorem seq_if2 {c : TT} {a b u : TS} {D : Ends} {σ : L2.St} {H : Hp} (PX PY : Prop) (hX : PX → a { D with nx := u D } σ H) (hY : PY → b { D with nx := u D } σ H) (hc : (∀ k : Bool, (k = true → PX) → (k = false → PY) → if k = true then a { D with nx := u D } σ H else b { D with nx := u D } σ H) → c σ H fun k H1 => if k = true then a { D with nx := u D } σ H1 else b { D with nx := u D } σ H1) : tSeq (tIfS c a b) u D σ H := if_by2 PX PY hX hY hc

/-! ### isinstance -/
theorem k_ii {K : PySem.W.Frag} : PySem.W.kitOne K (.type "int") (.type "int") = some true := kit_ty (by decide +kernel)
theorem k_ib {K : PySem.W.Frag} : PySem.W.kitOne K (.type "int") (.type "bool") = some false := kit_ty (by decide +kernel)
theorem k_it {K : PySem.W.Frag} : PySem.W.kitOne K (.type "int") (.type "tuple") = some false := kit_ty (by decide +kernel)
theorem k_is' {K : PySem.W.Frag} : PySem.W.kitOne K (.type "int") (.type "str") = some false := kit_ty (by decide +kernel)
theorem k_tb {K : PySem.W.Frag} : PySem.W.kitOne K (.type "tuple") (.type "bool") = some false := kit_ty (by decide +kernel)
theorem k_tt {K : PySem.W.Frag} : PySem.W.kitOne K (.type "tuple") (.type "tuple") = some true := kit_ty (by decide +kernel)
theorem k_bb {K : PySem.W.Frag} : PySem.W.kitOne K (.type "bool") (.type "bool") = some true := kit_ty (by decide +kernel)
theorem k_sb {K : PySem.W.Frag} : PySem.W.kitOne K (.type "str") (.type "bool") = some false := kit_ty (by decide +kernel)
theorem k_st {K : PySem.W.Frag} : PySem.W.kitOne K (.type "str") (.type "tuple") = some false := kit_ty (by decide +kernel)
theorem k_ss {K : PySem.W.Frag} : PySem.W.kitOne K (.type "str") (.type "str") = some true := kit_ty (by decide +kernel)
theorem ty_tup {K : PySem.W.Frag} {H : Hp} {a : Addr} {xs : List V} (h : SqT K H a xs) : TyX K H (.ref a) (.type "tuple") := by
  rcases h with (h | ⟨o, h⟩) | ⟨o, its, n, h, c, _⟩
  · exact .base (.tup h)
  · exact .fTuple h
  · exact .kTuple h c

/-! ### cuts of whole numbers -/
theorem cut_to (ns : List Int) (k : Nat) : cutV (ns.map V.int) none (some (k : Int)) = (ns.take k).map V.int := by
  unfold cutV
  rw [HT.sIx_none, HT.sIx_nat, List.drop_zero, Nat.sub_zero, List.length_map, List.map_take]
  by_cases h : k ≤ ns.length
  · rw [Nat.min_eq_left h]
  · have h' : ns.length ≤ k := by omega
    rw [Nat.min_eq_right h', List.take_of_length_le (by rw [List.length_map]; omega), List.take_of_length_le (by rw [List.length_map]; omega)]
theorem cut_from (ns : List Int) (k : Nat) : cutV (ns.map V.int) (some (k : Int)) none = (ns.drop k).map V.int := by
  unfold cutV
  rw [HT.sIx_none, HT.sIx_nat, List.length_map, List.map_drop]
  by_cases h : k ≤ ns.length
  · rw [Nat.min_eq_left h]
    exact List.take_of_length_le (by rw [List.length_drop, List.length_map]; omega)
  · have h' : ns.length ≤ k := by omega
    rw [Nat.min_eq_right h', List.drop_of_length_le (by rw [List.length_map]; omega), List.drop_of_length_le (by rw [List.length_map]; omega), List.take_nil]
theorem cut_mid (ns : List Int) (i j : Nat) : cutV (ns.map V.int) (some (i : Int)) (some (j : Int)) = ((ns.drop i).take (j - i)).map V.int := by
  unfold cutV
  rw [HT.sIx_nat, HT.sIx_nat, List.length_map, List.map_take, List.map_drop]
  by_cases h : i ≤ ns.length
  · rw [Nat.min_eq_left h]
    by_cases g : j ≤ ns.length
    · rw [Nat.min_eq_left g]
    · have g' : ns.length ≤ j := by omega
      rw [Nat.min_eq_right g', List.take_of_length_le (by rw [List.length_drop, List.length_map]; omega), List.take_of_length_le (by rw [List.length_drop, List.length_map]; omega)]
  · have h' : ns.length ≤ i := by omega
    rw [Nat.min_eq_right h', List.drop_of_length_le (by rw [List.length_map]; omega), List.drop_of_length_le (by rw [List.length_map]; omega), List.take_nil, List.take_nil]

/-! ### a comprehension whose items are told by a row -/
theorem lc_row {K : PySem.W.Frag} {a : Addr} {xs ys : List V} {te : TE} {vs : List Nat} {σ : L2.St} {H1 : Hp} {D : Addr} {j : Nat} {Qd : Hp → Prop} (nD : H1 D = none) (hs : SqL K H1 a xs) (hy : ys.length = xs.length) (hz : xs.length ≤ sizeLine)
    (hw : ∀ x, wipe ((wipe σ vs).set j (some x)) vs = wipe σ vs)
    (turn : ∀ (i : Nat) (x y : V) (H : Hp) (R : V → Hp → Prop), xs[i]? = some x → ys[i]? = some y → Same H1 H → (∀ H', Same H H' → R y H') → te ((wipe σ vs).set j (some x)) H R) (hd : ∀ H', Same H1 H' → H' D = some (.lst ys) → Qd H') :
    ∃ W : Nat → Nat → Hp → Prop, (∃ m, W 0 m (upd H1 D (.lst []))) ∧ ∀ i m H, W i m H →
      ((Itl K a).stop i H ∧ Qd H) ∨ ((Itl K a).go i H ∧ ∃ Nx : Hp → Prop, (∀ H', Nx H' → ∃ m', m' < m ∧ W (i + 1) m' H') ∧ ∀ x H', (Itl K a).yld i H x H' → gName j x (wipe σ vs) H' fun σ2 H2 => wipe σ2 vs = wipe σ vs ∧ tYes σ2 H2 fun b H3 =>
        if b = true then te σ2 H3 fun y H4 => ∃ acc, H4 D = some (.lst acc) ∧ acc.length < sizeLine ∧ Nx (upd H4 D (.lst (acc ++ [y]))) else Nx H3) := by
  refine lc_list (xs := xs) (fun i H => Same H1 H ∧ H D = some (.lst (ys.take i))) ⟨grow nD, upd_same⟩ (fun i H _ p => p.1.seq hs) (fun i x H hx p => ?_) (fun H p => hd H p.1 ?_)
  · have hi : i < xs.length := (List.getElem?_eq_some_iff.mp hx).1
    have hiy : i < ys.length := by omega
    refine ⟨hw x, ?_⟩
    unfold tYes
    dsimp only
    rw [if_pos rfl]
    refine turn i x ys[i] H _ hx (List.getElem?_eq_getElem hiy) p.1 fun H' sm => ⟨ys.take i, sm _ _ p.2, ?_, ?_, ?_⟩
    · rw [List.length_take]; omega
    · exact (p.1.trans sm).over nD (.lst (sm _ _ p.2))
    · rw [upd_same, List.take_add_one, List.getElem?_eq_getElem hiy]
      rfl
  · have := p.2
    rw [← hy, List.take_length] at this
    exact this
theorem lc_rng {lo : Int} {n : Nat} {ys : List V} {te : TE} {vs : List Nat} {σ : L2.St} {H1 : Hp} {D : Addr} {j : Nat} {Qd : Hp → Prop} (nD : H1 D = none) (hy : ys.length = n) (hz : n ≤ sizeLine)
    (hw : ∀ x, wipe ((wipe σ vs).set j (some x)) vs = wipe σ vs)
    (turn : ∀ (i : Nat) (y : V) (H : Hp) (R : V → Hp → Prop), i < n → ys[i]? = some y → Same H1 H → (∀ H', Same H H' → R y H') → te ((wipe σ vs).set j (some (.int (lo + i)))) H R) (hd : ∀ H', Same H1 H' → H' D = some (.lst ys) → Qd H') :
    ∃ W : Nat → Nat → Hp → Prop, (∃ m, W 0 m (upd H1 D (.lst []))) ∧ ∀ i m H, W i m H →
      ((Itr lo n).stop i H ∧ Qd H) ∨ ((Itr lo n).go i H ∧ ∃ Nx : Hp → Prop, (∀ H', Nx H' → ∃ m', m' < m ∧ W (i + 1) m' H') ∧ ∀ x H', (Itr lo n).yld i H x H' → gName j x (wipe σ vs) H' fun σ2 H2 => wipe σ2 vs = wipe σ vs ∧ tYes σ2 H2 fun b H3 =>
        if b = true then te σ2 H3 fun y H4 => ∃ acc, H4 D = some (.lst acc) ∧ acc.length < sizeLine ∧ Nx (upd H4 D (.lst (acc ++ [y]))) else Nx H3) := by
  refine lc_range (fun i H => Same H1 H ∧ H D = some (.lst (ys.take i))) ⟨grow nD, upd_same⟩ (fun i H hi p => ?_) (fun H p => hd H p.1 ?_)
  · have hiy : i < ys.length := by omega
    refine ⟨hw _, ?_⟩
    unfold tYes
    dsimp only
    rw [if_pos rfl]
    refine turn i ys[i] H _ hi (List.getElem?_eq_getElem hiy) p.1 fun H' sm => ⟨ys.take i, sm _ _ p.2, ?_, ?_, ?_⟩
    · rw [List.length_take]; omega
    · exact (p.1.trans sm).over nD (.lst (sm _ _ p.2))
    · rw [upd_same, List.take_add_one, List.getElem?_eq_getElem hiy]
      rfl
  · have := p.2
    rw [← hy, List.take_length] at this
    exact this
end Fc

namespace Fc
open PySem PySem.Spec L2 PyProof.Rows
variable [LamNames]
/-! ### [e for x, y in zip(t, u)] over tuples, its items told by a row -/
theorem lc_zip {K : PySem.W.Frag} {a b : Addr} {xs ys zs : List V} {te : TE} {vs : List Nat} {σ : L2.St} {H1 : Hp} {D : Addr} {j k : Nat} {Qd : Hp → Prop} (nD : H1 D = none) (ha : SqT K H1 a xs) (hb : SqT K H1 b ys) (hy : ys.length = xs.length) (hzl : zs.length = xs.length) (hz : xs.length ≤ sizeLine)
    (hw : ∀ x y, wipe (((wipe σ vs).set j (some x)).set k (some y)) vs = wipe σ vs)
    (turn : ∀ (i : Nat) (x y z : V) (H : Hp) (R : V → Hp → Prop), xs[i]? = some x → ys[i]? = some y → zs[i]? = some z → Same H1 H → (∀ H', Same H H' → R z H') → te (((wipe σ vs).set j (some x)).set k (some y)) H R) (hd : ∀ H', Same H1 H' → H' D = some (.lst zs) → Qd H') :
    ∃ W : Nat → Nat → Hp → Prop, (∃ m, W 0 m (upd H1 D (.lst []))) ∧ ∀ i m H, W i m H →
      ((RZ.ItzT K a b).stop i H ∧ Qd H) ∨ ((RZ.ItzT K a b).go i H ∧ ∃ Nx : Hp → Prop, (∀ H', Nx H' → ∃ m', m' < m ∧ W (i + 1) m' H') ∧ ∀ x H', (RZ.ItzT K a b).yld i H x H' → gTup K 2 (gCons (gName j) (gCons (gName k) gNil)) x (wipe σ vs) H' fun σ2 H2 => wipe σ2 vs = wipe σ vs ∧ tYes σ2 H2 fun b H3 =>
        if b = true then te σ2 H3 fun y H4 => ∃ acc, H4 D = some (.lst acc) ∧ acc.length < sizeLine ∧ Nx (upd H4 D (.lst (acc ++ [y]))) else Nx H3) := by
  refine ⟨fun i m H => m = xs.length - i ∧ i ≤ xs.length ∧ Same H1 H ∧ H D = some (.lst (zs.take i)), ⟨xs.length, rfl, Nat.zero_le _, grow nD, upd_same⟩, ?_⟩
  rintro i m H ⟨rfl, hi, sm, hD⟩
  have qa := keepT sm ha
  have qb := keepT sm hb
  by_cases lt : i < xs.length
  · have ly : i < ys.length := by omega
    have lz : i < zs.length := by omega
    refine .inr ⟨⟨xs, ys, xs[i], ys[i], qa, qb, List.getElem?_eq_getElem lt, List.getElem?_eq_getElem ly⟩, fun H' => Same H1 H' ∧ H' D = some (.lst (zs.take (i + 1))), fun H' p => ⟨xs.length - (i + 1), by omega, rfl, lt, p.1, p.2⟩, fun v H' yl => ?_⟩
    obtain ⟨T, x, y, rfl, nT, rfl, fx, fy⟩ := yl
    have ex : xs[i]? = some x := fx xs qa
    have ey : ys[i]? = some y := fy ys qb
    refine ⟨T, [x, y], rfl, SqT.of upd_same, rfl, x, [y], rfl, y, [], rfl, rfl, hw x y, ?_⟩
    unfold tYes
    dsimp only
    rw [if_pos rfl]
    have sT : Same H (upd H T (.tup [x, y])) := grow nT
    refine turn i x y zs[i] _ _ ex ey (List.getElem?_eq_getElem lz) (sm.trans sT) fun H' e => ⟨zs.take i, e _ _ (sT _ _ hD), ?_, ?_, ?_⟩
    · rw [List.length_take]; omega
    · exact (sm.trans (sT.trans e)).over nD (.lst (e _ _ (sT _ _ hD)))
    · rw [upd_same, List.take_add_one, List.getElem?_eq_getElem lz]
      rfl
  · have e : i = xs.length := by omega
    subst e
    refine .inl ⟨⟨xs, ys, qa, qb, .inl (Nat.le_refl _)⟩, hd H sm ?_⟩
    rw [hD, ← hzl, List.take_length]
end Fc

namespace Fc
open PySem PySem.Spec L2 PyProof.Rows
variable [LamNames]
/-! ### lists that a def made itself -/
theorem keepT_lst {K : PySem.W.Frag} {H : Hp} {p t : Addr} {xs ys zs : List V} (h : SqT K H t xs) (e : H p = some (.lst ys)) : SqT K (upd H p (.lst zs)) t xs := by
  rcases h with (h | ⟨o, h⟩) | h
  · refine .inl (.inl ?_)
    rw [upd_ne (fun z => by rw [z, e] at h; cases h)]
    exact h
  · refine .inl (.inr ⟨o, ?_⟩)
    rw [upd_ne (fun z => by rw [z, e] at h; cases h)]
    exact h
  · exact .inr h
theorem keep_lst {H H' : Hp} {p : Addr} {zs : List V} (e : Same H H') (n : H p = none) (nc : NC (H' p) := by exact NC.of (by assumption) (by trivial)) : Same H (upd H' p (.lst zs)) := e.over n nc
theorem got {ns : List Int} {i : Nat} {x : V} (h : (ns.map V.int)[i]? = some x) : ∃ n, ns[i]? = some n ∧ x = .int n := by
  rw [List.getElem?_map] at h
  cases e : ns[i]? with
  | none => rw [e] at h; cases h
  | some n =>
    rw [e] at h
    exact ⟨n, rfl, (Option.some.inj h).symm⟩
theorem drop_head {S : List Int} {k : Nat} {x : Int} {r : List Int} (h : S.drop k = x :: r) : S[k]? = some x := by
  have := congrArg (·[0]?) h
  simpa [List.getElem?_drop] using this
theorem drop_more {S : List Int} {k : Nat} {x : Int} {r : List Int} (h : S.drop k = x :: r) : S.drop (k + 1) = r := by
  have := congrArg (·.drop 1) h
  simpa [List.drop_drop] using this
/-! ### the bytes of a number -/
def numB (n : Int) : List Int := if 127 < n then (n % 128 + 128) :: numB (n / 128) else [n]
termination_by n.toNat
decreasing_by omega
theorem numB_big {n : Int} (h : 127 < n) : numB n = (n % 128 + 128) :: numB (n / 128) := by
  conv => lhs; rw [numB]
  rw [if_pos h]
theorem numB_small {n : Int} (h : ¬ 127 < n) : numB n = [n] := by
  rw [numB, if_neg h]
theorem numB_len : ∀ (k : Nat) (n : Int), 0 ≤ n → n < 128 ^ (k + 1) → (numB n).length ≤ k + 1
  | 0, n, h0, h1 => by
    have : n < 128 := h1
    rw [numB_small (by omega)]
    simp
  | k + 1, n, h0, h1 => by
    by_cases z : 127 < n
    · rw [numB_big z, List.length_cons]
      have e : (128 : Int) ^ (k + 1 + 1) = 128 ^ (k + 1) * 128 := Int.pow_succ _ _
      have := numB_len k (n / 128) (by omega) (by
        rw [e] at h1
        exact Int.ediv_lt_of_lt_mul (by decide) h1)
      omega
    · rw [numB_small z]
      simp
theorem numB_few {n : Int} (h0 : 0 ≤ n) (h1 : n < 4398046511104) : (numB n).length ≤ 6 := numB_len 5 n h0 (by
  have : (128 : Int) ^ (5 + 1) = 4398046511104 := by decide
  rw [this]
  exact h1)
/-! ### fixed bytes -/
def low : Nat → Int → List Int
  | 0, _ => []
  | k + 1, n => n % 256 :: low k (n / 256)
def sh : Nat → Int → Int
  | 0, n => n
  | k + 1, n => sh k (n / 256)
theorem low_len : ∀ (k : Nat) (n : Int), (low k n).length = k
  | 0, _ => rfl
  | k + 1, n => by rw [low, List.length_cons, low_len]
theorem low_more : ∀ (k : Nat) (n : Int), low (k + 1) n = low k n ++ [sh k n % 256]
  | 0, n => rfl
  | k + 1, n => by
    rw [low, low_more k (n / 256)]
    rfl
theorem sh_more : ∀ (k : Nat) (n : Int), sh (k + 1) n = sh k n / 256
  | 0, n => rfl
  | k + 1, n => by
    show sh (k + 1) (n / 256) = sh k (n / 256) / 256
    rw [sh_more k (n / 256)]
def val256 (l : List Int) : Int := l.foldl (fun x b => x * 256 + b) 0
theorem val_low : ∀ (k : Nat) (n : Int), 0 ≤ n → n < 256 ^ k → val256 (low k n).reverse = n
  | 0, n, h0, h1 => by
    have : n < 1 := h1
    show (0 : Int) = n
    omega
  | k + 1, n, h0, h1 => by
    have e : (256 : Int) ^ (k + 1) = 256 ^ k * 256 := Int.pow_succ _ _
    have ih := val_low k (n / 256) (by omega) (by
      rw [e] at h1
      exact Int.ediv_lt_of_lt_mul (by decide) h1)
    rw [low, List.reverse_cons]
    unfold val256 at ih ⊢
    rw [List.foldl_append, ih]
    show n / 256 * 256 + n % 256 = n
    omega
theorem val_take {l : List Int} {i : Nat} {x : Int} (h : l[i]? = some x) : val256 (l.take (i + 1)) = val256 (l.take i) * 256 + x := by
  unfold val256
  rw [List.take_add_one, h, Option.toList_some, List.foldl_append]
  rfl
end Fc

namespace Fc
open PySem PySem.Spec L2 PyProof.Rows
variable [LamNames]
/-! ### own errors, and defs that raise them -/
abbrev veMro : List Value := [.type "ValueError", .type "Exception", .type "BaseException", .type "object"]
structure Exc (K : PySem.W.Frag) (mg : Str → Option Value) (x : Str) (C : Addr) : Prop where
  g : mg x = some (.ref C)
  x : PySem.W.excIn K C veMro "ValueError.__new__" = true
  k : PySem.W.keepIn K (.ref C) = true
  s : PySem.W.subIn K (.ref C) (.type "BaseException") = some true
  t : PySem.W.typeIn K (.ref C) = some (.type "type")
  i : PySem.W.isClsIn K C = true
theorem caught {K : PySem.W.Frag} {mg : Str → Option Value} {x : Str} {B C : Addr} {b : Bool} (e : Exc K mg x C) (h : PySem.W.subIn K (.ref B) (.ref C) = some b) : PySem.W.exmOne K (.ref B) (.ref C) = some b := by
  unfold PySem.W.exmOne
  rw [if_pos (by rw [e.s]; rfl)]
  show (if ((PySem.W.clsIn K C).isSome && PySem.W.typeIn K (.ref C) == some (.type "type")) = true then PySem.W.subIn K (.ref B) (.ref C) else none) = some b
  rw [if_pos (by rw [show (PySem.W.clsIn K C).isSome = true from e.i, e.t]; rfl), h]
section
variable {X : Cx}
theorem ps_raiseC {W : WX} {x m : Str} {C : Addr} {j : Nat} {p p2 p3 pos : Pos} (hc : X.calm = true) (tk : Takes X W) (e : Exc X.K X.mg x C) (hg : Gl X x := by rfl) (hdb : (x == ("__debug__" : Str)) = false := by decide) :
    PS X (.Raise (some (.Call (.Name x p) [.Constant (.str m) j p2] [] p3)) none pos) (fun _ σ H => W (.ref C) none σ H) :=
  ps_raise hc tk (pmk_own PySem.F.excBase_ValueError e.x e.g e.k (raises_own e.s e.t) hg hdb)
end
/-- as Cal, of a def that may raise -/
structure CalX (P : Program) (w : World) (K : PySem.W.Frag) (mg : Str → Option Value) (base : Heap) (x : Str) (k : Nat) (ps : List Str) (sp : Sp) : Prop where
  ex : ∃ f fd, FnOk P w K mg base (L2.CX P w) k f fd ps sp ∧ mg x = some (.ref f) ∧ PySem.W.keepIn K (.ref f) = true ∧ Binds K fd ps []
section
variable {X : Cx} {x : Str} {k : Nat} {ps : List Str} {sp : Sp} {p pos : Pos} {e : Expr} {es : List Expr} {t : TA}
theorem pe_cx {E : XK} (C : CalX X.prog X.w X.K X.mg X.base x k ps sp) (hr : Room k X.A) (tk : Takes X (fun cls d _ H => E cls d H)) (ha : PA X (e :: es) t) (hg : Gl X x := by rfl) (hdb : (x == ("__debug__" : Str)) = false := by decide)
    (he : starEach (e :: es) X.env = (false, eval e X.env) :: starEach es X.env := by rfl) (hpl : (backTo pos (starEach es X.env)).any (·.1) = false := by rfl) : PE X (.Call (.Name x p) (e :: es) [] pos) (tCall sp [] E t) := by
  obtain ⟨f, fd, F, m, kp, b⟩ := C.ex
  exact pe_call F hr hg m kp b .nil (passes_call tk fun _ _ _ _ h => h) ha hdb he hpl
theorem pe_cn (C : CalX X.prog X.w X.K X.mg X.base x k ps sp) (hr : Room k X.A) (ha : PA X (e :: es) t) (hg : Gl X x := by rfl) (hdb : (x == ("__debug__" : Str)) = false := by decide)
    (he : starEach (e :: es) X.env = (false, eval e X.env) :: starEach es X.env := by rfl) (hpl : (backTo pos (starEach es X.env)).any (·.1) = false := by rfl) : PE X (.Call (.Name x p) (e :: es) [] pos) (tCall sp [] E0 t) := by
  obtain ⟨f, fd, F, m, kp, b⟩ := C.ex
  exact pe_call F hr hg m kp b .nil passL ha hdb he hpl
theorem pe_cs {W : WX} (C : CalX X.prog X.w X.K X.mg X.base x k ps sp) (hr : Room k X.A) (tk : Takes X W) (ha : PA X (e :: es) t) (hg : Gl X x := by rfl) (hdb : (x == ("__debug__" : Str)) = false := by decide)
    (he : starEach (e :: es) X.env = (false, eval e X.env) :: starEach es X.env := by rfl) (hpl : (backTo pos (starEach es X.env)).any (·.1) = false := by rfl) : PE X (.Call (.Name x p) (e :: es) [] pos) (tCallS sp (WE W) t) := by
  obtain ⟨f, fd, F, m, kp, b⟩ := C.ex
  exact pe_callS F hr hg m kp b (fun σ => passAt tk σ) ha hdb he hpl
end
end Fc

namespace Fc
open PySem PySem.Spec L2 PyProof.Rows
variable [LamNames]
/-! ### data of tuples, in heaps that grow -/
mutual
theorem dpKeep {K : PySem.W.Frag} {H H' : Hp} (e : Same H H') : ∀ {d : PyData} {v : V}, Dp K H v d → Dp K H' v d
  | .none, _, .non => .non
  | .bool _, _, .bl b => .bl b
  | .int _, _, .int i => .int i
  | .str _, _, .str x => .str x
  | .list _, _, .lst h hs => .lst (e.seq h) (dpKeepAll e hs)
  | .tuple _, _, .tup h hs => .tup (keepT e h) (dpKeepAll e hs)
theorem dpKeepAll {K : PySem.W.Frag} {H H' : Hp} (e : Same H H') : ∀ {ds : List PyData} {vs : List V}, DpAll K H vs ds → DpAll K H' vs ds
  | [], _, .nil => .nil
  | _ :: _, _, .cons h hs => .cons (dpKeep e h) (dpKeepAll e hs)
end
mutual
def tupsOnly : PyData → Bool
  | .none | .bool _ | .int _ | .str _ => true
  | .tuple ds => decide (ds.length ≤ 100000) && tupsAll ds
  | .list _ | .dict _ => false
def tupsAll : List PyData → Bool
  | [] => true
  | d :: r => tupsOnly d && tupsAll r
end
theorem tupsAll_get : ∀ {ds : List PyData} {i : Nat} {d : PyData}, tupsAll ds = true → ds[i]? = some d → tupsOnly d = true
  | [], _, _, _, h => by cases h
  | x :: r, 0, d, h, e => by
    rw [tupsAll, Bool.and_eq_true] at h
    cases e
    exact h.1
  | x :: r, i + 1, d, h, e => by
    rw [tupsAll, Bool.and_eq_true] at h
    exact tupsAll_get h.2 e
theorem depth_get : ∀ {ds : List PyData} {i : Nat} {d : PyData}, ds[i]? = some d → PyData.depth d ≤ PyData.depthAll ds
  | [], _, _, h => by cases h
  | x :: r, 0, d, e => by
    cases e
    rw [PyData.depthAll]
    exact Nat.le_max_left _ _
  | x :: r, i + 1, d, e => by
    rw [PyData.depthAll]
    exact Nat.le_trans (depth_get (ds := r) e) (Nat.le_max_right _ _)
theorem dpLen {K : PySem.W.Frag} {H : Hp} : ∀ {vs : List V} {ds : List PyData}, DpAll K H vs ds → vs.length = ds.length
  | _, _, .nil => rfl
  | _, _, .cons _ hs => congrArg (· + 1) (dpLen hs)
theorem dpGet {K : PySem.W.Frag} {H : Hp} : ∀ {vs : List V} {ds : List PyData} {i : Nat} {v : V}, DpAll K H vs ds → vs[i]? = some v → ∃ d, ds[i]? = some d ∧ Dp K H v d
  | _, _, _, _, .nil, h => by cases h
  | _, _, 0, _, .cons h hs, e => by
    cases e
    exact ⟨_, rfl, h⟩
  | _, _, i + 1, _, .cons h hs, e => dpGet (i := i) hs e
theorem dpInts {K : PySem.W.Frag} {H : Hp} : ∀ (A : List Int), DpAll K H (A.map V.int) (A.map PyData.int)
  | [] => .nil
  | a :: r => .cons (.int a) (dpInts r)
theorem tupsAll_ints : ∀ (A : List Int), tupsAll (A.map PyData.int) = true
  | [] => rfl
  | a :: r => by rw [List.map_cons, tupsAll, tupsAll_ints r]; rfl
theorem depthAll_ints : ∀ (A : List Int), PyData.depthAll (A.map PyData.int) = 0
  | [] => rfl
  | a :: r => by rw [List.map_cons, PyData.depthAll, depthAll_ints r]; rfl
/-- a tuple of whole numbers, as data -/
abbrev dInts (A : List Int) : PyData := .tuple (A.map PyData.int)
theorem dpTup {K : PySem.W.Frag} {H : Hp} {p : Addr} {A : List Int} (h : SqT K H p (A.map V.int)) : Dp K H (.ref p) (dInts A) := .tup h (dpInts A)
theorem dInts_ok (A : List Int) (h : A.length ≤ 100000) : tupsOnly (dInts A) = true ∧ PyData.depth (dInts A) ≤ 1 := ⟨by
  rw [tupsOnly, tupsAll_ints, decide_eq_true (by rw [List.length_map]; exact h)]
  rfl, by
  show PyData.depthAll (A.map PyData.int) + 1 ≤ 1
  rw [depthAll_ints]
  exact Nat.le_refl 1⟩
end Fc

namespace Fc
open PySem PySem.Spec L2 PyProof.Rows
variable [LamNames]
/-! ### texts as rows of codes -/
def mkS (l : List Nat) : Str := ⟨l.toArray⟩
def T (l : List Nat) : V := .str (mkS l)
theorem tl_mkS (l : List Nat) : TL.tl (mkS l) = l := rfl
theorem mkS_tl (x : Str) : mkS (TL.tl x) = x := TL.mk_tl x
theorem mkS_inj {a b : List Nat} (h : mkS a = mkS b) : a = b := by
  have := congrArg TL.tl h
  exact this
theorem T_inj {a b : List Nat} (h : T a = T b) : a = b := mkS_inj (V.str.inj h)
theorem dec_T {a b : List Nat} : decide (T a = T b) = decide (a = b) := by
  by_cases z : a = b
  · rw [z]; simp
  · rw [decide_eq_false z]; exact decide_eq_false fun k => z (T_inj k)
theorem len_mkS (l : List Nat) : (mkS l).length = l.length := TL.len_tl _
theorem mkS_app (a b : List Nat) : mkS a ++ mkS b = mkS (a ++ b) := TL.ext_tl (by rw [TL.tl_append]; rfl)
theorem mkS_cut (l : List Nat) (lo hi : Option Int) : cutS (mkS l) lo hi = mkS ((l.drop (HT.sIx l.length 0 lo)).take (HT.sIx l.length l.length hi - HT.sIx l.length 0 lo)) := by
  apply TL.ext_tl
  unfold cutS
  rw [len_mkS]
  first
    | rfl
    | (rw [TL.tl_strSub]; rfl)
/-! ### pieces between strokes -/
def splitC (c : Nat) : List Nat → List (List Nat)
  | [] => [[]]
  | x :: r => if x = c then [] :: splitC c r else match splitC c r with
    | [] => [[x]]
    | p :: ps => (x :: p) :: ps
theorem splitC_ne (c : Nat) : ∀ l, splitC c l ≠ []
  | [] => by simp [splitC]
  | x :: r => by
    rw [splitC]
    split
    · simp
    · split <;> simp
theorem spl_splitC (c : Nat) : ∀ (l acc : List Nat), TL.spl [c] 0 acc l = (match splitC c l with | [] => [acc] | p :: ps => (acc ++ p) :: ps)
  | [], acc => by
    rw [TL.spl_nil, splitC]
    simp
  | x :: r, acc => by
    by_cases z : x = c
    · subst z
      rw [TL.spl_hit (by unfold TL.pre; simp)]
      show acc :: TL.spl [x] 0 [] r = _
      rw [spl_splitC x r [], splitC, if_pos rfl]
      cases e : splitC x r with
      | nil => exact absurd e (splitC_ne x r)
      | cons p ps => simp
    · rw [TL.spl_miss (TL.pre_of_head [] r z), spl_splitC c r (acc ++ [x]), splitC, if_neg z]
      cases e : splitC c r with
      | nil => exact absurd e (splitC_ne c r)
      | cons p ps => simp
theorem split_mkS (c : Nat) (hc : c < 256) (l : List Nat) : Txt.split (mkS l) (mkS [c]) = (splitC c l).map mkS := by
  apply TL.map_tl_inj
  rw [TL.split_spl (mkS l) (mkS [c]) (by rw [tl_mkS]; simp) (TL.kind_ok (by simp [mkS, hc]))]
  rw [tl_mkS, tl_mkS, spl_splitC, List.map_map]
  have e : (TL.tl ∘ mkS) = id := rfl
  rw [e, List.map_id]
  cases e2 : splitC c l with
  | nil => exact absurd e2 (splitC_ne c l)
  | cons p ps => simp
def joinC (c : Nat) (ps : List (List Nat)) : List Nat := TL.joinL [c] ps
theorem join_mkS (c : Nat) (ps : List (List Nat)) : Txt.join (mkS [c]) (ps.map mkS) = mkS (joinC c ps) := by
  apply TL.ext_tl
  rw [TL.join_eq, TL.tl_join, List.map_map]
  have e : (TL.tl ∘ mkS) = id := rfl
  rw [e, List.map_id]
  rfl
theorem split_joinC (c : Nat) {ps : List (List Nat)} (hne : ps ≠ []) (h : ∀ p ∈ ps, c ∉ p) : splitC c (joinC c ps) = ps := by
  have e := TL.spl_join (s := c) (S := []) hne h
  have e2 := spl_splitC c (joinC c ps) []
  rw [show TL.spl [c] 0 [] (joinC c ps) = ps from e] at e2
  cases q : splitC c (joinC c ps) with
  | nil => exact absurd q (splitC_ne _ _)
  | cons p r =>
    rw [q] at e2
    simpa using e2.symm
theorem joinC_len (c : Nat) : ∀ (ps : List (List Nat)) (m : Nat), (∀ p ∈ ps, p.length ≤ m) → (joinC c ps).length ≤ ps.length * (m + 1)
  | [], m, _ => by simp [joinC, TL.joinL]
  | [p], m, h => by
    have := h p (by simp)
    simp [joinC, TL.joinL]
    omega
  | p :: q :: r, m, h => by
    have ih := joinC_len c (q :: r) m fun x hx => h x (List.mem_cons_of_mem _ hx)
    have hp := h p (by simp)
    have e : joinC c (p :: q :: r) = p ++ [c] ++ joinC c (q :: r) := by simp [joinC, TL.joinL]
    have e3 : (p :: q :: r).length * (m + 1) = (q :: r).length * (m + 1) + (m + 1) := by
      show ((q :: r).length + 1) * (m + 1) = _
      rw [Nat.add_mul, Nat.one_mul]
    have e4 : ([c] : List Nat).length = 1 := rfl
    rw [e, e3, List.length_append, List.length_append, e4]
    omega
end Fc

namespace Fc
open PySem PySem.Spec L2 PyProof.Rows
variable [LamNames]
/-! ### parts and paths -/
/-- a to z, 0 to 9, the dot, the two strokes -/
def good : List Nat := [97, 98, 99, 100, 101, 102, 103, 104, 105, 106, 107, 108, 109, 110, 111, 112, 113, 114, 115, 116, 117, 118, 119, 120, 121, 122, 48, 49, 50, 51, 52, 53, 54, 55, 56, 57, 46, 45, 95]
def partOk (p : List Nat) : Prop := 1 ≤ p.length ∧ p.length ≤ 12 ∧ p ≠ [46] ∧ p ≠ [46, 46] ∧ ∀ c ∈ p, c ∈ good
instance (p : List Nat) : Decidable (partOk p) := by
  unfold partOk
  infer_instance
theorem no_stroke {p : List Nat} (h : partOk p) : 47 ∉ p := fun m => absurd (h.2.2.2.2 47 m) (by decide)
inductive CRes where
  | bad
  | out
  | ok (kept : List (List Nat))
def walkC : List (List Nat) → List (List Nat) → CRes
  | [], kept => if kept = [] ∨ 8 < kept.length then .bad else .ok kept
  | p :: r, kept => if p = [46, 46] then (if kept = [] then .out else walkC r kept.dropLast) else if p = [] ∨ p = [46] then walkC r kept else if partOk p then walkC r (kept ++ [p]) else .bad
def cleanF (l : List Nat) : CRes := if l.head? = some 47 then .out else walkC (splitC 47 l) []
/-- the path that these parts make -/
def pathOf (ps : List (List Nat)) : List Nat := joinC 47 ps
def PathOk (ps : List (List Nat)) : Prop := ps ≠ [] ∧ ps.length ≤ 8 ∧ ∀ p ∈ ps, partOk p
theorem walkC_ok : ∀ (ps kept : List (List Nat)) {k2 : List (List Nat)}, (∀ p ∈ kept, partOk p) → walkC ps kept = .ok k2 → PathOk k2
  | [], kept, k2, h, e => by
    rw [walkC] at e
    split at e
    · cases e
    · rename_i z
      cases e
      exact ⟨fun q => z (.inl q), by omega, h⟩
  | p :: r, kept, k2, h, e => by
    rw [walkC] at e
    split at e
    · split at e
      · cases e
      · exact walkC_ok r _ (fun q hq => h q ((List.dropLast_sublist _).mem hq)) e
    · split at e
      · exact walkC_ok r _ h e
      · split at e
        · rename_i g
          refine walkC_ok r _ (fun q hq => ?_) e
          rcases List.mem_append.mp hq with hq | hq
          · exact h q hq
          · rw [List.mem_singleton.mp hq]
            exact g
        · cases e
theorem cleanF_ok {l : List Nat} {ps : List (List Nat)} (h : cleanF l = .ok ps) : PathOk ps := by
  unfold cleanF at h
  split at h
  · cases h
  · exact walkC_ok _ _ (fun p hp => by cases hp) h
theorem walkC_parts : ∀ (ps kept : List (List Nat)) (r : List (List Nat)), (∀ p ∈ ps, partOk p) → walkC (ps ++ r) kept = walkC r (kept ++ ps)
  | [], kept, r, _ => by simp
  | p :: ps, kept, r, h => by
    have g := h p (by simp)
    have n1 : p ≠ [46, 46] := g.2.2.2.1
    have n2 : ¬ (p = [] ∨ p = [46]) := fun z => by
      rcases z with z | z
      · rw [z] at g
        exact absurd g.1 (by decide)
      · exact g.2.2.1 z
    rw [List.cons_append, walkC, if_neg n1, if_neg n2, if_pos g, walkC_parts ps (kept ++ [p]) r fun q hq => h q (List.mem_cons_of_mem _ hq), List.append_assoc]
    rfl
theorem head_join {ps : List (List Nat)} (h : PathOk ps) : (pathOf ps).head? ≠ some 47 := by
  obtain ⟨hne, _, hp⟩ := h
  cases ps with
  | nil => exact absurd rfl hne
  | cons p r =>
    have g := hp p (by simp)
    cases p with
    | nil => exact absurd g.1 (by decide)
    | cons c q =>
      have nc : c ≠ 47 := fun z => no_stroke g (by rw [z]; simp)
      cases r with
      | nil =>
        show (c :: q).head? ≠ some 47
        simpa using nc
      | cons p2 r2 =>
        show ((c :: q) ++ ([47] ++ TL.joinL [47] (p2 :: r2))).head? ≠ some 47
        simpa using nc
theorem split_path {ps : List (List Nat)} (h : PathOk ps) : splitC 47 (pathOf ps) = ps := split_joinC 47 h.1 fun p hp => no_stroke (h.2.2 p hp)
theorem clean_path {ps : List (List Nat)} (h : PathOk ps) : cleanF (pathOf ps) = .ok ps := by
  unfold cleanF
  rw [if_neg (head_join h), split_path h]
  have e := walkC_parts ps [] [] h.2.2
  rw [List.append_nil, List.nil_append] at e
  rw [e, walkC, if_neg (fun z => by rcases z with z | z; exact h.1 z; exact absurd h.2.1 (by omega))]
/-! ### a stroke and two dots behind -/
theorem splitC_app (c : Nat) : ∀ (l m : List Nat), splitC c (l ++ c :: m) = splitC c l ++ splitC c m
  | [], m => by
    show splitC c (c :: m) = [[]] ++ splitC c m
    rw [splitC, if_pos rfl]
    rfl
  | x :: r, m => by
    show splitC c (x :: (r ++ c :: m)) = _
    rw [splitC, splitC, splitC_app c r m]
    by_cases z : x = c
    · rw [if_pos z, if_pos z]
      rfl
    · rw [if_neg z, if_neg z]
      cases e : splitC c r with
      | nil => exact absurd e (splitC_ne c r)
      | cons p ps => rfl
theorem clean_up {ps : List (List Nat)} (h : PathOk ps) : cleanF (pathOf ps ++ [47, 46, 46]) = if ps.dropLast = [] then .bad else .ok ps.dropLast := by
  have hd : (pathOf ps ++ [47, 46, 46]).head? ≠ some 47 := by
    have := head_join h
    cases e : pathOf ps with
    | nil =>
      have s := split_path h
      rw [e] at s
      have g := h.2.2 [] (by rw [← s]; simp [splitC])
      exact absurd g.1 (by decide)
    | cons c q =>
      rw [e] at this
      simpa using this
  unfold cleanF
  rw [if_neg hd, show pathOf ps ++ [47, 46, 46] = pathOf ps ++ 47 :: [46, 46] from rfl, splitC_app, split_path h, show splitC 47 [46, 46] = [[46, 46]] by decide, walkC_parts ps [] _ h.2.2, List.nil_append, walkC, if_pos rfl, if_neg h.1, walkC]
  have l8 : ps.dropLast.length ≤ 8 := by
    rw [List.length_dropLast]
    have := h.2.1
    omega
  by_cases z : ps.dropLast = []
  · rw [if_pos (.inl z), if_pos z]
  · rw [if_neg (fun k => by rcases k with k | k; exact z k; omega), if_neg z]
/-- the paths above -/
def aboveF (ps : List (List Nat)) : List (List Nat) := (List.range (ps.length - 1)).map fun k => pathOf (ps.take (k + 1))
theorem aboveF_last {ps : List (List Nat)} (h : ps ≠ []) : (aboveF ps).getLast? = if ps.dropLast = [] then none else some (pathOf ps.dropLast) := by
  unfold aboveF
  have lp : 0 < ps.length := List.length_pos_iff.mpr h
  have ld := List.length_dropLast (xs := ps)
  by_cases z : ps.length = 1
  · have e : ps.dropLast = [] := List.eq_nil_of_length_eq_zero (by rw [ld]; omega)
    rw [if_pos e, z]
    rfl
  · have e : ps.dropLast ≠ [] := fun q => by
      rw [q] at ld
      simp at ld
      omega
    rw [if_neg e, List.getLast?_map, List.getLast?_range]
    have z2 : ¬ ps.length - 1 = 0 := by omega
    rw [if_neg z2]
    show some (pathOf (ps.take (ps.length - 1 - 1 + 1))) = _
    rw [show ps.length - 1 - 1 + 1 = ps.length - 1 by omega, List.dropLast_eq_take]
end Fc

namespace Fc
open PySem PySem.Spec L2 PyProof.Rows
variable [LamNames]
/-! ### [c for c in text if test] -/
theorem lc_sign {l : List Nat} {keep : Nat → Bool} {tt : TT} {te : TE} {vs : List Nat} {σ : L2.St} {H1 : Hp} {D : Addr} {j : Nat} {Qd : Hp → Prop} (nD : H1 D = none) (hz : l.length ≤ sizeLine)
    (hw : ∀ x, wipe ((wipe σ vs).set j (some x)) vs = wipe σ vs)
    (test : ∀ (i : Nat) (c : Nat) (H : Hp) (R : Bool → Hp → Prop), l[i]? = some c → Same H1 H → (∀ H', Same H H' → R (keep c) H') → tt ((wipe σ vs).set j (some (T [c]))) H R)
    (item : ∀ (c : Nat) (H : Hp) (R : V → Hp → Prop), Same H1 H → (∀ H', Same H H' → R (T [c]) H') → te ((wipe σ vs).set j (some (T [c]))) H R) (hd : ∀ H', Same H1 H' → H' D = some (.lst ((l.filter keep).map fun c => T [c])) → Qd H') :
    ∃ W : Nat → Nat → Hp → Prop, (∃ m, W 0 m (upd H1 D (.lst []))) ∧ ∀ i m H, W i m H →
      ((Its (mkS l)).stop i H ∧ Qd H) ∨ ((Its (mkS l)).go i H ∧ ∃ Nx : Hp → Prop, (∀ H', Nx H' → ∃ m', m' < m ∧ W (i + 1) m' H') ∧ ∀ x H', (Its (mkS l)).yld i H x H' → gName j x (wipe σ vs) H' fun σ2 H2 => wipe σ2 vs = wipe σ vs ∧ tt σ2 H2 fun b H3 =>
        if b = true then te σ2 H3 fun y H4 => ∃ acc, H4 D = some (.lst acc) ∧ acc.length < sizeLine ∧ Nx (upd H4 D (.lst (acc ++ [y]))) else Nx H3) := by
  have sz : (mkS l).cps.size = l.length := by simp [mkS]
  refine ⟨fun i m H => m = l.length - i ∧ i ≤ l.length ∧ Same H1 H ∧ H D = some (.lst (((l.take i).filter keep).map fun c => T [c])), ⟨l.length, rfl, Nat.zero_le _, grow nD, upd_same⟩, ?_⟩
  rintro i m H ⟨rfl, hi, sm, hD⟩
  by_cases lt : i < l.length
  · refine .inr ⟨by show i < (mkS l).cps.size; omega, fun H' => Same H1 H' ∧ H' D = some (.lst (((l.take (i + 1)).filter keep).map fun c => T [c])), fun H' p => ⟨l.length - (i + 1), by omega, rfl, lt, p.1, p.2⟩, fun x H' yl => ?_⟩
    obtain ⟨rfl, c, hc, rfl⟩ := yl
    have gc : l[i]? = some c := by
      have : (mkS l).cps[i]? = l[i]? := by simp [mkS]
      rw [← this]
      exact hc
    have ft : (l.take (i + 1)).filter keep = (l.take i).filter keep ++ (if keep c = true then [c] else []) := by
      rw [List.take_add_one, gc, Option.toList_some, List.filter_append]
      congr 1
      by_cases k : keep c = true
      · rw [if_pos k, List.filter_cons_of_pos k]; rfl
      · rw [if_neg k, List.filter_cons_of_neg k]; rfl
    refine ⟨hw _, test i c H' _ gc sm fun H3 s3 => ?_⟩
    by_cases k : keep c = true
    · rw [if_pos k]
      refine item c H3 _ (sm.trans s3) fun H4 s4 => ⟨_, s4 _ _ (s3 _ _ hD), ?_, ?_, ?_⟩
      · rw [List.length_map]
        have := List.length_filter_le keep (l.take i)
        rw [List.length_take] at this
        omega
      · exact (sm.trans (s3.trans s4)).over nD (.lst (s4 _ _ (s3 _ _ hD)))
      · rw [upd_same, ft, if_pos k, List.map_append]
        rfl
    · rw [if_neg k]
      refine ⟨sm.trans s3, ?_⟩
      rw [ft, if_neg k, List.append_nil]
      exact s3 _ _ hD
  · have e : i = l.length := by omega
    subst e
    refine .inl ⟨by show (mkS l).cps.size ≤ _; omega, hd H sm ?_⟩
    rw [hD, List.take_length]
theorem at_ofA {α : Type} {xs : List α} {z : Int} {j : Nat} {v : α} (e : z = (j : Int)) (h : xs[j]? = some v) : atI xs z = some v := by
  rw [e]
  exact atI_nat h
/-! ### written texts -/
theorem t_dot : (V.str (Str.ofString ".")) = T [46] := by rw [show Str.ofString "." = mkS [46] by decide +kernel]; rfl
theorem t_dots : (V.str (Str.ofString "..")) = T [46, 46] := by rw [show Str.ofString ".." = mkS [46, 46] by decide +kernel]; rfl
theorem t_none : (V.str (Str.ofString "")) = T [] := by rw [show Str.ofString "" = mkS [] by decide +kernel]; rfl
theorem t_slash : (V.str (Str.ofString "/")) = T [47] := by rw [show Str.ofString "/" = mkS [47] by decide +kernel]; rfl
theorem t_good : Str.ofString "abcdefghijklmnopqrstuvwxyz0123456789.-_" = mkS good := by decide +kernel
theorem s_slash : Str.ofString "/" = mkS [47] := by decide +kernel
theorem starts_slash (l : List Nat) : Txt.startswith (mkS l) (mkS [47]) = decide (l.head? = some 47) := by
  cases l with
  | nil => decide +kernel
  | cons c r =>
    have e : Txt.startswith (mkS (c :: r)) (mkS [47]) = Builtin.Str.subAt (mkS (c :: r)) (mkS [47]) 0 := by
      unfold Txt.startswith
      rw [decide_eq_true (by rw [len_mkS, len_mkS]; simp), Bool.true_and]
    rw [e]
    unfold Builtin.Str.subAt
    simp [mkS, Str.length]
    exact Bool.eq_iff_iff.mpr (by simp)
end Fc

namespace Fc
open PySem PySem.Spec L2 PyProof.Rows
variable [LamNames]
/-! ### a comprehension whose items are known by what holds of them -/
theorem lc_rowG {K : PySem.W.Frag} {a : Addr} {xs : List V} {G : Nat → V → Hp → Prop} {te : TE} {vs : List Nat} {σ : L2.St} {H1 : Hp} {D : Addr} {j : Nat} {Qd : Hp → Prop} (nD : H1 D = none) (hs : SqL K H1 a xs) (hz : xs.length ≤ sizeLine)
    (hw : ∀ x, wipe ((wipe σ vs).set j (some x)) vs = wipe σ vs) (gk : ∀ i v H H', Same H H' → G i v H → G i v H') (gu : ∀ i v H ys zs, H D = some (.lst ys) → G i v H → G i v (upd H D (.lst zs)))
    (turn : ∀ (i : Nat) (x : V) (H : Hp) (R : V → Hp → Prop), xs[i]? = some x → Same H1 H → (∀ y H', Same H H' → G i y H' → R y H') → te ((wipe σ vs).set j (some x)) H R) (hd : ∀ ys H', ys.length = xs.length → (∀ i y, ys[i]? = some y → G i y H') → Same H1 H' → H' D = some (.lst ys) → Qd H') :
    ∃ W : Nat → Nat → Hp → Prop, (∃ m, W 0 m (upd H1 D (.lst []))) ∧ ∀ i m H, W i m H →
      ((Itl K a).stop i H ∧ Qd H) ∨ ((Itl K a).go i H ∧ ∃ Nx : Hp → Prop, (∀ H', Nx H' → ∃ m', m' < m ∧ W (i + 1) m' H') ∧ ∀ x H', (Itl K a).yld i H x H' → gName j x (wipe σ vs) H' fun σ2 H2 => wipe σ2 vs = wipe σ vs ∧ tYes σ2 H2 fun b H3 =>
        if b = true then te σ2 H3 fun y H4 => ∃ acc, H4 D = some (.lst acc) ∧ acc.length < sizeLine ∧ Nx (upd H4 D (.lst (acc ++ [y]))) else Nx H3) := by
  refine lc_list (xs := xs) (fun i H => Same H1 H ∧ ∃ ys, ys.length = i ∧ H D = some (.lst ys) ∧ ∀ k y, ys[k]? = some y → G k y H) ⟨grow nD, [], rfl, upd_same, fun k y h => nomatch h⟩ (fun i H _ p => p.1.seq hs) (fun i x H hx p => ?_) (fun H p => ?_)
  · have hi : i < xs.length := (List.getElem?_eq_some_iff.mp hx).1
    obtain ⟨sm1, ys, ly, hD, hg⟩ := p
    refine ⟨hw x, ?_⟩
    unfold tYes
    dsimp only
    rw [if_pos rfl]
    refine turn i x H _ hx sm1 fun y H' sm gy => ⟨ys, sm _ _ hD, by omega, ?_, ys ++ [y], ?_, upd_same, ?_⟩
    · exact (sm1.trans sm).over nD (.lst (sm _ _ hD))
    · rw [List.length_append, ly]
      rfl
    · intro k z hk
      by_cases lt : k < ys.length
      · rw [List.getElem?_append_left lt] at hk
        exact gu _ _ _ _ _ (sm _ _ hD) (gk _ _ _ _ sm (hg k z hk))
      · rw [List.getElem?_append_right (by omega)] at hk
        have e : k = i := by
          have := (List.getElem?_eq_some_iff.mp hk).1
          simp only [List.length_cons, List.length_nil] at this
          omega
        subst e
        rw [ly, Nat.sub_self] at hk
        cases hk
        exact gu _ _ _ _ _ (sm _ _ hD) gy
  · obtain ⟨sm1, ys, ly, hD, hg⟩ := p
    exact hd ys H ly hg sm1 hD
/-- the same of flat things -/
theorem lc_rowP {K : PySem.W.Frag} {a : Addr} {xs : List V} {G : V → Prop} {te : TE} {vs : List Nat} {σ : L2.St} {H1 : Hp} {D : Addr} {j : Nat} {Qd : Hp → Prop} (nD : H1 D = none) (hs : SqL K H1 a xs) (hz : xs.length ≤ sizeLine)
    (hw : ∀ x, wipe ((wipe σ vs).set j (some x)) vs = wipe σ vs)
    (turn : ∀ (i : Nat) (x : V) (H : Hp) (R : V → Hp → Prop), xs[i]? = some x → Same H1 H → (∀ y H', Same H H' → G y → R y H') → te ((wipe σ vs).set j (some x)) H R) (hd : ∀ ys H', ys.length = xs.length → (∀ y ∈ ys, G y) → Same H1 H' → H' D = some (.lst ys) → Qd H') :
    ∃ W : Nat → Nat → Hp → Prop, (∃ m, W 0 m (upd H1 D (.lst []))) ∧ ∀ i m H, W i m H →
      ((Itl K a).stop i H ∧ Qd H) ∨ ((Itl K a).go i H ∧ ∃ Nx : Hp → Prop, (∀ H', Nx H' → ∃ m', m' < m ∧ W (i + 1) m' H') ∧ ∀ x H', (Itl K a).yld i H x H' → gName j x (wipe σ vs) H' fun σ2 H2 => wipe σ2 vs = wipe σ vs ∧ tYes σ2 H2 fun b H3 =>
        if b = true then te σ2 H3 fun y H4 => ∃ acc, H4 D = some (.lst acc) ∧ acc.length < sizeLine ∧ Nx (upd H4 D (.lst (acc ++ [y]))) else Nx H3) :=
  lc_rowG (G := fun _ v _ => G v) nD hs hz hw (fun _ _ _ _ _ h => h) (fun _ _ _ _ _ _ h => h) turn (fun ys H' l h => hd ys H' l fun y hy => by
    obtain ⟨i, e⟩ := List.getElem?_of_mem hy
    exact h i y e)
theorem lc_rngP {lo : Int} {n : Nat} {G : V → Prop} {te : TE} {vs : List Nat} {σ : L2.St} {H1 : Hp} {D : Addr} {j : Nat} {Qd : Hp → Prop} (nD : H1 D = none) (hz : n ≤ sizeLine)
    (hw : ∀ x, wipe ((wipe σ vs).set j (some x)) vs = wipe σ vs)
    (turn : ∀ (i : Nat) (H : Hp) (R : V → Hp → Prop), i < n → Same H1 H → (∀ y H', Same H H' → G y → R y H') → te ((wipe σ vs).set j (some (.int (lo + i)))) H R) (hd : ∀ ys H', ys.length = n → (∀ y ∈ ys, G y) → Same H1 H' → H' D = some (.lst ys) → Qd H') :
    ∃ W : Nat → Nat → Hp → Prop, (∃ m, W 0 m (upd H1 D (.lst []))) ∧ ∀ i m H, W i m H →
      ((Itr lo n).stop i H ∧ Qd H) ∨ ((Itr lo n).go i H ∧ ∃ Nx : Hp → Prop, (∀ H', Nx H' → ∃ m', m' < m ∧ W (i + 1) m' H') ∧ ∀ x H', (Itr lo n).yld i H x H' → gName j x (wipe σ vs) H' fun σ2 H2 => wipe σ2 vs = wipe σ vs ∧ tYes σ2 H2 fun b H3 =>
        if b = true then te σ2 H3 fun y H4 => ∃ acc, H4 D = some (.lst acc) ∧ acc.length < sizeLine ∧ Nx (upd H4 D (.lst (acc ++ [y]))) else Nx H3) := by
  refine lc_range (fun i H => Same H1 H ∧ ∃ ys, ys.length = i ∧ H D = some (.lst ys) ∧ ∀ y ∈ ys, G y) ⟨grow nD, [], rfl, upd_same, fun y h => nomatch h⟩ (fun i H hi p => ?_) (fun H p => ?_)
  · obtain ⟨sm1, ys, ly, hD, hg⟩ := p
    refine ⟨hw _, ?_⟩
    unfold tYes
    dsimp only
    rw [if_pos rfl]
    refine turn i H _ hi sm1 fun y H' sm gy => ⟨ys, sm _ _ hD, by omega, ?_, ys ++ [y], ?_, upd_same, ?_⟩
    · exact (sm1.trans sm).over nD (.lst (sm _ _ hD))
    · rw [List.length_append, ly]
      rfl
    · intro z hz
      rcases List.mem_append.mp hz with hz | hz
      · exact hg z hz
      · rw [List.mem_singleton.mp hz]
        exact gy
  · obtain ⟨sm1, ys, ly, hD, hg⟩ := p
    exact hd ys H ly hg sm1 hD
def PartV (v : V) : Prop := ∃ p : List Nat, v = T p ∧ partOk p
theorem partsV : ∀ {vs : List V}, (∀ v ∈ vs, PartV v) → ∃ ps : List (List Nat), vs = ps.map T ∧ ∀ p ∈ ps, partOk p
  | [], _ => ⟨[], rfl, fun p h => by cases h⟩
  | v :: r, h => by
    obtain ⟨p, rfl, hp⟩ := h v (by simp)
    obtain ⟨ps, rfl, hps⟩ := partsV fun u hu => h u (List.mem_cons_of_mem _ hu)
    refine ⟨p :: ps, rfl, fun q hq => ?_⟩
    rcases List.mem_cons.mp hq with rfl | hq
    · exact hp
    · exact hps q hq
theorem iteNS2 {b : Bool} {a c : Prop} (h : b = false) (k : c) : if b = true then a else c := by
  rw [h, if_neg Bool.false_ne_true]
  exact k
/-! ### cuts of any row -/
theorem cutV_to (xs : List V) (k : Nat) : cutV xs none (some (k : Int)) = xs.take k := by
  unfold cutV
  rw [HT.sIx_none, HT.sIx_nat, List.drop_zero, Nat.sub_zero]
  by_cases h : k ≤ xs.length
  · rw [Nat.min_eq_left h]
  · have h' : xs.length ≤ k := by omega
    rw [Nat.min_eq_right h', List.take_of_length_le (Nat.le_refl _), List.take_of_length_le h']
theorem cutV_from (xs : List V) (k : Nat) : cutV xs (some (k : Int)) none = xs.drop k := by
  unfold cutV
  rw [HT.sIx_none, HT.sIx_nat]
  by_cases h : k ≤ xs.length
  · rw [Nat.min_eq_left h]
    exact List.take_of_length_le (by rw [List.length_drop]; omega)
  · have h' : xs.length ≤ k := by omega
    rw [Nat.min_eq_right h', List.drop_of_length_le (Nat.le_refl _), List.drop_of_length_le h', List.take_nil]
theorem cut_some (ns : List Int) (lo hi : Option Int) : ∃ ms : List Int, cutV (ns.map V.int) lo hi = ms.map V.int ∧ ms.length ≤ ns.length := by
  refine ⟨(ns.drop (HT.sIx ns.length 0 lo)).take (HT.sIx ns.length ns.length hi - HT.sIx ns.length 0 lo), ?_, ?_⟩
  · unfold cutV
    rw [List.length_map, List.map_take, List.map_drop]
  · rw [List.length_take, List.length_drop]
    omega
theorem cutS_to (l : List Nat) (k : Nat) : cutS (mkS l) none (some (k : Int)) = mkS (l.take k) := by
  rw [mkS_cut, HT.sIx_none, HT.sIx_nat, List.drop_zero, Nat.sub_zero]
  by_cases h : k ≤ l.length
  · rw [Nat.min_eq_left h]
  · have h' : l.length ≤ k := by omega
    rw [Nat.min_eq_right h', List.take_of_length_le (Nat.le_refl _), List.take_of_length_le h']
theorem cutS_from (l : List Nat) (k : Nat) : cutS (mkS l) (some (k : Int)) none = mkS (l.drop k) := by
  rw [mkS_cut, HT.sIx_none, HT.sIx_nat]
  by_cases h : k ≤ l.length
  · rw [Nat.min_eq_left h]
    rw [List.take_of_length_le (by rw [List.length_drop]; omega)]
  · have h' : l.length ≤ k := by omega
    rw [Nat.min_eq_right h', List.drop_of_length_le (Nat.le_refl _), List.drop_of_length_le h', List.take_nil]
/-! ### rows of texts -/
def TxtOk (m : Nat) (v : V) : Prop := ∃ p : List Nat, v = T p ∧ p.length ≤ m
theorem txts {m : Nat} : ∀ {vs : List V}, (∀ v ∈ vs, TxtOk m v) → ∃ ps : List (List Nat), vs = ps.map T ∧ ∀ p ∈ ps, p.length ≤ m
  | [], _ => ⟨[], rfl, fun p h => by cases h⟩
  | v :: r, h => by
    obtain ⟨p, rfl, hp⟩ := h v (by simp)
    obtain ⟨ps, rfl, hps⟩ := txts fun u hu => h u (List.mem_cons_of_mem _ hu)
    refine ⟨p :: ps, rfl, fun q hq => ?_⟩
    rcases List.mem_cons.mp hq with rfl | hq
    · exact hp
    · exact hps q hq
theorem mapT (ps : List (List Nat)) : (ps.map mkS).map V.str = ps.map T := by rw [List.map_map]; rfl
theorem sum_sizes {m : Nat} : ∀ (ks : List (List Nat)), (∀ p ∈ ks, p.length ≤ m) → ((ks.map mkS).map (·.length)).sum ≤ ks.length * m
  | [], _ => by simp
  | x :: r, h => by
    have h1 := h x (by simp)
    have h2 := sum_sizes r fun p hp => h p (List.mem_cons_of_mem _ hp)
    rw [List.map_cons, List.map_cons, List.sum_cons, len_mkS, List.length_cons, Nat.add_mul, Nat.one_mul]
    omega
theorem splitC_sizes (c : Nat) : ∀ (l : List Nat) (p : List Nat), p ∈ splitC c l → p.length ≤ l.length
  | [], p, h => by
    rw [splitC, List.mem_singleton] at h
    rw [h]
    exact Nat.le_refl _
  | x :: r, p, h => by
    rw [splitC] at h
    by_cases z : x = c
    · rw [if_pos z] at h
      rcases List.mem_cons.mp h with h | h
      · rw [h]
        exact Nat.zero_le _
      · exact Nat.le_succ_of_le (splitC_sizes c r p h)
    · rw [if_neg z] at h
      cases e : splitC c r with
      | nil => exact absurd e (splitC_ne c r)
      | cons q qs =>
        rw [e] at h
        rcases List.mem_cons.mp h with h | h
        · rw [h, List.length_cons, List.length_cons]
          exact Nat.succ_le_succ (splitC_sizes c r q (by rw [e]; simp))
        · exact Nat.le_succ_of_le (splitC_sizes c r p (by rw [e]; exact List.mem_cons_of_mem _ h))
theorem splitC_many (c : Nat) : ∀ (l : List Nat), (splitC c l).length ≤ l.length + 1
  | [] => by simp [splitC]
  | x :: r => by
    have ih := splitC_many c r
    rw [splitC]
    by_cases z : x = c
    · rw [if_pos z, List.length_cons, List.length_cons]
      omega
    · rw [if_neg z]
      cases e : splitC c r with
      | nil => simp
      | cons q qs =>
        rw [e] at ih
        show (qs.length + 1) ≤ r.length + 1 + 1
        rw [List.length_cons] at ih
        omega
theorem len_str (x : String) : (Str.ofString x).length = (TL.tl (Str.ofString x)).length := by
  rw [← len_mkS, mkS_tl]
theorem at_last {α : Type} {xs : List α} {v : α} (h : xs.getLast? = some v) : atI xs (-1) = some v := by
  obtain ⟨ys, rfl⟩ := List.getLast?_eq_some_iff.mp h
  exact atI_last ys v
/-! ### rows of texts, as data -/
abbrev dTxts (ls : List (List Nat)) : PyData := .tuple (ls.map fun l => PyData.str (mkS l))
theorem dpTxtsAll {K : PySem.W.Frag} {H : Hp} : ∀ (ls : List (List Nat)), DpAll K H (ls.map T) (ls.map fun l => PyData.str (mkS l))
  | [] => .nil
  | a :: r => .cons (.str _) (dpTxtsAll r)
theorem dpTxts {K : PySem.W.Frag} {H : Hp} {p : Addr} {ls : List (List Nat)} (h : SqT K H p (ls.map T)) : Dp K H (.ref p) (dTxts ls) := .tup h (dpTxtsAll ls)
theorem tupsAll_txts : ∀ (ls : List (List Nat)), tupsAll (ls.map fun l => PyData.str (mkS l)) = true
  | [] => rfl
  | a :: r => by rw [List.map_cons, tupsAll, tupsAll_txts r]; rfl
theorem depthAll_txts : ∀ (ls : List (List Nat)), PyData.depthAll (ls.map fun l => PyData.str (mkS l)) = 0
  | [] => rfl
  | a :: r => by rw [List.map_cons, PyData.depthAll, depthAll_txts r]; rfl
theorem dTxts_ok (ls : List (List Nat)) (h : ls.length ≤ 100000) : tupsOnly (dTxts ls) = true ∧ PyData.depth (dTxts ls) ≤ 1 := ⟨by
  rw [tupsOnly, tupsAll_txts, decide_eq_true (by rw [List.length_map]; exact h)]
  rfl, by
  show PyData.depthAll (ls.map fun l => PyData.str (mkS l)) + 1 ≤ 1
  rw [depthAll_txts]
  exact Nat.le_refl 1⟩
theorem eqV_txt (a b : List Nat) : eqV (T a) (T b) = decide (a = b) := by
  show (decide (mkS a = mkS b) : Bool) = _ 
  by_cases z : a = b
  · rw [z]; simp
  · rw [decide_eq_false z]
    exact decide_eq_false fun k => z (mkS_inj k)
theorem inV_txt (p : List Nat) : ∀ ls : List (List Nat), inV (T p) (ls.map T) = decide (p ∈ ls)
  | [] => by simp [inV]
  | l :: r => by
    have ih := inV_txt p r
    unfold inV at ih ⊢
    rw [List.map_cons, List.any_cons, ih, eqV_txt]
    by_cases z : l = p
    · subst z; simp
    · rw [decide_eq_false z, Bool.false_or]
      by_cases y : p ∈ r
      · rw [decide_eq_true y, decide_eq_true (List.mem_cons_of_mem _ y)]
      · rw [decide_eq_false y]
        exact (decide_eq_false fun k => by
          rcases List.mem_cons.mp k with k | k
          · exact z k.symm
          · exact y k).symm
theorem flat_txts : ∀ ls : List (List Nat), (ls.map T).all flatV = true
  | [] => rfl
  | l :: r => by rw [List.map_cons, List.all_cons, flat_txts r]; rfl
end Fc

namespace Fc
open PySem PySem.Spec L2 PyProof.Rows
variable [LamNames]
/-! ### t * k of any small k -/
theorem mul_self (l : Addr) (its : Array Value) (n : Nat) (dd : Option Addr) (sl : Array (Option Value)) (k : Int) (u : Tok) (c0 : (decide (k < -(2 ^ 63)) || decide (k ≥ 2 ^ 63)) = false) (c1 : (its.isEmpty || k == 1) = true) :
    Meets (Builtin.«tuple.__mul__» ⟨[.ref l, .int k u], []⟩) (fun _ R s => s.heap.get? l = some { cls := .type "tuple", dict := dd, data := .seq its n, slots := sl } ∧ R (.ok (.ret (Value.ref l))) s) :=
  .of_wp fun prog w A R s h => by
    obtain ⟨hp, g, d, tk, os⟩ := s
    obtain ⟨hl, h⟩ := h
    have f1 := AutoSeq1.idx_int
    wp_walk using wpAny_loadPart' hl
    repeat (first
      | (refine wpAny_ite_false (decide_eq_false (by rw [c0]; exact Bool.false_ne_true)) ?_; wp_walk using wpAny_loadPart' hl)
      | (refine wpAny_ite_true (decide_eq_true c1) ?_; wp_walk using wpAny_loadPart' hl))
    exact ⟨_, rfl, h⟩
theorem mul_none (l : Addr) (its : Array Value) (n : Nat) (dd : Option Addr) (sl : Array (Option Value)) (k : Int) (u : Tok) (c0 : (decide (k < -(2 ^ 63)) || decide (k ≥ 2 ^ 63)) = false) (c1 : (its.isEmpty || k == 1) = false) (c2 : (decide (k ≤ 0) || its.isEmpty) = true) :
    Meets (Builtin.«tuple.__mul__» ⟨[.ref l, .int k u], []⟩) (fun _ R s => s.heap.get? l = some { cls := .type "tuple", dict := dd, data := .seq its n, slots := sl } ∧
      R (.ok (.ret (Value.ref s.heap.objs.size))) { s with heap := s.heap.push { cls := Value.type "tuple", data := Data.seq #[] }, toks := s.toks }) :=
  .of_wp fun prog w A R s h => by
    obtain ⟨hp, g, d, tk, os⟩ := s
    obtain ⟨hl, h⟩ := h
    have f1 := AutoSeq1.idx_int
    wp_walk using wpAny_loadPart' hl
    repeat (first
      | (refine wpAny_ite_false (decide_eq_false (by rw [c0]; exact Bool.false_ne_true)) ?_; wp_walk using wpAny_loadPart' hl)
      | (refine wpAny_ite_false (decide_eq_false (by rw [c1]; exact Bool.false_ne_true)) ?_; wp_walk using wpAny_loadPart' hl)
      | (refine wpAny_ite_true (decide_eq_true c2) ?_; wp_walk using wpAny_loadPart' hl))
    exact ⟨_, rfl, h⟩
def rRepU (K : PySem.W.Frag) : R2 := fun x y H Q => ∃ l k xs, x = .ref l ∧ y = .int k ∧ SqT K H l xs ∧ 0 ≤ k ∧ k ≤ 1000 ∧ xs.length ≤ 1000 ∧ Tups K H (List.replicate k.toNat xs).flatten Q
section
variable {X : Cx}
theorem op_repU : OpR X (binaryOp .Mult) (rRepU X.K) := by
  intro pins s σ H x y v u Q I rx ry h
  obtain ⟨l, k, xs, rfl, rfl, hT, k0, k1, few, q⟩ := h
  by_cases hn : xs = [] ∨ k < 2
  · cases rx
    obtain ⟨t, rfl⟩ := ry
    obtain ⟨its, r, ⟨⟨cls, dd, data, sl⟩, ho, hc, n, hd⟩, hs⟩ := I.tuple hT
    simp only at hc hd
    subst hc hd
    have hle : its.length = xs.length := r.length.symm
    have c0 : (decide (k < -(2 ^ 63)) || decide (k ≥ 2 ^ 63)) = false := by
      rw [decide_eq_false (by omega), decide_eq_false (by omega)] <;> rfl
    by_cases he : xs = [] ∨ k = 1
    · have c1 : (its.toArray.isEmpty || k == 1) = true := by
        rcases he with e | e
        · have : its = [] := by
            rw [e] at hle
            exact List.eq_nil_of_length_eq_zero hle
          rw [this]
          rfl
        · rw [e]
          simp
      have ex : xs = (List.replicate k.toNat xs).flatten := by
        rcases he with e | e
        · rw [e]
          simp
        · rw [e]
          simp
      refine wpAny_binaryOp_repeat_ref (T := "tuple") (U := "int") (by decide) ⟨_, ho, rfl⟩ (fun s' => typeIs_int s' k t) noFill_tuple_mul F.fills_int_mul F.slot_int_rmul repeat_tuple F.slot_int_index.lookup
        (call_meets F.slot_int_rmul (typeIs_int s k t) F.entry_int_rmul (F.args_int_rmul_2 _ _) (int_rmul_tuple k t l its.toArray n dd sl)
          ⟨ho, rfl, ⟨_, ho, rfl⟩, call_meets F.slot_tuple_mul ⟨_, ho, rfl⟩ F.entry_tuple_mul (F.args_tuple_mul_2 _ _) (mul_self l its.toArray n dd sl k t c0 c1) ⟨ho, ?_⟩⟩)
      exact ⟨.ref l, H, I, rfl, q.old hT ex⟩
    · have hx : xs ≠ [] := fun e => he (.inl e)
      have h1 : k ≠ 1 := fun e => he (.inr e)
      have h0 : k = 0 := by
        rcases hn with e | e
        · exact absurd e hx
        · omega
      have hi : its.toArray.isEmpty = false := by
        cases its with
        | nil =>
          exact absurd (List.eq_nil_of_length_eq_zero hle.symm) hx
        | cons a b => rfl
      have c1 : (its.toArray.isEmpty || k == 1) = false := by
        rw [hi, h0]
        rfl
      have c2 : (decide (k ≤ 0) || its.toArray.isEmpty) = true := by
        rw [h0]
        rfl
      have ex : (List.replicate k.toNat xs).flatten = [] := by
        rw [h0]
        rfl
      rw [ex] at q
      refine wpAny_binaryOp_repeat_ref (T := "tuple") (U := "int") (by decide) ⟨_, ho, rfl⟩ (fun s' => typeIs_int s' k t) noFill_tuple_mul F.fills_int_mul F.slot_int_rmul repeat_tuple F.slot_int_index.lookup
        (call_meets F.slot_int_rmul (typeIs_int s k t) F.entry_int_rmul (F.args_int_rmul_2 _ _) (int_rmul_tuple k t l its.toArray n dd sl)
          ⟨ho, rfl, ⟨_, ho, rfl⟩, call_meets F.slot_tuple_mul ⟨_, ho, rfl⟩ F.entry_tuple_mul (F.args_tuple_mul_2 _ _) (mul_none l its.toArray n dd sl k t c0 c1 c2) ⟨ho, ?_⟩⟩)
      refine ⟨.ref s.heap.objs.size, _, I.laid (t' := s.toks) (o := .tup []) (fun b ob z => Heap.get?_push_of_some _ z) (Nat.le_refl _) ?_, rfl, q.new (I.hok.fresh (Nat.le_refl _))⟩
      exact ⟨Nat.zero_le _, [], .nil, IsTup.new _ _⟩
  · exact op_repT pins s σ H _ _ v u Q I rx ry ⟨l, k, xs, rfl, rfl, hT, fun e => hn (.inl e), by omega, k1, few, fun p z => q.new z⟩
/-- as rRepU, for more -/
def rRepV (K : PySem.W.Frag) : R2 := fun x y H Q => ∃ l k xs, x = .ref l ∧ y = .int k ∧ SqT K H l xs ∧ 0 ≤ k ∧ k ≤ 1000000 ∧ (xs.length : Int) * k ≤ 1000000 ∧ Tups K H (List.replicate k.toNat xs).flatten Q
theorem op_repV : OpR X (binaryOp .Mult) (rRepV X.K) := by
  intro pins s σ H x y v u Q I rx ry h
  obtain ⟨l, k, xs, rfl, rfl, hT, k0, k1, few, q⟩ := h
  by_cases sm : k ≤ 1000 ∧ xs.length ≤ 1000
  · exact op_repU pins s σ H _ _ v u Q I rx ry ⟨l, k, xs, rfl, rfl, hT, k0, sm.1, sm.2, q⟩
  · by_cases hn : xs = [] ∨ k < 2
    · rcases hn with e | e
      · subst e
        cases rx
        obtain ⟨t, rfl⟩ := ry
        obtain ⟨its, r, ⟨⟨cls, dd, data, sl⟩, ho, hc, n, hd⟩, hs⟩ := I.tuple hT
        simp only at hc hd
        subst hc hd
        have e0 : its = [] := List.eq_nil_of_length_eq_zero r.length.symm
        have c0 : (decide (k < -(2 ^ 63)) || decide (k ≥ 2 ^ 63)) = false := by
          rw [decide_eq_false (by omega), decide_eq_false (by omega)] <;> rfl
        have c1 : (its.toArray.isEmpty || k == 1) = true := by rw [e0]; rfl
        refine wpAny_binaryOp_repeat_ref (T := "tuple") (U := "int") (by decide) ⟨_, ho, rfl⟩ (fun s' => typeIs_int s' k t) noFill_tuple_mul F.fills_int_mul F.slot_int_rmul repeat_tuple F.slot_int_index.lookup
          (call_meets F.slot_int_rmul (typeIs_int s k t) F.entry_int_rmul (F.args_int_rmul_2 _ _) (int_rmul_tuple k t l its.toArray n dd sl)
            ⟨ho, rfl, ⟨_, ho, rfl⟩, call_meets F.slot_tuple_mul ⟨_, ho, rfl⟩ F.entry_tuple_mul (F.args_tuple_mul_2 _ _) (mul_self l its.toArray n dd sl k t c0 c1) ⟨ho, ?_⟩⟩)
        exact ⟨.ref l, H, I, rfl, q.old hT (by simp)⟩
      · have lx : 1000 < xs.length := by omega
        have hk : k = 0 ∨ k = 1 := by omega
        cases rx
        obtain ⟨t, rfl⟩ := ry
        obtain ⟨its, r, ⟨⟨cls, dd, data, sl⟩, ho, hc, n, hd⟩, hs⟩ := I.tuple hT
        simp only at hc hd
        subst hc hd
        have hle : its.length = xs.length := r.length.symm
        have c0 : (decide (k < -(2 ^ 63)) || decide (k ≥ 2 ^ 63)) = false := by
          rw [decide_eq_false (by omega), decide_eq_false (by omega)] <;> rfl
        have hi : its.toArray.isEmpty = false := by
          cases its with
          | nil =>
            have : xs.length = 0 := hle.symm
            omega
          | cons a b => rfl
        rcases hk with rfl | rfl
        · refine wpAny_binaryOp_repeat_ref (T := "tuple") (U := "int") (by decide) ⟨_, ho, rfl⟩ (fun s' => typeIs_int s' 0 t) noFill_tuple_mul F.fills_int_mul F.slot_int_rmul repeat_tuple F.slot_int_index.lookup
            (call_meets F.slot_int_rmul (typeIs_int s 0 t) F.entry_int_rmul (F.args_int_rmul_2 _ _) (int_rmul_tuple 0 t l its.toArray n dd sl)
              ⟨ho, rfl, ⟨_, ho, rfl⟩, call_meets F.slot_tuple_mul ⟨_, ho, rfl⟩ F.entry_tuple_mul (F.args_tuple_mul_2 _ _) (mul_none l its.toArray n dd sl 0 t c0 (by rw [hi]; rfl) rfl) ⟨ho, ?_⟩⟩)
          refine ⟨.ref s.heap.objs.size, _, I.laid (t' := s.toks) (o := .tup []) (fun b ob z => Heap.get?_push_of_some _ z) (Nat.le_refl _) ?_, rfl, Tups.new (xs := []) q (I.hok.fresh (Nat.le_refl _))⟩
          exact ⟨Nat.zero_le _, [], .nil, IsTup.new _ _⟩
        · refine wpAny_binaryOp_repeat_ref (T := "tuple") (U := "int") (by decide) ⟨_, ho, rfl⟩ (fun s' => typeIs_int s' 1 t) noFill_tuple_mul F.fills_int_mul F.slot_int_rmul repeat_tuple F.slot_int_index.lookup
            (call_meets F.slot_int_rmul (typeIs_int s 1 t) F.entry_int_rmul (F.args_int_rmul_2 _ _) (int_rmul_tuple 1 t l its.toArray n dd sl)
              ⟨ho, rfl, ⟨_, ho, rfl⟩, call_meets F.slot_tuple_mul ⟨_, ho, rfl⟩ F.entry_tuple_mul (F.args_tuple_mul_2 _ _) (mul_self l its.toArray n dd sl 1 t c0 (by rw [hi]; rfl)) ⟨ho, ?_⟩⟩)
          exact ⟨.ref l, H, I, rfl, q.old hT (by simp)⟩
    · have k2 : 2 ≤ k := by omega
      have hx : xs ≠ [] := fun e => hn (.inl e)
      cases rx
      obtain ⟨t, rfl⟩ := ry
      obtain ⟨its, r, ⟨⟨cls, dd, data, sl⟩, ho, hc, n, hd⟩, hs⟩ := I.tuple hT
      simp only at hc hd
      subst hc hd
      have hle : its.length = xs.length := r.length.symm
      have hi : its.toArray.isEmpty = false := by
        cases its with
        | nil => exact absurd (List.eq_nil_of_length_eq_zero hle.symm) hx
        | cons a b => rfl
      have hsz0 : its.toArray.size = xs.length := by rw [List.size_toArray, hle]
      have flenN : k.toNat * xs.length ≤ 1000000 := by
        have e : ((k.toNat * xs.length : Nat) : Int) = (xs.length : Int) * k := by
          rw [Int.natCast_mul, Int.toNat_of_nonneg k0, Int.mul_comm]
        omega
      have hm : ((its.toArray.size : Nat) : Int) * k ≤ 1000000 := by rw [hsz0]; exact few
      have flen : (List.replicate k.toNat its).flatten.length ≤ sizeLine := by
        rw [PyProof.Rows.lm_len_rep_flat, hle, sizeLine_eq]
        omega
      have c0 : (decide (k < -(2 ^ 63)) || decide (k ≥ 2 ^ 63)) = false := by
        rw [decide_eq_false (by omega), decide_eq_false (by omega)] <;> rfl
      have c1 : (its.toArray.isEmpty || k == 1) = false := by
        rw [hi, Bool.false_or]
        exact beq_eq_false_iff_ne.mpr (by omega)
      have c2 : (decide (k ≤ 0) || its.toArray.isEmpty) = false := by
        rw [hi, Bool.or_false]
        exact decide_eq_false (by omega)
      have c4 : Builtin.Tuple.tupleTooMany (((its.toArray.size : Nat) : Int) * k) = false := by
        unfold Builtin.Tuple.tupleTooMany
        rw [sizeLine_eq]
        exact decide_eq_false (by omega)
      refine wpAny_binaryOp_repeat_ref (T := "tuple") (U := "int") (by decide) ⟨_, ho, rfl⟩ (fun s' => typeIs_int s' k t) noFill_tuple_mul F.fills_int_mul F.slot_int_rmul repeat_tuple F.slot_int_index.lookup
        (call_meets F.slot_int_rmul (typeIs_int s k t) F.entry_int_rmul (F.args_int_rmul_2 _ _) (int_rmul_tuple k t l its.toArray n dd sl)
          ⟨ho, rfl, ⟨_, ho, rfl⟩, call_meets F.slot_tuple_mul ⟨_, ho, rfl⟩ F.entry_tuple_mul (F.args_tuple_mul_2 _ _) (tuple_mulW l its.toArray n dd sl k t c0 c1 c2 (by omega) c4 (by rw [size_rep, List.size_toArray]; exact flen)) ⟨ho, ?_⟩⟩)
      rw [size_rep]
      refine ⟨.ref s.heap.objs.size, _, I.laid (t' := s.toks) (o := .tup (List.replicate k.toNat xs).flatten) (fun b ob z => Heap.get?_push_of_some _ z) (Nat.le_refl _) ?_, rfl, q.new (I.hok.fresh (Nat.le_refl _))⟩
      refine ⟨?_, _, r.rep k.toNat, IsTup.new _ _⟩
      rw [PyProof.Rows.lm_len_rep_flat, sizeLine_eq]
      omega
end
end Fc

namespace Fc
open PySem PySem.Spec L2 PyProof.Rows
variable [LamNames]
/-! ### rules for within a comprehension, where the frag is given by name -/
section
variable {X : Cx} {K : PySem.W.Frag}
theorem ix_listq (hK : X.K = K) : IxR X (rIxL K) := by subst hK; exact ix_list
theorem ix_tupq (hK : X.K = K) : IxR X (rIxT K) := by subst hK; exact ix_tup
theorem sl_listq (hK : X.K = K) : SlR X (rSlL K) := by subst hK; exact sl_list
theorem sl_tupUq (hK : X.K = K) : SlR X (rSlU K) := by subst hK; exact sl_tupU
theorem op_catUq (hK : X.K = K) : OpR X (binaryOp .Add) (rCatU K) := by subst hK; exact op_catU
theorem op_in_seqq (hK : X.K = K) : OpR X (compareOp .In) (rIn K false) := by subst hK; exact op_in_seq
theorem op_notIn_seqq (hK : X.K = K) : OpR X (compareOp .NotIn) (rIn K true) := by subst hK; exact op_notIn_seq
theorem op_eqDq (hK : X.K = K) (hu : X.A.units + 64 < cLine) : OpR X (compareOp .Eq) (rEqD K) := by subst hK; exact op_eqD hu
theorem op_neDq (hK : X.K = K) (hu : X.A.units + 64 < cLine) : OpR X (compareOp .NotEq) (rNeD K) := by subst hK; exact op_neD hu
theorem call_len_seqq (hK : X.K = K) : CallR X (.builtin "len") (fun xs H Q => ∃ p ys, xs = [.ref p] ∧ (SqL K H p ys ∨ SqT K H p ys) ∧ Q (.int ys.length) H) := by subst hK; exact call_len_seq
theorem call_tupleUq (hK : X.K = K) : CallR X (.type "tuple") (fun xs H Q => ∃ p ys, xs = [.ref p] ∧ SqL K H p ys ∧ Tups K H ys Q) := by subst hK; exact call_tupleU
theorem call_isiq (hK : X.K = K) : CallR X (.builtin "isinstance") (rIsi K) := by subst hK; exact call_isi
theorem pe_tupUq (hK : X.K = K) {es : List Expr} {x1 : Nat} {pos : Pos} {t : TA} (h : PA X es t) : PE X (.Tuple es x1 pos) (tTupU K t) := by subst hK; exact pe_tupU h
theorem pe_notTq (hK : X.K = K) {a : Expr} {ta : TE} {pos : Pos} (ha : PE X a ta) : PE X (.UnaryOp .Not a pos) (tNotT K ta) := by subst hK; exact pe_notT ha
def tTru (K : PySem.W.Frag) (ta : TE) : TT := fun σ H Q => ta σ H fun x H' => ∃ k, TruV K x H' k ∧ Q k H'
theorem pt_truthq (hK : X.K = K) {a : Expr} {ta : TE} (ha : PE X a ta) (he : ∀ whole, isTrue a X.env whole = (do let v ← whole; standAt a.pos; holding [v] (truthy v))) :
    PT X a (tTru K ta) := by subst hK; exact pt_truth ha he
theorem pi_listq (hK : X.K = K) {l tg : Expr} {tl : TE} (hl : PE X l tl) : PI X tg l (iList K tl) := by subst hK; exact pi_list hl
theorem pi_tupq (hK : X.K = K) {l tg : Expr} {tl : TE} (hl : PE X l tl) : PI X tg l (iTup K tl) := by subst hK; exact pi_tup hl
theorem pe_joinq (hK : X.K = K) {o e : Expr} {to te : TE} {apos pos : Pos} (ho : PE X o to) (he : PE X e te) (hs : starEach [e] X.env = [(false, eval e X.env)] := by rfl) (hbase : attributeBase o "join" X.env (eval o X.env) = eval o X.env := by rfl) (hline : (apos.endLine == pos.line) = true := by rfl) :
    PE X (.Call (.Attribute o "join" apos) [e] [] pos) (tM1 (fun x xs H Q => ∃ a p, ∃ ys : List Str, x = .str a ∧ xs = [.ref p] ∧ (SqL K H p (ys.map V.str) ∨ SqT K H p (ys.map V.str)) ∧
      (ys.map (·.length)).sum + ys.length * a.length ≤ 16777216 ∧ Q (.str (Txt.join a ys)) H) to te) := by subst hK; exact pe_join ho he hs hbase hline
end
end Fc

namespace Fc
open PySem PySem.Spec L2 PyProof.Rows
variable [LamNames]
/-! ### two rows, one by one -/
inductive Al2 {α β : Type} (R : α → β → Prop) : List α → List β → Prop
  | nil : Al2 R [] []
  | cons {x : α} {y : β} {xs : List α} {ys : List β} (h : R x y) (hs : Al2 R xs ys) : Al2 R (x :: xs) (y :: ys)
theorem Al2.mono {α β : Type} {R S : α → β → Prop} (f : ∀ x y, R x y → S x y) : ∀ {xs : List α} {ys : List β}, Al2 R xs ys → Al2 S xs ys
  | _, _, .nil => .nil
  | _, _, .cons h hs => .cons (f _ _ h) (hs.mono f)
theorem Al2.length {α β : Type} {R : α → β → Prop} : ∀ {xs : List α} {ys : List β}, Al2 R xs ys → ys.length = xs.length
  | _, _, .nil => rfl
  | _, _, .cons _ hs => congrArg (· + 1) hs.length
theorem Al2.snoc {α β : Type} {R : α → β → Prop} {x : α} {y : β} (h : R x y) : ∀ {xs : List α} {ys : List β}, Al2 R xs ys → Al2 R (xs ++ [x]) (ys ++ [y])
  | _, _, .nil => .cons h .nil
  | _, _, .cons k hs => .cons k (hs.snoc h)
theorem Al2.eq_map {α β : Type} {f : α → β} : ∀ {xs : List α} {ys : List β}, Al2 (fun x y => y = f x) xs ys → ys = xs.map f
  | _, _, .nil => rfl
  | _, _, .cons h hs => by rw [List.map_cons, h, hs.eq_map]
theorem Al2.get {α β : Type} {R : α → β → Prop} : ∀ {xs : List α} {ys : List β} {i : Nat} {y : β}, Al2 R xs ys → ys[i]? = some y → ∃ x, xs[i]? = some x ∧ R x y
  | _, _, _, _, .nil, h => by cases h
  | _, _, 0, _, .cons h hs, e => by cases e; exact ⟨_, rfl, h⟩
  | _, _, i + 1, _, .cons h hs, e => hs.get (i := i) e
theorem Al2.mem {α β : Type} {R : α → β → Prop} : ∀ {xs : List α} {ys : List β} {y : β}, Al2 R xs ys → y ∈ ys → ∃ x ∈ xs, R x y
  | _, _, _, .nil, h => by cases h
  | _, _, _, .cons h hs, e => by
    rcases List.mem_cons.mp e with rfl | e
    · exact ⟨_, List.mem_cons_self .., h⟩
    · obtain ⟨x, hx, r⟩ := hs.mem e
      exact ⟨x, List.mem_cons_of_mem _ hx, r⟩
theorem take_filter {α : Type} {xs : List α} {i : Nat} {x : α} (keep : α → Bool) (h : xs[i]? = some x) : (xs.take (i + 1)).filter keep = (xs.take i).filter keep ++ (if keep x = true then [x] else []) := by
  rw [List.take_add_one, h, Option.toList_some, List.filter_append]
  congr 1
  by_cases k : keep x = true
  · rw [if_pos k, List.filter_cons_of_pos k]; rfl
  · rw [if_neg k, List.filter_cons_of_neg k]; rfl
/-! ### [e for x in xs if test]: which are kept, and what holds of the items -/
section
variable {xs : List V} {keep : V → Bool} {G : V → V → Hp → Prop} {tt : TT} {te : TE} {vs : List Nat} {σ : L2.St} {H1 : Hp} {D : Addr} {j : Nat} {Qd : Hp → Prop}
def LcP (xs : List V) (keep : V → Bool) (G : V → V → Hp → Prop) (H1 : Hp) (D : Addr) (i : Nat) (H : Hp) : Prop := Same H1 H ∧ ∃ ys, H D = some (.lst ys) ∧ Al2 (fun x y => G x y H) ((xs.take i).filter keep) ys
theorem lcp_step (nD : H1 D = none) (hz : xs.length ≤ sizeLine) (gk : ∀ x y H H', Same H H' → G x y H → G x y H') (gu : ∀ x y H ys zs, H D = some (.lst ys) → G x y H → G x y (upd H D (.lst zs)))
    (test : ∀ (i : Nat) (x : V) (H : Hp) (R : Bool → Hp → Prop), xs[i]? = some x → Same H1 H → (∀ H', Same H H' → R (keep x) H') → tt ((wipe σ vs).set j (some x)) H R)
    (item : ∀ (i : Nat) (x : V) (H : Hp) (R : V → Hp → Prop), xs[i]? = some x → keep x = true → Same H1 H → (∀ y H', Same H H' → G x y H' → R y H') → te ((wipe σ vs).set j (some x)) H R)
    {i : Nat} {x : V} {H : Hp} (hx : xs[i]? = some x) (p : LcP xs keep G H1 D i H) : tt ((wipe σ vs).set j (some x)) H fun b H3 =>
      if b = true then te ((wipe σ vs).set j (some x)) H3 fun y H4 => ∃ acc, H4 D = some (.lst acc) ∧ acc.length < sizeLine ∧ LcP xs keep G H1 D (i + 1) (upd H4 D (.lst (acc ++ [y]))) else LcP xs keep G H1 D (i + 1) H3 := by
  have hi : i < xs.length := (List.getElem?_eq_some_iff.mp hx).1
  obtain ⟨sm, ys, hD, al⟩ := p
  refine test i x H _ hx sm fun H3 s3 => ?_
  by_cases k : keep x = true
  · rw [if_pos k]
    refine item i x H3 _ hx k (sm.trans s3) fun y H4 s4 gy => ⟨ys, s4 _ _ (s3 _ _ hD), ?_, ?_, ys ++ [y], upd_same, ?_⟩
    · have := al.length
      have l2 := List.length_filter_le keep (xs.take i)
      rw [List.length_take] at l2
      omega
    · exact (sm.trans (s3.trans s4)).over nD (.lst (s4 _ _ (s3 _ _ hD)))
    · rw [take_filter keep hx, if_pos k]
      have hD4 := s4 _ _ (s3 _ _ hD)
      have al2 : Al2 (fun u v => G u v (upd H4 D (.lst (ys ++ [y])))) ((xs.take i).filter keep) ys := al.mono fun u v g => gu _ _ _ _ _ hD4 (gk _ _ _ _ (s3.trans s4) g)
      exact Al2.snoc (R := fun u v => G u v (upd H4 D (.lst (ys ++ [y])))) (gu _ _ _ _ _ hD4 gy) al2
  · rw [if_neg k]
    refine ⟨sm.trans s3, ys, s3 _ _ hD, ?_⟩
    rw [take_filter keep hx, if_neg k, List.append_nil]
    exact al.mono fun u v g => gk _ _ _ _ s3 g
theorem lcG_list {K : PySem.W.Frag} {a : Addr} (nD : H1 D = none) (hs : SqL K H1 a xs) (hz : xs.length ≤ sizeLine) (hw : ∀ x, wipe ((wipe σ vs).set j (some x)) vs = wipe σ vs)
    (gk : ∀ x y H H', Same H H' → G x y H → G x y H') (gu : ∀ x y H ys zs, H D = some (.lst ys) → G x y H → G x y (upd H D (.lst zs)))
    (test : ∀ (i : Nat) (x : V) (H : Hp) (R : Bool → Hp → Prop), xs[i]? = some x → Same H1 H → (∀ H', Same H H' → R (keep x) H') → tt ((wipe σ vs).set j (some x)) H R)
    (item : ∀ (i : Nat) (x : V) (H : Hp) (R : V → Hp → Prop), xs[i]? = some x → keep x = true → Same H1 H → (∀ y H', Same H H' → G x y H' → R y H') → te ((wipe σ vs).set j (some x)) H R)
    (hd : ∀ ys H', Al2 (fun x y => G x y H') (xs.filter keep) ys → Same H1 H' → H' D = some (.lst ys) → Qd H') :
    ∃ W : Nat → Nat → Hp → Prop, (∃ m, W 0 m (upd H1 D (.lst []))) ∧ ∀ i m H, W i m H →
      ((Itl K a).stop i H ∧ Qd H) ∨ ((Itl K a).go i H ∧ ∃ Nx : Hp → Prop, (∀ H', Nx H' → ∃ m', m' < m ∧ W (i + 1) m' H') ∧ ∀ x H', (Itl K a).yld i H x H' → gName j x (wipe σ vs) H' fun σ2 H2 => wipe σ2 vs = wipe σ vs ∧ tt σ2 H2 fun b H3 =>
        if b = true then te σ2 H3 fun y H4 => ∃ acc, H4 D = some (.lst acc) ∧ acc.length < sizeLine ∧ Nx (upd H4 D (.lst (acc ++ [y]))) else Nx H3) := by
  refine lc_list (xs := xs) (LcP xs keep G H1 D) ⟨grow nD, [], upd_same, .nil⟩ (fun i H _ p => p.1.seq hs) (fun i x H hx p => ⟨hw x, lcp_step nD hz gk gu test item hx p⟩) (fun H p => ?_)
  obtain ⟨sm, ys, hD, al⟩ := p
  rw [List.take_length] at al
  exact hd ys H al sm hD
theorem lcG_tup {K : PySem.W.Frag} {a : Addr} (nD : H1 D = none) (hs : SqT K H1 a xs) (hz : xs.length ≤ sizeLine) (hw : ∀ x, wipe ((wipe σ vs).set j (some x)) vs = wipe σ vs)
    (gk : ∀ x y H H', Same H H' → G x y H → G x y H') (gu : ∀ x y H ys zs, H D = some (.lst ys) → G x y H → G x y (upd H D (.lst zs)))
    (test : ∀ (i : Nat) (x : V) (H : Hp) (R : Bool → Hp → Prop), xs[i]? = some x → Same H1 H → (∀ H', Same H H' → R (keep x) H') → tt ((wipe σ vs).set j (some x)) H R)
    (item : ∀ (i : Nat) (x : V) (H : Hp) (R : V → Hp → Prop), xs[i]? = some x → keep x = true → Same H1 H → (∀ y H', Same H H' → G x y H' → R y H') → te ((wipe σ vs).set j (some x)) H R)
    (hd : ∀ ys H', Al2 (fun x y => G x y H') (xs.filter keep) ys → Same H1 H' → H' D = some (.lst ys) → Qd H') :
    ∃ W : Nat → Nat → Hp → Prop, (∃ m, W 0 m (upd H1 D (.lst []))) ∧ ∀ i m H, W i m H →
      ((Itt K a).stop i H ∧ Qd H) ∨ ((Itt K a).go i H ∧ ∃ Nx : Hp → Prop, (∀ H', Nx H' → ∃ m', m' < m ∧ W (i + 1) m' H') ∧ ∀ x H', (Itt K a).yld i H x H' → gName j x (wipe σ vs) H' fun σ2 H2 => wipe σ2 vs = wipe σ vs ∧ tt σ2 H2 fun b H3 =>
        if b = true then te σ2 H3 fun y H4 => ∃ acc, H4 D = some (.lst acc) ∧ acc.length < sizeLine ∧ Nx (upd H4 D (.lst (acc ++ [y]))) else Nx H3) := by
  refine ⟨fun i m H => m = xs.length - i ∧ i ≤ xs.length ∧ LcP xs keep G H1 D i H, ⟨xs.length, rfl, Nat.zero_le _, grow nD, [], upd_same, .nil⟩, ?_⟩
  rintro i m H ⟨rfl, hi, p⟩
  have q := keepT p.1 hs
  by_cases lt : i < xs.length
  · refine .inr ⟨⟨xs, xs[i], q, List.getElem?_eq_getElem lt⟩, LcP xs keep G H1 D (i + 1), fun H' p' => ⟨xs.length - (i + 1), by omega, rfl, lt, p'⟩, fun x H' y => ?_⟩
    obtain ⟨e, y⟩ := y
    subst e
    exact ⟨hw x, lcp_step nD hz gk gu test item (y xs q) p⟩
  · have e : i = xs.length := by omega
    subst e
    obtain ⟨sm, ys, hD, al⟩ := p
    rw [List.take_length] at al
    exact .inl ⟨⟨xs, q, Nat.le_refl _⟩, hd ys H al sm hD⟩
theorem lcG_rng {lo : Int} {n : Nat} (nD : H1 D = none) (hz : n ≤ sizeLine) (ex : xs = (List.range n).map fun i => V.int (lo + (i : Nat))) (hw : ∀ x, wipe ((wipe σ vs).set j (some x)) vs = wipe σ vs)
    (gk : ∀ x y H H', Same H H' → G x y H → G x y H') (gu : ∀ x y H ys zs, H D = some (.lst ys) → G x y H → G x y (upd H D (.lst zs)))
    (test : ∀ (i : Nat) (x : V) (H : Hp) (R : Bool → Hp → Prop), xs[i]? = some x → Same H1 H → (∀ H', Same H H' → R (keep x) H') → tt ((wipe σ vs).set j (some x)) H R)
    (item : ∀ (i : Nat) (x : V) (H : Hp) (R : V → Hp → Prop), xs[i]? = some x → keep x = true → Same H1 H → (∀ y H', Same H H' → G x y H' → R y H') → te ((wipe σ vs).set j (some x)) H R)
    (hd : ∀ ys H', Al2 (fun x y => G x y H') (xs.filter keep) ys → Same H1 H' → H' D = some (.lst ys) → Qd H') :
    ∃ W : Nat → Nat → Hp → Prop, (∃ m, W 0 m (upd H1 D (.lst []))) ∧ ∀ i m H, W i m H →
      ((Itr lo n).stop i H ∧ Qd H) ∨ ((Itr lo n).go i H ∧ ∃ Nx : Hp → Prop, (∀ H', Nx H' → ∃ m', m' < m ∧ W (i + 1) m' H') ∧ ∀ x H', (Itr lo n).yld i H x H' → gName j x (wipe σ vs) H' fun σ2 H2 => wipe σ2 vs = wipe σ vs ∧ tt σ2 H2 fun b H3 =>
        if b = true then te σ2 H3 fun y H4 => ∃ acc, H4 D = some (.lst acc) ∧ acc.length < sizeLine ∧ Nx (upd H4 D (.lst (acc ++ [y]))) else Nx H3) := by
  have lx : xs.length = n := by rw [ex, List.length_map, List.length_range]
  refine lc_range (LcP xs keep G H1 D) ⟨grow nD, [], upd_same, .nil⟩ (fun i H hi p => ⟨hw _, lcp_step nD (by omega) gk gu test item (i := i) ?_ p⟩) (fun H p => ?_)
  · rw [ex, List.getElem?_map, List.getElem?_range hi]
    rfl
  · obtain ⟨sm, ys, hD, al⟩ := p
    rw [← lx, List.take_length] at al
    exact hd ys H al sm hD
/-! ### the same, its items told by a row -/
theorem lcF_list {K : PySem.W.Frag} {a : Addr} (f : V → V) (nD : H1 D = none) (hs : SqL K H1 a xs) (hz : xs.length ≤ sizeLine) (hw : ∀ x, wipe ((wipe σ vs).set j (some x)) vs = wipe σ vs)
    (test : ∀ (i : Nat) (x : V) (H : Hp) (R : Bool → Hp → Prop), xs[i]? = some x → Same H1 H → (∀ H', Same H H' → R (keep x) H') → tt ((wipe σ vs).set j (some x)) H R)
    (item : ∀ (i : Nat) (x : V) (H : Hp) (R : V → Hp → Prop), xs[i]? = some x → keep x = true → Same H1 H → (∀ H', Same H H' → R (f x) H') → te ((wipe σ vs).set j (some x)) H R)
    (hd : ∀ H', Same H1 H' → H' D = some (.lst ((xs.filter keep).map f)) → Qd H') :
    ∃ W : Nat → Nat → Hp → Prop, (∃ m, W 0 m (upd H1 D (.lst []))) ∧ ∀ i m H, W i m H →
      ((Itl K a).stop i H ∧ Qd H) ∨ ((Itl K a).go i H ∧ ∃ Nx : Hp → Prop, (∀ H', Nx H' → ∃ m', m' < m ∧ W (i + 1) m' H') ∧ ∀ x H', (Itl K a).yld i H x H' → gName j x (wipe σ vs) H' fun σ2 H2 => wipe σ2 vs = wipe σ vs ∧ tt σ2 H2 fun b H3 =>
        if b = true then te σ2 H3 fun y H4 => ∃ acc, H4 D = some (.lst acc) ∧ acc.length < sizeLine ∧ Nx (upd H4 D (.lst (acc ++ [y]))) else Nx H3) :=
  lcG_list (G := fun x y _ => y = f x) nD hs hz hw (fun _ _ _ _ _ h => h) (fun _ _ _ _ _ _ h => h) test (fun i x H R hx k sm r => item i x H R hx k sm fun H' s => r _ _ s rfl) fun ys H' al sm h => hd H' sm (by rw [← al.eq_map]; exact h)
theorem lcF_tup {K : PySem.W.Frag} {a : Addr} (f : V → V) (nD : H1 D = none) (hs : SqT K H1 a xs) (hz : xs.length ≤ sizeLine) (hw : ∀ x, wipe ((wipe σ vs).set j (some x)) vs = wipe σ vs)
    (test : ∀ (i : Nat) (x : V) (H : Hp) (R : Bool → Hp → Prop), xs[i]? = some x → Same H1 H → (∀ H', Same H H' → R (keep x) H') → tt ((wipe σ vs).set j (some x)) H R)
    (item : ∀ (i : Nat) (x : V) (H : Hp) (R : V → Hp → Prop), xs[i]? = some x → keep x = true → Same H1 H → (∀ H', Same H H' → R (f x) H') → te ((wipe σ vs).set j (some x)) H R)
    (hd : ∀ H', Same H1 H' → H' D = some (.lst ((xs.filter keep).map f)) → Qd H') :
    ∃ W : Nat → Nat → Hp → Prop, (∃ m, W 0 m (upd H1 D (.lst []))) ∧ ∀ i m H, W i m H →
      ((Itt K a).stop i H ∧ Qd H) ∨ ((Itt K a).go i H ∧ ∃ Nx : Hp → Prop, (∀ H', Nx H' → ∃ m', m' < m ∧ W (i + 1) m' H') ∧ ∀ x H', (Itt K a).yld i H x H' → gName j x (wipe σ vs) H' fun σ2 H2 => wipe σ2 vs = wipe σ vs ∧ tt σ2 H2 fun b H3 =>
        if b = true then te σ2 H3 fun y H4 => ∃ acc, H4 D = some (.lst acc) ∧ acc.length < sizeLine ∧ Nx (upd H4 D (.lst (acc ++ [y]))) else Nx H3) :=
  lcG_tup (G := fun x y _ => y = f x) nD hs hz hw (fun _ _ _ _ _ h => h) (fun _ _ _ _ _ _ h => h) test (fun i x H R hx k sm r => item i x H R hx k sm fun H' s => r _ _ s rfl) fun ys H' al sm h => hd H' sm (by rw [← al.eq_map]; exact h)
end
/-! ### the same over a row that is known by another one -/
section
variable {α : Type} {es : List α} {xs : List V} {keep : α → Bool} {G : α → V → Hp → Prop} {tt : TT} {te : TE} {vs : List Nat} {σ : L2.St} {H1 : Hp} {D : Addr} {j : Nat} {Qd : Hp → Prop}
def LcE (es : List α) (keep : α → Bool) (G : α → V → Hp → Prop) (H1 : Hp) (D : Addr) (i : Nat) (H : Hp) : Prop := Same H1 H ∧ ∃ ys, H D = some (.lst ys) ∧ Al2 (fun e y => G e y H) ((es.take i).filter keep) ys
theorem lce_step (lx : es.length = xs.length) (nD : H1 D = none) (hz : xs.length ≤ sizeLine) (gk : ∀ e y H H', Same H H' → G e y H → G e y H') (gu : ∀ e y H ys zs, e ∈ es → H D = some (.lst ys) → G e y H → G e y (upd H D (.lst zs)))
    (test : ∀ (i : Nat) (e : α) (x : V) (H : Hp) (R : Bool → Hp → Prop), es[i]? = some e → xs[i]? = some x → Same H1 H → (∀ H', Same H H' → R (keep e) H') → tt ((wipe σ vs).set j (some x)) H R)
    (item : ∀ (i : Nat) (e : α) (x : V) (H : Hp) (R : V → Hp → Prop), es[i]? = some e → xs[i]? = some x → keep e = true → Same H1 H → (∀ y H', Same H H' → G e y H' → R y H') → te ((wipe σ vs).set j (some x)) H R)
    {i : Nat} {x : V} {H : Hp} (hx : xs[i]? = some x) (p : LcE es keep G H1 D i H) : tt ((wipe σ vs).set j (some x)) H fun b H3 =>
      if b = true then te ((wipe σ vs).set j (some x)) H3 fun y H4 => ∃ acc, H4 D = some (.lst acc) ∧ acc.length < sizeLine ∧ LcE es keep G H1 D (i + 1) (upd H4 D (.lst (acc ++ [y]))) else LcE es keep G H1 D (i + 1) H3 := by
  have hi : i < xs.length := (List.getElem?_eq_some_iff.mp hx).1
  obtain ⟨e, he⟩ : ∃ e, es[i]? = some e := ⟨_, List.getElem?_eq_getElem (by omega)⟩
  obtain ⟨sm, ys, hD, al⟩ := p
  refine test i e x H _ he hx sm fun H3 s3 => ?_
  by_cases k : keep e = true
  · rw [if_pos k]
    refine item i e x H3 _ he hx k (sm.trans s3) fun y H4 s4 gy => ⟨ys, s4 _ _ (s3 _ _ hD), ?_, ?_, ys ++ [y], upd_same, ?_⟩
    · have := al.length
      have l2 := List.length_filter_le keep (es.take i)
      rw [List.length_take] at l2
      omega
    · exact (sm.trans (s3.trans s4)).over nD (.lst (s4 _ _ (s3 _ _ hD)))
    · rw [take_filter keep he, if_pos k]
      have hD4 := s4 _ _ (s3 _ _ hD)
      have mem : ∀ u ∈ (es.take i).filter keep, u ∈ es := fun u hu => (List.take_sublist _ _).mem (List.mem_filter.mp hu).1
      have al2 : Al2 (fun u v => G u v (upd H4 D (.lst (ys ++ [y])))) ((es.take i).filter keep) ys := by
        clear hi he
        revert mem
        generalize (es.take i).filter keep = us at al
        intro mem
        have go : ∀ {us : List α} {ys' : List V}, Al2 (fun e y => G e y H) us ys' → (∀ u ∈ us, u ∈ es) → Al2 (fun u v => G u v (upd H4 D (.lst (ys ++ [y])))) us ys' := by
          intro us ys' al
          induction al with
          | nil => exact fun _ => .nil
          | cons h _ ih => exact fun mem => .cons (gu _ _ _ _ _ (mem _ (by simp)) hD4 (gk _ _ _ _ (s3.trans s4) h)) (ih fun u hu => mem u (List.mem_cons_of_mem _ hu))
        exact go al mem
      exact Al2.snoc (R := fun u v => G u v (upd H4 D (.lst (ys ++ [y])))) (gu _ _ _ _ _ (List.mem_of_getElem? he) hD4 gy) al2
  · rw [if_neg k]
    refine ⟨sm.trans s3, ys, s3 _ _ hD, ?_⟩
    rw [take_filter keep he, if_neg k, List.append_nil]
    exact al.mono fun u v g => gk _ _ _ _ s3 g
theorem lcE_list {K : PySem.W.Frag} {a : Addr} (lx : es.length = xs.length) (nD : H1 D = none) (hs : SqL K H1 a xs) (hz : xs.length ≤ sizeLine) (hw : ∀ x, wipe ((wipe σ vs).set j (some x)) vs = wipe σ vs)
    (gk : ∀ e y H H', Same H H' → G e y H → G e y H') (gu : ∀ e y H ys zs, e ∈ es → H D = some (.lst ys) → G e y H → G e y (upd H D (.lst zs)))
    (test : ∀ (i : Nat) (e : α) (x : V) (H : Hp) (R : Bool → Hp → Prop), es[i]? = some e → xs[i]? = some x → Same H1 H → (∀ H', Same H H' → R (keep e) H') → tt ((wipe σ vs).set j (some x)) H R)
    (item : ∀ (i : Nat) (e : α) (x : V) (H : Hp) (R : V → Hp → Prop), es[i]? = some e → xs[i]? = some x → keep e = true → Same H1 H → (∀ y H', Same H H' → G e y H' → R y H') → te ((wipe σ vs).set j (some x)) H R)
    (hd : ∀ ys H', Al2 (fun e y => G e y H') (es.filter keep) ys → Same H1 H' → H' D = some (.lst ys) → Qd H') :
    ∃ W : Nat → Nat → Hp → Prop, (∃ m, W 0 m (upd H1 D (.lst []))) ∧ ∀ i m H, W i m H →
      ((Itl K a).stop i H ∧ Qd H) ∨ ((Itl K a).go i H ∧ ∃ Nx : Hp → Prop, (∀ H', Nx H' → ∃ m', m' < m ∧ W (i + 1) m' H') ∧ ∀ x H', (Itl K a).yld i H x H' → gName j x (wipe σ vs) H' fun σ2 H2 => wipe σ2 vs = wipe σ vs ∧ tt σ2 H2 fun b H3 =>
        if b = true then te σ2 H3 fun y H4 => ∃ acc, H4 D = some (.lst acc) ∧ acc.length < sizeLine ∧ Nx (upd H4 D (.lst (acc ++ [y]))) else Nx H3) := by
  refine lc_list (xs := xs) (LcE es keep G H1 D) ⟨grow nD, [], upd_same, .nil⟩ (fun i H _ p => p.1.seq hs) (fun i x H hx p => ⟨hw x, lce_step lx nD hz gk gu test item hx p⟩) (fun H p => ?_)
  obtain ⟨sm, ys, hD, al⟩ := p
  rw [← lx, List.take_length] at al
  exact hd ys H al sm hD
theorem lcE_tup {K : PySem.W.Frag} {a : Addr} (lx : es.length = xs.length) (nD : H1 D = none) (hs : SqT K H1 a xs) (hz : xs.length ≤ sizeLine) (hw : ∀ x, wipe ((wipe σ vs).set j (some x)) vs = wipe σ vs)
    (gk : ∀ e y H H', Same H H' → G e y H → G e y H') (gu : ∀ e y H ys zs, e ∈ es → H D = some (.lst ys) → G e y H → G e y (upd H D (.lst zs)))
    (test : ∀ (i : Nat) (e : α) (x : V) (H : Hp) (R : Bool → Hp → Prop), es[i]? = some e → xs[i]? = some x → Same H1 H → (∀ H', Same H H' → R (keep e) H') → tt ((wipe σ vs).set j (some x)) H R)
    (item : ∀ (i : Nat) (e : α) (x : V) (H : Hp) (R : V → Hp → Prop), es[i]? = some e → xs[i]? = some x → keep e = true → Same H1 H → (∀ y H', Same H H' → G e y H' → R y H') → te ((wipe σ vs).set j (some x)) H R)
    (hd : ∀ ys H', Al2 (fun e y => G e y H') (es.filter keep) ys → Same H1 H' → H' D = some (.lst ys) → Qd H') :
    ∃ W : Nat → Nat → Hp → Prop, (∃ m, W 0 m (upd H1 D (.lst []))) ∧ ∀ i m H, W i m H →
      ((Itt K a).stop i H ∧ Qd H) ∨ ((Itt K a).go i H ∧ ∃ Nx : Hp → Prop, (∀ H', Nx H' → ∃ m', m' < m ∧ W (i + 1) m' H') ∧ ∀ x H', (Itt K a).yld i H x H' → gName j x (wipe σ vs) H' fun σ2 H2 => wipe σ2 vs = wipe σ vs ∧ tt σ2 H2 fun b H3 =>
        if b = true then te σ2 H3 fun y H4 => ∃ acc, H4 D = some (.lst acc) ∧ acc.length < sizeLine ∧ Nx (upd H4 D (.lst (acc ++ [y]))) else Nx H3) := by
  refine lc_tup (xs := xs) (LcE es keep G H1 D) ⟨grow nD, [], upd_same, .nil⟩ (fun i H _ p => keepT p.1 hs) (fun i x H hx p => ⟨hw x, lce_step lx nD hz gk gu test item hx p⟩) (fun H p => ?_)
  obtain ⟨sm, ys, hD, al⟩ := p
  rw [← lx, List.take_length] at al
  exact hd ys H al sm hD
end
theorem Al2.at {α β : Type} {R : α → β → Prop} : ∀ {xs : List α} {ys : List β} {i : Nat} {x : α} {y : β}, Al2 R xs ys → xs[i]? = some x → ys[i]? = some y → R x y
  | _, _, _, _, _, .nil, h, _ => by cases h
  | _, _, 0, _, _, .cons h hs, e, k => by cases e; cases k; exact h
  | _, _, i + 1, _, _, .cons h hs, e, k => hs.at (i := i) e k
end Fc

namespace Fc
open PySem PySem.Spec L2 PyProof.Rows
variable [LamNames]
theorem t_by {c : TT} {σ : L2.St} {H : Hp} {Q : Bool → Hp → Prop} (PX PY : Prop) (hX : PX → Q true H) (hY : PY → Q false H) (hc : (∀ k : Bool, (k = true → PX) → (k = false → PY) → Q k H) → c σ H Q) : c σ H Q := hc fun k hx hy => by
  cases k with
  | true => exact hX (hx rfl)
  | false => exact hY (hy rfl)
theorem te_by {t : TE} {σ : L2.St} {H : Hp} {Q : VK} (P : V → Hp → Prop) (hQ : ∀ v H', P v H' → Q v H') (h : (∀ v H', P v H' → Q v H') → t σ H Q) : t σ H Q := h hQ
/-! ### the program's clean: told or refused -/
def OutC (K : PySem.W.Frag) (cB cL : Addr) (H : Hp) (Q : VK) (E : XK) : CRes → Prop
  | .bad => ∀ H', Same H H' → E (.ref cB) none H'
  | .out => ∀ H', Same H H' → E (.ref cL) none H'
  | .ok ps => ∀ H', Same H H' → Q (T (pathOf ps)) H'
def spCln (K : PySem.W.Frag) (cB cL : Addr) : Sp := fun vs H Q E => ∃ l : List Nat, vs = [T l] ∧ l.length ≤ 1000 ∧ OutC K cB cL H Q E (cleanF l)
theorem pathOf_len {ps : List (List Nat)} (h : PathOk ps) : (pathOf ps).length ≤ 104 := by
  have := joinC_len 47 ps 12 fun p hp => (h.2.2 p hp).2.1
  have l8 := h.2.1
  unfold pathOf
  omega
/-! ### the way from a folder to a path -/
def strip : List (List Nat) → List (List Nat) → List (List Nat) × List (List Nat)
  | p :: ps, q :: qs => if p = q then strip ps qs else (p :: ps, q :: qs)
  | ps, qs => (ps, qs)
theorem strip_spec : ∀ (fs gs : List (List Nat)), ∃ c, fs = c ++ (strip fs gs).1 ∧ gs = c ++ (strip fs gs).2
  | [], gs => ⟨[], by simp [strip], by simp [strip]⟩
  | p :: ps, [] => ⟨[], by simp [strip], by simp [strip]⟩
  | p :: ps, q :: qs => by
    rw [strip]
    by_cases z : p = q
    · rw [if_pos z]
      obtain ⟨c, e1, e2⟩ := strip_spec ps qs
      exact ⟨p :: c, by rw [List.cons_append, ← e1], by rw [List.cons_append, ← e2, z]⟩
    · rw [if_neg z]
      exact ⟨[], rfl, rfl⟩
def dots : List Nat := [46, 46]
def wayP (a b : List (List Nat)) : List (List Nat) := a.map (fun _ => dots) ++ b
def wayTo (a b : List (List Nat)) : List Nat := if wayP a b = [] then [46] else joinC 47 (wayP a b)
def wayT (fs gs : List (List Nat)) : List Nat := wayTo (strip fs gs).1 (strip fs gs).2
theorem pops (r : List (List Nat)) : ∀ (n : Nat) (k : List (List Nat)), n ≤ k.length → walkC (List.replicate n dots ++ r) k = walkC r (k.take (k.length - n))
  | 0, k, _ => by simp
  | n + 1, k, h => by
    have k0 : k ≠ [] := fun e => by rw [e] at h; simp at h
    rw [List.replicate_succ, List.cons_append, walkC, if_pos (show dots = [46, 46] from rfl), if_neg k0, pops r n k.dropLast (by rw [List.length_dropLast]; omega), List.length_dropLast, List.dropLast_eq_take, List.take_take]
    congr 2
    omega
def FolOk (fs : List (List Nat)) : Prop := fs = [] ∨ PathOk fs
theorem FolOk.parts {fs : List (List Nat)} (h : FolOk fs) : ∀ p ∈ fs, partOk p := by
  rcases h with rfl | h
  · intro p hp; cases hp
  · exact h.2.2
theorem wayP_stroke {a b : List (List Nat)} (hb : ∀ p ∈ b, partOk p) : ∀ p ∈ wayP a b, 47 ∉ p := by
  intro p hp
  rcases List.mem_append.mp hp with hp | hp
  · obtain ⟨q, _, rfl⟩ := List.mem_map.mp hp
    decide
  · exact no_stroke (hb p hp)
theorem walk_way {fs gs : List (List Nat)} (hf : ∀ p ∈ fs, partOk p) (hg : PathOk gs) : walkC (fs ++ splitC 47 (wayT fs gs)) [] = .ok gs := by
  obtain ⟨c, e1, e2⟩ := strip_spec fs gs
  rw [walkC_parts fs [] _ hf, List.nil_append]
  unfold wayT wayTo
  generalize (strip fs gs).1 = a at e1 e2
  generalize (strip fs gs).2 = b at e1 e2
  have hb : ∀ p ∈ b, partOk p := fun p hp => hg.2.2 p (by rw [e2]; exact List.mem_append_right _ hp)
  have fin : walkC [] gs = .ok gs := by
    rw [walkC, if_neg fun z => by rcases z with z | z; exact hg.1 z; exact absurd hg.2.1 (by omega)]
  by_cases z : wayP a b = []
  · rw [if_pos z]
    unfold wayP at z
    rw [List.append_eq_nil_iff, List.map_eq_nil_iff] at z
    rw [z.1, List.append_nil] at e1
    rw [z.2, List.append_nil] at e2
    rw [show splitC 47 [46] = [[46]] by decide, walkC, if_neg (by decide), if_pos (.inr rfl), e1, ← e2]
    exact fin
  · rw [if_neg z, split_joinC 47 z (wayP_stroke hb)]
    unfold wayP
    rw [List.map_const', pops _ _ _ (by rw [e1, List.length_append]; omega), e1, List.length_append, Nat.add_sub_cancel, List.take_left]
    have w := walkC_parts b c [] hb
    rw [List.append_nil] at w
    rw [w, ← e2]
    exact fin
theorem join_ne {ws : List (List Nat)} (h : ws ≠ []) (hp : ∀ p ∈ ws, p ≠ []) : joinC 47 ws ≠ [] := by
  cases ws with
  | nil => exact absurd rfl h
  | cons p r =>
    have p0 := hp p (by simp)
    cases p with
    | nil => exact absurd rfl p0
    | cons c q =>
      cases r with
      | nil =>
        show (c :: q) ≠ []
        simp
      | cons p2 r2 =>
        show (c :: q) ++ ([47] ++ TL.joinL [47] (p2 :: r2)) ≠ []
        simp
theorem part_ne {p : List Nat} (h : partOk p) : p ≠ [] := fun e => by
  rw [e] at h
  exact absurd h.1 (by decide)
theorem wayP_ne {a b : List (List Nat)} (hb : ∀ p ∈ b, partOk p) : ∀ p ∈ wayP a b, p ≠ [] := by
  intro p hp
  rcases List.mem_append.mp hp with hp | hp
  · obtain ⟨q, _, rfl⟩ := List.mem_map.mp hp
    decide
  · exact part_ne (hb p hp)
theorem pathOf_ne {ps : List (List Nat)} (h : PathOk ps) : pathOf ps ≠ [] := join_ne h.1 fun p hp => part_ne (h.2.2 p hp)
/-- from the top -/
theorem clean_top {gs : List (List Nat)} (hg : PathOk gs) : cleanF (wayT [] gs) = .ok gs := by
  have e : wayT [] gs = pathOf gs := by
    unfold wayT wayTo wayP
    cases gs with
    | nil => exact absurd rfl hg.1
    | cons p r => rfl
  rw [e, clean_path hg]
/-- from a folder -/
theorem clean_way {fs gs : List (List Nat)} (hf : PathOk fs) (hg : PathOk gs) : cleanF (pathOf fs ++ [47] ++ wayT fs gs) = .ok gs := by
  have hd : (pathOf fs ++ [47] ++ wayT fs gs).head? ≠ some 47 := by
    have := head_join hf
    have ne := pathOf_ne hf
    cases e : pathOf fs with
    | nil => exact absurd e ne
    | cons c q =>
      rw [e] at this
      simpa using this
  unfold cleanF
  rw [if_neg hd, List.append_assoc]
  show walkC (splitC 47 (pathOf fs ++ 47 :: wayT fs gs)) [] = _
  rw [splitC_app, split_path hf]
  exact walk_way hf.2.2 hg
theorem split_fol {fs : List (List Nat)} (h : FolOk fs) : (splitC 47 (pathOf fs)).filter (fun p => decide (p ≠ [])) = fs := by
  rcases h with rfl | h
  · rfl
  · rw [split_path h]
    exact List.filter_eq_self.mpr fun p hp => decide_eq_true (part_ne (h.2.2 p hp))
theorem wayT_len {fs gs : List (List Nat)} (hf : FolOk fs) (hg : PathOk gs) : (wayT fs gs).length ≤ 300 := by
  obtain ⟨c, e1, e2⟩ := strip_spec fs gs
  unfold wayT wayTo
  generalize (strip fs gs).1 = a at e1 e2
  generalize (strip fs gs).2 = b at e1 e2
  have hb : ∀ p ∈ b, partOk p := fun p hp => hg.2.2 p (by rw [e2]; exact List.mem_append_right _ hp)
  have la : a.length ≤ 8 := by
    have : fs.length ≤ 8 := by
      rcases hf with rfl | h
      · simp
      · exact h.2.1
    rw [e1, List.length_append] at this
    omega
  have lb : b.length ≤ 8 := by
    have := hg.2.1
    rw [e2, List.length_append] at this
    omega
  split
  · simp
  · have := joinC_len 47 (wayP a b) 12 fun p hp => by
      rcases List.mem_append.mp hp with hp | hp
      · obtain ⟨q, _, rfl⟩ := List.mem_map.mp hp
        decide
      · exact (hb p hp).2.1
    have l2 : (wayP a b).length = a.length + b.length := by
      unfold wayP
      rw [List.length_append, List.length_map]
    omega
end Fc

namespace Fc
open PySem PySem.Spec L2 PyProof.Rows
variable [LamNames]
/-! ### rows of deeds -/
def Byt (S : List Int) : Prop := ∀ x ∈ S, 0 ≤ x ∧ x < 256
theorem Byt.nil : Byt [] := fun x hx => by cases hx
theorem Byt.app {A B : List Int} (a : Byt A) (b : Byt B) : Byt (A ++ B) := fun x hx => by
  rcases List.mem_append.mp hx with h | h
  · exact a x h
  · exact b x h
theorem Byt.take {A : List Int} (a : Byt A) (k : Nat) : Byt (A.take k) := fun x hx => a x (List.mem_of_mem_take hx)
theorem Byt.drop {A : List Int} (a : Byt A) (k : Nat) : Byt (A.drop k) := fun x hx => a x (List.mem_of_mem_drop hx)
theorem Byt.one {x : Int} (h : 0 ≤ x ∧ x < 256) : Byt [x] := fun y hy => by
  rw [List.mem_singleton.mp hy]
  exact h
theorem Byt.rep {A : List Int} (a : Byt A) (k : Nat) : Byt (List.replicate k A).flatten := fun x hx => by
  obtain ⟨l, hl, hx'⟩ := List.mem_flatten.mp hx
  rw [(List.mem_replicate.mp hl).2] at hx'
  exact a x hx'
def moreB (far : Nat) (B : List Int) : List Int := B ++ [B.getD (B.length - far) 0]
def copyB : Nat → Nat → List Int → List Int
  | 0, _, B => B
  | k + 1, far, B => copyB k far (moreB far B)
theorem copyB_succ : ∀ (k far : Nat) (B : List Int), copyB (k + 1) far B = moreB far (copyB k far B)
  | 0, _, _ => rfl
  | k + 1, far, B => by
    show copyB (k + 1) far (moreB far B) = moreB far (copyB k far (moreB far B))
    exact copyB_succ k far (moreB far B)
theorem copyB_len : ∀ (k far : Nat) (B : List Int), (copyB k far B).length = B.length + k
  | 0, _, _ => rfl
  | k + 1, far, B => by
    show (copyB k far (moreB far B)).length = _
    rw [copyB_len k far, moreB, List.length_append]
    show B.length + 1 + k = B.length + (k + 1)
    omega
theorem moreB_byt {far : Nat} {B : List Int} (b : Byt B) (h : 0 < far) (h2 : far ≤ B.length) : Byt (moreB far B) := by
  refine b.app (Byt.one ?_)
  have lt : B.length - far < B.length := by omega
  rw [List.getD_eq_getElem?_getD, List.getElem?_eq_getElem lt]
  exact b _ (List.getElem_mem lt)
theorem copyB_byt {far : Nat} (h : 0 < far) : ∀ (k : Nat) {B : List Int}, Byt B → far ≤ B.length → Byt (copyB k far B)
  | 0, _, b, _ => b
  | k + 1, B, b, h2 => copyB_byt h k (moreB_byt b h h2) (by
    rw [moreB, List.length_append]
    omega)
def deedsF : Nat → List Int → List Int → Option (List Int)
  | _, [], B => if B.length ≤ 1000 then some B else none
  | 0, _ :: _, _ => none
  | f + 1, n :: r, B => if n ≤ 127 then (if r.length < (n + 1).toNat then none else deedsF f (r.drop (n + 1).toNat) (B ++ r.take (n + 1).toNat))
    else if r = [] then none else if (B.length : Int) ≤ r.headD 0 then none else deedsF f (r.drop 1) (copyB (n - 125).toNat (r.headD 0 + 1).toNat B)
def backF (S : List Int) : Option (List Int) := deedsF S.length S []
theorem deedsF_end {f : Nat} {B : List Int} : deedsF f [] B = if B.length ≤ 1000 then some B else none := by
  cases f <;> rfl
theorem deedsF_lit {f : Nat} {n : Int} {r B : List Int} (h : n ≤ 127) : deedsF (f + 1) (n :: r) B = if r.length < (n + 1).toNat then none else deedsF f (r.drop (n + 1).toNat) (B ++ r.take (n + 1).toNat) := by
  rw [deedsF, if_pos h]
theorem deedsF_back {f : Nat} {n d : Int} {r B : List Int} (h : ¬ n ≤ 127) : deedsF (f + 1) (n :: d :: r) B = if (B.length : Int) ≤ d then none else deedsF f r (copyB (n - 125).toNat (d + 1).toNat B) := by
  rw [deedsF, if_neg h, if_neg (List.cons_ne_nil d r)]
  rfl
theorem deedsF_cut {f : Nat} {n : Int} {B : List Int} (h : ¬ n ≤ 127) : deedsF (f + 1) [n] B = none := by
  rw [deedsF, if_neg h, if_pos rfl]
/-- a body, or None -/
def ShowsO (K : PySem.W.Frag) (H : Hp) (v : V) : Option (List Int) → Prop
  | none => v = .non
  | some B => ∃ t, v = .ref t ∧ SqT K H t (B.map V.int)
def unpF (k : Nat) (S : List Int) : Option (List Int) := if k = 0 then (if S.length ≤ 1000 then some S else none) else backF S
/-- a body, or a text -/
def ShowsR (K : PySem.W.Frag) (H : Hp) (v : V) : Option (List Int) → Prop
  | none => v = .str "refused"
  | some B => ∃ t, v = .ref t ∧ SqT K H t (B.map V.int)
/-- a def that tells a body or raises -/
def OutU (K : PySem.W.Frag) (cB : Addr) (H : Hp) (Q : VK) (E : XK) : Option (List Int) → Prop
  | none => ∀ H', Same H H' → E (.ref cB) none H'
  | some B => Tups K H (B.map V.int) Q
def spUnp (K : PySem.W.Frag) (cB : Addr) : Sp := fun vs H Q E => ∃ (k : Nat) (p : Addr) (S : List Int), vs = [.int (k : Int), .ref p] ∧ k ≤ 1 ∧ SqT K H p (S.map V.int) ∧ Byt S ∧ S.length ≤ 20000 ∧ OutU K cB H Q E (unpF k S)
theorem copy_alike (x : Int) : ∀ (k m : Nat), 0 < m → copyB k 1 (List.replicate m x) = List.replicate (m + k) x
  | 0, m, _ => rfl
  | k + 1, m, h => by
    show copyB k 1 (moreB 1 (List.replicate m x)) = _
    have e : moreB 1 (List.replicate m x) = List.replicate (m + 1) x := by
      unfold moreB
      rw [List.length_replicate, List.getD_eq_getElem?_getD, List.getElem?_replicate, if_pos (by omega), List.replicate_succ']
      rfl
    rw [e, copy_alike x k (m + 1) (by omega), show m + 1 + k = m + (k + 1) by omega]
theorem far_all (x : Int) : ∀ (n f m : Nat), 0 < m → n ≤ f → deedsF f (List.replicate n ([255, 0] : List Int)).flatten (List.replicate m x) = if m + 130 * n ≤ 1000 then some (List.replicate (m + 130 * n) x) else none
  | 0, f, m, _, _ => by
    show deedsF f [] _ = _
    rw [deedsF_end, List.length_replicate]
    rfl
  | n + 1, f, m, h, hf => by
    obtain ⟨g, rfl⟩ : ∃ g, f = g + 1 := ⟨f - 1, by omega⟩
    rw [List.replicate_succ, List.flatten_cons]
    show deedsF (g + 1) (255 :: 0 :: (List.replicate n ([255, 0] : List Int)).flatten) _ = _
    rw [deedsF_back (by decide), List.length_replicate, if_neg (by omega)]
    show deedsF g _ (copyB 130 1 (List.replicate m x)) = _
    rw [copy_alike x 130 m h, far_all x n g (m + 130) (by omega) (by omega), show m + 130 + 130 * n = m + 130 * (n + 1) by omega]
theorem far_begin (x : Int) (n : Nat) : backF ([0, x] ++ (List.replicate n ([255, 0] : List Int)).flatten) = if 1 + 130 * n ≤ 1000 then some (List.replicate (1 + 130 * n) x) else none := by
  unfold backF
  show deedsF ((x :: (List.replicate n ([255, 0] : List Int)).flatten).length + 1) (0 :: x :: (List.replicate n ([255, 0] : List Int)).flatten) [] = _
  rw [deedsF_lit (by decide), if_neg (by rw [List.length_cons]; show ¬ _ < 1; omega)]
  show deedsF _ (List.replicate n ([255, 0] : List Int)).flatten (List.replicate 1 x) = _
  rw [far_all x n _ 1 (by decide)]
  rw [List.length_cons, PyProof.Rows.lm_len_rep_flat]
  show n ≤ n * 2 + 1
  omega
end Fc

namespace Fc
open PySem PySem.Spec L2 PyProof.Rows
variable [LamNames]
theorem hu1 {k : Nat} {A : Around} (r : Room k A) : A.units + 1 < cLine := Nat.lt_of_le_of_lt (by omega) r.units
/-! ### data stays where a list or a dict is written -/
def Wr (H : Hp) (p : Addr) : Prop := (∃ xs, H p = some (.lst xs)) ∨ ∃ kvs, H p = some (.dK kvs)
theorem Wr.nc {H : Hp} {p : Addr} (h : Wr H p) : NC (H p) := by
  rcases h with ⟨xs, h⟩ | ⟨kvs, h⟩ <;> (rw [h]; trivial)
theorem Wr.lst {H : Hp} {p : Addr} {xs : List V} (h : H p = some (.lst xs)) : Wr H p := .inl ⟨xs, h⟩
theorem Wr.dK {H : Hp} {p : Addr} {kvs : List (Key × V)} (h : H p = some (.dK kvs)) : Wr H p := .inr ⟨kvs, h⟩
theorem overT {K : PySem.W.Frag} {H : Hp} {p t : Addr} {xs : List V} {o : HO} (e : Wr H p) (h : SqT K H t xs) : SqT K (upd H p o) t xs := by
  have ne : ∀ {u : HO}, H t = some u → (∀ xs, u ≠ .lst xs) → (∀ kvs, u ≠ .dK kvs) → t ≠ p := by
    intro u hu n1 n2 z
    rw [z] at hu
    rcases e with ⟨ys, e⟩ | ⟨kvs, e⟩
    · rw [e] at hu
      exact n1 ys (Option.some.inj hu).symm
    · rw [e] at hu
      exact n2 kvs (Option.some.inj hu).symm
  rcases h with (h | ⟨o2, h⟩) | h
  · refine .inl (.inl ?_)
    rw [upd_ne (ne h (fun _ => nofun) (fun _ => nofun))]
    exact h
  · refine .inl (.inr ⟨o2, ?_⟩)
    rw [upd_ne (ne h (fun _ => nofun) (fun _ => nofun))]
    exact h
  · exact .inr h
mutual
theorem dpOver {K : PySem.W.Frag} {H : Hp} {p : Addr} {o : HO} (e : Wr H p) : ∀ {d : PyData} {v : V}, tupsOnly d = true → Dp K H v d → Dp K (upd H p o) v d
  | .none, _, _, .non => .non
  | .bool _, _, _, .bl b => .bl b
  | .int _, _, _, .int i => .int i
  | .str _, _, _, .str x => .str x
  | .list _, _, ok, _ => by cases ok
  | .tuple ds, _, ok, .tup h hs => .tup (overT e h) (dpOverAll e (by rw [tupsOnly, Bool.and_eq_true] at ok; exact ok.2) hs)
theorem dpOverAll {K : PySem.W.Frag} {H : Hp} {p : Addr} {o : HO} (e : Wr H p) : ∀ {ds : List PyData} {vs : List V}, tupsAll ds = true → DpAll K H vs ds → DpAll K (upd H p o) vs ds
  | [], _, _, .nil => .nil
  | d :: r, _, ok, .cons h hs => .cons (dpOver e (by rw [tupsAll, Bool.and_eq_true] at ok; exact ok.1) h) (dpOverAll e (by rw [tupsAll, Bool.and_eq_true] at ok; exact ok.2) hs)
end
theorem keep_new {H H' : Hp} {p : Addr} {o : HO} (e : Same H H') (n : H p = none) (nc : NC (H' p) := by first | exact NC.of (by assumption) (by trivial) | exact Wr.nc (by assumption)) : Same H (upd H' p o) := e.over n nc
/-! ### entries and trees -/
inductive Ent where
  | folder (t : List Nat)
  | file (t : List Nat) (b : List Int)
  | link (t : List Nat) (g : List Nat)
deriving DecidableEq
def Ent.path : Ent → List Nat
  | .folder t => t
  | .file t _ => t
  | .link t _ => t
def Ent.isFolder : Ent → Bool
  | .folder _ => true
  | _ => false
def sd (x : String) : PyData := .str (Str.ofString x)
def td (l : List Nat) : PyData := .str (mkS l)
def dEnt : Ent → PyData
  | .folder t => .tuple [sd "folder", td t]
  | .file t b => .tuple [sd "file", td t, dInts b]
  | .link t g => .tuple [sd "link", td t, td g]
def PathT (t : List Nat) : Prop := PathOk (splitC 47 t)
def aboveT (t : List Nat) : List (List Nat) := aboveF (splitC 47 t)
def GoalT (g : List Nat) : Prop := (splitC 47 g).length ≤ 8 ∧ ∀ p ∈ splitC 47 g, p = dots ∨ partOk p
def EntOk : Ent → Prop
  | .folder t => PathT t
  | .file t b => PathT t ∧ Byt b ∧ b.length ≤ 1000
  | .link t g => PathT t ∧ GoalT g
def dTree (es : List Ent) : PyData := .tuple (es.map dEnt)
structure TreeOk (es : List Ent) : Prop where
  ok : ∀ e ∈ es, EntOk e
  rise : es.Pairwise fun a b => a.path < b.path
  up : ∀ e ∈ es, ∀ a ∈ aboveT e.path, Ent.folder a ∈ es
  few : es.length ≤ 100
theorem EntOk.path {e : Ent} (h : EntOk e) : PathT e.path := by
  cases e with
  | folder t => exact h
  | file t b => exact h.1
  | link t g => exact h.1
theorem EntOk.small {e : Ent} (h : EntOk e) : ∀ t b, e = .file t b → b.length ≤ 1000 := by
  intro t b z
  rw [z] at h
  exact h.2.2
theorem join_split (c : Nat) : ∀ l : List Nat, joinC c (splitC c l) = l
  | [] => rfl
  | x :: r => by
    have ih := join_split c r
    rw [splitC]
    cases e : splitC c r with
    | nil => exact absurd e (splitC_ne c r)
    | cons p ps =>
      rw [e] at ih
      by_cases z : x = c
      · rw [if_pos z]
        have : joinC c ([] :: p :: ps) = c :: joinC c (p :: ps) := by
          show ([] : List Nat) ++ ([c] ++ TL.joinL [c] (p :: ps)) = _
          rfl
        rw [this, ih, z]
      · rw [if_neg z]
        cases ps with
        | nil =>
          have e1 : joinC c [p] = p := rfl
          rw [e1] at ih
          show x :: p = _
          rw [ih]
        | cons p2 ps2 =>
          have e1 : joinC c (p :: p2 :: ps2) = p ++ ([c] ++ TL.joinL [c] (p2 :: ps2)) := rfl
          rw [e1] at ih
          show (x :: p) ++ ([c] ++ TL.joinL [c] (p2 :: ps2)) = _
          rw [List.cons_append, ih]
theorem pathOf_parts (t : List Nat) : pathOf (splitC 47 t) = t := join_split 47 t
theorem PathT.of {ps : List (List Nat)} (h : PathOk ps) : PathT (pathOf ps) := by
  unfold PathT
  rw [split_path h]
  exact h
theorem aboveT_of {ps : List (List Nat)} (h : PathOk ps) : aboveT (pathOf ps) = aboveF ps := by
  unfold aboveT
  rw [split_path h]
theorem PathT.len {t : List Nat} (h : PathT t) : t.length ≤ 104 := by
  have := pathOf_len h
  rw [pathOf_parts] at this
  exact this
theorem PathT.ne {t : List Nat} (h : PathT t) : t ≠ [] := by
  have := pathOf_ne h
  rw [pathOf_parts] at this
  exact this
theorem aboveF_mem {ps : List (List Nat)} {a : List Nat} (h : a ∈ aboveF ps) : ∃ k, k + 1 < ps.length ∧ a = pathOf (ps.take (k + 1)) := by
  unfold aboveF at h
  obtain ⟨k, hk, rfl⟩ := List.mem_map.mp h
  rw [List.mem_range] at hk
  exact ⟨k, by omega, rfl⟩
theorem take_ok {ps : List (List Nat)} (h : PathOk ps) (k : Nat) : PathOk (ps.take (k + 1)) := by
  refine ⟨fun e => h.1 ?_, by rw [List.length_take]; have := h.2.1; omega, fun p hp => h.2.2 p ((List.take_sublist _ _).mem hp)⟩
  have := congrArg List.length e
  rw [List.length_take, List.length_nil] at this
  exact List.eq_nil_of_length_eq_zero (by omega)
theorem above_ok {t a : List Nat} (h : PathT t) (ha : a ∈ aboveT t) : PathT a := by
  obtain ⟨k, _, rfl⟩ := aboveF_mem ha
  exact PathT.of (take_ok h k)
/-- what is above what is above is above -/
theorem above_above {t a b : List Nat} (h : PathT t) (ha : a ∈ aboveT t) (hb : b ∈ aboveT a) : b ∈ aboveT t := by
  obtain ⟨k, lk, rfl⟩ := aboveF_mem ha
  rw [aboveT_of (take_ok h k)] at hb
  obtain ⟨j, lj, rfl⟩ := aboveF_mem hb
  rw [List.length_take] at lj
  unfold aboveT aboveF
  refine List.mem_map.mpr ⟨j, List.mem_range.mpr (by omega), ?_⟩
  rw [List.take_take, Nat.min_eq_left (by omega)]
theorem above_ne {t a : List Nat} (h : PathT t) (ha : a ∈ aboveT t) : a ≠ t := by
  obtain ⟨k, lk, rfl⟩ := aboveF_mem ha
  intro e
  have e2 : (splitC 47 (pathOf ((splitC 47 t).take (k + 1)))).length = (splitC 47 t).length := by rw [e]
  rw [split_path (take_ok h k), List.length_take] at e2
  omega
theorem dEnt_ok {e : Ent} (h : ∀ t b, e = .file t b → b.length ≤ 1000) : tupsOnly (dEnt e) = true ∧ PyData.depth (dEnt e) ≤ 2 := by
  cases e with
  | folder t => exact ⟨rfl, show max 0 (max 0 0) + 1 ≤ 2 by decide⟩
  | file t b =>
    have l := h t b rfl
    have k := dInts_ok b (by omega)
    constructor
    · show (decide ((3 : Nat) ≤ 100000) && (true && (true && (tupsOnly (dInts b) && true)))) = true
      rw [k.1]
      rfl
    · show max 0 (max 0 (max (PyData.depth (dInts b)) 0)) + 1 ≤ 2
      have := k.2
      omega
  | link t g => exact ⟨rfl, show max 0 (max 0 (max 0 0)) + 1 ≤ 2 by decide⟩
theorem dTree_ok {es : List Ent} (h : ∀ e ∈ es, ∀ t b, e = .file t b → b.length ≤ 1000) (few : es.length ≤ 100000) : tupsOnly (dTree es) = true ∧ PyData.depth (dTree es) ≤ 3 := by
  have all : ∀ (fs : List Ent), (∀ e ∈ fs, ∀ t b, e = .file t b → b.length ≤ 1000) → tupsAll (fs.map dEnt) = true ∧ PyData.depthAll (fs.map dEnt) ≤ 2 := by
    intro fs
    induction fs with
    | nil => intro _; exact ⟨rfl, by decide⟩
    | cons e r ih =>
      intro h
      have h1 := dEnt_ok (h e (by simp))
      have h2 := ih fun x hx => h x (List.mem_cons_of_mem _ hx)
      constructor
      · rw [List.map_cons, tupsAll, h1.1, h2.1]
        rfl
      · rw [List.map_cons, PyData.depthAll]
        have := h1.2
        have := h2.2
        omega
  have k := all es h
  constructor
  · unfold dTree
    rw [tupsOnly, k.1, decide_eq_true (by rw [List.length_map]; exact few)]
    rfl
  · unfold dTree
    rw [PyData.depth]
    have := k.2
    omega
/-- an entry in the heap: its parts -/
theorem dpEnt {K : PySem.W.Frag} {H : Hp} {v : V} {e : Ent} (h : Dp K H v (dEnt e)) : ∃ t xs, v = .ref t ∧ SqT K H t xs ∧ (match e with
    | .folder p => xs = [.str (Str.ofString "folder"), T p]
    | .file p b => ∃ u, xs = [.str (Str.ofString "file"), T p, .ref u] ∧ SqT K H u (b.map V.int)
    | .link p g => xs = [.str (Str.ofString "link"), T p, T g]) := by
  cases e with
  | folder p =>
    cases h with
    | tup h hs =>
      cases hs with
      | cons h1 hs =>
        cases hs with
        | cons h2 hs =>
          cases hs
          cases h1
          cases h2
          exact ⟨_, _, rfl, h, rfl⟩
  | file p b =>
    cases h with
    | tup h hs =>
      cases hs with
      | cons h1 hs =>
        cases hs with
        | cons h2 hs =>
          cases hs with
          | cons h3 hs =>
            cases hs
            cases h1
            cases h2
            cases h3 with
            | tup g gs =>
              refine ⟨_, _, rfl, h, _, rfl, ?_⟩
              have : ∀ {vs : List V} {b : List Int}, DpAll K H vs (b.map PyData.int) → vs = b.map V.int := by
                intro vs b
                induction b generalizing vs with
                | nil => intro k; cases k; rfl
                | cons x r ih =>
                  intro k
                  cases k with
                  | cons k1 ks =>
                    cases k1
                    rw [ih ks]
                    rfl
              rw [← this gs]
              exact g
  | link p g =>
    cases h with
    | tup h hs =>
      cases hs with
      | cons h1 hs =>
        cases hs with
        | cons h2 hs =>
          cases hs with
          | cons h3 hs =>
            cases hs
            cases h1
            cases h2
            cases h3
            exact ⟨_, _, rfl, h, rfl⟩
theorem dEnt_folder {K : PySem.W.Frag} {H : Hp} {t : Addr} {p : List Nat} (h : SqT K H t [.str (Str.ofString "folder"), T p]) : Dp K H (.ref t) (dEnt (.folder p)) := .tup h (.cons (.str _) (.cons (.str _) .nil))
theorem dEnt_link {K : PySem.W.Frag} {H : Hp} {t : Addr} {p g : List Nat} (h : SqT K H t [.str (Str.ofString "link"), T p, T g]) : Dp K H (.ref t) (dEnt (.link p g)) := .tup h (.cons (.str _) (.cons (.str _) (.cons (.str _) .nil)))
theorem dEnt_file {K : PySem.W.Frag} {H : Hp} {t u : Addr} {p : List Nat} {b : List Int} (h : SqT K H t [.str (Str.ofString "file"), T p, .ref u]) (g : SqT K H u (b.map V.int)) : Dp K H (.ref t) (dEnt (.file p b)) := .tup h (.cons (.str _) (.cons (.str _) (.cons (dpTup g) .nil)))
end Fc

namespace Fc
open PySem PySem.Spec L2 PyProof.Rows
variable [LamNames]
/-! ### a dict of entries by their paths -/
def kT (t : List Nat) : Key := .inr (mkS t)
theorem kT_inj {a b : List Nat} (h : kT a = kT b) : a = b := mkS_inj (Sum.inr.inj h)
def OneE (K : PySem.W.Frag) (H : Hp) (e : Ent) (kv : Key × V) : Prop := kv.1 = kT e.path ∧ Dp K H kv.2 (dEnt e)
abbrev OnE (K : PySem.W.Frag) (H : Hp) (es : List Ent) (kvs : List (Key × V)) : Prop := Al2 (OneE K H) es kvs
def atE (es : List Ent) (t : List Nat) : Option Ent := es.find? fun e => decide (e.path = t)
def putE (es : List Ent) (e : Ent) : List Ent := if (es.any fun x => decide (x.path = e.path)) = true then es.map (fun x => if x.path = e.path then e else x) else es ++ [e]
theorem onE_get {K : PySem.W.Frag} {H : Hp} (t : List Nat) : ∀ {es : List Ent} {kvs : List (Key × V)}, OnE K H es kvs → (atE es t = none ∧ valV kvs (kT t) = none) ∨ ∃ e v, atE es t = some e ∧ valV kvs (kT t) = some v ∧ Dp K H v (dEnt e)
  | _, _, .nil => .inl ⟨rfl, rfl⟩
  | e :: es, kv :: kvs, .cons h hs => by
    by_cases z : e.path = t
    · refine .inr ⟨e, kv.2, ?_, valV_pos (by rw [h.1, z]), h.2⟩
      unfold atE
      rw [List.find?_cons_of_pos (by simpa using z)]
    · have nz : ¬ kv.1 = kT t := fun k => z (kT_inj (h.1.symm.trans k))
      have e1 : atE (e :: es) t = atE es t := by
        unfold atE
        rw [List.find?_cons_of_neg (by simpa using z)]
      rw [e1, valV_neg nz]
      exact onE_get t hs
theorem onE_any {K : PySem.W.Frag} {H : Hp} (t : List Nat) : ∀ {es : List Ent} {kvs : List (Key × V)}, OnE K H es kvs → (kvs.any fun kv => decide (kv.1 = kT t)) = es.any fun x => decide (x.path = t)
  | _, _, .nil => rfl
  | e :: es, kv :: kvs, .cons h hs => by
    rw [List.any_cons, List.any_cons, onE_any t hs]
    congr 1
    by_cases z : e.path = t
    · rw [decide_eq_true z]
      exact decide_eq_true (by rw [h.1, z])
    · rw [decide_eq_false z]
      exact decide_eq_false fun k => z (kT_inj (h.1.symm.trans k))
theorem onE_map {K : PySem.W.Frag} {H : Hp} {e : Ent} {v : V} (hv : Dp K H v (dEnt e)) : ∀ {es : List Ent} {kvs : List (Key × V)}, OnE K H es kvs → OnE K H (es.map fun x => if x.path = e.path then e else x) (kvs.map fun kv => if kv.1 = kT e.path then (kv.1, v) else kv)
  | _, _, .nil => .nil
  | x :: es, kv :: kvs, .cons h hs => by
    rw [List.map_cons, List.map_cons]
    refine .cons ?_ (onE_map hv hs)
    by_cases z : x.path = e.path
    · have z2 : kv.1 = kT e.path := by rw [h.1, z]
      rw [if_pos z, if_pos z2]
      exact ⟨z2, hv⟩
    · have nz : ¬ kv.1 = kT e.path := fun k => z (kT_inj (h.1.symm.trans k))
      rw [if_neg z, if_neg nz]
      exact h
theorem onE_put {K : PySem.W.Frag} {H : Hp} {e : Ent} {v : V} {es : List Ent} {kvs : List (Key × V)} (h : OnE K H es kvs) (hv : Dp K H v (dEnt e)) : OnE K H (putE es e) (putK kvs (kT e.path) v) := by
  unfold putE putK
  rw [onE_any e.path h]
  by_cases z : (es.any fun x => decide (x.path = e.path)) = true
  · rw [if_pos z, if_pos z]
    exact onE_map hv h
  · rw [if_neg z, if_neg z]
    exact h.snoc ⟨rfl, hv⟩
def SmallE (es : List Ent) : Prop := ∀ e ∈ es, ∀ t b, e = .file t b → b.length ≤ 1000
theorem SmallE.tail {e : Ent} {es : List Ent} (h : SmallE (e :: es)) : SmallE es := fun x hx => h x (List.mem_cons_of_mem _ hx)
theorem onE_keep {K : PySem.W.Frag} {H H' : Hp} (s : Same H H') {es : List Ent} {kvs : List (Key × V)} (h : OnE K H es kvs) : OnE K H' es kvs := h.mono fun e kv k => ⟨k.1, dpKeep s k.2⟩
theorem onE_over {K : PySem.W.Frag} {H : Hp} {p : Addr} {o : HO} (w : Wr H p) : ∀ {es : List Ent} {kvs : List (Key × V)}, SmallE es → OnE K H es kvs → OnE K (upd H p o) es kvs
  | _, _, _, .nil => .nil
  | e :: es, kv :: kvs, sm, .cons h hs => .cons ⟨h.1, dpOver w (dEnt_ok (sm e (by simp))).1 h.2⟩ (onE_over w sm.tail hs)
theorem onE_keys {K : PySem.W.Frag} {H : Hp} : ∀ {es : List Ent} {kvs : List (Key × V)}, OnE K H es kvs → kvs.map (·.1) = (es.map fun e => mkS e.path).map Sum.inr
  | _, _, .nil => rfl
  | e :: es, kv :: kvs, .cons h hs => by rw [List.map_cons, List.map_cons, List.map_cons, h.1, onE_keys hs]; rfl
theorem atE_mem {es : List Ent} {t : List Nat} {e : Ent} (h : atE es t = some e) : e ∈ es ∧ e.path = t := ⟨List.mem_of_find?_eq_some h, by
  have := List.find?_some (p := fun e : Ent => decide (e.path = t)) h
  exact of_decide_eq_true this⟩
theorem atE_none {es : List Ent} {t : List Nat} (h : atE es t = none) : ∀ e ∈ es, e.path ≠ t := fun e he k => by
  have := List.find?_eq_none.mp h e he
  exact this (decide_eq_true k)
/-! ### the paths of a growing dict -/
abbrev Nod (es : List Ent) : Prop := (es.map Ent.path).Nodup
theorem Nod.eq {es : List Ent} (h : Nod es) {a b : Ent} (ha : a ∈ es) (hb : b ∈ es) (e : a.path = b.path) : a = b := by
  induction es with
  | nil => cases ha
  | cons x r ih =>
    rw [Nod, List.map_cons, List.nodup_cons] at h
    rcases List.mem_cons.mp ha with ka | ka
    · rcases List.mem_cons.mp hb with kb | kb
      · rw [ka, kb]
      · exact absurd (List.mem_map.mpr ⟨b, kb, by rw [← e, ka]⟩) h.1
    · rcases List.mem_cons.mp hb with kb | kb
      · exact absurd (List.mem_map.mpr ⟨a, ka, by rw [e, kb]⟩) h.1
      · exact ih h.2 ka kb
theorem atE_of {es : List Ent} (h : Nod es) {e : Ent} (he : e ∈ es) : atE es e.path = some e := by
  cases k : atE es e.path with
  | none => exact absurd rfl (atE_none k e he)
  | some x =>
    obtain ⟨hx, px⟩ := atE_mem k
    rw [h.eq hx he px]
theorem putE_new {es : List Ent} {e : Ent} (h : ∀ x ∈ es, x.path ≠ e.path) : putE es e = es ++ [e] := by
  unfold putE
  rw [if_neg]
  intro z
  obtain ⟨x, hx, k⟩ := List.any_eq_true.mp z
  exact h x hx (of_decide_eq_true k)
theorem putE_same {es : List Ent} {e : Ent} (h : ∀ x ∈ es, x.path = e.path → x = e) (he : ∃ x ∈ es, x.path = e.path) : putE es e = es := by
  unfold putE
  obtain ⟨x, hx, px⟩ := he
  rw [if_pos (List.any_eq_true.mpr ⟨x, hx, decide_eq_true px⟩)]
  have : es.map (fun x => if x.path = e.path then e else x) = es.map id := List.map_congr_left fun y hy => by
    by_cases z : y.path = e.path
    · rw [if_pos z]
      exact (h y hy z).symm
    · rw [if_neg z]
      rfl
  rw [this, List.map_id]
theorem nod_snoc {es : List Ent} {e : Ent} (h : Nod es) (n : ∀ x ∈ es, x.path ≠ e.path) : Nod (es ++ [e]) := by
  unfold Nod
  rw [List.map_append, List.nodup_append]
  refine ⟨h, by simp, fun a ha b hb k => ?_⟩
  obtain ⟨x, hx, rfl⟩ := List.mem_map.mp ha
  rw [List.map_cons, List.map_nil, List.mem_singleton] at hb
  exact n x hx (k.trans hb)
/-- the folders above are put in -/
structure Grown (es : List Ent) (as : List (List Nat)) (fs : List Ent) : Prop where
  nod : Nod fs
  old : ∀ e ∈ es, e ∈ fs
  new : ∀ e ∈ fs, e ∈ es ∨ ∃ a ∈ as, e = .folder a
  all : ∀ a ∈ as, Ent.folder a ∈ fs
  few : fs.length ≤ es.length + as.length
theorem Grown.nil {es : List Ent} (h : Nod es) : Grown es [] es := ⟨h, fun _ h => h, fun e h => .inl h, fun a h => (by cases h), by simp⟩
theorem Grown.step {es fs : List Ent} {as : List (List Nat)} {a : List Nat} (g : Grown es as fs) (nb : ∀ e ∈ es, e.path = a → e = .folder a) : Grown es (as ++ [a]) (putE fs (.folder a)) := by
  have same : ∀ x ∈ fs, x.path = (Ent.folder a).path → x = .folder a := fun x hx px => by
    rcases g.new x hx with h | ⟨b, _, rfl⟩
    · exact nb x h px
    · have : b = a := px
      rw [this]
  by_cases z : ∃ x ∈ fs, x.path = (Ent.folder a).path
  · rw [putE_same same z]
    refine ⟨g.nod, g.old, fun e he => ?_, fun b hb => ?_, by rw [List.length_append]; have := g.few; simp only [List.length_cons, List.length_nil]; omega⟩
    · rcases g.new e he with h | ⟨b, hb, h⟩
      · exact .inl h
      · exact .inr ⟨b, List.mem_append_left _ hb, h⟩
    · rcases List.mem_append.mp hb with hb | hb
      · exact g.all b hb
      · rw [List.mem_singleton.mp hb]
        obtain ⟨x, hx, px⟩ := z
        rw [← same x hx px]
        exact hx
  · have n : ∀ x ∈ fs, x.path ≠ (Ent.folder a).path := fun x hx k => z ⟨x, hx, k⟩
    rw [putE_new n]
    refine ⟨nod_snoc g.nod n, fun e he => List.mem_append_left _ (g.old e he), fun e he => ?_, fun b hb => ?_, by rw [List.length_append, List.length_append]; have := g.few; simp only [List.length_cons, List.length_nil]; omega⟩
    · rcases List.mem_append.mp he with he | he
      · rcases g.new e he with h | ⟨b, hb, h⟩
        · exact .inl h
        · exact .inr ⟨b, List.mem_append_left _ hb, h⟩
      · rw [List.mem_singleton.mp he]
        exact .inr ⟨a, by simp, rfl⟩
    · rcases List.mem_append.mp hb with hb | hb
      · exact List.mem_append_left _ (g.all b hb)
      · rw [List.mem_singleton.mp hb]
        simp
/-- a dict whose entries and folders are right -/
structure Stock (es : List Ent) : Prop where
  nod : Nod es
  ok : ∀ e ∈ es, EntOk e
  up : ∀ e ∈ es, ∀ a ∈ aboveT e.path, Ent.folder a ∈ es
theorem Stock.small {es : List Ent} (h : Stock es) : SmallE es := fun e he => (h.ok e he).small
theorem Stock.put {es fs : List Ent} {e : Ent} (h : Stock es) (g : Grown es (aboveT e.path) fs) (he : EntOk e) (n : ∀ x ∈ es, x.path ≠ e.path) : Stock (putE fs e) ∧ (putE fs e).length ≤ es.length + (aboveT e.path).length + 1 := by
  have n2 : ∀ x ∈ fs, x.path ≠ e.path := fun x hx => by
    rcases g.new x hx with k | ⟨a, ha, rfl⟩
    · exact n x k
    · exact above_ne he.path ha
  rw [putE_new n2]
  refine ⟨⟨nod_snoc g.nod n2, fun x hx => ?_, fun x hx a ha => ?_⟩, by rw [List.length_append]; have := g.few; simp only [List.length_cons, List.length_nil]; omega⟩
  · rcases List.mem_append.mp hx with hx | hx
    · rcases g.new x hx with k | ⟨a, ha, rfl⟩
      · exact h.ok x k
      · exact above_ok he.path ha
    · rw [List.mem_singleton.mp hx]
      exact he
  · rcases List.mem_append.mp hx with hx | hx
    · rcases g.new x hx with k | ⟨b, hb, rfl⟩
      · exact List.mem_append_left _ (g.old _ (h.up x k a ha))
      · exact List.mem_append_left _ (g.all _ (above_above he.path hb ha))
    · rw [List.mem_singleton.mp hx] at ha
      exact List.mem_append_left _ (g.all a ha)
/-! ### put in order -/
theorem lt_of_rising {x : Str} {r : List Str} (h : risingS x r = true) : ∀ y ∈ r, ltCps y.cps.toList x.cps.toList = false := by
  induction r generalizing x with
  | nil => intro y hy; cases hy
  | cons z r ih =>
    intro y hy
    have h' : (!ltCps z.cps.toList x.cps.toList && risingS z r) = true := h
    rw [Bool.and_eq_true, Bool.not_eq_true'] at h'
    rcases List.mem_cons.mp hy with rfl | hy
    · exact h'.1
    · have k := ih h'.2 y hy
      have h1 := h'.1
      rw [ltCps_eq] at k h1 ⊢
      rw [decide_eq_false_iff_not] at k h1 ⊢
      intro q
      rcases Decidable.em (x.cps.toList < z.cps.toList) with p | p
      · exact k (List.lt_trans q p)
      · have e : x.cps.toList = z.cps.toList := List.le_antisymm (List.not_lt.mp h1) (List.not_lt.mp p)
        rw [e] at q
        exact k q
theorem sorted_pairwise : ∀ {l : List Str}, sortedS l = true → l.Pairwise fun a b => ltCps b.cps.toList a.cps.toList = false
  | [], _ => .nil
  | x :: r, h => .cons (lt_of_rising h) (by
    cases r with
    | nil => exact .nil
    | cons z r =>
      have h' : (!ltCps z.cps.toList x.cps.toList && risingS z r) = true := h
      rw [Bool.and_eq_true] at h'
      exact sorted_pairwise (l := z :: r) h'.2)
theorem sorted_paths {ys : List (List Nat)} (h : sortedS (ys.map mkS) = true) (nd : ys.Nodup) : ys.Pairwise (· < ·) := by
  have p := List.pairwise_map.mp (sorted_pairwise h)
  refine (p.and nd).imp fun {a b} k => ?_
  have k1 : ltCps b a = false := k.1
  rw [ltCps_eq, decide_eq_false_iff_not] at k1
  rcases Decidable.em (a < b) with q | q
  · exact q
  · exact absurd (List.le_antisymm (List.not_lt.mp k1) (List.not_lt.mp q)) k.2
/-- the tree that a stock makes, its entries in the order of the paths -/
theorem Stock.tree {es fs : List Ent} {ys : List (List Nat)} (h : Stock es) (pm : ys.Perm (es.map Ent.path)) (so : sortedS (ys.map mkS) = true) (ef : fs.map Ent.path = ys) (sub : ∀ e ∈ fs, e ∈ es) (few : es.length ≤ 100) : TreeOk fs := by
  have nd : ys.Nodup := pm.nodup_iff.mpr h.nod
  refine ⟨fun e he => h.ok e (sub e he), ?_, fun e he a ha => ?_, ?_⟩
  · have := sorted_paths so nd
    rw [← ef, List.pairwise_map] at this
    exact this
  · have hm := h.up e (sub e he) a ha
    have : a ∈ ys := pm.mem_iff.mpr (List.mem_map.mpr ⟨_, hm, rfl⟩)
    rw [← ef] at this
    obtain ⟨x, hx, px⟩ := List.mem_map.mp this
    have : x = .folder a := h.nod.eq (sub x hx) hm px
    rw [← this]
    exact hx
  · have l1 := congrArg List.length ef
    have l2 := pm.length_eq
    rw [List.length_map] at l1 l2
    omega
/-! ### the word and the path of an entry -/
def wordOf : Ent → V
  | .folder _ => .str (Str.ofString "folder")
  | .file _ _ => .str (Str.ofString "file")
  | .link _ _ => .str (Str.ofString "link")
theorem word_ne (e : Ent) : (!decide (wordOf e = V.str (Str.ofString "folder"))) = !e.isFolder := by
  cases e with
  | folder t => exact congrArg (!·) (decide_eq_true rfl)
  | file t b => exact congrArg (!·) (decide_eq_false fun k => absurd (V.str.inj k) (by decide +kernel))
  | link t g => exact congrArg (!·) (decide_eq_false fun k => absurd (V.str.inj k) (by decide +kernel))
theorem dpWord {K : PySem.W.Frag} {H : Hp} {v : V} {e : Ent} (h : Dp K H v (dEnt e)) : ∃ t xs, v = .ref t ∧ SqT K H t xs ∧ xs[0]? = some (wordOf e) ∧ xs[1]? = some (T e.path) := by
  obtain ⟨t, xs, rfl, ht, k⟩ := dpEnt h
  refine ⟨t, xs, rfl, ht, ?_⟩
  cases e with
  | folder p => rw [k]; exact ⟨rfl, rfl⟩
  | file p b => obtain ⟨u, rfl, _⟩ := k; exact ⟨rfl, rfl⟩
  | link p g => rw [k]; exact ⟨rfl, rfl⟩
theorem choose_ents {K : PySem.W.Frag} {H : Hp} {es : List Ent} : ∀ {xs ys : List V}, Al2 (fun x y => ∃ e ∈ es, x = T e.path ∧ Dp K H y (dEnt e)) xs ys → ∃ fs : List Ent, xs = fs.map (fun e => T e.path) ∧ (∀ e ∈ fs, e ∈ es) ∧ DpAll K H ys (fs.map dEnt)
  | _, _, .nil => ⟨[], rfl, (fun e h => by cases h), .nil⟩
  | _, _, .cons ⟨e, he, hx, hd⟩ hs => by
    obtain ⟨fs, hf, hm, hD⟩ := choose_ents hs
    refine ⟨e :: fs, by rw [hx, hf]; rfl, fun x hx => ?_, .cons hd hD⟩
    rcases List.mem_cons.mp hx with rfl | hx
    · exact he
    · exact hm x hx
end Fc

namespace Fc
open PySem PySem.Spec L2 PyProof.Rows
variable [LamNames]
/-! ### the way over links -/
inductive LRes where
  | out
  | noEntry
  | notFolder
  | tooFar
  | ok (here : List (List Nat))
def landW (es : List Ent) (links : Nat) (here : List (List Nat)) : List (List Nat) → LRes
  | [] => .ok here
  | p :: r => if p = dots then (if here = [] then .out else landW es links here.dropLast r) else match atE es (pathOf (here ++ [p])) with
    | none => .noEntry
    | some (.link _ g) => if 20 ≤ links then .tooFar else landW es (links + 1) here (splitC 47 g ++ r)
    | some (.file _ _) => if r ≠ [] then .notFolder else .ok (here ++ [p])
    | some (.folder _) => landW es links (here ++ [p]) r
termination_by rest => (20 - links, rest.length)
decreasing_by all_goals (simp_wf; first | (apply Prod.Lex.right; omega) | (apply Prod.Lex.left; omega) | omega)
/-- the program's landing, of a tree and a path -/
def landF (es : List Ent) (t : List Nat) : LRes := landW es 0 [] (splitC 47 t)
theorem landW_nil {es : List Ent} {l : Nat} {h : List (List Nat)} : landW es l h [] = .ok h := by rw [landW]
theorem landW_dots {es : List Ent} {l : Nat} {h r : List (List Nat)} : landW es l h (dots :: r) = if h = [] then .out else landW es l h.dropLast r := by rw [landW, if_pos rfl]
theorem landW_none {es : List Ent} {l : Nat} {h r : List (List Nat)} {p : List Nat} (n : p ≠ dots) (e : atE es (pathOf (h ++ [p])) = none) : landW es l h (p :: r) = .noEntry := by rw [landW, if_neg n, e]
theorem landW_link {es : List Ent} {l : Nat} {h r : List (List Nat)} {p t g : List Nat} (n : p ≠ dots) (e : atE es (pathOf (h ++ [p])) = some (.link t g)) : landW es l h (p :: r) = if 20 ≤ l then .tooFar else landW es (l + 1) h (splitC 47 g ++ r) := by rw [landW, if_neg n, e]
theorem landW_file {es : List Ent} {l : Nat} {h r : List (List Nat)} {p t : List Nat} {b : List Int} (n : p ≠ dots) (e : atE es (pathOf (h ++ [p])) = some (.file t b)) : landW es l h (p :: r) = if r ≠ [] then .notFolder else .ok (h ++ [p]) := by rw [landW, if_neg n, e]
theorem landW_folder {es : List Ent} {l : Nat} {h r : List (List Nat)} {p t : List Nat} (n : p ≠ dots) (e : atE es (pathOf (h ++ [p])) = some (.folder t)) : landW es l h (p :: r) = landW es l (h ++ [p]) r := by rw [landW, if_neg n, e]
/-! ### where it ends it ends again -/
def Fold (es : List Ent) (h : List (List Nat)) : Prop := ∀ k, k < h.length → ∃ p t, h[k]? = some p ∧ p ≠ dots ∧ atE es (pathOf (h.take (k + 1))) = some (.folder t)
theorem Fold.nil (es : List Ent) : Fold es [] := fun k h => by cases h
theorem Fold.snoc {es : List Ent} {h : List (List Nat)} {p t : List Nat} (f : Fold es h) (n : p ≠ dots) (e : atE es (pathOf (h ++ [p])) = some (.folder t)) : Fold es (h ++ [p]) := by
  intro k lk
  rw [List.length_append] at lk
  simp only [List.length_cons, List.length_nil] at lk
  by_cases z : k < h.length
  · obtain ⟨q, u, h1, h2, h3⟩ := f k z
    refine ⟨q, u, ?_, h2, ?_⟩
    · rw [List.getElem?_append_left z]; exact h1
    · rw [List.take_append_of_le_length (by omega)]; exact h3
  · have e2 : k = h.length := by omega
    subst e2
    refine ⟨p, t, ?_, n, ?_⟩
    · rw [List.getElem?_append_right (Nat.le_refl _), Nat.sub_self]; rfl
    · rw [List.take_of_length_le (by rw [List.length_append]; simp)]; exact e
theorem Fold.dropLast {es : List Ent} {h : List (List Nat)} (f : Fold es h) : Fold es h.dropLast := by
  intro k lk
  rw [List.length_dropLast] at lk
  obtain ⟨q, u, h1, h2, h3⟩ := f k (by omega)
  refine ⟨q, u, ?_, h2, ?_⟩
  · rw [List.getElem?_dropLast, if_pos lk]; exact h1
  · rw [List.dropLast_eq_take, List.take_take, Nat.min_eq_left (by omega)]; exact h3
/-- the end of a way -/
def EndAt (es : List Ent) (h : List (List Nat)) : Prop := Fold es h ∨ ∃ g p t b, h = g ++ [p] ∧ Fold es g ∧ p ≠ dots ∧ atE es (pathOf h) = some (.file t b)
theorem land_end (es : List Ent) : ∀ (n : Nat) (l : Nat) (h r : List (List Nat)) (z : List (List Nat)), 20 - l ≤ n → Fold es h → landW es l h r = .ok z → EndAt es z := by
  intro n
  induction n with
  | zero =>
    intro l h r z hn f e
    induction r generalizing h with
    | nil => rw [landW_nil] at e; cases e; exact .inl f
    | cons p r ih =>
      by_cases d : p = dots
      · subst d
        rw [landW_dots] at e
        split at e
        · cases e
        · exact ih _ f.dropLast e
      · cases a : atE es (pathOf (h ++ [p])) with
        | none => rw [landW_none d a] at e; cases e
        | some x =>
          cases x with
          | folder t => rw [landW_folder d a] at e; exact ih _ (f.snoc d a) e
          | file t b =>
            rw [landW_file d a] at e
            split at e
            · cases e
            · cases e
              exact .inr ⟨h, p, t, b, rfl, f, d, a⟩
          | link t g =>
            rw [landW_link d a, if_pos (by omega)] at e
            cases e
  | succ n ihn =>
    intro l h r z hn f e
    induction r generalizing h with
    | nil => rw [landW_nil] at e; cases e; exact .inl f
    | cons p r ih =>
      by_cases d : p = dots
      · subst d
        rw [landW_dots] at e
        split at e
        · cases e
        · exact ih _ f.dropLast e
      · cases a : atE es (pathOf (h ++ [p])) with
        | none => rw [landW_none d a] at e; cases e
        | some x =>
          cases x with
          | folder t => rw [landW_folder d a] at e; exact ih _ (f.snoc d a) e
          | file t b =>
            rw [landW_file d a] at e
            split at e
            · cases e
            · cases e
              exact .inr ⟨h, p, t, b, rfl, f, d, a⟩
          | link t g =>
            rw [landW_link d a] at e
            split at e
            · cases e
            · exact ihn _ _ _ _ (by omega) f e
theorem walk_fold (es : List Ent) (l : Nat) (z r : List (List Nat)) (f : Fold es z) : ∀ (n : Nat) (k : Nat), z.length - k ≤ n → k ≤ z.length → landW es l (z.take k) (z.drop k ++ r) = landW es l z r := by
  intro n
  induction n with
  | zero =>
    intro k h1 h2
    have e : k = z.length := by omega
    rw [e, List.take_length, List.drop_length, List.nil_append]
  | succ n ih =>
    intro k h1 h2
    by_cases e : k = z.length
    · rw [e, List.take_length, List.drop_length, List.nil_append]
    · have lt : k < z.length := by omega
      obtain ⟨p, t, hp, d, a⟩ := f k lt
      have ez : z[k] = p := by
        rw [List.getElem?_eq_getElem lt] at hp
        exact Option.some.inj hp
      have et : z.take (k + 1) = z.take k ++ [p] := by
        rw [List.take_add_one, hp]
        rfl
      rw [List.drop_eq_getElem_cons lt, ez, List.cons_append, landW_folder d (t := t) (by rw [← et]; exact a), ← et]
      exact ih (k + 1) (by omega) (by omega)
theorem land_again {es : List Ent} {z : List (List Nat)} (h : EndAt es z) : landW es 0 [] z = .ok z := by
  rcases h with f | ⟨g, p, t, b, rfl, f, d, a⟩
  · have := walk_fold es 0 z [] f z.length 0 (by omega) (by omega)
    rw [List.take_zero, List.drop_zero, List.append_nil, landW_nil] at this
    exact this
  · have := walk_fold es 0 g [p] f g.length 0 (by omega) (by omega)
    rw [List.take_zero, List.drop_zero, landW_file d a, if_neg (fun k => k rfl)] at this
    exact this
/-! ### parts of ways, as texts -/
def Way (r : List (List Nat)) : Prop := ∀ p ∈ r, p = dots ∨ partOk p
def Goals (es : List Ent) : Prop := ∀ t g, Ent.link t g ∈ es → GoalT g
theorem pathOf_snoc {h : List (List Nat)} {p : List Nat} (n : h ≠ []) : pathOf (h ++ [p]) = pathOf h ++ [47] ++ p := by
  unfold pathOf
  induction h with
  | nil => exact absurd rfl n
  | cons x r ih =>
    cases r with
    | nil =>
      show x ++ ([47] ++ p) = x ++ [47] ++ p
      rw [List.append_assoc]
    | cons y r2 =>
      have := ih (by simp)
      show x ++ ([47] ++ joinC 47 ((y :: r2) ++ [p])) = x ++ ([47] ++ joinC 47 (y :: r2)) ++ [47] ++ p
      rw [this]
      simp
theorem fold_ne {h : List (List Nat)} (hp : ∀ p ∈ h, partOk p) : pathOf h = [] ↔ h = [] := by
  constructor
  · intro e
    by_cases z : h = []
    · exact z
    · exact absurd e (join_ne z fun p k => part_ne (hp p k))
  · intro e; rw [e]; rfl
theorem split_parts {h : List (List Nat)} (n : h ≠ []) (hp : ∀ p ∈ h, partOk p) : splitC 47 (pathOf h) = h := split_joinC 47 n fun p k => no_stroke (hp p k)
/-! ### a tree with less links tells no more ways out -/
theorem land_less (es fs : List Ent) (sub : ∀ t e, atE fs t = some e → atE es t = some e) : ∀ (n : Nat) (l : Nat) (h r : List (List Nat)), 20 - l ≤ n → landW fs l h r = .out → landW es l h r = .out := by
  intro n
  have core : ∀ (l : Nat) (ihn : ∀ (h r : List (List Nat)), ¬ 20 ≤ l → landW fs (l + 1) h r = .out → landW es (l + 1) h r = .out) (h r : List (List Nat)), landW fs l h r = .out → landW es l h r = .out := by
    intro l ihn h r e
    induction r generalizing h with
    | nil => rw [landW_nil] at e; cases e
    | cons p r ih =>
      by_cases d : p = dots
      · subst d
        rw [landW_dots] at e ⊢
        split at e
        · rename_i z; rw [if_pos z]
        · rename_i z; rw [if_neg z]; exact ih _ e
      · cases a : atE fs (pathOf (h ++ [p])) with
        | none => rw [landW_none d a] at e; cases e
        | some x =>
          have a2 := sub _ _ a
          cases x with
          | folder t => rw [landW_folder d a] at e; rw [landW_folder d a2]; exact ih _ e
          | file t b =>
            rw [landW_file d a] at e
            split at e <;> cases e
          | link t g =>
            rw [landW_link d a] at e
            rw [landW_link d a2]
            split at e
            · cases e
            · rename_i z
              rw [if_neg z]
              exact ihn _ _ z e
  induction n with
  | zero => exact fun l h r hn => core l (fun h r z => absurd z (by omega)) h r
  | succ n ihn => exact fun l h r hn => core l (fun h r z => ihn (l + 1) h r (by omega)) h r
/-! ### entries put in a dict, in their place or at the end -/
theorem putE_mem {es : List Ent} {e x : Ent} (h : x ∈ putE es e) : x = e ∨ (x ∈ es ∧ x.path ≠ e.path) := by
  unfold putE at h
  split at h
  · obtain ⟨y, hy, rfl⟩ := List.mem_map.mp h
    by_cases z : y.path = e.path
    · rw [if_pos z]; exact .inl rfl
    · rw [if_neg z]; exact .inr ⟨hy, z⟩
  · rename_i n
    rcases List.mem_append.mp h with h | h
    · by_cases z : x.path = e.path
      · exact absurd (List.any_eq_true.mpr ⟨x, h, decide_eq_true z⟩) n
      · exact .inr ⟨h, z⟩
    · exact .inl (List.mem_singleton.mp h)
theorem mem_putE {es : List Ent} {e x : Ent} (h : x ∈ es) (n : x.path ≠ e.path) : x ∈ putE es e := by
  unfold putE
  split
  · exact List.mem_map.mpr ⟨x, h, by rw [if_neg n]⟩
  · exact List.mem_append_left _ h
theorem putE_self {es : List Ent} {e : Ent} : e ∈ putE es e := by
  unfold putE
  split
  · rename_i h
    obtain ⟨x, hx, px⟩ := List.any_eq_true.mp h
    exact List.mem_map.mpr ⟨x, hx, by rw [if_pos (of_decide_eq_true px)]⟩
  · simp
theorem putE_nod {es : List Ent} {e : Ent} (h : Nod es) : Nod (putE es e) := by
  unfold putE
  split
  · unfold Nod
    rw [List.map_map]
    have : es.map (Ent.path ∘ fun x => if x.path = e.path then e else x) = es.map Ent.path := List.map_congr_left fun y hy => by
      show (if y.path = e.path then e else y).path = y.path
      by_cases z : y.path = e.path
      · rw [if_pos z, z]
      · rw [if_neg z]
    rw [this]
    exact h
  · rename_i n
    exact nod_snoc h fun x hx k => n (List.any_eq_true.mpr ⟨x, hx, decide_eq_true k⟩)
theorem putE_few {es : List Ent} {e : Ent} : (putE es e).length ≤ es.length + 1 := by
  unfold putE
  split
  · rw [List.length_map]; omega
  · rw [List.length_append]; simp
theorem putE_small {es : List Ent} {e : Ent} (h : SmallE es) (k : ∀ t b, e = .file t b → b.length ≤ 1000) : SmallE (putE es e) := by
  intro x hx
  rcases putE_mem hx with rfl | ⟨hx, _⟩
  · exact k
  · exact h x hx
/-! ### the web's paths -/
instance (ps : List (List Nat)) : Decidable (PathOk ps) := by unfold PathOk; infer_instance
instance (t : List Nat) : Decidable (PathT t) := by unfold PathT; infer_instance
def sixP : List (List Nat) := [[97], [97, 47, 98], [97, 47, 98, 47, 97], [98], [98, 47, 97], [99]]
def webF : List (List Nat) := [[], [97, 47], [97, 47, 98, 47], [98, 47], [98, 47, 97, 47], [99, 47], [97, 47, 98, 47, 97, 47], [98, 47]]
abbrev Low (t : List Nat) : Prop := (splitC 47 t).length ≤ 4 ∧ t < [113]
theorem web_ok : ∀ f ∈ webF, ∀ c ∈ [108, 109, 110], PathT (f ++ [c]) ∧ (∀ a ∈ aboveT (f ++ [c]), a ∈ sixP) ∧ f ++ [c] ∉ sixP ∧ Low (f ++ [c]) := by decide +kernel
theorem six_ok : ∀ t ∈ sixP, PathT t ∧ (∀ a ∈ aboveT t, a ∈ sixP) ∧ Low t := by decide +kernel
structure Web (es : List Ent) : Prop where
  nod : Nod es
  ok : ∀ e ∈ es, EntOk e
  six : ∀ s ∈ sixP, Ent.folder s ∈ es
  up : ∀ e ∈ es, ∀ a ∈ aboveT e.path, a ∈ sixP
  low : ∀ e ∈ es, Low e.path
theorem Web.stock {es : List Ent} (h : Web es) : Stock es := ⟨h.nod, h.ok, fun e he a ha => h.six a (h.up e he a ha)⟩
theorem Web.put {es : List Ent} {e : Ent} (h : Web es) (he : EntOk e) (hu : ∀ a ∈ aboveT e.path, a ∈ sixP) (n : e.path ∉ sixP) (lo : Low e.path) : Web (putE es e) := by
  refine ⟨putE_nod h.nod, fun x hx => ?_, fun s hs => mem_putE (h.six s hs) fun k => n (by rw [← k]; exact hs), fun x hx => ?_, fun x hx => ?_⟩
  · rcases putE_mem hx with rfl | ⟨hx, _⟩
    · exact he
    · exact h.ok x hx
  · rcases putE_mem hx with rfl | ⟨hx, _⟩
    · exact hu
    · exact h.up x hx
  · rcases putE_mem hx with rfl | ⟨hx, _⟩
    · exact lo
    · exact h.low x hx
/-- the entries in the heap, one by one -/
theorem dpTree {K : PySem.W.Frag} {H : Hp} {v : V} {es : List Ent} (h : Dp K H v (dTree es)) : ∃ t xs, v = .ref t ∧ SqT K H t xs ∧ Al2 (fun e x => Dp K H x (dEnt e)) es xs := by
  cases h with
  | @tup p xs _ hp hxs =>
    refine ⟨p, xs, rfl, hp, ?_⟩
    have : ∀ {xs : List V} {es : List Ent}, DpAll K H xs (es.map dEnt) → Al2 (fun e x => Dp K H x (dEnt e)) es xs := by
      intro xs es
      induction es generalizing xs with
      | nil => intro k; cases k; exact .nil
      | cons e r ih =>
        intro k
        cases k with
        | cons k1 ks => exact .cons k1 (ih ks)
    exact this hxs
theorem al2_small {K : PySem.W.Frag} {H H' : Hp} : ∀ {es : List Ent} {xs : List V}, Al2 (fun e x => Dp K H x (dEnt e)) es xs → (∀ e x, e ∈ es → Dp K H x (dEnt e) → Dp K H' x (dEnt e)) → Al2 (fun e x => Dp K H' x (dEnt e)) es xs
  | _, _, .nil, _ => .nil
  | _, _, .cons h hs, f => .cons (f _ _ (List.mem_cons_self ..) h) (al2_small hs fun e x he => f e x (List.mem_cons_of_mem _ he))
theorem filter_at {es : List Ent} (nd : Nod es) (t : List Nat) : es.filter (fun e => decide (e.path = t)) = (atE es t).toList := by
  induction es with
  | nil => rfl
  | cons e r ih =>
    have nd' : Nod r := by
      rw [Nod, List.map_cons, List.nodup_cons] at nd
      exact nd.2
    by_cases z : e.path = t
    · have none : atE r t = none := by
        cases k : atE r t with
        | none => rfl
        | some e' =>
          obtain ⟨he, pe⟩ := atE_mem k
          rw [Nod, List.map_cons, List.nodup_cons] at nd
          exact absurd (List.mem_map.mpr ⟨e', he, pe.trans z.symm⟩) nd.1
      rw [List.filter_cons_of_pos (by simpa using z), ih nd', none]
      unfold atE
      rw [List.find?_cons_of_pos (by simpa using z)]
      rfl
    · rw [List.filter_cons_of_neg (by simpa using z), ih nd']
      unfold atE
      rw [List.find?_cons_of_neg (by simpa using z)]
theorem nod_of {es : List Ent} (h : es.Pairwise fun a b => a.path < b.path) : Nod es := by
  unfold Nod
  rw [List.Nodup, List.pairwise_map]
  exact h.imp fun {a b} k e => by rw [e] at k; exact List.lt_irrefl _ k
theorem TreeOk.nod {es : List Ent} (h : TreeOk es) : Nod es := nod_of h.rise
theorem dpWord3 {K : PySem.W.Frag} {H : Hp} {v : V} {e : Ent} (h : Dp K H v (dEnt e)) : ∃ t xs, v = .ref t ∧ SqT K H t xs ∧ xs[0]? = some (wordOf e) ∧ xs[1]? = some (T e.path) ∧ ∀ p g, e = .link p g → xs[2]? = some (T g) := by
  obtain ⟨t, xs, rfl, ht, k⟩ := dpEnt h
  refine ⟨t, xs, rfl, ht, ?_⟩
  cases e with
  | folder p => rw [k]; exact ⟨rfl, rfl, fun _ _ z => by cases z⟩
  | file p b => obtain ⟨u, rfl, _⟩ := k; exact ⟨rfl, rfl, fun _ _ z => by cases z⟩
  | link p g => rw [k]; exact ⟨rfl, rfl, fun _ _ z => by cases z; rfl⟩
theorem GoalT.len {g : List Nat} (h : GoalT g) : g.length ≤ 200 := by
  have := joinC_len 47 (splitC 47 g) 12 fun p hp => by
    rcases h.2 p hp with k | k
    · rw [k]; decide
    · exact k.2.1
  rw [join_split] at this
  have := h.1
  omega
theorem cutV_last (xs : List V) : cutV xs none (some (-1)) = xs.dropLast := by
  unfold cutV
  have ls : HT.sIx xs.length xs.length (some (-1)) = xs.length - 1 := by
    show (if (-1 : Int) < 0 then (-1 + (xs.length : Int)).toNat else min (-1 : Int).toNat xs.length) = _
    rw [if_pos (by decide)]
    omega
  rw [HT.sIx_none, ls, List.drop_zero, Nat.sub_zero, List.dropLast_eq_take]
theorem word_is {x : V} (h : x = x) : decide (x = x) = true := decide_eq_true h
theorem word_isnt {a b : String} (h : Str.ofString a ≠ Str.ofString b) : decide (V.str (Str.ofString a) = V.str (Str.ofString b)) = false := decide_eq_false fun k => h (V.str.inj k)
theorem iteW {b : Bool} {a c : Prop} (h : b = true) (k : a) : if b = true then a else c := by
  rw [h, if_pos rfl]
  exact k
theorem iteNW {b : Bool} {a c : Prop} (h : b = false) (k : c) : if b = true then a else c := by
  rw [h, if_neg Bool.false_ne_true]
  exact k
/-! ### the links that lead out -/
def Ent.isLink : Ent → Bool
  | .link _ _ => true
  | _ => false
def LRes.isOut : LRes → Bool
  | .out => true
  | _ => false
def goesOut (es : List Ent) (e : Ent) : Bool := (landF es e.path).isOut
def outF (es : List Ent) : List (List Nat) := ((es.filter Ent.isLink).filter (goesOut es)).map Ent.path
def lessF (es : List Ent) : List Ent := es.filter fun e => !decide (e.path ∈ outF es)
theorem outF_link {es : List Ent} (nd : Nod es) {e : Ent} (he : e ∈ es) (h : e.path ∈ outF es) : e.isLink = true ∧ goesOut es e = true := by
  unfold outF at h
  obtain ⟨x, hx, px⟩ := List.mem_map.mp h
  obtain ⟨hx, k2⟩ := List.mem_filter.mp hx
  obtain ⟨hx, k1⟩ := List.mem_filter.mp hx
  rw [nd.eq hx he px] at k1 k2
  exact ⟨k1, k2⟩
theorem less_tree {es : List Ent} (h : TreeOk es) : TreeOk (lessF es) := by
  refine ⟨fun e he => h.ok e (List.mem_filter.mp he).1, h.rise.sublist List.filter_sublist, fun e he a ha => ?_, Nat.le_trans (List.length_filter_le ..) h.few⟩
  have hf := h.up e (List.mem_filter.mp he).1 a ha
  refine List.mem_filter.mpr ⟨hf, ?_⟩
  rw [Bool.not_eq_true', decide_eq_false_iff_not]
  intro k
  have := outF_link h.nod hf k
  exact absurd this.1 (by simp [Ent.isLink])
theorem less_out {es : List Ent} (h : TreeOk es) : outF (lessF es) = [] := by
  have sub : ∀ t e, atE (lessF es) t = some e → atE es t = some e := fun t e k => by
    obtain ⟨he, pe⟩ := atE_mem k
    have := atE_of h.nod (List.mem_filter.mp he).1
    rw [pe] at this
    exact this
  unfold outF
  rw [List.map_eq_nil_iff, List.filter_eq_nil_iff]
  intro e he k
  obtain ⟨he, kl⟩ := List.mem_filter.mp he
  obtain ⟨he, kn⟩ := List.mem_filter.mp he
  rw [Bool.not_eq_true', decide_eq_false_iff_not] at kn
  refine kn ?_
  unfold outF
  refine List.mem_map.mpr ⟨e, List.mem_filter.mpr ⟨List.mem_filter.mpr ⟨he, kl⟩, ?_⟩, rfl⟩
  unfold goesOut landF at k ⊢
  have ko : landW (lessF es) 0 [] (splitC 47 e.path) = .out := by
    cases e2 : landW (lessF es) 0 [] (splitC 47 e.path) with
    | out => rfl
    | noEntry => rw [e2] at k; cases k
    | notFolder => rw [e2] at k; cases k
    | tooFar => rw [e2] at k; cases k
    | ok z => rw [e2] at k; cases k
  rw [land_less es (lessF es) sub 20 0 [] _ (by omega) ko]
  rfl
theorem land_parts (es : List Ent) (hg : Goals es) : ∀ (n : Nat) (l : Nat) (h r : List (List Nat)) (z : List (List Nat)), 20 - l ≤ n → (∀ p ∈ h, partOk p) → Way r → landW es l h r = .ok z → ∀ p ∈ z, partOk p := by
  have snoc : ∀ (h : List (List Nat)) (p : List Nat), (∀ p ∈ h, partOk p) → partOk p → ∀ x ∈ h ++ [p], partOk x := fun h p hh hp x hx => by
    rcases List.mem_append.mp hx with k | k
    · exact hh x k
    · rw [List.mem_singleton.mp k]; exact hp
  have core : ∀ (l : Nat) (ihn : ∀ (h r z : List (List Nat)), ¬ 20 ≤ l → (∀ p ∈ h, partOk p) → Way r → landW es (l + 1) h r = .ok z → ∀ p ∈ z, partOk p) (h r z : List (List Nat)), (∀ p ∈ h, partOk p) → Way r → landW es l h r = .ok z → ∀ p ∈ z, partOk p := by
    intro l ihn h r z hh wr e
    induction r generalizing h with
    | nil => rw [landW_nil] at e; cases e; exact hh
    | cons p r ih =>
      have wr2 : Way r := fun x hx => wr x (List.mem_cons_of_mem _ hx)
      by_cases d : p = dots
      · subst d
        rw [landW_dots] at e
        split at e
        · cases e
        · exact ih _ (fun x hx => hh x ((List.dropLast_sublist _).mem hx)) wr2 e
      · have pk : partOk p := by
          rcases wr p (by simp) with k | k
          · exact absurd k d
          · exact k
        cases a : atE es (pathOf (h ++ [p])) with
        | none => rw [landW_none d a] at e; cases e
        | some x =>
          cases x with
          | folder t => rw [landW_folder d a] at e; exact ih _ (snoc h p hh pk) wr2 e
          | file t b =>
            rw [landW_file d a] at e
            split at e
            · cases e
            · cases e
              exact snoc h p hh pk
          | link t g =>
            rw [landW_link d a] at e
            split at e
            · cases e
            · rename_i k
              refine ihn _ _ _ k hh (fun x hx => ?_) e
              rcases List.mem_append.mp hx with hx | hx
              · exact (hg t g (atE_mem a).1).2 x hx
              · exact wr2 x hx
  intro n
  induction n with
  | zero => exact fun l h r z hn => core l (fun h r z k => absurd k (by omega)) h r z
  | succ n ihn => exact fun l h r z hn => core l (fun h r z k => ihn (l + 1) h r z (by omega)) h r z
theorem TreeOk.goals {es : List Ent} (h : TreeOk es) : Goals es := fun t g k => (h.ok _ k).2
theorem landF_parts {es : List Ent} (h : TreeOk es) {t : List Nat} (ht : PathT t) {z : List (List Nat)} (e : landF es t = .ok z) : ∀ p ∈ z, partOk p :=
  land_parts es h.goals 20 0 [] _ z (by omega) (fun p hp => by cases hp) (fun p hp => .inr (ht.2.2 p hp)) e
def landV : LRes → V
  | .out => .str (Str.ofString "LeadsOut")
  | .noEntry => .str (Str.ofString "NoEntry")
  | .notFolder => .str (Str.ofString "NotFolder")
  | .tooFar => .str (Str.ofString "TooFar")
  | .ok h => T (pathOf h)
theorem path_word {z : List (List Nat)} (h : ∀ p ∈ z, partOk p) {c : Nat} {r : List Nat} (hc : c ∉ good) (x : String) (hx : Str.ofString x = mkS (c :: r)) : T (pathOf z) ≠ V.str (Str.ofString x) := by
  intro e
  rw [hx] at e
  have e2 : pathOf z = c :: r := T_inj e
  cases z with
  | nil => cases e2
  | cons p q =>
    have pk := h p (by simp)
    cases p with
    | nil => exact absurd pk.1 (by decide)
    | cons d s =>
      have : (pathOf ((d :: s) :: q)).head? = some d := by
        cases q with
        | nil => rfl
        | cons p2 q2 => rfl
      rw [e2] at this
      have ed : c = d := Option.some.inj this
      exact hc (by rw [ed]; exact pk.2.2.2.2 d (by simp))
theorem landV_out {es : List Ent} (h : TreeOk es) {t : List Nat} (ht : PathT t) : decide (landV (landF es t) = V.str (Str.ofString "LeadsOut")) = (landF es t).isOut := by
  cases e : landF es t with
  | out => exact decide_eq_true rfl
  | noEntry => exact decide_eq_false fun k => absurd (V.str.inj k) (by decide +kernel)
  | notFolder => exact decide_eq_false fun k => absurd (V.str.inj k) (by decide +kernel)
  | tooFar => exact decide_eq_false fun k => absurd (V.str.inj k) (by decide +kernel)
  | ok z => exact decide_eq_false (path_word (landF_parts h ht e) (c := 76) (r := [101, 97, 100, 115, 79, 117, 116]) (by decide) "LeadsOut" (by decide +kernel))
theorem word_link (e : Ent) : decide (wordOf e = V.str (Str.ofString "link")) = e.isLink := by
  cases e with
  | folder t => exact decide_eq_false fun k => absurd (V.str.inj k) (by decide +kernel)
  | file t b => exact decide_eq_false fun k => absurd (V.str.inj k) (by decide +kernel)
  | link t g => exact decide_eq_true rfl
theorem dpTreeOf {K : PySem.W.Frag} {H : Hp} {t : Addr} {xs : List V} {es : List Ent} (h : SqT K H t xs) (al : Al2 (fun e x => Dp K H x (dEnt e)) es xs) : Dp K H (.ref t) (dTree es) := by
  refine .tup h ?_
  clear h
  induction al with
  | nil => exact .nil
  | cons d _ ih => exact .cons d ih
end Fc

namespace Fc
open PySem PySem.Spec L2 PyProof.Rows
variable [LamNames]
/-! ### xs[lo:hi:c]: some of the items -/
theorem vals_pick {xs : List V} {us : List Value} (r : Vals xs us) : ∀ (is : List Nat), Vals (is.filterMap (xs[·]?)) (is.filterMap (us[·]?))
  | [] => .nil
  | i :: is => by
    cases e : xs[i]? with
    | none =>
      rw [List.filterMap_cons_none e, List.filterMap_cons_none (r.none_of e)]
      exact vals_pick r is
    | some x =>
      obtain ⟨u, hu, rl⟩ := r.get e
      rw [List.filterMap_cons_some e, List.filterMap_cons_some hu]
      exact .cons rl (vals_pick r is)
def tStepL (K : PySem.W.Frag) (te : TE) (tl th : TO) : TE := fun σ H Q => te σ H fun x H1 => tl σ H1 fun _ H2 => th σ H2 fun _ H3 => ∃ a xs, x = .ref a ∧ SqL K H3 a xs ∧ ∀ p zs, (∀ z ∈ zs, z ∈ xs) → zs.length ≤ xs.length → H3 p = none → Q (.ref p) (upd H3 p (.lst zs))
theorem pe_stepL {X : Cx} {e : Expr} {lo hi : Option Expr} {te : TE} {tl th : TO} {c : Int} {k : Nat} {p1 p2 pos : Pos} (c0 : c ≠ 0) (he : PE X e te) (hl : PO X lo tl) (hu : PO X hi th) : PE X (.Subscript e (.Slice lo hi (some (.Constant (.int c) k p1)) p2) pos) (tStepL X.K te tl th) := by
  refine ⟨fun pins s σ H Q I h => ?_⟩
  refine Subscript_ (thn (he.run pins s σ H _ I h) fun v s1 ⟨x, H1, I1, r1, q1⟩ => ?_)
  have hst : PO X (some (.Constant (.int c) k p1)) (tPart (tC (.int c))) := po_some pe_int
  refine wpAny_Slice (thn (hl.run pins s1 σ H1 _ I1 q1) fun vl s2 ⟨l, H2, I2, pl, q2⟩ => ?_)
  refine thn (hu.run pins s2 σ H2 _ I2 q2) fun vu s3 ⟨u, H3, I3, pu, q3⟩ => ?_
  obtain ⟨a, xs, ex, hx, q⟩ := q3
  subst ex
  cases r1
  refine thn (hst.run pins s3 σ H3 (fun o H4 => o = some c ∧ H4 = H3) I3 ⟨c, rfl, rfl, rfl⟩) fun vs s4 ⟨o, H4, I4, ps, eo, e4⟩ => ?_
  subst eo e4
  have I5 : Inv X pins σ H4 { s4 with heap := s4.heap.push { cls := .type "slice", data := .fields #[vl, vu, vs] } } := I4.kept (t' := s4.toks) fun b ob q => Heap.get?_push_of_some _ q
  obtain ⟨its, r, ht, hz⟩ := I5.list hx
  have hlen := r.length
  show wpAny (model X.prog X.w) X.A (subscriptTail e (.Slice lo hi (some (.Constant (.int c) k p1)) p2) (.ref a) (.ref s4.heap.objs.size)) (EP X pins σ Q) X.xe { s4 with heap := s4.heap.push { cls := .type "slice", data := .fields #[vl, vu, vs] } }
  refine tail_any (ops := [.ref a, .ref s4.heap.objs.size]) ht.isList.typeIs (PySem.slot_list_getitem.lookup) ?_ (by with_unfolding_all rfl)
  refine wpAny_getItem_list_slice ht.isList (Heap.IsSliceOf.new _ vl vu vs) pl pu ps (fun z => c0 (Option.some.inj z)) ?_ (by rw [List.size_toArray]; omega)
  have sz := slicePick_size_le its.toArray l u (some c)
  obtain ⟨is, ep⟩ : ∃ is : List Nat, slicePick its.toArray l u (some c) = (is.filterMap (its[·]?)).toArray := by
    have ef : (fun i : Nat => its.toArray[i]?) = fun i => its[i]? := by
      funext i
      exact List.getElem?_toArray
    exact ⟨sliceRange (sliceBounds l u (some c) its.toArray.size).1 (sliceBounds l u (some c) its.toArray.size).2.1 (sliceBounds l u (some c) its.toArray.size).2.2, by unfold slicePick; rw [ef]⟩
  rw [ep] at sz ⊢
  rw [List.size_toArray, List.size_toArray] at sz
  have vp := vals_pick r is
  have lp := vp.length
  refine ⟨.ref _, _, I5.laid (t' := s4.toks) (o := .lst (is.filterMap (xs[·]?))) (fun b ob q => Heap.get?_push_of_some _ q) (Nat.le_refl _) ?_, rfl, q _ _ (fun z hz => ?_) (by omega) (I5.hok.fresh (Nat.le_refl _))⟩
  · exact ⟨by omega, _, 0, vp, Heap.get?_push_size _ rfl⟩
  · obtain ⟨i, _, hi⟩ := List.mem_filterMap.mp hz
    exact List.mem_of_getElem? hi
/-! ### a loop over zip of two lists of any lengths -/
theorem for_zipM {K : PySem.W.Frag} {a b : Addr} {xs ys : List V} {g : TG} {tb : TS} {D : Ends} {σ : L2.St} {H : Hp} (Pv : L2.St → Hp → Prop) (h0 : Pv σ H) (hq : ∀ σ H, Pv σ H → SqL K H a xs ∧ SqL K H b ys)
    (hs : ∀ (x y : V) (T : Addr) (σ : L2.St) (H : Hp), x ∈ xs → y ∈ ys → Pv σ H → H T = none → g (.ref T) σ (upd H T (.tup [x, y])) fun σ2 H2 => tb { D with nx := Pv, ct := Pv, bk := D.nx } σ2 H2) (hd : ∀ σ H, Pv σ H → D.nx σ H) :
    ∃ W : Nat → Nat → L2.St → Hp → Prop, (∃ m, W 0 m σ H) ∧ ∀ i m σ H, W i m σ H →
      ((Itz K a b).stop i H ∧ D.nx σ H) ∨ ((Itz K a b).go i H ∧ ∃ N : L2.St → Hp → Prop, (∀ σ' H', N σ' H' → ∃ m', m' < m ∧ W (i + 1) m' σ' H') ∧ ∀ v H', (Itz K a b).yld i H v H' → g v σ H' fun σ2 H2 => tb { D with nx := N, ct := N, bk := D.nx } σ2 H2) := by
  refine ⟨fun i m σ H => m = xs.length - i ∧ Pv σ H, ⟨xs.length, rfl, h0⟩, ?_⟩
  rintro i m σ H ⟨rfl, p⟩
  obtain ⟨qx, qy⟩ := hq σ H p
  by_cases hlt : i < xs.length ∧ i < ys.length
  · have hx : xs[i]? = some xs[i] := List.getElem?_eq_getElem hlt.1
    have hy : ys[i]? = some ys[i] := List.getElem?_eq_getElem hlt.2
    refine .inr ⟨⟨xs, ys, _, _, qx, qy, hx, hy⟩, Pv, fun σ' H' p' => ⟨xs.length - (i + 1), by omega, rfl, p'⟩, fun v H' y => ?_⟩
    obtain ⟨T, x', y', rfl, hT, rfl, f1, f2⟩ := y
    exact hs x' y' T σ H (List.mem_of_getElem? (f1 xs qx)) (List.mem_of_getElem? (f2 ys qy)) p hT
  · refine .inl ⟨⟨xs, ys, qx, qy, ?_⟩, hd σ H p⟩
    omega
end Fc

namespace Fc
open PySem PySem.Spec L2 PyProof.Rows GxR GenW
variable [LamNames]
/-! ### generator expressions whose parts may call own defs -/
/-- the names of the expression's own block -/
structure GxOk (scope : Scope) : Prop where
  co : scope.isCoroutine = false
  cell : ∀ y ∈ scope.names, y.2 ≠ .cell
  dot : scope.names.lookup (".0" : Str) = some NameKind.local
abbrev gxEnv (X : Cx) (scope : Scope) (C : Addr) (code : Value) : Env := genEnv scope (cloFrom X.env.cells scope.names []) C code builtinsNs X.env
/-- its frame's context -/
abbrev gxc (X : Cx) (A' : Around) (s : Shared) (H : Hp) (scope : Scope) (C : Addr) (code : Value) (fp : List Addr) (pn : List (Addr × Obj)) : Cx :=
  { X with A := A'.deeper (gxEnv X scope C code), s_0 := s, H_0 := H, env := gxEnv X scope C code, outer := X.stack, stack := gxEnv X scope C code :: X.stack, ex := fp, fn := fun _ => false, calm := true, pn := pn, xe := fun _ _ => False }
theorem over_gx {A : Around} {elt tg iter : Expr} {ifs : List Expr} {scope : Scope} {pos : Pos} {it acc : Value} {env : Env} : A.over (.compLoop (.GeneratorExp elt [⟨tg, iter, ifs, 0⟩] scope pos) 0 it acc env) [] = A.deeper env := by
  obtain ⟨hd, d, fr, gs, u⟩ := A
  simp [Around.over, Around.deeper, marksOver, frameCount, unitsOf, envsOf, guardsOf, pushEnvs, pushGuards, Code.envs, Code.env?, Code.isFrame, Code.guards, Code.isGuard, Code.weight, Code.frames, Code.isCreation, Code.isCaller, Code.cUnits]
theorem over_gx0 {A : Around} {elt tg iter : Expr} {ifs : List Expr} {scope : Scope} {pos : Pos} {it acc : Value} {env : Env} : A.over (.compStart (.GeneratorExp elt [⟨tg, iter, ifs, 0⟩] scope pos) 0 it acc env) [] = A.deeper env := by
  obtain ⟨hd, d, fr, gs, u⟩ := A
  simp [Around.over, Around.deeper, marksOver, frameCount, unitsOf, envsOf, guardsOf, pushEnvs, pushGuards, Code.envs, Code.env?, Code.isFrame, Code.guards, Code.isGuard, Code.weight, Code.frames, Code.isCreation, Code.isCaller, Code.cUnits]
section
variable {X : Cx} {pins : List (Addr × Obj)} {σ : L2.St} {H : Hp} {s : Shared}
theorem gx_start {A' : Around} {scope : Scope} {own : List (Str × Nat)} {fp : List Addr} {code : Value} {pn : List (Addr × Obj)} {s5 : Shared} {m : Str → Option Value} (I : Inv X pins σ H s) (ok : BlkOk X.N X.env.scope scope own) (gk : GxOk scope) (hN : X.N.Nodup)
    (hfp : ∀ b ∈ fp, FpOk X pins H b ∧ b < s.heap.objs.size) (hA : A'.frames = some X.stack) (hh : A'.handled = none) (ho : s5.os = s.os) (hb5 : AllBare s5.gens) (kp : ∀ b o, s.heap.get? b = some o → s5.heap.get? b = some o) (hns : s5.heap.Ns s.heap.objs.size m)
    (hpn : ∀ p ∈ pn, s5.heap.get? p.1 = some p.2 ∧ s.heap.objs.size < p.1 ∧ ∀ v, p.2.data ≠ .cell v) :
    Inv (gxc X A' s H scope s.heap.objs.size code fp pn) [] (wipe σ (own.map (·.2))) H s5 := by
  have hfree : ∀ y ∈ scope.names, y.2 = .free → ∃ c, X.env.cells.lookup y.1 = some c := fun y hy e => by
    rcases ok.free y hy e with k | k
    · exact I.ok.has _ (.inl k)
    · exact I.ok.has _ (.inr k)
  have cm : ∀ {y c}, (y, c) ∈ cloFrom X.env.cells scope.names [] → X.env.cells.lookup y = some c ∧ c < s.heap.objs.size := fun {y c} hm => by
    rcases cloFrom_mem hm with hm | ⟨h1, rfl⟩
    · cases hm
    · obtain ⟨c, hc⟩ := hfree _ h1 rfl
      rw [hc]
      obtain ⟨w, z⟩ := I.cell _ _ hc
      exact ⟨rfl, z.lt⟩
  have mem : ∀ {y c}, (gxEnv X scope s.heap.objs.size code).cells.lookup y = some c → X.env.cells.lookup y = some c ∧ c < s.heap.objs.size := fun {y c} e => cm (PySem.mem_of_lookup e)
  have look : ∀ {y}, scope.names.lookup y = some .free → ∃ c, (gxEnv X scope s.heap.objs.size code).cells.lookup y = some c ∧ X.env.cells.lookup y = some c := fun {y} hl => by
    have hy : (y, NameKind.free) ∈ scope.names := PySem.mem_of_lookup hl
    obtain ⟨c', e'⟩ := mem_lookup (cloFrom_has (cells := X.env.cells) (acc := []) hy)
    exact ⟨c', e', (mem e').1⟩
  have okB : (gxc X A' s H scope s.heap.objs.size code fp pn).Ok := by
    refine ⟨I.ok.mod, ok.kind, I.ok.glob, rfl, Nat.le_refl _, fun y z c e1 e2 => I.ok.inj y z c (mem e1).1 (mem e2).1, fun y hy => ?_, (fun y c z e => nomatch (show false = true from z)), fun _ => hh, Around.frames_deeper hA, .inr ⟨rfl, rfl⟩, fun b hb => ⟨Nat.ne_of_lt (hfp b hb).2, fun y c e z => (hfp b hb).1.2.2.2.2.1 y c (mem e).1 z⟩, I.bs, Nat.le_trans I.ok.bsz I.sz, fun b o e hb => ?_, fun b hb z => ?_, I.stack, I.stkFree⟩
    · rcases hy with hy | hy
      · exact absurd rfl (gk.cell _ (PySem.mem_of_lookup hy))
      · obtain ⟨c, h1, _⟩ := look hy
        exact ⟨c, h1⟩
    · rcases (hfp b hb).1.2.2.2.1 with z | z
      · exact I.ok.noex b o e z
      · exact absurd (Nat.lt_of_lt_of_le (Heap.lt_size e) (Nat.le_trans I.ok.bsz z)) (Nat.lt_irrefl _)
    · rcases List.mem_cons.mp (I.stkSub b z) with z | z
      · exact (hfp b hb).1.2.1 z
      · exact (hfp b hb).1.2.2.1 z
  refine ⟨okB, ho, hb5, Un.kept kp, ⟨m, hns, fun i y av e1 e2 e3 => ?_⟩, fun y c e => ?_, I.hok.fresh (Nat.le_refl _), fun y c e => I.freeC y c (mem e).1, fun p hp => ?_, I.hok.kept kp, by rw [wipe_length]; exact I.len⟩
  · obtain ⟨e2, hne⟩ := wipe_some e2
    have no : ∀ k', scope.names.lookup y = some k' → ¬ (k' = .local ∨ k' = .cell) := fun k' e hh => by
      rcases ok.own _ (PySem.mem_of_lookup e) hh with e' | e'
      · obtain ⟨p, hp, hpy⟩ := List.mem_map.mp e'
        have e3 := ok.ix p hp
        have : p.1 = y := hpy
        rw [this] at e3
        exact hne (List.mem_map.mpr ⟨p, hp, nodup_ix hN e3 e1⟩)
      · exact e' (List.mem_of_getElem? e1)
    have e3 : scope.names.lookup y = some .local ∨ scope.names.lookup y = some .cell ∨ scope.names.lookup y = some .free := e3
    have hfr : scope.names.lookup y = some .free := by
      rcases e3 with e3 | e3 | e3
      · exact absurd (.inl rfl) (no _ e3)
      · exact absurd (.inr rfl) (no _ e3)
      · exact e3
    obtain ⟨m', hn, hl⟩ := I.loc
    have hvis : Vis X.env.scope y := (ok.free _ (PySem.mem_of_lookup hfr) rfl).elim (fun k => .inr (.inl k)) (fun k => .inr (.inr k))
    obtain ⟨w, r, q⟩ := hl i y av e1 e2 hvis
    refine ⟨w, r, .inr ⟨.inr hfr, ?_⟩⟩
    obtain ⟨c, h1, h2⟩ := look hfr
    rcases q with ⟨k, _⟩ | ⟨_, c', e', z⟩
    · have k : X.env.scope.names.lookup y = some .local := k
      rcases ok.free _ (PySem.mem_of_lookup hfr) rfl with k' | k' <;> rw [show X.env.scope.names.lookup y = _ from k'] at k <;> cases k
    · rw [h2] at e'; cases e'
      exact ⟨c, h1, z.keeps kp⟩
  · obtain ⟨w, z⟩ := I.cell y c (mem e).1
    exact ⟨w, z.keeps kp⟩
  · have hp' : p ∈ pn := by
      have : p ∈ pn ++ [] := hp
      rwa [List.append_nil] at this
    obtain ⟨h1, h2, h3⟩ := hpn p hp'
    refine ⟨h1, I.hok.fresh (Nat.le_of_lt h2), Nat.ne_of_gt h2, fun z => ?_, h3⟩
    have : p.1 ∈ frs X.stack := z
    rcases List.mem_cons.mp (I.stkSub p.1 this) with z | z
    · rw [z] at h2
      exact absurd (Nat.lt_trans h2 I.lt) (Nat.lt_irrefl _)
    · exact I.nofs (Nat.le_of_lt h2) z
/-- the table of generators, the tokens may change -/
def Slp (s s' : Shared) : Prop := s'.heap = s.heap ∧ s'.os = s.os ∧ AllBare s'.gens
theorem Slp.inv {Y : Cx} {pins : List (Addr × Obj)} {σ : L2.St} {H : Hp} {s s' : Shared} (I : Inv Y pins σ H s) (z : Slp s s') : Inv Y pins σ H s' := by
  obtain ⟨h1, h2, h3⟩ := z
  exact ⟨I.ok, h2.trans I.os, h3, by rw [h1]; exact I.base, by rw [h1]; exact I.loc, by rw [h1]; exact I.cell, I.free, I.freeC, by rw [h1]; exact I.pin, by rw [h1]; exact I.hok, I.len⟩
end
/-! ### the walk for all -/
/-- the reading: W of the turn, a measure, the heap -/
def GWalk (J : It) (g : TG) (tt : TT) (te : TE) (vs : List Nat) (σ : L2.St) (take : V → Hp → (Hp → Prop) → Prop) (fin : Hp → Prop) (W : Nat → Nat → Hp → Prop) : Prop :=
  ∀ i m H, W i m H → (J.stop i H ∧ fin H) ∨ (J.go i H ∧ ∃ Nx : Hp → Prop, (∀ H', Nx H' → ∃ m', m' < m ∧ W (i + 1) m' H') ∧ ∀ x H', J.yld i H x H' → g x (wipe σ vs) H' fun σ2 H2 => wipe σ2 vs = wipe σ vs ∧ tt σ2 H2 fun b H3 =>
    if b = true then te σ2 H3 fun y H4 => take y H4 Nx else Nx H3)
def takeAll (Q : VK) (y : V) (H : Hp) (Nx : Hp → Prop) : Prop := ∃ k, y = .bl k ∧ (k = true → Nx H) ∧ (k = false → Q (.bl false) H)
def allY (Y : Cx) (σ : L2.St) (Q : VK) : Protocol := fun n s₀ v s kap => ∃ (k : Bool) (H' : Hp), v = .bool k ∧ Inv Y [] σ H' s ∧ (k = false → Q (.bl false) H') ∧ (k = true → ∀ s'', Slp s s'' → kap (.send .none) s'')
def allF (Y : Cx) (σ : L2.St) (Q : VK) (s₁ : Shared) : Prop := ∃ H', Inv Y [] σ H' s₁ ∧ Q (.bl true) H'
def allR (Y : Cx) (σ : L2.St) (Q : VK) : GenEnd := fun _ _ r s₁ => ((r = .ok (.ret .none) ∨ r = .ok .next) ∧ allF Y σ Q s₁) ∨ ∃ e, r = .error e ∧ False
section
variable {X : Cx} {A' : Around} {s4 : Shared} {H4 : Hp} {scope : Scope} {C : Addr} {code : Value} {fp : List Addr} {pn : List (Addr × Obj)}
theorem gx_loop {elt iter : Expr} {x : Str} {px pos : Pos} {ifs : List Expr} {vs : List Nat} {σ : L2.St} {g : TG} {tt : TT} {te : TE} {J : It} {it : Addr} {tn : Nat → Heap → Prop} {Q : VK} {W : Nat → Nat → Hp → Prop}
    (gk : GxOk scope) (hpn : ∀ p ∈ pn, p.1 ∉ fp)
    (T : Turn X.prog X.w X.K (.Name x px) J fp it tn)
    (pg : PG (gxc X A' s4 H4 scope C code fp pn) (.Name x px) g) (pt : PTs (gxc X A' s4 H4 scope C code fp pn) ifs tt) (pe : PE (gxc X A' s4 H4 scope C code fp pn) elt te)
    (turn : GWalk J g tt te vs σ (takeAll Q) (Q (.bl true)) W) :
    ∀ (m n i : Nat) (s₀ s : Shared) (H : Hp), W i m H → m < n → Inv (gxc X A' s4 H4 scope C code fp pn) [] (wipe σ vs) H s → tn i s.heap → (∀ b ∈ fp, H b = none) →
      Seg (model X.prog X.w) A' (allR (gxc X A' s4 H4 scope C code fp pn) (wipe σ vs) Q) (allY (gxc X A' s4 H4 scope C code fp pn) (wipe σ vs) Q) n s₀
        (.compLoop (.GeneratorExp elt [⟨.Name x px, iter, ifs, 0⟩] scope pos) 0 (.ref it) .none (gxEnv X scope C code)) ((model X.prog X.w).den (.compLoop (.GeneratorExp elt [⟨.Name x px, iter, ifs, 0⟩] scope pos) 0 (.ref it) .none (gxEnv X scope C code))) [] s := by
  generalize hY : gxc X A' s4 H4 scope C code fp pn = Y at pg pt pe
  have eP : Y.prog = X.prog := by rw [← hY]
  have ew : Y.w = X.w := by rw [← hY]
  have eK : Y.K = X.K := by rw [← hY]
  have eA : Y.A = A'.deeper (gxEnv X scope C code) := by rw [← hY]
  have eE : Y.env = gxEnv X scope C code := by rw [← hY]
  have ex : Y.ex = fp := by rw [← hY]
  have exe : Y.xe = fun _ _ => False := by rw [← hY]
  have epn : Y.pn = pn := by rw [← hY]
  have ecalm : Y.calm = true := by rw [← hY]
  have stat : ∀ {σ' : L2.St} {H' : Hp} {s' : Shared}, Inv Y [] σ' H' s' → (∀ b ∈ fp, H' b = none) → ∀ b ∈ fp, FpOk Y [] H' b := fun {σ' H' s'} I' hn b hb =>
    ⟨hn b hb, (I'.ok.exf b (by rw [ex]; exact hb)).1, I'.ok.exfs b (by rw [ex]; exact hb), .inl (by rw [ex]; exact hb), fun x c e => (I'.ok.exf b (by rw [ex]; exact hb)).2 x c e, fun p hp z => by
      rw [epn, List.append_nil] at hp
      exact hpn p hp (by rw [z]; exact hb)⟩
  intro m
  induction m using Nat.strongRecOn with
  | ind m ih =>
    intro n i s₀ s H w hmn I st nf
    show Seg _ A' _ _ _ s₀ _ ((compTurn (.GeneratorExp elt [⟨.Name x px, iter, ifs, 0⟩] scope pos) 0 (.ref it) .none (gxEnv X scope C code)).onRaise (leaving (gxEnv X scope C code))) [] s
    rw [compTurn_gen, Sem.onRaise_eq_wrap]
    refine seg_bind_wrap (wpAny_standAt ?_)
    rcases turn i m H w with ⟨stop, qq⟩ | ⟨go, Nx, hNx, step⟩
    · have td := T.done Y eP ew eK ecalm i [] s _ H (fun _ _ => False) I (stat I nf) st stop
      rw [eA] at td
      refine seg_bind_wrap ?_
      rw [over_gx]
      refine thnF td fun r s6 ⟨hr, I6⟩ => ?_
      subst hr
      exact seg_end (.ok .next) (.inl ⟨.inr rfl, H, I6, qq⟩)
    · have ti := T.item Y eP ew eK ecalm i [] s _ H (fun _ _ => False) I (stat I nf) st go
      rw [eA] at ti
      refine seg_bind_wrap ?_
      rw [over_gx]
      refine thnF ti fun r s6 ⟨u, hr, h6⟩ => ?_
      subst hr
      refine seg_bind_wrap ?_
      rw [over_gx]
      refine thnF h6 fun _ s7 ⟨y, H7, I7, r7, y7, st7, n7⟩ => ?_
      have I7' := I7.pinned (stat I7 n7) (T.obj _ _ st7)
      have pgr := pg.run _ s7 _ H7 y u _ I7' r7 (step y H7 y7)
      rw [eP, ew, eA, exe, eE] at pgr
      refine seg_bind_wrap ?_
      rw [over_gx]
      refine thnF pgr fun _ s8 ⟨σ8, H8, I8, hw8, q8⟩ => ?_
      have ptr := pt.run _ s8 σ8 H8 _ I8 q8
      rw [eP, ew, eA, exe, eE] at ptr
      refine seg_bind_wrap ?_
      rw [over_gx]
      refine thnF ptr fun b s9 ⟨H9, I9, q9⟩ => ?_
      have fin : ∀ {s' : Shared} {H' : Hp}, Inv Y ([] ++ pinsAt fp s7.heap) σ8 H' s' → Inv Y [] (wipe σ vs) H' s' ∧ tn (i + 1) s'.heap ∧ (∀ b ∈ fp, H' b = none) := fun {s' H'} I' => by
        have pin' : ∀ b ∈ fp, ∀ o, s7.heap.get? b = some o → s'.heap.get? b = some o ∧ H' b = none := fun b hb o e =>
          let z := I'.pin (b, o) (List.mem_append_right _ (List.mem_append_right _ (mem_pinsAt hb e)))
          ⟨z.1, z.2.1⟩
        have hl : (wipe σ vs).length = σ8.length := by rw [← hw8, wipe_length]
        refine ⟨(I'.unpinned (pins := [])).weak hl (fun j v e => ?_), T.keep _ _ _ st7 fun b hb o e => (pin' b hb o e).1, fun b hb => ?_⟩
        · rw [← hw8] at e
          exact (wipe_some e).1
        · obtain ⟨o, e, _⟩ := T.obj _ _ st7 b hb
          exact (pin' b hb o e).2
      cases b with
      | false =>
        simp only [Bool.false_eq_true, if_false] at q9 ⊢
        obtain ⟨f1, f2, f3⟩ := fin I9
        obtain ⟨m', hm', w'⟩ := hNx _ q9
        exact seg_again rfl (ih m' hm' n (i + 1) s₀ s9 H9 w' (by omega) f1 f2 f3)
      | true =>
        simp only [if_true] at q9 ⊢
        have hy : ∀ v, yieldOut (gxEnv X scope C code) v = yieldValue v := fun v => by
          have hco : (gxEnv X scope C code).scope.isCoroutine = false := gk.co
          simp only [yieldOut, hco, Bool.false_eq_true, if_false]
        simp only [hy]
        rw [Sem.bind_eq_wrap', Sem.bind_eq_wrap', Sem.wrap_wrap, Sem.wrap_wrap]
        have per := pe.run _ s9 σ8 H9 _ I9 q9
        rw [eP, ew, eA, exe, eE] at per
        refine seg_wrap ?_
        rw [over_gx]
        refine thnF per fun z s10 ⟨yv, H10, I10, r10, k, ek, kt, kf⟩ => ?_
        subst ek
        obtain rfl : z = .bool k := r10
        obtain ⟨f1, f2, f3⟩ := fin I10
        cases n with
        | zero => omega
        | succ n' =>
          refine seg_at (seg_yield rfl rfl rfl ⟨k, H10, rfl, f1, kf, fun ek s'' z => ?_⟩)
          obtain ⟨m', hm', w'⟩ := hNx _ (kt ek)
          have z1 := z.1
          exact seg_again rfl (ih m' hm' n' (i + 1) s'' s'' H10 w' (by omega) (z.inv f1) (by rw [z1]; exact f2) f3)
theorem gx_begin {elt iter : Expr} {x : Str} {px pos : Pos} {ifs : List Expr} {vs : List Nat} {σ : L2.St} {g : TG} {tt : TT} {te : TE} {J : It} {it : Addr} {tn : Nat → Heap → Prop} {Q : VK} {W : Nat → Nat → Hp → Prop}
    (gk : GxOk scope) (hpn : ∀ p ∈ pn, p.1 ∉ fp)
    (T : Turn X.prog X.w X.K (.Name x px) J fp it tn)
    (pg : PG (gxc X A' s4 H4 scope C code fp pn) (.Name x px) g) (pt : PTs (gxc X A' s4 H4 scope C code fp pn) ifs tt) (pe : PE (gxc X A' s4 H4 scope C code fp pn) elt te)
    (turn : GWalk J g tt te vs σ (takeAll Q) (Q (.bl true)) W) (m n : Nat) (s₀ s : Shared) (H : Hp) (w : W 0 m H) (hmn : m < n) (I : Inv (gxc X A' s4 H4 scope C code fp pn) [] (wipe σ vs) H s) (st : tn 0 s.heap) (nf : ∀ b ∈ fp, H b = none) :
      Seg (model X.prog X.w) A' (allR (gxc X A' s4 H4 scope C code fp pn) (wipe σ vs) Q) (allY (gxc X A' s4 H4 scope C code fp pn) (wipe σ vs) Q) n s₀
        (.compStart (.GeneratorExp elt [⟨.Name x px, iter, ifs, 0⟩] scope pos) 0 (.ref it) .none (gxEnv X scope C code)) ((model X.prog X.w).den (.compStart (.GeneratorExp elt [⟨.Name x px, iter, ifs, 0⟩] scope pos) 0 (.ref it) .none (gxEnv X scope C code))) [] s := by
  have loop := gx_loop (iter := iter) (pos := pos) gk hpn T pg pt pe turn m n 0 s₀ s H w hmn I st nf
  show Seg _ A' _ _ _ s₀ _ ((compStart (.GeneratorExp elt [⟨.Name x px, iter, ifs, 0⟩] scope pos) 0 (.ref it) .none (gxEnv X scope C code)).onRaise (leaving (gxEnv X scope C code))) [] s
  unfold compStart
  rw [Sem.onRaise_eq_wrap]
  show Seg _ A' _ _ _ s₀ _ ((ask >>= _).wrap _ _ _ _) [] s
  refine seg_bind_wrap (wpAny_askSetting ?_)
  split
  · exact seg_again rfl loop
  · first
      | exact seg_bind_wrap (wpAny_rule (seg_bind_wrap (wpAny_standAt (seg_bind_wrap (T.self _ 0 s _ _ st (seg_again rfl loop))))))
      | (refine seg_bind_wrap (wpAny_rule ?_); show Seg _ A' _ _ _ s₀ _ ((standAt iter.pos >>= _).wrap _ _ _ _) [] s; exact seg_bind_wrap (wpAny_standAt (seg_bind_wrap (T.self _ 0 s _ _ st (seg_again rfl loop)))))
/-- the loop of all, by what each next tells -/
theorem all_by {P : Program} {w : World} {A : Around} {a : Addr} {R : Result → Shared → Prop} (St : Nat → Shared → Prop)
    (step : ∀ m s, St m s → wpAny (model P w) A.in1 (pyNext (.ref a)) (fun r s1 => match r with | none => R (.ok (.ret (.bool true))) s1 | some v => ∃ k : Bool, v = .bool k ∧ (k = true → ∃ m', m' < m ∧ St m' s1) ∧ (k = false → R (.ok (.ret (.bool false))) s1)) (fun _ _ => False) s) :
    ∀ (m : Nat) (s : Shared), St m s → codeAny (model P w) A (.builtin "all.loop" ⟨[.ref a], []⟩) R s := by
  intro m
  induction m using Nat.strongRecOn with
  | ind m ih =>
    intro s hst
    refine codeAny_builtin F.entry_all_loop ?_
    rw [Around.under_plainId F.plain_all_loop _]
    show wpAny _ A.in1 (pyNext (.ref a) >>= _) _ _ s
    refine wpAny_bind (thnF (step m s hst) fun r s1 h => ?_)
    cases r with
    | none => exact wpAny_bind (wpAny_rule (wpAny_pure h))
    | some v =>
      obtain ⟨k, rfl, h1, h2⟩ := h
      refine wpAny_bind (wpAny_holding (wpAny_truthy_bool ?_))
      refine wpAny_bind (wpAny_letGo ?_)
      cases k with
      | true =>
        obtain ⟨m', hm, st'⟩ := h1 rfl
        simp only [if_true]
        exact wpAny_pure ⟨plainId_quiet F.plain_all_loop _, ih m' hm s1 st'⟩
      | false =>
        simp only [Bool.false_eq_true, if_false]
        exact wpAny_bind (wpAny_rule (wpAny_pure (h2 rfl)))
end
section
variable {X : Cx}
/-- all(elt for x in iter if ..): P the table of the def's code -/
def tAllG (P : Addr) (wi : TI) (g : TG) (tt : TT) (te : TE) (vs : List Nat) : TE := fun σ H Q => wi σ H fun J H1 => TabG H1 P ∧ ∀ H2, Tabbed P H1 H2 → ∃ W : Nat → Nat → Hp → Prop, (∃ m, W 0 m H2) ∧ GWalk J g tt te vs σ (takeAll Q) (Q (.bl true)) W
theorem pe_allG {c P : Addr} {elt iter : Expr} {x : Str} {px p pos gpos : Pos} {ifs : List Expr} {scope : Scope} {own : List (Str × Nat)} {wi : TI} {g : TG} {tt : TT} {te : TE} {k : Nat}
    (hr : Room (k + 2) X.A) (hg : Gl X "all") (hm : X.mg "all" = none) (hb : bootBuiltins "all" = some (.builtin "all")) (TB : TabB X.base X.mg c P) (hcode : X.env.code = .ref c) (hN : X.N.Nodup) (ok : BlkOk X.N X.env.scope scope own) (gk : GxOk scope)
    (hi : PI X (.Name x px) iter wi) (hgt : ∀ (A' : Around) (s : Shared) (H : Hp) (C : Addr) (code : Value) (fp : List Addr) (pn : List (Addr × Obj)), PG (gxc X A' s H scope C code fp pn) (.Name x px) g)
    (ht : ∀ (A' : Around) (s : Shared) (H : Hp) (C : Addr) (code : Value) (fp : List Addr) (pn : List (Addr × Obj)), Room k (gxc X A' s H scope C code fp pn).A → PTs (gxc X A' s H scope C code fp pn) ifs tt)
    (he : ∀ (A' : Around) (s : Shared) (H : Hp) (C : Addr) (code : Value) (fp : List Addr) (pn : List (Addr × Obj)), Room k (gxc X A' s H scope C code fp pn).A → PE (gxc X A' s H scope C code fp pn) elt te)
    (hs : ∀ v, genFold iter X.env v = pure v)
    (hst : starEach [.GeneratorExp elt [⟨.Name x px, iter, ifs, 0⟩] scope gpos] X.env = (false, eval (.GeneratorExp elt [⟨.Name x px, iter, ifs, 0⟩] scope gpos) X.env) :: starEach [] X.env := by rfl) :
    PE X (.Call (.Name "all" p) [.GeneratorExp elt [⟨.Name x px, iter, ifs, 0⟩] scope gpos] [] pos) (tAllG P wi g tt te (own.map (·.2))) := by
  refine ⟨fun pins s σ H Q I h => ?_⟩
  refine wpAny_Call_Name_kw (ld_blt I hg hm hb ?_)
  refine PyProof.Rows.callWith_builtin1 ?_ hst (by rfl)
  rw [hst]
  show wpAny _ _ (spliced ((false, eval (.GeneratorExp elt [⟨.Name x px, iter, ifs, 0⟩] scope gpos) X.env) :: backTo pos (starEach [] X.env))) _ _ s
  have hfree : ∀ y ∈ scope.names, y.2 = .free → ∃ c, X.env.cells.lookup y.1 = some c := fun y hy e => by
    rcases ok.free y hy e with k | k
    · exact I.ok.has _ (.inl k)
    · exact I.ok.has _ (.inr k)
  refine Calls.spliced_cons (wpAny_GeneratorExp_make gk.co (closure_ok hfree) gk.cell gk.dot ok.kind (by have := hr.dp; omega) (thn (hi.run pins s σ H _ I h) fun xv s1 hx => thn hx fun itv s2 h2 => ?_) hs)
  obtain ⟨it, fp, tn, J, H2, e, I2, T, st2, f2, ⟨ps, hP, htr⟩, q⟩ := h2
  subst e
  have hPs : s2.heap.get? P = some { cls := .none, data := .fields ps } := I2.hok P _ hP
  have nPf : P ∉ fp := fun z => by
    have := (f2 P z).1
    rw [hP] at this
    cases this
  have cd : PySem.W.CodeHd s2.heap c P := TB.code.keeps I2.bk
  refine ⟨I2.nolimit, ?_⟩
  have cont : ∀ (code : Value) (h3 : Heap) (tk : Nat) (more : Array Value), Heap.ExtBut P s2.heap h3 → h3.get? P = some { cls := .none, data := .fields (ps ++ more) } → TriplesOk (ps ++ more).toList →
      wpAny (model X.prog X.w) X.A (builtinsFor X.env.globals X.env.builtins) (fun bi s₄ => ∀ h', h'.Ns s₄.heap.objs.size (fun y => if y = ".0" then some (.ref it) else none) → Heap.SameBut s₄.heap.objs.size (s₄.heap.push { cls := .type "frame", data := .dict #[] }) h' →
        wpAny (model X.prog X.w) X.A (spliced (backTo pos (starEach [] X.env))) (fun us s' => wpAny (model X.prog X.w) X.A (call (.builtin "all") (.ref h'.objs.size :: us)) (EP X pins σ Q) X.xe s') X.xe { s₄ with
            gens := s₄.gens.push (.fresh (.compStart (.GeneratorExp elt [⟨.Name x px, iter, ifs, 0⟩] scope gpos) 0 (.ref it) .none (genEnv scope (cloFrom X.env.cells scope.names []) s₄.heap.objs.size code bi X.env))),
            toks := s₄.toks + 1 + 1 + 1,
            heap := h'.push { cls := .type "generator", data := .fields #[.int s₄.gens.size 0, .str "<genexpr>" (s₄.toks + 1), .str (X.env.qual ++ "<genexpr>") (s₄.toks + 1 + 1)] } }) X.xe { s2 with heap := h3, toks := tk } := by
    intro code h3 tk more hx hP3 ht3
    have I3 : Inv X pins σ (upd H2 P (.tbl (ps ++ more))) { s2 with heap := h3, toks := tk } := inv_tab (g' := s2.gens) (d' := s2.drawn) (t' := tk) I2 hP (fun b o hb e => hx b o hb e) hP3 I2.bare
    have hb2 : AllBare s2.gens := I2.bare
    have st3 : tn 0 h3 := T.keep _ _ _ st2 fun b hb o e => hx b o (fun z => nPf (by rw [← z]; exact hb)) e
    have f3 : ∀ b ∈ fp, FpOk X pins (upd H2 P (.tbl (ps ++ more))) b ∧ b < h3.objs.size := fun b hb => by
      have nb : b ≠ P := fun z => nPf (by rw [← z]; exact hb)
      obtain ⟨o, e, _⟩ := T.obj _ _ st2 b hb
      refine ⟨⟨?_, (f2 b hb).2⟩, Heap.lt_size (hx b o nb e)⟩
      rw [upd_ne nb]
      exact (f2 b hb).1
    obtain ⟨W, ⟨m0, w0⟩, turn⟩ := q (upd H2 P (.tbl (ps ++ more))) ⟨⟨ps ++ more, upd_same, ht3⟩, fun b hb => upd_ne hb⟩
    obtain ⟨bm, ob, e1, e2, e3, e4, e5, e6, e7, e8⟩ := TB.bm
    refine wpAny_builtinsFor (m := X.mg) (by rw [I3.ok.glob]; exact I3.mod.glob.keeps I3.bk) e1 e2 (I3.bk _ _ e5) e6 e7 e8 ?_
    intro h' hn' hs'
    have hn' : h'.Ns h3.objs.size (fun y => if y = ".0" then some (.ref it) else none) := hn'
    have hs' : Heap.SameBut h3.objs.size (h3.push { cls := .type "frame", data := .dict #[] }) h' := hs'
    have hsz : h'.objs.size = h3.objs.size + 1 := by rw [hs'.1, Heap.size_push]
    have keep' : ∀ b o, h3.get? b = some o → h'.get? b = some o := fun b o e => hs'.extBut b o (Nat.ne_of_lt (Heap.lt_size e)) (Heap.get?_push_of_some _ e)
    generalize hH3 : upd H2 P (.tbl (ps ++ more)) = H3 at I3 f3 w0
    generalize hgo : ({ cls := .type "generator", data := .fields #[.int s2.gens.size 0, .str "<genexpr>" (tk + 1), .str (X.env.qual ++ "<genexpr>") (tk + 1 + 1)] } : Obj) = go
    have goC : ∀ v, go.data ≠ .cell v := fun v z => by rw [← hgo] at z; cases z
    have goF : go.isFreed = false := by rw [← hgo]; rfl
    generalize hs5 : ({ s2 with heap := h'.push go, toks := tk + 1 + 1 + 1, gens := s2.gens.push (.fresh (.compStart (.GeneratorExp elt [⟨.Name x px, iter, ifs, 0⟩] scope gpos) 0 (.ref it) .none (gxEnv X scope h3.objs.size code))) } : Shared) = s5
    have k5 : ∀ b o, h3.get? b = some o → s5.heap.get? b = some o := fun b o e => by rw [← hs5]; exact Heap.get?_push_of_some _ (keep' b o e)
    have g5 : s5.heap.get? h'.objs.size = some go := by rw [← hs5]; exact Heap.get?_push_size _ goF
    have b5 : AllBare s5.gens := by rw [← hs5]; exact I2.bare.push rfl
    have I5 := gx_start (A' := X.A.in1.in1) (code := code) (pn := [(h'.objs.size, go)]) (s5 := s5) (s := { s2 with heap := h3, toks := tk }) I3 ok gk hN f3 I2.ok.frames hr.hd (by rw [← hs5]) b5 k5 (by rw [← hs5]; exact hn'.push _) (fun p hp => by
      rw [List.mem_singleton.mp hp]
      exact ⟨g5, by show h3.objs.size < h'.objs.size; omega, goC⟩)
    have rk : Room k (gxc X X.A.in1.in1 { s2 with heap := h3, toks := tk } H3 scope h3.objs.size code fp [(h'.objs.size, go)]).A := ⟨hr.hd, by have := hr.dp; show X.A.depth + 1 + 3 * k + 5 < _; omega, by have := hr.un; show X.A.units + 1 + 1 + 3 + 16 * k + 200 < _; omega⟩
    have pg := hgt X.A.in1.in1 { s2 with heap := h3, toks := tk } H3 h3.objs.size code fp [(h'.objs.size, go)]
    have pt := ht X.A.in1.in1 { s2 with heap := h3, toks := tk } H3 h3.objs.size code fp [(h'.objs.size, go)] rk
    have pe := he X.A.in1.in1 { s2 with heap := h3, toks := tk } H3 h3.objs.size code fp [(h'.objs.size, go)] rk
    have npn : ∀ p ∈ [(h'.objs.size, go)], p.1 ∉ fp := fun p hp z => by
      rw [List.mem_singleton.mp hp] at z
      have h9 : h'.objs.size < h3.objs.size := (f3 _ z).2
      omega
    have nf : ∀ b ∈ fp, H3 b = none := fun b hb => (f3 b hb).1.1
    have isG : ∀ {h : Heap}, h.get? h'.objs.size = some go → h.IsGen h'.objs.size s2.gens.size := fun {h} e => ⟨go, .str "<genexpr>" (tk + 1), .str (X.env.qual ++ "<genexpr>") (tk + 1 + 1), e, by rw [← hgo], by rw [← hgo], by rw [← hgo]⟩
    have back : ∀ {H' : Hp} {s₁ s' : Shared}, Inv (gxc X X.A.in1.in1 { s2 with heap := h3, toks := tk } H3 scope h3.objs.size code fp [(h'.objs.size, go)]) [] (wipe σ (own.map (·.2))) H' s₁ → s'.os = s₁.os → AllBare s'.gens → (∀ b o, s₁.heap.get? b = some o → s'.heap.get? b = some o) → Inv X pins σ H' s' := fun {H' s₁ s'} I' ho hb k =>
      I3.call' (ch := fp) (ho.trans I'.os) (I'.base.trans (Un.kept k)) (I'.hok.kept k) hb fun b hb => ⟨(f3 b hb).1.2.2.2.1, (f3 b hb).1.2.1, (f3 b hb).1.2.2.2.2.1, (f3 b hb).1.2.2.2.2.2⟩
    refine Calls.spliced_nil ?_
    show wpAny (model X.prog X.w) X.A (call (.builtin "all") [.ref h'.objs.size]) (EP X pins σ Q) X.xe s5
    refine call_function_tree F.kind_all F.plain_all F.entry_all (F.args_all1 _) ?_
    unfold Builtin.«all»
    refine wpAny_bind (m := oneArg "all" _) (wpAny_pure ?_)
    refine wpAny_bind (wpAny_pyIter_gen (isG g5) ?_)
    refine wpAny_pure ⟨plainId_quiet F.plain_all_loop _, ?_⟩
    refine all_by (A := X.A) (fun n s => s.heap.IsGen h'.objs.size s2.gens.size ∧ s.heap.NoLimit ∧ ∃ gs, s.gens[s2.gens.size]? = some gs ∧ gs.Goes (model X.prog X.w) X.A.in1.in1 (allR (gxc X X.A.in1.in1 { s2 with heap := h3, toks := tk } H3 scope h3.objs.size code fp [(h'.objs.size, go)]) (wipe σ (own.map (·.2))) Q) (allY (gxc X X.A.in1.in1 { s2 with heap := h3, toks := tk } H3 scope h3.objs.size code fp [(h'.objs.size, go)]) (wipe σ (own.map (·.2))) Q) n (.send .none) (s.setGen s2.gens.size .running)) ?_ (m0 + 1) s5 ?_
    · rintro n s ⟨hgn, hl, gs, hgs, hgoes⟩
      have hgl : s2.gens.size < s.gens.size := (Array.getElem?_eq_some_iff.mp hgs).1
      refine wpAny_gsz (n := s2.gens.size + 1) hgl (next_genG (A := X.A.in1) (F := fun _ _ s₁ => allF (gxc X X.A.in1.in1 { s2 with heap := h3, toks := tk } H3 scope h3.objs.size code fp [(h'.objs.size, go)]) (wipe σ (own.map fun (y : Str × Nat) => y.2)) Q s₁) (Er := fun _ _ => False) hr.hd hl (by have := hr.dp; show X.A.depth < _; omega) hgn hgs hgoes (fun v s₁ gs' hbare hv => ?_) (fun s₁ hp h'' hk => ?_) fun e s₁ he => he.elim)
      · intro hsz
        obtain ⟨kb, H', rfl, I', kf, kt⟩ := hv
        have hsz1 : s2.gens.size < s₁.gens.size := by
          have q : (s₁.setGen s2.gens.size gs').gens.size = s₁.gens.size := setGen_size _ _ _
          have hsz' : s2.gens.size + 1 ≤ (s₁.setGen s2.gens.size gs').gens.size := hsz
          omega
        refine ⟨kb, rfl, fun ek => ?_, fun ek => ?_⟩
        · have kt' := kt ek
          cases n with
          | zero => exact (kt' s₁ ⟨rfl, rfl, I'.bare⟩).elim
          | succ n' =>
            refine ⟨n', Nat.lt_succ_self _, isG (I'.pin (h'.objs.size, go) (by simp)).1, I'.nolimit, gs', setGen_at hsz1, kt' _ ⟨rfl, rfl, allBare_setGen (allBare_setGen I'.bare hbare) rfl⟩⟩
        · subst ek
          exact ⟨.bl false, H', back (s' := s₁.setGen s2.gens.size gs') I' rfl (allBare_setGen I'.bare hbare) (fun _ _ e => e), rfl, kf rfl⟩
      · intro _
        obtain ⟨H', I', q'⟩ := hp
        exact ⟨.bl true, H', back (s' := { s₁.setGen s2.gens.size .finished with heap := h'' }) I' rfl (allBare_setGen I'.bare rfl) hk, rfl, q'⟩
    · refine ⟨isG g5, I5.nolimit, .fresh (.compStart (.GeneratorExp elt [⟨.Name x px, iter, ifs, 0⟩] scope gpos) 0 (.ref it) .none (gxEnv X scope h3.objs.size code)), by rw [← hs5]; exact Array.getElem?_push_size .., rfl, ?_⟩
      exact gx_begin gk npn T pg pt pe turn m0 (m0 + 1) _ _ H3 w0 (Nat.lt_succ_self _) (Slp.inv I5 ⟨rfl, rfl, allBare_setGen b5 rfl⟩) (T.keep _ _ _ st3 fun b hb o e => k5 b o e) nf
  cases hf : codeAmong gpos ps.toList with
  | none =>
    refine wpAny_genexprCodeX hcode (cd.code hPs htr) (cd.tab hPs) hf fun c' h' tk hx hge hlt hco' _ htab' _ => ?_
    obtain ⟨o1, vs, f1, tf, fl, tg, inF, tx, tt, op, _, _, _, _, _, _, _, _, _, htr', _⟩ := hco'
    exact cont _ h' tk _ hx htab'.2 htr'
  | some cv =>
    refine wpAny_genexprCode_hit hcode (cd.code hPs htr) hf ?_
    exact cont cv s2.heap s2.toks #[] (Heap.ExtBut.refl _ _) (by simpa using hPs) (by simpa using htr)
end
end Fc

namespace Fc
open PySem PySem.Spec L2 PyProof.Rows GxR GenW
variable [LamNames]
/-! ### the walk for tuple: what is handed out stands in the consumer's list at S -/
def GWalkT (J : It) (g : TG) (tt : TT) (te : TE) (vs : List Nat) (σ : L2.St) (fin : List V → Hp → Prop) (W : Nat → Nat → List V → Hp → Prop) : Prop :=
  ∀ i m ys H, W i m ys H → (J.stop i H ∧ fin ys H) ∨ (J.go i H ∧ ∃ Nx : List V → Hp → Prop, (∀ ys' H', Nx ys' H' → ∃ m', m' < m ∧ W (i + 1) m' ys' H') ∧ ∀ x H', J.yld i H x H' → g x (wipe σ vs) H' fun σ2 H2 => wipe σ2 vs = wipe σ vs ∧ tt σ2 H2 fun b H3 =>
    if b = true then te σ2 H3 fun y H4 => ys.length < sizeLine ∧ Nx (ys ++ [y]) H4 else Nx ys H3)
def tupY (Y : Cx) (σ : L2.St) (S : Addr) : Protocol := fun n s₀ v s kap => ∃ (ys : List V) (y : V) (H' : Hp), RelV y v ∧ GI Y S [] ys σ H' s ∧ ys.length < sizeLine ∧ ∀ s'', Slept S v s s'' → kap (.send .none) s''
def tupF (Y : Cx) (σ : L2.St) (S : Addr) (fin : List V → Hp → Prop) (s₁ : Shared) : Prop := ∃ ys H', GI Y S [] ys σ H' s₁ ∧ fin ys H'
def tupR (Y : Cx) (σ : L2.St) (S : Addr) (fin : List V → Hp → Prop) : GenEnd := fun _ _ r s₁ => ((r = .ok (.ret .none) ∨ r = .ok .next) ∧ tupF Y σ S fin s₁) ∨ ∃ e, r = .error e ∧ False
section
variable {X : Cx} {A' : Around} {s4 : Shared} {H4 : Hp} {scope : Scope} {C : Addr} {code : Value} {fp : List Addr} {pn : List (Addr × Obj)} {S : Addr}
theorem gx_loopT {elt iter : Expr} {x : Str} {px pos : Pos} {ifs : List Expr} {vs : List Nat} {σ : L2.St} {g : TG} {tt : TT} {te : TE} {J : It} {it : Addr} {tn : Nat → Heap → Prop} {fin : List V → Hp → Prop} {W : Nat → Nat → List V → Hp → Prop}
    (gk : GxOk scope) (hpn : ∀ p ∈ pn, p.1 ∉ fp) (hpS : ∀ p ∈ pn, p.1 ≠ S) (nSf : S ∉ fp) (ap : Apart (gxc X A' s4 H4 scope C code fp pn) S)
    (T : Turn X.prog X.w X.K (.Name x px) J fp it tn)
    (pg : PG (gxc X A' s4 H4 scope C code fp pn) (.Name x px) g) (pt : PTs (gxc X A' s4 H4 scope C code fp pn) ifs tt) (pe : PE (gxc X A' s4 H4 scope C code fp pn) elt te)
    (turn : GWalkT J g tt te vs σ fin W) :
    ∀ (m n i : Nat) (s₀ s : Shared) (ys : List V) (H : Hp), W i m ys H → m < n → GI (gxc X A' s4 H4 scope C code fp pn) S [] ys (wipe σ vs) H s → tn i s.heap → (∀ b ∈ fp, H b = none) →
      Seg (model X.prog X.w) A' (tupR (gxc X A' s4 H4 scope C code fp pn) (wipe σ vs) S fin) (tupY (gxc X A' s4 H4 scope C code fp pn) (wipe σ vs) S) n s₀
        (.compLoop (.GeneratorExp elt [⟨.Name x px, iter, ifs, 0⟩] scope pos) 0 (.ref it) .none (gxEnv X scope C code)) ((model X.prog X.w).den (.compLoop (.GeneratorExp elt [⟨.Name x px, iter, ifs, 0⟩] scope pos) 0 (.ref it) .none (gxEnv X scope C code))) [] s := by
  generalize hY : gxc X A' s4 H4 scope C code fp pn = Y at pg pt pe ap
  have eP : Y.prog = X.prog := by rw [← hY]
  have ew : Y.w = X.w := by rw [← hY]
  have eK : Y.K = X.K := by rw [← hY]
  have eA : Y.A = A'.deeper (gxEnv X scope C code) := by rw [← hY]
  have eE : Y.env = gxEnv X scope C code := by rw [← hY]
  have ex : Y.ex = fp := by rw [← hY]
  have exe : Y.xe = fun _ _ => False := by rw [← hY]
  have epn : Y.pn = pn := by rw [← hY]
  have ecalm : Y.calm = true := by rw [← hY]
  have stat : ∀ {o : Obj} {σ' : L2.St} {H' : Hp} {s' : Shared}, Inv Y [(S, o)] σ' H' s' → (∀ b ∈ fp, H' b = none) → ∀ b ∈ fp, FpOk Y [(S, o)] H' b := fun {o σ' H' s'} I' hn b hb =>
    ⟨hn b hb, (I'.ok.exf b (by rw [ex]; exact hb)).1, I'.ok.exfs b (by rw [ex]; exact hb), .inl (by rw [ex]; exact hb), fun x c e => (I'.ok.exf b (by rw [ex]; exact hb)).2 x c e, fun p hp z => by
      rw [epn] at hp
      rcases List.mem_append.mp hp with hp | hp
      · exact hpn p hp (by rw [z]; exact hb)
      · rw [List.mem_singleton.mp hp] at z
        exact nSf (by rw [show S = b from z]; exact hb)⟩
  intro m
  induction m using Nat.strongRecOn with
  | ind m ih =>
    intro n i s₀ s ys H w hmn hGI st nf
    obtain ⟨acc, ca, ra, I⟩ := hGI
    show Seg _ A' _ _ _ s₀ _ ((compTurn (.GeneratorExp elt [⟨.Name x px, iter, ifs, 0⟩] scope pos) 0 (.ref it) .none (gxEnv X scope C code)).onRaise (leaving (gxEnv X scope C code))) [] s
    rw [compTurn_gen, Sem.onRaise_eq_wrap]
    refine seg_bind_wrap (wpAny_standAt ?_)
    rcases turn i m ys H w with ⟨stop, qq⟩ | ⟨go, Nx, hNx, step⟩
    · have td := T.done Y eP ew eK ecalm i [(S, lstObj acc ca)] s _ H (fun _ _ => False) I (stat I nf) st stop
      rw [eA] at td
      refine seg_bind_wrap ?_
      rw [over_gx]
      refine thnF td fun r s6 ⟨hr, I6⟩ => ?_
      subst hr
      exact seg_end (.ok .next) (.inl ⟨.inr rfl, ys, H, ⟨acc, ca, ra, I6⟩, qq⟩)
    · have ti := T.item Y eP ew eK ecalm i [(S, lstObj acc ca)] s _ H (fun _ _ => False) I (stat I nf) st go
      rw [eA] at ti
      refine seg_bind_wrap ?_
      rw [over_gx]
      refine thnF ti fun r s6 ⟨u, hr, h6⟩ => ?_
      subst hr
      refine seg_bind_wrap ?_
      rw [over_gx]
      refine thnF h6 fun _ s7 ⟨y, H7, I7, r7, y7, st7, n7⟩ => ?_
      have I7' := I7.pinned (stat I7 n7) (T.obj _ _ st7)
      have pgr := pg.run _ s7 _ H7 y u _ I7' r7 (step y H7 y7)
      rw [eP, ew, eA, exe, eE] at pgr
      refine seg_bind_wrap ?_
      rw [over_gx]
      refine thnF pgr fun _ s8 ⟨σ8, H8, I8, hw8, q8⟩ => ?_
      have ptr := pt.run _ s8 σ8 H8 _ I8 q8
      rw [eP, ew, eA, exe, eE] at ptr
      refine seg_bind_wrap ?_
      rw [over_gx]
      refine thnF ptr fun b s9 ⟨H9, I9, q9⟩ => ?_
      have fin' : ∀ {s' : Shared} {H' : Hp}, Inv Y ([(S, lstObj acc ca)] ++ pinsAt fp s7.heap) σ8 H' s' → GI Y S [] ys (wipe σ vs) H' s' ∧ tn (i + 1) s'.heap ∧ (∀ b ∈ fp, H' b = none) := fun {s' H'} I' => by
        have pin' : ∀ b ∈ fp, ∀ o, s7.heap.get? b = some o → s'.heap.get? b = some o ∧ H' b = none := fun b hb o e =>
          let z := I'.pin (b, o) (List.mem_append_right _ (List.mem_append_right _ (mem_pinsAt hb e)))
          ⟨z.1, z.2.1⟩
        have hl : (wipe σ vs).length = σ8.length := by rw [← hw8, wipe_length]
        refine ⟨⟨acc, ca, ra, (I'.unpinned (pins := [(S, lstObj acc ca)])).weak hl (fun j v e => ?_)⟩, T.keep _ _ _ st7 fun b hb o e => (pin' b hb o e).1, fun b hb => ?_⟩
        · rw [← hw8] at e
          exact (wipe_some e).1
        · obtain ⟨o, e, _⟩ := T.obj _ _ st7 b hb
          exact (pin' b hb o e).2
      cases b with
      | false =>
        simp only [Bool.false_eq_true, if_false] at q9 ⊢
        obtain ⟨f1, f2, f3⟩ := fin' I9
        obtain ⟨m', hm', w'⟩ := hNx _ _ q9
        exact seg_again rfl (ih m' hm' n (i + 1) s₀ s9 ys H9 w' (by omega) f1 f2 f3)
      | true =>
        simp only [if_true] at q9 ⊢
        have hy : ∀ v, yieldOut (gxEnv X scope C code) v = yieldValue v := fun v => by
          have hco : (gxEnv X scope C code).scope.isCoroutine = false := gk.co
          simp only [yieldOut, hco, Bool.false_eq_true, if_false]
        simp only [hy]
        rw [Sem.bind_eq_wrap', Sem.bind_eq_wrap', Sem.wrap_wrap, Sem.wrap_wrap]
        have per := pe.run _ s9 σ8 H9 _ I9 q9
        rw [eP, ew, eA, exe, eE] at per
        refine seg_wrap ?_
        rw [over_gx]
        refine thnF per fun z s10 ⟨yv, H10, I10, r10, lt, nx⟩ => ?_
        obtain ⟨f1, f2, f3⟩ := fin' I10
        cases n with
        | zero => omega
        | succ n' =>
          refine seg_at (seg_yield rfl rfl rfl ⟨ys, yv, H10, r10, f1, lt, fun s'' zz => ?_⟩)
          obtain ⟨m', hm', w'⟩ := hNx _ _ nx
          refine seg_again rfl (ih m' hm' n' (i + 1) s'' s'' (ys ++ [yv]) H10 w' (by omega) (GI.woken (by rw [epn]; exact hpS) (fun p hp => by cases hp) ap f1 r10 zz) (T.keep _ _ _ f2 fun b hb o e => zz.keep b o (fun k => nSf (by rw [← k]; exact hb)) e) f3)
theorem gx_beginT {elt iter : Expr} {x : Str} {px pos : Pos} {ifs : List Expr} {vs : List Nat} {σ : L2.St} {g : TG} {tt : TT} {te : TE} {J : It} {it : Addr} {tn : Nat → Heap → Prop} {fin : List V → Hp → Prop} {W : Nat → Nat → List V → Hp → Prop}
    (gk : GxOk scope) (hpn : ∀ p ∈ pn, p.1 ∉ fp) (hpS : ∀ p ∈ pn, p.1 ≠ S) (nSf : S ∉ fp) (ap : Apart (gxc X A' s4 H4 scope C code fp pn) S)
    (T : Turn X.prog X.w X.K (.Name x px) J fp it tn)
    (pg : PG (gxc X A' s4 H4 scope C code fp pn) (.Name x px) g) (pt : PTs (gxc X A' s4 H4 scope C code fp pn) ifs tt) (pe : PE (gxc X A' s4 H4 scope C code fp pn) elt te)
    (turn : GWalkT J g tt te vs σ fin W) (m n : Nat) (s₀ s : Shared) (ys : List V) (H : Hp) (w : W 0 m ys H) (hmn : m < n) (I : GI (gxc X A' s4 H4 scope C code fp pn) S [] ys (wipe σ vs) H s) (st : tn 0 s.heap) (nf : ∀ b ∈ fp, H b = none) :
      Seg (model X.prog X.w) A' (tupR (gxc X A' s4 H4 scope C code fp pn) (wipe σ vs) S fin) (tupY (gxc X A' s4 H4 scope C code fp pn) (wipe σ vs) S) n s₀
        (.compStart (.GeneratorExp elt [⟨.Name x px, iter, ifs, 0⟩] scope pos) 0 (.ref it) .none (gxEnv X scope C code)) ((model X.prog X.w).den (.compStart (.GeneratorExp elt [⟨.Name x px, iter, ifs, 0⟩] scope pos) 0 (.ref it) .none (gxEnv X scope C code))) [] s := by
  have loop := gx_loopT (iter := iter) (pos := pos) gk hpn hpS nSf ap T pg pt pe turn m n 0 s₀ s ys H w hmn I st nf
  show Seg _ A' _ _ _ s₀ _ ((compStart (.GeneratorExp elt [⟨.Name x px, iter, ifs, 0⟩] scope pos) 0 (.ref it) .none (gxEnv X scope C code)).onRaise (leaving (gxEnv X scope C code))) [] s
  unfold compStart
  rw [Sem.onRaise_eq_wrap]
  show Seg _ A' _ _ _ s₀ _ ((ask >>= _).wrap _ _ _ _) [] s
  refine seg_bind_wrap (wpAny_askSetting ?_)
  split
  · exact seg_again rfl loop
  · first
      | exact seg_bind_wrap (wpAny_rule (seg_bind_wrap (wpAny_standAt (seg_bind_wrap (T.self _ 0 s _ _ st (seg_again rfl loop))))))
      | (refine seg_bind_wrap (wpAny_rule ?_); show Seg _ A' _ _ _ s₀ _ ((standAt iter.pos >>= _).wrap _ _ _ _) [] s; exact seg_bind_wrap (wpAny_standAt (seg_bind_wrap (T.self _ 0 s _ _ st (seg_again rfl loop)))))
/-- the loop that fills a list, by what each next tells -/
theorem ext_by {P : Program} {w : World} {A : Around} {a S : Addr} {res : Value} {R : Result → Shared → Prop} (St : Nat → Shared → Prop)
    (step : ∀ m s, St m s → wpAny (model P w) A.in1 (pyNext (.ref a)) (fun r s1 => match r with | none => R (.ok (.ret res)) s1 | some v => ∃ (acc : Array Value) (c : Nat), s1.heap.get? S = some (lstObj acc c) ∧ acc.size < sizeLine ∧ ∃ m', m' < m ∧ St m' { s1 with heap := s1.heap.update S (Obj.mapSeq (·.push v)) }) (fun _ _ => False) s) :
    ∀ (m : Nat) (s : Shared), St m s → codeAny (model P w) A (.builtin "list.extend.loop" ⟨[.ref S, .ref a, res], []⟩) R s := by
  intro m
  induction m using Nat.strongRecOn with
  | ind m ih =>
    intro s hst
    refine codeAny_builtin F.entry_extend_loop ?_
    rw [Around.under_plainId F.plain_extend_loop _]
    show wpAny _ A.in1 (pyNext (.ref a) >>= _) _ _ s
    refine wpAny_bind (thnF (step m s hst) fun r s1 h => ?_)
    cases r with
    | none => exact wpAny_pure h
    | some v =>
      obtain ⟨acc, c, hS, lt, m', hm, st'⟩ := h
      show wpAny _ A.in1 (updateSeq S (·.push v) >>= _) _ _ _
      refine wpAny_bind ?_
      exact wpAny_updateSeq hS rfl (wpAny_pure ⟨plainId_quiet F.plain_extend_loop _, ih m' hm _ st'⟩) (Nat.le_of_lt lt) (by show (acc.push v).size ≤ sizeLine + 1; rw [Array.size_push]; omega)
/-- collect of a generator -/
theorem collect_by {P : Program} {w : World} {A : Around} {E : Value → Shared → Prop} {s : Shared} {a : Addr} {g : Nat} {Q : List Value → Shared → Prop} (hg : s.heap.IsGen a g) (ha : a < s.heap.objs.size)
    (h : ∀ (c : Nat) (h2 : Heap), (∀ b o, s.heap.get? b = some o → h2.get? b = some o) → h2.get? s.heap.objs.size = some (lstObj #[] c) → codeAny (model P w) A (.builtin "list.extend.loop" ⟨[.ref s.heap.objs.size, .ref a, .ref s.heap.objs.size], []⟩) (fun r s' => ∃ acc c, r = .ok (.ret (.ref s.heap.objs.size)) ∧ s'.heap.get? s.heap.objs.size = some (lstObj acc c) ∧ Q acc.toList s') { s with heap := h2 }) :
    wpAny (model P w) A (collect (.ref a)) Q E s := by
  have hSI : s.heap.objs.size ≠ a := Nat.ne_of_gt ha
  unfold collect
  refine wpAny_bind (wpAny_runValue (codeAny_builtin F.entry_proto_collect ?_))
  rw [Around.under_plainId F.plain_proto_collect _]
  show wpAny _ A.in1 (newList [] >>= fun l => again (.builtin "list.__iadd__" ⟨[l, .ref a], []⟩)) _ _ s
  refine wpAny_bind (wpAny_newObj_type ?_)
  refine wpAny_pure ⟨plainId_quiet F.plain_list_iadd _, codeAny_builtin F.entry_list_iadd ?_⟩
  rw [Around.under_plainId F.plain_list_iadd _]
  have k1 : ∀ b o, s.heap.get? b = some o → (s.heap.push { cls := .type "list", data := .seq ([] : List Value).toArray }).get? b = some o := fun b o e => Heap.get?_push_of_some _ e
  have gty : ∀ {h2 : Heap}, (∀ b o, s.heap.get? b = some o → h2.get? b = some o) → h2.IsGen a g := fun {h2} q => hg.keeps q
  show wpAny _ A.in1 (Builtin.List.listExtendWith (.ref s.heap.objs.size) (.ref a) (.ref s.heap.objs.size)) _ _ _
  unfold Builtin.List.listExtendWith
  refine wpAny_bind (wpAny_typeOf (Heap.IsGen.typeIs (s := { s with heap := _ }) (gty k1)) ?_)
  have h1 : Builtin.List.listSameRef (.ref s.heap.objs.size) (.ref a) = false := by simp [Builtin.List.listSameRef, hSI]
  have h2 : (Value.type "generator" == Value.type "list") = false := by decide
  have h3 : (Value.type "generator" == Value.type "tuple") = false := by decide
  simp only [h1, h2, h3, Bool.or_false, Bool.false_eq_true, if_false]
  refine wpAny_bind (wpAny_pyIter_gen (s := { s with heap := _ }) (gty k1) ?_)
  refine wpAny_bind (wpAny_holding ?_)
  unfold Builtin.List.listLengthHint
  refine wpAny_bind (wpAny_specialOf (Heap.IsGen.typeIs (s := { s with heap := _ }) (gty k1)) F.gen_no_len ?_)
  show wpAny _ A.in1 (specialOf (Value.ref a) (Str.ofString "__length_hint__") >>= _) _ _ _
  refine wpAny_bind (wpAny_specialOf (Heap.IsGen.typeIs (s := { s with heap := _ }) (gty k1)) F.gen_no_hint ?_)
  refine wpAny_pure ?_
  show wpAny _ A.in1 (rule "list.extend.makes-room" >>= fun _ => Builtin.List.listTouch (.ref s.heap.objs.size) >>= fun _ =>
    again (.builtin "list.extend.loop" ⟨[.ref s.heap.objs.size, .ref a, .ref s.heap.objs.size], []⟩)) _ _ _
  refine wpAny_bind (wpAny_rule ?_)
  have hS1 : (s.heap.push { cls := .type "list", data := .seq ([] : List Value).toArray }).get? s.heap.objs.size = some { cls := .type "list", data := .seq ([] : List Value).toArray } := Heap.get?_push_size _ rfl
  refine wpAny_bind ?_
  show wpAny _ A.in1 (updateSeq s.heap.objs.size (·.push .none) >>= fun _ => updateSeq s.heap.objs.size (·.pop)) _ _ _
  refine wpAny_bind (wpAny_updateSeq hS1 rfl ?_)
  have hS2 := Heap.get?_update_self (Obj.mapSeq (·.push Value.none)) hS1 rfl
  refine wpAny_updateSeq hS2 rfl ?_
  have hS3 := Heap.get?_update_self (Obj.mapSeq (·.pop)) hS2 rfl
  have up : ∀ (h : Heap) (f : Obj → Obj), (∀ b o, s.heap.get? b = some o → h.get? b = some o) → ∀ b o, s.heap.get? b = some o → (h.update s.heap.objs.size f).get? b = some o := fun h f q b o e =>
    (Heap.get?_update_other _ _ (Ne.symm (Nat.ne_of_lt (Heap.lt_size e)))).trans (q b o e)
  refine wpAny_pure ⟨plainId_quiet F.plain_extend_loop _, ?_⟩
  refine codeAny_mono (h _ _ (up _ (Obj.mapSeq (·.pop)) (up _ (Obj.mapSeq (·.push Value.none)) k1)) hS3) fun r s' hq => ?_
  obtain ⟨acc, c, rfl, hS', hq⟩ := hq
  show wpAny _ A (load s.heap.objs.size >>= _) _ _ s'
  refine wpAny_bind (wpAny_load hS' ?_)
  exact wpAny_pure hq
end
section
variable {X : Cx}
/-- tuple(elt for x in iter if ..): P the table of the def's code -/
def tTupG (P : Addr) (wi : TI) (g : TG) (tt : TT) (te : TE) (vs : List Nat) : TE := fun σ H Q => wi σ H fun J H1 => TabG H1 P ∧ ∀ H2, Tabbed P H1 H2 → ∃ W : Nat → Nat → List V → Hp → Prop, (∃ m, W 0 m [] H2) ∧ GWalkT J g tt te vs σ (fun ys H' => ys.length ≤ sizeLine ∧ ∀ p, H' p = none → Q (.ref p) (upd H' p (.tup ys))) W
theorem pe_tupG {c P : Addr} {elt iter : Expr} {x : Str} {px p pos gpos : Pos} {ifs : List Expr} {scope : Scope} {own : List (Str × Nat)} {wi : TI} {g : TG} {tt : TT} {te : TE} {k : Nat}
    (hr : Room (k + 2) X.A) (hg : Gl X "tuple") (hm : X.mg "tuple" = none) (hb : bootBuiltins "tuple" = some (.type "tuple")) (TB : TabB X.base X.mg c P) (hcode : X.env.code = .ref c) (hN : X.N.Nodup) (ok : BlkOk X.N X.env.scope scope own) (gk : GxOk scope)
    (hi : PI X (.Name x px) iter wi) (hgt : ∀ (A' : Around) (s : Shared) (H : Hp) (C : Addr) (code : Value) (fp : List Addr) (pn : List (Addr × Obj)), PG (gxc X A' s H scope C code fp pn) (.Name x px) g)
    (ht : ∀ (A' : Around) (s : Shared) (H : Hp) (C : Addr) (code : Value) (fp : List Addr) (pn : List (Addr × Obj)), Room k (gxc X A' s H scope C code fp pn).A → PTs (gxc X A' s H scope C code fp pn) ifs tt)
    (he : ∀ (A' : Around) (s : Shared) (H : Hp) (C : Addr) (code : Value) (fp : List Addr) (pn : List (Addr × Obj)), Room k (gxc X A' s H scope C code fp pn).A → PE (gxc X A' s H scope C code fp pn) elt te)
    (hs : ∀ v, genFold iter X.env v = pure v)
    (hst : starEach [.GeneratorExp elt [⟨.Name x px, iter, ifs, 0⟩] scope gpos] X.env = (false, eval (.GeneratorExp elt [⟨.Name x px, iter, ifs, 0⟩] scope gpos) X.env) :: starEach [] X.env := by rfl) :
    PE X (.Call (.Name "tuple" p) [.GeneratorExp elt [⟨.Name x px, iter, ifs, 0⟩] scope gpos] [] pos) (tTupG P wi g tt te (own.map (·.2))) := by
  refine ⟨fun pins s σ H Q I h => ?_⟩
  refine wpAny_Call_Name_kw (ld_blt I hg hm hb ?_)
  refine PyProof.Rows.callWith_type1 ?_ hst rfl
  rw [hst]
  show wpAny _ _ (spliced ((false, eval (.GeneratorExp elt [⟨.Name x px, iter, ifs, 0⟩] scope gpos) X.env) :: backTo pos (starEach [] X.env))) _ _ s
  have hfree : ∀ y ∈ scope.names, y.2 = .free → ∃ c, X.env.cells.lookup y.1 = some c := fun y hy e => by
    rcases ok.free y hy e with k | k
    · exact I.ok.has _ (.inl k)
    · exact I.ok.has _ (.inr k)
  refine Calls.spliced_cons (wpAny_GeneratorExp_make gk.co (closure_ok hfree) gk.cell gk.dot ok.kind (by have := hr.dp; omega) (thn (hi.run pins s σ H _ I h) fun xv s1 hx => thn hx fun itv s2 h2 => ?_) hs)
  obtain ⟨it, fp, tn, J, H2, e, I2, T, st2, f2, ⟨ps, hP, htr⟩, q⟩ := h2
  subst e
  have hPs : s2.heap.get? P = some { cls := .none, data := .fields ps } := I2.hok P _ hP
  have nPf : P ∉ fp := fun z => by
    have := (f2 P z).1
    rw [hP] at this
    cases this
  have cd : PySem.W.CodeHd s2.heap c P := TB.code.keeps I2.bk
  refine ⟨I2.nolimit, ?_⟩
  have cont : ∀ (code : Value) (h3 : Heap) (tk : Nat) (more : Array Value), Heap.ExtBut P s2.heap h3 → h3.get? P = some { cls := .none, data := .fields (ps ++ more) } → TriplesOk (ps ++ more).toList →
      wpAny (model X.prog X.w) X.A (builtinsFor X.env.globals X.env.builtins) (fun bi s₄ => ∀ h', h'.Ns s₄.heap.objs.size (fun y => if y = ".0" then some (.ref it) else none) → Heap.SameBut s₄.heap.objs.size (s₄.heap.push { cls := .type "frame", data := .dict #[] }) h' →
        wpAny (model X.prog X.w) X.A (spliced (backTo pos (starEach [] X.env))) (fun us s' => wpAny (model X.prog X.w) X.A (call (.type "tuple") (.ref h'.objs.size :: us)) (EP X pins σ Q) X.xe s') X.xe { s₄ with
            gens := s₄.gens.push (.fresh (.compStart (.GeneratorExp elt [⟨.Name x px, iter, ifs, 0⟩] scope gpos) 0 (.ref it) .none (genEnv scope (cloFrom X.env.cells scope.names []) s₄.heap.objs.size code bi X.env))),
            toks := s₄.toks + 1 + 1 + 1,
            heap := h'.push { cls := .type "generator", data := .fields #[.int s₄.gens.size 0, .str "<genexpr>" (s₄.toks + 1), .str (X.env.qual ++ "<genexpr>") (s₄.toks + 1 + 1)] } }) X.xe { s2 with heap := h3, toks := tk } := by
    intro code h3 tk more hx hP3 ht3
    have I3 : Inv X pins σ (upd H2 P (.tbl (ps ++ more))) { s2 with heap := h3, toks := tk } := inv_tab (g' := s2.gens) (d' := s2.drawn) (t' := tk) I2 hP (fun b o hb e => hx b o hb e) hP3 I2.bare
    have hb2 : AllBare s2.gens := I2.bare
    have st3 : tn 0 h3 := T.keep _ _ _ st2 fun b hb o e => hx b o (fun z => nPf (by rw [← z]; exact hb)) e
    have f3 : ∀ b ∈ fp, FpOk X pins (upd H2 P (.tbl (ps ++ more))) b ∧ b < h3.objs.size := fun b hb => by
      have nb : b ≠ P := fun z => nPf (by rw [← z]; exact hb)
      obtain ⟨o, e, _⟩ := T.obj _ _ st2 b hb
      refine ⟨⟨?_, (f2 b hb).2⟩, Heap.lt_size (hx b o nb e)⟩
      rw [upd_ne nb]
      exact (f2 b hb).1
    obtain ⟨W, ⟨m0, w0⟩, turn⟩ := q (upd H2 P (.tbl (ps ++ more))) ⟨⟨ps ++ more, upd_same, ht3⟩, fun b hb => upd_ne hb⟩
    obtain ⟨bm, ob, e1, e2, e3, e4, e5, e6, e7, e8⟩ := TB.bm
    refine wpAny_builtinsFor (m := X.mg) (by rw [I3.ok.glob]; exact I3.mod.glob.keeps I3.bk) e1 e2 (I3.bk _ _ e5) e6 e7 e8 ?_
    intro h' hn' hs'
    have hn' : h'.Ns h3.objs.size (fun y => if y = ".0" then some (.ref it) else none) := hn'
    have hs' : Heap.SameBut h3.objs.size (h3.push { cls := .type "frame", data := .dict #[] }) h' := hs'
    have hsz : h'.objs.size = h3.objs.size + 1 := by rw [hs'.1, Heap.size_push]
    have keep' : ∀ b o, h3.get? b = some o → h'.get? b = some o := fun b o e => hs'.extBut b o (Nat.ne_of_lt (Heap.lt_size e)) (Heap.get?_push_of_some _ e)
    generalize hH3 : upd H2 P (.tbl (ps ++ more)) = H3 at I3 f3 w0
    generalize hgo : ({ cls := .type "generator", data := .fields #[.int s2.gens.size 0, .str "<genexpr>" (tk + 1), .str (X.env.qual ++ "<genexpr>") (tk + 1 + 1)] } : Obj) = go
    have goC : ∀ v, go.data ≠ .cell v := fun v z => by rw [← hgo] at z; cases z
    have goF : go.isFreed = false := by rw [← hgo]; rfl
    generalize hs5 : ({ s2 with heap := h'.push go, toks := tk + 1 + 1 + 1, gens := s2.gens.push (.fresh (.compStart (.GeneratorExp elt [⟨.Name x px, iter, ifs, 0⟩] scope gpos) 0 (.ref it) .none (gxEnv X scope h3.objs.size code))) } : Shared) = s5
    have k5 : ∀ b o, h3.get? b = some o → s5.heap.get? b = some o := fun b o e => by rw [← hs5]; exact Heap.get?_push_of_some _ (keep' b o e)
    have g5 : s5.heap.get? h'.objs.size = some go := by rw [← hs5]; exact Heap.get?_push_size _ goF
    have b5 : AllBare s5.gens := by rw [← hs5]; exact I2.bare.push rfl
    have I5 := gx_start (A' := X.A.in1.in1.in1.in1) (code := code) (pn := [(h'.objs.size, go)]) (s5 := s5) (s := { s2 with heap := h3, toks := tk }) I3 ok gk hN f3 I2.ok.frames hr.hd (by rw [← hs5]) b5 k5 (by rw [← hs5]; exact hn'.push _) (fun p hp => by
      rw [List.mem_singleton.mp hp]
      exact ⟨g5, by show h3.objs.size < h'.objs.size; omega, goC⟩)
    have rk : Room k (gxc X X.A.in1.in1.in1.in1 { s2 with heap := h3, toks := tk } H3 scope h3.objs.size code fp [(h'.objs.size, go)]).A := ⟨hr.hd, by have := hr.dp; show X.A.depth + 1 + 3 * k + 5 < _; omega, by have := hr.un; show X.A.units + 1 + 1 + 1 + 1 + 3 + 16 * k + 200 < _; omega⟩
    have pg := hgt X.A.in1.in1.in1.in1 { s2 with heap := h3, toks := tk } H3 h3.objs.size code fp [(h'.objs.size, go)]
    have pt := ht X.A.in1.in1.in1.in1 { s2 with heap := h3, toks := tk } H3 h3.objs.size code fp [(h'.objs.size, go)] rk
    have pe := he X.A.in1.in1.in1.in1 { s2 with heap := h3, toks := tk } H3 h3.objs.size code fp [(h'.objs.size, go)] rk
    have npn : ∀ p ∈ [(h'.objs.size, go)], p.1 ∉ fp := fun p hp z => by
      rw [List.mem_singleton.mp hp] at z
      have h9 : h'.objs.size < h3.objs.size := (f3 _ z).2
      omega
    have nf : ∀ b ∈ fp, H3 b = none := fun b hb => (f3 b hb).1.1
    have isG : ∀ {h : Heap}, h.get? h'.objs.size = some go → h.IsGen h'.objs.size s2.gens.size := fun {h} e => ⟨go, .str "<genexpr>" (tk + 1), .str (X.env.qual ++ "<genexpr>") (tk + 1 + 1), e, by rw [← hgo], by rw [← hgo], by rw [← hgo]⟩
    have back : ∀ {H' : Hp} {s₁ s' : Shared}, Inv (gxc X X.A.in1.in1.in1.in1 { s2 with heap := h3, toks := tk } H3 scope h3.objs.size code fp [(h'.objs.size, go)]) [] (wipe σ (own.map (·.2))) H' s₁ → s'.os = s₁.os → AllBare s'.gens → (∀ b o, s₁.heap.get? b = some o → s'.heap.get? b = some o) → Inv X pins σ H' s' := fun {H' s₁ s'} I' ho hb k =>
      I3.call' (ch := fp) (ho.trans I'.os) (I'.base.trans (Un.kept k)) (I'.hok.kept k) hb fun b hb => ⟨(f3 b hb).1.2.2.2.1, (f3 b hb).1.2.1, (f3 b hb).1.2.2.2.2.1, (f3 b hb).1.2.2.2.2.2⟩
    refine Calls.spliced_nil ?_
    show wpAny (model X.prog X.w) X.A (call (.type "tuple") [.ref h'.objs.size]) (EP X pins σ Q) X.xe s5
    have a5 : h'.objs.size < s5.heap.objs.size := Heap.lt_size g5
    have C5 : h3.objs.size < s5.heap.objs.size := by omega
    have nSf : s5.heap.objs.size ∉ fp := fun z => by
      have h9 : s5.heap.objs.size < h3.objs.size := (f3 _ z).2
      omega
    have ap : Apart (gxc X X.A.in1.in1.in1.in1 { s2 with heap := h3, toks := tk } H3 scope h3.objs.size code fp [(h'.objs.size, go)]) s5.heap.objs.size := by
      refine ⟨Nat.le_of_lt C5, Nat.ne_of_gt C5, fun y c e z => ?_⟩
      obtain ⟨v, q⟩ := I5.cell y c e
      have := q.lt
      rw [z] at this
      exact absurd this (Nat.lt_irrefl _)
    have hpS : ∀ p ∈ [(h'.objs.size, go)], p.1 ≠ s5.heap.objs.size := fun p hp => by
      rw [List.mem_singleton.mp hp]
      exact Nat.ne_of_lt a5
    have hSc : s5.heap.objs.size ≠ cStatics := fun z => by
      obtain ⟨mc, hns, _⟩ := I5.nolimit
      have := hns.lt
      rw [← z] at this
      exact absurd this (Nat.lt_irrefl _)
    refine callType_codes (Q₁ := fun obj s₁ => s₁.TypeIs obj "tuple" ∧ EP X pins σ Q obj s₁) F.called_tuple (F.typeCall_tuple_1 _) F.entry_object_init ?_ fun obj s₁ h₁ => ⟨h₁.1, F.args_object_init_2 obj _, object_init_meets F.called_tuple.init.lookup F.called_tuple.made (by decide) X.prog X.w X.A.in1 _ s₁ ⟨h₁.1, rfl, h₁.2⟩⟩
    refine codeAny_of_tree ?_
    show wpAny _ X.A.in1.in1 (do checkBuiltinCall "tuple.__new__" ⟨[.type "tuple", .ref h'.objs.size], []⟩; again (.builtin "tuple.__new__" ⟨[.type "tuple", .ref h'.objs.size], []⟩)) _ _ s5
    refine wpAny_bind (wpAny_of_eq (F.newCall_tuple_1 _) (wpAny_pure ⟨plainId_quiet F.plain_tuple_new _, codeAny_builtin F.entry_tuple_new ?_⟩))
    rw [Around.under_plainId F.plain_tuple_new _]
    have hsub := sub_tuple_self
    have hinit := init_tuple_lookup
    have hmh := madeHere_tuple
    have hTI := (isG g5).typeIs
    wp_walk using wpAny_typeOf hTI, collect_by (isG g5) a5
    intro c0 h2 hk2 hS2
    refine ext_by (A := X.A.in1.in1) (fun n s => s.heap.IsGen h'.objs.size s2.gens.size ∧ s.heap.NoLimit ∧ ∃ gs, s.gens[s2.gens.size]? = some gs ∧ gs.Goes (model X.prog X.w) X.A.in1.in1.in1.in1 (tupR (gxc X X.A.in1.in1.in1.in1 { s2 with heap := h3, toks := tk } H3 scope h3.objs.size code fp [(h'.objs.size, go)]) (wipe σ (own.map (·.2))) s5.heap.objs.size (fun ys H' => ys.length ≤ sizeLine ∧ ∀ p, H' p = none → Q (.ref p) (upd H' p (.tup ys)))) (tupY (gxc X X.A.in1.in1.in1.in1 { s2 with heap := h3, toks := tk } H3 scope h3.objs.size code fp [(h'.objs.size, go)]) (wipe σ (own.map (·.2))) s5.heap.objs.size) n (.send .none) (s.setGen s2.gens.size .running)) ?_ (m0 + 1) _ ?_
    · rintro n s ⟨hgn, hl, gs, hgs, hgoes⟩
      have hgl : s2.gens.size < s.gens.size := (Array.getElem?_eq_some_iff.mp hgs).1
      refine wpAny_gsz (n := s2.gens.size + 1) hgl (next_genG (A := X.A.in1.in1.in1) (F := fun _ _ s₁ => tupF (gxc X X.A.in1.in1.in1.in1 { s2 with heap := h3, toks := tk } H3 scope h3.objs.size code fp [(h'.objs.size, go)]) (wipe σ (own.map fun (y : Str × Nat) => y.2)) s5.heap.objs.size (fun ys H' => ys.length ≤ sizeLine ∧ ∀ p, H' p = none → Q (.ref p) (upd H' p (.tup ys))) s₁) (Er := fun _ _ => False) hr.hd hl (by have := hr.dp; show X.A.depth < _; omega) hgn hgs hgoes (fun v s₁ gs' hbare hv => ?_) (fun s₁ hp h'' hk => ?_) fun e s₁ he => he.elim)
      · intro hsz
        obtain ⟨ys, yv, H', rv, gi, lt, kt⟩ := hv
        obtain ⟨_, _, _, acc, ca, ra, hS1⟩ := gi.at
        obtain ⟨acc0, ca0, ra0, I'⟩ := gi
        have hsz1 : s2.gens.size < s₁.gens.size := by
          have q : (s₁.setGen s2.gens.size gs').gens.size = s₁.gens.size := setGen_size _ _ _
          have hsz' : s2.gens.size + 1 ≤ (s₁.setGen s2.gens.size gs').gens.size := hsz
          omega
        have la : acc.size < sizeLine := by
          have e9 : ys.length = acc.size := ra.length.trans Array.length_toList
          rw [← e9]
          exact lt
        refine ⟨acc, ca, hS1, la, ?_⟩
        cases n with
        | zero => exact (kt _ (Slept.push hS1 I'.bare)).elim
        | succ n' =>
          have kp3 : ∀ b o, b ≠ s5.heap.objs.size → s₁.heap.get? b = some o → (s₁.heap.update s5.heap.objs.size (Obj.mapSeq (·.push v))).get? b = some o := fun b o hbS e => (Heap.get?_update_other _ _ (Ne.symm hbS)).trans e
          refine ⟨n', Nat.lt_succ_self _, isG (kp3 _ _ (Nat.ne_of_lt a5) (I'.pin (h'.objs.size, go) (by simp)).1), ?_, gs', setGen_at (s := s₁) hsz1, kt _ (Slept.push hS1 (allBare_setGen (s := s₁.setGen s2.gens.size gs') (allBare_setGen I'.bare hbare) rfl))⟩
          obtain ⟨mc, hns, hnn⟩ := I'.nolimit
          exact ⟨mc, hns.at' fun o e => kp3 _ o (Ne.symm hSc) e, hnn⟩
      · intro _
        obtain ⟨ys, H', gi, lq, q'⟩ := hp
        obtain ⟨_, _, _, acc, ca, ra, hS1⟩ := gi.at
        obtain ⟨acc0, ca0, ra0, I'⟩ := gi
        refine ⟨acc, ca, rfl, hk _ _ hS1, ?_⟩
        have IX := back (s' := { s₁.setGen s2.gens.size .finished with heap := h'' }) (I'.pins_of fun p hp => by cases hp) rfl (allBare_setGen I'.bare rfl) hk
        show wpAny _ _ (Builtin.Tuple.tupleExact acc.toList.toArray >>= fun v => ret v) _ _ _
        unfold Builtin.Tuple.tupleExact
        have la : acc.size ≤ sizeLine := by
          have e9 : ys.length = acc.size := ra.length.trans Array.length_toList
          rw [← e9]
          exact lq
        refine wpAny_bind (wpAny_newObj_type ?_ (by show acc.toList.toArray.size ≤ sizeLine; simp only [Array.toArray_toList]; exact la))
        refine wpAny_pure ?_
        have IL := IX.laid (t' := s₁.toks) (h' := h''.push { cls := .type "tuple", data := .seq acc.toList.toArray }) (a := h''.objs.size) (o := .tup ys) (fun b o e => Heap.get?_push_of_some _ e) (Nat.le_refl _) ⟨lq, acc.toList, ra, _, Heap.get?_push_size _ rfl, rfl, _, rfl⟩
        exact ⟨⟨_, Heap.get?_push_size _ rfl, rfl⟩, .ref h''.objs.size, _, IL, rfl, q' _ (IX.hok.fresh (Nat.le_refl _))⟩
    · have b5' : AllBare (({ s5 with heap := h2 } : Shared).setGen s2.gens.size .running).gens := allBare_setGen (s := { s5 with heap := h2 }) b5 rfl
      refine ⟨isG (hk2 _ _ g5), I5.nolimit.keeps hk2, .fresh (.compStart (.GeneratorExp elt [⟨.Name x px, iter, ifs, 0⟩] scope gpos) 0 (.ref it) .none (gxEnv X scope h3.objs.size code)), by rw [← hs5]; exact Array.getElem?_push_size .., rfl, ?_⟩
      have I6 := I5.kept (t' := s5.toks) hk2
      refine gx_beginT gk npn hpS nSf ap T pg pt pe turn m0 (m0 + 1) _ _ [] H3 w0 (Nat.lt_succ_self _) ⟨#[], c0, .nil, (Slp.inv (s' := ({ s5 with heap := h2 } : Shared).setGen s2.gens.size .running) I6 ⟨rfl, rfl, b5'⟩).pins_of fun p hp => ?_⟩ (T.keep _ _ _ st3 fun b hb o e => hk2 _ _ (k5 b o e)) nf
      rw [List.mem_singleton.mp hp]
      exact ⟨hS2, I5.hok.fresh (Nat.le_refl _), Nat.ne_of_gt C5, I5.nofs (Nat.le_refl _), fun v z => by cases z⟩
  cases hf : codeAmong gpos ps.toList with
  | none =>
    refine wpAny_genexprCodeX hcode (cd.code hPs htr) (cd.tab hPs) hf fun c' h' tk hx hge hlt hco' _ htab' _ => ?_
    obtain ⟨o1, vs, f1, tf, fl, tg, inF, tx, tt, op, _, _, _, _, _, _, _, _, _, htr', _⟩ := hco'
    exact cont _ h' tk _ hx htab'.2 htr'
  | some cv =>
    refine wpAny_genexprCode_hit hcode (cd.code hPs htr) hf ?_
    exact cont cv s2.heap s2.toks #[] (Heap.ExtBut.refl _ _) (by simpa using hPs) (by simpa using htr)
end
end Fc

namespace Fc
open PySem PySem.Spec L2 PyProof.Rows GxR
variable [LamNames]
/-! ### a def whose code object is known by its address -/
structure FunC (K : PySem.W.Frag) (x qual : Str) (st : Stmt) (f : Addr) (fd : FuncData) (c : Addr) : Prop where
  ex : ∃ (oc : Value) (od : Option Addr) (kV doc pm : Value) (an : Option Addr) (ct : Value) (osl : Array (Option Value)),
    fd = PySem.W.fnOf x qual (defArgs st) (defBody st) (defScope st) .none kV doc pm an (.ref c) ct ∧ K.lookup f = some ⟨oc, od, .func fd, osl⟩ ∧ PySem.W.codeIn K (.ref c) qual = true
  kp : PySem.W.keepIn K (.ref f) = true
theorem FunC.to {K : PySem.W.Frag} {x qual : Str} {st : Stmt} {f : Addr} {fd : FuncData} {c : Addr} (F : FunC K x qual st f fd c) : Fun K x qual st f fd := by
  obtain ⟨oc, od, kV, doc, pm, an, ct, osl, h1, h2, h3⟩ := F.ex
  exact ⟨⟨oc, od, kV, doc, pm, an, _, ct, osl, h1, h2, h3⟩, F.kp⟩
section
variable {P : Program} {w : World} {K : PySem.W.Frag} {mg : Str → Option Value} {base : Heap}
theorem FunC.ok {x qual : Str} {st : Stmt} {f : Addr} {fd : FuncData} {c : Addr} {N ps : List Str} {k : Nat} {sp : Sp} (F : FunC K x qual st f fd c) (S : FnScope N ps (defScope st)) (len : ∀ vs H Q E, sp vs H Q E → vs.length = ps.length)
    (hbody : ∀ (A : Around) (outer : List Env) (s : Shared) (H : Hp) (vs : List V) (Q : VK) (E : XK), Room k (A.deeper (envOfC qual (defScope st) s.heap.objs.size f (.ref c))) → sp vs H Q E →
      ∃ t, PSs (cxOf CX0 P w K mg base N qual (defScope st) f (.ref c) A outer s H E).nox (defBody st) t ∧ t { nx := fun _ H' => Q .non H', rt := Q } (start N vs) H) : FnOk P w K mg base CX0 (k + 1) f fd ps sp := by
  obtain ⟨oc, od, kV, doc, pm, an, ct, osl, rfl, lk, hcd⟩ := F.ex
  refine fn_of lk hcd S len fun A outer s H vs Q E hr hsp => ?_
  obtain ⟨t, h, q⟩ := hbody A outer s H vs Q E hr hsp
  exact ⟨t, h.nox, q⟩
theorem FunC.okX {x qual : Str} {st : Stmt} {f : Addr} {fd : FuncData} {c : Addr} {N ps : List Str} {k : Nat} {sp : Sp} (F : FunC K x qual st f fd c) (S : FnScope N ps (defScope st)) (len : ∀ vs H Q E, sp vs H Q E → vs.length = ps.length)
    (hbody : ∀ (A : Around) (outer : List Env) (s : Shared) (H : Hp) (vs : List V) (Q : VK) (E : XK), Room k (A.deeper (envOfC qual (defScope st) s.heap.objs.size f (.ref c))) → sp vs H Q E →
      ∃ t, PSs (cxOf (L2.CX P w) P w K mg base N qual (defScope st) f (.ref c) A outer s H E) (defBody st) t ∧ t { nx := fun _ H' => Q .non H', rt := Q } (start N vs) H) : FnOk P w K mg base (L2.CX P w) (k + 1) f fd ps sp := by
  obtain ⟨oc, od, kV, doc, pm, an, ct, osl, rfl, lk, hcd⟩ := F.ex
  exact fn_of lk hcd S len fun A outer s H vs Q E hr hsp => hbody A outer s H vs Q E hr hsp
end
theorem funC_mk {K : PySem.W.Frag} {x : Str} {st : Stmt} {f : Addr} {oc kV doc pm ct : Value} {od an : Option Addr} {osl : Array (Option Value)} {c : Addr} (l : K.lookup f = some ⟨oc, od, .func (PySem.W.fnOf x x (defArgs st) (defBody st) (defScope st) .none kV doc pm an (.ref c) ct), osl⟩) (hc : PySem.W.codeIn K (.ref c) x = true) (k : PySem.W.keepIn K (.ref f) = true) :
    FunC K x x st f (PySem.W.fnOf x x (defArgs st) (defBody st) (defScope st) .none kV doc pm an (.ref c) ct) c := ⟨⟨oc, od, kV, doc, pm, an, ct, osl, rfl, l, hc⟩, k⟩
/-! ### a head's facts, by names -/
theorem fun_ofD {K : PySem.W.Frag} {x : Str} {st : Stmt} {f : Addr} {fd : FuncData} (D : FunD K x x (defArgs st) (defBody st) (defScope st) [] [] f fd) : Fun K x x st f fd := by
  obtain ⟨oc, od, dV, kV, doc, pm, an, cdv, ct, osl, h1, h2, h3, h4, _⟩ := D.ex
  rcases h4 with ⟨_, h4⟩ | ⟨h4, _⟩
  · subst h4
    exact ⟨⟨oc, od, kV, doc, pm, an, cdv, ct, osl, h1, h2, h3⟩, D.kp⟩
  · exact absurd rfl h4
theorem funC_ofD {K : PySem.W.Frag} {x : Str} {st : Stmt} {fd : FuncData} (D : FunD K x x (defArgs st) (defBody st) (defScope st) [] [] (He.fAd K (x, none)) fd) : FunC K x x st (He.fAd K (x, none)) fd (He.cT K (x, none)).1 := by
  obtain ⟨oc, od, dV, kV, doc, pm, an, cdv, ct, osl, h1, h2, h3, h4, _⟩ := D.ex
  rcases h4 with ⟨_, h4⟩ | ⟨h4, _⟩
  · subst h4
    obtain ⟨c, rfl⟩ := He.codeIn_ref h3
    have e : He.codeOf K (x, none) = c := He.codeOf_eq h2 (by rw [h1] <;> rfl)
    show FunC K x x st (He.fAd K (x, none)) fd (He.codeOf K (x, none))
    rw [e]
    exact ⟨⟨oc, od, kV, doc, pm, an, ct, osl, h1, h2, h3⟩, D.kp⟩
  · exact absurd rfl h4
theorem tab_empty {H : Hp} {p : Addr} (h : H p = some (.tbl #[])) (n : LamNames.lam p = none) : TabN H p := ⟨⟨#[], h, by simp [TriplesOk]⟩, n⟩
theorem tabB_of {base : Heap} {mg : Str → Option Value} {c p : Addr} (t : LamX.TabB base mg c p) : TabB base mg c p := ⟨t.code, t.bm, t.gP⟩
end Fc

namespace Fc
open PySem PySem.Spec L2 PyProof.Rows GxR
variable [LamNames]
/-! ### all and tuple of generator expressions, by the row of their items -/
section
variable {j : Nat} {te : TE} {vs : List Nat} {σ : L2.St} {H1 : Hp} {Q : VK}
theorem take_all {α : Type} {xs : List α} {i : Nat} {x : α} (test : α → Bool) (h : xs[i]? = some x) : (xs.take (i + 1)).all test = ((xs.take i).all test && test x) := by
  rw [List.take_add_one, h, List.all_append]
  show (_ && (test x && true)) = _
  rw [Bool.and_true]
theorem all_false {α : Type} {xs : List α} {i : Nat} {x : α} (test : α → Bool) (h : xs[i]? = some x) (k : test x = false) : xs.all test = false := by
  cases e : xs.all test with
  | false => rfl
  | true =>
    have := List.all_eq_true.mp e x (List.mem_of_getElem? h)
    rw [k] at this
    cases this
theorem gw_list {K : PySem.W.Frag} {a : Addr} {xs : List V} (test : V → Bool) (hs : SqL K H1 a xs) (hw : ∀ x, wipe ((wipe σ vs).set j (some x)) vs = wipe σ vs)
    (item : ∀ (i : Nat) (x : V) (H : Hp) (R : VK), xs[i]? = some x → Same H1 H → (∀ H', Same H H' → R (.bl (test x)) H') → te ((wipe σ vs).set j (some x)) H R) (hd : ∀ H', Same H1 H' → Q (.bl (xs.all test)) H') :
    ∃ W : Nat → Nat → Hp → Prop, (∃ m, W 0 m H1) ∧ GWalk (Itl K a) (gName j) tYes te vs σ (takeAll Q) (Q (.bl true)) W := by
  refine ⟨fun i m H => m = xs.length - i ∧ i ≤ xs.length ∧ Same H1 H ∧ (xs.take i).all test = true, ⟨xs.length, rfl, Nat.zero_le _, Same.refl _, rfl⟩, ?_⟩
  rintro i m H ⟨rfl, hi, sm, al⟩
  have q := sm.seq hs
  by_cases lt : i < xs.length
  · refine .inr ⟨⟨xs, xs[i], q, by simp [lt]⟩, fun H' => Same H1 H' ∧ (xs.take (i + 1)).all test = true, fun H' p => ⟨xs.length - (i + 1), by omega, rfl, lt, p.1, p.2⟩, fun x H' y => ?_⟩
    obtain ⟨e, y⟩ := y
    subst e
    have hx := y xs q
    refine ⟨hw x, ?_⟩
    unfold tYes
    dsimp only
    rw [if_pos rfl]
    refine item i x _ _ hx sm fun H2 s2 => ⟨test x, rfl, fun k => ⟨sm.trans s2, by rw [take_all test hx, al, k]; rfl⟩, fun k => ?_⟩
    have := hd H2 (sm.trans s2)
    rw [all_false test hx k] at this
    exact this
  · have e : i = xs.length := by omega
    subst e
    rw [List.take_length] at al
    have := hd H sm
    rw [al] at this
    exact .inl ⟨⟨xs, q, Nat.le_refl _⟩, this⟩
theorem gw_tup {K : PySem.W.Frag} {a : Addr} {xs : List V} (test : V → Bool) (hs : SqT K H1 a xs) (hw : ∀ x, wipe ((wipe σ vs).set j (some x)) vs = wipe σ vs)
    (item : ∀ (i : Nat) (x : V) (H : Hp) (R : VK), xs[i]? = some x → Same H1 H → (∀ H', Same H H' → R (.bl (test x)) H') → te ((wipe σ vs).set j (some x)) H R) (hd : ∀ H', Same H1 H' → Q (.bl (xs.all test)) H') :
    ∃ W : Nat → Nat → Hp → Prop, (∃ m, W 0 m H1) ∧ GWalk (Itt K a) (gName j) tYes te vs σ (takeAll Q) (Q (.bl true)) W := by
  refine ⟨fun i m H => m = xs.length - i ∧ i ≤ xs.length ∧ Same H1 H ∧ (xs.take i).all test = true, ⟨xs.length, rfl, Nat.zero_le _, Same.refl _, rfl⟩, ?_⟩
  rintro i m H ⟨rfl, hi, sm, al⟩
  have q := keepT sm hs
  by_cases lt : i < xs.length
  · refine .inr ⟨⟨xs, xs[i], q, by simp [lt]⟩, fun H' => Same H1 H' ∧ (xs.take (i + 1)).all test = true, fun H' p => ⟨xs.length - (i + 1), by omega, rfl, lt, p.1, p.2⟩, fun x H' y => ?_⟩
    obtain ⟨e, y⟩ := y
    subst e
    have hx := y xs q
    refine ⟨hw x, ?_⟩
    unfold tYes
    dsimp only
    rw [if_pos rfl]
    refine item i x _ _ hx sm fun H2 s2 => ⟨test x, rfl, fun k => ⟨sm.trans s2, by rw [take_all test hx, al, k]; rfl⟩, fun k => ?_⟩
    have := hd H2 (sm.trans s2)
    rw [all_false test hx k] at this
    exact this
  · have e : i = xs.length := by omega
    subst e
    rw [List.take_length] at al
    have := hd H sm
    rw [al] at this
    exact .inl ⟨⟨xs, q, Nat.le_refl _⟩, this⟩
theorem gw_rng {lo : Int} {n : Nat} (test : Nat → Bool) (hw : ∀ x, wipe ((wipe σ vs).set j (some x)) vs = wipe σ vs)
    (item : ∀ (i : Nat) (H : Hp) (R : VK), i < n → Same H1 H → (∀ H', Same H H' → R (.bl (test i)) H') → te ((wipe σ vs).set j (some (.int (lo + (i : Nat))))) H R) (hd : ∀ H', Same H1 H' → Q (.bl ((List.range n).all test)) H') :
    ∃ W : Nat → Nat → Hp → Prop, (∃ m, W 0 m H1) ∧ GWalk (Itr lo n) (gName j) tYes te vs σ (takeAll Q) (Q (.bl true)) W := by
  refine ⟨fun i m H => m = n - i ∧ i ≤ n ∧ Same H1 H ∧ ((List.range n).take i).all test = true, ⟨n, rfl, Nat.zero_le _, Same.refl _, rfl⟩, ?_⟩
  rintro i m H ⟨rfl, hi, sm, al⟩
  by_cases lt : i < n
  · refine .inr ⟨lt, fun H' => Same H1 H' ∧ ((List.range n).take (i + 1)).all test = true, fun H' p => ⟨n - (i + 1), by omega, rfl, lt, p.1, p.2⟩, fun x H' y => ?_⟩
    obtain ⟨e, rfl⟩ := y
    subst e
    have hx : (List.range n)[i]? = some i := List.getElem?_range lt
    refine ⟨hw _, ?_⟩
    unfold tYes
    dsimp only
    rw [if_pos rfl]
    refine item i _ _ lt sm fun H2 s2 => ⟨test i, rfl, fun k => ⟨sm.trans s2, by rw [take_all test hx, al, k]; rfl⟩, fun k => ?_⟩
    have := hd H2 (sm.trans s2)
    rw [all_false test hx k] at this
    exact this
  · have e : i = n := by omega
    subst e
    rw [List.take_of_length_le (by rw [List.length_range]; exact Nat.le_refl _)] at al
    have := hd H sm
    rw [al] at this
    exact .inl ⟨Nat.le_refl _, this⟩
theorem gw_sign {l : List Nat} (test : Nat → Bool) (hw : ∀ x, wipe ((wipe σ vs).set j (some x)) vs = wipe σ vs)
    (item : ∀ (i c : Nat) (H : Hp) (R : VK), l[i]? = some c → Same H1 H → (∀ H', Same H H' → R (.bl (test c)) H') → te ((wipe σ vs).set j (some (T [c]))) H R) (hd : ∀ H', Same H1 H' → Q (.bl (l.all test)) H') :
    ∃ W : Nat → Nat → Hp → Prop, (∃ m, W 0 m H1) ∧ GWalk (Its (mkS l)) (gName j) tYes te vs σ (takeAll Q) (Q (.bl true)) W := by
  have sz : (mkS l).cps.size = l.length := by simp [mkS]
  refine ⟨fun i m H => m = l.length - i ∧ i ≤ l.length ∧ Same H1 H ∧ (l.take i).all test = true, ⟨l.length, rfl, Nat.zero_le _, Same.refl _, rfl⟩, ?_⟩
  rintro i m H ⟨rfl, hi, sm, al⟩
  by_cases lt : i < l.length
  · refine .inr ⟨by show i < (mkS l).cps.size; omega, fun H' => Same H1 H' ∧ (l.take (i + 1)).all test = true, fun H' p => ⟨l.length - (i + 1), by omega, rfl, lt, p.1, p.2⟩, fun x H' yl => ?_⟩
    obtain ⟨rfl, c, hc, rfl⟩ := yl
    have gc : l[i]? = some c := by
      have : (mkS l).cps[i]? = l[i]? := by simp [mkS]
      rw [← this]
      exact hc
    refine ⟨hw _, ?_⟩
    unfold tYes
    dsimp only
    rw [if_pos rfl]
    refine item i c _ _ gc sm fun H2 s2 => ⟨test c, rfl, fun k => ⟨sm.trans s2, by rw [take_all test gc, al, k]; rfl⟩, fun k => ?_⟩
    have := hd H2 (sm.trans s2)
    rw [all_false test gc k] at this
    exact this
  · have e : i = l.length := by omega
    subst e
    rw [List.take_length] at al
    have := hd H sm
    rw [al] at this
    exact .inl ⟨by show (mkS l).cps.size ≤ _; omega, this⟩
/-- tuple(.. for i in range ..) -/
theorem gwT_rng {lo : Int} {n : Nat} (f : Nat → V) (hz : n ≤ sizeLine) (hw : ∀ x, wipe ((wipe σ vs).set j (some x)) vs = wipe σ vs)
    (item : ∀ (i : Nat) (H : Hp) (R : VK), i < n → Same H1 H → (∀ H', Same H H' → R (f i) H') → te ((wipe σ vs).set j (some (.int (lo + (i : Nat))))) H R) (hd : ∀ H', Same H1 H' → ∀ p, H' p = none → Q (.ref p) (upd H' p (.tup ((List.range n).map f)))) :
    ∃ W : Nat → Nat → List V → Hp → Prop, (∃ m, W 0 m [] H1) ∧ GWalkT (Itr lo n) (gName j) tYes te vs σ (fun ys H' => ys.length ≤ sizeLine ∧ ∀ p, H' p = none → Q (.ref p) (upd H' p (.tup ys))) W := by
  refine ⟨fun i m ys H => m = n - i ∧ i ≤ n ∧ Same H1 H ∧ ys = (List.range i).map f, ⟨n, rfl, Nat.zero_le _, Same.refl _, rfl⟩, ?_⟩
  rintro i m ys H ⟨rfl, hi, sm, rfl⟩
  by_cases lt : i < n
  · refine .inr ⟨lt, fun ys' H' => Same H1 H' ∧ ys' = (List.range (i + 1)).map f, fun ys' H' p => ⟨n - (i + 1), by omega, rfl, lt, p.1, p.2⟩, fun x H' y => ?_⟩
    obtain ⟨e, rfl⟩ := y
    subst e
    refine ⟨hw _, ?_⟩
    unfold tYes
    dsimp only
    rw [if_pos rfl]
    refine item i _ _ lt sm fun H2 s2 => ⟨by rw [List.length_map, List.length_range]; omega, sm.trans s2, ?_⟩
    rw [List.range_succ, List.map_append]
    rfl
  · have e : i = n := by omega
    subst e
    exact .inl ⟨Nat.le_refl _, by rw [List.length_map, List.length_range]; exact hz, hd H sm⟩
end
/-- a loop over zip of two lists, turn by turn -/
theorem for_zipI {K : PySem.W.Frag} {a b : Addr} {xs ys : List V} {g : TG} {tb : TS} {D : Ends} {σ : L2.St} {H : Hp} (Pv : Nat → L2.St → Hp → Prop) (h0 : Pv 0 σ H) (hq : ∀ i σ H, Pv i σ H → SqL K H a xs ∧ SqL K H b ys)
    (hs : ∀ (i : Nat) (x y : V) (T : Addr) (σ : L2.St) (H : Hp), xs[i]? = some x → ys[i]? = some y → Pv i σ H → H T = none → g (.ref T) σ (upd H T (.tup [x, y])) fun σ2 H2 => tb { D with nx := Pv (i + 1), ct := Pv (i + 1), bk := D.nx } σ2 H2) (hd : ∀ i σ H, (xs.length ≤ i ∨ ys.length ≤ i) → Pv i σ H → D.nx σ H) :
    ∃ W : Nat → Nat → L2.St → Hp → Prop, (∃ m, W 0 m σ H) ∧ ∀ i m σ H, W i m σ H →
      ((Itz K a b).stop i H ∧ D.nx σ H) ∨ ((Itz K a b).go i H ∧ ∃ N : L2.St → Hp → Prop, (∀ σ' H', N σ' H' → ∃ m', m' < m ∧ W (i + 1) m' σ' H') ∧ ∀ v H', (Itz K a b).yld i H v H' → g v σ H' fun σ2 H2 => tb { D with nx := N, ct := N, bk := D.nx } σ2 H2) := by
  refine ⟨fun i m σ H => m = xs.length - i ∧ Pv i σ H, ⟨xs.length, rfl, h0⟩, ?_⟩
  rintro i m σ H ⟨rfl, p⟩
  obtain ⟨qx, qy⟩ := hq i σ H p
  by_cases hlt : i < xs.length ∧ i < ys.length
  · have hx : xs[i]? = some xs[i] := List.getElem?_eq_getElem hlt.1
    have hy : ys[i]? = some ys[i] := List.getElem?_eq_getElem hlt.2
    refine .inr ⟨⟨xs, ys, _, _, qx, qy, hx, hy⟩, Pv (i + 1), fun σ' H' p' => ⟨xs.length - (i + 1), by omega, rfl, p'⟩, fun v H' y => ?_⟩
    obtain ⟨T, x', y', rfl, hT, rfl, f1, f2⟩ := y
    exact hs i x' y' T σ H (f1 xs qx) (f2 ys qy) p hT
  · refine .inl ⟨⟨xs, ys, qx, qy, by omega⟩, hd i σ H (by omega) p⟩
section
variable {X : Cx}
theorem pe_globS {x : Str} {z : Str} {pos : Pos} (hg : Gl X x) (h : ∃ t, X.mg x = some (.str z t)) (hd : (x == ("__debug__" : Str)) = false := by decide) : PE X (.Name x pos) (tC (.str z)) := by
  obtain ⟨t, e⟩ := h
  exact pe_glob hg e ⟨t, rfl⟩ hd
/-- a def of the module as a value -/
def tDefV (mg : Str → Option Value) (x : Str) : TE := fun _ H Q => ∀ f, mg x = some (.ref f) → Q (.ref f) H
theorem pe_defV {x : Str} {k : Nat} {ps : List Str} {sp : Sp} {pos : Pos} (C : Cal X.prog X.w X.K X.mg X.base x k ps sp) (hg : Gl X x := by rfl) (hd : (x == ("__debug__" : Str)) = false := by decide) : PE X (.Name x pos) (tDefV X.mg x) := by
  obtain ⟨f, fd, F, m, kp, b⟩ := C.ex
  exact PEweak (pe_glob (v := .ref f) hg m rfl hd) fun σ H Q q => q f m
end
end Fc

namespace Fc
open PySem PySem.Spec L2 PyProof.Rows GxR
variable [LamNames]
/-! ### tuple(.. for x in a tuple if ..) -/
section
variable {j : Nat} {te : TE} {tt : TT} {vs : List Nat} {σ : L2.St} {H1 : Hp} {Q : VK}
theorem gwT_fil {K : PySem.W.Frag} {a : Addr} {xs : List V} {α : Type} {es : List α} (keep : α → Bool) (f : α → V) (hs : SqT K H1 a xs) (hl : es.length = xs.length) (hz : es.length ≤ sizeLine) (hw : ∀ x, wipe ((wipe σ vs).set j (some x)) vs = wipe σ vs)
    (test : ∀ (i : Nat) (e : α) (x : V) (H : Hp) (R : Bool → Hp → Prop), es[i]? = some e → xs[i]? = some x → Same H1 H → (∀ H', Same H H' → R (keep e) H') → tt ((wipe σ vs).set j (some x)) H R)
    (item : ∀ (i : Nat) (e : α) (x : V) (H : Hp) (R : VK), es[i]? = some e → xs[i]? = some x → keep e = true → Same H1 H → (∀ H', Same H H' → R (f e) H') → te ((wipe σ vs).set j (some x)) H R)
    (hd : ∀ H', Same H1 H' → ∀ p, H' p = none → Q (.ref p) (upd H' p (.tup ((es.filter keep).map f)))) :
    ∃ W : Nat → Nat → List V → Hp → Prop, (∃ m, W 0 m [] H1) ∧ GWalkT (Itt K a) (gName j) tt te vs σ (fun ys H' => ys.length ≤ sizeLine ∧ ∀ p, H' p = none → Q (.ref p) (upd H' p (.tup ys))) W := by
  refine ⟨fun i m ys H => m = es.length - i ∧ i ≤ es.length ∧ Same H1 H ∧ ys = ((es.take i).filter keep).map f, ⟨es.length, rfl, Nat.zero_le _, Same.refl _, rfl⟩, ?_⟩
  rintro i m ys H ⟨rfl, hi, sm, rfl⟩
  have q := keepT sm hs
  have few : (((es.take i).filter keep).map f).length ≤ i := by
    rw [List.length_map]
    exact Nat.le_trans (List.length_filter_le ..) (by rw [List.length_take]; omega)
  by_cases lt : i < es.length
  · have lx : i < xs.length := by omega
    have he : es[i]? = some es[i] := List.getElem?_eq_getElem lt
    refine .inr ⟨⟨xs, xs[i], q, List.getElem?_eq_getElem lx⟩, fun ys' H' => Same H1 H' ∧ ys' = ((es.take (i + 1)).filter keep).map f, fun ys' H' p => ⟨es.length - (i + 1), by omega, rfl, lt, p.1, p.2⟩, fun x H' y => ?_⟩
    obtain ⟨e, y⟩ := y
    subst e
    have hx := y xs q
    have st : ((es.take (i + 1)).filter keep).map f = ((es.take i).filter keep).map f ++ (if keep es[i] = true then [f es[i]] else []) := by
      rw [List.take_add_one, he, List.filter_append, List.map_append]
      cases k : keep es[i] with
      | true => simp [k]
      | false => simp [k]
    refine ⟨hw x, test i es[i] x _ _ he hx sm fun H2 s2 => ?_⟩
    cases k : keep es[i] with
    | true =>
      rw [if_pos rfl]
      refine item i es[i] x _ _ he hx k (sm.trans s2) fun H3 s3 => ⟨by omega, sm.trans (s2.trans s3), ?_⟩
      rw [st, if_pos k]
    | false =>
      rw [if_neg (by simp)]
      refine ⟨sm.trans s2, ?_⟩
      rw [st, if_neg (by rw [k]; simp), List.append_nil]
  · have e : i = es.length := by omega
    subst e
    refine .inl ⟨⟨xs, q, by omega⟩, by omega, ?_⟩
    rw [List.take_length]
    exact hd H sm
end
end Fc

namespace Fc
open PySem PySem.Spec L2 PyProof.Rows
variable [LamNames]
/-! ### a lambda with parameters, of no captured name, handed about -/
/-- what is known of one: where it stands, its code object, its name, its text -/
structure Lam where
  f : Addr
  c : Addr
  pm : Value
  ct : Value
  q : Str
  params : Arguments
  body : Expr
  scope : Scope
def Lam.fd (l : Lam) : FuncData := PySem.W.kla_fn "<lambda>" l.q l.params l.body l.scope [] l.pm (.ref l.c) l.ct
def Lam.obj (l : Lam) : Obj := { cls := .type "function", data := .func l.fd }
def LamO (l : Lam) : HO := .ext fun h => h.get? l.f = some l.obj
structure LamAt (H : Hp) (l : Lam) : Prop where
  fn : H l.f = some (LamO l)
  cd : H l.c = some (LamX.CodeO l.c l.q)
theorem LamAt.keep {H H' : Hp} {l : Lam} (a : LamAt H l) (e : Same H H') : LamAt H' l := ⟨e.get _ _ a.fn trivial, e.get _ _ a.cd trivial⟩
section
variable {P : Program} {w : World} {K : PySem.W.Frag} {mg : Str → Option Value} {base : Heap}
/-- a lambda keeps a promise, told where it stands -/
theorem lam_ok {l : Lam} {k : Nat} {N ps : List Str} {sp : Sp} (S : FnScope N ps l.scope) (len : ∀ vs H Q E, sp vs H Q E → vs.length = ps.length) (at_ : ∀ vs H Q E, sp vs H Q E → LamAt H l)
    (hbody : ∀ (A : Around) (outer : List Env) (s : Shared) (H : Hp) (vs : List V) (Q : VK) (E : XK), Room k (A.deeper (envOfC l.q l.scope s.heap.objs.size l.f (.ref l.c))) → sp vs H Q E →
      ∃ t, PE (cxOf CX0 P w K mg base N l.q l.scope l.f (.ref l.c) A outer s H E).nox l.body t ∧ t (start N vs) H Q) : FnOk P w K mg base CX0 (k + 1) l.f l.fd ps sp := by
  refine ⟨len, fun A outer s H args us vs Q E hr e0 hb r hsp => ?_⟩
  have L := at_ _ _ _ _ hsp
  have ho : s.heap.get? l.f = some l.obj := (e0.hok _ _ L.fn).1
  obtain ⟨oc, ws, t, hoc, hdc, hvc⟩ := (e0.hok _ _ L.cd).1
  have lim : s.heap.NoLimit := e0.mod.nolimit.keeps fun b o e => (e0.bs b o e).1
  have hkind : ∀ y ∈ ps.zip us, l.scope.names.lookup y.1 = some .local ∨ (l.scope.names.lookup y.1 = some .cell ∧ ((cellsFrom (s.heap.objs.size + 1) l.scope.names []).lookup y.1).isSome = true) := fun y hy =>
    (S.par y.1 (List.of_mem_zip (show (y.1, y.2) ∈ ps.zip us from hy)).1).elim .inl fun z => .inr ⟨z, PySem.W.cellsFrom_some _ _ _ (.inl z)⟩
  refine PySem.W.kla_callFunE hr.depth ho rfl S.co S.gen rfl ⟨l.c, oc, ws, t, rfl, hoc, hdc, hvc⟩ (hb _ _ _ _ ?_)
  refine wpAny_newFunctionEnv_cells S.kind hkind fun env he s1 x => ?_
  subst he
  refine ⟨lim.keeps x.toInCall.keep, PySem.W.kla_codeExpr ?_⟩
  obtain ⟨t, ht, hq⟩ := hbody A outer s H vs Q E (hr.deeper _) hsp
  have I : Inv (cxOf CX0 P w K mg base N l.q l.scope l.f (.ref l.c) A outer s H E) [] (start N vs) H s1 := inv_start S hr.hd e0 (len _ _ _ _ hsp) r x
  refine wpAny_mono (ht.nox.run [] s1 (start N vs) H _ I hq) (fun u s' ⟨v, H', J, rv, q⟩ => ?_) fun e s' hs => hs
  exact ⟨v, H', J.os, J.bare, J.base, J.hok, rv, q⟩
end
section
variable {X : Cx} {x : Str} {i k : Nat} {ps : List Str} {sp : Sp} {p pos : Pos} {e : Expr} {es : List Expr} {t : TA}
/-- x(e, ..), x a slot that holds the lambda -/
def tCallM (i : Nat) (l : Lam) (sp : Sp) (t : TA) : TE := fun σ H Q => σ[i]? = some (some (.ref l.f)) ∧ LamAt H l ∧ t σ H fun vs H1 => LamAt H1 l ∧ sp vs H1 Q E0
theorem pe_callM {l : Lam} (F : FnOk X.prog X.w X.K X.mg X.base CX0 k l.f l.fd ps sp) (hr : Room k X.A) (hN : X.N[i]? = some x) (hv : Vis X.env.scope x) (hb : Binds X.K l.fd ps []) (ha : PA X (e :: es) t)
    (hdb : (x == ("__debug__" : Str)) = false := by decide) (hcd : (x == ("__classdict__" : Str)) = false := by decide)
    (he : starEach (e :: es) X.env = (false, eval e X.env) :: starEach es X.env := by rfl) (hpl : (backTo pos (starEach es X.env)).any (·.1) = false := by rfl) : PE X (.Call (.Name x p) (e :: es) [] pos) (tCallM i l sp t) := by
  refine ⟨fun pins s σ H Q I h => ?_⟩
  obtain ⟨hs, hL, ht⟩ := h
  refine wpAny_Call_Name_kw (thn ((pe_var (pos := p) hN hv hdb hcd).run pins s σ H (fun v H1 => v = .ref l.f ∧ H1 = H) I ⟨.ref l.f, hs, rfl, rfl⟩) fun u s1 ⟨v, H1, I1, r1, e1, e2⟩ => ?_)
  subst e1
  rw [e2] at I1
  cases r1
  refine PySem.W.callWith_F ⟨_, _, _, _, (I1.hok _ _ hL.fn).1⟩ (thn (ha.run pos pins s1 σ H _ I1 ht) fun us s2 ⟨vs, H2, I2, r, hL2, q⟩ => ⟨⟨_, _, _, _, (I2.hok _ _ hL2.fn).1⟩, ?_⟩) he hpl
  exact run_fn (E := E0) (dvs := []) (ds := []) F hr hb .nil (fun _ _ _ _ _ _ _ z => False.elim z) I2 r (by rw [List.append_nil]; exact q)
end
/-! ### it is made -/
/-- from H to H' the lambda l came, and its code object into the table at P or it was there -/
structure Made (P : Addr) (H H' : Hp) (l : Lam) : Prop where
  keep : ∀ b o, H b = some o → b ≠ P → H' b = some o
  new : H l.f = none
  tab : LamX.TabS H' P l.q
  at_ : LamAt H' l
def tLamV (P : Addr) (q : Str) (params : Arguments) (body : Expr) (scope : Scope) : TE := fun _ H Q => LamX.TabS H P q ∧ ∀ (f c : Addr) (pm ct : Value) (H' : Hp), Made P H H' ⟨f, c, pm, ct, q, params, body, scope⟩ → Q (.ref f) H'
section
variable {X : Cx}
theorem lamO_ok {P : Program} {w : World} {H : Hp} {h : Heap} {l : Lam} (e : h.get? l.f = some l.obj) : ObjOk P w H h l.f (LamO l) := ⟨e, ⟨_, e⟩, fun _ _ a k => k _ a⟩
theorem pe_lamV {c P : Addr} {params : Arguments} {body : Expr} {scope : Scope} {pos : Pos} (TB : LamX.TabB X.base X.mg c P) (hcode : X.env.code = .ref c) (hdef : defaultsOf params X.env = ([], [])) (hclo : closureFor scope X.env = pure []) :
    PE X (.Lambda params body scope pos) (tLamV P (X.env.qual ++ "<lambda>") params body scope) := by
  refine ⟨fun pins s σ H Q I h => ?_⟩
  obtain ⟨⟨ps, hP, ht, ha⟩, q⟩ := h
  have bP : s.heap.BuiltinsAt X.mg P := TB.bm.keeps I.bk
  have hP' : s.heap.get? P = some { cls := .none, data := .fields ps } := I.hok P _ hP
  have gl := I.mod.glob.keeps I.bk
  have cd := TB.code.keeps I.bk
  refine PySem.W.kla_eval hdef ?_
  cases hc : codeAmong pos ps.toList with
  | some cv =>
    obtain ⟨c', rfl, hco⟩ := ha pos cv hc
    refine PySem.W.kla_makeFunctionHit (mg := X.mg) (c := c) (P := P) (ps := ps) hclo I.ok.glob gl hcode cd hP' ht hc bP fun ctv h' tk hx hsz => ?_
    have hn : H h'.objs.size = none := I.hok.fresh hsz
    have J := I.laid (t' := tk) (a := h'.objs.size) (o := LamO ⟨h'.objs.size, c', (X.mg "__name__").getD .none, ctv, X.env.qual ++ "<lambda>", params, body, scope⟩) (h' := h'.push (Lam.obj ⟨h'.objs.size, c', (X.mg "__name__").getD .none, ctv, X.env.qual ++ "<lambda>", params, body, scope⟩))
      (fun b u e => Heap.get?_push_of_some _ (hx b u e)) hsz (lamO_ok (Heap.get?_push_size _ rfl))
    refine ⟨.ref h'.objs.size, _, J, rfl, q h'.objs.size c' _ ctv _ ⟨fun b o e _ => ?_, hn, ⟨ps, ?_, ht, fun p v hv => ?_⟩, ⟨upd_same, ?_⟩⟩⟩
    · rw [upd_ne (ne_of_none e hn)]
      exact e
    · rw [upd_ne (ne_of_none hP hn)]
      exact hP
    · obtain ⟨d, rfl, hd⟩ := ha p v hv
      exact ⟨d, rfl, by rw [upd_ne (ne_of_none hd hn)]; exact hd⟩
    · show upd H h'.objs.size _ c' = _
      rw [upd_ne (ne_of_none hco hn)]
      exact hco
  | none =>
    refine PySem.W.kla_makeFunction (mg := X.mg) (c := c) (P := P) (ps := ps) hclo I.ok.glob gl hcode cd hP' ht hc TB.gP bP fun c' ctv h' tk hx hge hlt hrec htb => ?_
    obtain ⟨c2, oc, vs, t, e2, hoc, hd, hv⟩ := hrec
    cases e2
    have nC : H c' = none := I.hok.fresh hge
    have I1 := LamX.inv_table (t' := tk) (more := #[rawInt pos.line, rawInt pos.col, .ref c']) (h' := h') I hP hx htb hge ⟨oc, vs, t, hoc, hd, hv⟩
    have nF : H h'.objs.size = none := I.hok.fresh (Nat.le_trans hge (Nat.le_of_lt hlt))
    have n1 : upd (upd H P (.tbl (ps ++ #[rawInt pos.line, rawInt pos.col, .ref c']))) c' (LamX.CodeO c' (X.env.qual ++ "<lambda>")) h'.objs.size = none := I1.hok.fresh (Nat.le_refl _)
    have J := I1.laid (t' := tk) (a := h'.objs.size) (o := LamO ⟨h'.objs.size, c', (X.mg "__name__").getD .none, ctv, X.env.qual ++ "<lambda>", params, body, scope⟩) (h' := h'.push (Lam.obj ⟨h'.objs.size, c', (X.mg "__name__").getD .none, ctv, X.env.qual ++ "<lambda>", params, body, scope⟩))
      (fun b u e => Heap.get?_push_of_some _ e) (Nat.le_refl _) (lamO_ok (Heap.get?_push_size _ rfl))
    have old : ∀ b o, H b = some o → b ≠ P → upd (upd (upd H P (.tbl (ps ++ #[rawInt pos.line, rawInt pos.col, .ref c']))) c' (LamX.CodeO c' (X.env.qual ++ "<lambda>"))) h'.objs.size (LamO ⟨h'.objs.size, c', (X.mg "__name__").getD .none, ctv, X.env.qual ++ "<lambda>", params, body, scope⟩) b = some o := fun b o e hb => by
      rw [upd_ne (ne_of_none e nF), upd_ne (ne_of_none e nC), upd_ne hb]
      exact e
    have eL : (ps ++ #[rawInt pos.line, rawInt pos.col, .ref c']).toList = ps.toList ++ [rawInt pos.line, rawInt pos.col, .ref c'] := by simp
    have hC : upd (upd (upd H P (.tbl (ps ++ #[rawInt pos.line, rawInt pos.col, .ref c']))) c' (LamX.CodeO c' (X.env.qual ++ "<lambda>"))) h'.objs.size (LamO ⟨h'.objs.size, c', (X.mg "__name__").getD .none, ctv, X.env.qual ++ "<lambda>", params, body, scope⟩) c' = some (LamX.CodeO c' (X.env.qual ++ "<lambda>")) := by
      rw [upd_ne (Nat.ne_of_lt hlt), upd_same]
    refine ⟨.ref h'.objs.size, _, J, rfl, q h'.objs.size c' _ ctv _ ⟨old, nF, ⟨_, ?_, by rw [eL]; exact PySem.TriplesOk_snoc _ _ _ _ ht, fun p v hv => ?_⟩, ⟨upd_same, hC⟩⟩⟩
    · rw [upd_ne (ne_of_none hP nF), upd_ne (ne_of_none hP nC), upd_same]
    · rw [eL] at hv
      rcases LamX.among_app _ ht hv with z | z
      · obtain ⟨d, rfl, hd⟩ := ha p v z
        exact ⟨d, rfl, old d _ hd fun e => by rw [e, hP] at hd; cases hd⟩
      · exact ⟨c', z, hC⟩
end
/-- a lambda that is made leaves all else as it was -/
theorem Made.same {P : Addr} {H H' : Hp} {l : Lam} (m : Made P H H' l) (t : LTab H P l.q) : Same H H' := by
  obtain ⟨⟨ps0, h0, ok0, nm0⟩, n⟩ := t
  have far : ∀ b o, H b = some o → NT o → b ≠ P := fun b o e nt z => by
    rw [z, h0] at e
    cases e
    exact nt
  refine ⟨fun b o e nt => m.keep b o e (far b o e nt), fun b ps e => ?_⟩
  by_cases z : b = P
  · obtain ⟨ps', h', ok', nm'⟩ := m.tab
    rw [z]
    refine ⟨ps', h', fun _ => ok', fun q hq _ => ?_⟩
    rw [n] at hq
    cases hq
    exact nm'
  · refine ⟨ps, m.keep b _ e z, fun k => k, fun q _ nm pos cv hc => ?_⟩
    obtain ⟨c, e1, e2⟩ := nm pos cv hc
    exact ⟨c, e1, m.keep c _ e2 (far c _ e2 trivial)⟩
theorem Made.ltab {P : Addr} {H H' : Hp} {l : Lam} (m : Made P H H' l) (t : LTab H P l.q) : LTab H' P l.q := ⟨m.tab, t.n⟩
end Fc

namespace Fc
open PySem PySem.Spec L2 PyProof.Rows
variable [LamNames]
/-! ### isinstance of any data -/
def tyN : PyData → String
  | .none => "NoneType"
  | .bool _ => "bool"
  | .int _ => "int"
  | .str _ => "str"
  | .list _ => "list"
  | .tuple _ => "tuple"
  | .dict _ => "dict"
theorem ty_lst {K : PySem.W.Frag} {H : Hp} {a : Addr} {xs : List V} (h : SqL K H a xs) : TyX K H (.ref a) (.type "list") := by
  rcases h with (h | ⟨o, h⟩) | ⟨o, its, n, h, c, _⟩
  · exact .base (.lst h)
  · exact .base (.frz h)
  · exact .kList h c
theorem ty_dp {K : PySem.W.Frag} {H : Hp} : ∀ {d : PyData} {v : V}, Dp K H v d → TyX K H v (.type (tyN d))
  | .none, _, .non => .base .non
  | .bool _, _, .bl b => .base (.bl b)
  | .int _, _, .int i => .base (.int i)
  | .str _, _, .str x => .base (.str x)
  | .list _, _, .lst h _ => ty_lst h
  | .tuple _, _, .tup h _ => ty_tup h
def isBool : PyData → Bool
  | .bool _ => true
  | _ => false
def isInt : PyData → Bool
  | .bool _ | .int _ => true
  | _ => false
def isStr : PyData → Bool
  | .str _ => true
  | _ => false
def isTup : PyData → Bool
  | .tuple _ => true
  | _ => false
theorem kd_bool {K : PySem.W.Frag} (d : PyData) : PySem.W.kitOne K (.type (tyN d)) (.type "bool") = some (isBool d) := by cases d <;> exact kit_ty (by kernel_rfl)
theorem kd_int {K : PySem.W.Frag} (d : PyData) : PySem.W.kitOne K (.type (tyN d)) (.type "int") = some (isInt d) := by cases d <;> exact kit_ty (by kernel_rfl)
theorem kd_str {K : PySem.W.Frag} (d : PyData) : PySem.W.kitOne K (.type (tyN d)) (.type "str") = some (isStr d) := by cases d <;> exact kit_ty (by kernel_rfl)
theorem kd_tup {K : PySem.W.Frag} (d : PyData) : PySem.W.kitOne K (.type (tyN d)) (.type "tuple") = some (isTup d) := by cases d <;> exact kit_ty (by kernel_rfl)
/-! ### bytes and bodies, of any data -/
def byteB : PyData → Bool
  | .int i => decide (0 ≤ i) && decide (i ≤ 255)
  | _ => false
def bodyB : PyData → Bool
  | .tuple ds => decide (ds.length ≤ 1000) && ds.all byteB
  | _ => false
def byteV : V → Bool
  | .int i => decide (0 ≤ i) && decide (i ≤ 255)
  | _ => false
theorem byteV_of {K : PySem.W.Frag} {H : Hp} : ∀ {d : PyData} {v : V}, Dp K H v d → byteB d = byteV v
  | .none, _, .non => rfl
  | .bool _, _, .bl b => rfl
  | .int _, _, .int i => rfl
  | .str _, _, .str x => rfl
  | .list _, _, .lst h _ => rfl
  | .tuple _, _, .tup h _ => rfl
theorem byteV_all {K : PySem.W.Frag} {H : Hp} : ∀ {vs : List V} {ds : List PyData}, DpAll K H vs ds → vs.all byteV = ds.all byteB
  | _, _, .nil => rfl
  | _, _, .cons h hs => by rw [List.all_cons, List.all_cons, byteV_all hs, byteV_of h]
/-- a def that keeps two promises keeps the one of both -/
theorem fn_or {P : Program} {w : World} {K : PySem.W.Frag} {mg : Str → Option Value} {base : Heap} {CX : CXT} {k : Nat} {f : Addr} {fd : FuncData} {ps : List Str} {sp sp' : Sp} (F : FnOk P w K mg base CX k f fd ps sp) (F' : FnOk P w K mg base CX k f fd ps sp') :
    FnOk P w K mg base CX k f fd ps (fun vs H Q E => sp vs H Q E ∨ sp' vs H Q E) :=
  ⟨fun vs H Q E h => h.elim (F.len vs H Q E) (F'.len vs H Q E), fun A outer s H args us vs Q E hr e0 hb r h => h.elim (F.run A outer s H args us vs Q E hr e0 hb r) (F'.run A outer s H args us vs Q E hr e0 hb r)⟩
end Fc

namespace Fc
open PySem PySem.Spec L2 PyProof.Rows
variable [LamNames]
/-! ### things that are not too large -/
mutual
def fineB : PyData → Bool
  | .none | .bool _ | .int _ => true
  | .str x => PyData.canLay0 (.str x) && decide (x.length ≤ 2000)
  | .list ds => decide (ds.length ≤ 5000) && fineAll ds
  | .tuple ds => decide (ds.length ≤ 5000) && fineAll ds
  | .dict _ => false
def fineAll : List PyData → Bool
  | [] => true
  | d :: r => fineB d && fineAll r
end
mutual
theorem fine_lay : ∀ {d : PyData}, fineB d = true → PyData.canLay0 d = true
  | .none, _ => by simp [PyData.canLay0]
  | .bool _, _ => by simp [PyData.canLay0]
  | .int _, _ => by simp [PyData.canLay0]
  | .str x, h => by
    rw [fineB, Bool.and_eq_true] at h
    exact h.1
  | .list ds, h => by
    rw [fineB, Bool.and_eq_true] at h
    rw [PyData.canLay0]
    exact fine_layAll h.2
  | .tuple ds, h => by
    rw [fineB, Bool.and_eq_true] at h
    rw [PyData.canLay0]
    exact fine_layAll h.2
  | .dict _, h => by simp [fineB] at h
theorem fine_layAll : ∀ {ds : List PyData}, fineAll ds = true → PyData.canLayAll0 ds = true
  | [], _ => by simp [PyData.canLayAll0]
  | d :: r, h => by
    rw [fineAll, Bool.and_eq_true] at h
    rw [PyData.canLayAll0, fine_lay h.1, fine_layAll h.2]
    rfl
end
def Fine (n : Nat) (d : PyData) : Prop := fineB d = true ∧ d.depth ≤ n
theorem Fine.shaped {n : Nat} {d : PyData} (h : Fine n d) (hn : n ≤ 20 := by decide) : SeqAt.shaped d = true := by
  unfold SeqAt.shaped
  rw [fine_lay h.1, decide_eq_true (Nat.le_trans h.2 (by omega))]
  rfl
theorem Fine.mono {n m : Nat} {d : PyData} (h : Fine n d) (hn : n ≤ m) : Fine m d := ⟨h.1, Nat.le_trans h.2 hn⟩
theorem fineAll_get : ∀ {ds : List PyData} {i : Nat} {d : PyData}, fineAll ds = true → ds[i]? = some d → fineB d = true
  | [], _, _, _, h => by cases h
  | x :: r, 0, d, h, e => by
    rw [fineAll, Bool.and_eq_true] at h
    cases e
    exact h.1
  | x :: r, i + 1, d, h, e => by
    rw [fineAll, Bool.and_eq_true] at h
    exact fineAll_get h.2 e
theorem Fine.get {n : Nat} {ds : List PyData} {i : Nat} {d : PyData} (h : Fine (n + 1) (.tuple ds)) (e : ds[i]? = some d) : Fine n d := by
  obtain ⟨h1, h2⟩ := h
  rw [fineB, Bool.and_eq_true] at h1
  rw [PyData.depth] at h2
  exact ⟨fineAll_get h1.2 e, Nat.le_trans (depth_get e) (by omega)⟩
theorem Fine.getL {n : Nat} {ds : List PyData} {i : Nat} {d : PyData} (h : Fine (n + 1) (.list ds)) (e : ds[i]? = some d) : Fine n d := by
  obtain ⟨h1, h2⟩ := h
  rw [fineB, Bool.and_eq_true] at h1
  rw [PyData.depth] at h2
  exact ⟨fineAll_get h1.2 e, Nat.le_trans (depth_get e) (by omega)⟩
theorem Fine.few {n : Nat} {ds : List PyData} (h : Fine n (.tuple ds)) : ds.length ≤ 5000 := by
  have h1 := h.1
  rw [fineB, Bool.and_eq_true] at h1
  exact of_decide_eq_true h1.1
theorem Fine.fewL {n : Nat} {ds : List PyData} (h : Fine n (.list ds)) : ds.length ≤ 5000 := by
  have h1 := h.1
  rw [fineB, Bool.and_eq_true] at h1
  exact of_decide_eq_true h1.1
theorem Fine.len {n : Nat} {x : Str} (h : Fine n (.str x)) : (TL.tl x).length ≤ 2000 := by
  have h1 := h.1
  rw [fineB, Bool.and_eq_true] at h1
  have := of_decide_eq_true h1.2
  rw [← TL.len_tl]
  exact this
theorem fineAll_of : ∀ {ds : List PyData}, (∀ d ∈ ds, fineB d = true) → fineAll ds = true
  | [], _ => rfl
  | d :: r, h => by
    rw [fineAll, h d (by simp), fineAll_of fun x hx => h x (List.mem_cons_of_mem _ hx)]
    rfl
theorem depthAll_of {n : Nat} : ∀ {ds : List PyData}, (∀ d ∈ ds, d.depth ≤ n) → PyData.depthAll ds ≤ n
  | [], _ => by rw [PyData.depthAll]; omega
  | d :: r, h => by
    rw [PyData.depthAll]
    exact Nat.max_le.mpr ⟨h d (by simp), depthAll_of fun x hx => h x (List.mem_cons_of_mem _ hx)⟩
theorem Fine.tup {n : Nat} {ds : List PyData} (few : ds.length ≤ 5000) (h : ∀ d ∈ ds, Fine n d) : Fine (n + 1) (.tuple ds) := by
  refine ⟨?_, ?_⟩
  · rw [fineB, decide_eq_true few, fineAll_of fun d hd => (h d hd).1]
    rfl
  · rw [PyData.depth]
    have := depthAll_of fun d hd => (h d hd).2
    omega
theorem Fine.lst {n : Nat} {ds : List PyData} (few : ds.length ≤ 5000) (h : ∀ d ∈ ds, Fine n d) : Fine (n + 1) (.list ds) := by
  refine ⟨?_, ?_⟩
  · rw [fineB, decide_eq_true few, fineAll_of fun d hd => (h d hd).1]
    rfl
  · rw [PyData.depth]
    have := depthAll_of fun d hd => (h d hd).2
    omega
/-! ### rows and entries, told by data -/
def RowT (l : List Nat) : Prop := (splitC 47 l).length ≤ 8 ∧ ∀ p ∈ splitC 47 l, partOk p
instance (l : List Nat) : Decidable (RowT l) := by
  unfold RowT
  infer_instance
def goalPart (p : List Nat) : Prop := p = [46, 46] ∨ partOk p
instance (p : List Nat) : Decidable (goalPart p) := by
  unfold goalPart
  infer_instance
def RowG (l : List Nat) : Prop := (splitC 47 l).length ≤ 8 ∧ ∀ p ∈ splitC 47 l, goalPart p
instance (l : List Nat) : Decidable (RowG l) := by
  unfold RowG
  infer_instance
def short : PyData → Prop
  | .str x => (TL.tl x).length ≤ 20000
  | _ => True
theorem Fine.shortD {n : Nat} {d : PyData} (h : Fine n d) : short d := by
  cases d with
  | str x =>
    have := h.len
    show _ ≤ 20000
    omega
  | _ => trivial
def pathB : PyData → Bool
  | .str x => decide (RowT (TL.tl x))
  | _ => false
def goalB : PyData → Bool
  | .str x => decide (RowG (TL.tl x))
  | _ => false
def bytesB : PyData → Bool
  | .tuple ds => ds.all byteB
  | _ => false
theorem td_tl (x : Str) : td (TL.tl x) = .str x := congrArg PyData.str (mkS_tl x)
theorem pathB_iff {d : PyData} : pathB d = true ↔ ∃ t, d = td t ∧ PathT t := by
  constructor
  · intro h
    cases d with
    | str x =>
      have r : RowT (TL.tl x) := of_decide_eq_true h
      exact ⟨TL.tl x, (td_tl x).symm, splitC_ne _ _, r.1, r.2⟩
    | _ => cases h
  · rintro ⟨t, rfl, p⟩
    exact decide_eq_true (show RowT t from ⟨p.2.1, p.2.2⟩)
theorem goalB_iff {d : PyData} : goalB d = true ↔ ∃ g, d = td g ∧ GoalT g := by
  constructor
  · intro h
    cases d with
    | str x =>
      have r : RowG (TL.tl x) := of_decide_eq_true h
      exact ⟨TL.tl x, (td_tl x).symm, r.1, r.2⟩
    | _ => cases h
  · rintro ⟨t, rfl, p⟩
    exact decide_eq_true (show RowG t from ⟨p.1, p.2⟩)
theorem byt_rows : ∀ {ds : List PyData}, ds.all byteB = true → ∃ b : List Int, ds = b.map PyData.int ∧ Byt b
  | [], _ => ⟨[], rfl, fun x hx => by cases hx⟩
  | d :: r, h => by
    rw [List.all_cons, Bool.and_eq_true] at h
    obtain ⟨b, rfl, hb⟩ := byt_rows h.2
    cases d with
    | int i =>
      have hi : (decide (0 ≤ i) && decide (i ≤ 255)) = true := h.1
      rw [Bool.and_eq_true, decide_eq_true_eq, decide_eq_true_eq] at hi
      refine ⟨i :: b, rfl, fun x hx => ?_⟩
      rcases List.mem_cons.mp hx with rfl | hx
      · omega
      · exact hb x hx
    | _ => exact absurd h.1 (by simp [byteB])
theorem byt_all {b : List Int} (h : Byt b) : (b.map PyData.int).all byteB = true := by
  rw [List.all_map, List.all_eq_true]
  intro x hx
  have := h x hx
  show (decide (0 ≤ x) && decide (x ≤ 255)) = true
  rw [decide_eq_true this.1, decide_eq_true (show x ≤ 255 by omega)]
  rfl
theorem bodyB_iff {d : PyData} : bodyB d = true ↔ ∃ b, d = dInts b ∧ Byt b ∧ b.length ≤ 1000 := by
  constructor
  · intro h
    cases d with
    | tuple ds =>
      have h' : (decide (ds.length ≤ 1000) && ds.all byteB) = true := h
      rw [Bool.and_eq_true, decide_eq_true_eq] at h'
      obtain ⟨b, rfl, hb⟩ := byt_rows h'.2
      exact ⟨b, rfl, hb, by have := h'.1; rwa [List.length_map] at this⟩
    | _ => cases h
  · rintro ⟨b, rfl, hb, l⟩
    show (decide ((b.map PyData.int).length ≤ 1000) && (b.map PyData.int).all byteB) = true
    rw [byt_all hb, decide_eq_true (by rw [List.length_map]; exact l)]
    rfl
theorem eqv_sd {d : PyData} {x : String} : PyData.eqv d (sd x) = true ↔ d = sd x := by
  constructor
  · intro h
    cases d with
    | str y =>
      have h' : (y == Str.ofString x) = true := by simpa [PyData.eqv, sd] using h
      show PyData.str y = PyData.str _
      rw [eq_of_beq h']
    | _ => simp [PyData.eqv, sd] at h
  · rintro rfl
    simp [PyData.eqv, sd]
def EntD (d : PyData) : Prop := ∃ e, d = dEnt e ∧ EntOk e
theorem ent_words : sd "folder" ≠ sd "file" ∧ sd "folder" ≠ sd "link" ∧ sd "file" ≠ sd "link" := by
  refine ⟨fun k => ?_, fun k => ?_, fun k => ?_⟩ <;> exact absurd (PyData.str.inj k) (by decide +kernel)
theorem ent2 {a p : PyData} : EntD (.tuple [a, p]) ↔ pathB p = true ∧ a = sd "folder" := by
  rw [pathB_iff]
  constructor
  · rintro ⟨e, h, ok⟩
    cases e with
    | folder t => cases h; exact ⟨⟨t, rfl, ok⟩, rfl⟩
    | file t b => cases h
    | link t g => cases h
  · rintro ⟨⟨t, rfl, ok⟩, rfl⟩
    exact ⟨.folder t, rfl, ok⟩
theorem ent3 {a p x : PyData} : EntD (.tuple [a, p, x]) ↔ pathB p = true ∧ ((a = sd "file" ∧ bodyB x = true) ∨ (a = sd "link" ∧ goalB x = true)) := by
  rw [pathB_iff, bodyB_iff, goalB_iff]
  constructor
  · rintro ⟨e, h, ok⟩
    cases e with
    | folder t => cases h
    | file t b => cases h; exact ⟨⟨t, rfl, ok.1⟩, .inl ⟨rfl, b, rfl, ok.2.1, ok.2.2⟩⟩
    | link t g => cases h; exact ⟨⟨t, rfl, ok.1⟩, .inr ⟨rfl, g, rfl, ok.2⟩⟩
  · rintro ⟨⟨t, rfl, ok⟩, ⟨rfl, b, rfl, hb⟩ | ⟨rfl, g, rfl, hg⟩⟩
    · exact ⟨.file t b, rfl, ok, hb⟩
    · exact ⟨.link t g, rfl, ok, hg⟩
theorem ent_few {ds : List PyData} (h : ds.length < 2 ∨ 3 < ds.length) : ¬ EntD (.tuple ds) := by
  rintro ⟨e, k, _⟩
  cases e <;> (cases k; simp at h)
theorem ent_no {d : PyData} (h : isTup d = false) : ¬ EntD d := by
  rintro ⟨e, rfl, _⟩
  cases e <;> cases h
/-! ### trees, told by data -/
def pathAt (es : List Ent) (k : Nat) : List Nat := (es[k]?.map Ent.path).getD []
def riseB (es : List Ent) : Bool := (List.range (es.length - 1)).all fun k => decide (pathAt es k < pathAt es (k + 1))
def hasF (es : List Ent) (a : List Nat) : Bool := es.any fun x => x.isFolder && decide (x.path = a)
def foldB (es : List Ent) : Bool := es.all fun e => (aboveT e.path).all fun a => hasF es a
def areB (es : List Ent) : Bool := decide (es.length ≤ 100) && (riseB es && foldB es)
def TreeD (d : PyData) : Prop := ∃ es, d = dTree es ∧ (∀ e ∈ es, EntOk e) ∧ areB es = true
theorem dEnt_inj : ∀ {a b : Ent}, dEnt a = dEnt b → a = b := by
  have nts : ∀ {x y : List Int}, x.map PyData.int = y.map PyData.int → x = y := fun {x y} h => (List.map_inj_right fun a b k => PyData.int.inj k).mp h
  have tds : ∀ {x y : List Nat}, td x = td y → x = y := fun {x y} h => mkS_inj (PyData.str.inj h)
  intro a b h
  cases a with
  | folder t =>
    cases b with
    | folder u =>
      have h' := PyData.tuple.inj h
      simp only [List.cons.injEq, and_true, true_and] at h'
      rw [tds h']
    | file u b => simp [dEnt] at h
    | link u g => simp [dEnt] at h
  | file t x =>
    cases b with
    | folder u => simp [dEnt] at h
    | file u y =>
      have h' := PyData.tuple.inj h
      simp only [List.cons.injEq, and_true, true_and] at h'
      rw [tds h'.1, nts (PyData.tuple.inj h'.2)]
    | link u g =>
      have h' := PyData.tuple.inj h
      simp only [List.cons.injEq] at h'
      exact absurd h'.1 ent_words.2.2
  | link t x =>
    cases b with
    | folder u => simp [dEnt] at h
    | file u y =>
      have h' := PyData.tuple.inj h
      simp only [List.cons.injEq] at h'
      exact absurd h'.1.symm ent_words.2.2
    | link u y =>
      have h' := PyData.tuple.inj h
      simp only [List.cons.injEq, and_true, true_and] at h'
      rw [tds h'.1, tds h'.2]
theorem ents_of : ∀ {ds : List PyData}, (∀ d ∈ ds, EntD d) → ∃ es : List Ent, ds = es.map dEnt ∧ ∀ e ∈ es, EntOk e
  | [], _ => ⟨[], rfl, fun e h => by cases h⟩
  | d :: r, h => by
    obtain ⟨e, rfl, ok⟩ := h d (by simp)
    obtain ⟨es, rfl, oks⟩ := ents_of fun x hx => h x (List.mem_cons_of_mem _ hx)
    refine ⟨e :: es, rfl, fun x hx => ?_⟩
    rcases List.mem_cons.mp hx with rfl | hx
    · exact ok
    · exact oks x hx
theorem tree_iff {es : List Ent} (h : ∀ e ∈ es, EntOk e) : TreeD (dTree es) ↔ areB es = true := by
  constructor
  · rintro ⟨fs, k, _, a⟩
    have e : fs = es := (List.map_inj_right fun a b k => dEnt_inj k).mp (PyData.tuple.inj k).symm
    rw [← e]
    exact a
  · exact fun a => ⟨es, rfl, h, a⟩
theorem tree_ents {ds : List PyData} (h : TreeD (.tuple ds)) : ∀ d ∈ ds, EntD d := by
  obtain ⟨es, k, ok, _⟩ := h
  have k' := PyData.tuple.inj k
  subst k'
  intro d hd
  obtain ⟨e, he, rfl⟩ := List.mem_map.mp hd
  exact ⟨e, rfl, ok e he⟩
theorem tree_no {d : PyData} (h : isTup d = false) : ¬ TreeD d := by
  rintro ⟨es, rfl, _⟩
  cases h
/-! ### all(.. for x in a tuple), by places -/
section
open GxR
variable {j : Nat} {te : TE} {vs : List Nat} {σ : L2.St} {H1 : Hp} {Q : VK}
theorem gw_tupN {K : PySem.W.Frag} {a : Addr} {xs : List V} (test : Nat → Bool) (hs : SqT K H1 a xs) (hw : ∀ x, wipe ((wipe σ vs).set j (some x)) vs = wipe σ vs)
    (item : ∀ (i : Nat) (x : V) (H : Hp) (R : VK), xs[i]? = some x → Same H1 H → (∀ H', Same H H' → R (.bl (test i)) H') → te ((wipe σ vs).set j (some x)) H R) (hd : ∀ H', Same H1 H' → Q (.bl ((List.range xs.length).all test)) H') :
    ∃ W : Nat → Nat → Hp → Prop, (∃ m, W 0 m H1) ∧ GWalk (Itt K a) (gName j) tYes te vs σ (takeAll Q) (Q (.bl true)) W := by
  refine ⟨fun i m H => m = xs.length - i ∧ i ≤ xs.length ∧ Same H1 H ∧ ((List.range xs.length).take i).all test = true, ⟨xs.length, rfl, Nat.zero_le _, Same.refl _, rfl⟩, ?_⟩
  rintro i m H ⟨rfl, hi, sm, al⟩
  have q := keepT sm hs
  by_cases lt : i < xs.length
  · refine .inr ⟨⟨xs, xs[i], q, by simp [lt]⟩, fun H' => Same H1 H' ∧ ((List.range xs.length).take (i + 1)).all test = true, fun H' p => ⟨xs.length - (i + 1), by omega, rfl, lt, p.1, p.2⟩, fun x H' y => ?_⟩
    obtain ⟨e, y⟩ := y
    subst e
    have hx : (List.range xs.length)[i]? = some i := List.getElem?_range lt
    refine ⟨hw x, ?_⟩
    unfold tYes
    dsimp only
    rw [if_pos rfl]
    refine item i x _ _ (y xs q) sm fun H2 s2 => ⟨test i, rfl, fun k => ⟨sm.trans s2, by rw [take_all test hx, al, k]; rfl⟩, fun k => ?_⟩
    have := hd H2 (sm.trans s2)
    rw [all_false test hx k] at this
    exact this
  · have e : i = xs.length := by omega
    subst e
    rw [List.take_of_length_le (by rw [List.length_range]; exact Nat.le_refl _)] at al
    have := hd H sm
    rw [al] at this
    exact .inl ⟨⟨xs, q, Nat.le_refl _⟩, this⟩
end
end Fc

namespace Fc
open PySem PySem.Spec L2 PyProof.Rows
variable [LamNames]
/-! ### y = {k: v for ..} -/
theorem ps_setDc {X : Cx} {i : Nat} {y : Str} {py : Pos} {kx vx tg iter : Expr} {ifs : List Expr} {scope : Scope} {own : List (Str × Nat)} {pos sp : Pos} {wi : TI} {g : TG} {tt : TT} {tk tv : TE} (hc : X.calm = true) (hN : X.N.Nodup) (hy : X.N[i]? = some y) (hl : X.env.scope.names.lookup y = some .local)
    (hw : swapsWith (.DictComp kx vx [⟨tg, iter, ifs, 0⟩] scope pos) (some (.Name y py)) sp.line X.env = pure true) (hi : PI X tg iter wi) (ok : BlkOk X.N X.env.scope scope own)
    (hg : ∀ (s : Shared) (H : Hp) (C : Addr) (cl : List (Str × Addr)) (fp : List Addr), PG (X.blk s H scope (compEnvC scope cl C X.env) fp) tg g)
    (ht : ∀ (s : Shared) (H : Hp) (C : Addr) (cl : List (Str × Addr)) (fp : List Addr), PTs (X.blk s H scope (compEnvC scope cl C X.env) fp) ifs tt)
    (hk : ∀ (s : Shared) (H : Hp) (C : Addr) (cl : List (Str × Addr)) (fp : List Addr), PE (X.blk s H scope (compEnvC scope cl C X.env) fp) kx tk)
    (he : ∀ (s : Shared) (H : Hp) (C : Addr) (cl : List (Str × Addr)) (fp : List Addr), PE (X.blk s H scope (compEnvC scope cl C X.env) fp) vx tv)
    (hs : ∀ x, foldedSetIterable iter X.env x = pure x := by intro _; rfl) : PS X (.Assign [.Name y py] (.DictComp kx vx [⟨tg, iter, ifs, 0⟩] scope pos) sp) (tAsg (tDc wi g tt tk tv (own.map (·.2))) (gName i)) := ⟨fun pins s σ H D I h => by
  rw [exec_Assign_Name_used _ _ _ _ hw]
  refine wpAny_bind (wpAny_standAt (wpAny_bind ?_))
  show wpAny _ X.A (do let _ ← comprehension (.DictComp kx vx [⟨tg, iter, ifs, 0⟩] scope pos) scope X.env (firstIterPos [⟨tg, iter, ifs, 0⟩] pos) newDict false (eval iter X.env) (some (assign (.Name y py) X.env))) _ _ s
  have h : tDc wi g tt tk tv (own.map (·.2)) σ H (fun x H1 => gName i x σ H1 D.nx) := h
  refine wpAny_bind (thn (dc_core (Qf := fun _ s' => SP X pins D .next s') hc hN I hi ok hg ht hk he hs h fun L C s' m H' I' q hn f => ?_) fun _ s' hq => wpAny_pure (wpAny_pure hq))
  show wpAny _ _ (assign (.Name y py) X.env (.ref L)) _ _ _
  refine wpAny_assign_Name (store_ok2 (v := V.ref L) I' hN hy (.inl hl) rfl (fun s2 I2 ⟨a, sb, ha⟩ => ?_) (.inr hl))
  obtain ⟨f0, f1, f2, f3, f4, f5⟩ := f
  have na : C ≠ a := ha.elim (fun z => by rw [z]; exact f1) (fun z e => f4 y a z e.symm)
  exact ⟨m, hn.sameBut sb na, fun h3 sb3 => ⟨_, H', I2.turned (t' := s2.toks) (fun b o hb e => (sb3.2 b hb).trans e) f0 f1 f3 f4 f5, q⟩⟩⟩
theorem sw_trueD {kx vx : Expr} {gs : List Comprehension} {scope : Scope} {pos py : Pos} {y : Str} {l : Nat} {env : Env} (hk : env.scope.kind = .function) (hy : env.scope.names.lookup y = some .local) (hl : (py.line == pos.line) = true)
    (ha : (scope.names.any fun (n, k) => n == y && (k == .local || k == .cell)) = false) : swapsWith (.DictComp kx vx gs scope pos) (some (.Name y py)) l env = pure true := by
  have k1 : env.kindOf y = some .local := hy
  have k2 : env.blockKind = .function := by
    unfold Env.blockKind
    rw [hk]
    rfl
  unfold swapsWith
  simp only [k2, k1, ha, Expr.pos, hl]
  rfl
end Fc

namespace Fc
open PySem PySem.Spec L2 PyProof.Rows
open AutoSeq1 (wpAny_loadPart')
variable [LamNames]
/-! ### enumerate of a tuple -/
def enO (a : Addr) : Obj := { cls := .type "enumerate", data := .fields #[.none, .bool false, .ref a, rawInt 0, .none, .none] }
def tiO (l : Addr) : Obj := { cls := .type "tuple_iterator", data := .fields #[.ref l, .int 0 0] }
theorem enum_newT (l : Addr) (its : Array Value) (n : Nat) (dd : Option Addr) (sl : Array (Option Value)) :
    Meets (Builtin.«enumerate.__new__» ⟨[.type "enumerate", .ref l], []⟩) (fun _ R s => s.heap.get? l = some { cls := .type "tuple", dict := dd, data := .seq its n, slots := sl } ∧
      R (.ok (.ret (.ref (s.heap.push (tiO l)).objs.size))) { s with heap := (s.heap.push (tiO l)).push (enO s.heap.objs.size) }) := .of_wp fun prog w A R s h => by
  obtain ⟨hp, g, d, tk, os⟩ := s
  obtain ⟨hl, h⟩ := h
  have sub := sub_enumerate
  have ht : Heap.IsTuple (Shared.heap ⟨hp, g, d, tk, os⟩) l its := ⟨_, hl, rfl, n, rfl⟩
  wp_walk using wpAny_loadPart' hl
  refine wpAny_stack_any fun st => wpAny_pure ?_
  split
  · rename_i c _ _ _ _ _
    cases (c == Value.type "enumerate") <;> (wp_walk using wpAny_loadPart' hl, wpAny_pyIter_tuple ht; exact ⟨_, rfl, h⟩)
  · wp_walk using wpAny_loadPart' hl, wpAny_pyIter_tuple ht
    exact ⟨_, rfl, h⟩
theorem call_enumT {prog : Program} {w : World} {A : Around} {E : Value → Shared → Prop} {s : Shared} {l : Addr} {its : Array Value} {Q : Value → Shared → Prop} (ht : s.heap.IsTuple l its)
    (h : ∀ h', IsEnum h' (s.heap.objs.size + 1) s.heap.objs.size 0 .none → h'.IsTupleIter s.heap.objs.size l 0 → (∀ b o, s.heap.get? b = some o → h'.get? b = some o) → Q (.ref (s.heap.objs.size + 1)) { s with heap := h' }) :
    wpAny (model prog w) A (call (.type "enumerate") [.ref l]) Q E s := by
  obtain ⟨⟨c, dd, dt, sl⟩, hl, hc, n, hd⟩ := ht
  dsimp only at hc hd
  subst hc hd
  refine callType_new F.called_enumerate (by decide) (F.typeCall_enumerate_1 _) (F.newCall_enumerate_1 _) (fun obj => F.args_object_init_2 obj _) F.entry_enumerate_new (enum_newT l its n dd sl) ⟨hl, ?_⟩
  have z1 : (s.heap.push (tiO l)).objs.size = s.heap.objs.size + 1 := Heap.size_push ..
  have he : IsEnum ((s.heap.push (tiO l)).push (enO s.heap.objs.size)) (s.heap.objs.size + 1) s.heap.objs.size 0 .none := by
    have q := Heap.get?_push_size (s.heap.push (tiO l)) (o := enO s.heap.objs.size) rfl
    rw [z1] at q
    exact q
  show _ ∧ _
  rw [z1]
  exact ⟨⟨_, he, rfl⟩, h _ he ⟨_, Heap.get?_push_of_some _ (Heap.get?_push_size _ rfl), rfl, rfl⟩ fun b o x => Heap.get?_push_of_some _ (Heap.get?_push_of_some _ x)⟩
def IteT (K : PySem.W.Frag) (a : Addr) : It where
  go := fun i H => ∃ (xs : List V) (x : V), SqT K H a xs ∧ xs[i]? = some x
  yld := fun i H v H' => ∃ T x, v = .ref T ∧ H T = none ∧ H' = upd H T (.tup [.int (i : Nat), x]) ∧ ∀ xs, SqT K H a xs → xs[i]? = some x
  stop := fun i H => ∃ xs : List V, SqT K H a xs ∧ xs.length = i
theorem turn_enumT {P : Program} {w : World} {K : PySem.W.Frag} {es : List Expr} {kk : Nat} {tp : Pos} (a e it : Addr) :
    Turn P w K (.Tuple es kk tp) (IteT K a) [e, it] e (fun i h => (∃ old, IsEnum h e it ((i : Nat) : Int) old) ∧ h.IsTupleIter it a i ∧ e ≠ it) where
  mem := by simp
  obj := fun i h st b hb => by
    obtain ⟨⟨old, he⟩, ⟨o, ho, _, hd⟩, _⟩ := st
    rcases (show b = e ∨ b = it by simpa using hb) with rfl | rfl
    · exact ⟨_, he, fun v q => nomatch q⟩
    · exact ⟨o, ho, fun v q => by rw [hd] at q; cases q⟩
  keep := fun i h h' st k => by
    obtain ⟨⟨old, he⟩, hi, ne⟩ := st
    exact ⟨⟨old, k e (by simp) _ he⟩, hi.at fun o q => k it (by simp) o q, ne⟩
  item := by
    intro X hP hw hK hc i pins s σ H E I hf st hg
    subst hP hw hK
    obtain ⟨⟨old, he⟩, hit, ne⟩ := st
    obtain ⟨xs, x, hq, hx⟩ := hg
    obtain ⟨its, rv, p, _⟩ := I.tuple hq
    obtain ⟨u, hu, ru⟩ := rv.get hx
    obtain ⟨oa, ha, ca, na, da⟩ := id p
    obtain ⟨oi, hi, ci, di⟩ := id hit
    have nai : a ≠ it := fun z => by
      rw [z, hi] at ha
      cases ha
      rw [di] at da
      cases da
    have nea : e ≠ a := fun z => by
      have he' : s.heap.get? e = _ := he
      rw [z, ha] at he'
      cases he'
      cases da
    have hel : e < s.heap.objs.size := Heap.lt_size he
    have hil : it < s.heap.objs.size := Heap.lt_size hi
    have hlt : i < its.toArray.size := by
      have := (List.getElem?_eq_some_iff.mp hu).1
      simpa using this
    refine wpAny_pyNext_enum_itemD (Draws.tuple (A := X.A.in1) (I.ok.hd hc) it a nai its.toArray) he ⟨hit, p⟩ hlt ne (by simp [ne, nea]) fun y h1 tk py ho st1 hT _ hk => ?_
    have ey : y = u := by
      have z : its.toArray[i]? = some u := by simpa using hu
      exact Option.some.inj (py.symm.trans z)
    subst ey
    refine ⟨_, rfl, wpAny_letOwnedTupleGo_enum (s := { s with heap := h1, toks := tk + 1 }) ho fun h2 he2 sb => ?_⟩
    have hT2 : h2.get? s.heap.objs.size = some { cls := .type "tuple", data := .seq #[.int i tk, y] } := (sb.2 _ (Nat.ne_of_gt hel)).trans hT
    have new : ObjOk X.prog X.w (upd H s.heap.objs.size (.tup [.int (i : Nat), x])) h2 s.heap.objs.size (.tup [.int (i : Nat), x]) := ⟨by show 2 ≤ sizeLine; rw [sizeLine_eq]; decide, [.int i tk, y], .cons ⟨_, rfl⟩ (.cons ru .nil), ⟨_, hT2, rfl, _, rfl⟩⟩
    have I1 : Inv X pins σ (upd H s.heap.objs.size (.tup [.int (i : Nat), x])) { s with heap := h2, toks := tk + 1 } :=
      I.turnedNew (t' := tk + 1) (ch := [e, it]) (fun b ob hb q => (sb.2 b fun z => hb (by simp [z])).trans (hk b ob (fun z => hb (by simp [z])) (fun z => hb (by simp [z])) q)) hf (Nat.le_refl _) new
    refine ⟨.ref s.heap.objs.size, _, I1, rfl, ⟨_, x, rfl, I.hok.fresh (Nat.le_refl _), rfl, fun l hl => by rw [I.tuple_inj hl hq]; exact hx⟩, ⟨⟨y, ?_⟩, st1.1.at fun o q => (sb.2 it (Ne.symm ne)).trans q, ne⟩, fun b hb => ?_⟩
    · rw [show ((i + 1 : Nat) : Int) = (i : Int) + 1 by omega]
      exact he2
    · have hb' : b < s.heap.objs.size := by
        rcases (show b = e ∨ b = it by simpa using hb) with rfl | rfl
        · exact hel
        · exact hil
      rw [upd_ne (Nat.ne_of_lt hb')]
      exact (hf b hb).1
  done := by
    intro X hP hw hK hc i pins s σ H E I hf st hg
    subst hP hw hK
    obtain ⟨⟨old, he⟩, hit, ne⟩ := st
    obtain ⟨xs, hq, hx⟩ := hg
    obtain ⟨its, rv, p, _⟩ := I.tuple hq
    obtain ⟨f0, f1, f2, f3, f4, f5⟩ := hf it (by simp)
    obtain ⟨oa, ha, ca, na, da⟩ := id p
    obtain ⟨oi, hi, ci, di⟩ := id hit
    have nai : a ≠ it := fun z => by
      rw [z, hi] at ha
      cases ha
      rw [di] at da
      cases da
    have ei : i = its.toArray.size := by
      have := rv.length
      simp
      omega
    have st0 : s.heap.IsTupleIter it a its.toArray.size := by rw [← ei]; exact hit
    exact wpAny_pyNext_enum_endD (Draws.tuple (A := X.A.in1) (I.ok.hd hc) it a nai its.toArray) he ⟨st0, p⟩ fun h' eb => ⟨rfl, I.turned (t' := s.toks) (fun b o hb q => eb b o hb q) f0 f1 f3 f4 f5⟩
  self := fun A i s Q E st h => by
    obtain ⟨⟨_, he⟩, _⟩ := st
    exact wpAny_pyIter_enum he h
def iEnumT (K : PySem.W.Frag) (ta : TA) : TI := fun σ H R => ta σ H fun vs H1 => ∃ a xs, vs = [.ref a] ∧ SqT K H1 a xs ∧ R (IteT K a) H1
theorem pi_enumT {X : Cx} {e : Expr} {ta : TA} {p pos tp : Pos} {es : List Expr} {kk : Nat} (hg : Gl X "enumerate") (hm : X.mg "enumerate" = none) (ha : PA X [e] ta) (hs : starEach [e] X.env = [(false, eval e X.env)] := by rfl) :
    PI X (.Tuple es kk tp) (.Call (.Name "enumerate" p) [e] [] pos) (iEnumT X.K ta) := ⟨fun pins s σ H R I h => by
  refine Call_ (ld_blt I hg hm boot_enumerate (PyProof.Rows.callWith_type1 (thn (ha.run pos pins s σ H _ I h) fun us s1 ⟨vs, H1, I1, r1, q1⟩ => ?_) hs rfl))
  obtain ⟨a, xs, ex, hq, q⟩ := q1
  subst ex
  obtain ⟨u, rfl, r⟩ := r1.one
  cases r
  obtain ⟨its, rv, p', _⟩ := I1.tuple hq
  refine call_enumT p' fun h' he hit hk => wpAny_pyIter_enum he ?_
  have I2 : Inv X pins σ H1 { s1 with heap := h' } := I1.kept (t' := s1.toks) hk
  refine ⟨s1.heap.objs.size + 1, [s1.heap.objs.size + 1, s1.heap.objs.size], _, _, H1, rfl, I2, turn_enumT a (s1.heap.objs.size + 1) s1.heap.objs.size, ⟨⟨.none, he⟩, hit, Nat.succ_ne_self _⟩, fun b hb => ?_, q⟩
  have hle : s1.heap.objs.size ≤ b := by
    rcases (show b = s1.heap.objs.size + 1 ∨ b = s1.heap.objs.size by simpa using hb) with rfl | rfl
    · exact Nat.le_add_right _ _
    · exact Nat.le_refl _
  exact I1.fpOk hle (I1.hok.fresh hle)⟩
theorem walk_enumT {K : PySem.W.Frag} {a : Addr} {xs : List V} : Walk (IteT K a) xs.length (fun H => SqT K H a xs) (YPair (fun i => some (.int (i : Nat))) (fun i => xs[i]?)) :=
  ⟨fun i _ hi q => ⟨xs, xs[i], q, by simp [hi]⟩, fun _ q => ⟨xs, q, rfl⟩, fun i H v H' _ q y => by
    obtain ⟨T, x, h1, h2, h3, h4⟩ := y
    exact ⟨T, .int (i : Nat), x, h1, h2, h3, rfl, h4 xs q⟩⟩
end Fc

namespace Fc
open PySem PySem.Spec L2 PyProof.Rows GxR
variable [LamNames]
/-! ### comprehensions by what is walked, their items by a relation -/
section
variable {J : It} {n : Nat} {G0 : Hp → Prop} {Y : Nat → Hp → V → Hp → Prop} {α : Type} {es : List α} {G : α → V → Hp → Prop} {te : TE} {vs : List Nat} {σ : L2.St} {H1 : Hp} {D : Addr} {Qd : Hp → Prop}
/-- what stands behind i turns -/
def LcW (es : List α) (G : α → V → Hp → Prop) (H1 : Hp) (D : Addr) (i : Nat) (H : Hp) : Prop := Same H1 H ∧ ∃ ys, H D = some (.lst ys) ∧ Al2 (fun e y => G e y H) (es.take i) ys
theorem lcw_more (nD : H1 D = none) (hz : es.length ≤ sizeLine) (gk : ∀ e y H H', Same H H' → G e y H → G e y H') (gu : ∀ e y H ys zs, H D = some (.lst ys) → G e y H → G e y (upd H D (.lst zs)))
    {i : Nat} {e : α} {H H4 : Hp} {y : V} (he : es[i]? = some e) (p : LcW es G H1 D i H) (s4 : Same H H4) (g : G e y H4) : ∃ acc, H4 D = some (.lst acc) ∧ acc.length < sizeLine ∧ LcW es G H1 D (i + 1) (upd H4 D (.lst (acc ++ [y]))) := by
  obtain ⟨sm, ys, hD, al⟩ := p
  have hi : i < es.length := (List.getElem?_eq_some_iff.mp he).1
  have hD4 := s4 _ _ hD
  refine ⟨ys, hD4, ?_, (sm.trans s4).over nD (.lst hD4), ys ++ [y], upd_same, ?_⟩
  · have := al.length
    rw [List.length_take] at this
    omega
  · rw [List.take_add_one, he]
    exact Al2.snoc (R := fun u v => G u v (upd H4 D (.lst (ys ++ [y])))) (gu _ _ _ _ _ hD4 g) (al.mono fun u v k => gu _ _ _ _ _ hD4 (gk _ _ _ _ s4 k))
theorem lcW (w : Walk J n G0 Y) {g : TG} (hn : es.length = n) (nD : H1 D = none) (hz : n ≤ sizeLine) (hG : ∀ H, Same H1 H → G0 H)
    (gk : ∀ e y H H', Same H H' → G e y H → G e y H') (gu : ∀ e y H ys zs, H D = some (.lst ys) → G e y H → G e y (upd H D (.lst zs)))
    (turn : ∀ (i : Nat) (e : α) (x : V) (H H' : Hp) (R : V → Hp → Prop), i < n → es[i]? = some e → Same H1 H → Y i H x H' → (∀ y H4, Same H H4 → G e y H4 → R y H4) → ∀ Z : Hp → Prop, g x (wipe σ vs) H' fun σ2 H2 => wipe σ2 vs = wipe σ vs ∧ tYes σ2 H2 fun b H3 => if b = true then te σ2 H3 R else Z H3)
    (hd : ∀ ys H', Al2 (fun e y => G e y H') es ys → Same H1 H' → H' D = some (.lst ys) → Qd H') :
    ∃ W : Nat → Nat → Hp → Prop, (∃ m, W 0 m (upd H1 D (.lst []))) ∧ ∀ i m H, W i m H →
      (J.stop i H ∧ Qd H) ∨ (J.go i H ∧ ∃ Nx : Hp → Prop, (∀ H', Nx H' → ∃ m', m' < m ∧ W (i + 1) m' H') ∧ ∀ x H', J.yld i H x H' → g x (wipe σ vs) H' fun σ2 H2 => wipe σ2 vs = wipe σ vs ∧ tYes σ2 H2 fun b H3 =>
        if b = true then te σ2 H3 fun y H4 => ∃ acc, H4 D = some (.lst acc) ∧ acc.length < sizeLine ∧ Nx (upd H4 D (.lst (acc ++ [y]))) else Nx H3) := by
  refine lc_it w (LcW es G H1 D) ⟨grow nD, [], upd_same, .nil⟩ (fun i H _ p => hG H p.1) (fun i x H H' hi p y => ?_) (fun H p => ?_)
  · have he : es[i]? = some es[i] := List.getElem?_eq_getElem (by omega)
    exact turn i _ x H H' _ hi he p.1 y (fun y H4 s4 g => lcw_more nD (by omega) gk gu he p s4 g) _
  · obtain ⟨sm, ys, hD, al⟩ := p
    rw [← hn, List.take_length] at al
    exact hd ys H al sm hD
/-- over numbers or items told: one name -/
theorem lcWn {f : Nat → V} {j : Nat} (w : Walk J n G0 (YFn f)) (hn : es.length = n) (nD : H1 D = none) (hz : n ≤ sizeLine) (hG : ∀ H, Same H1 H → G0 H) (hw : ∀ x, wipe ((wipe σ vs).set j (some x)) vs = wipe σ vs)
    (gk : ∀ e y H H', Same H H' → G e y H → G e y H') (gu : ∀ e y H ys zs, H D = some (.lst ys) → G e y H → G e y (upd H D (.lst zs)))
    (turn : ∀ (i : Nat) (e : α) (H : Hp) (R : V → Hp → Prop), i < n → es[i]? = some e → Same H1 H → (∀ y H4, Same H H4 → G e y H4 → R y H4) → te ((wipe σ vs).set j (some (f i))) H R)
    (hd : ∀ ys H', Al2 (fun e y => G e y H') es ys → Same H1 H' → H' D = some (.lst ys) → Qd H') :
    ∃ W : Nat → Nat → Hp → Prop, (∃ m, W 0 m (upd H1 D (.lst []))) ∧ ∀ i m H, W i m H →
      (J.stop i H ∧ Qd H) ∨ (J.go i H ∧ ∃ Nx : Hp → Prop, (∀ H', Nx H' → ∃ m', m' < m ∧ W (i + 1) m' H') ∧ ∀ x H', J.yld i H x H' → gName j x (wipe σ vs) H' fun σ2 H2 => wipe σ2 vs = wipe σ vs ∧ tYes σ2 H2 fun b H3 =>
        if b = true then te σ2 H3 fun y H4 => ∃ acc, H4 D = some (.lst acc) ∧ acc.length < sizeLine ∧ Nx (upd H4 D (.lst (acc ++ [y]))) else Nx H3) := by
  refine lcW w hn nD hz hG gk gu (fun i e x H H' R hi he sm y r Z => ?_) hd
  obtain ⟨rfl, rfl⟩ := y
  refine ⟨hw _, ?_⟩
  unfold tYes
  dsimp only
  rw [if_pos rfl]
  exact turn i e _ R hi he sm r
theorem lcWi {xs : List V} {j : Nat} (w : Walk J n G0 (YAt xs)) (hn : es.length = n) (nD : H1 D = none) (hz : n ≤ sizeLine) (hG : ∀ H, Same H1 H → G0 H) (hw : ∀ x, wipe ((wipe σ vs).set j (some x)) vs = wipe σ vs)
    (gk : ∀ e y H H', Same H H' → G e y H → G e y H') (gu : ∀ e y H ys zs, H D = some (.lst ys) → G e y H → G e y (upd H D (.lst zs)))
    (turn : ∀ (i : Nat) (e : α) (x : V) (H : Hp) (R : V → Hp → Prop), i < n → es[i]? = some e → xs[i]? = some x → Same H1 H → (∀ y H4, Same H H4 → G e y H4 → R y H4) → te ((wipe σ vs).set j (some x)) H R)
    (hd : ∀ ys H', Al2 (fun e y => G e y H') es ys → Same H1 H' → H' D = some (.lst ys) → Qd H') :
    ∃ W : Nat → Nat → Hp → Prop, (∃ m, W 0 m (upd H1 D (.lst []))) ∧ ∀ i m H, W i m H →
      (J.stop i H ∧ Qd H) ∨ (J.go i H ∧ ∃ Nx : Hp → Prop, (∀ H', Nx H' → ∃ m', m' < m ∧ W (i + 1) m' H') ∧ ∀ x H', J.yld i H x H' → gName j x (wipe σ vs) H' fun σ2 H2 => wipe σ2 vs = wipe σ vs ∧ tYes σ2 H2 fun b H3 =>
        if b = true then te σ2 H3 fun y H4 => ∃ acc, H4 D = some (.lst acc) ∧ acc.length < sizeLine ∧ Nx (upd H4 D (.lst (acc ++ [y]))) else Nx H3) := by
  refine lcW w hn nD hz hG gk gu (fun i e x H H' R hi he sm y r Z => ?_) hd
  obtain ⟨rfl, hx⟩ := y
  refine ⟨hw _, ?_⟩
  unfold tYes
  dsimp only
  rw [if_pos rfl]
  exact turn i e x _ R hi he hx sm r
/-- over pairs: two names -/
theorem lcWp {K : PySem.W.Frag} {f h : Nat → Option V} {j k : Nat} (w : Walk J n G0 (YPair f h)) (hn : es.length = n) (nD : H1 D = none) (hz : n ≤ sizeLine) (hG : ∀ H, Same H1 H → G0 H) (hw : ∀ x y, wipe (((wipe σ vs).set j (some x)).set k (some y)) vs = wipe σ vs)
    (gk : ∀ e y H H', Same H H' → G e y H → G e y H') (gu : ∀ e y H ys zs, H D = some (.lst ys) → G e y H → G e y (upd H D (.lst zs)))
    (turn : ∀ (i : Nat) (e : α) (x y : V) (H : Hp) (R : V → Hp → Prop), i < n → es[i]? = some e → f i = some x → h i = some y → Same H1 H → (∀ y H4, Same H H4 → G e y H4 → R y H4) → te (((wipe σ vs).set j (some x)).set k (some y)) H R)
    (hd : ∀ ys H', Al2 (fun e y => G e y H') es ys → Same H1 H' → H' D = some (.lst ys) → Qd H') :
    ∃ W : Nat → Nat → Hp → Prop, (∃ m, W 0 m (upd H1 D (.lst []))) ∧ ∀ i m H, W i m H →
      (J.stop i H ∧ Qd H) ∨ (J.go i H ∧ ∃ Nx : Hp → Prop, (∀ H', Nx H' → ∃ m', m' < m ∧ W (i + 1) m' H') ∧ ∀ x H', J.yld i H x H' → gTup K 2 (gCons (gName j) (gCons (gName k) gNil)) x (wipe σ vs) H' fun σ2 H2 => wipe σ2 vs = wipe σ vs ∧ tYes σ2 H2 fun b H3 =>
        if b = true then te σ2 H3 fun y H4 => ∃ acc, H4 D = some (.lst acc) ∧ acc.length < sizeLine ∧ Nx (upd H4 D (.lst (acc ++ [y]))) else Nx H3) := by
  refine lcW w hn nD hz hG gk gu (fun i e x H H' R hi he sm y r Z => ?_) hd
  obtain ⟨T, x, y, rfl, nT, rfl, fx, fy⟩ := y
  refine ⟨T, [x, y], rfl, SqT.of upd_same, rfl, x, [y], rfl, y, [], rfl, rfl, hw x y, ?_⟩
  unfold tYes
  dsimp only
  rw [if_pos rfl]
  have sT : Same H (upd H T (.tup [x, y])) := grow nT
  exact turn i e x y _ R hi he fx fy (sm.trans sT) fun z H4 s4 g => r z H4 (sT.trans s4) g
end
/-! ### a tuple of a generator expression over a list, its items by a relation -/
section
variable {j : Nat} {te : TE} {vs : List Nat} {σ : L2.St} {H1 : Hp} {Q : VK}
theorem gwT_rel {K : PySem.W.Frag} {a : Addr} {xs : List V} {α : Type} {es : List α} (G : α → V → Hp → Prop) (hs : SqL K H1 a xs) (hl : es.length = xs.length) (hz : es.length ≤ sizeLine) (hw : ∀ x, wipe ((wipe σ vs).set j (some x)) vs = wipe σ vs) (gk : ∀ e y H H', Same H H' → G e y H → G e y H')
    (item : ∀ (i : Nat) (e : α) (x : V) (H : Hp) (R : VK), es[i]? = some e → xs[i]? = some x → Same H1 H → (∀ y H', Same H H' → G e y H' → R y H') → te ((wipe σ vs).set j (some x)) H R)
    (hd : ∀ ys H', Al2 (fun e y => G e y H') es ys → Same H1 H' → ∀ p, H' p = none → Q (.ref p) (upd H' p (.tup ys))) :
    ∃ W : Nat → Nat → List V → Hp → Prop, (∃ m, W 0 m [] H1) ∧ GWalkT (Itl K a) (gName j) tYes te vs σ (fun ys H' => ys.length ≤ sizeLine ∧ ∀ p, H' p = none → Q (.ref p) (upd H' p (.tup ys))) W := by
  refine ⟨fun i m ys H => m = es.length - i ∧ i ≤ es.length ∧ Same H1 H ∧ Al2 (fun e y => G e y H) (es.take i) ys, ⟨es.length, rfl, Nat.zero_le _, Same.refl _, .nil⟩, ?_⟩
  rintro i m ys H ⟨rfl, hi, sm, al⟩
  have q := sm.seq hs
  have few : ys.length = i := by
    rw [al.length, List.length_take]
    omega
  by_cases lt : i < es.length
  · have lx : i < xs.length := by omega
    have he : es[i]? = some es[i] := List.getElem?_eq_getElem lt
    refine .inr ⟨⟨xs, xs[i], q, List.getElem?_eq_getElem lx⟩, fun ys' H' => Same H1 H' ∧ Al2 (fun e y => G e y H') (es.take (i + 1)) ys', fun ys' H' p => ⟨es.length - (i + 1), by omega, rfl, lt, p.1, p.2⟩, fun x H' y => ?_⟩
    obtain ⟨e, y⟩ := y
    subst e
    refine ⟨hw x, ?_⟩
    unfold tYes
    dsimp only
    rw [if_pos rfl]
    refine item i es[i] x _ _ he (y xs q) sm fun y2 H2 s2 g2 => ⟨by omega, sm.trans s2, ?_⟩
    rw [List.take_add_one, he]
    exact Al2.snoc (R := fun u v => G u v H2) g2 (al.mono fun u v k => gk _ _ _ _ s2 k)
  · have e : i = es.length := by omega
    subst e
    rw [List.take_length] at al
    exact .inl ⟨⟨xs, q, by omega⟩, by omega, hd ys H al sm⟩
end
/-! ### rows of tuples of whole numbers -/
/-- v is a tuple of these -/
def IsB (K : PySem.W.Frag) (b : List Int) (v : V) (H : Hp) : Prop := ∃ p, v = .ref p ∧ SqT K H p (b.map V.int)
theorem IsB.keep {K : PySem.W.Frag} {b : List Int} {v : V} {H H' : Hp} (s : Same H H') (h : IsB K b v H) : IsB K b v H' := by
  obtain ⟨p, e, k⟩ := h
  exact ⟨p, e, keepT s k⟩
theorem IsB.put {K : PySem.W.Frag} {b : List Int} {v : V} {H : Hp} {D : Addr} {ys zs : List V} (e : H D = some (.lst ys)) (h : IsB K b v H) : IsB K b v (upd H D (.lst zs)) := by
  obtain ⟨p, e1, k⟩ := h
  exact ⟨p, e1, keepT_lst k e⟩
abbrev Bs (K : PySem.W.Frag) (H : Hp) (B : List (List Int)) (vs : List V) : Prop := Al2 (fun b v => IsB K b v H) B vs
theorem Bs.keep {K : PySem.W.Frag} {H H' : Hp} {B : List (List Int)} {vs : List V} (s : Same H H') (h : Bs K H B vs) : Bs K H' B vs := h.mono fun _ _ k => k.keep s
theorem Bs.put {K : PySem.W.Frag} {H : Hp} {B : List (List Int)} {vs : List V} {D : Addr} {ys zs : List V} (e : H D = some (.lst ys)) (h : Bs K H B vs) : Bs K (upd H D (.lst zs)) B vs := h.mono fun _ _ k => k.put e
theorem Bs.dp {K : PySem.W.Frag} {H : Hp} : ∀ {B : List (List Int)} {vs : List V}, Bs K H B vs → DpAll K H vs (B.map dInts)
  | _, _, .nil => .nil
  | _, _, .cons h hs => by
    obtain ⟨p, rfl, k⟩ := h
    exact .cons (dpTup k) (Bs.dp hs)
/-- a tuple of such rows, as data -/
abbrev dRows (B : List (List Int)) : PyData := .tuple (B.map dInts)
theorem dRows_ok {B : List (List Int)} (h : B.length ≤ 100000) (hb : ∀ b ∈ B, b.length ≤ 100000) : tupsOnly (dRows B) = true ∧ PyData.depth (dRows B) ≤ 2 := by
  have a : ∀ {B : List (List Int)}, (∀ b ∈ B, b.length ≤ 100000) → tupsAll (B.map dInts) = true ∧ PyData.depthAll (B.map dInts) ≤ 1 := by
    intro B
    induction B with
    | nil => exact fun _ => ⟨rfl, Nat.zero_le _⟩
    | cons b r ih =>
      intro hb
      have i := ih fun c hc => hb c (List.mem_cons_of_mem _ hc)
      have o := dInts_ok b (hb b (by simp))
      rw [List.map_cons, tupsAll, o.1, i.1, PyData.depthAll]
      exact ⟨rfl, Nat.max_le.mpr ⟨o.2, i.2⟩⟩
  have o := a hb
  refine ⟨?_, ?_⟩
  · rw [tupsOnly, o.1, decide_eq_true (by rw [List.length_map]; exact h)]
    rfl
  · show PyData.depthAll (B.map dInts) + 1 ≤ 2
    omega
/-! ### an object that is made -/
structure CalM (P : Program) (w : World) (K : PySem.W.Frag) (mg : Str → Option Value) (base : Heap) (x : Str) (C : Addr) (k : Nat) (ps : List Str) (sp : Sp) : Prop where
  ex : ∃ f fd, Mk K C f ∧ FnOk P w K mg base CX0 k f fd ps sp ∧ mg x = some (.ref C) ∧ Binds K fd ps []
theorem pe_mk {X : Cx} {x : Str} {C : Addr} {k : Nat} {ps : List Str} {sp : Sp} {p pos : Pos} {e : Expr} {es : List Expr} {t : TA} (M : CalM X.prog X.w X.K X.mg X.base x C k ps sp) (hr : Room (k + 1) X.A) (ha : PA X (e :: es) t) (hg : Gl X x := by rfl) (hdb : (x == ("__debug__" : Str)) = false := by decide)
    (he : starEach (e :: es) X.env = (false, eval e X.env) :: starEach es X.env := by rfl) (hpl : (backTo pos (starEach es X.env)).any (·.1) = false := by rfl) : PE X (.Call (.Name x p) (e :: es) [] pos) (tMake C sp [] E0 t) := by
  obtain ⟨f, fd, mk, F, m, b⟩ := M.ex
  exact pe_make mk F hr hg m b .nil pass0 ha hdb he hpl
theorem fun_ofDq {K : PySem.W.Frag} {x qual : Str} {st : Stmt} {f : Addr} {fd : FuncData} (D : FunD K x qual (defArgs st) (defBody st) (defScope st) [] [] f fd) : Fun K x qual st f fd := by
  obtain ⟨oc, od, dV, kV, doc, pm, an, cdv, ct, osl, h1, h2, h3, h4, _⟩ := D.ex
  rcases h4 with ⟨_, h4⟩ | ⟨h4, _⟩
  · cases h4
    exact ⟨⟨oc, od, kV, doc, pm, an, cdv, ct, osl, h1, h2, h3⟩, D.kp⟩
  · exact absurd rfl h4
/-! ### try, when the body raises nothing -/
theorem ps_tryN {X : Cx} {body : List Stmt} {h₀ : ExceptHandler} {hds : List ExceptHandler} {pos : Pos} {tb : TS} (hb : ∀ (pn : List (Addr × Obj)) (xe : Value → Shared → Prop), PSs (X.tr pn xe) body tb) : PS X (.Try body (h₀ :: hds) [] [] pos) tb := by
  refine ⟨fun pins s σ H D I h => ?_⟩
  have ok := I.ok
  refine wpAny_Try_except ?_
  refine wpAny_mono ((hb (X.pn ++ pins) _).run [] s σ H D (I.toTry _) h) (fun f s1 hsp => ?_) (fun e s1 he => he)
  cases f with
  | next =>
    obtain ⟨σ', H', J', q⟩ := hsp
    exact wpAny_execs_nil ⟨σ', H', J'.ofTry ok, q⟩
  | ret u =>
    obtain ⟨v, σ', H', J', r, q⟩ := hsp
    exact ⟨v, σ', H', J'.ofTry ok, r, q⟩
  | _ =>
    obtain ⟨σ', H', J', q⟩ := hsp
    exact ⟨σ', H', J'.ofTry ok, q⟩
end Fc

namespace Fc
open PySem PySem.Spec L2 PyProof.Rows
variable [LamNames]
/-! ### t[::-1] -/
section
variable {pr : Program} {wd : World} {Ar : Around} {E : Value → Shared → Prop} {st : Shared}
theorem back_adjust (n : Nat) : Builtin.Slice.sliceAdjust none none (-1) (n : Int) = ((n : Int) - 1, -1) := rfl
theorem back_places (n : Nat) : Builtin.Slice.slicePlaces ((n : Int) - 1) (-1) (-1) = n := by
  have e : ((n : Int) - 1 - -1 - 1) / (- -1) = (n : Int) - 1 := by
    have z : (- -1 : Int) = 1 := by decide
    rw [z, Int.ediv_one]
    omega
  have z : ¬ ((-1 : Int) > 0) := by decide
  simp only [Builtin.Slice.slicePlaces, if_neg z, e]
  split <;> omega
theorem alike_filterMap {f g : Nat → Option Value} : ∀ {l : List Nat}, (∀ k ∈ l, f k = g k) → l.filterMap f = l.filterMap g
  | [], _ => rfl
  | a :: r, h => by rw [List.filterMap_cons, List.filterMap_cons, h a List.mem_cons_self, alike_filterMap fun k hk => h k (List.mem_cons_of_mem _ hk)]
theorem all_of {ys : List Value} : (List.range ys.length).filterMap (fun k => ys[k]?) = ys := by
  have h := PySem.pick_run ys.toArray 0 ys.length
  have e : (List.range ys.length).map (0 + ·) = List.range ys.length := by simp
  rw [e] at h
  simpa using h
theorem back_pick (xs : Array Value) : ((List.range xs.size).filterMap fun (k : Nat) => xs[((xs.size : Int) - 1 + (k : Int) * -1).toNat]?).toArray = xs.toList.reverse.toArray := by
  congr 1
  rw [alike_filterMap (g := fun k => xs.toList.reverse[k]?)]
  · have e2 : xs.size = xs.toList.reverse.length := by rw [List.length_reverse, Array.length_toList]
    rw [e2]
    exact all_of
  · intro k hk
    have hk' := List.mem_range.mp hk
    rw [List.getElem?_reverse (by rw [Array.length_toList]; exact hk'), Array.length_toList, Array.getElem?_toList]
    congr 1
    omega
theorem back_applied {sl : Addr} {v : Value} {n : Nat} {Q : Int × Int × Nat → Shared → Prop} (isl : st.heap.IsSliceOf sl .none .none v) (pt : IsPart v (some (-1)))
    (q : Q ((n : Int) - 1, -1, n) st) : wpAny (model pr wd) Ar (Builtin.Slice.sliceApplied (.ref sl) (pure (n : Int))) Q E st := by
  obtain ⟨o, ho, _, hf⟩ := isl
  simp only [Builtin.Slice.sliceApplied, Builtin.Slice.sliceFields]
  refine wpAny_bind (wpAny_bind (wpAny_field ho hf (x := .none) rfl (wpAny_bind (wpAny_field ho hf (x := .none) rfl (wpAny_bind (wpAny_field ho hf (x := v) rfl (wpAny_pure ?_)))))))
  refine wpAny_bind (HT.slicePart_ pt ?_)
  show wpAny _ _ (if ((-1 : Int) == 0) = true then _ else _) _ _ st
  rw [if_neg (by decide)]
  refine wpAny_bind (HT.slicePart_ .none (wpAny_bind (HT.slicePart_ .none (wpAny_bind (wpAny_pure ?_)))))
  show wpAny _ _ (match Builtin.Slice.sliceAdjust none none (-1) (n : Int) with | (lo, hi) => pure (lo, (-1 : Int), Builtin.Slice.slicePlaces lo hi (-1))) _ _ st
  rw [back_adjust n]
  show wpAny _ _ (pure ((n : Int) - 1, (-1 : Int), Builtin.Slice.slicePlaces ((n : Int) - 1) (-1) (-1))) _ _ st
  rw [back_places]
  exact wpAny_pure q
theorem back_item {t sl : Addr} {its : Array Value} {v : Value} {Q : Value → Shared → Prop} (tp : IsTup st.heap t its) (isl : st.heap.IsSliceOf sl .none .none v) (pt : IsPart v (some (-1)))
    (q : Q (.ref st.heap.objs.size) { st with heap := st.heap.push { cls := .type "tuple", data := .seq its.toList.reverse.toArray } }) (few : its.size ≤ sizeLine) :
    wpAny (model pr wd) Ar (getItem (.ref t) (.ref sl)) Q E st := by
  have fits : sizeOk (.seq its.toList.reverse.toArray) := by
    show its.toList.reverse.toArray.size ≤ sizeLine
    rw [List.size_toArray, List.length_reverse, Array.length_toList]
    exact few
  have isT : st.TypeIs (.ref sl) "slice" := by
    obtain ⟨o, ho, hc, _⟩ := isl
    exact ⟨o, ho, hc⟩
  have other : ¬ (((its.size : Int) - 1 == 0 && (-1 : Int) == 1 && its.size == its.size) = true) := fun z => by
    have z1 := (Bool.and_eq_true_iff.mp (Bool.and_eq_true_iff.mp z).1).2
    exact absurd z1 (by decide)
  unfold getItem
  with_reducible refine wpAny_holding ?_
  refine wpAny_bind (wpAny_sequenceKey tp.typeIs (by decide) (wpAny_bind (wpAny_callSpecial?_slot (name := Str.ofString "__getitem__") tp.typeIs PyProof.Rows.slot_tuple_getitem
    (wpAny_call_entry PyProof.Rows.slot_tuple_getitem tp.typeIs entry_tuple_getitem ?_ (args_tuple_getitem _ _)))))
  show wpAny _ _ (Builtin.Tuple.tupleItemsOf (.ref t) >>= _) _ _ st
  refine wpAny_bind (tupleItemsOf_ tp (wpAny_bind (wpAny_typeOf isT ?_)))
  rw [if_pos (by decide)]
  refine wpAny_bind (back_applied isl pt ?_)
  show wpAny _ _ (if ((its.size : Int) - 1 == 0 && (-1 : Int) == 1 && its.size == its.size) = true then _ else _) _ _ st
  rw [if_neg other, back_pick]
  first
    | exact wpAny_bind (m := Builtin.Tuple.tupleExact _) (wpAny_newObj_type (wpAny_bind (wpAny_pure (wpAny_pure ⟨_, rfl, wpAny_pure q⟩))) fits)
    | exact wpAny_bind (wpAny_bind (m := Builtin.Tuple.tupleExact _) (wpAny_newObj_type (wpAny_pure (wpAny_pure ⟨_, rfl, wpAny_pure q⟩)) fits))
    | exact wpAny_bind (m := Builtin.Tuple.tupleExact _) (wpAny_newObj_type (wpAny_pure ⟨_, rfl, wpAny_pure q⟩) fits)
end
section
variable {X : Cx}
def tRevU (K : PySem.W.Frag) (te : TE) : TE := fun σ H Q => te σ H fun x H1 => ∃ a xs, x = .ref a ∧ SqT K H1 a xs ∧ Tups K H1 xs.reverse Q
theorem pe_revT {e : Expr} {te : TE} {k : Nat} {p1 p2 p3 pos : Pos} (he : PE X e te) : PE X (.Subscript e (.Slice none none (some (.UnaryOp .USub (.Constant (.int 1) k p1) p2)) p3) pos) (tRevU X.K te) :=
  ⟨fun pins s σ H Q I h => Subscript_ (thn (he.run pins s σ H _ I h) fun v sa ⟨x, Ha, Ia, ra, a, xs, ex, hx, q⟩ => by
    subst ex
    cases ra
    have minus : PO X (some (.UnaryOp .USub (.Constant (.int 1) k p1) p2)) (tPart (tUn (rU fun i => .int (-i)) (tC (.int 1)))) := po_some (pe_un un_neg pe_int)
    refine wpAny_Slice (thn (po_none.run pins sa σ Ha (fun o H' => o = none ∧ H' = Ha) Ia ⟨rfl, rfl⟩) fun vl sb ⟨l, Hb, Ib, pl, el, eb⟩ => ?_)
    subst el eb
    refine thn (po_none.run pins sb σ Hb (fun o H' => o = none ∧ H' = Hb) Ib ⟨rfl, rfl⟩) fun vu sc ⟨u, Hc, Ic, pu, eu, ec⟩ => ?_
    subst eu ec
    refine thn (minus.run pins sc σ Hc (fun o H' => o = some (-1) ∧ H' = Hc) Ic ⟨1, rfl, -1, rfl, rfl, rfl⟩) fun vs sd ⟨o, Hd, Id, ps, eo, ed⟩ => ?_
    subst eo ed
    cases pl
    cases pu
    have J : Inv X pins σ Hd { sd with heap := sd.heap.push { cls := .type "slice", data := .fields #[.none, .none, vs] } } := Id.kept (t' := sd.toks) fun b ob z => Heap.get?_push_of_some _ z
    obtain ⟨its, r, tp, few⟩ := J.tuple hx
    have same := r.length
    show wpAny (model X.prog X.w) X.A (subscriptTail e (.Slice none none (some (.UnaryOp .USub (.Constant (.int 1) k p1) p2)) p3) (.ref a) (.ref sd.heap.objs.size)) (EP X pins σ Q) X.xe { sd with heap := sd.heap.push { cls := .type "slice", data := .fields #[.none, .none, vs] } }
    refine tail_any (ops := [.ref a, .ref sd.heap.objs.size]) tp.typeIs (PyProof.Rows.slot_tuple_getitem.lookup) ?_ (by with_unfolding_all rfl)
    refine back_item tp (Heap.IsSliceOf.new _ .none .none vs) ps ?_ (by rw [List.size_toArray]; omega)
    refine ⟨.ref _, _, J.laid (t' := sd.toks) (o := .tup xs.reverse) (fun b ob z => Heap.get?_push_of_some _ z) (Nat.le_refl _) ?_, rfl, q.new (J.hok.fresh (Nat.le_refl _))⟩
    exact ⟨by rw [List.length_reverse]; exact few, _, r.reverse, IsTup.new _ _⟩)⟩
end
end Fc

namespace Fc
open PySem PySem.Spec L2 PyProof.Rows
variable [LamNames]
/-! ### a list that grows by a tuple -/
theorem ext_any (l : Addr) (its : Array Value) (n : Nat) (b : Addr) (o : Obj) (its2 : Array Value) (n2 : Nat) (hc : o.cls = .type "tuple") (hd : o.data = .seq its2 n2) (hs0 : ¬(!its.isEmpty && Builtin.List.listTooLong (its.size + its2.size)) = true) (hs1 : its.size ≤ sizeLine) (hs2 : its.size + its2.size ≤ sizeLine + 1) :
    Meets (Builtin.«list.extend» ⟨[.ref l, .ref b], []⟩) (fun _ R s => s.heap.get? l = some { cls := .type "list", dict := none, data := .seq its n, slots := #[] } ∧ s.heap.get? b = some o ∧ R (.ok (.ret Value.none)) { s with heap := s.heap.update l (Obj.mapSeq fun x => x ++ its2), toks := s.toks }) := by
  refine .of_wp fun prog w A R s h => ?_
  obtain ⟨cls, dict, data, slots⟩ := o
  dsimp only at hc hd
  subst hc hd
  obtain ⟨hp, g, d, tk, os⟩ := s
  obtain ⟨hl, hb, h⟩ := h
  have f1 := PySem.AutoSeq1.sub_tuple_tuple
  have f2 := PySem.AutoSeq1.sub_list_list
  have f3 := PySem.AutoSeq1.sub_tuple_list
  have f4 := PySem.AutoSeq1.sub_list_tuple
  have f5 := PySem.AutoSeq1.idx_int
  have hz' : (its ++ its2).size ≤ sizeLine + 1 := by
    rw [Array.size_append]
    exact hs2
  wp_walk using (wpAny_updateSeq hl rfl (hz := hs1) (_hz' := hz')), wpAny_loadPart' hl, wpAny_loadPart' hb
  exact ⟨_, rfl, h⟩
section
variable {X : Cx}
def rExtT (K : PySem.W.Frag) : V → List V → Hp → VK → Prop := fun x vs H Q => ∃ l b xs zs, x = .ref l ∧ vs = [.ref b] ∧ H l = some (.lst xs) ∧ SqT K H b zs ∧ xs.length + zs.length ≤ sizeLine ∧ Q .non (upd H l (.lst (xs ++ zs)))
theorem mt_extendT : MtM X "list.extend" (rExtT X.K) := by
  intro pins s σ H x vs v us Q I rx rv h
  obtain ⟨l, b, xs, zs, rfl, rfl, hH, hB, hz, q⟩ := h
  cases rx
  obtain ⟨u, rfl, ru⟩ := rv.one
  cases ru
  obtain ⟨z, its, n, r, hl, e⟩ := I.lstM hH
  obtain ⟨its2, r2, ⟨o, e2, hc, n2, hd⟩, z2⟩ := I.tuple hB
  have l2 := r2.length
  have hsz : its.toArray.size + its2.toArray.size ≤ sizeLine := by rw [List.size_toArray, List.size_toArray]; omega
  have hlong : ¬ (!its.toArray.isEmpty && Builtin.List.listTooLong (its.toArray.size + its2.toArray.size)) = true := by
    rw [notLongL hsz, Bool.and_false]
    exact Bool.false_ne_true
  refine call_meets F.slot_list_extend ⟨_, e, rfl⟩ F.entry_list_extend (F.args_list_extend_2 _ _)
    (ext_any l its.toArray n b o its2.toArray n2 hc hd hlong (by rw [List.size_toArray]; omega) (by omega)) ⟨e, e2, ?_⟩
  refine ⟨.non, _, I.lset (its' := its ++ its2) hH e (by simp) (r.append r2) ?_, rfl, q⟩
  rw [List.length_append]
  omega
end
/-! ### all but one object -/
def But (b : Addr) (H H' : Hp) : Prop := ∀ a o, a ≠ b → H a = some o → H' a = some o
theorem But.refl (b : Addr) (H : Hp) : But b H H := fun _ _ _ h => h
theorem But.trans {b : Addr} {H H' H'' : Hp} (h : But b H H') (h2 : But b H' H'') : But b H H'' := fun a o n e => h2 a o n (h a o n e)
theorem But.set {b : Addr} {H H' : Hp} {o : HO} (h : But b H H') : But b H (upd H' b o) := fun a o' n e => by
  rw [upd_ne n]
  exact h a o' n e
/-- what is new behind a heap may change -/
theorem But.same {b : Addr} {H H1 H2 : Hp} (s : Same H H1) (n : H b = none) (nc : NC (H1 b)) (h : But b H1 H2) : Same H H2 := ⟨fun a o e nt => h a o (ne_of_none e n) (s.get a o e nt), fun a ps e => by
  obtain ⟨ps', e', t, m⟩ := s.tab a ps e
  refine ⟨ps', h a _ (ne_of_none e n) e', t, fun q hq z pos cv hc => ?_⟩
  obtain ⟨c, e1, e2⟩ := m q hq z pos cv hc
  exact ⟨c, e1, h c _ (fun k => by rw [k] at e2; rw [e2] at nc; exact nc) e2⟩⟩
theorem But.tup {K : PySem.W.Frag} {b t : Addr} {H H' : Hp} {xs ys : List V} (h : But b H H') (e : H b = some (.lst ys)) (ht : SqT K H t xs) : SqT K H' t xs := by
  rcases ht with (ht | ⟨o, ht⟩) | ht
  · left; left
    exact h t _ (fun z => by subst z; rw [e] at ht; cases ht) ht
  · left; right
    exact ⟨o, h t _ (fun z => by subst z; rw [e] at ht; cases ht) ht⟩
  · right; exact ht
end Fc

namespace Fc
open PySem PySem.Spec L2 PyProof.Rows
variable [LamNames]
/-! ### values that are data, not too large -/
def OkV (K : PySem.W.Frag) (n : Nat) (H : Hp) (v : V) : Prop := ∃ d, Dp K H v d ∧ Fine n d
structure OkT (K : PySem.W.Frag) (n m : Nat) (H : Hp) (a : Addr) (xs : List V) : Prop where
  sq : SqT K H a xs
  few : xs.length ≤ m
  all : ∀ x ∈ xs, OkV K n H x
section
variable {K : PySem.W.Frag} {H H' : Hp} {n m : Nat}
theorem OkV.keep {v : V} (h : OkV K n H v) (s : Same H H') : OkV K n H' v := by
  obtain ⟨d, k, f⟩ := h
  exact ⟨d, dpKeep s k, f⟩
theorem OkV.mono {v : V} {k : Nat} (h : OkV K n H v) (hk : n ≤ k) : OkV K k H v := by
  obtain ⟨d, e, f⟩ := h
  exact ⟨d, e, f.mono hk⟩
theorem OkT.keep {a : Addr} {xs : List V} (h : OkT K n m H a xs) (s : Same H H') : OkT K n m H' a xs := ⟨keepT s h.sq, h.few, fun x hx => (h.all x hx).keep s⟩
theorem ok_data : ∀ {xs : List V}, (∀ x ∈ xs, OkV K n H x) → ∃ ds, DpAll K H xs ds ∧ ∀ d ∈ ds, Fine n d
  | [], _ => ⟨[], .nil, fun d h => by cases h⟩
  | x :: r, h => by
    obtain ⟨d, k, f⟩ := h x (by simp)
    obtain ⟨ds, ks, fs⟩ := ok_data fun y hy => h y (List.mem_cons_of_mem _ hy)
    refine ⟨d :: ds, .cons k ks, fun e he => ?_⟩
    rcases List.mem_cons.mp he with rfl | he
    · exact f
    · exact fs e he
theorem OkT.ok {a : Addr} {xs : List V} (h : OkT K n m H a xs) (hm : m ≤ 5000 := by decide) : OkV K (n + 1) H (.ref a) := by
  obtain ⟨ds, ks, fs⟩ := ok_data h.all
  have l := dpLen ks
  have := h.few
  exact ⟨.tuple ds, .tup h.sq ks, Fine.tup (by omega) fs⟩
theorem okL {a : Addr} {xs : List V} (h : SqL K H a xs) (few : xs.length ≤ 5000) (all : ∀ x ∈ xs, OkV K n H x) : OkV K (n + 1) H (.ref a) := by
  obtain ⟨ds, ks, fs⟩ := ok_data all
  have l := dpLen ks
  exact ⟨.list ds, .lst h ks, Fine.lst (by omega) fs⟩
theorem ok_int (i : Int) : OkV K n H (.int i) := ⟨.int i, .int i, rfl, by show 0 ≤ n; omega⟩
theorem ok_bl (b : Bool) : OkV K n H (.bl b) := ⟨.bool b, .bl b, rfl, by show 0 ≤ n; omega⟩
theorem ok_non : OkV K n H .non := ⟨.none, .non, rfl, by show 0 ≤ n; omega⟩
theorem ok_str (x : Str) (h : fineB (.str x) = true := by decide +kernel) : OkV K n H (.str x) := ⟨.str x, .str x, h, by show 0 ≤ n; omega⟩
theorem fine_td {l : List Nat} (hl : l.length ≤ 2000) (hc : ∀ c ∈ l, c < 1114112) : fineB (td l) = true := by
  show (PyData.canLay0 (.str (mkS l)) && decide ((mkS l).length ≤ 2000)) = true
  rw [len_mkS, decide_eq_true hl, Bool.and_true, PyData.canLay0]
  show ((mkS l).cps.all fun c => decide (c < 0x110000)) = true
  unfold mkS
  rw [List.all_toArray, List.all_eq_true]
  intro c h
  exact decide_eq_true (hc c h)
/-- any piece of it -/
theorem OkT.part {a b : Addr} {xs ys : List V} (h : OkT K n m H a xs) (s : Same H H') (hy : SqT K H' b ys) (sub : ∀ y ∈ ys, y ∈ xs) (few : ys.length ≤ m) : OkT K n m H' b ys := ⟨hy, few, fun y hy => (h.all y (sub y hy)).keep s⟩
theorem cutV_sub (xs : List V) (lo hi : Option Int) : (∀ y ∈ cutV xs lo hi, y ∈ xs) ∧ (cutV xs lo hi).length ≤ xs.length := by
  unfold cutV
  exact ⟨fun y h => List.mem_of_mem_drop (List.mem_of_mem_take h), by rw [List.length_take, List.length_drop]; omega⟩
theorem r_cut {x : V} {a : Addr} {xs : List V} {lo hi : Option Int} {Q : VK} (h : OkT K n m H a xs) (q : ∀ H' b ys, Same H H' → OkT K n m H' b ys → Q (.ref b) H') : rSlU K (.ref a) lo hi H Q :=
  ⟨a, xs, rfl, h.sq, fun H' b s hb => q H' b _ s (h.part s hb (cutV_sub xs lo hi).1 (Nat.le_trans (cutV_sub xs lo hi).2 h.few))⟩
theorem szL5 {n : Nat} (h : n ≤ 5000) : n ≤ sizeLine := by
  rw [sizeLine_eq]
  omega
theorem r_cat {a b : Addr} {xs ys : List V} {k : Nat} {Q : VK} (h : OkT K n m H a xs) (g : OkT K n k H b ys) (few : m + k ≤ 5000) (q : ∀ H' c zs, Same H H' → OkT K n (m + k) H' c zs → Q (.ref c) H') : rCatU K (.ref a) (.ref b) H Q := by
  have l1 := h.few
  have l2 := g.few
  refine ⟨a, b, xs, ys, rfl, rfl, h.sq, g.sq, szL5 (by omega), fun H' c s hc => q H' c _ s ⟨hc, by rw [List.length_append]; omega, fun z hz => ?_⟩⟩
  rcases List.mem_append.mp hz with hz | hz
  · exact (h.all z hz).keep s
  · exact (g.all z hz).keep s
theorem okT_of {b : Addr} {ys : List V} (hb : SqT K H b ys) (few : ys.length ≤ m) (all : ∀ y ∈ ys, OkV K n H y) : OkT K n m H b ys := ⟨hb, few, all⟩
theorem all_nil {p : V → Prop} : ∀ x ∈ ([] : List V), p x := fun x h => by cases h
theorem all_cons {p : V → Prop} {x : V} {r : List V} (h : p x) (k : ∀ y ∈ r, p y) : ∀ y ∈ x :: r, p y := List.forall_mem_cons.mpr ⟨h, k⟩
theorem ne_of_nb {a b : Addr} (h : (!decide (a = b)) = true) : a ≠ b := fun e => by
  rw [decide_eq_true e] at h
  cases h
/-! ### the heap without one object -/
def del (H : Hp) (p : Addr) : Hp := fun b => if b = p then none else H b
theorem del_ne {p b : Addr} (h : b ≠ p) : del H p b = H b := if_neg h
theorem del_get {p b : Addr} {o : HO} (h : del H p b = some o) : b ≠ p ∧ H b = some o := by
  unfold del at h
  by_cases z : b = p
  · rw [if_pos z] at h
    cases h
  · rw [if_neg z] at h
    exact ⟨z, h⟩
theorem del_upd (H : Hp) (p : Addr) (o : HO) : del (upd H p o) p = del H p := by
  funext b
  unfold del
  by_cases z : b = p
  · rw [if_pos z, if_pos z]
  · rw [if_neg z, if_neg z, upd_ne z]
theorem del_sub (H : Hp) (p : Addr) : Same (del H p) H := ⟨fun b o h _ => (del_get h).2, fun b ps h => ⟨ps, (del_get h).2, fun z => z, fun q _ z pos cv hc => by
  obtain ⟨c, e1, e2⟩ := z pos cv hc
  exact ⟨c, e1, (del_get e2).2⟩⟩⟩
theorem del_same {p : Addr} {ys : List V} (s : Same H H') (hp : H' p = some (.lst ys)) : Same (del H p) (del H' p) := ⟨fun b o h nt => by
  obtain ⟨nb, h⟩ := del_get h
  rw [del_ne nb]
  exact s.get b o h nt, fun b ps h => by
  obtain ⟨nb, h⟩ := del_get h
  obtain ⟨ps', h', t, m⟩ := s.tab b ps h
  refine ⟨ps', by rw [del_ne nb]; exact h', t, fun q hq z pos cv hc => ?_⟩
  obtain ⟨c, e1, e2⟩ := m q hq (fun pos cv hc => by
    obtain ⟨c, e1, e2⟩ := z pos cv hc
    exact ⟨c, e1, (del_get e2).2⟩) pos cv hc
  refine ⟨c, e1, ?_⟩
  rw [del_ne fun k => by rw [k, hp] at e2; cases e2]
  exact e2⟩
theorem del_tup {p t : Addr} {xs ys : List V} (h : SqT K H t xs) (hp : H p = some (.lst ys)) : SqT K (del H p) t xs := by
  rcases h with (h | ⟨o, h⟩) | h
  · refine .inl (.inl ?_)
    rw [del_ne fun k => by rw [k, hp] at h; cases h]
    exact h
  · refine .inl (.inr ⟨o, ?_⟩)
    rw [del_ne fun k => by rw [k, hp] at h; cases h]
    exact h
  · exact .inr h
theorem OkV.of_del {v : V} {p : Addr} (h : OkV K n (del H p) v) : OkV K n H v := h.keep (del_sub H p)
/-- what is data in a heap without p stays so when p comes -/
theorem OkV.to_del {v : V} {p : Addr} {o : HO} (h : OkV K n H v) (np : H p = none) : OkV K n (del (upd H p o) p) v := by
  have e : del (upd H p o) p = H := by
    rw [del_upd]
    funext b
    unfold del
    by_cases z : b = p
    · rw [if_pos z, z, np]
    · rw [if_neg z]
  rw [e]
  exact h
end
end Fc

namespace Fc
open PySem PySem.Spec L2 PyProof.Rows
variable [LamNames]
/-! ### sorted(l, key=lambda entry: entry[1]) -/
section
variable {X : Cx}
/-- the lambda called at a tuple whose second part is a text -/
theorem lam_ix1 {P : Program} {w : World} {A : Around} {s : Shared} {l : Lam} {x : Str} {p1 p2 p3 : Pos} {kd : Nat} {t : Addr} {its : Array Value} {y : Value} {Q : Value → Shared → Prop} {E : Value → Shared → Prop}
    (hb : l.body = .Subscript (.Name x p1) (.Constant (.int 1) kd p2) p3) (S : FnScope [x] [x] l.scope) (loc : l.scope.names.lookup x = some .local) (lim : s.heap.NoLimit) (hroom : A.depth < recursionLimit) (ho : s.heap.get? l.f = some l.obj) (hc : s.heap.CodeRec (.ref l.c) l.q) (bd : BindsTo s l.fd ⟨[.ref t], []⟩ ([x].zip [.ref t]))
    (hdb : (x == ("__debug__" : Str)) = false) (ht : IsTup s.heap t its) (hy : its[1]? = some y)
    (q : ∀ h' tk, (∀ b o, s.heap.get? b = some o → h'.get? b = some o) → Q y { s with heap := h', toks := tk }) : wpAny (model P w) A (call (.ref l.f) [.ref t]) Q E s := by
  refine wpAny_call ?_
  have hkind : ∀ z ∈ [x].zip [Value.ref t], l.scope.names.lookup z.1 = some .local ∨ (l.scope.names.lookup z.1 = some .cell ∧ ((cellsFrom (s.heap.objs.size + 1) l.scope.names []).lookup z.1).isSome = true) := fun z hz =>
    (S.par z.1 (List.of_mem_zip (show (z.1, z.2) ∈ [x].zip [Value.ref t] from hz)).1).elim .inl fun k => .inr ⟨k, PySem.W.cellsFrom_some _ _ _ (.inl k)⟩
  refine PySem.W.kla_callFunE hroom ho rfl S.co S.gen rfl hc (bd _ _ _ _ ?_)
  refine wpAny_newFunctionEnv_cells S.kind hkind fun env he s1 z => ?_
  subst he
  refine ⟨lim.keeps z.toInCall.keep, PySem.W.kla_codeExpr ?_⟩
  rw [hb]
  obtain ⟨h1, tk, rfl, hk⟩ := z.done
  refine wpAny_Subscript_Constant_late (wpAny_Name (wpAny_loadName_local (v := .ref t) S.kind loc z.toInCall.ns ?_ ?_) hdb)
  · show (if l.scope.names.lookup x = some .local then fun y => if y = x then some (Value.ref t) else none else fun _ => none) x = some (.ref t)
    rw [if_pos loc]
    exact if_pos rfl
  · have ht1 : IsTup h1 t its := ht.keeps hk
    refine wpAny_Constant_int ⟨"tuple", _, PyProof.Rows.slot_tuple_getitem.lookup, ht1.typeIs, getItem_tuple ht1 (by decide) (by decide) (j := 1) ?_ hy (q _ _ hk)⟩
    have l1 : 1 < its.size := (Array.getElem?_eq_some_iff.mp hy).1
    unfold seqIndex?
    simp only [show ¬ ((1 : Int) < 0) by decide, if_false]
    rw [if_pos (by rw [Bool.and_eq_true]; exact ⟨by decide, decide_eq_true (by omega)⟩)]
    rfl
/-- sorted(l, key=the lambda): the rows by the texts in their second place -/
def rSortL (K : PySem.W.Frag) (q : Str) (A : Arguments) (B : Expr) (S : Scope) : List V → List V → Hp → VK → Prop := fun vs zs H Q => ∃ (a f c : Addr) (pm ct : Value) (ps : List (V × List Nat)), vs = [.ref a] ∧ zs = [.ref f] ∧ LamAt H ⟨f, c, pm, ct, q, A, B, S⟩ ∧ SqL K H a (ps.map Prod.fst) ∧
  (∀ x ∈ ps, ∃ t us, x.1 = .ref t ∧ SqT K H t us ∧ us[1]? = some (T x.2)) ∧ ∀ p, H p = none → Q (.ref p) (upd H p (.lst ((ps.mergeSort fun x y => decide (x.2 ≤ y.2)).map Prod.fst)))
theorem each_vals : ∀ {ps : List (V × List Nat)} {us : List Value}, Vals (ps.map Prod.fst) us → PySem.W.EachIs (fun u x => RelV x.1 u) us ps
  | [], _, .nil => .nil
  | _ :: _, _, .cons h t => .cons h (each_vals t)
theorem vals_each : ∀ {ps : List (V × List Nat)} {us : List Value}, PySem.W.EachIs (fun u x => RelV x.1 u) us ps → Vals (ps.map Prod.fst) us
  | _, _, .nil => .nil
  | _, _, .cons h t => .cons h (vals_each t)
theorem cr_sortedL {k : Nat} {x : Str} {q : Str} {A : Arguments} {B : Expr} {S : Scope} {p1 p2 p3 : Pos} {kd : Nat} (hb : B = .Subscript (.Name x p1) (.Constant (.int 1) kd p2) p3) (Sc : FnScope [x] [x] S) (loc : S.names.lookup x = some .local) (hdb : (x == ("__debug__" : Str)) = false) (hr : Room k X.A)
    (bL : ∀ f c pm ct, L2.Binds X.K (Lam.fd ⟨f, c, pm, ct, q, A, B, S⟩) [x] []) : CallRK X (.builtin "sorted") [Str.ofString "key"] (rSortL X.K q A B S) := by
  intro pins s σ H vs zs us ws Q I r rz h
  obtain ⟨a, f, c, pm, ct, ps, rfl, rfl, L, hs, rows, fin⟩ := h
  obtain rfl := Vals.ref1 r
  obtain rfl := Vals.ref1 rz
  obtain ⟨its, rv, hl, hz⟩ := I.list hs
  rw [List.length_map] at hz
  have hu := hr.units
  refine PySem.W.sorted_key_data (b := false) (R := fun u (x : V × List Nat) => RelV x.1 u) (fun x : V × List Nat => .str (mkS x.2)) hl.isList (each_vals rv) (PySem.W.AllAlike.of fun _ _ => by simp [PySem.W.alike]) (PySem.W.Sortable.others fun _ => ⟨by simp, by simp⟩) hz (fun x _ => ?_) (ksk_s1 _ _) (fun _ => ksk_l1 _ _) (fun _ => ksk_t1 _ _)
    (fun v x hR hx h tk kp => ?_) fun out cc h' tk kp hn hD hlen eo => ?_
  · have hd : (PySem.PyData.str (mkS x.2)).depth = 0 := by simp [PySem.PyData.depth]
    omega
  · obtain ⟨x, kx⟩ := x
    obtain ⟨t, ys, rfl, ht, hy⟩ := rows _ hx
    obtain rfl : v = .ref t := hR
    obtain ⟨it, ri, hT, _⟩ := I.tuple ht
    obtain ⟨y, hy1, ry⟩ : ∃ y, it[1]? = some y ∧ RelV (T kx) y := ri.get hy
    obtain ⟨tk2, rfl⟩ : ∃ tk2, y = .str (mkS kx) tk2 := ry
    obtain ⟨oc, ws, tc, hoc, hdc, hvc⟩ := (I.hok _ _ L.cd).1
    refine lam_ix1 (l := ⟨f, c, pm, ct, q, A, B, S⟩) (its := it.toArray) hb Sc loc ?_ ?_ ?_ ?_ ?_ hdb (hT.keeps kp) (by simpa using hy1) fun h2 tk3 k2 => ⟨h2, tk3, rfl, k2, .str _ _⟩
    · exact I.nolimit.keeps kp
    · exact hr.depth
    · exact kp _ _ (I.hok _ _ L.fn).1
    · exact ⟨c, oc, ws, tc, rfl, kp _ _ hoc, hdc, hvc⟩
    · exact bL f c pm ct _ [.ref t] (I.kIn.keeps kp) rfl
  · rw [PySem.W.dataLe_str] at eo
    have eo' : PySem.W.EachIs (fun u (x : V × List Nat) => RelV x.1 u) out (ps.mergeSort fun x y => decide (x.2 ≤ y.2)) := eo
    refine ⟨.ref _, upd H (s.heap.objs.size + 1) (.lst ((ps.mergeSort fun x y => decide (x.2 ≤ y.2)).map Prod.fst)), I.laid (t' := tk) kp (Nat.le_succ _) ⟨?_, out, cc, vals_each eo', hD⟩, rfl, fin _ (I.hok.fresh (Nat.le_succ _))⟩
    rw [List.length_map, List.length_mergeSort]
    exact hz
end
end Fc

namespace Fc
open PySem PySem.Spec L2 PyProof.Rows
variable [LamNames]
/-! ### folders as trees: what is below a path, and what is put there -/
def Ent.re : Ent → List Nat → Ent
  | .folder _, t => .folder t
  | .file _ b, t => .file t b
  | .link _ g, t => .link t g
theorem re_path (e : Ent) (t : List Nat) : (e.re t).path = t := by cases e <;> rfl
theorem re_re (e : Ent) (t u : List Nat) : (e.re t).re u = e.re u := by cases e <;> rfl
theorem re_self (e : Ent) : e.re e.path = e := by cases e <;> rfl
theorem re_fol (e : Ent) (t : List Nat) : (e.re t).isFolder = e.isFolder := by cases e <;> rfl
theorem EntOk.re {e : Ent} (h : EntOk e) {t : List Nat} (p : PathT t) : EntOk (e.re t) := by
  cases e with
  | folder _ => exact p
  | file _ _ => exact ⟨p, h.2⟩
  | link _ _ => exact ⟨p, h.2⟩
def belowB (p q : List Nat) : Bool := (p ++ [47]).isPrefixOf q
theorem below_iff {p q : List Nat} : belowB p q = true ↔ ∃ r, q = p ++ 47 :: r := by
  unfold belowB
  rw [List.isPrefixOf_iff_prefix]
  constructor
  · rintro ⟨r, rfl⟩
    exact ⟨r, by simp⟩
  · rintro ⟨r, rfl⟩
    exact ⟨r, by simp⟩
theorem joinC_cons2 (c : Nat) (a : List Nat) {bs : List (List Nat)} (h : bs ≠ []) : joinC c (a :: bs) = a ++ c :: joinC c bs := by
  cases bs with
  | nil => exact absurd rfl h
  | cons b bs => rfl
theorem joinC_app (c : Nat) : ∀ {as bs : List (List Nat)}, as ≠ [] → bs ≠ [] → joinC c (as ++ bs) = joinC c as ++ c :: joinC c bs
  | [], _, h, _ => absurd rfl h
  | [a], bs, _, hb => by
    show joinC c (a :: bs) = _
    rw [joinC_cons2 c a hb]
    rfl
  | a :: b :: as, bs, _, hb => by
    show joinC c (a :: (b :: as ++ bs)) = _
    rw [joinC_cons2 c a (by simp), joinC_app c (as := b :: as) (by simp) hb, joinC_cons2 c a (bs := b :: as) (by simp)]
    simp
theorem above_iff {p q : List Nat} : p ∈ aboveT q ↔ ∃ r, q = p ++ 47 :: r := by
  unfold aboveT
  constructor
  · intro h
    obtain ⟨k, hk, rfl⟩ := aboveF_mem h
    refine ⟨joinC 47 ((splitC 47 q).drop (k + 1)), ?_⟩
    unfold pathOf
    rw [← joinC_app 47 (by intro z; have := congrArg List.length z; rw [List.length_take, List.length_nil] at this; omega) (by intro z; have := congrArg List.length z; rw [List.length_drop, List.length_nil] at this; omega), List.take_append_drop, join_split]
  · rintro ⟨r, rfl⟩
    unfold aboveF
    have l1 : 0 < (splitC 47 p).length := List.length_pos_iff.mpr (splitC_ne 47 p)
    have l2 : 0 < (splitC 47 r).length := List.length_pos_iff.mpr (splitC_ne 47 r)
    rw [List.mem_map]
    refine ⟨(splitC 47 p).length - 1, ?_, ?_⟩
    · rw [List.mem_range, splitC_app, List.length_append]
      omega
    · rw [splitC_app, show (splitC 47 p).length - 1 + 1 = (splitC 47 p).length by omega, List.take_left']
      · exact join_split 47 p
      · rfl
theorem below_above (p q : List Nat) : belowB p q = true ↔ p ∈ aboveT q := below_iff.trans above_iff.symm
theorem app_lt (l : List Nat) {a b : List Nat} : l ++ a < l ++ b ↔ a < b := by
  induction l with
  | nil => exact Iff.rfl
  | cons x l ih =>
    rw [List.cons_append, List.cons_append, List.cons_lt_cons_iff]
    constructor
    · rintro (h | ⟨_, h⟩)
      · exact absurd h (Nat.lt_irrefl _)
      · exact ih.mp h
    · exact fun h => .inr ⟨rfl, ih.mpr h⟩
def underE (es : List Ent) (p : List Nat) : List Ent := (es.filter fun e => belowB p e.path).map fun e => e.re (e.path.drop (p.length + 1))
def keptE (es : List Ent) (p : List Nat) : List Ent := es.filter fun e => !belowB p e.path
def comeE (part : List Ent) (p : List Nat) : List Ent := part.map fun e => e.re (p ++ 47 :: e.path)
def tooB (part : List Ent) (p : List Nat) : Bool := part.any fun e => decide (8 < (splitC 47 (p ++ 47 :: e.path)).length)
def sortE (es : List Ent) : List Ent := es.mergeSort fun a b => decide (a.path ≤ b.path)
theorem drop_below (p r : List Nat) : (p ++ 47 :: r).drop (p.length + 1) = r := by
  rw [show p ++ 47 :: r = (p ++ [47]) ++ r by simp, List.drop_left']
  simp
theorem path_app {p r : List Nat} : PathT (p ++ 47 :: r) ↔ (∀ x ∈ splitC 47 p, partOk x) ∧ (∀ x ∈ splitC 47 r, partOk x) ∧ (splitC 47 p).length + (splitC 47 r).length ≤ 8 := by
  unfold PathT PathOk
  rw [splitC_app, List.length_append]
  constructor
  · rintro ⟨_, h2, h3⟩
    exact ⟨fun x hx => h3 x (List.mem_append_left _ hx), fun x hx => h3 x (List.mem_append_right _ hx), h2⟩
  · rintro ⟨h1, h2, h3⟩
    refine ⟨fun z => splitC_ne 47 p (List.append_eq_nil_iff.mp z).1, h3, fun x hx => ?_⟩
    rcases List.mem_append.mp hx with h | h
    · exact h1 x h
    · exact h2 x h
theorem path_right {p r : List Nat} (h : PathT (p ++ 47 :: r)) : PathT r := by
  obtain ⟨_, h2, h3⟩ := path_app.mp h
  exact ⟨splitC_ne 47 r, by omega, h2⟩
/-- rising rows: one for each set -/
abbrev RiseE (es : List Ent) : Prop := es.Pairwise fun a b => a.path < b.path
theorem RiseE.nod {es : List Ent} (h : RiseE es) : Nod es := by
  rw [Nod, List.nodup_iff_pairwise_ne, List.pairwise_map]
  exact h.imp fun {a b} (k : a.path < b.path) (z : a.path = b.path) => List.lt_irrefl b.path (by rw [z] at k; exact k)
theorem rise_uniq : ∀ {a b : List Ent}, RiseE a → RiseE b → a.Perm b → a = b
  | [], b, _, _, p => (List.Perm.nil_eq p)
  | x :: a, [], _, _, p => absurd p.length_eq (by simp)
  | x :: a, y :: b, ha, hb, p => by
    have e : x = y := by
      have hx : x ∈ y :: b := p.mem_iff.mp (List.mem_cons_self ..)
      have hy : y ∈ x :: a := p.mem_iff.mpr (List.mem_cons_self ..)
      rcases List.mem_cons.mp hx with h | h
      · exact h
      · rcases List.mem_cons.mp hy with k | k
        · exact k.symm
        · have h1 := (List.pairwise_cons.mp hb).1 x h
          have h2 := (List.pairwise_cons.mp ha).1 y k
          exact absurd (List.lt_trans h1 h2) (List.lt_irrefl _)
    subst e
    rw [rise_uniq (List.pairwise_cons.mp ha).2 (List.pairwise_cons.mp hb).2 (List.Perm.cons_inv p)]
theorem sortE_perm (es : List Ent) : (sortE es).Perm es := List.mergeSort_perm es _
theorem sortE_rise {es : List Ent} (h : Nod es) : RiseE (sortE es) := by
  have nd : Nod (sortE es) := ((sortE_perm es).map Ent.path).nodup_iff.mpr h
  have pw : (sortE es).Pairwise fun a b => decide (a.path ≤ b.path) = true := List.pairwise_mergeSort (le := fun a b : Ent => decide (a.path ≤ b.path)) (fun a b c h1 h2 => decide_eq_true (List.le_trans (of_decide_eq_true h1) (of_decide_eq_true h2))) (fun a b => by
    rcases List.le_total a.path b.path with h | h
    · rw [decide_eq_true h, Bool.true_or]
    · rw [decide_eq_true h, Bool.or_true]) es
  rw [Nod, List.nodup_iff_pairwise_ne, List.pairwise_map] at nd
  exact (pw.and nd).imp fun {a b} (k : decide (a.path ≤ b.path) = true ∧ a.path ≠ b.path) => by
    by_cases h : a.path < b.path
    · exact h
    · exact absurd (List.le_antisymm (of_decide_eq_true k.1) (List.not_lt.mp h)) k.2
theorem sortE_of {es fs : List Ent} (h : Nod es) (r : RiseE fs) (p : fs.Perm es) : fs = sortE es := rise_uniq r (sortE_rise h) (p.trans (sortE_perm es).symm)
/-! what is below is a tree -/
theorem belowE {es : List Ent} {p : List Nat} {e : Ent} : e ∈ es.filter (fun e => belowB p e.path) ↔ e ∈ es ∧ ∃ r, e.path = p ++ 47 :: r := by
  rw [List.mem_filter]
  exact and_congr Iff.rfl below_iff
theorem under_mem {es : List Ent} {p : List Nat} {x : Ent} : x ∈ underE es p ↔ x.re (p ++ 47 :: x.path) ∈ es := by
  unfold underE
  rw [List.mem_map]
  constructor
  · rintro ⟨e, he, rfl⟩
    obtain ⟨h1, r, hr⟩ := belowE.mp he
    rw [re_path, re_re, hr, drop_below, ← hr, re_self]
    exact h1
  · intro h
    refine ⟨x.re (p ++ 47 :: x.path), belowE.mpr ⟨h, x.path, re_path _ _⟩, ?_⟩
    rw [re_path, re_re, drop_below, re_self]
theorem under_ok {es : List Ent} {p : List Nat} (h : TreeOk es) : TreeOk (underE es p) := by
  refine ⟨fun x hx => ?_, ?_, fun x hx a ha => ?_, ?_⟩
  · have h1 := h.ok _ (under_mem.mp hx)
    have h2 := h1.path
    rw [re_path] at h2
    have := h1.re (path_right h2)
    rw [re_re, re_self] at this
    exact this
  · unfold underE
    rw [List.pairwise_map]
    have h1 : (es.filter fun e => belowB p e.path).Pairwise fun a b => a.path < b.path := h.rise.filter _
    refine List.Pairwise.imp_of_mem (fun {a b} ha hb k => ?_) h1
    obtain ⟨_, ra, ea⟩ := belowE.mp ha
    obtain ⟨_, rb, eb⟩ := belowE.mp hb
    rw [re_path, re_path, ea, eb, drop_below, drop_below]
    rw [ea, eb, app_lt, List.cons_lt_cons_iff] at k
    rcases k with k | k
    · exact absurd k (Nat.lt_irrefl _)
    · exact k.2
  · refine under_mem.mpr ?_
    obtain ⟨r, hr⟩ := above_iff.mp ha
    refine h.up _ (under_mem.mp hx) (p ++ 47 :: a) (above_iff.mpr ⟨r, ?_⟩)
    rw [re_path, hr]
    simp
  · unfold underE
    rw [List.length_map]
    exact Nat.le_trans (List.length_filter_le _ _) h.few
theorem come_under (es : List Ent) (p : List Nat) : comeE (underE es p) p = es.filter fun e => belowB p e.path := by
  unfold comeE underE
  rw [List.map_map]
  refine (List.map_congr_left fun e he => ?_).trans (List.map_id _)
  obtain ⟨_, r, hr⟩ := belowE.mp he
  show (e.re _).re (p ++ 47 :: (e.re _).path) = e
  rw [re_path, re_re, hr, drop_below, ← hr, re_self]
theorem put_back {es : List Ent} {p : List Nat} (h : TreeOk es) : sortE (keptE es p ++ comeE (underE es p) p) = es := by
  have pm : (keptE es p ++ comeE (underE es p) p).Perm es := by
    rw [come_under]
    unfold keptE
    exact (List.perm_append_comm).trans (List.filter_append_perm (fun e => belowB p e.path) es)
  exact (sortE_of ((pm.map Ent.path).nodup_iff.mpr (RiseE.nod h.rise)) h.rise pm.symm).symm
theorem too_under {es : List Ent} {p : List Nat} (h : TreeOk es) : tooB (underE es p) p = false := by
  unfold tooB
  rw [List.any_eq_false]
  intro x hx z
  have h1 := (h.ok _ (under_mem.mp hx)).path
  rw [re_path] at h1
  have := of_decide_eq_true z
  have := h1.2.1
  omega
/-! what is put is a tree -/
theorem come_below (part : List Ent) (p : List Nat) {x : Ent} (h : x ∈ comeE part p) : ∃ e ∈ part, x = e.re (p ++ 47 :: e.path) := by
  obtain ⟨e, he, rfl⟩ := List.mem_map.mp h
  exact ⟨e, he, rfl⟩
theorem come_rise {part : List Ent} (p : List Nat) (h : RiseE part) : RiseE (comeE part p) := by
  unfold RiseE comeE
  rw [List.pairwise_map]
  refine h.imp fun {a b} k => ?_
  rw [re_path, re_path, app_lt, List.cons_lt_cons_iff]
  exact .inr ⟨rfl, k⟩
theorem put_nod {es part : List Ent} {p : List Nat} (h : RiseE es) (k : RiseE part) : Nod (keptE es p ++ comeE part p) := by
  rw [Nod, List.map_append, List.nodup_append]
  refine ⟨RiseE.nod (h.filter _), RiseE.nod (come_rise p k), fun a ha b hb e => ?_⟩
  obtain ⟨x, hx, rfl⟩ := List.mem_map.mp ha
  obtain ⟨y, hy, rfl⟩ := List.mem_map.mp hb
  obtain ⟨z, _, rfl⟩ := come_below part p hy
  rw [re_path] at e
  have := (List.mem_filter.mp hx).2
  rw [below_iff.mpr ⟨_, e⟩] at this
  cases this
theorem kept_mem {es : List Ent} {p : List Nat} {e : Ent} : e ∈ keptE es p ↔ e ∈ es ∧ ¬ ∃ r, e.path = p ++ 47 :: r := by
  unfold keptE
  rw [List.mem_filter]
  refine and_congr Iff.rfl ?_
  rw [← below_iff]
  cases belowB p e.path <;> simp
theorem put_ok {es part : List Ent} {p : List Nat} (h : TreeOk es) (k : TreeOk part) (f : Ent.folder p ∈ es) (t : tooB part p = false) (few : es.length + part.length ≤ 100) : TreeOk (sortE (keptE es p ++ comeE part p)) := by
  have mem : ∀ x, x ∈ sortE (keptE es p ++ comeE part p) ↔ x ∈ keptE es p ∨ x ∈ comeE part p := fun x => (sortE_perm _).mem_iff.trans List.mem_append
  have pp : PathT p := (h.ok _ f).path
  refine ⟨fun x hx => ?_, sortE_rise (put_nod h.rise k.rise), fun x hx a ha => ?_, ?_⟩
  · rcases (mem x).mp hx with hx | hx
    · exact h.ok x (kept_mem.mp hx).1
    · obtain ⟨e, he, rfl⟩ := come_below part p hx
      refine (k.ok e he).re (path_app.mpr ⟨pp.2.2, (k.ok e he).path.2.2, ?_⟩)
      have := List.any_eq_false.mp t e he
      rw [splitC_app, List.length_append] at this
      have n9 : ¬ 8 < (splitC 47 p).length + (splitC 47 e.path).length := fun z => this (decide_eq_true z)
      omega
  · obtain ⟨r, hr⟩ := above_iff.mp ha
    rw [mem]
    rcases (mem x).mp hx with hx | hx
    · obtain ⟨h1, h2⟩ := kept_mem.mp hx
      refine .inl (kept_mem.mpr ⟨h.up x h1 a ha, fun ⟨r2, z⟩ => h2 ⟨r2 ++ 47 :: r, ?_⟩⟩)
      rw [hr, show a = p ++ 47 :: r2 from z]
      simp
    · obtain ⟨e, he, rfl⟩ := come_below part p hx
      rw [re_path] at hr
      -- a / r = p / e.path
      have key : (a = p) ∨ (∃ s, p = a ++ 47 :: s) ∨ ∃ s, a = p ++ 47 :: s ∧ e.path = s ++ 47 :: r := by
        rcases List.append_eq_append_iff.mp hr with ⟨w, e1, e2⟩ | ⟨w, e1, e2⟩
        · -- a = p ++ w
          cases w with
          | nil => exact .inl (by rw [e1, List.append_nil])
          | cons c w =>
            rw [List.cons_append] at e2
            injection e2 with c1 c2
            subst c1
            exact .inr (.inr ⟨w, e1, c2⟩)
        · cases w with
          | nil => exact .inl (by rw [e1, List.append_nil])
          | cons c w =>
            rw [List.cons_append] at e2
            injection e2 with c1 c2
            subst c1
            exact .inr (.inl ⟨w, e1⟩)
      have lone : ∀ q s : List Nat, q = q ++ 47 :: s → False := fun q s z => by
        have := congrArg List.length z
        simp at this
      rcases key with rfl | ⟨s, hs⟩ | ⟨s, hs, hp⟩
      · exact .inl (kept_mem.mpr ⟨f, fun ⟨r2, z⟩ => lone a r2 z⟩)
      · refine .inl (kept_mem.mpr ⟨h.up _ f a (above_iff.mpr ⟨s, hs⟩), fun ⟨r2, z⟩ => ?_⟩)
        have z' : a = p ++ 47 :: r2 := z
        rw [hs] at z'
        have := congrArg List.length z'
        simp at this
      · refine .inr (List.mem_map.mpr ⟨.folder s, k.up e he s (above_iff.mpr ⟨r, hp⟩), ?_⟩)
        rw [hs]
        rfl
  · rw [(sortE_perm _).length_eq, List.length_append]
    have := List.length_filter_le (fun e : Ent => !belowB p e.path) es
    unfold keptE comeE
    rw [List.length_map]
    omega
theorem under_put {es part : List Ent} {p : List Nat} (h : TreeOk es) (k : TreeOk part) : underE (sortE (keptE es p ++ comeE part p)) p = part := by
  have e1 : (sortE (keptE es p ++ comeE part p)).filter (fun e => belowB p e.path) = comeE part p := by
    refine rise_uniq ((sortE_rise (put_nod h.rise k.rise)).filter _) (come_rise p k.rise) (((sortE_perm _).filter _).trans ?_)
    rw [List.filter_append]
    have n1 : (keptE es p).filter (fun e => belowB p e.path) = [] := by
      rw [List.filter_eq_nil_iff]
      intro e he z
      exact (kept_mem.mp he).2 (below_iff.mp z)
    have n2 : (comeE part p).filter (fun e => belowB p e.path) = comeE part p := by
      rw [List.filter_eq_self]
      intro e he
      obtain ⟨x, _, rfl⟩ := come_below part p he
      exact below_iff.mpr ⟨x.path, re_path _ _⟩
    rw [n1, n2]
    exact .refl _
  unfold underE
  rw [e1]
  unfold comeE
  rw [List.map_map]
  refine (List.map_congr_left fun e he => ?_).trans (List.map_id _)
  show (e.re _).re ((e.re _).path.drop (p.length + 1)) = e
  rw [re_path, re_re, drop_below, re_self]
theorem TreeOk.are {es : List Ent} (h : TreeOk es) : areB es = true := by
  unfold areB
  rw [Bool.and_eq_true, Bool.and_eq_true]
  refine ⟨decide_eq_true h.few, ?_, ?_⟩
  · unfold riseB
    rw [List.all_eq_true]
    intro i hi
    have hi := List.mem_range.mp hi
    have h1 : i < es.length := by omega
    have h2 : i + 1 < es.length := by omega
    have := List.pairwise_iff_getElem.mp h.rise i (i + 1) h1 h2 (Nat.lt_succ_self i)
    unfold pathAt
    rw [List.getElem?_eq_getElem h1, List.getElem?_eq_getElem h2]
    exact decide_eq_true this
  · unfold foldB
    rw [List.all_eq_true]
    intro e he
    rw [List.all_eq_true]
    intro a ha
    unfold hasF
    rw [List.any_eq_true]
    refine ⟨_, h.up e he a ha, ?_⟩
    rw [Bool.and_eq_true]
    exact ⟨rfl, decide_eq_true rfl⟩
theorem TreeOk.treeD {es : List Ent} (h : TreeOk es) : TreeD (dTree es) := (tree_iff h.ok).mpr h.are
end Fc

namespace Fc
open PySem PySem.Spec L2 PyProof.Rows
variable [LamNames]
theorem starts_mk (x y : List Nat) : Txt.startswith (mkS x) (mkS y) = y.isPrefixOf x := by
  unfold Txt.startswith
  rw [PySem.StrLaws.subAt_eq]
  show (decide (0 + y.toArray.size ≤ x.toArray.size) && ((x.toArray.toList.drop 0).take y.toArray.size == y.toArray.toList)) = _
  simp only [List.size_toArray, List.toList_toArray, List.drop_zero, Nat.zero_add]
  rw [Bool.eq_iff_iff, Bool.and_eq_true, List.isPrefixOf_iff_prefix, beq_iff_eq, decide_eq_true_eq]
  constructor
  · rintro ⟨_, h⟩
    rw [← h]
    exact List.take_prefix _ _
  · rintro ⟨r, rfl⟩
    exact ⟨by simp, by simp⟩
theorem add_mk (x y : List Nat) : mkS x ++ mkS y = mkS (x ++ y) := by
  show (⟨_⟩ : Str) = ⟨_⟩
  simp [mkS]
/-! ### an entry with another path -/
section
variable {K : PySem.W.Frag} {H : Hp}
theorem dpEnt3 {v : V} {e : Ent} (h : Dp K H v (dEnt e)) : ∃ t xs, v = .ref t ∧ SqT K H t (wordOf e :: T e.path :: xs) ∧ xs.length ≤ 1 ∧ ∀ H' t' (u : List Nat), Same H H' → SqT K H' t' (wordOf e :: T u :: xs) → Dp K H' (.ref t') (dEnt (e.re u)) := by
  obtain ⟨t, xs, rfl, hx, m⟩ := dpEnt h
  cases e with
  | folder p =>
    subst m
    exact ⟨t, [], rfl, hx, by simp, fun H' t' u s h => dEnt_folder h⟩
  | file p b =>
    obtain ⟨w, rfl, hw⟩ := m
    exact ⟨t, [.ref w], rfl, hx, by simp, fun H' t' u s h => dEnt_file h (keepT s hw)⟩
  | link p g =>
    subst m
    exact ⟨t, [T g], rfl, hx, by simp, fun H' t' u s h => dEnt_link h⟩
end
theorem cut2 (a b : V) (xs : List V) : cutV (a :: b :: xs) (some 2) none = xs := by
  rw [show (some (2 : Int)) = some ((2 : Nat) : Int) from rfl, cutV_from]
  rfl
theorem al_of {α β : Type} {R : α → β → Prop} : ∀ {qs : List (α × β)}, (∀ q ∈ qs, R q.1 q.2) → Al2 R (qs.map Prod.fst) (qs.map Prod.snd)
  | [], _ => .nil
  | q :: qs, h => .cons (h q (List.mem_cons_self ..)) (al_of fun x hx => h x (List.mem_cons_of_mem _ hx))
theorem al_pairs {α β : Type} {R : α → β → Prop} : ∀ {xs : List α} {ys : List β}, Al2 R xs ys → ∃ qs : List (α × β), qs.map Prod.fst = xs ∧ qs.map Prod.snd = ys ∧ ∀ q ∈ qs, R q.1 q.2
  | _, _, .nil => ⟨[], rfl, rfl, fun q h => nomatch h⟩
  | x :: xs, y :: ys, .cons h t => by
    obtain ⟨qs, rfl, rfl, hq⟩ := al_pairs t
    exact ⟨(x, y) :: qs, rfl, rfl, fun q m => (List.mem_cons.mp m).elim (fun e => e ▸ h) (hq q)⟩
theorem sort_al {R : Ent → V → Prop} {es : List Ent} {xs : List V} (al : Al2 R es xs) : ∃ ps : List (V × List Nat), ps.map Prod.fst = xs ∧ (∀ x ∈ ps, ∃ e ∈ es, R e x.1 ∧ x.2 = e.path) ∧ Al2 R (sortE es) ((ps.mergeSort fun x y => decide (x.2 ≤ y.2)).map Prod.fst) := by
  obtain ⟨qs, rfl, rfl, hq⟩ := al_pairs al
  refine ⟨qs.map fun q => (q.2, q.1.path), by rw [List.map_map]; rfl, fun x hx => ?_, ?_⟩
  · obtain ⟨q, m, rfl⟩ := List.mem_map.mp hx
    exact ⟨q.1, List.mem_map.mpr ⟨q, m, rfl⟩, hq q m, rfl⟩
  · have e1 : sortE (qs.map Prod.fst) = (qs.mergeSort fun a b => decide (a.1.path ≤ b.1.path)).map Prod.fst := by
      unfold sortE
      exact (List.map_mergeSort (f := Prod.fst) (r := fun (a b : Ent × V) => decide (a.1.path ≤ b.1.path)) (s := fun (a b : Ent) => decide (a.path ≤ b.path)) fun a _ b _ => rfl).symm
    have e2 : (qs.map fun q => (q.2, q.1.path)).mergeSort (fun (x y : V × List Nat) => decide (x.2 ≤ y.2)) = (qs.mergeSort fun a b => decide (a.1.path ≤ b.1.path)).map fun q => (q.2, q.1.path) := (List.map_mergeSort (f := fun q : Ent × V => (q.2, q.1.path)) (r := fun (a b : Ent × V) => decide (a.1.path ≤ b.1.path)) (s := fun (x y : V × List Nat) => decide (x.2 ≤ y.2)) fun a _ b _ => rfl).symm
    rw [e1, e2, List.map_map]
    exact al_of fun q m => hq q ((List.mergeSort_perm _ _).mem_iff.mp m)
/-! ### [x for e in .. if ..], its items by a relation to what the row stands for -/
theorem al_mem {α β : Type} {R : α → β → Prop} : ∀ {xs : List α} {ys : List β}, Al2 R xs ys → Al2 (fun x y => R x y ∧ x ∈ xs) xs ys
  | _, _, .nil => .nil
  | x :: xs, y :: ys, .cons h t => .cons ⟨h, List.mem_cons_self ..⟩ ((al_mem t).mono fun _ _ k => ⟨k.1, List.mem_cons_of_mem _ k.2⟩)
theorem al_append {α β : Type} {R : α → β → Prop} : ∀ {xs xs' : List α} {ys ys' : List β}, Al2 R xs ys → Al2 R xs' ys' → Al2 R (xs ++ xs') (ys ++ ys')
  | _, _, _, _, .nil, k => k
  | _ :: _, _, _ :: _, _, .cons h t, k => .cons h (al_append t k)
theorem al_map {α β γ : Type} {R : γ → β → Prop} {f : α → γ} : ∀ {xs : List α} {ys : List β}, Al2 (fun x y => R (f x) y) xs ys → Al2 R (xs.map f) ys
  | _, _, .nil => .nil
  | _ :: _, _ :: _, .cons h t => .cons h (al_map t)
section
variable {α : Type} {tt : TT} {te : TE} {vs : List Nat} {σ : L2.St} {H1 : Hp} {D : Addr} {j : Nat} {Qd : Hp → Prop}
theorem lcR_tup {K : PySem.W.Frag} {a : Addr} {xs : List V} {es : List α} (keep : α → Bool) (G : α → V → Hp → Prop) (nD : H1 D = none) (hs : SqT K H1 a xs) (hl : es.length = xs.length) (hz : es.length ≤ sizeLine) (hw : ∀ x, wipe ((wipe σ vs).set j (some x)) vs = wipe σ vs)
    (gk : ∀ e y H H', Same H H' → G e y H → G e y H') (gu : ∀ e y H ys zs, H D = some (.lst ys) → e ∈ es → G e y H → G e y (upd H D (.lst zs)))
    (test : ∀ (i : Nat) (e : α) (x : V) (H : Hp) (R : Bool → Hp → Prop), es[i]? = some e → xs[i]? = some x → Same H1 H → (∀ H', Same H H' → R (keep e) H') → tt ((wipe σ vs).set j (some x)) H R)
    (item : ∀ (i : Nat) (e : α) (x : V) (H : Hp) (R : V → Hp → Prop), es[i]? = some e → xs[i]? = some x → keep e = true → Same H1 H → (∀ y H', Same H H' → G e y H' → R y H') → te ((wipe σ vs).set j (some x)) H R)
    (hd : ∀ ys H', Al2 (fun e y => G e y H') (es.filter keep) ys → Same H1 H' → H' D = some (.lst ys) → Qd H') :
    ∃ W : Nat → Nat → Hp → Prop, (∃ m, W 0 m (upd H1 D (.lst []))) ∧ ∀ i m H, W i m H →
      ((Itt K a).stop i H ∧ Qd H) ∨ ((Itt K a).go i H ∧ ∃ Nx : Hp → Prop, (∀ H', Nx H' → ∃ m', m' < m ∧ W (i + 1) m' H') ∧ ∀ x H', (Itt K a).yld i H x H' → gName j x (wipe σ vs) H' fun σ2 H2 => wipe σ2 vs = wipe σ vs ∧ tt σ2 H2 fun b H3 =>
        if b = true then te σ2 H3 fun y H4 => ∃ acc, H4 D = some (.lst acc) ∧ acc.length < sizeLine ∧ Nx (upd H4 D (.lst (acc ++ [y]))) else Nx H3) := by
  refine ⟨fun i m H => m = es.length - i ∧ i ≤ es.length ∧ Same H1 H ∧ ∃ ys, H D = some (.lst ys) ∧ Al2 (fun e y => G e y H) ((es.take i).filter keep) ys, ⟨es.length, rfl, Nat.zero_le _, grow nD, [], upd_same, .nil⟩, ?_⟩
  rintro i m H ⟨rfl, hi, sm, ys, hD, al⟩
  have q := keepT sm hs
  by_cases lt : i < es.length
  · have lx : i < xs.length := by omega
    have he : es[i]? = some es[i] := List.getElem?_eq_getElem lt
    refine .inr ⟨⟨xs, xs[i], q, List.getElem?_eq_getElem lx⟩, fun H' => Same H1 H' ∧ ∃ ys, H' D = some (.lst ys) ∧ Al2 (fun e y => G e y H') ((es.take (i + 1)).filter keep) ys, fun H' p' => ⟨es.length - (i + 1), by omega, rfl, lt, p'⟩, fun x H' y => ?_⟩
    obtain ⟨e, y⟩ := y
    subst e
    refine ⟨hw x, test i es[i] x _ _ he (y xs q) sm fun H3 s3 => ?_⟩
    have ft : (es.take (i + 1)).filter keep = (es.take i).filter keep ++ (if keep es[i] = true then [es[i]] else []) := by
      rw [List.take_add_one, he, Option.toList_some, List.filter_append]
      congr 1
      by_cases k : keep es[i] = true
      · rw [if_pos k, List.filter_cons_of_pos k]; rfl
      · rw [if_neg k, List.filter_cons_of_neg k]; rfl
    by_cases k : keep es[i] = true
    · rw [if_pos k]
      refine item i es[i] x H3 _ he (y xs q) k (sm.trans s3) fun z H4 s4 g => ?_
      have hD4 := s4 _ _ (s3 _ _ hD)
      refine ⟨ys, hD4, ?_, (sm.trans (s3.trans s4)).over nD (.lst hD4), _, upd_same, ?_⟩
      · rw [al.length]
        have l1 := List.length_filter_le keep (es.take i)
        rw [List.length_take] at l1
        omega
      · rw [ft, if_pos k]
        have al2 : Al2 (fun u v => G u v (upd H4 D (.lst (ys ++ [z])))) ((es.take i).filter keep) ys := (al_mem al).mono fun u v g => gu _ _ _ _ _ hD4 (List.mem_of_mem_take (List.mem_filter.mp g.2).1) (gk _ _ _ _ (s3.trans s4) g.1)
        exact Al2.snoc (R := fun u v => G u v (upd H4 D (.lst (ys ++ [z])))) (gu _ _ _ _ _ hD4 (List.getElem_mem lt) g) al2
    · rw [if_neg k]
      refine ⟨sm.trans s3, ys, s3 _ _ hD, ?_⟩
      rw [ft, if_neg k, List.append_nil]
      exact al.mono fun u v g => gk _ _ _ _ s3 g
  · have e : i = es.length := by omega
    rw [e, List.take_length] at al
    exact .inl ⟨⟨xs, q, by omega⟩, hd ys H al sm hD⟩
theorem lcR_list {K : PySem.W.Frag} {a : Addr} {xs : List V} {es : List α} (keep : α → Bool) (G : α → V → Hp → Prop) (nD : H1 D = none) (hs : SqL K H1 a xs) (hl : es.length = xs.length) (hz : es.length ≤ sizeLine) (hw : ∀ x, wipe ((wipe σ vs).set j (some x)) vs = wipe σ vs)
    (gk : ∀ e y H H', Same H H' → G e y H → G e y H') (gu : ∀ e y H ys zs, H D = some (.lst ys) → e ∈ es → G e y H → G e y (upd H D (.lst zs)))
    (test : ∀ (i : Nat) (e : α) (x : V) (H : Hp) (R : Bool → Hp → Prop), es[i]? = some e → xs[i]? = some x → Same H1 H → (∀ H', Same H H' → R (keep e) H') → tt ((wipe σ vs).set j (some x)) H R)
    (item : ∀ (i : Nat) (e : α) (x : V) (H : Hp) (R : V → Hp → Prop), es[i]? = some e → xs[i]? = some x → keep e = true → Same H1 H → (∀ y H', Same H H' → G e y H' → R y H') → te ((wipe σ vs).set j (some x)) H R)
    (hd : ∀ ys H', Al2 (fun e y => G e y H') (es.filter keep) ys → Same H1 H' → H' D = some (.lst ys) → Qd H') :
    ∃ W : Nat → Nat → Hp → Prop, (∃ m, W 0 m (upd H1 D (.lst []))) ∧ ∀ i m H, W i m H →
      ((Itl K a).stop i H ∧ Qd H) ∨ ((Itl K a).go i H ∧ ∃ Nx : Hp → Prop, (∀ H', Nx H' → ∃ m', m' < m ∧ W (i + 1) m' H') ∧ ∀ x H', (Itl K a).yld i H x H' → gName j x (wipe σ vs) H' fun σ2 H2 => wipe σ2 vs = wipe σ vs ∧ tt σ2 H2 fun b H3 =>
        if b = true then te σ2 H3 fun y H4 => ∃ acc, H4 D = some (.lst acc) ∧ acc.length < sizeLine ∧ Nx (upd H4 D (.lst (acc ++ [y]))) else Nx H3) := by
  refine ⟨fun i m H => m = es.length - i ∧ i ≤ es.length ∧ Same H1 H ∧ ∃ ys, H D = some (.lst ys) ∧ Al2 (fun e y => G e y H) ((es.take i).filter keep) ys, ⟨es.length, rfl, Nat.zero_le _, grow nD, [], upd_same, .nil⟩, ?_⟩
  rintro i m H ⟨rfl, hi, sm, ys, hD, al⟩
  have q := sm.seq hs
  by_cases lt : i < es.length
  · have lx : i < xs.length := by omega
    have he : es[i]? = some es[i] := List.getElem?_eq_getElem lt
    refine .inr ⟨⟨xs, xs[i], q, List.getElem?_eq_getElem lx⟩, fun H' => Same H1 H' ∧ ∃ ys, H' D = some (.lst ys) ∧ Al2 (fun e y => G e y H') ((es.take (i + 1)).filter keep) ys, fun H' p' => ⟨es.length - (i + 1), by omega, rfl, lt, p'⟩, fun x H' y => ?_⟩
    obtain ⟨e, y⟩ := y
    subst e
    refine ⟨hw x, test i es[i] x _ _ he (y xs q) sm fun H3 s3 => ?_⟩
    have ft : (es.take (i + 1)).filter keep = (es.take i).filter keep ++ (if keep es[i] = true then [es[i]] else []) := by
      rw [List.take_add_one, he, Option.toList_some, List.filter_append]
      congr 1
      by_cases k : keep es[i] = true
      · rw [if_pos k, List.filter_cons_of_pos k]; rfl
      · rw [if_neg k, List.filter_cons_of_neg k]; rfl
    by_cases k : keep es[i] = true
    · rw [if_pos k]
      refine item i es[i] x H3 _ he (y xs q) k (sm.trans s3) fun z H4 s4 g => ?_
      have hD4 := s4 _ _ (s3 _ _ hD)
      refine ⟨ys, hD4, ?_, (sm.trans (s3.trans s4)).over nD (.lst hD4), _, upd_same, ?_⟩
      · rw [al.length]
        have l1 := List.length_filter_le keep (es.take i)
        rw [List.length_take] at l1
        omega
      · rw [ft, if_pos k]
        have al2 : Al2 (fun u v => G u v (upd H4 D (.lst (ys ++ [z])))) ((es.take i).filter keep) ys := (al_mem al).mono fun u v g => gu _ _ _ _ _ hD4 (List.mem_of_mem_take (List.mem_filter.mp g.2).1) (gk _ _ _ _ (s3.trans s4) g.1)
        exact Al2.snoc (R := fun u v => G u v (upd H4 D (.lst (ys ++ [z])))) (gu _ _ _ _ _ hD4 (List.getElem_mem lt) g) al2
    · rw [if_neg k]
      refine ⟨sm.trans s3, ys, s3 _ _ hD, ?_⟩
      rw [ft, if_neg k, List.append_nil]
      exact al.mono fun u v g => gk _ _ _ _ s3 g
  · have e : i = es.length := by omega
    rw [e, List.take_length] at al
    exact .inl ⟨⟨xs, q, by omega⟩, hd ys H al sm hD⟩
end
theorem al_dpAll {K : PySem.W.Frag} {H : Hp} : ∀ {es : List Ent} {xs : List V}, Al2 (fun e x => Dp K H x (dEnt e)) es xs → DpAll K H xs (es.map dEnt)
  | _, _, .nil => .nil
  | _ :: _, _ :: _, .cons h t => .cons h (al_dpAll t)
theorem rise_uniqL : ∀ {a b : List (List Nat)}, a.Pairwise (· < ·) → b.Pairwise (· < ·) → a.Perm b → a = b
  | [], b, _, _, p => (List.Perm.nil_eq p)
  | x :: a, [], _, _, p => absurd p.length_eq (by simp)
  | x :: a, y :: b, ha, hb, p => by
    have e : x = y := by
      have hx : x ∈ y :: b := p.mem_iff.mp (List.mem_cons_self ..)
      have hy : y ∈ x :: a := p.mem_iff.mpr (List.mem_cons_self ..)
      rcases List.mem_cons.mp hx with h | h
      · exact h
      · rcases List.mem_cons.mp hy with k | k
        · exact k.symm
        · have h1 := (List.pairwise_cons.mp hb).1 x h
          have h2 := (List.pairwise_cons.mp ha).1 y k
          exact absurd (List.lt_trans h1 h2) (List.lt_irrefl _)
    subst e
    rw [rise_uniqL (List.pairwise_cons.mp ha).2 (List.pairwise_cons.mp hb).2 (List.Perm.cons_inv p)]
theorem paths_inj {L : List Ent} (nd : Nod L) : ∀ {fs gs : List Ent}, (∀ e ∈ fs, e ∈ L) → (∀ e ∈ gs, e ∈ L) → fs.map Ent.path = gs.map Ent.path → fs = gs
  | [], [], _, _, _ => rfl
  | [], _ :: _, _, _, h => by cases h
  | _ :: _, [], _, _, h => by cases h
  | f :: fs, g :: gs, hf, hg, h => by
    rw [List.map_cons, List.map_cons] at h
    injection h with h1 h2
    rw [nd.eq (hf f (List.mem_cons_self ..)) (hg g (List.mem_cons_self ..)) h1, paths_inj nd (fun e he => hf e (List.mem_cons_of_mem _ he)) (fun e he => hg e (List.mem_cons_of_mem _ he)) h2]
theorem sorted_is {L fs : List Ent} {ys : List (List Nat)} (nd : Nod L) (pm : ys.Perm (L.map Ent.path)) (so : sortedS (ys.map mkS) = true) (ef : fs.map Ent.path = ys) (sub : ∀ e ∈ fs, e ∈ L) : fs = sortE L := by
  have ny : ys.Nodup := pm.nodup_iff.mpr nd
  have r1 := sorted_paths so ny
  have r2 : ((sortE L).map Ent.path).Pairwise (· < ·) := by
    rw [List.pairwise_map]
    exact sortE_rise nd
  have e1 : ys = (sortE L).map Ent.path := rise_uniqL r1 r2 (pm.trans ((sortE_perm L).map Ent.path).symm)
  exact paths_inj nd sub (fun e he => (sortE_perm L).mem_iff.mp he) (ef.trans e1)
theorem kept_snoc (es : List Ent) (e : Ent) (p : List Nat) : keptE (es ++ [e]) p = keptE es p ++ (if belowB p e.path = true then [] else [e]) := by
  unfold keptE
  rw [List.filter_append]
  congr 1
  by_cases k : belowB p e.path = true
  · rw [if_pos k, List.filter_cons_of_neg (by rw [k]; decide)]
    rfl
  · rw [if_neg k, List.filter_cons_of_pos (by rw [Bool.eq_false_iff.mpr k]; rfl)]
    rfl
theorem come_snoc (es : List Ent) (e : Ent) (p : List Nat) : comeE (es ++ [e]) p = comeE es p ++ [e.re (p ++ 47 :: e.path)] := by
  unfold comeE
  rw [List.map_append]
  rfl
theorem SmallE.re {es : List Ent} (h : SmallE es) {e : Ent} (me : e ∈ es) (u : List Nat) : ∀ t b, e.re u = .file t b → b.length ≤ 1000 := fun t b z => by
  cases e with
  | folder _ => cases z
  | link _ _ => cases z
  | file t' b' => cases z; exact h _ me _ _ rfl
end Fc

namespace Fc
open PySem PySem.Spec L2 PyProof.Rows
variable [LamNames]
theorem hu65 {k : Nat} {A : Around} (r : Room k A) : A.units + 65 < cLine := by have := r.un; omega
/-! ### sorted(d), d a dict of texts, however many -/
section
variable {X : Cx}
def rSortedAny : List V → Hp → VK → Prop := fun vs H Q => ∃ (D : Addr) (es : List (Key × V)) (names : List Str), vs = [.ref D] ∧ Rd H D (.dK es) ∧ es.map (·.1) = names.map Sum.inr ∧ names.length ≤ 100000 ∧
  ∀ (ys : List Str) (p : Addr), ys.Perm names → sortedS ys = true → H p = none → Q (.ref p) (upd H p (.lst (ys.map V.str)))
theorem keys_strs {ws : List (Key × Value)} {names : List Str} (hk : ws.map (·.1) = names.map Sum.inr) {got : List Value} (lg : got.length = names.length)
    (at_ : ∀ (i : Nat) (u : Value), got[i]? = some u → ∃ (k : Key) (x : Value), ws[i]? = some (k, x) ∧ keyIs k u = true) : StrsAre got names :=
  strs_at lg fun i u hu => by
    obtain ⟨k, x, f1, f2⟩ := at_ i u hu
    have f3 : (ws.map (·.1))[i]? = some k := by rw [List.getElem?_map, f1]; rfl
    rw [hk, List.getElem?_map, Option.map_eq_some_iff] at f3
    obtain ⟨y, f4, rfl⟩ := f3
    obtain ⟨t, f5⟩ := Value.isStrOf_shape (x := y) (v := u) f2
    exact ⟨y, t, f4, f5⟩
theorem call_sortedAny (calm : X.calm = true) : CallR X (.builtin "sorted") rSortedAny := by
  intro pins s σ H vs us Q I r h
  obtain ⟨D, es, names, rfl, hD, hn, few, fin⟩ := h
  obtain rfl := Vals.ref1 r
  obtain ⟨_, lo, ws, rel, dd⟩ := dk_rd I.hok hD
  obtain ⟨ep, at_⟩ := dd.dictAt
  have hk : ws.map (·.1) = names.map Sum.inr := rel.keys.symm.trans hn
  have lw : ws.length = names.length := by simpa using congrArg List.length hk
  have big : ∀ {n : Nat}, n ≤ 100000 → n ≤ sizeLine := fun h => by rw [sizeLine_eq]; omega
  refine Calls.call_function_entry kind_sorted plain_sorted entry_sorted (args_sorted1 _) ?_
  unfold Builtin.«sorted»
  refine wpAny_bind (m := checkCount "sorted" 1 1 _) (wpAny_pure (wpAny_bind ?_))
  refine PySem.W.kdu_collect (A := X.A.in1) (PySem.W.kdl_dict (knd := mixKind X.prog X.w) (kvs := ws) (ep := ep) lo) (I.ok.hd calm) at_ (by rw [lw]; exact big few) fun g tk got keep its => ?_
  have lg : got.toList.length = names.length := by rw [Array.length_toList, its.1, lw]
  have st : StrsAre got.toList names := keys_strs hk lg fun i u hu => its.2 i u (by rw [← Array.getElem?_toList]; exact hu)
  have J : Inv X pins σ H { s with heap := g, toks := tk } := I.kept keep
  refine wpAny_bind (wpAny_newList ?_ (by rw [lg]; exact big few))
  have new : (g.push (seqObj "list" got.toList.toArray 0)).get? g.objs.size = some (seqObj "list" got.toList.toArray 0) := Heap.get?_push_size _ rfl
  show wpAny _ _ _ _ _ { s with heap := g.push (seqObj "list" got.toList.toArray 0), toks := tk }
  refine wpAny_bind (wpAny_holding (wpAny_call_entry slot_list_sort ⟨_, new, rfl⟩ entry_list_sort ?_ (args_list_sort _)))
  refine list_sort_treeKAny strKind_oneLt (s := { s with heap := g.push (seqObj "list" got.toList.toArray 0), toks := tk }) new st.keysOf (fun a b rest e => keyKind_strs (by rw [← e]; exact st)) (by rw [lg]; exact big few) fun z zp zs => ⟨_, rfl, ?_⟩
  obtain ⟨ys, y1, y2, y3⟩ := sorted_out_str st zp zs
  obtain ⟨ep2, there⟩ := sortedHeap_at (vs := got.toList) (out := (arrOf z).map (·.2)) new
  have ly : (ys.map V.str).length ≤ sizeLine := by rw [List.length_map, y2.length_eq]; exact big few
  have old : ∀ b u, g.get? b = some u → (sortedHeap (g.push (seqObj "list" got.toList.toArray 0)) g.objs.size got.toList ((arrOf z).map (·.2))).get? b = some u := fun b u e => by
    have lb := Heap.lt_size e
    rw [sortedHeap_old (Nat.ne_of_lt lb) (by rw [size_push']; exact Nat.lt_succ_of_lt lb)]
    exact Heap.get?_push_of_some _ e
  exact wpAny_pure ⟨_, rfl, .ref g.objs.size, upd H g.objs.size (.lst (ys.map V.str)), J.laid (t' := tk) old (Nat.le_refl _) ⟨ly, ((arrOf z).map (·.2)).toList, ep2, vals_of_strs y1, by rw [Array.toArray_toList]; exact there⟩, rfl, fin ys _ y2 y3 (J.hok.fresh (Nat.le_refl _))⟩
end
end Fc

namespace Fc
open PySem PySem.Spec L2 PyProof.Rows
variable [LamNames]
/-! ### tuples of whole numbers, compared -/
theorem lay_ints : ∀ (A : List Int), PyData.canLayAll0 (A.map PyData.int) = true
  | [] => by simp [PyData.canLayAll0]
  | a :: r => by
    rw [List.map_cons, PyData.canLayAll0, lay_ints r]
    simp [PyData.canLay0]
theorem deep_ints : ∀ (A : List Int), PyData.depthAll (A.map PyData.int) = 0
  | [] => by simp [PyData.depthAll]
  | a :: r => by
    rw [List.map_cons, PyData.depthAll, deep_ints r]
    simp [PyData.depth]
theorem shape_ints (A : List Int) : SeqAt.shaped (.tuple (A.map PyData.int)) = true := by
  unfold SeqAt.shaped
  rw [PyData.canLay0, lay_ints, PyData.depth, deep_ints]
  rfl
theorem dp_all (K : PySem.W.Frag) (H : Hp) : ∀ (A : List Int), DpAll K H (A.map V.int) (A.map PyData.int)
  | [] => .nil
  | a :: r => .cons (.int a) (dp_all K H r)
theorem dp_ints {K : PySem.W.Frag} {H : Hp} {p : Addr} {A : List Int} (h : SqT K H p (A.map V.int)) : Dp K H (.ref p) (.tuple (A.map PyData.int)) := .tup h (dp_all K H A)
theorem eqvAll_ints : ∀ (A B : List Int), PyData.eqvAll (A.map PyData.int) (B.map PyData.int) = decide (A = B)
  | [], [] => by simp [PyData.eqvAll]
  | [], b :: r => by simp [PyData.eqvAll]
  | a :: r, [] => by simp [PyData.eqvAll]
  | a :: r, b :: t => by
    rw [List.map_cons, List.map_cons, PyData.eqvAll, eqvAll_ints r t, Bool.eq_iff_iff]
    simp [PyData.eqv]
theorem eqv_tup (A B : List Int) : PyData.eqv (.tuple (A.map PyData.int)) (.tuple (B.map PyData.int)) = decide (A = B) := by
  rw [← eqvAll_ints]
  simp only [PyData.eqv]
end Fc

namespace Fc
open PySem PySem.Spec L2 PyProof.Rows
variable [LamNames]
/-! ### the differences of two trees -/
def Tiny (es : List Ent) : Prop := ∀ e ∈ es, ∀ t b, e = Ent.file t b → b.length ≤ 100
def clsE (es fs : List Ent) (t : List Nat) : Option String := match atE es t, atE fs t with
  | some _, none => some "gone"
  | none, some _ => some "new"
  | some e, some f => if e = f then none else some "other"
  | none, none => none
def rowOf (es fs : List Ent) (t : List Nat) : PyData := .tuple [sd ((clsE es fs t).getD ""), td t]
def Told (es fs : List Ent) (us : List (List Nat)) : Prop := us.Pairwise (· < ·) ∧ ∀ t, t ∈ us ↔ (clsE es fs t).isSome = true
theorem rise_eq : ∀ {us vs : List (List Nat)}, us.Pairwise (· < ·) → vs.Pairwise (· < ·) → (∀ t, t ∈ us ↔ t ∈ vs) → us = vs
  | [], [], _, _, _ => rfl
  | [], v :: vs, _, _, h => absurd ((h v).2 List.mem_cons_self) (by simp)
  | u :: us, [], _, _, h => absurd ((h u).1 List.mem_cons_self) (by simp)
  | u :: us, v :: vs, hu, hv, h => by
    obtain ⟨u1, u2⟩ := List.pairwise_cons.mp hu
    obtain ⟨v1, v2⟩ := List.pairwise_cons.mp hv
    have e : u = v := by
      rcases List.mem_cons.mp ((h u).1 List.mem_cons_self) with z | z
      · exact z
      · rcases List.mem_cons.mp ((h v).2 List.mem_cons_self) with y | y
        · exact y.symm
        · exact absurd (List.lt_trans (v1 u z) (u1 v y)) (List.lt_irrefl _)
    subst e
    refine congrArg _ (rise_eq u2 v2 fun t => ⟨fun z => ?_, fun z => ?_⟩)
    · rcases List.mem_cons.mp ((h t).1 (List.mem_cons_of_mem _ z)) with y | y
      · exact absurd (u1 t z) (by rw [y]; exact List.lt_irrefl _)
      · exact y
    · rcases List.mem_cons.mp ((h t).2 (List.mem_cons_of_mem _ z)) with y | y
      · exact absurd (v1 t z) (by rw [y]; exact List.lt_irrefl _)
      · exact y
theorem eqv_ent (a b : Ent) : PyData.eqv (dEnt a) (dEnt b) = decide (a = b) := by
  have hs : ∀ x y : Str, PyData.eqv (.str x) (.str y) = decide (x = y) := fun x y => by rw [Bool.eq_iff_iff]; simp [PyData.eqv]
  have key : ∀ (x y : String) (p q : List Nat) (d e : PyData), PyData.eqv (.tuple [sd x, td p, d]) (.tuple [sd y, td q, e]) = (decide (Str.ofString x = Str.ofString y) && (decide (p = q) && PyData.eqv d e)) := fun x y p q d e => by
    have e1 : PyData.eqv (.tuple [sd x, td p, d]) (.tuple [sd y, td q, e]) = (PyData.eqv (sd x) (sd y) && (PyData.eqv (td p) (td q) && PyData.eqv d e)) := by
      simp only [PyData.eqv, PyData.eqvAll, sd, td, Bool.and_true]
    rw [e1, show PyData.eqv (sd x) (sd y) = _ from hs _ _, show PyData.eqv (td p) (td q) = _ from hs _ _]
    congr 2
    rw [decide_eq_decide]
    exact ⟨mkS_inj, fun z => by rw [z]⟩
  have s3 : decide ((Str.ofString "file") = Str.ofString "file") = true := by decide
  have s4 : decide ((Str.ofString "file") = Str.ofString "link") = false := by decide +kernel
  have s5 : decide ((Str.ofString "link") = Str.ofString "file") = false := by decide +kernel
  have s6 : decide ((Str.ofString "link") = Str.ofString "link") = true := by decide
  cases a with
  | folder p =>
    cases b with
    | folder q =>
      simp only [dEnt, PyData.eqv, PyData.eqvAll, sd, td, Bool.and_true, beq_self_eq_true, Bool.true_and]
      rw [Bool.eq_iff_iff, beq_iff_eq, decide_eq_true_eq]
      exact ⟨fun z => by rw [mkS_inj z], fun z => by rw [Ent.folder.inj z]⟩
    | file q b => simp [dEnt, PyData.eqv, PyData.eqvAll]
    | link q g => simp [dEnt, PyData.eqv, PyData.eqvAll]
  | file p c =>
    cases b with
    | folder q => simp [dEnt, PyData.eqv, PyData.eqvAll]
    | file q b =>
      show PyData.eqv (.tuple [sd "file", td p, dInts c]) (.tuple [sd "file", td q, dInts b]) = _
      rw [key, s3, Bool.true_and, show PyData.eqv (dInts c) (dInts b) = decide (c = b) from eqv_tup c b, Bool.eq_iff_iff]
      simp
    | link q g =>
      show PyData.eqv (.tuple [sd "file", td p, dInts c]) (.tuple [sd "link", td q, td g]) = _
      rw [key, s4]
      simp
  | link p g =>
    cases b with
    | folder q => simp [dEnt, PyData.eqv, PyData.eqvAll]
    | file q b =>
      show PyData.eqv (.tuple [sd "link", td p, td g]) (.tuple [sd "file", td q, dInts b]) = _
      rw [key, s5]
      simp
    | link q g' =>
      show PyData.eqv (.tuple [sd "link", td p, td g]) (.tuple [sd "link", td q, td g']) = _
      rw [key, s6, Bool.true_and, show PyData.eqv (td g) (td g') = decide (mkS g = mkS g') from hs _ _, Bool.eq_iff_iff]
      simp only [Bool.and_eq_true, decide_eq_true_eq]
      exact ⟨fun ⟨z, y⟩ => by rw [z, mkS_inj y], fun z => by obtain ⟨z1, z2⟩ := Ent.link.inj z; rw [z1, z2]; exact ⟨rfl, rfl⟩⟩
theorem tups_row (es fs : List Ent) (t : List Nat) : tupsOnly (rowOf es fs t) = true := by
  unfold rowOf sd td
  simp [tupsOnly, tupsAll]
theorem Told.one {es fs : List Ent} {us vs : List (List Nat)} (h : Told es fs us) (k : Told es fs vs) : us = vs := rise_eq h.1 k.1 fun t => (h.2 t).trans (k.2 t).symm
theorem dpAllOf {K : PySem.W.Frag} {H : Hp} {α : Type} {f : α → PyData} : ∀ {xs : List α} {ys : List V}, Al2 (fun x y => Dp K H y (f x)) xs ys → DpAll K H ys (xs.map f)
  | _, _, .nil => .nil
  | _, _, .cons h k => .cons h (dpAllOf k)
end Fc

namespace Fc
open PySem PySem.Spec L2 PyProof.Rows
variable [LamNames]
/-! ### a comprehension over a list with any target, its row known by what it stands for -/
theorem lcT_list {K : PySem.W.Frag} {a : Addr} {α : Type} {xs : List V} {es : List α} {g : TG} {te : TE} {vs : List Nat} {σ : L2.St} {H1 : Hp} {D : Addr} {Qd : Hp → Prop} (G : α → V → Hp → Prop) (nD : H1 D = none) (hs : SqL K H1 a xs) (hl : es.length = xs.length) (hz : es.length ≤ sizeLine)
    (gk : ∀ e y H H', Same H H' → G e y H → G e y H') (gu : ∀ e y H ys zs, H D = some (.lst ys) → e ∈ es → G e y H → G e y (upd H D (.lst zs)))
    (turn : ∀ (i : Nat) (e : α) (x : V) (H : Hp) (R : V → Hp → Prop) (N : Hp → Prop), es[i]? = some e → xs[i]? = some x → Same H1 H → (∀ y H', Same H H' → G e y H' → R y H') → g x (wipe σ vs) H fun σ2 H2 => wipe σ2 vs = wipe σ vs ∧ tYes σ2 H2 fun b H3 => if b = true then te σ2 H3 R else N H3)
    (hd : ∀ ys H', Al2 (fun e y => G e y H') es ys → Same H1 H' → H' D = some (.lst ys) → Qd H') :
    ∃ W : Nat → Nat → Hp → Prop, (∃ m, W 0 m (upd H1 D (.lst []))) ∧ ∀ i m H, W i m H →
      ((Itl K a).stop i H ∧ Qd H) ∨ ((Itl K a).go i H ∧ ∃ Nx : Hp → Prop, (∀ H', Nx H' → ∃ m', m' < m ∧ W (i + 1) m' H') ∧ ∀ x H', (Itl K a).yld i H x H' → g x (wipe σ vs) H' fun σ2 H2 => wipe σ2 vs = wipe σ vs ∧ tYes σ2 H2 fun b H3 =>
        if b = true then te σ2 H3 fun y H4 => ∃ acc, H4 D = some (.lst acc) ∧ acc.length < sizeLine ∧ Nx (upd H4 D (.lst (acc ++ [y]))) else Nx H3) := by
  refine ⟨fun i m H => m = es.length - i ∧ i ≤ es.length ∧ Same H1 H ∧ ∃ ys, H D = some (.lst ys) ∧ Al2 (fun e y => G e y H) (es.take i) ys, ⟨es.length, rfl, Nat.zero_le _, grow nD, [], upd_same, .nil⟩, ?_⟩
  rintro i m H ⟨rfl, hi, sm, ys, hD, al⟩
  have q := sm.seq hs
  by_cases lt : i < es.length
  · have lx : i < xs.length := by omega
    have he : es[i]? = some es[i] := List.getElem?_eq_getElem lt
    refine .inr ⟨⟨xs, xs[i], q, List.getElem?_eq_getElem lx⟩, fun H' => Same H1 H' ∧ ∃ ys, H' D = some (.lst ys) ∧ Al2 (fun e y => G e y H') (es.take (i + 1)) ys, fun H' p' => ⟨es.length - (i + 1), by omega, rfl, lt, p'⟩, fun x H' y => ?_⟩
    obtain ⟨e, y⟩ := y
    subst e
    refine turn i es[i] x _ _ _ he (y xs q) sm fun z H4 s4 gz => ?_
    have hD4 := s4 _ _ hD
    refine ⟨ys, hD4, ?_, (sm.trans s4).over nD (.lst hD4), _, upd_same, ?_⟩
    · rw [al.length, List.length_take]
      omega
    · rw [List.take_add_one, he, Option.toList_some]
      have al2 : Al2 (fun u v => G u v (upd H4 D (.lst (ys ++ [z])))) (es.take i) ys := (al_mem al).mono fun u v k => gu _ _ _ _ _ hD4 (List.mem_of_mem_take k.2) (gk _ _ _ _ s4 k.1)
      exact Al2.snoc (R := fun u v => G u v (upd H4 D (.lst (ys ++ [z])))) (gu _ _ _ _ _ hD4 (List.getElem_mem lt) gz) al2
  · have e : i = es.length := by omega
    rw [e, List.take_length] at al
    exact .inl ⟨⟨xs, q, by omega⟩, hd ys H al sm hD⟩
end Fc

namespace Fc
open PySem PySem.Spec L2 PyProof.Rows
/-! ### a set's table laid anew holds all that it held, for masks up to 255 -/
def Full (m : Nat) : Prop := ∀ i j, i ≤ m → j ≤ m → ∃ k, k ≤ m ∧ lcgI m i k = j
def orb (m : Nat) : Nat → Nat → List Nat
  | 0, _ => []
  | n + 1, i => i :: orb m n ((i * 5 + 1) % (m + 1))
theorem lcg_front (m : Nat) : ∀ (k i : Nat), lcgI m i (k + 1) = lcgI m ((i * 5 + 1) % (m + 1)) k
  | 0, _ => rfl
  | k + 1, i => by
    show (lcgI m i (k + 1) * 5 + 1) % (m + 1) = (lcgI m ((i * 5 + 1) % (m + 1)) k * 5 + 1) % (m + 1)
    rw [lcg_front m k i]
theorem orb_mem (m : Nat) : ∀ (n i j : Nat), j ∈ orb m n i → ∃ k, k < n ∧ lcgI m i k = j
  | 0, _, _, h => nomatch h
  | n + 1, i, j, h => by
    rcases List.mem_cons.mp h with e | e
    · exact ⟨0, Nat.succ_pos _, e.symm⟩
    · obtain ⟨k, a, b⟩ := orb_mem m n _ j e
      exact ⟨k + 1, Nat.succ_lt_succ a, (lcg_front m k i).trans b⟩
theorem full_of {m : Nat} (all : ((List.range (m + 1)).all fun j => (orb m (m + 1) 0).contains j) = true) (back : lcgN m (m + 1) = 0) : Full m := by
  have at_ : ∀ j, j ≤ m → ∃ b, b ≤ m ∧ lcgN m b = j := fun j hj => by
    have q := List.all_eq_true.mp all j (List.mem_range.mpr (by omega))
    obtain ⟨k, a, b⟩ := orb_mem m (m + 1) 0 j (List.contains_iff_mem.mp q)
    refine ⟨k, by omega, ?_⟩
    have e := lcgN_add m 0 k
    rw [Nat.zero_add] at e
    exact e.symm.trans b
  have per : ∀ k, lcgN m (m + 1 + k) = lcgN m k := fun k => by
    induction k with
    | zero => exact back
    | succ k ih =>
      show (lcgN m (m + 1 + k) * 5 + 1) % (m + 1) = (lcgN m k * 5 + 1) % (m + 1)
      rw [ih]
  intro i j hi hj
  obtain ⟨a, ha, rfl⟩ := at_ i hi
  obtain ⟨b, hb, rfl⟩ := at_ j hj
  by_cases c : a ≤ b
  · exact ⟨b - a, by omega, by rw [lcgN_add]; congr 1; omega⟩
  · refine ⟨b + (m + 1) - a, by omega, ?_⟩
    rw [lcgN_add, show a + (b + (m + 1) - a) = m + 1 + b by omega, per]
theorem full7 : Full 7 := full_of (by decide +kernel) (by decide +kernel)
theorem full15 : Full 15 := full_of (by decide +kernel) (by decide +kernel)
theorem full31 : Full 31 := full_of (by decide +kernel) (by decide +kernel)
theorem full63 : Full 63 := full_of (by decide +kernel) (by decide +kernel)
theorem full127 : Full 127 := full_of (by decide +kernel) (by decide +kernel)
theorem full255 : Full 255 := full_of (by decide +kernel) (by decide +kernel)
theorem size_is : ((List.range 256).all fun n => (decide (n < SetTable.sizeAbove n) && [8, 16, 32, 64, 128, 256].contains (SetTable.sizeAbove n))) = true := by decide +kernel
theorem mask_is {n : Nat} (h : n < 256) : Full (SetTable.sizeAbove n - 1) ∧ n ≤ SetTable.sizeAbove n - 1 ∧ SetTable.sizeAbove n ≤ 256 := by
  have q := List.all_eq_true.mp size_is n (List.mem_range.mpr h)
  rw [Bool.and_eq_true, decide_eq_true_eq] at q
  obtain ⟨q1, q2⟩ := q
  have q3 := List.contains_iff_mem.mp q2
  refine ⟨?_, by omega, ?_⟩
  · simp only [List.mem_cons, List.not_mem_nil, or_false] at q3
    rcases q3 with e | e | e | e | e | e <;> rw [e]
    · exact full7
    · exact full15
    · exact full31
    · exact full63
    · exact full127
    · exact full255
  · simp only [List.mem_cons, List.not_mem_nil, or_false] at q3
    omega
theorem oAt_lt {owner : Array (Option Nat)} {j : Nat} (h : oAt owner j = none) : j < owner.size := by
  rcases Nat.lt_or_ge j owner.size with c | c
  · exact c
  · have e : oAt owner j = some 0 := by
      show owner.getD j (some 0) = some 0
      rw [Array.getD_eq_getD_getElem?, Array.getElem?_eq_none c]; rfl
    rw [e] at h; cases h
theorem free_at {m : Nat} (F : Full m) (owner : Array (Option Nat)) (h : Int) {j : Nat} (hj : j ≤ m) (hf : oAt owner j = none) :
    ∃ x, SetTable.layClean.free m owner (SetTable.turns m) (SetTable.bits h % (m + 1)) (SetTable.bits h) = some x ∧ oAt owner x = none := by
  obtain ⟨k, hk, e⟩ := F (runI m (SetTable.bits h) 12) j (runI_le m _ 12) hj
  have e2 : runI m (SetTable.bits h) (12 + k) = j := (runI_tail (bits_lt h) k).trans e
  have hw : (nth m (runAt m (SetTable.bits h % (m + 1)) (SetTable.bits h)) (off m (SetTable.bits h % (m + 1)) (SetTable.bits h) (12 + k))).j = j := by
    rw [nth_off, itL_run]; exact e2
  obtain ⟨K, k1, k2, k3⟩ := st_least (p := fun q => oAt owner (nth m (runAt m (SetTable.bits h % (m + 1)) (SetTable.bits h)) q).j = none) _ (by rw [hw]; exact hf)
  refine ⟨_, free_spec m owner (SetTable.turns m) (12 + k) _ _ K (by unfold SetTable.turns; omega) k1 (fun q hq => ?_) (by rw [k2]; rfl), k2⟩
  cases z : oAt owner (nth m (runAt m (SetTable.bits h % (m + 1)) (SetTable.bits h)) q).j with
  | none => exact absurd z (k3 q hq)
  | some _ => rfl
/-- n have their seats -/
structure Sat (m n : Nat) (owner : Array (Option Nat)) : Prop where
  sz : owner.size = m + 1
  all : ∀ k, k < n → ∃ j, j ≤ m ∧ oAt owner j = some k
  ps : ∃ ps : List Nat, ps.length = n ∧ ∀ j, j ≤ m → oAt owner j ≠ none → j ∈ ps
theorem Sat.one {m n : Nat} (F : Full m) {owner : Array (Option Nat)} (S : Sat m n owner) (hl : n ≤ m) (h : Int) :
    ∃ x, SetTable.layClean.free m owner (SetTable.turns m) (SetTable.bits h % (m + 1)) (SetTable.bits h) = some x ∧ Sat m (n + 1) (owner.setIfInBounds x (some n)) := by
  obtain ⟨ps, p1, p2⟩ := S.ps
  obtain ⟨y, y1, y2⟩ := st_missing ps (m + 1) (by omega)
  have y3 : oAt owner y = none := by
    cases z : oAt owner y with
    | none => rfl
    | some k => exact absurd (p2 y (by omega) (by rw [z]; exact fun e => nomatch e)) y2
  obtain ⟨x, x1, x2⟩ := free_at F owner h (by omega) y3
  have x3 := oAt_lt x2
  refine ⟨x, x1, by rw [Array.size_setIfInBounds]; exact S.sz, fun k hk => ?_, x :: ps, by rw [List.length_cons, p1], fun j hj e => ?_⟩
  · by_cases c : k < n
    · obtain ⟨j, j1, j2⟩ := S.all k c
      refine ⟨j, j1, ?_⟩
      rw [oAt_set_ne _ (fun z => by rw [z, x2] at j2; cases j2)]
      exact j2
    · have : k = n := by omega
      subst this
      exact ⟨x, by have := S.sz; omega, oAt_set_self _ x3⟩
  · by_cases c : j = x
    · exact c ▸ List.mem_cons_self
    · rw [oAt_set_ne _ c] at e
      exact List.mem_cons_of_mem _ (p2 j hj e)
theorem sat_fold {m : Nat} (F : Full m) : ∀ (rest : List Int) (n : Nat) (owner : Array (Option Nat)), Sat m n owner → n + rest.length ≤ m →
    ∃ o2, rest.foldl (stepF m) (some (owner, n)) = some (o2, n + rest.length) ∧ Sat m (n + rest.length) o2
  | [], n, owner, S, _ => ⟨owner, rfl, S⟩
  | h :: rest, n, owner, S, hl => by
    rw [List.length_cons] at hl
    obtain ⟨x, x1, S1⟩ := S.one F (by omega) h
    obtain ⟨o2, f, S2⟩ := sat_fold F rest (n + 1) _ S1 (by omega)
    have e : n + 1 + rest.length = n + (h :: rest).length := by rw [List.length_cons]; omega
    rw [e] at f S2
    exact ⟨o2, by rw [List.foldl_cons, stepF_some x1]; exact f, S2⟩
theorem laid_ok {m : Nat} (F : Full m) {hs : Array Int} (hn : hs.size ≤ m) (f mv : Nat) (ld pl : Bool) :
    ∃ t order, SetTable.laid m f mv ld pl hs = some (t, order) ∧ order.toList.Perm (List.range hs.size) ∧ t.fits hs.size = true ∧ Ris t.place.toList ∧ t.led = ld ∧ t.mask = m := by
  have S0 : Sat m 0 (Array.replicate (m + 1) none) := ⟨by simp, fun k hk => absurd hk (Nat.not_lt_zero _), [], rfl, fun j hj e => absurd (oAt_init hj) e⟩
  have lz : hs.toList.length = hs.size := rfl
  obtain ⟨owner, f1, S⟩ := sat_fold F hs.toList 0 _ S0 (by omega)
  rw [Nat.zero_add, lz] at S
  have lc : SetTable.layClean m hs = some owner := by rw [layClean_eq, f1]; rfl
  have ris := ris_live (fun j => owner.getD j none) (List.range (m + 1)) (by unfold Ris; first | exact List.pairwise_lt_range | exact List.pairwise_lt_range _)
  have r1 : Ris ((liveOf m owner).map (·.1)) := ris.1
  have nd : ((liveOf m owner).map (·.1)).Nodup := List.Pairwise.imp (fun h => Nat.ne_of_lt h) r1
  have b := nat_nodup_len (List.range hs.size) ((liveOf m owner).map (·.2)) List.nodup_range fun k hk => by
    obtain ⟨j, j1, j2⟩ := S.all k (List.mem_range.mp hk)
    exact List.mem_map.mpr ⟨(j, k), (mem_live S.sz).2 ⟨j1, j2⟩, rfl⟩
  have a : (liveOf m owner).length ≤ hs.size := by
    obtain ⟨ps, p1, p2⟩ := S.ps
    have q := nat_nodup_len ((liveOf m owner).map (·.1)) ps nd fun x hx => by
      obtain ⟨⟨y, k⟩, hq, rfl⟩ := List.mem_map.mp hx
      obtain ⟨b1, b2⟩ := (mem_live S.sz).1 hq
      exact p2 y b1 (by rw [b2]; exact fun z => nomatch z)
    rw [List.length_map, p1] at q
    exact q
  rw [List.length_map, List.length_range] at b
  have len : (liveOf m owner).length = hs.size := by omega
  refine ⟨{ mask := m, place := ((liveOf m owner).map (·.1)).toArray, dummies := #[], finger := f, led := ld, moves := mv, plain := pl }, ((liveOf m owner).map (·.2)).toArray, ?_, ?_, ?_, r1, rfl, rfl⟩
  · show (SetTable.layClean m hs).bind _ = _
    rw [lc]; rfl
  · refine perm_range hs.size _ (by show ((liveOf m owner).map (·.2)).length = _; rw [List.length_map, len]) fun k hk => ?_
    obtain ⟨j, j1, j2⟩ := S.all k hk
    exact List.mem_map.mpr ⟨(j, k), (mem_live S.sz).2 ⟨j1, j2⟩, rfl⟩
  · unfold SetTable.fits SetTable.fill
    rw [Bool.and_eq_true, beq_iff_eq, decide_eq_true_eq]
    show ((liveOf m owner).map (·.1)).toArray.size = hs.size ∧ ((liveOf m owner).map (·.1)).toArray.size + 0 ≤ m
    rw [List.size_toArray, List.length_map, len]
    exact ⟨rfl, by omega⟩
/-- what is taken out in an order that has each place once is all of it -/
theorem order_perm {es : Array (Int × Value)} {order : Array Nat} (hp : order.toList.Perm (List.range es.size)) : (order.filterMap (es[·]?)).toList.Perm es.toList := by
  have h1 : (order.filterMap (es[·]?)).toList = order.toList.filterMap (fun i => es.toList[i]?) := by
    rw [Array.toList_filterMap]
    congr 1
    funext i
    rw [Array.getElem?_toList]
  rw [h1]
  refine (hp.filterMap _).trans (List.Perm.of_eq ?_)
  have key : ∀ (l : List (Int × Value)) (n : Nat), n ≤ l.length → (List.range n).filterMap (fun i => l[i]?) = l.take n := fun l n => by
    induction n with
    | zero => intro _; rfl
    | succ n ih =>
      intro hn
      rw [List.range_succ, List.filterMap_append, ih (by omega), List.take_succ, List.getElem?_eq_getElem (show n < l.length by omega)]
      rw [List.filterMap_cons_some (List.getElem?_eq_getElem (show n < l.length by omega))]; rfl
  have e := key es.toList es.size (by rw [Array.length_toList]; exact Nat.le_refl _)
  rw [e, show es.size = es.toList.length from rfl, List.take_length]
end Fc

namespace Fc
open PySem PySem.Spec L2 PyProof.Rows
abbrev setO (es : Array (Int × Value)) (ep : Nat) (t : SetTable) : Obj := PySem.Froz.sObj "set" (es, ep, t)
def keyS (e : Int × Value) : Str := match e.2 with
  | .str k _ => k
  | _ => Str.empty
def GoodS (w : World) (e : Int × Value) : Prop := ∃ k tk, e = (hashStr w k, Value.str k tk)
/-- the set of the texts l at a: at most N of them, its table can be walked -/
structure SX (w : World) (h : Heap) (a : Addr) (l : List Str) (N : Nat) (es : Array (Int × Value)) (ep : Nat) (t : SetTable) : Prop where
  ob : h.get? a = some (setO es ep t)
  good : ∀ e ∈ es.toList, GoodS w e
  nd : (es.toList.map keyS).Nodup
  mem : ∀ k, k ∈ l ↔ k ∈ es.toList.map keyS
  few : es.size ≤ N
  fit : t.fits es.size = true
  ris : Ris t.place.toList
  led : w.params.followText "set-order" = true ∨ t.led = true
  msk : es.size = 0 → Full t.mask
section
variable {P : Program} {w : World} {A : Around} {E : Value → Shared → Prop} {s : Shared} {a : Addr} {l : List Str} {N : Nat} {es : Array (Int × Value)} {ep : Nat} {t : SetTable} {h : Heap}
theorem SX.keep (S : SX w h a l N es ep t) {h' : Heap} (k : h'.get? a = h.get? a) : SX w h' a l N es ep t := ⟨k.trans S.ob, S.good, S.nd, S.mem, S.few, S.fit, S.ris, S.led, S.msk⟩
theorem SX.size (S : SX w h a l N es ep t) : t.place.size = es.size := by
  have q := S.fit
  unfold SetTable.fits at q
  rw [Bool.and_eq_true, beq_iff_eq] at q
  exact q.1
theorem SX.re (S : SX w h a l N es ep t) {h' : Heap} {es' : Array (Int × Value)} {ep' : Nat} {t' : SetTable} (pm : es'.toList.Perm es.toList) (hg : h'.get? a = some (setO es' ep' t')) (hf : t'.fits es'.size = true)
    (hr : Ris t'.place.toList) (hl : w.params.followText "set-order" = true ∨ t'.led = true) (hm : es'.size = 0 → Full t'.mask) : SX w h' a l N es' ep' t' := by
  have pk := pm.map keyS
  refine ⟨hg, fun e he => S.good e (pm.mem_iff.mp he), pk.nodup_iff.mpr S.nd, fun k => (S.mem k).trans pk.mem_iff.symm, ?_, hf, hr, hl, hm⟩
  rw [← Array.length_toList, pm.length_eq, Array.length_toList]
  exact S.few
theorem SX.elems (S : SX w h a l N es ep t) : ElemsOf (_root_.PySem.strKind P w) es.toList := fun e he => by
  obtain ⟨k, tk, rfl⟩ := S.good e he
  exact ⟨⟨k, PySem.Froz.is_str k tk, rfl⟩, rfl⟩
theorem key_is {e : Int × Value} (g : GoodS w e) (k : Str) : (_root_.PySem.strKind P w).is k e.2 = true ↔ keyS e = k := by
  obtain ⟨k', tk, rfl⟩ := g
  show Value.isStrOf k (.str k' tk) = true ↔ k' = k
  simp [Value.isStrOf]
theorem SX.has (S : SX w h a l N es ep t) (k : Str) : k ∈ es.toList.map keyS ↔ ∃ e ∈ es.toList, (_root_.PySem.strKind P w).is k e.2 = true := by
  rw [List.mem_map]
  exact ⟨fun ⟨e, he, q⟩ => ⟨e, he, (key_is (S.good e he) k).2 q⟩, fun ⟨e, he, q⟩ => ⟨e, he, (key_is (S.good e he) k).1 q⟩⟩
theorem st_at {es' : Array (Int × Value)} {t' : SetTable} {Q : Unit → Shared → Prop} (ho : s.heap.get? a = some (setO es ep t)) (hz : es'.size ≤ sizeLine)
    (hQ : ∀ h', Heap.SameBut a s.heap h' → h'.get? a = some (setO es' (ep + 1) t') → Q () { s with heap := h' }) : wpAny (model P w) A (storeSet a es' t') Q E s :=
  wpAny_storeSet_of ho rfl (hQ _ (Heap.SameBut.update _ _ _) (store_at ho rfl)) hz
theorem small {n : Nat} (h : n ≤ 100000) : n ≤ sizeLine := by rw [sizeLine_eq]; omega
/-! ### laid anew -/
theorem sx_relay {wanted : Nat} (S : SX w s.heap a l N es ep t) (hw : wanted < 256) (hn : es.size ≤ wanted) {Q : Unit → Shared → Prop}
    (hQ : ∀ h' es' ep' t', Heap.SameBut a s.heap h' → SX w h' a l N es' ep' t' → wanted ≤ t'.mask → Q () { s with heap := h' }) : wpAny (model P w) A (setRelay a wanted) Q E s := by
  obtain ⟨F, m1, m2⟩ := mask_is hw
  obtain ⟨t', order, e, hp, hf, hr, hl, hm⟩ := laid_ok F (hs := es.map (·.1)) (by rw [Array.size_map]; omega) t.finger (t.movedTo (SetTable.sizeAbove wanted - 1)) t.led t.plain
  rw [Array.size_map] at hp hf
  have pm := order_perm hp
  have hs2 : (order.filterMap (es[·]?)).size = es.size := by rw [← Array.length_toList, pm.length_eq, Array.length_toList]
  have e2 : t.relaid (es.map (·.1)) wanted = some (t', order) := e
  rw [setRelay_eq]
  refine wpAny_bind (wpAny_setState_of S.ob rfl S.fit ?_)
  dsimp only
  refine wp_if_neg (by rw [sizeLine_eq]; omega) ?_
  try refine wpAny_bind (wpAny_pure ?_)
  rw [e2]
  dsimp only
  refine wpAny_bind ?_
  refine wp_if_neg (by rw [hs2]; simp) ?_
  try refine wpAny_bind (wpAny_pure ?_)
  refine wpAny_pure ?_
  dsimp only
  exact st_at S.ob (by rw [hs2]; exact small (by omega)) fun h' sb hg => hQ h' _ _ _ sb (S.re pm hg (by rw [hs2]; exact hf) hr (S.led.imp id fun z => by rw [hl]; exact z) fun _ => by rw [hm]; exact F) (by rw [hm]; exact m1)
theorem sx_room {more : Nat} (S : SX w s.heap a l N es ep t) (hb : (N + more) * 2 < 256) {Q : Unit → Shared → Prop}
    (hQ : ∀ h' es' ep' t', Heap.SameBut a s.heap h' → SX w h' a l N es' ep' t' → more ≤ t'.mask → Q () { s with heap := h' }) : wpAny (model P w) A (setRoomFor a more) Q E s := by
  have fw := S.few
  unfold setRoomFor
  refine wpAny_bind (wpAny_setState_of S.ob rfl S.fit ?_)
  dsimp only
  unfold SetTable.roomFor
  by_cases c : (t.fill + more) * 5 ≥ t.mask * 3
  · rw [if_pos c]
    dsimp only
    rw [S.size]
    exact sx_relay S (by omega) (by omega) fun h' e' p' t' sb S' z => hQ h' e' p' t' sb S' (by omega)
  · rw [if_neg c]
    exact wpAny_pure (hQ s.heap _ _ _ (Heap.SameBut.refl a s.heap) S (by omega))
/-! ### one more -/
theorem sx_add {k : Str} {tk : Tok} (S : SX w s.heap a l N es ep t) (hN : N < 4000) {Q : Bool → Shared → Prop}
    (hQ : ∀ b h' es' ep' t', Heap.SameBut a s.heap h' → SX w h' a (l ++ [k]) (N + 1) es' ep' t' → Q b { s with heap := h' }) : wpAny (model P w) A (setAddHashed a (.str k tk) (hashStr w k)) Q E s := by
  have fw := S.few
  have hel := S.elems (P := P)
  have hb : es.size < scanBound := by show es.size < 4096; omega
  by_cases c : k ∈ es.toList.map keyS
  · have hkey : (_root_.PySem.strKind P w).is k (.str k tk) = true := PySem.Froz.is_str k tk
    have fin : Q false s := hQ false s.heap es ep t (Heap.SameBut.refl a s.heap) ⟨S.ob, S.good, S.nd, fun j => by
      rw [List.mem_append, List.mem_singleton, S.mem j]
      exact ⟨fun z => z.elim id (fun e => e ▸ c), .inl⟩, by omega, S.fit, S.ris, S.led, S.msk⟩
    have ob : s.heap.get? a = some (setO es ep t) := S.ob
    unfold setAddHashed setAddHashedIn
    refine wpAny_holding (wpAny_bind (wpAny_setState_of ob rfl S.fit ?_))
    dsimp only
    rw [byScan_of rfl hb hel]
    simp only [↓reduceIte]
    unfold setAddByScan
    refine wpAny_bind ?_
    refine wpAny_bind (wpAny_rule ?_)
    refine wpAny_bind (wpAny_setScan_of (knd := _root_.PySem.strKind P w) (k := k) hkey ob rfl S.fit hel ?_)
    cases hfi : List.findIdx? (fun e => (_root_.PySem.strKind P w).is k e.2) es.toList with
    | none =>
      obtain ⟨e, he, q⟩ := (S.has (P := P) k).1 c
      have z := List.findIdx?_eq_none_iff.mp hfi e he
      rw [q] at z; cases z
    | some j =>
      dsimp only
      exact wpAny_pure (wpAny_pure fin)
  · have T : PySem.Froz.TxOk P w (es, ep, t) (es.toList.map keyS) := ⟨hel, fun k => S.has (P := P) k, by rw [List.length_map, Array.length_toList], S.fit⟩
    refine PySem.Froz.add_x (T := "set") (D := (es, ep, t)) S.ob T c (by rw [List.length_map, Array.length_toList]; show es.size + 1 < 4096; omega) ?_
    have T2 := PySem.Froz.add_ok (k := k) tk T
    have pm := layNew_perm t es (hashStr w k) (.str k tk)
    have r1 := layNew_ris t es (hashStr w k) (.str k tk) S.ris
    have l1 := layNew_led t es (hashStr w k) (.str k tk)
    rw [Array.toList_push] at pm
    have pc : (layNew t es (hashStr w k) (.str k tk)).1.toList.Perm ((hashStr w k, Value.str k tk) :: es.toList) := pm.trans (List.perm_append_singleton _ _)
    -- the payload: its entries, its table
    have pay : (PySem.Froz.addTx (hashStr w k) (.str k tk) (es, ep, t)).1.toList.Perm ((hashStr w k, Value.str k tk) :: es.toList) ∧ Ris (PySem.Froz.addTx (hashStr w k) (.str k tk) (es, ep, t)).2.2.place.toList ∧ (PySem.Froz.addTx (hashStr w k) (.str k tk) (es, ep, t)).2.2.led = t.led := by
      unfold PySem.Froz.addTx
      dsimp only
      generalize layNew t es (hashStr w k) (.str k tk) = Z at pc r1 l1 ⊢
      obtain ⟨e1, t1, wd, gv⟩ := Z
      dsimp only at pc r1 l1 ⊢
      generalize hq : (if t1.plain = true then { t1 with plain := false } else t1) = t2
      have q1 : Ris t2.place.toList := by rw [← hq]; split <;> exact r1
      have q2 : t2.led = t.led := by rw [← hq]; split <;> exact l1
      unfold PySem.Froz.tailTx
      split
      · exact ⟨(relayAll_perm t2 e1 _).trans pc, relayAll_ris t2 e1 _, (relayAll_led t2 e1 _).trans q2⟩
      · exact ⟨pc, q1, q2⟩
    generalize hD : PySem.Froz.addTx (hashStr w k) (.str k tk) (es, ep, t) = D at pay T2 ⊢
    obtain ⟨es', ep', t'⟩ := D
    dsimp only at pay
    obtain ⟨p1, p2, p3⟩ := pay
    have hg : (s.heap.update a (fun _ => PySem.Froz.sObj "set" (es', ep', t'))).get? a = some (setO es' ep' t') := PySem.Froz.get_upd _ S.ob rfl
    have pk : (es'.toList.map keyS).Perm (k :: es.toList.map keyS) := p1.map keyS
    have sz : es'.size = es.size + 1 := by rw [← Array.length_toList, p1.length_eq, List.length_cons, Array.length_toList]
    refine hQ true _ es' ep' t' (Heap.SameBut.update _ _ _) ⟨hg, fun e he => ?_, pk.nodup_iff.mpr (List.nodup_cons.mpr ⟨c, S.nd⟩), fun j => ?_, by omega, T2.fit, p2, S.led.imp id fun z => by rw [p3]; exact z, fun z => by omega⟩
    · rcases List.mem_cons.mp (p1.mem_iff.mp he) with z | z
      · exact ⟨k, tk, z⟩
      · exact S.good e z
    · rw [List.mem_append, List.mem_singleton, S.mem j, pk.mem_iff, List.mem_cons]
      exact Or.comm
/-! ### the walk -/
theorem sx_walk (S : SX w s.heap a l N es ep t) {Q : Array (Int × Value) → Shared → Prop} (hQ : ∀ d ar, ar.toList.Perm es.toList → Q ar { s with drawn := d }) : wpAny (model P w) A (setWalk a) Q E s := by
  unfold setWalk
  refine wpAny_bind (wpAny_setState_of S.ob rfl S.fit ?_)
  dsimp only
  refine wpAny_bind (wpAny_byText ?_)
  cases hb : w.params.followText "set-order" with
  | true =>
    refine wp_if_pos rfl ?_
    exact wpAny_bind (wpAny_askSetting (wpAny_pure (hQ s.drawn _ (pick_perm _ es))))
  | false =>
    have hl : t.led = true := S.led.resolve_left (by rw [hb]; exact Bool.false_ne_true)
    refine wp_if_neg Bool.false_ne_true ?_
    try refine wpAny_bind (wpAny_pure ?_)
    by_cases dr : (!t.plain && decide (es.size > 1)) = true
    · refine wp_if_pos dr ?_
      refine wpAny_bind (drawOrder_at _ _ _ _ (Nat.le_of_eq Array.length_toList) fun ys d hp => wpAny_pure (hQ d _ ?_))
      exact hp
    · refine wp_if_neg dr ?_
      try refine wpAny_bind (wpAny_pure ?_)
      refine wpAny_bind (wpAny_of_eq (a := ()) ?_ ?_)
      · show (if (!t.led && decide (es.size > 1)) = true then unsupported "set:maker-not-led" else pure ()) = pure ()
        rw [hl]; rfl
      · exact wpAny_pure (hQ s.drawn es (List.Perm.refl _))
end
end Fc

namespace Fc
open PySem PySem.Spec L2 PyProof.Rows
section
variable {P : Program} {w : World} {A : Around} {E : Value → Shared → Prop} {s : Shared} {a b : Addr} {l lo : List Str} {N M : Nat} {es eo : Array (Int × Value)} {ep epo : Nat} {t to : SetTable} {h : Heap}
theorem sx_entries (S : SX w s.heap a l N es ep t) {Q : Array (Int × Value) → Shared → Prop} (hQ : Q es s) : wpAny (model P w) A (setEntries a) Q E s := wpAny_setEntries_of S.ob rfl S.fit hQ
theorem sx_quiet (S : SX w s.heap a l N es ep t) (S2 : SX w s.heap b lo M eo epo to) {Q : Bool → Shared → Prop} (hQ : Q true s) : wpAny (model P w) A (setsQuiet [a, b]) Q E s := by
  unfold setsQuiet
  refine wpAny_bind (wpAny_forIn_list _ (fun rest r s' => r = ((none : Option Bool), ()) ∧ s' = s ∧ ∀ x ∈ rest, x = a ∨ x = b) _ ?_ ?_ _ _ ⟨rfl, rfl, fun x hx => by
    simp only [List.mem_cons, List.not_mem_nil, or_false] at hx; exact hx⟩)
  · rintro x rest r s' ⟨rfl, rfl, hx⟩
    have key : ∃ l N es ep t, SX w s'.heap x l N es ep t := by
      rcases hx x List.mem_cons_self with e | e <;> subst e
      · exact ⟨_, _, _, _, _, S⟩
      · exact ⟨_, _, _, _, _, S2⟩
    obtain ⟨l', N', es', ep', t', S'⟩ := key
    refine wpAny_bind (sx_entries S' ?_)
    refine wpAny_bind (wpAny_forIn_array' _ (fun rest r s2 => r = ((none : Option Bool), ()) ∧ s2 = s' ∧ ∀ e ∈ rest, GoodS w e) _ ?_ ?_ _ _ ⟨rfl, rfl, S'.good⟩)
    · rintro e rest' r s2 ⟨rfl, rfl, hg⟩
      obtain ⟨k, tk, rfl⟩ := hg e List.mem_cons_self
      exact wpAny_pure ⟨rfl, rfl, fun y hy => hg y (List.mem_cons_of_mem _ hy)⟩
    · rintro r s2 ⟨rfl, rfl, _⟩
      exact wpAny_pure ⟨rfl, rfl, fun y hy => hx y (List.mem_cons_of_mem _ hy)⟩
  · rintro r s' ⟨rfl, rfl, _⟩
    exact wpAny_pure hQ
/-- the walk of o, for the filling of f -/
theorem sx_unseen (So : SX w s.heap b lo M eo epo to) (S : SX w s.heap a l N es ep t) (hab : a ≠ b) (hN : N < 4000) {Q : Array (Int × Value) → Shared → Prop}
    (hQ : ∀ d h' ar ep' t', Heap.SameBut a s.heap h' → SX w h' a l N es ep' t' → ar.toList.Perm eo.toList → Q ar { s with heap := h', drawn := d }) : wpAny (model P w) A (setWalkUnseen b [a] (some a)) Q E s := by
  have fw := S.few
  have same : ∀ d (ar : Array (Int × Value)), ar.toList.Perm eo.toList → Q ar { s with drawn := d } := fun d ar p => hQ d s.heap ar ep t (Heap.SameBut.refl a s.heap) S p
  unfold setWalkUnseen
  refine wpAny_bind (wpAny_setState_of So.ob rfl So.fit ?_)
  dsimp only
  refine wpAny_bind (wpAny_byText ?_)
  by_cases c : (w.params.followText "set-order" || to.led && to.plain || decide (eo.size ≤ 1)) = true
  · refine wp_if_pos c ?_
    first | exact wpAny_bind (sx_walk So fun d ar p => wpAny_pure (same d ar p)) | exact sx_walk So same
  · refine wp_if_neg c ?_
    try refine wpAny_bind (wpAny_pure ?_)
    refine wpAny_bind (sx_quiet So S ?_)
    refine wp_if_neg (by decide) ?_
    try refine wpAny_bind (wpAny_pure ?_)
    refine wpAny_bind (wpAny_rule ?_)
    refine wpAny_bind (wpAny_setState_of S.ob rfl S.fit ?_)
    dsimp only
    split
    · refine wpAny_bind (st_at S.ob (small (by omega)) fun h' sb hg => wpAny_pure (hQ s.drawn h' eo _ _ sb (S.re (List.Perm.refl _) hg S.fit S.ris ?_ S.msk) (List.Perm.refl _)))
      rcases S.led with z | z
      · exact .inl z
      · rcases So.led with y | y
        · exact .inl y
        · right; show (t.led && to.led) = true; rw [z, y]; rfl
    · exact wpAny_pure (same s.drawn eo (List.Perm.refl _))
/-! ### all of o into a -/
theorem good_app {l' : List Str} {eo : Array (Int × Value)} (S : SX w h a l N es ep t) (e0 : es.size = 0) (mo : ∀ k, k ∈ lo ↔ k ∈ eo.toList.map keyS) (k : Str) : k ∈ l ++ lo ↔ k ∈ eo.toList.map keyS := by
  rw [List.mem_append, mo k, S.mem k]
  have e1 : es.toList = [] := List.eq_nil_of_length_eq_zero (by rw [Array.length_toList]; exact e0)
  rw [e1]
  exact ⟨fun z => z.elim (fun y => nomatch y) id, .inr⟩
theorem sx_loop (hab : a ≠ b) {each : Sem Unit} : ∀ (rest : List (Int × Value)) (l : List Str) (N : Nat) (es : Array (Int × Value)) (ep : Nat) (t : SetTable) (s : Shared),
    (∀ (s₁ : Shared) (Q' : Unit → Shared → Prop), SX w s₁.heap b lo M eo epo to → Q' () s₁ → wpAny (model P w) A each Q' E s₁) →
    SX w s.heap a l N es ep t → SX w s.heap b lo M eo epo to → (∀ e ∈ rest, GoodS w e) → N + rest.length < 4000 → ∀ {Q : PUnit → Shared → Prop},
    (∀ h' es' ep' t', Heap.SameBut a s.heap h' → SX w h' a (l ++ rest.map keyS) (N + rest.length) es' ep' t' → Q ⟨⟩ { s with heap := h' }) →
    wpAny (model P w) A (forIn rest PUnit.unit fun (x : Int × Value) (r : PUnit) => do
        let _ ← holding [x.snd] (setAddHashed a x.snd x.fst)
        each
        let st ← setState b
        if (st.snd.fst != epo) = true then do
          unsupported "set.changed-during-merge"
          pure (ForInStep.yield PUnit.unit)
        else pure (ForInStep.yield PUnit.unit)) Q E s
  | [], l, N, es, ep, t, s, _, S, _, _, _, Q, hQ => by
    rw [List.forIn_nil]
    exact wpAny_pure (hQ s.heap es ep t (Heap.SameBut.refl a s.heap) (by rw [List.map_nil, List.append_nil]; exact S))
  | e :: rest, l, N, es, ep, t, s, he, S, So, hg, hn, Q, hQ => by
    obtain ⟨k, tk, rfl⟩ := hg e List.mem_cons_self
    rw [List.length_cons] at hn
    rw [List.forIn_cons]
    refine wpAny_bind ?_
    dsimp only
    refine wpAny_bind (wpAny_holding (sx_add S (by omega) fun bb h' es' ep' t' sb S' => ?_))
    have So' : SX w h' b lo M eo epo to := So.keep (sb.2 b (Ne.symm hab))
    refine wpAny_bind (he _ _ So' ?_)
    refine wpAny_bind (wpAny_setState_of So'.ob rfl So'.fit ?_)
    refine wp_if_neg (by simp) ?_
    refine wpAny_pure ?_
    dsimp only
    refine sx_loop hab rest (l ++ [k]) (N + 1) es' ep' t' { s with heap := h' } he S' So' (fun y hy => hg y (List.mem_cons_of_mem _ hy)) (by omega) fun h2 e2 p2 t2 sb2 S2 => ?_
    refine hQ h2 e2 p2 t2 (sb.trans sb2) ?_
    have e1 : l ++ ((hashStr w k, Value.str k tk) :: rest).map keyS = l ++ [k] ++ rest.map keyS := by rw [List.append_assoc]; rfl
    have e2' : N + ((hashStr w k, Value.str k tk) :: rest).length = N + 1 + rest.length := by rw [List.length_cons]; omega
    rw [e1, e2']
    exact S2
theorem sx_merge (S : SX w s.heap a l N es ep t) (So : SX w s.heap b lo M eo epo to) (hab : a ≠ b) (hb : (N + M) * 2 < 256) {each : Sem Unit}
    (he : ∀ (s₁ : Shared) (Q' : Unit → Shared → Prop), SX w s₁.heap b lo M eo epo to → Q' () s₁ → wpAny (model P w) A each Q' E s₁) {Q : Unit → Shared → Prop}
    (hQ : ∀ d h' es' ep' t', Heap.SameBut a s.heap h' → SX w h' a (l ++ lo) (N + M) es' ep' t' → Q () { s with heap := h', drawn := d }) : wpAny (model P w) A (setMerge a b each) Q E s := by
  have fo := So.few
  unfold setMerge
  refine wp_if_neg (by rw [beq_iff_eq]; exact hab) ?_
  try refine wpAny_bind (wpAny_pure ?_)
  refine wpAny_bind (wpAny_setState_of So.ob rfl So.fit ?_)
  dsimp only
  by_cases c : eo.isEmpty = true
  · refine wp_if_pos c ?_
    have e0 : eo.toList = [] := by rw [Array.isEmpty_iff] at c; rw [c]
    refine wpAny_pure (hQ s.drawn s.heap es ep t (Heap.SameBut.refl a s.heap) ⟨S.ob, S.good, S.nd, fun k => ?_, by have := S.few; omega, S.fit, S.ris, S.led, S.msk⟩)
    rw [List.mem_append, So.mem k, e0, S.mem k]
    exact ⟨fun z => z.elim id (fun y => nomatch y), Or.inl⟩
  · refine wp_if_neg c ?_
    try refine wpAny_bind (wpAny_pure ?_)
    refine wpAny_bind (sx_room S (by omega) fun h1 e1 p1 t1 sb1 S1 rm => ?_)
    have f1 := S1.few
    have So1 : SX w h1 b lo M eo epo to := So.keep (sb1.2 b (Ne.symm hab))
    refine wpAny_bind (wpAny_setState_of S1.ob rfl S1.fit ?_)
    dsimp only
    have led2 : w.params.followText "set-order" = true ∨ (t1.led && to.led) = true := by
      rcases S1.led with z | z
      · exact .inl z
      · rcases So.led with y | y
        · exact .inl y
        · right; rw [z, y]; rfl
    have none0 : t1.fill = 0 → e1.size = 0 := fun z => by
      unfold SetTable.fill at z
      have := S1.size
      omega
    have ne0 : eo.size ≠ 0 := fun z => c (by rw [Array.isEmpty_iff_size_eq_zero]; exact z)
    cases hr : t1.road to with
    | slotForSlot =>
      have z0 : t1.fill = 0 := by
        unfold SetTable.road at hr
        by_cases q : (t1.fill != 0) = true
        · rw [if_pos q] at hr; cases hr
        · simpa using q
      dsimp only
      exact st_at S1.ob (small (by omega)) fun h' sb hg => hQ s.drawn h' eo _ _ (sb1.trans sb) ⟨hg, So.good, So.nd, good_app (l' := []) S1 (none0 z0) So.mem, by omega, So.fit, So.ris, led2, fun z => absurd z ne0⟩
    | clean =>
      have z0 : t1.fill = 0 := by
        unfold SetTable.road at hr
        by_cases q : (t1.fill != 0) = true
        · rw [if_pos q] at hr; cases hr
        · simpa using q
      have F1 := S1.msk (none0 z0)
      obtain ⟨t', order, e, hp, hf, hri, hl, hm⟩ := laid_ok F1 (hs := eo.map (·.1)) (by rw [Array.size_map]; exact rm) t1.finger t1.moves (t1.led && to.led) (t1.plain && to.plain)
      rw [Array.size_map] at hp hf
      have pm := order_perm hp
      have hs2 : (order.filterMap (eo[·]?)).size = eo.size := by rw [← Array.length_toList, pm.length_eq, Array.length_toList]
      dsimp only
      rw [e]
      refine wpAny_bind (m := _) (wpAny_of_eq (a := (order.filterMap (eo[·]?), t')) ?_ ?_)
      · show (if ((order.filterMap (eo[·]?)).size != eo.size) = true then unsupported "internal:set-table-lost-an-element" else pure (order.filterMap (eo[·]?), t')) = pure (order.filterMap (eo[·]?), t')
        rw [hs2, bne_self_eq_false]; rfl
      · dsimp only
        have So2 := So.re (h' := (h1.update b (fun _ => setO (order.filterMap (eo[·]?)) 0 t'))) (ep' := 0) pm (PySem.Froz.get_upd _ So1.ob rfl) (by rw [hs2]; exact hf) hri (led2.imp id fun z => by rw [hl]; exact z) (fun z => by rw [hs2] at z; exact absurd z ne0)
        exact st_at S1.ob (by rw [hs2]; exact small (by omega)) fun h' sb hg => hQ s.drawn h' _ _ _ (sb1.trans sb) ⟨hg, So2.good, So2.nd, good_app (l' := []) S1 (none0 z0) So2.mem, by rw [hs2]; omega, So2.fit, hri, So2.led, So2.msk⟩
    | oneByOne =>
      dsimp only
      refine wpAny_bind (sx_unseen So1 S1 hab (by omega) fun d h2 ar p2 t2 sb2 S2 pm => ?_)
      have So2 : SX w h2 b lo M eo epo to := So1.keep (sb2.2 b (Ne.symm hab))
      have lz : ar.toList.length = eo.size := by rw [pm.length_eq, Array.length_toList]
      rw [← Array.forIn_toList]
      refine wpAny_bind (sx_loop hab ar.toList l N e1 p2 t2 { s with heap := h2, drawn := d } he S2 So2 (fun e z => So.good e (pm.mem_iff.mp z)) (by omega) fun h3 e3 p3 t3 sb3 S3 => wpAny_pure ?_)
      refine hQ d h3 e3 p3 t3 ((sb1.trans sb2).trans sb3) ⟨S3.ob, S3.good, S3.nd, fun k => ?_, by have := S3.few; omega, S3.fit, S3.ris, S3.led, S3.msk⟩
      rw [← S3.mem k, List.mem_append, List.mem_append, So.mem k, (pm.map keyS).mem_iff]
end
end Fc

namespace Fc
open PySem PySem.Spec L2 PyProof.Rows
abbrev newT (w : World) : SetTable := .fresh 0 0 (!w.params.followText "set-order")
section
variable {P : Program} {w : World} {A : Around} {E : Value → Shared → Prop} {s : Shared} {a b d : Addr} {l lo : List Str} {N M : Nat} {es eo : Array (Int × Value)} {ep epo : Nat} {t to : SetTable} {h : Heap}
theorem sx_fresh (ho : h.get? a = some (setO #[] 0 (newT w))) : SX w h a [] 0 #[] 0 (newT w) := by
  refine ⟨ho, fun e he => by simp at he, by simp, fun k => by simp, Nat.le_refl _, by rfl, List.Pairwise.nil, ?_, fun _ => full7⟩
  show _ ∨ (!w.params.followText "set-order") = true
  cases w.params.followText "set-order"
  · exact .inr rfl
  · exact .inl rfl
theorem wp_newSet {Q : Value → Shared → Prop} (hQ : Q (.ref s.heap.objs.size) { s with heap := s.heap.push (setO #[] 0 (newT w)) }) : wpAny (model P w) A (newSet (.type "set")) Q E s := by
  unfold newSet
  refine wpAny_bind (wpAny_byText ?_)
  exact wpAny_newObj_type hQ
/-! ### set(d) -/
theorem sub_dict_set : isSubtype (.type "dict") (.type "set") = pure false := by rw [isSubtype_type]; kernel_rfl
theorem sub_dict_frozen : isSubtype (.type "dict") (.type "frozenset") = pure false := by rw [isSubtype_type]; kernel_rfl
theorem any_dict (hT : s.TypeIs (.ref d) "dict") {Q : Bool → Shared → Prop} (hQ : Q false s) : wpAny (model P w) A (Builtin.Frozenset.isAnySet (.ref d)) Q E s := by
  unfold Builtin.Frozenset.isAnySet orM
  refine wpAny_bind (wpAny_isInstance hT sub_dict_set ?_)
  show wpAny _ _ (isInstance (.ref d) (.type "frozenset")) _ _ s
  exact wpAny_isInstance hT sub_dict_frozen hQ
theorem any_set (hT : s.TypeIs (.ref d) "set") {Q : Bool → Shared → Prop} (hQ : Q true s) : wpAny (model P w) A (Builtin.Frozenset.isAnySet (.ref d)) Q E s := by
  unfold Builtin.Frozenset.isAnySet orM
  refine wpAny_bind (wpAny_isInstance hT sub_set_self ?_)
  exact wpAny_pure hQ
/-- the texts that are the keys of a dict's entries -/
def KeysS (w : World) (de : Array DictEntry) (names : List Str) : Prop := de.size = names.length ∧ ∀ (i : Nat) (e : DictEntry), de[i]? = some e → ∃ (k : Str) (tk : Tok), names[i]? = some k ∧ e.key = Value.str k tk ∧ e.hash = hashStr w k
theorem dk_loop {id : String} {o : Obj} {de : Array DictEntry} {dep : Nat} {names : List Str} (hab : a ≠ d) (hd : o.data = .dict de dep) (K : KeysS w de names) : ∀ (m i N : Nat) (l : List Str) (es : Array (Int × Value)) (ep : Nat) (t : SetTable) (s : Shared),
    i + m = names.length → s.heap.get? d = some o → SX w s.heap a l N es ep t → N + m < 4000 → ∀ {Q : PUnit → Shared → Prop},
    (∀ h' es' ep' t', Heap.SameBut a s.heap h' → SX w h' a (l ++ names.drop i) (N + m) es' ep' t' → Q ⟨⟩ { s with heap := h' }) →
    wpAny (model P w) A (forIn (List.range' i m 1) PUnit.unit fun (i : Nat) (r : PUnit) => do
      let de ← dictEntries d
      match (de[i]? : Option DictEntry) with
      | some e => do
        let _ ← holding [e.key] (setAddHashed a e.key e.hash)
        let n ← dictEpoch d
        if (n != dep) = true then do
          unsupported s!"{id}:changed-during-callback"
          pure (ForInStep.yield PUnit.unit)
        else pure (ForInStep.yield PUnit.unit)
      | x => do
        unsupported "internal:set-from-dict"
        pure (ForInStep.yield PUnit.unit)) Q E s
  | 0, i, N, l, es, ep, t, s, hi, hg, S, hn, Q, hQ => by
    rw [List.range'_zero, List.forIn_nil]
    refine wpAny_pure (hQ s.heap es ep t (Heap.SameBut.refl a s.heap) ?_)
    rw [List.drop_eq_nil_of_le (by omega), List.append_nil]
    exact S
  | m + 1, i, N, l, es, ep, t, s, hi, hg, S, hn, Q, hQ => by
    have hlt : i < de.size := by rw [K.1]; omega
    have he : de[i]? = some de[i] := Array.getElem?_eq_getElem hlt
    obtain ⟨k, tk, k1, k2, k3⟩ := K.2 i _ he
    rw [List.range'_succ, List.forIn_cons]
    refine wpAny_bind ?_
    refine wpAny_bind (wpAny_dictEntries hg hd ?_)
    rw [he]
    dsimp only
    rw [k2, k3]
    refine wpAny_bind (wpAny_holding (sx_add S (by omega) fun bb h' es' ep' t' sb S' => ?_))
    have hg' : h'.get? d = some o := (sb.2 d (Ne.symm hab)).trans hg
    refine wpAny_bind (wpAny_dictEpoch hg' hd ?_)
    refine wp_if_neg (by simp) ?_
    refine wpAny_pure ?_
    dsimp only
    refine dk_loop hab hd K m (i + 1) (N + 1) (l ++ [k]) es' ep' t' { s with heap := h' } (by omega) hg' S' (by omega) fun h2 e2 p2 t2 sb2 S2 => ?_
    refine hQ h2 e2 p2 t2 (sb.trans sb2) ?_
    obtain ⟨lt, ek⟩ := List.getElem?_eq_some_iff.mp k1
    have e1 : names.drop i = k :: names.drop (i + 1) := by rw [List.drop_eq_getElem_cons lt, ek]
    have e2' : N + (m + 1) = N + 1 + m := by omega
    rw [e1, e2', List.append_cons]
    exact S2
theorem range0 {β : Type} (n : Nat) (b : β) (f : Nat → β → Sem (ForInStep β)) : forIn [0:n] b f = forIn (List.range' 0 n 1) b f := by
  rw [Std.Legacy.Range.forIn_eq_forIn_range']
  have z : ([0:n] : Std.Legacy.Range).size = n := by simp [Std.Legacy.Range.size]
  show forIn (List.range' 0 ([0:n] : Std.Legacy.Range).size 1) b f = _
  rw [z]
theorem upd_dict {id : String} {o : Obj} {de : Array DictEntry} {dep : Nat} {names : List Str} (hab : a ≠ d) (hg : s.heap.get? d = some o) (hc : o.cls = .type "dict") (hd : o.data = .dict de dep) (hs : (d == sysModules) = false) (K : KeysS w de names)
    (S : SX w s.heap a l N es ep t) (hb : (N + names.length) * 2 < 256) {Q : Unit → Shared → Prop}
    (hQ : ∀ h' es' ep' t', Heap.SameBut a s.heap h' → SX w h' a (l ++ names) (N + names.length) es' ep' t' → Q () { s with heap := h' }) : wpAny (model P w) A (Builtin.Frozenset.updateFrom id a (.ref d)) Q E s := by
  have hT : s.TypeIs (.ref d) "dict" := ⟨o, hg, hc⟩
  unfold Builtin.Frozenset.updateFrom
  refine wpAny_bind (any_dict hT ?_)
  refine wp_if_neg Bool.false_ne_true ?_
  try refine wpAny_bind (wpAny_pure ?_)
  refine wpAny_bind (wpAny_typeOf hT ?_)
  refine wp_if_pos (by decide) ?_
  refine wpAny_bind (wpAny_rule ?_)
  refine wpAny_bind (m := Builtin.Frozenset.addrOf _) (wpAny_of_eq (a := d) rfl ?_)
  refine wp_if_neg (by rw [hs]; exact Bool.false_ne_true) ?_
  try refine wpAny_bind (wpAny_pure ?_)
  refine wpAny_bind (wpAny_dictEpoch hg hd ?_)
  refine wpAny_bind (wpAny_dictEntries hg hd ?_)
  rw [K.1]
  refine wpAny_bind (sx_room S hb fun h1 e1 p1 t1 sb1 S1 _ => ?_)
  have hg1 : h1.get? d = some o := (sb1.2 d (Ne.symm hab)).trans hg
  refine wpAny_bind (wpAny_dictEntries hg1 hd ?_)
  rw [K.1, range0]
  refine wpAny_bind (dk_loop (id := id) hab hd K names.length 0 N l e1 p1 t1 { s with heap := h1 } (by omega) hg1 S1 (by omega) fun h2 e2 p2 t2 sb2 S2 => ?_)
  exact wpAny_pure (hQ h2 e2 p2 t2 (sb1.trans sb2) S2)
end
end Fc

namespace Fc
open PySem PySem.Spec L2 PyProof.Rows
section
variable {P : Program} {w : World} {A : Around} {E : Value → Shared → Prop} {s : Shared} {a b d : Addr} {l lo : List Str} {N M : Nat} {es eo : Array (Int × Value)} {ep epo : Nat} {t to : SetTable} {h : Heap}
theorem init_dict {o : Obj} {de : Array DictEntry} {dep : Nat} {names : List Str} (hab : a ≠ d) (hg : s.heap.get? d = some o) (hc : o.cls = .type "dict") (hd : o.data = .dict de dep) (hs : (d == sysModules) = false) (K : KeysS w de names)
    (ho : s.heap.get? a = some (setO #[] 0 (newT w))) (hb : names.length * 2 < 256) {Q : PySem.Fin → Shared → Prop}
    (hQ : ∀ h' es' ep' t', Heap.SameBut a s.heap h' → SX w h' a names names.length es' ep' t' → Q (.done (.ret .none)) { s with heap := h' }) : wpAny (model P w) A (Builtin.«set.__init__» ⟨[.ref a, .ref d], []⟩) Q E s := by
  have S := sx_fresh ho
  have hT : s.TypeIs (.ref a) "set" := ⟨_, ho, rfl⟩
  unfold Builtin.«set.__init__» noKeywords
  have fin : wpAny (model P w) A (Builtin.Frozenset.updateFrom "set.__init__" a (.ref d)) (fun _ s' => Q (.done (.ret .none)) s') E s :=
    upd_dict hab hg hc hd hs K S (by omega) fun h' e' p' t' sb S' => hQ h' e' p' t' sb (by
      rw [List.nil_append, Nat.zero_add] at S'
      exact S')
  generalize Builtin.Frozenset.updateFrom = U at fin ⊢
  wp_walk
  exact wpAny_mono fin (fun _ s' q => wpAny_pure q) fun _ _ z => z
theorem call_set_dict {o : Obj} {de : Array DictEntry} {dep : Nat} {names : List Str} (hg : s.heap.get? d = some o) (hc : o.cls = .type "dict") (hd : o.data = .dict de dep) (hs : (d == sysModules) = false) (K : KeysS w de names)
    (hb : names.length * 2 < 256) {Q : Value → Shared → Prop}
    (hQ : ∀ h' es' ep' t', (∀ b o, s.heap.get? b = some o → h'.get? b = some o) → SX w h' s.heap.objs.size names names.length es' ep' t' → Q (.ref s.heap.objs.size) { s with heap := h' }) : wpAny (model P w) A (call (.type "set") [.ref d]) Q E s := by
  obtain ⟨c, tl, hmro⟩ := F.called_set.mro
  have hmade := F.called_set.made
  have hsub := F.called_set.sub
  refine wpAny_call (codeAny_of_tree ?_)
  show wpAny _ _ (callAny (.type "set") _) _ _ _
  refine wpAny_pure ⟨Code.quiet_builtin _ (by decide +kernel), codeAny_builtin F.entry_type_call ?_⟩
  rw [Around.under_plain (weight_type_call_type "set" [.ref d] []) rfl]
  have h1 := F.called_set.notType
  have h2 := F.called_set.canCreate
  have hct := F.typeCall_set_1 (.ref d)
  repeat (any_goals (first | assumption | wp_step))
  refine codeAny_mono (code_set_led1 (.ref d) (E := E) (Q₁ := fun ob s₁ => ob = .ref s.heap.objs.size ∧ s₁ = { s with heap := s.heap.push (setO #[] 0 (newT w)) }) ⟨rfl, rfl⟩) fun r s₁ hr => ?_
  cases r with
  | error e => exact hr
  | ok fl =>
    cases fl with
    | ret ob =>
      obtain ⟨rfl, rfl⟩ := hr
      have hS : (s.heap.push (setO #[] 0 (newT w))).get? s.heap.objs.size = some (setO #[] 0 (newT w)) := Heap.get?_push_size _ rfl
      have hT : Shared.TypeIs { s with heap := s.heap.push (setO #[] 0 (newT w)) } (.ref s.heap.objs.size) "set" := ⟨_, hS, rfl⟩
      have hli := F.called_set.init.lookup
      have hbi := F.called_set.init.bind (.ref s.heap.objs.size)
      repeat (any_goals (first | assumption | wp_step))
      have hlt : d < s.heap.objs.size := Heap.lt_size hg
      refine codeAny_mono (codeAny_call_builtin (R := wants (fun r s₂ => r = .none ∧ Q (.ref s.heap.objs.size) s₂) E) F.called_set.init.plain F.entry_set_init (check_set_init_1 hT ?_)) fun r₂ s₂ hr₂ => ?_
      · refine init_dict (Nat.ne_of_gt hlt) (Heap.get?_push_of_some _ hg) hc hd hs K hS hb fun h' e' p' t' sb S' => ?_
        refine ⟨rfl, hQ h' e' p' t' (fun b o e => ?_) S'⟩
        exact (sb.2 b (Nat.ne_of_lt (Heap.lt_size e))).trans (Heap.get?_push_of_some _ e)
      · cases r₂ with
        | error e => exact hr₂
        | ok f2 =>
          cases f2 with
          | ret r =>
            obtain ⟨rfl, q⟩ := hr₂
            repeat (any_goals (first | assumption | wp_step))
          | _ => exact hr₂.elim
    | _ => exact hr.elim
/-! ### one set or another -/
theorem entry_set_or : entryFor table "set.__or__" = some Builtin.«frozenset.__or__» := entryFor_alias (id' := "frozenset.__or__") (by kernel_rfl) rfl (by decide +kernel) (by kernel_rfl)
theorem sx_copy (S : SX w s.heap b lo M eo epo to) (hb : M * 2 < 256) {Q : Value → Shared → Prop}
    (hQ : ∀ d h' es' ep' t', (∀ b o, s.heap.get? b = some o → h'.get? b = some o) → SX w h' s.heap.objs.size lo M es' ep' t' → Q (.ref s.heap.objs.size) { s with heap := h', drawn := d }) :
    wpAny (model P w) A (Builtin.Frozenset.copyOf b) Q E s := by
  have hT : s.TypeIs (.ref b) "set" := ⟨_, S.ob, rfl⟩
  have lt : b < s.heap.objs.size := Heap.lt_size S.ob
  unfold Builtin.Frozenset.copyOf Builtin.Frozenset.baseOf
  refine wpAny_bind (wpAny_bind (wpAny_isInstance hT sub_set_self ?_))
  refine wpAny_pure ?_
  refine wpAny_bind (wp_newSet ?_)
  refine wpAny_bind (m := Builtin.Frozenset.addrOf _) (wpAny_of_eq (a := s.heap.objs.size) rfl ?_)
  have So : SX w (s.heap.push (setO #[] 0 (newT w))) b lo M eo epo to := S.keep ((Heap.get?_push_of_some _ S.ob).trans S.ob.symm)
  have Sn : SX w (s.heap.push (setO #[] 0 (newT w))) s.heap.objs.size [] 0 #[] 0 (newT w) := sx_fresh (Heap.get?_push_size _ rfl)
  refine wpAny_bind (sx_merge (s := { s with heap := s.heap.push (setO #[] 0 (newT w)) }) Sn So (Nat.ne_of_gt lt) (by omega) (fun _ _ _ q => wpAny_pure q) fun d h' e' p' t' sb S' => wpAny_pure ?_)
  rw [List.nil_append, Nat.zero_add] at S'
  exact hQ d h' e' p' t' (fun c o e => (sb.2 c (Nat.ne_of_lt (Heap.lt_size e))).trans (Heap.get?_push_of_some _ e)) S'
end
end Fc

namespace Fc
open PySem PySem.Spec L2 PyProof.Rows
section
variable {P : Program} {w : World} {A : Around} {E : Value → Shared → Prop} {s : Shared} {a b d : Addr} {l lo : List Str} {N M : Nat} {es eo : Array (Int × Value)} {ep epo : Nat} {t to : SetTable} {h : Heap}
theorem call_or {id : String} (hne : a ≠ b) (S : SX w s.heap a l N es ep t) (So : SX w s.heap b lo M eo epo to) (hb : (N + M) * 2 < 256) {Q : Value → Shared → Prop}
    (hQ : ∀ d h' es' ep' t', (∀ b o, s.heap.get? b = some o → h'.get? b = some o) → SX w h' s.heap.objs.size (l ++ lo) (N + M) es' ep' t' → Q (.ref s.heap.objs.size) { s with heap := h', drawn := d }) :
    wpAny (model P w) A (call (.builtin "set.__or__") [.ref a, .ref b]) (fun v s' => v ≠ .notImplemented ∧ Q v s') E s := by
  have Ta : s.TypeIs (.ref a) "set" := ⟨_, S.ob, rfl⟩
  have Tb : s.TypeIs (.ref b) "set" := ⟨_, So.ob, rfl⟩
  have lb : b < s.heap.objs.size := Heap.lt_size So.ob
  refine wpAny_call_entry F.slot_set_or Ta entry_set_or ?_ (F.args_set_or_2 _ _)
  unfold Builtin.«frozenset.__or__»
  show wpAny _ _ (Builtin.Frozenset.slot1 "__or__" ⟨[.ref a, .ref b], []⟩ >>= _) _ _ _
  refine wpAny_bind (m := Builtin.Frozenset.slot1 "__or__" ⟨[.ref a, .ref b], []⟩) (wpAny_of_eq (a := (Value.ref a, Value.ref b)) rfl ?_)
  show wpAny _ _ ((Builtin.Frozenset.isAnySet (.ref a) <&&> Builtin.Frozenset.isAnySet (.ref b)) >>= _) _ _ _
  refine wpAny_bind ?_
  unfold andM
  refine wpAny_bind (any_set Ta ?_)
  show wpAny _ _ (Builtin.Frozenset.isAnySet (.ref b)) _ _ _
  refine any_set Tb ?_
  refine wp_if_neg (by decide) ?_
  refine wpAny_bind (m := Builtin.Frozenset.addrOf _) (wpAny_of_eq (a := a) rfl ?_)
  refine wpAny_bind ?_
  show wpAny _ _ (Builtin.Frozenset.copyOf a >>= _) _ _ _
  refine wpAny_bind (sx_copy S (by omega) fun d h' es' ep' t' k S' => ?_)
  have lt : s.heap.objs.size ≠ b := Nat.ne_of_gt lb
  have So' : SX w h' b lo M eo epo to := So.keep ((k b _ So.ob).trans So.ob.symm)
  refine wp_if_pos (by simp [Ne.symm hne]) ?_
  refine wpAny_bind (m := Builtin.Frozenset.addrOf _) (wpAny_of_eq (a := s.heap.objs.size) rfl ?_)
  have Tb' : Shared.TypeIs { s with heap := h', drawn := d } (.ref b) "set" := ⟨_, So'.ob, rfl⟩
  refine wpAny_bind (wpAny_holding ?_)
  unfold Builtin.Frozenset.updateFrom
  refine wpAny_bind (any_set Tb' ?_)
  refine wp_if_pos rfl ?_
  refine wpAny_bind (m := Builtin.Frozenset.addrOf _) (wpAny_of_eq (a := b) rfl ?_)
  unfold Builtin.Frozenset.merge
  refine wpAny_bind (wpAny_setEpoch_of So'.ob rfl So'.fit ?_)
  refine sx_merge (s := { s with heap := h', drawn := d }) S' So' lt hb (fun s₁ Q' T q => ?_) fun d2 h2 e2 p2 t2 sb S2 => ?_
  · unfold Builtin.Frozenset.unchanged
    refine wpAny_bind (wpAny_setEpoch_of T.ob rfl T.fit ?_)
    refine wp_if_neg (by simp) ?_
    exact wpAny_pure q
  · refine wpAny_pure (wpAny_pure ⟨_, rfl, (fun z => nomatch z), hQ d2 h2 e2 p2 t2 (fun c o e => ?_) S2⟩)
    exact (sb.2 c (Nat.ne_of_lt (Heap.lt_size e))).trans (k c o e)
end
end Fc

namespace Fc
open PySem PySem.Spec L2 PyProof.Rows
variable [LamNames]
/-- the set of the texts l at a, at most N of them -/
def SetXO (w : World) (a : Addr) (l : List Str) (N : Nat) : HO := .ext fun h => ∃ es ep t, SX w h a l N es ep t
theorem setXO_new {P : Program} {w : World} {H : Hp} {h : Heap} {a : Addr} {l : List Str} {N : Nat} {es : Array (Int × Value)} {ep : Nat} {t : SetTable} (S : SX w h a l N es ep t) : ObjOk P w H h a (SetXO w a l N) :=
  ⟨⟨es, ep, t, S⟩, ⟨_, S.ob⟩, fun h1 h2 ⟨e, p, t', T⟩ k => ⟨e, p, t', T.keep ((k _ T.ob).trans T.ob.symm)⟩⟩
section
variable {X : Cx}
/-- set(d), d a dict of texts -/
def rSetD (w : World) : List V → Hp → VK → Prop := fun xs H Q => ∃ (d : Addr) (kvs : List (Key × V)) (names : List Str), xs = [.ref d] ∧ Rd H d (.dK kvs) ∧ kvs.map (·.1) = names.map Sum.inr ∧ names.length * 2 < 256 ∧
  ∀ a, H a = none → Q (.ref a) (upd H a (SetXO w a names names.length))
theorem keysS_of {w : World} {P : Program} {de : Array DictEntry} {ws : List (Key × Value)} {names : List Str} (ko : KeysOf (mixKind P w) de) (pr : Pairs (mixKind P w) de.toList ws) (hk : ws.map (·.1) = names.map Sum.inr) : KeysS w de names := by
  have key : ∀ (del : List DictEntry) (ws : List (Key × Value)) (names : List Str), (∀ e ∈ del, ∃ k, (mixKind P w).is k e.key = true ∧ e.hash = (mixKind P w).hash k) → Pairs (mixKind P w) del ws → ws.map (·.1) = names.map Sum.inr →
      del.length = names.length ∧ ∀ (i : Nat) (e : DictEntry), del[i]? = some e → ∃ (k : Str) (tk : Tok), names[i]? = some k ∧ e.key = Value.str k tk ∧ e.hash = hashStr w k := by
    intro del ws names ha pr
    induction pr generalizing names with
    | nil =>
      intro e
      cases names with
      | nil => exact ⟨rfl, fun i e h => by simp at h⟩
      | cons _ _ => cases e
    | @cons e kv del ws h1 h2 _ ih =>
      intro hk
      cases names with
      | nil => cases hk
      | cons n names =>
        obtain ⟨n1, n2⟩ := List.cons.inj hk
        obtain ⟨i1, i2⟩ := ih names (fun e he => ha e (List.mem_cons_of_mem _ he)) n2
        refine ⟨by rw [List.length_cons, List.length_cons, i1], fun i e' h => ?_⟩
        cases i with
        | zero =>
          obtain rfl : e = e' := by simpa using h
          obtain ⟨k, k1, k2⟩ := ha e List.mem_cons_self
          have ek : k = kv.1 := (mixKind P w).inj _ _ _ k1 h1
          have en : kv.1 = Sum.inr n := n1
          rw [ek, en] at k1 k2
          obtain ⟨tk, e1⟩ := Value.isStrOf_shape (x := n) (v := e.key) k1
          exact ⟨n, tk, rfl, e1, k2⟩
        | succ i => exact i2 i e' (by simpa using h)
  have q := key de.toList ws names (fun e he => ko e (by simpa using he)) pr hk
  exact ⟨q.1, fun i e h => q.2 i e (by rw [Array.getElem?_toList]; exact h)⟩
theorem cr_setD : CallR X (.type "set") (rSetD X.w) := by
  intro pins s σ H xs us Q I r h
  obtain ⟨d, kvs, names, rfl, hD, hn, few, fin⟩ := h
  obtain rfl := Vals.ref1 r
  obtain ⟨_, lo, ws, rel, dd⟩ := dk_rd I.hok hD
  obtain ⟨o, de, dep, ho, ex, hd, ko, pr, nd⟩ := dd
  have hk : ws.map (·.1) = names.map Sum.inr := rel.keys.symm.trans hn
  refine call_set_dict ho ex.1 hd lo (keysS_of ko pr hk) few fun h' e' p' t' k S => ?_
  exact ⟨.ref s.heap.objs.size, upd H s.heap.objs.size (SetXO X.w s.heap.objs.size names names.length), I.laid (t' := s.toks) k (Nat.le_refl _) (setXO_new S), rfl, fin _ (I.hok.fresh (Nat.le_refl _))⟩
/-- one set or another -/
def rOrX (w : World) : V → V → Hp → VK → Prop := fun x y H Q => ∃ (a b : Addr) (l lo : List Str) (N M : Nat), x = .ref a ∧ y = .ref b ∧ a ≠ b ∧ H a = some (SetXO w a l N) ∧ H b = some (SetXO w b lo M) ∧ (N + M) * 2 < 256 ∧
  ∀ p, H p = none → Q (.ref p) (upd H p (SetXO w p (l ++ lo) (N + M)))
theorem op_orX : OpR X (binaryOp .BitOr) (rOrX X.w) := by
  intro pins s σ H x y v u Q I rx ry h
  obtain ⟨a, b, l, lo, N, M, rfl, rfl, ne, ha, hb, few, fin⟩ := h
  obtain rfl : v = Value.ref a := rx
  obtain rfl : u = Value.ref b := ry
  obtain ⟨es, ep, t, S⟩ : ∃ es ep t, SX X.w s.heap a l N es ep t := (I.hok a _ ha).1
  obtain ⟨eo, epo, to, So⟩ : ∃ es ep t, SX X.w s.heap b lo M es ep t := (I.hok b _ hb).1
  have hn : H s.heap.objs.size = none := I.hok.fresh (Nat.le_refl _)
  refine wpAny_binaryOp_same (op := .BitOr) (T := "set") ⟨_, S.ob, rfl⟩ ⟨_, So.ob, rfl⟩ F.fills_set_or F.slot_set_or (call_or (id := "") ne S So few fun d h' e' p' t' k S' => ?_)
  have J : Inv X pins σ (upd H s.heap.objs.size (SetXO X.w s.heap.objs.size (l ++ lo) (N + M))) { s with heap := h', gens := s.gens, drawn := d, toks := s.toks } :=
    I.call (ch := []) (Un.laid k (Nat.le_refl _) hn) (I.hok.laid k (Nat.le_refl _) (setXO_new S')) I.bare (fun _ z => nomatch z)
  exact ⟨.ref s.heap.objs.size, _, J, rfl, fin _ hn⟩
/-- sorted of a set of texts -/
def rSortedX (w : World) : List V → Hp → VK → Prop := fun vs H Q => ∃ (a : Addr) (l : List Str) (N : Nat), vs = [.ref a] ∧ H a = some (SetXO w a l N) ∧ N ≤ 4000 ∧
  ∀ (ys : List Str) (p : Addr), (∀ k, k ∈ ys ↔ k ∈ l) → ys.Nodup → ys.length ≤ N → sortedS ys = true → H p = none → Q (.ref p) (upd H p (.lst (ys.map V.str)))
theorem strs_good {w : World} : ∀ (vs : List Value), (∀ v ∈ vs, ∃ k tk, v = Value.str k tk) → StrsAre vs (vs.map fun v => keyS (0, v)) := fun vs h => strs_at (by rw [List.length_map]) fun i u hu => by
  obtain ⟨k, tk, rfl⟩ := h u (List.mem_of_getElem? hu)
  exact ⟨k, tk, by rw [List.getElem?_map, hu]; rfl, rfl⟩
theorem call_sortedX (calm : X.calm = true) : CallR X (.builtin "sorted") (rSortedX X.w) := by
  intro pins s σ H vs us Q I r h
  obtain ⟨a, l, N, rfl, ha, few, fin⟩ := h
  obtain rfl := Vals.ref1 r
  obtain ⟨es, ep, t, S⟩ : ∃ es ep t, SX X.w s.heap a l N es ep t := (I.hok a _ ha).1
  have fw := S.few
  refine Calls.call_function_entry kind_sorted plain_sorted entry_sorted (args_sorted1 _) ?_
  unfold Builtin.«sorted»
  refine wpAny_bind (m := checkCount "sorted" 1 1 _) (wpAny_pure (wpAny_bind ?_))
  refine collect_set (A := X.A.in1) (I.ok.hd calm) ⟨_, S.ob, rfl, rfl⟩ S.fit (by show es.size < 4096; omega) S.ris S.led fun s1 got keep hz g1 o1 pm => ?_
  have lg : got.length = es.size := by rw [pm.length_eq, List.length_map, Array.length_toList]
  have st := strs_good (w := X.w) got fun v hv => by
    obtain ⟨e, he, q⟩ := List.mem_map.mp (pm.mem_iff.mp hv)
    obtain ⟨k, tk, rfl⟩ := S.good e he
    exact ⟨k, tk, q.symm⟩
  have pk : (got.map fun v => keyS (0, v)).Perm (es.toList.map keyS) := by
    have q := pm.map fun v => keyS (0, v)
    rw [List.map_map] at q
    exact q
  refine wpAny_bind (wpAny_newList ?_ (small (by omega)))
  have new : (s1.heap.push (seqObj "list" got.toArray 0)).get? s1.heap.objs.size = some (seqObj "list" got.toArray 0) := Heap.get?_push_size _ rfl
  show wpAny _ _ _ _ _ { s1 with heap := s1.heap.push (seqObj "list" got.toArray 0) }
  refine wpAny_bind (wpAny_holding (wpAny_call_entry slot_list_sort ⟨_, new, rfl⟩ entry_list_sort ?_ (args_list_sort _)))
  refine list_sort_treeKAny strKind_oneLt (s := { s1 with heap := s1.heap.push (seqObj "list" got.toArray 0) }) new st.keysOf (fun a b rest e => keyKind_strs (by rw [← e]; exact st)) (small (by omega)) fun z zp zs => ⟨_, rfl, ?_⟩
  obtain ⟨ys, y1, y2, y3⟩ := sorted_out_str st zp zs
  obtain ⟨ep2, there⟩ := sortedHeap_at (vs := got) (out := (arrOf z).map (·.2)) new
  have yp : ys.Perm (es.toList.map keyS) := y2.trans pk
  have lys : ys.length = es.size := by rw [yp.length_eq, List.length_map, Array.length_toList]
  have ly : (ys.map V.str).length ≤ sizeLine := by rw [List.length_map]; exact small (by omega)
  have old : ∀ b u, s.heap.get? b = some u → (sortedHeap (s1.heap.push (seqObj "list" got.toArray 0)) s1.heap.objs.size got ((arrOf z).map (·.2))).get? b = some u := fun b u e => by
    have e1 := keep b u e
    have lb := Heap.lt_size e1
    rw [sortedHeap_old (Nat.ne_of_lt lb) (by rw [size_push']; exact Nat.lt_succ_of_lt lb)]
    exact Heap.get?_push_of_some _ e1
  have hn : H s1.heap.objs.size = none := I.hok.fresh hz
  have J : Inv X pins σ (upd H s1.heap.objs.size (.lst (ys.map V.str))) { s with heap := sortedHeap (s1.heap.push (seqObj "list" got.toArray 0)) s1.heap.objs.size got ((arrOf z).map (·.2)), gens := s1.gens, drawn := s1.drawn, toks := s1.toks } :=
    I.call (ch := []) (Un.laid old hz hn) (I.hok.laid old hz ⟨ly, ((arrOf z).map (·.2)).toList, ep2, vals_of_strs y1, by rw [Array.toArray_toList]; exact there⟩) (by rw [g1]; exact I.bare) (fun _ z => nomatch z)
  refine wpAny_pure ⟨_, rfl, .ref s1.heap.objs.size, _, ?_, rfl, fin ys _ (fun k => by rw [yp.mem_iff, ← S.mem k]) (yp.nodup_iff.mpr S.nd) (by omega) y3 hn⟩
  cases s1
  cases s
  cases o1
  exact J
end
end Fc

namespace Fc
open PySem PySem.Spec L2 PyProof.Rows
variable [LamNames]
/-! ### sorted(l), l a list of data, all of one shape, however many -/
section
variable {X : Cx}
theorem each_fst {β : Type} : ∀ {ps : List (V × β)} {us : List Value}, Vals (ps.map Prod.fst) us → PySem.W.EachIs (fun u x => RelV x.1 u) us ps
  | [], _, .nil => .nil
  | _ :: _, _, .cons h t => .cons h (each_fst t)
theorem fst_each {β : Type} : ∀ {ps : List (V × β)} {us : List Value}, PySem.W.EachIs (fun u x => RelV x.1 u) us ps → Vals (ps.map Prod.fst) us
  | _, _, .nil => .nil
  | _, _, .cons h t => .cons h (fst_each t)
theorem each_in {α β : Type} {R R' : α → β → Prop} : ∀ {us : List α} {ps : List β}, PySem.W.EachIs R us ps → (∀ u x, x ∈ ps → R u x → R' u x) → PySem.W.EachIs R' us ps
  | _, _, .nil, _ => .nil
  | _, _, .cons h t, k => .cons (k _ _ List.mem_cons_self h) (each_in t fun u x hx => k u x (List.mem_cons_of_mem _ hx))
def rSortD (K : PySem.W.Frag) : List V → Hp → VK → Prop := fun vs H Q => ∃ (β : Type) (enc : β → PyData) (a : Addr) (ps : List (V × β)), vs = [.ref a] ∧ SqL K H a (ps.map Prod.fst) ∧ (∀ x ∈ ps, Dp K H x.1 (enc x.2)) ∧
  PySem.W.AllAlike (ps.map fun x => enc x.2) ∧ PySem.W.Sortable (ps.map fun x => enc x.2) ∧ (∀ x ∈ ps, (enc x.2).depth ≤ 60) ∧
  ∀ p, H p = none → Q (.ref p) (upd H p (.lst ((ps.mergeSort (PySem.W.dataLe false fun x => enc x.2)).map Prod.fst)))
theorem cr_sortedD (hu : X.A.units + 65 < cLine) : CallR X (.builtin "sorted") (rSortD X.K) := by
  intro pins s σ H vs us Q I r h
  obtain ⟨β, enc, a, ps, rfl, hs, dp, al, so, dd, fin⟩ := h
  obtain rfl := Vals.ref1 r
  obtain ⟨its, rv, hl, hz⟩ := I.list hs
  rw [List.length_map] at hz
  refine PySem.W.sorted_data (R := fun u (x : V × β) => RelV x.1 u) (enc := fun x => enc x.2) hl.isList (each_fst rv) (each_in (each_fst rv) fun u x hx ru => Dp.reads I _ _ _ (dp x hx) ru) al so hz (fun x hx => ?_) fun out lo eo => ?_
  · have := dd x hx
    omega
  · have old : ∀ b u, s.heap.get? b = some u → (sortedAll s.heap its (List.toArray out)).get? b = some u := fun b u e => sortedAll_old e
    have new : ∃ c, (sortedAll s.heap its (List.toArray out)).get? (s.heap.objs.size + 1) = some (seqObj "list" (List.toArray out) c) := sortedAll_at _ _ _
    obtain ⟨c, new⟩ := new
    refine ⟨.ref _, upd H (s.heap.objs.size + 1) (.lst ((ps.mergeSort (PySem.W.dataLe false fun x => enc x.2)).map Prod.fst)), I.laid (t' := s.toks) old (Nat.le_succ _) ⟨?_, out, c, fst_each eo, new⟩, rfl, fin _ (I.hok.fresh (Nat.le_succ _))⟩
    rw [List.length_map, List.length_mergeSort]
    exact hz
/-- what comes out rises -/
theorem data_up {β : Type} (enc : β → PyData) (l : List β) : (l.mergeSort (PySem.W.dataLe false enc)).Pairwise (fun a b => PySem.W.dataLe false enc a b = true) := PySem.W.sort_pairwise (PySem.W.sortLe_total _ _ _) l
theorem data_perm {β : Type} (enc : β → PyData) (l : List β) : (l.mergeSort (PySem.W.dataLe false enc)).Perm l := List.mergeSort_perm _ _
/-- two texts in a row: the first ones rise -/
theorem le_ss {β : Type} {x y : β → Str} {a b : β} (h : PySem.W.dataLe false (fun b => .tuple [.str (x b), .str (y b)]) a b = true) : (x a).cps.toList ≤ (x b).cps.toList := by
  rw [PySem.W.dataLe_eq] at h
  have h2 : (!PySem.W.dataLt (.tuple [.str (x b), .str (y b)]) (.tuple [.str (x a), .str (y a)])) = true := h
  rw [PySem.W.dataLt_pair (by simp [PySem.W.alike]) (by simp [PySem.W.alike]), PySem.W.dataLt_str, PySem.W.dataLt_str] at h2
  by_cases c : PyData.eqv (PyData.str (x b)) (PyData.str (x a)) = true
  · have e : x b = x a := by simpa [PyData.eqv] using c
    rw [e]
    exact List.le_refl _
  · rw [if_neg c] at h2
    have n : ¬ (x b).cps.toList < (x a).cps.toList := fun z => by rw [decide_eq_true z] at h2; cases h2
    exact List.not_lt.mp n
end
end Fc

namespace Fc
open PySem PySem.Spec L2 PyProof.Rows
def topS (i : Nat) : Stmt := PySem.Challenge.pw_filecrate_k19_whole_differences.main.body.getD i (.Pass ⟨0, 0, 0, 0⟩)
abbrev sByPath : Stmt := topS 1
abbrev nByPath : List Str := ["tree", "entry"]
theorem scByPath : FnScope nByPath ["tree"] (defScope sByPath) := ⟨rfl, rfl, rfl, by decide +kernel, rfl, by decide +kernel, by decide +kernel⟩
abbrev sDifferences : Stmt := topS 2
abbrev nDifferences : List Str := ["one", "other", "old", "new", "told", "path"]
theorem scDifferences : FnScope nDifferences ["one", "other"] (defScope sDifferences) := ⟨rfl, rfl, rfl, by decide +kernel, rfl, by decide +kernel, by decide +kernel⟩
abbrev sLawD : Stmt := topS 4
abbrev nLawD : List Str := ["_law_cell_here", "_law_place", "_law_many", "_law_number"]
theorem scLawD : FnScope nLawD ["_law_cell_here", "_law_place", "_law_many"] (defScope sLawD) := ⟨rfl, rfl, rfl, by decide +kernel, rfl, by decide +kernel, by decide +kernel⟩
abbrev sLawCell : Stmt := topS 5
abbrev nLawCell : List Str := ["_law_script", "_law_k"]
theorem scLawCell : FnScope nLawCell ["_law_script", "_law_k"] (defScope sLawCell) := ⟨rfl, rfl, rfl, by decide +kernel, rfl, by decide +kernel, by decide +kernel⟩
abbrev sLawSame : Stmt := topS 6
abbrev nLawSame : List Str := ["_law_told", "_law_due_here", "_law_one", "_law_other"]
theorem scLawSame : FnScope nLawSame ["_law_told", "_law_due_here"] (defScope sLawSame) := ⟨rfl, rfl, rfl, by decide +kernel, rfl, by decide +kernel, by decide +kernel⟩
abbrev sLawPath : Stmt := topS 7
abbrev nLawPath : List Str := ["_law_cell_here", "_law_many", "_law_parts", "_law_k"]
theorem scLawPath : FnScope nLawPath ["_law_cell_here"] (defScope sLawPath) := ⟨rfl, rfl, rfl, by decide +kernel, rfl, by decide +kernel, by decide +kernel⟩
abbrev sLawPart : Stmt := topS 8
abbrev nLawPart : List Str := ["_law_cell_here", "_law_signs", "_law_text", "_law_k", "_law_at"]
theorem scLawPart : FnScope nLawPart ["_law_cell_here"] (defScope sLawPart) := ⟨rfl, rfl, rfl, by decide +kernel, rfl, by decide +kernel, by decide +kernel⟩
abbrev sLawGoal : Stmt := topS 9
abbrev nLawGoal : List Str := ["_law_cell_here", "_law_parts"]
theorem scLawGoal : FnScope nLawGoal ["_law_cell_here"] (defScope sLawGoal) := ⟨rfl, rfl, rfl, by decide +kernel, rfl, by decide +kernel, by decide +kernel⟩
abbrev sLawBody : Stmt := topS 10
abbrev nLawBody : List Str := ["_law_cell_here", "_law_k"]
theorem scLawBody : FnScope nLawBody ["_law_cell_here"] (defScope sLawBody) := ⟨rfl, rfl, rfl, by decide +kernel, rfl, by decide +kernel, by decide +kernel⟩
abbrev sLawAbove : Stmt := topS 11
abbrev nLawAbove : List Str := ["_law_path_here", "_law_k"]
theorem scLawAbove : FnScope nLawAbove ["_law_path_here"] (defScope sLawAbove) := ⟨rfl, rfl, rfl, by decide +kernel, rfl, by decide +kernel, by decide +kernel⟩
abbrev sLawEntry : Stmt := topS 12
abbrev nLawEntry : List Str := ["_law_path_here", "_law_cell_here"]
theorem scLawEntry : FnScope nLawEntry ["_law_path_here", "_law_cell_here"] (defScope sLawEntry) := ⟨rfl, rfl, rfl, by decide +kernel, rfl, by decide +kernel, by decide +kernel⟩
abbrev sLawTree : Stmt := topS 13
abbrev nLawTree : List Str := ["_law_cells", "_law_found", "_law_cell_here", "_law_path_here", "_law_over", "_law_bad", "_law_one"]
theorem scLawTree : FnScope nLawTree ["_law_cells"] (defScope sLawTree) := ⟨rfl, rfl, rfl, by decide +kernel, rfl, by decide +kernel, by decide +kernel⟩
abbrev sLawDue : Stmt := topS 14
abbrev nLawDue : List Str := ["_law_one", "_law_other", "_law_rows", "_law_entry_here", "_law_paths", "_law_fit", "_law_more", "_law_path_here", "_law_word"]
theorem scLawDue : FnScope nLawDue ["_law_one", "_law_other"] (defScope sLawDue) := ⟨rfl, rfl, rfl, by decide +kernel, rfl, by decide +kernel, by decide +kernel⟩
abbrev sLawTurned : Stmt := topS 15
abbrev nLawTurned : List Str := ["_law_entry_here", "_law_cell_here"]
theorem scLawTurned : FnScope nLawTurned ["_law_entry_here", "_law_cell_here"] (defScope sLawTurned) := ⟨rfl, rfl, rfl, by decide +kernel, rfl, by decide +kernel, by decide +kernel⟩
abbrev sLaw : Stmt := topS 16
abbrev nLaw : List Str := ["_law_script", "_law_cells", "_law_one", "_law_at", "_law_other", "_law_third", "_law_first", "_law_second", "_law_k", "_law_entry_here"]
theorem scLaw : FnScope nLaw ["_law_script"] (defScope sLaw) := ⟨rfl, rfl, rfl, by decide +kernel, rfl, by decide +kernel, by decide +kernel⟩
structure Env (K : PySem.W.Frag) (mg : Str → Option Value) : Prop where
  b_all : mg "all" = none
  b_bool : mg "bool" = none
  b_enumerate : mg "enumerate" = none
  b_int : mg "int" = none
  b_isinstance : mg "isinstance" = none
  b_len : mg "len" = none
  b_range : mg "range" = none
  b_set : mg "set" = none
  b_sorted : mg "sorted" = none
  b_str : mg "str" = none
  b_tuple : mg "tuple" = none
  b_zip : mg "zip" = none


section
variable [LamNames] {P : Program} {w : World} {mg : Str → Option Value} {K : PySem.W.Frag} {base : Heap}
/-! ### a draw -/
def spD : Sp := fun vs H Q _ => ∃ c p m : Int, vs = [.int c, .int p, .int m] ∧ 0 ≤ p ∧ p < 100000 ∧ 0 < m ∧ ∀ d : Int, 0 ≤ d → d < m → Q (.int d) H
theorem ok_d {f : Addr} {fd : FuncData} (Ev : Env K mg) (F : Fun K "_law_d" "_law_d" sLawD f fd) : FnOk P w K mg base CX0 1 f fd ["_law_cell_here", "_law_place", "_law_many"] spD := by
  refine F.ok scLawD (fun vs H Q E h => ?_) (fun cdv A outer s H vs Q E hr h => ?_)
  · obtain ⟨c, p, m, rfl, _⟩ := h; rfl
  · obtain ⟨c, p, m, rfl, p0, p1, hm, q⟩ := h
    refine ⟨_, (pss_cons (ps_set (i := 3) scLawD.nd rfl (.inl rfl) (pe_op op_mod (pe_op op_add (pv 0) (pe_op op_mul pe_int (pv 1))) pe_int))
      (pss_cons (ps_set (i := 3) scLawD.nd rfl (.inl rfl) (pe_op op_mod (pe_op op_mul (pe_op op_mod (pe_op op_mul (pv 3) (pv 3)) pe_int) pe_int) pe_int))
      (pss_one (ps_ret (pe_op op_mod (pe_op op_fdiv (pv 3) pe_int) (pv 2)))))), ?_⟩
    refine ⟨_, rfl, _, rfl, _, _, rfl, rfl, .inl ⟨by decide, by decide⟩, _, _, rfl, rfl, _, 4294967291, rfl, rfl, (show (0 : Int) < 4294967291 by decide), ?_⟩
    have b := Int.emod_lt_of_pos (c + 104729 * p) (show (0 : Int) < 4294967291 by decide)
    have b' := Int.emod_nonneg (c + 104729 * p) (show (4294967291 : Int) ≠ 0 by decide)
    refine ⟨_, rfl, _, rfl, _, _, rfl, rfl, .inl ⟨by omega, by omega⟩, _, 4294967279, rfl, rfl, (show (0 : Int) < 4294967279 by decide), _, 48271, rfl, rfl, .inr ⟨by decide, by decide⟩, _, 4294967291, rfl, rfl, (show (0 : Int) < 4294967291 by decide), ?_⟩
    refine ⟨_, rfl, _, 64, rfl, rfl, ⟨by decide, by decide⟩, _, rfl, _, _, rfl, rfl, hm, q _ (Int.emod_nonneg _ (Int.ne_of_gt hm)) (Int.emod_lt_of_pos _ hm)⟩

/-! ### a drawn part -/
def spPart (K : PySem.W.Frag) : Sp := fun vs H Q _ => ∃ c : Int, vs = [.int c] ∧ ∀ H' p, Same H H' → partOk p → Q (T p) H'
theorem four_parts {d : Int} (h0 : 0 ≤ d) (h1 : d < 4) : ∃ p, atI [V.str "a", .str "b", .str "c.d", .str "a-b"] d = some (T p) ∧ partOk p := by
  have : d = 0 ∨ d = 1 ∨ d = 2 ∨ d = 3 := by omega
  rcases this with rfl | rfl | rfl | rfl
  · exact ⟨[97], congrArg (fun x => some (V.str x)) (show Str.ofString "a" = mkS [97] by decide +kernel), by decide⟩
  · exact ⟨[98], congrArg (fun x => some (V.str x)) (show Str.ofString "b" = mkS [98] by decide +kernel), by decide⟩
  · exact ⟨[99, 46, 100], congrArg (fun x => some (V.str x)) (show Str.ofString "c.d" = mkS [99, 46, 100] by decide +kernel), by decide⟩
  · exact ⟨[97, 45, 98], congrArg (fun x => some (V.str x)) (show Str.ofString "a-b" = mkS [97, 45, 98] by decide +kernel), by decide⟩
theorem ok_part {f : Addr} {fd : FuncData} (Ev : Env K mg) (CLawD : Cal P w K mg base "_law_d" 1 ["_law_cell_here", "_law_place", "_law_many"] spD) (F : Fun K "_law_part" "_law_part" sLawPart f fd) : FnOk P w K mg base CX0 2 f fd ["_law_cell_here"] (spPart K) := by
  refine F.ok scLawPart (fun vs H Q E h => ?_) (fun cdv A outer s H vs Q E hr h => ?_)
  · obtain ⟨c, rfl, _⟩ := h; rfl
  · obtain ⟨c, rfl, q⟩ := h
    refine ⟨_, (pss_cons (ps_if (pt_cmpR op_gt (pe_c CLawD (hr.mono (by omega)) (pa_cons (pv 0) (pa_cons pe_int (pa_cons pe_int pa_nil)))) pe_int (nomark _))
        (pss_one (ps_ret (pe_ix ix_list (pe_lst (pa_cons pe_str (pa_cons pe_str (pa_cons pe_str (pa_cons pe_str pa_nil))))) (pe_c CLawD (hr.mono (by omega)) (pa_cons (pv 0) (pa_cons pe_int (pa_cons pe_int pa_nil)))) (fun _ _ => rfl))))
        pss_nil)
      (pss_cons (ps_set (i := 1) scLawPart.nd rfl (.inl rfl) pe_str)
      (pss_cons (ps_set (i := 2) scLawPart.nd rfl (.inl rfl) pe_str)
      (pss_cons (ps_for PassesOwn.never rfl (pi_range1 (by rfl) Ev.b_range (pa_cons (pe_op op_add pe_int (pe_c CLawD (hr.mono (by omega)) (pa_cons (pv 0) (pa_cons pe_int (pa_cons pe_int pa_nil))))) pa_nil)) (pg_name (i := 3) scLawPart.nd rfl (.inl rfl))
        (pss_cons (ps_set (i := 4) scLawPart.nd rfl (.inl rfl) (pe_op op_add (pe_op op_fdiv (pv 0) pe_int) (pe_op op_mul (pv 3) (pe_op op_add (pe_c CLawD (hr.mono (by omega)) (pa_cons (pv 0) (pa_cons pe_int (pa_cons pe_int pa_nil)))) pe_int))))
        (pss_one (ps_set (i := 2) scLawPart.nd rfl (.inl rfl) (pe_op op_add_str (pv 2) (pe_ix ix_str (pv 1) (pe_op op_mod (pv 4) pe_int) (fun _ _ => rfl)))))))
      (pss_cons (ps_if (pt_cmpR op_in_seq (pv 2) (pe_tupU (pa_cons pe_str (pa_cons pe_str pa_nil))) (by rfl))
        (pss_one (ps_ret pe_str))
        pss_nil)
      (pss_one (ps_ret (pv 2)))))))), ?_⟩
    refine ⟨_, rfl, c, 1, 3, rfl, by decide, by decide, by decide, fun d d0 d1 => ⟨_, _, rfl, rfl, _, rfl, ite2 (fun _ => ?_) (fun _ => ?_)⟩⟩
    · refine ⟨(show 4 ≤ sizeLine by rw [sizeLine_eq]; decide), fun pl nl => ?_⟩
      refine ⟨_, rfl, c, 3, 4, rfl, by decide, by decide, by decide, fun d2 e0 e1 => ?_⟩
      obtain ⟨p, ap, hp⟩ := four_parts e0 e1
      exact ⟨pl, _, _, _, rfl, rfl, SqL.of upd_same, ap, q _ _ (grow nl) hp⟩
    · refine ⟨_, rfl, c, 3, 12, rfl, by decide, by decide, by decide, fun d2 e0 e1 => ⟨_, _, rfl, rfl, _, rfl, by omega, by omega, for_range (lo := 0) (fun i σ H' => ∃ (t : List Nat) (y3 y4 : Option V), σ = [some (.int c), some (T good), some (T t), y3, y4] ∧ H' = H ∧ t.length = i ∧ ∀ x ∈ t, x ∈ good) ⟨[], none, none, ?_, rfl, rfl, (fun x hx => by cases hx)⟩ (fun i σ H' hi p => ?_) (fun σ H' p => ?_)⟩⟩
      · rw [← t_none]
        show [_, some (V.str (Str.ofString "abcdefghijklmnopqrstuvwxyz0123456789.-_")), _, _, _] = _
        rw [t_good]
        rfl
      · obtain ⟨t, y3, y4, rfl, rfl, lt, gt⟩ := p
        refine ⟨_, rfl, _, 36, rfl, rfl, ⟨by decide, by decide⟩, _, rfl, _, rfl, c, 1404, 38, rfl, by decide, by decide, by decide, fun d3 f0 f1 => ⟨_, _, rfl, rfl, _, _, rfl, rfl, .inl ⟨by omega, by omega⟩, _, _, rfl, rfl, ?_⟩⟩
        obtain ⟨a0, ea⟩ : ∃ a0 : Int, a0 = c / 36 + (0 + (i : Int)) * (d3 + 1) := ⟨_, rfl⟩
        have m0 := Int.emod_nonneg a0 (show (39 : Int) ≠ 0 by decide)
        have m1 := Int.emod_lt_of_pos a0 (show (0 : Int) < 39 by decide)
        have lk : (a0 % 39).toNat < good.length := by
          show _ < 39
          omega
        have gk : good[(a0 % 39).toNat]? = some good[(a0 % 39).toNat] := List.getElem?_eq_getElem lk
        have ek : a0 % 39 = (((a0 % 39).toNat : Nat) : Int) := by omega
        have at39 : atI good (a0 % 39) = some good[(a0 % 39).toNat] := at_ofA ek gk
        refine ⟨_, rfl, _, rfl, _, rfl, _, 39, rfl, rfl, (show (0 : Int) < 39 by decide), mkS good, _, _, rfl, rfl, (by rw [len_mkS, sizeLine_eq]; decide), (by rw [← ea]; exact at39), ?_⟩
        refine ⟨mkS t, mkS [good[(a0 % 39).toNat]], rfl, rfl, ?_, ?_⟩
        · rw [len_mkS, len_mkS, sizeLine_eq]
          simp only [List.length_cons, List.length_nil]
          omega
        · refine ⟨t ++ [good[(a0 % 39).toNat]], some (.int (0 + (i : Int))), some (.int (c / 36 + (0 + (i : Int)) * (d3 + 1))), ?_, rfl, ?_, ?_⟩
          · rw [mkS_app]
            rfl
          · rw [List.length_append, lt]
            rfl
          · intro x hx
            rcases List.mem_append.mp hx with hx | hx
            · exact gt x hx
            · rw [List.mem_singleton.mp hx]
              exact List.getElem_mem lk
      · obtain ⟨t, y3, y4, rfl, rfl, lt, gt⟩ := p
        refine ⟨_, rfl, (show 2 ≤ sizeLine by rw [sizeLine_eq]; decide), fun H3 t3 s3 h3 => ?_⟩
        refine ⟨t3, _, rfl, .inr h3, rfl, rfl, _, rfl, ite2 (fun z => ?_) (fun z => ?_)⟩
        · have : (V.str (Str.ofString "x")) = T [120] := by rw [show Str.ofString "x" = mkS [120] by decide +kernel]; rfl
          have k := q _ _ s3 (show partOk [120] by decide)
          rw [← this] at k
          exact k
        · refine ⟨_, rfl, q _ _ s3 ⟨by omega, by omega, fun e => ?_, fun e => ?_, gt⟩⟩
          · refine z ?_
            show inV (T t) [V.str (Str.ofString "."), V.str (Str.ofString "..")] = true
            rw [t_dot, t_dots, e]
            decide
          · refine z ?_
            show inV (T t) [V.str (Str.ofString "."), V.str (Str.ofString "..")] = true
            rw [t_dot, t_dots, e]
            decide

/-! ### a drawn path -/
def spPath (K : PySem.W.Frag) : Sp := fun vs H Q _ => ∃ c : Int, vs = [.int c] ∧ ∀ H' ps, Same H H' → PathOk ps → Q (T (pathOf ps)) H'
theorem six_many {d : Int} (h0 : 0 ≤ d) (h1 : d < 6) : ∃ n : Nat, atI [V.int 1, .int 2, .int 2, .int 3, .int 3, .int 8] d = some (.int (n : Int)) ∧ 1 ≤ n ∧ n ≤ 8 := by
  have : d = 0 ∨ d = 1 ∨ d = 2 ∨ d = 3 ∨ d = 4 ∨ d = 5 := by omega
  rcases this with rfl | rfl | rfl | rfl | rfl | rfl
  · exact ⟨1, rfl, by decide, by decide⟩
  · exact ⟨2, rfl, by decide, by decide⟩
  · exact ⟨2, rfl, by decide, by decide⟩
  · exact ⟨3, rfl, by decide, by decide⟩
  · exact ⟨3, rfl, by decide, by decide⟩
  · exact ⟨8, rfl, by decide, by decide⟩
theorem four_partsB {d : Int} (h0 : 0 ≤ d) (h1 : d < 4) : ∃ p, atI [V.str "a", .str "b", .str "a-b", .str "c.d"] d = some (T p) ∧ partOk p := by
  have : d = 0 ∨ d = 1 ∨ d = 2 ∨ d = 3 := by omega
  rcases this with rfl | rfl | rfl | rfl
  · exact ⟨[97], congrArg (fun x => some (V.str x)) (show Str.ofString "a" = mkS [97] by decide +kernel), by decide⟩
  · exact ⟨[98], congrArg (fun x => some (V.str x)) (show Str.ofString "b" = mkS [98] by decide +kernel), by decide⟩
  · exact ⟨[97, 45, 98], congrArg (fun x => some (V.str x)) (show Str.ofString "a-b" = mkS [97, 45, 98] by decide +kernel), by decide⟩
  · exact ⟨[99, 46, 100], congrArg (fun x => some (V.str x)) (show Str.ofString "c.d" = mkS [99, 46, 100] by decide +kernel), by decide⟩
theorem ok_path {f : Addr} {fd : FuncData} (Ev : Env K mg) (CLawD : Cal P w K mg base "_law_d" 1 ["_law_cell_here", "_law_place", "_law_many"] spD) (CLawPart : Cal P w K mg base "_law_part" 2 ["_law_cell_here"] (spPart K)) (F : Fun K "_law_path" "_law_path" sLawPath f fd) : FnOk P w K mg base CX0 3 f fd ["_law_cell_here"] (spPath K) := by
  refine F.ok scLawPath (fun vs H Q E h => ?_) (fun cdv A outer s H vs Q E hr h => ?_)
  · obtain ⟨c, rfl, _⟩ := h; rfl
  · obtain ⟨c, rfl, q⟩ := h
    refine ⟨_, (pss_cons (ps_set (i := 1) scLawPath.nd rfl (.inl rfl) (pe_ix ix_list (pe_lst (pa_cons pe_int (pa_cons pe_int (pa_cons pe_int (pa_cons pe_int (pa_cons pe_int (pa_cons pe_int pa_nil))))))) (pe_c CLawD (hr.mono (by omega)) (pa_cons (pv 0) (pa_cons pe_int (pa_cons pe_int pa_nil)))) (fun _ _ => rfl)))
      (pss_cons (ps_set (i := 0) scLawPath.nd rfl (.inr rfl) (pe_op op_fdiv (pv 0) pe_int))
      (pss_cons (ps_if (pt_cmpR op_eq (pe_c CLawD (hr.mono (by omega)) (pa_cons (pv 0) (pa_cons pe_int (pa_cons pe_int pa_nil)))) pe_int (nomark _))
        (pss_one (ps_ret (pe_join pe_str (pe_lc (own := [("_law_k", 3)]) (g := gName 3) (tt := tYes) (by rfl) scLawPath.nd (pi_range1 (by rfl) Ev.b_range (pa_cons (pv 1) pa_nil)) (blkOk_by (own := [("_law_k", 3)]) (N := nLawPath) (sc := defScope sLawPath) (by decide +kernel)) (fun _ _ _ _ _ => (pg_name (i := 3) scLawPath.nd rfl (.inl rfl))) (fun _ _ _ _ _ => pts_nil) (fun _ _ _ _ _ => (pe_c CLawPart (hr.mono (by omega)) (pa_cons (pe_op op_add (pe_op op_fdiv (pv 0) pe_int) (pe_op op_mul (pe_op op_mul pe_int (pv 3)) (pv 3))) pa_nil)))))))
        pss_nil)
      (pss_cons (ps_set (i := 0) scLawPath.nd rfl (.inr rfl) (pe_op op_fdiv (pv 0) pe_int))
      (pss_cons (ps_set (i := 2) scLawPath.nd rfl (.inl rfl) (pe_lst pa_nil))
      (pss_cons (ps_for PassesOwn.never rfl (pi_range1 (by rfl) Ev.b_range (pa_cons (pv 1) pa_nil)) (pg_name (i := 3) scLawPath.nd rfl (.inl rfl))
        (pss_cons (ps_expr (pe_bm PySem.F.plainAttrs_list PySem.F.slot_list_append PySem.F.type_list_append mt_append (pv 2) (pa_cons (pe_ix ix_list (pe_lst (pa_cons pe_str (pa_cons pe_str (pa_cons pe_str (pa_cons pe_str pa_nil))))) (pe_c CLawD (hr.mono (by omega)) (pa_cons (pv 0) (pa_cons pe_int (pa_cons pe_int pa_nil)))) (fun _ _ => rfl)) pa_nil)))
        (pss_one (ps_set (i := 0) scLawPath.nd rfl (.inr rfl) (pe_op op_fdiv (pv 0) pe_int)))))
      (pss_one (ps_ret (pe_join pe_str (pv 2)))))))))), ?_⟩
    have l1 : (Str.ofString "/").length = 1 := by decide +kernel
    refine ⟨(show 6 ≤ sizeLine by rw [sizeLine_eq]; decide), fun p1 n1 => ⟨_, rfl, c, 1, 6, rfl, by decide, by decide, by decide, fun d d0 d1 => ?_⟩⟩
    obtain ⟨n, an, nl, nu⟩ := six_many d0 d1
    have s1 : Same H (upd H p1 (.lst [V.int 1, .int 2, .int 2, .int 3, .int 3, .int 8])) := grow n1
    refine ⟨p1, _, _, _, rfl, rfl, SqL.of upd_same, an, ?_⟩
    generalize upd H p1 (.lst [V.int 1, .int 2, .int 2, .int 3, .int 3, .int 8]) = H1 at s1
    refine ⟨_, rfl, _, 6, rfl, rfl, ⟨by decide, by decide⟩, ?_⟩
    refine ⟨_, rfl, _, 1, 5, rfl, by decide, by decide, by decide, fun d2 e0 e1 => ⟨rfl, _, rfl, ite2 (fun _ => ?_) (fun _ => ?_)⟩⟩
    · refine ⟨⟨_, rfl⟩, _, rfl, _, rfl, by omega, by omega, fun D nD => ?_⟩
      have en : ((n : Int) : Int).toNat = n := by omega
      rw [en]
      refine lc_rngP (G := PartV) nD (by rw [sizeLine_eq]; omega) (fun _ => rfl) (fun k H2 R hk sm r => ?_) (fun ys H3 ly gy sm h3 => ?_)
      · refine ⟨_, rfl, _, 5, rfl, rfl, ⟨by decide, by decide⟩, _, rfl, _, _, rfl, rfl, .inl ⟨by decide, by omega⟩, _, rfl, _, _, rfl, rfl, .inl ⟨by omega, by omega⟩, _, _, rfl, rfl, _, rfl, fun H4 p s4 hp => r _ _ s4 ⟨p, rfl, hp⟩⟩
      · obtain ⟨ps, rfl, hps⟩ := partsV gy
        rw [List.length_map] at ly
        have sz := sum_sizes (m := 12) ps fun p hp => (hps p hp).2.1
        refine ⟨Str.ofString "/", D, ps.map mkS, rfl, rfl, .inl (by rw [mapT]; exact SqL.of h3), by rw [l1, List.length_map]; omega, ?_⟩
        rw [s_slash, join_mkS]
        exact q _ _ (s1.trans sm) ⟨fun e => by rw [e] at ly; simp at ly; omega, by omega, hps⟩
    · refine ⟨_, rfl, _, 5, rfl, rfl, ⟨by decide, by decide⟩, Nat.zero_le _, fun p2 n2 => ?_⟩
      refine ⟨_, rfl, _, rfl, by omega, by omega, for_range (lo := 0) (fun i σ H' => ∃ (ps : List (List Nat)) (c2 : Int) (y3 : Option V), σ = [some (.int c2), some (.int (n : Int)), some (.ref p2), y3] ∧ Same H1 H' ∧ H1 p2 = none ∧ H' p2 = some (.lst (ps.map T)) ∧ ps.length = i ∧ ∀ p ∈ ps, partOk p) ⟨[], _, none, rfl, grow n2, n2, upd_same, rfl, (fun x hx => by cases hx)⟩ (fun i σ H' hi p => ?_) (fun σ H' p => ?_)⟩
      · obtain ⟨ps, c2, y3, rfl, sm, n2', h2, lp, hps⟩ := p
        refine ⟨_, rfl, .inl ⟨rfl, _, SqL.of h2⟩, (show 4 ≤ sizeLine by rw [sizeLine_eq]; decide), fun p3 n3 => ⟨_, rfl, _, 1, 4, rfl, by decide, by decide, by decide, fun d3 f0 f1 => ?_⟩⟩
        obtain ⟨pt, ap, hp⟩ := four_partsB f0 f1
        have s3 := grow (o := .lst [V.str "a", .str "b", .str "a-b", .str "c.d"]) n3
        refine ⟨p3, _, _, _, rfl, rfl, SqL.of upd_same, ap, p2, _, _, rfl, rfl, s3 _ _ h2, ?_, ?_⟩
        · rw [List.length_map, lp, sizeLine_eq]
          have : ((n : Int) - 0).toNat = n := by omega
          omega
        refine ⟨_, rfl, _, 4, rfl, rfl, ⟨by decide, by decide⟩, ps ++ [pt], _, _, rfl, keep_lst (sm.trans s3) n2' (.lst (s3 _ _ h2)), n2', ?_, ?_, ?_⟩
        · rw [upd_same, List.map_append]
          rfl
        · rw [List.length_append, lp]
          rfl
        · intro p hp2
          rcases List.mem_append.mp hp2 with hp2 | hp2
          · exact hps p hp2
          · rw [List.mem_singleton.mp hp2]
            exact hp
      · obtain ⟨ps, c2, y3, rfl, sm, n2', h2, lp, hps⟩ := p
        have sz := sum_sizes (m := 12) ps fun p hp => (hps p hp).2.1
        have ln : ps.length = n := by omega
        refine ⟨⟨_, rfl⟩, _, rfl, Str.ofString "/", p2, ps.map mkS, rfl, rfl, .inl (by rw [mapT]; exact SqL.of h2), by rw [l1, List.length_map]; omega, ?_⟩
        rw [s_slash, join_mkS]
        exact q _ _ (s1.trans sm) ⟨fun e => by rw [e] at ln; simp at ln; omega, by omega, hps⟩

/-! ### a drawn goal, body, the folders above, an entry -/
def spGoal (K : PySem.W.Frag) : Sp := fun vs H Q _ => ∃ c : Int, vs = [.int c] ∧ ∀ H' g, Same H H' → GoalT g → g.length ≤ 104 → Q (T g) H'
theorem ok_goal {f : Addr} {fd : FuncData} (Ev : Env K mg) (CLawD : Cal P w K mg base "_law_d" 1 ["_law_cell_here", "_law_place", "_law_many"] spD) (CLawPath : Cal P w K mg base "_law_path" 3 ["_law_cell_here"] (spPath K)) (F : Fun K "_law_goal" "_law_goal" sLawGoal f fd) : FnOk P w K mg base CX0 4 f fd ["_law_cell_here"] (spGoal K) := by
  refine F.ok scLawGoal (fun vs H Q E h => ?_) (fun cdv A outer s H vs Q E hr h => ?_)
  · obtain ⟨c, rfl, _⟩ := h; rfl
  · obtain ⟨c, rfl, q⟩ := h
    refine ⟨_, (pss_cons (ps_if (pt_cmpR op_eq (pe_c CLawD (hr.mono (by omega)) (pa_cons (pv 0) (pa_cons pe_int (pa_cons pe_int pa_nil)))) pe_int (nomark _))
        (pss_one (ps_ret pe_str))
        pss_nil)
      (pss_cons (ps_set (i := 1) scLawGoal.nd rfl (.inl rfl) (pe_op op_cat (pe_op op_rep (pe_lst (pa_cons pe_str pa_nil)) (pe_c CLawD (hr.mono (by omega)) (pa_cons (pv 0) (pa_cons pe_int (pa_cons pe_int pa_nil))))) (pe_split (pe_c CLawPath (hr.mono (by omega)) (pa_cons (pe_op op_fdiv (pv 0) pe_int) pa_nil)) pe_str)))
      (pss_one (ps_ret (pe_join pe_str (pe_slice sl_list (pv 1) po_none (po_some pe_int))))))), ?_⟩
    have l1 : (Str.ofString "/").length = 1 := by decide +kernel
    refine ⟨_, rfl, c, 1, 11, rfl, by decide, by decide, by decide, fun d d0 d1 => ⟨rfl, _, rfl, ite2 (fun _ => ?_) (fun _ => ?_)⟩⟩
    · have := q H dots (Same.refl _) ⟨by decide, by decide⟩ (by decide)
      unfold dots at this
      rw [← t_dots] at this
      exact this
    · refine ⟨(show 1 ≤ sizeLine by rw [sizeLine_eq]; decide), fun p1 n1 => ?_⟩
      refine ⟨_, rfl, c, 1, 4, rfl, by decide, by decide, by decide, fun d2 e0 e1 => ⟨p1, d2, _, rfl, rfl, upd_same, by omega, by omega, ?_, fun p2 n2 => ?_⟩⟩
      · rw [sizeLine_eq]
        simp only [List.length_cons, List.length_nil]
        omega
      obtain ⟨n, rfl⟩ : ∃ n : Nat, d2 = (n : Int) := ⟨d2.toNat, by omega⟩
      rw [show (List.replicate ((n : Int) : Int).toNat [V.str (Str.ofString "..")]).flatten = (List.replicate n dots).map T by rw [Int.toNat_natCast, List.map_replicate, t_dots]; exact List.flatten_replicate_singleton]
      refine ⟨_, rfl, _, 4, rfl, rfl, ⟨by decide, by decide⟩, _, rfl, fun H3 ps s3 hp => ?_⟩
      have lp := pathOf_len hp
      have l8 := hp.2.1
      refine ⟨⟨_, rfl⟩, mkS (pathOf ps), Str.ofString "/", rfl, rfl, (by decide +kernel), (by rw [len_mkS, sizeLine_eq]; omega), fun p4 n4 => ?_⟩
      rw [s_slash, split_mkS 47 (by decide) (pathOf ps), mapT, split_path hp]
      refine ⟨p2, p4, _, _, rfl, rfl, grow n4 _ _ (s3 _ _ upd_same), upd_same, by rw [List.length_map, List.length_map, List.length_replicate, sizeLine_eq]; omega, fun p5 n5 => ?_⟩
      rw [← List.map_append]
      have sz : ∀ p ∈ (List.replicate n dots ++ ps).take 8, p = dots ∨ partOk p := fun p hq => by
        rcases List.mem_append.mp ((List.take_sublist _ _).mem hq) with h | h
        · exact .inl (List.eq_of_mem_replicate h)
        · exact .inr (hp.2.2 p h)
      have szn : ∀ p ∈ (List.replicate n dots ++ ps).take 8, p.length ≤ 12 := fun p hq => by
        rcases sz p hq with h | h
        · rw [h]; decide
        · exact h.2.1
      have sm : Same H _ := (grow n1).trans ((grow n2).trans (s3.trans ((grow (o := .lst (ps.map T)) n4).trans (grow (o := .lst ((List.replicate n dots ++ ps).map T)) n5))))
      refine ⟨⟨_, rfl⟩, _, rfl, 8, rfl, p5, _, rfl, SqL.of upd_same, fun p6 n6 => ?_⟩
      rw [show cutV ((List.replicate n dots ++ ps).map T) none (some 8) = ((List.replicate n dots ++ ps).take 8).map T from (cutV_to _ 8).trans List.map_take.symm]
      have ne : (List.replicate n dots ++ ps).take 8 ≠ [] := fun e => hp.1 (by
        have := congrArg List.length e
        rw [List.length_take, List.length_append, List.length_replicate, List.length_nil] at this
        exact List.eq_nil_of_length_eq_zero (by omega))
      have lw : ((List.replicate n dots ++ ps).take 8).length ≤ 8 := by rw [List.length_take]; omega
      generalize (List.replicate n dots ++ ps).take 8 = ws at sz szn ne lw
      have szs := sum_sizes (m := 12) ws szn
      refine ⟨Str.ofString "/", p6, ws.map mkS, rfl, rfl, .inl (by rw [mapT]; exact SqL.of upd_same), by rw [l1, List.length_map]; omega, ?_⟩
      rw [s_slash, join_mkS]
      have e47 : splitC 47 (joinC 47 ws) = ws := split_joinC 47 ne fun p hq => by
        rcases sz p hq with h | h
        · rw [h]; decide
        · exact no_stroke h
      refine q _ _ (sm.trans (grow n6)) ⟨by rw [e47]; exact lw, by rw [e47]; exact sz⟩ ?_
      have := joinC_len 47 ws 12 szn
      omega
def BytV (v : V) : Prop := ∃ b : Int, v = .int b ∧ 0 ≤ b ∧ b < 256
theorem bytsV : ∀ {vs : List V}, (∀ v ∈ vs, BytV v) → ∃ B : List Int, vs = B.map V.int ∧ Byt B
  | [], _ => ⟨[], rfl, fun p h => by cases h⟩
  | v :: r, h => by
    obtain ⟨b, rfl, hb⟩ := h v (by simp)
    obtain ⟨B, rfl, hB⟩ := bytsV fun u hu => h u (List.mem_cons_of_mem _ hu)
    refine ⟨b :: B, rfl, fun x hx => ?_⟩
    rcases List.mem_cons.mp hx with rfl | hx
    · exact hb
    · exact hB x hx
def spBody (K : PySem.W.Frag) : Sp := fun vs H Q _ => ∃ c : Int, vs = [.int c] ∧ ∀ B : List Int, Byt B → B.length ≤ 6 → Tups K H (B.map V.int) Q
theorem ok_body {f : Addr} {fd : FuncData} (Ev : Env K mg) (CLawD : Cal P w K mg base "_law_d" 1 ["_law_cell_here", "_law_place", "_law_many"] spD) (F : Fun K "_law_body" "_law_body" sLawBody f fd) : FnOk P w K mg base CX0 2 f fd ["_law_cell_here"] (spBody K) := by
  refine F.ok scLawBody (fun vs H Q E h => ?_) (fun cdv A outer s H vs Q E hr h => ?_)
  · obtain ⟨c, rfl, _⟩ := h; rfl
  · obtain ⟨c, rfl, q⟩ := h
    refine ⟨_, (pss_one (ps_ret (pe_callTy call_tupleU (by rfl) Ev.b_tuple (by decide +kernel) (pa_cons (pe_lc (own := [("_law_k", 1)]) (g := gName 1) (tt := tYes) (by rfl) scLawBody.nd (pi_range1 (by rfl) Ev.b_range (pa_cons (pe_c CLawD (hr.mono (by omega)) (pa_cons (pv 0) (pa_cons pe_int (pa_cons pe_int pa_nil)))) pa_nil)) (blkOk_by (own := [("_law_k", 1)]) (N := nLawBody) (sc := defScope sLawBody) (by decide +kernel)) (fun _ _ _ _ _ => (pg_name (i := 1) scLawBody.nd rfl (.inl rfl))) (fun _ _ _ _ _ => pts_nil) (fun _ _ _ _ _ => (pe_op op_mod (pe_op op_add (pe_op op_fdiv (pv 0) pe_int) (pe_op op_mul (pv 1) (pe_c CLawD (hr.mono (by omega)) (pa_cons (pv 0) (pa_cons pe_int (pa_cons pe_int pa_nil)))))) pe_int))) pa_nil)))), ?_⟩
    refine ⟨_, rfl, c, 1, 7, rfl, by decide, by decide, by decide, fun d d0 d1 => ⟨_, rfl, by omega, by omega, fun D nD => ?_⟩⟩
    refine lc_rngP (G := BytV) nD (by rw [sizeLine_eq]; omega) (fun _ => rfl) (fun k H2 R hk sm r => ?_) (fun ys H3 ly gy sm h3 => ?_)
    · refine ⟨_, rfl, _, 7, rfl, rfl, ⟨by decide, by decide⟩, _, rfl, _, rfl, c, 1792, 3, rfl, by decide, by decide, by decide, fun d2 e0 e1 => ⟨_, _, rfl, rfl, .inl ⟨by omega, by omega⟩, _, _, rfl, rfl, _, 256, rfl, rfl, (show (0 : Int) < 256 by decide), r _ _ (Same.refl _) ⟨_, rfl, Int.emod_nonneg _ (by decide), Int.emod_lt_of_pos _ (by decide)⟩⟩⟩
    · obtain ⟨B, rfl, hB⟩ := bytsV gy
      rw [List.length_map] at ly
      exact ⟨D, _, rfl, SqL.of h3, fun H4 t4 s4 h4 => q B hB (by omega) _ _ (sm.trans s4) h4⟩
def spAboveL (K : PySem.W.Frag) : Sp := fun vs H Q _ => ∃ ps, vs = [T (pathOf ps)] ∧ PathOk ps ∧ ∀ H' p, Same H H' → H p = none → H' p = some (.lst ((aboveF ps).map T)) → Q (.ref p) H'
theorem aboveF_len (ps : List (List Nat)) : (aboveF ps).length = ps.length - 1 := by
  unfold aboveF
  rw [List.length_map, List.length_range]
theorem ok_above {f : Addr} {fd : FuncData} (Ev : Env K mg) (F : Fun K "_law_above" "_law_above" sLawAbove f fd) : FnOk P w K mg base CX0 1 f fd ["_law_path_here"] (spAboveL K) := by
  refine F.ok scLawAbove (fun vs H Q E h => ?_) (fun cdv A outer s H vs Q E hr h => ?_)
  · obtain ⟨ps, rfl, _⟩ := h; rfl
  · obtain ⟨ps, rfl, pk, q⟩ := h
    refine ⟨_, (pss_one (ps_ret (pe_lc (own := [("_law_k", 1)]) (g := gName 1) (tt := tYes) (by rfl) scLawAbove.nd (pi_range2 (by rfl) Ev.b_range (pa_cons pe_int (pa_cons (pe_callB call_len_seq (by rfl) Ev.b_len PySem.boot_len (pa_cons (pe_split (pv 0) pe_str) pa_nil)) pa_nil))) (blkOk_by (own := [("_law_k", 1)]) (N := nLawAbove) (sc := defScope sLawAbove) (by decide +kernel)) (fun _ _ _ _ _ => (pg_name (i := 1) scLawAbove.nd rfl (.inl rfl))) (fun _ _ _ _ _ => pts_nil) (fun _ _ _ _ _ => by exact (pe_joinq (K := K) rfl pe_str (pe_slice (sl_listq (K := K) rfl) (pe_split (pv 0) pe_str) po_none (po_some (pv 1)))))))), ?_⟩
    have l1 : (Str.ofString "/").length = 1 := by decide +kernel
    have pl := pathOf_len pk
    have l8 := pk.2.1
    have lp0 : 0 < ps.length := List.length_pos_iff.mpr pk.1
    have szp : (mkS (pathOf ps)).length + 2 ≤ sizeLine := by rw [len_mkS, sizeLine_eq]; omega
    refine ⟨_, rfl, ⟨_, rfl⟩, mkS (pathOf ps), Str.ofString "/", rfl, rfl, (by decide +kernel), szp, fun pp npp => ?_⟩
    rw [s_slash, split_mkS 47 (by decide) (pathOf ps), mapT, split_path pk]
    refine ⟨pp, _, rfl, .inl (SqL.of upd_same), 1, _, rfl, ⟨by decide, by decide, by omega, by rw [List.length_map]; omega⟩, fun D nD => ?_⟩
    have en : (((ps.map T).length : Int) - 1).toNat = ps.length - 1 := by rw [List.length_map]; omega
    rw [en]
    refine lc_rng (ys := (aboveF ps).map T) nD (by rw [List.length_map, aboveF_len]) (by rw [sizeLine_eq]; omega) (fun _ => rfl) (fun k y H2 R hk hy sm r => ?_) (fun Ha sma ha => q _ _ ((grow npp).trans sma) ((grow npp).free nD) ha)
    have ek : (1 : Int) + (k : Int) = ((k + 1 : Nat) : Int) := by omega
    have ey : y = T (pathOf (ps.take (k + 1))) := by
      unfold aboveF at hy
      rw [List.map_map, List.getElem?_map, List.getElem?_range hk] at hy
      exact (Option.some.inj hy).symm
    subst ey
    refine ⟨⟨_, rfl⟩, _, rfl, ⟨_, rfl⟩, mkS (pathOf ps), mkS [47], rfl, rfl, (by decide +kernel), szp, fun p2 n2 => ?_⟩
    rw [split_mkS 47 (by decide) (pathOf ps), mapT, split_path pk]
    refine ⟨_, rfl, ((k + 1 : Nat) : Int), congrArg V.int ek, p2, _, rfl, SqL.of upd_same, fun p3 n3 => ?_⟩
    rw [cutV_to, ← List.map_take]
    have szk := sum_sizes (m := 12) (ps.take (k + 1)) fun p hp => (pk.2.2 p ((List.take_sublist _ _).mem hp)).2.1
    have lk : (ps.take (k + 1)).length ≤ 8 := by rw [List.length_take]; omega
    refine ⟨mkS [47], p3, (ps.take (k + 1)).map mkS, rfl, rfl, .inl (by rw [mapT]; exact SqL.of upd_same), by rw [len_mkS, List.length_map]; simp only [List.length_cons, List.length_nil]; omega, ?_⟩
    rw [join_mkS]
    exact r _ ((grow n2).trans (grow n3))
def EntX : Ent → Prop
  | .folder _ => True
  | .file _ b => Byt b ∧ b.length ≤ 6
  | .link _ g => GoalT g ∧ g.length ≤ 104
theorem EntX.ok {e : Ent} (h : EntX e) (p : PathT e.path) : EntOk e := by
  cases e with
  | folder t => exact p
  | file t b => exact ⟨p, h.1, Nat.le_trans h.2 (by decide)⟩
  | link t g => exact ⟨p, h.1⟩
def spEntry (K : PySem.W.Frag) : Sp := fun vs H Q _ => ∃ (t : List Nat) (c : Int), vs = [T t, .int c] ∧ ∀ H' v e, Same H H' → e.path = t → EntX e → Dp K H' v (dEnt e) → Q v H'
theorem ok_entry {f : Addr} {fd : FuncData} (Ev : Env K mg) (CLawD : Cal P w K mg base "_law_d" 1 ["_law_cell_here", "_law_place", "_law_many"] spD) (CLawGoal : Cal P w K mg base "_law_goal" 4 ["_law_cell_here"] (spGoal K)) (CLawBody : Cal P w K mg base "_law_body" 2 ["_law_cell_here"] (spBody K)) (F : Fun K "_law_entry" "_law_entry" sLawEntry f fd) :
    FnOk P w K mg base CX0 5 f fd ["_law_path_here", "_law_cell_here"] (spEntry K) := by
  refine F.ok scLawEntry (fun vs H Q E h => ?_) (fun cdv A outer s H vs Q E hr h => ?_)
  · obtain ⟨t, c, rfl, _⟩ := h; rfl
  · obtain ⟨t, c, rfl, q⟩ := h
    refine ⟨_, (pss_cons (ps_if (pt_cmpR op_eq (pe_c CLawD (hr.mono (by omega)) (pa_cons (pv 1) (pa_cons pe_int (pa_cons pe_int pa_nil)))) pe_int (nomark _))
        (pss_one (ps_ret (pe_tupU (pa_cons pe_str (pa_cons (pv 0) pa_nil)))))
        pss_nil)
      (pss_cons (ps_if (pt_cmpR op_eq (pe_c CLawD (hr.mono (by omega)) (pa_cons (pv 1) (pa_cons pe_int (pa_cons pe_int pa_nil)))) pe_int (nomark _))
        (pss_one (ps_ret (pe_tupU (pa_cons pe_str (pa_cons (pv 0) (pa_cons (pe_c CLawGoal (hr.mono (by omega)) (pa_cons (pe_op op_fdiv (pv 1) pe_int) pa_nil)) pa_nil))))))
        pss_nil)
      (pss_one (ps_ret (pe_tupU (pa_cons pe_str (pa_cons (pv 0) (pa_cons (pe_c CLawBody (hr.mono (by omega)) (pa_cons (pe_op op_fdiv (pv 1) pe_int) pa_nil)) pa_nil)))))))), ?_⟩
    have two : (2 : Nat) ≤ sizeLine := by rw [sizeLine_eq]; decide
    have three : (3 : Nat) ≤ sizeLine := by rw [sizeLine_eq]; decide
    refine ⟨_, rfl, c, 1, 4, rfl, by decide, by decide, by decide, fun d d0 d1 => ⟨rfl, _, rfl, ite2 (fun _ => ?_) (fun _ => ?_)⟩⟩
    · exact ⟨_, rfl, two, fun H1 t1 s1 h1 => q _ _ (.folder t) s1 rfl trivial (dEnt_folder h1)⟩
    refine ⟨_, rfl, c, 1, 4, rfl, by decide, by decide, by decide, fun d2 d20 d21 => ⟨rfl, _, rfl, ite2 (fun _ => ?_) (fun _ => ?_)⟩⟩
    · refine ⟨_, rfl, _, rfl, _, 4, rfl, rfl, ⟨by decide, by decide⟩, _, rfl, fun H1 g s1 hg lg => ⟨three, fun H2 t2 s2 h2 => q _ _ (.link t g) (s1.trans s2) rfl ⟨hg, lg⟩ (dEnt_link h2)⟩⟩
    · refine ⟨_, rfl, _, rfl, _, 4, rfl, rfl, ⟨by decide, by decide⟩, _, rfl, fun B hB lB H1 u s1 h1 => ⟨three, fun H2 t2 s2 h2 => q _ _ (.file t B) (s1.trans s2) rfl ⟨hB, lB⟩ (dEnt_file h2 (keepT s2 h1))⟩⟩

theorem mem_split {c : Nat} : ∀ {l : List Nat}, c ∈ l → c = 47 ∨ ∃ p ∈ splitC 47 l, c ∈ p
  | [], h => by cases h
  | x :: r, h => by
    rw [splitC]
    by_cases z : x = 47
    · rw [if_pos z]
      rcases List.mem_cons.mp h with k | k
      · exact .inl (k.trans z)
      · rcases mem_split k with e | ⟨p, hp, hc⟩
        · exact .inl e
        · exact .inr ⟨p, List.mem_cons_of_mem _ hp, hc⟩
    · rw [if_neg z]
      cases e : splitC 47 r with
      | nil => exact absurd e (splitC_ne 47 r)
      | cons p ps =>
        rcases List.mem_cons.mp h with k | k
        · exact .inr ⟨x :: p, by simp, by rw [k]; simp⟩
        · rcases mem_split k with e2 | ⟨p', hp, hc⟩
          · exact .inl e2
          · rw [e] at hp
            rcases List.mem_cons.mp hp with rfl | hp
            · exact .inr ⟨x :: p', by simp, List.mem_cons_of_mem _ hc⟩
            · exact .inr ⟨p', by simp [hp], hc⟩
theorem good_small : ∀ c ∈ good, c < 1114112 := by decide
theorem fine_path {t : List Nat} (h : PathT t) : fineB (td t) = true := fine_td (Nat.le_trans h.len (by decide)) fun c hc => by
  rcases mem_split hc with rfl | ⟨p, hp, hcp⟩
  · decide
  · exact good_small c ((h.2.2 p hp).2.2.2.2 c hcp)
theorem goal_len {g : List Nat} (h : GoalT g) : g.length ≤ 104 := by
  have := joinC_len 47 (splitC 47 g) 12 fun p hp => by
    rcases h.2 p hp with rfl | k
    · decide
    · exact k.2.1
  rw [join_split] at this
  have := h.1
  omega
theorem fine_goal {g : List Nat} (h : GoalT g) : fineB (td g) = true := fine_td (Nat.le_trans (goal_len h) (by decide)) fun c hc => by
  rcases mem_split hc with rfl | ⟨p, hp, hcp⟩
  · decide
  · rcases h.2 p hp with rfl | k
    · have : c ∈ [46, 46] := hcp
      simp only [List.mem_cons, List.not_mem_nil, or_false, or_self] at this
      omega
    · exact good_small c (k.2.2.2.2 c hcp)
theorem fine_ent {e : Ent} (h : EntOk e) : Fine 2 (dEnt e) := by
  have str0 : ∀ x : Str, (PyData.str x).depth ≤ 0 := fun x => by simp [PyData.depth]
  have w : ∀ x : String, fineB (sd x) = true → Fine 1 (sd x) := fun x h => ⟨h, Nat.le_trans (str0 _) (by decide)⟩
  have p1 : Fine 1 (td e.path) := ⟨fine_path h.path, Nat.le_trans (str0 _) (by decide)⟩
  cases e with
  | folder p =>
    refine Fine.tup (n := 1) (ds := [sd "folder", td p]) (by simp) fun d hd => ?_
    simp only [List.mem_cons, List.not_mem_nil, or_false] at hd
    rcases hd with rfl | rfl
    · exact w _ (by decide +kernel)
    · exact p1
  | file p b =>
    refine Fine.tup (n := 1) (ds := [sd "file", td p, dInts b]) (by simp) fun d hd => ?_
    simp only [List.mem_cons, List.not_mem_nil, or_false] at hd
    rcases hd with rfl | rfl | rfl
    · exact w _ (by decide +kernel)
    · exact p1
    · refine Fine.tup (n := 0) (ds := b.map PyData.int) (by rw [List.length_map]; have := h.2.2; omega) fun d hd => ?_
      obtain ⟨i, hi, rfl⟩ := List.mem_map.mp hd
      exact ⟨rfl, by simp [PyData.depth]⟩
  | link p g =>
    refine Fine.tup (n := 1) (ds := [sd "link", td p, td g]) (by simp) fun d hd => ?_
    simp only [List.mem_cons, List.not_mem_nil, or_false] at hd
    rcases hd with rfl | rfl | rfl
    · exact w _ (by decide +kernel)
    · exact p1
    · exact ⟨fine_goal h.2, Nat.le_trans (str0 _) (by decide)⟩
theorem fine_tree {es : List Ent} (h : ∀ e ∈ es, EntOk e) (few : es.length ≤ 5000) : Fine 3 (dTree es) :=
  Fine.tup (n := 2) (by rw [List.length_map]; exact few) fun d hd => by
    obtain ⟨e, he, rfl⟩ := List.mem_map.mp hd
    exact fine_ent (h e he)
theorem eqv_path {a b : Ent} (h : PyData.eqv (dEnt a) (dEnt b) = true) : a.path = b.path := by
  have key : ∀ (x y : PyData) (p q : List Nat) (xs ys : List PyData), PyData.eqv (.tuple (x :: td p :: xs)) (.tuple (y :: td q :: ys)) = true → p = q := fun x y p q xs ys h => by
    simp only [PyData.eqv, PyData.eqvAll, td, Bool.and_eq_true, beq_iff_eq] at h
    exact mkS_inj h.2.1
  cases a <;> cases b <;> exact key _ _ _ _ _ _ h

/-! ### a cell of the script -/
def spCellA (K : PySem.W.Frag) : Sp := fun vs H Q _ => ∃ (a : Addr) (ns : List Int) (k : Nat), vs = [.ref a, .int (k : Int)] ∧ SqL K H a (ns.map V.int) ∧ ∀ c : Int, Q (.int c) H
theorem ok_cell {f : Addr} {fd : FuncData} (Ev : Env K mg) (F : Fun K "_law_cell" "_law_cell" sLawCell f fd) : FnOk P w K mg base CX0 1 f fd ["_law_script", "_law_k"] (spCellA K) := by
  refine F.ok scLawCell (fun vs H Q E h => ?_) (fun cdv A outer s H vs Q E hr h => ?_)
  · obtain ⟨a, ns, k, rfl, _⟩ := h; rfl
  · obtain ⟨a, ns, k, rfl, hS, q⟩ := h
    refine ⟨_, (pss_cons (ps_if (pt_cmpR op_lt (pv 1) (pe_callB call_len_seq (by rfl) Ev.b_len PySem.boot_len (pa_cons (pv 0) pa_nil)) (nomark _))
        (pss_one (ps_ret (pe_ix ix_list (pv 0) (pv 1) (fun _ _ => rfl))))
        pss_nil)
      (pss_one (ps_ret pe_int))), ?_⟩
    refine ⟨_, rfl, _, rfl, a, _, rfl, .inl hS, _, _, rfl, rfl, _, rfl, ite2 (fun z => ?_) (fun _ => q _)⟩
    have lt : k < ns.length := by
      have := of_decide_eq_true z
      rw [List.length_map] at this
      omega
    have gk : (ns.map V.int)[k]? = some (.int ns[k]) := by rw [List.getElem?_map, List.getElem?_eq_getElem lt]; rfl
    exact ⟨_, rfl, _, rfl, a, _, _, _, rfl, rfl, hS, atI_nat gk, q _⟩

/-! ### two things that are the same -/
def spSameD (K : PySem.W.Frag) (n : Nat) : Sp := fun vs H Q _ => ∃ (u v : V) (d : PyData), vs = [u, v] ∧ Dp K H u d ∧ Dp K H v d ∧ tupsOnly d = true ∧ PyData.depth d ≤ n ∧ ∀ H', Same H H' → Q (.bl true) H'
theorem ok_sameD {f : Addr} {fd : FuncData} (Ev : Env K mg) (F : Fun K "_law_same" "_law_same" sLawSame f fd) (mS : mg "_law_same" = some (.ref f)) (bS : Binds K fd ["_law_told", "_law_due_here"] []) : ∀ n : Nat, FnOk P w K mg base CX0 (n + 1) f fd ["_law_told", "_law_due_here"] (spSameD K n) := by
  have flat : ∀ (u v : V) (d : PyData) (H : Hp), Dp K H u d → Dp K H v d → (∀ ds, d ≠ .tuple ds) → tupsOnly d = true → (u = .non ∧ v = .non) ∨ (∃ b, u = .bl b ∧ v = .bl b) ∨ (∃ i, u = .int i ∧ v = .int i) ∨ (∃ x, u = .str x ∧ v = .str x) := by
    intro u v d H hu hv nt ok
    cases d with
    | none => cases hu; cases hv; exact .inl ⟨rfl, rfl⟩
    | bool b => cases hu; cases hv; exact .inr (.inl ⟨b, rfl, rfl⟩)
    | int i => cases hu; cases hv; exact .inr (.inr (.inl ⟨i, rfl, rfl⟩))
    | str x => cases hu; cases hv; exact .inr (.inr (.inr ⟨x, rfl, rfl⟩))
    | list ds => cases ok
    | tuple ds => exact absurd rfl (nt ds)
    | dict kvs => cases ok
  intro n
  induction n with
  | zero =>
    refine F.ok scLawSame (fun vs H Q E h => ?_) (fun cdv A outer s H vs Q E hr h => ?_)
    · obtain ⟨u, v, d, rfl, _⟩ := h; rfl
    · obtain ⟨u, v, d, rfl, hu, hv, ok, dp, q⟩ := h
      refine ⟨_, (pss_cons (ps_if (pt_cmpR op_isN (pv 1) pe_non (nomark _))
        (pss_one (ps_ret (pe_cmpR op_isN (pv 0) pe_non (nomark _))))
        pss_nil)
      (pss_cons (ps_if (pt_val (pe_callB call_isi (by rfl) Ev.b_isinstance (by decide +kernel) (pa_cons (pv 1) (pa_cons (pe_btype (n := "bool") (by rfl) Ev.b_bool (by decide +kernel)) pa_nil))))
        (pss_one (ps_ret (pe_and (pe_callB call_isi (by rfl) Ev.b_isinstance (by decide +kernel) (pa_cons (pv 0) (pa_cons (pe_btype (n := "bool") (by rfl) Ev.b_bool (by decide +kernel)) pa_nil))) (pe_one (pe_cmpR op_eq (pv 0) (pv 1) (nomark _))))))
        pss_nil)
      (pss_cons (ps_if (pt_val (pe_callB call_isi (by rfl) Ev.b_isinstance (by decide +kernel) (pa_cons (pv 1) (pa_cons (pe_btype (n := "tuple") (by rfl) Ev.b_tuple (by decide +kernel)) pa_nil))))
        pss_never
        pss_nil)
      (pss_cons (ps_if (pt_val (pe_callB call_isi (by rfl) Ev.b_isinstance (by decide +kernel) (pa_cons (pv 1) (pa_cons (pe_btype (n := "str") (by rfl) Ev.b_str (by decide +kernel)) pa_nil))))
        (pss_one (ps_ret (pe_and (pe_callB call_isi (by rfl) Ev.b_isinstance (by decide +kernel) (pa_cons (pv 0) (pa_cons (pe_btype (n := "str") (by rfl) Ev.b_str (by decide +kernel)) pa_nil))) (pe_one (pe_cmpR op_eq (pv 0) (pv 1) (nomark _))))))
        pss_nil)
      (pss_one (ps_ret (pe_and (pe_callB call_isi (by rfl) Ev.b_isinstance (by decide +kernel) (pa_cons (pv 0) (pa_cons (pe_btype (n := "int") (by rfl) Ev.b_int (by decide +kernel)) pa_nil))) (pe_and (pe_not (pe_callB call_isi (by rfl) Ev.b_isinstance (by decide +kernel) (pa_cons (pv 0) (pa_cons (pe_btype (n := "bool") (by rfl) Ev.b_bool (by decide +kernel)) pa_nil)))) (pe_one (pe_cmpR op_eq (pv 0) (pv 1) (nomark _))))))))))), ?_⟩
      have nt : ∀ ds, d ≠ .tuple ds := fun ds z => by
        rw [z, PyData.depth] at dp
        omega
      · have _u := nt
        rcases flat u v d H hu hv nt ok with ⟨rfl, rfl⟩ | ⟨b, rfl, rfl⟩ | ⟨i, rfl, rfl⟩ | ⟨x, rfl, rfl⟩
        · refine ⟨_, rfl, rfl, _, rfl, iteT ?_⟩
          exact ⟨_, rfl, rfl, q _ (Same.refl _)⟩
        · refine ⟨_, rfl, rfl, _, rfl, iteF ?_⟩
          refine ⟨.bl b, rfl, _, _, _, _, true, rfl, .ty "bool", .base (.bl _), k_bb, true, rfl, iteT ?_⟩
          refine ⟨.bl b, rfl, _, _, _, _, true, rfl, .ty "bool", .base (.bl _), k_bb, true, rfl, iteT ?_⟩
          refine ⟨.bl b, rfl, .bl b, rfl, rfl, ?_⟩
          rw [decide_eq_true rfl]
          exact q _ (Same.refl _)
        · refine ⟨_, rfl, rfl, _, rfl, iteF ?_⟩
          refine ⟨.int i, rfl, _, _, _, _, false, rfl, .ty "bool", .base (.int _), k_ib, false, rfl, iteF ?_⟩
          refine ⟨.int i, rfl, _, _, _, _, false, rfl, .ty "tuple", .base (.int _), k_it, false, rfl, iteF ?_⟩
          refine ⟨.int i, rfl, _, _, _, _, false, rfl, .ty "str", .base (.int _), k_is', false, rfl, iteF ?_⟩
          refine ⟨.int i, rfl, _, _, _, _, true, rfl, .ty "int", .base (.int _), k_ii, true, rfl, iteT ?_⟩
          refine ⟨.int i, rfl, _, _, _, _, false, rfl, .ty "bool", .base (.int _), k_ib, false, rfl, true, rfl, iteT ?_⟩
          refine ⟨.int i, rfl, .int i, rfl, rfl, ?_⟩
          rw [decide_eq_true rfl]
          exact q _ (Same.refl _)
        · refine ⟨_, rfl, rfl, _, rfl, iteF ?_⟩
          refine ⟨.str x, rfl, _, _, _, _, false, rfl, .ty "bool", .base (.str _), k_sb, false, rfl, iteF ?_⟩
          refine ⟨.str x, rfl, _, _, _, _, false, rfl, .ty "tuple", .base (.str _), k_st, false, rfl, iteF ?_⟩
          refine ⟨.str x, rfl, _, _, _, _, true, rfl, .ty "str", .base (.str _), k_ss, true, rfl, iteT ?_⟩
          refine ⟨.str x, rfl, _, _, _, _, true, rfl, .ty "str", .base (.str _), k_ss, true, rfl, iteT ?_⟩
          refine ⟨.str x, rfl, .str x, rfl, rfl, ?_⟩
          rw [decide_eq_true rfl]
          exact q _ (Same.refl _)

  | succ n ih =>
    have CLawSame : Cal P w K mg base "_law_same" (n + 1) ["_law_told", "_law_due_here"] (spSameD K n) := ⟨f, fd, ih, mS, F.kp, bS⟩
    refine F.ok scLawSame (fun vs H Q E h => ?_) (fun cdv A outer s H vs Q E hr h => ?_)
    · obtain ⟨u, v, d, rfl, _⟩ := h; rfl
    · obtain ⟨u, v, d, rfl, hu, hv, ok, dp, q⟩ := h
      refine ⟨_, (pss_cons (ps_if (pt_cmpR op_isN (pv 1) pe_non (nomark _))
        (pss_one (ps_ret (pe_cmpR op_isN (pv 0) pe_non (nomark _))))
        pss_nil)
      (pss_cons (ps_if (pt_val (pe_callB call_isi (by rfl) Ev.b_isinstance (by decide +kernel) (pa_cons (pv 1) (pa_cons (pe_btype (n := "bool") (by rfl) Ev.b_bool (by decide +kernel)) pa_nil))))
        (pss_one (ps_ret (pe_and (pe_callB call_isi (by rfl) Ev.b_isinstance (by decide +kernel) (pa_cons (pv 0) (pa_cons (pe_btype (n := "bool") (by rfl) Ev.b_bool (by decide +kernel)) pa_nil))) (pe_one (pe_cmpR op_eq (pv 0) (pv 1) (nomark _))))))
        pss_nil)
      (pss_cons (ps_if (pt_val (pe_callB call_isi (by rfl) Ev.b_isinstance (by decide +kernel) (pa_cons (pv 1) (pa_cons (pe_btype (n := "tuple") (by rfl) Ev.b_tuple (by decide +kernel)) pa_nil))))
        (pss_cons (ps_if (PW.pt (pw_or (pt_not (pt_val (pe_callB call_isi (by rfl) Ev.b_isinstance (by decide +kernel) (pa_cons (pv 0) (pa_cons (pe_btype (n := "tuple") (by rfl) Ev.b_tuple (by decide +kernel)) pa_nil))))) (pw_or1 (pt_cmpR op_ne (pe_callB call_len_seq (by rfl) Ev.b_len PySem.boot_len (pa_cons (pv 0) pa_nil)) (pe_callB call_len_seq (by rfl) Ev.b_len PySem.boot_len (pa_cons (pv 1) pa_nil)) (nomark _)))))
          (pss_one (ps_ret pe_bl))
          pss_nil)
        (pss_one (ps_ret (pe_callB (cr_all rfl) (by rfl) Ev.b_all (by decide +kernel) (pa_cons (pe_lc (own := [("_law_one", 2), ("_law_other", 3)]) (g := gTup K 2 (gCons (gName 2) (gCons (gName 3) (gNil)))) (tt := tYes) (by rfl) scLawSame.nd (RZ.pi_zipA (by rfl) Ev.b_zip (pa_cons (pv 0) (pa_cons (pv 1) pa_nil))) (blkOk_by (own := [("_law_one", 2), ("_law_other", 3)]) (N := nLawSame) (sc := defScope sLawSame) (by decide +kernel)) (fun _ _ _ _ _ => (pg_tup (by rfl) (pgs_cons (pg_name (i := 2) scLawSame.nd rfl (.inl rfl)) (pgs_cons (pg_name (i := 3) scLawSame.nd rfl (.inl rfl)) pgs_nil)))) (fun _ _ _ _ _ => pts_nil) (fun _ _ _ _ _ => (pe_c CLawSame (hr.mono (by omega)) (pa_cons (pv 2) (pa_cons (pv 3) pa_nil))))) pa_nil)))))
        pss_nil)
      (pss_cons (ps_if (pt_val (pe_callB call_isi (by rfl) Ev.b_isinstance (by decide +kernel) (pa_cons (pv 1) (pa_cons (pe_btype (n := "str") (by rfl) Ev.b_str (by decide +kernel)) pa_nil))))
        (pss_one (ps_ret (pe_and (pe_callB call_isi (by rfl) Ev.b_isinstance (by decide +kernel) (pa_cons (pv 0) (pa_cons (pe_btype (n := "str") (by rfl) Ev.b_str (by decide +kernel)) pa_nil))) (pe_one (pe_cmpR op_eq (pv 0) (pv 1) (nomark _))))))
        pss_nil)
      (pss_one (ps_ret (pe_and (pe_callB call_isi (by rfl) Ev.b_isinstance (by decide +kernel) (pa_cons (pv 0) (pa_cons (pe_btype (n := "int") (by rfl) Ev.b_int (by decide +kernel)) pa_nil))) (pe_and (pe_not (pe_callB call_isi (by rfl) Ev.b_isinstance (by decide +kernel) (pa_cons (pv 0) (pa_cons (pe_btype (n := "bool") (by rfl) Ev.b_bool (by decide +kernel)) pa_nil)))) (pe_one (pe_cmpR op_eq (pv 0) (pv 1) (nomark _))))))))))), ?_⟩
      by_cases tt : ∃ ds, d = .tuple ds
      · obtain ⟨ds, rfl⟩ := tt
        cases hu with
        | @tup p xs _ hp hxs =>
        cases hv with
        | @tup r ys _ hq hys =>
        rw [tupsOnly, Bool.and_eq_true] at ok
        have few : ds.length ≤ 100000 := of_decide_eq_true ok.1
        have lx := dpLen hxs
        have ly := dpLen hys
        refine ⟨_, rfl, rfl, _, rfl, iteF ?_⟩
        refine ⟨.ref r, rfl, _, _, _, _, false, rfl, .ty "bool", ty_tup hq, k_tb, false, rfl, iteF ?_⟩
        refine ⟨.ref r, rfl, _, _, _, _, true, rfl, .ty "tuple", ty_tup hq, k_tt, true, rfl, iteT ?_⟩
        refine ⟨.ref p, rfl, _, _, _, _, true, rfl, .ty "tuple", ty_tup hp, k_tt, true, rfl, iteF ?_⟩
        refine ⟨_, rfl, p, _, rfl, .inr hp, _, rfl, r, _, rfl, .inr hq, rfl, _, rfl, iteNS (by rw [lx, ly]) ?_⟩
        refine ⟨_, rfl, _, rfl, p, r, _, _, rfl, .inr ⟨hp, hq, fun D nD => ?_⟩⟩
        have lz : ((List.replicate ds.length true).map V.bl).length = xs.length := by rw [List.length_map, List.length_replicate, lx]
        refine lc_zip (xs := xs) (ys := ys) (zs := (List.replicate ds.length true).map V.bl) nD hp hq (by omega) lz ?_ (fun _ _ => rfl) (fun i x y z H2 R hx hy hz sm R1 => ?_) (fun H2 sm h2 => ?_)
        · rw [lx, sizeLine_eq]
          omega
        · obtain ⟨d1, e1, k1⟩ := dpGet hxs hx
          obtain ⟨d2, e2, k2⟩ := dpGet hys hy
          have ed : d1 = d2 := Option.some.inj (e1.symm.trans e2)
          subst ed
          have ez : z = .bl true := by
            rw [List.getElem?_map] at hz
            cases e : (List.replicate ds.length true)[i]? with
            | none => rw [e] at hz; cases hz
            | some b =>
              rw [e] at hz
              have eb : b = true := List.eq_of_mem_replicate (List.mem_of_getElem? e)
              rw [eb] at hz
              exact (Option.some.inj hz).symm
          subst ez
          have dd := depth_get e1
          rw [PyData.depth] at dp
          exact ⟨_, rfl, _, rfl, x, y, d1, rfl, dpKeep sm k1, dpKeep sm k2, tupsAll_get ok.2 e1, by omega, fun H' e => R1 _ e⟩
        · refine ⟨D, List.replicate ds.length true, rfl, SqL.of h2, ?_⟩
          have e : (List.replicate ds.length true).all id = true := by
            rw [List.all_eq_true]
            intro b hb
            rw [List.eq_of_mem_replicate hb]
            rfl
          rw [e]
          exact q _ sm
      · have nt : ∀ ds, d ≠ .tuple ds := fun ds z => tt ⟨ds, z⟩
        rcases flat u v d H hu hv nt ok with ⟨rfl, rfl⟩ | ⟨b, rfl, rfl⟩ | ⟨i, rfl, rfl⟩ | ⟨x, rfl, rfl⟩
        · refine ⟨_, rfl, rfl, _, rfl, iteT ?_⟩
          exact ⟨_, rfl, rfl, q _ (Same.refl _)⟩
        · refine ⟨_, rfl, rfl, _, rfl, iteF ?_⟩
          refine ⟨.bl b, rfl, _, _, _, _, true, rfl, .ty "bool", .base (.bl _), k_bb, true, rfl, iteT ?_⟩
          refine ⟨.bl b, rfl, _, _, _, _, true, rfl, .ty "bool", .base (.bl _), k_bb, true, rfl, iteT ?_⟩
          refine ⟨.bl b, rfl, .bl b, rfl, rfl, ?_⟩
          rw [decide_eq_true rfl]
          exact q _ (Same.refl _)
        · refine ⟨_, rfl, rfl, _, rfl, iteF ?_⟩
          refine ⟨.int i, rfl, _, _, _, _, false, rfl, .ty "bool", .base (.int _), k_ib, false, rfl, iteF ?_⟩
          refine ⟨.int i, rfl, _, _, _, _, false, rfl, .ty "tuple", .base (.int _), k_it, false, rfl, iteF ?_⟩
          refine ⟨.int i, rfl, _, _, _, _, false, rfl, .ty "str", .base (.int _), k_is', false, rfl, iteF ?_⟩
          refine ⟨.int i, rfl, _, _, _, _, true, rfl, .ty "int", .base (.int _), k_ii, true, rfl, iteT ?_⟩
          refine ⟨.int i, rfl, _, _, _, _, false, rfl, .ty "bool", .base (.int _), k_ib, false, rfl, true, rfl, iteT ?_⟩
          refine ⟨.int i, rfl, .int i, rfl, rfl, ?_⟩
          rw [decide_eq_true rfl]
          exact q _ (Same.refl _)
        · refine ⟨_, rfl, rfl, _, rfl, iteF ?_⟩
          refine ⟨.str x, rfl, _, _, _, _, false, rfl, .ty "bool", .base (.str _), k_sb, false, rfl, iteF ?_⟩
          refine ⟨.str x, rfl, _, _, _, _, false, rfl, .ty "tuple", .base (.str _), k_st, false, rfl, iteF ?_⟩
          refine ⟨.str x, rfl, _, _, _, _, true, rfl, .ty "str", .base (.str _), k_ss, true, rfl, iteT ?_⟩
          refine ⟨.str x, rfl, _, _, _, _, true, rfl, .ty "str", .base (.str _), k_ss, true, rfl, iteT ?_⟩
          refine ⟨.str x, rfl, .str x, rfl, rfl, ?_⟩
          rw [decide_eq_true rfl]
          exact q _ (Same.refl _)


/-! ### a drawn tree -/
def spTree (K : PySem.W.Frag) : Sp := fun vs H Q _ => ∃ (a : Addr) (ns : List Int), vs = [.ref a] ∧ SqL K H a (ns.map V.int) ∧ ns.length ≤ 9 ∧ ∀ H' v es, Same H H' → TreeOk es → es.length ≤ 8 * ns.length → Tiny es → Dp K H' v (dTree es) → Q v H'
def keepBad (es : List Ent) (v : V) : Bool := es.any fun e => decide (T e.path = v) && !e.isFolder
theorem keepBad_some {es : List Ent} (h : Nod es) {e : Ent} (he : e ∈ es) : keepBad es (T e.path) = !e.isFolder := by
  unfold keepBad
  cases k : e.isFolder with
  | true =>
    rw [Bool.not_true, List.any_eq_false]
    intro x hx z
    rw [Bool.and_eq_true] at z
    have px := T_inj (of_decide_eq_true z.1)
    rw [h.eq hx he px, k] at z
    exact absurd z.2 (by decide)
  | false =>
    rw [Bool.not_false, List.any_eq_true]
    exact ⟨e, he, by rw [decide_eq_true rfl, k]; rfl⟩
theorem keepBad_none {es : List Ent} {t : List Nat} (h : ∀ e ∈ es, e.path ≠ t) : keepBad es (T t) = false := by
  unfold keepBad
  rw [List.any_eq_false]
  intro x hx z
  rw [Bool.and_eq_true] at z
  exact h x hx (T_inj (of_decide_eq_true z.1))
theorem tiny_put {es fs : List Ent} {as : List (List Nat)} {e : Ent} (g : Grown es as fs) (ty : Tiny es) (xe : EntX e) : Tiny (putE fs e) := fun x hx => by
  have hx2 : x = e ∨ x ∈ fs := by
    unfold putE at hx
    split at hx
    · obtain ⟨y, hy, rfl⟩ := List.mem_map.mp hx
      split
      · exact .inl rfl
      · exact .inr hy
    · rcases List.mem_append.mp hx with h | h
      · exact .inr h
      · exact .inl (List.mem_singleton.mp h)
  rcases hx2 with rfl | h
  · intro t b z
    subst z
    have := xe.2
    omega
  · rcases g.new x h with k | ⟨a, _, rfl⟩
    · exact ty x k
    · intro t b z
      cases z
theorem ok_tree {f : Addr} {fd : FuncData} (Ev : Env K mg) (CLawPath : Cal P w K mg base "_law_path" 3 ["_law_cell_here"] (spPath K)) (CLawAbove : Cal P w K mg base "_law_above" 1 ["_law_path_here"] (spAboveL K)) (CLawEntry : Cal P w K mg base "_law_entry" 5 ["_law_path_here", "_law_cell_here"] (spEntry K)) (F : Fun K "_law_tree" "_law_tree" sLawTree f fd) :
    FnOk P w K mg base CX0 6 f fd ["_law_cells"] (spTree K) := by
  refine F.ok scLawTree (fun vs H Q E h => ?_) (fun cdv A outer s H vs Q E hr h => ?_)
  · obtain ⟨a, ns, rfl, _⟩ := h; rfl
  · obtain ⟨a, ns, rfl, hS, few, q⟩ := h
    refine ⟨_, (pss_cons (ps_set (i := 1) scLawTree.nd rfl (.inr rfl) pe_dnewK)
      (pss_cons (ps_for PassesOwn.never rfl (pi_list (pv 0)) (pg_name (i := 2) scLawTree.nd rfl (.inl rfl))
        (pss_cons (ps_set (i := 3) scLawTree.nd rfl (.inl rfl) (pe_c CLawPath (hr.mono (by omega)) (pa_cons (pe_op op_fdiv (pv 2) pe_int) pa_nil)))
        (pss_cons (ps_set (i := 4) scLawTree.nd rfl (.inl rfl) (pe_c CLawAbove (hr.mono (by omega)) (pa_cons (pv 3) pa_nil)))
        (pss_cons (ps_setLc (i := 5) (own := [("_law_one", 6)]) (g := gName 6) (by rfl) scLawTree.nd rfl rfl (sw_true rfl rfl rfl (by decide +kernel)) (pi_list (pv 4)) (blkOk_by (own := [("_law_one", 6)]) (N := nLawTree) (sc := defScope sLawTree) (by decide +kernel)) (fun _ _ _ _ _ => (pg_name (i := 6) scLawTree.nd rfl (.inl rfl))) (fun _ _ _ _ _ => pts_one (PW.pt (pw_and (pt_cmp (pc_din (hu1 hr) (pv 6) (pv 1))) (pw_and1 (pt_cmpR op_ne (pe_ix (ix_tupq (K := K) rfl) (pe_dget (hu1 hr) (pv 1) (pv 6) (fun _ _ => rfl)) pe_int (fun _ _ => rfl)) pe_str (nomark _)))))) (fun _ _ _ _ _ => (pv 6)))
        (pss_one (ps_if (PW.pt (pw_and (pt_cmp (pc_dnotin (hu1 hr) (pv 3) (pv 1))) (pw_and1 (pt_not (pt_truth (pv 5) (by intro _; rfl))))))
          (pss_cons (ps_for PassesOwn.never rfl (pi_list (pv 4)) (pg_name (i := 6) scLawTree.nd rfl (.inl rfl))
            (pss_one (ps_dput (hu1 hr) (pv 1) (pv 6) (pe_tupU (pa_cons pe_str (pa_cons (pv 6) pa_nil))) rfl)))
          (pss_one (ps_dput (hu1 hr) (pv 1) (pv 3) (pe_c CLawEntry (hr.mono (by omega)) (pa_cons (pv 3) (pa_cons (pv 2) pa_nil))) rfl)))
          pss_nil))))))
      (pss_one (ps_ret (pe_callTy call_tupleU (by rfl) Ev.b_tuple (by decide +kernel) (pa_cons (pe_lc (own := [("_law_path_here", 3)]) (g := gName 3) (tt := tYes) (by rfl) scLawTree.nd (pi_list (pe_callB (call_sortedAny rfl) (by rfl) Ev.b_sorted (by decide +kernel) (pa_cons (pv 1) pa_nil))) (blkOk_by (own := [("_law_path_here", 3)]) (N := nLawTree) (sc := defScope sLawTree) (by decide +kernel)) (fun _ _ _ _ _ => (pg_name (i := 3) scLawTree.nd rfl (.inl rfl))) (fun _ _ _ _ _ => pts_nil) (fun _ _ _ _ _ => (pe_dget (hu1 hr) (pv 1) (pv 3) (fun _ _ => rfl)))) pa_nil)))))), ?_⟩
    have two : (2 : Nat) ≤ sizeLine := by rw [sizeLine_eq]; decide
    refine fun p1 n1 => ?_
    refine ⟨_, rfl, a, rfl, ⟨_, (grow n1).seq hS⟩, for_list (xs := ns.map V.int) (fun i σ H' => ∃ (es : List Ent) (kvs : List (Key × V)) (y2 y3 y4 y5 y6 : Option V), σ = [some (.ref a), some (.ref p1), y2, y3, y4, y5, y6] ∧ Same H H' ∧ H' p1 = some (.dK kvs) ∧ OnE K H' es kvs ∧ Stock es ∧ es.length ≤ 8 * i ∧ Tiny es)
      ⟨[], [], none, none, none, none, none, rfl, grow n1, upd_same, .nil, ⟨List.nodup_nil, fun e h => (by cases h), fun e h => (by cases h)⟩, Nat.zero_le _, fun e h => (by cases h)⟩ (fun i σ H' _ p => ?_) (fun i x σ H1 hx p => ?_) (fun σ H1 p => ?_)⟩
    · obtain ⟨_, _, _, _, _, _, _, _, e, _⟩ := p
      exact e.seq hS
    · obtain ⟨es, kvs, y2, y3, y4, y5, y6, rfl, sm, hk, on, st, le, ty⟩ := p
      obtain ⟨n, hn, rfl⟩ := got hx
      have li : i < ns.length := (List.getElem?_eq_some_iff.mp hn).1
      refine ⟨_, rfl, _, 4, rfl, rfl, ⟨by decide, by decide⟩, _, rfl, fun H2 ps s2 hp => ?_⟩
      refine ⟨_, rfl, ps, rfl, hp, fun H3 p3 s3 n3 h3 => ?_⟩
      have l8 := hp.2.1
      have lab := aboveF_len ps
      have hk3 := s3 _ _ (s2 _ _ hk)
      have on3 := onE_keep (s2.trans s3) on
      refine ⟨_, rfl, p3, rfl, ⟨_, SqL.of h3⟩, fun D nD => ?_⟩
      refine lcF_list (keep := keepBad es) id nD (SqL.of h3) (by rw [List.length_map, lab, sizeLine_eq]; omega) (fun _ => rfl) (fun k x H4 R hx4 s4 r => ?_) (fun k x H4 R hx4 _ s4 r => ⟨_, rfl, r _ (Same.refl _)⟩) (fun H5 s5 h5 => ?_)
      · obtain ⟨t, ht, rfl⟩ : ∃ t, (aboveF ps)[k]? = some t ∧ x = T t := by
          rw [List.getElem?_map] at hx4
          cases e : (aboveF ps)[k]? with
          | none => rw [e] at hx4; cases hx4
          | some p => rw [e] at hx4; exact ⟨p, rfl, (Option.some.inj hx4).symm⟩
        have hk4 := s4 _ _ hk3
        rcases onE_get t on3 with ⟨a1, v1⟩ | ⟨e, v, a1, v1, d1⟩
        · have r' := r H4 (Same.refl _)
          rw [keepBad_none (atE_none a1)] at r'
          exact ⟨_, rfl, _, rfl, p1, none, rfl, .inl ⟨kvs, kT t, .inl hk4, rfl, v1.symm⟩, false, rfl, iteF r'⟩
        · obtain ⟨he, pe⟩ := atE_mem a1
          subst pe
          obtain ⟨u, xs, rfl, hu, x0, x1⟩ := dpWord (dpKeep s4 d1)
          have r' := r H4 (Same.refl _)
          rw [keepBad_some st.nod he, ← word_ne] at r'
          exact ⟨_, rfl, _, rfl, p1, _, rfl, .inl ⟨kvs, kT e.path, .inl hk4, rfl, v1.symm⟩, true, rfl, iteT ⟨_, rfl, _, rfl, p1, _, rfl, .inl ⟨kvs, kT e.path, .inl hk4, rfl, v1.symm⟩, u, xs, 0, _, rfl, rfl, hu, at_ofA (j := 0) rfl x0, (by cases e <;> rfl), _, rfl, r'⟩⟩
      have s15 : Same H1 H5 := s2.trans (s3.trans s5)
      have hk5 := s5 _ _ hk3
      have on5 := onE_keep s5 on3
      have h35 := s5 _ _ h3
      have pu : PathT (pathOf ps) := PathT.of hp
      have nep : p3 ≠ p1 := fun e => by
        rw [e, hk5] at h35
        cases h35
      dsimp only [gName]
      refine if_by2 (atE es (pathOf ps) = none ∧ (((aboveF ps).map T).filter (keepBad es)) = []) True (fun hX => ?_) (fun _ => ⟨es, kvs, _, _, _, _, _, rfl, sm.trans s15, hk5, on5, st, by omega, ty⟩) (fun go => ?_)
      · obtain ⟨hnew, hbad⟩ := hX
        have nb : ∀ t ∈ aboveF ps, ∀ e ∈ es, e.path = t → e = .folder t := fun t ht e he pe => by
          have := List.filter_eq_nil_iff.mp hbad (T t) (List.mem_map.mpr ⟨t, ht, rfl⟩)
          rw [← pe, keepBad_some st.nod he] at this
          cases e with
          | folder p => rw [← pe]; rfl
          | file p b => exact absurd rfl this
          | link p g => exact absurd rfl this
        refine ⟨_, rfl, p3, rfl, ⟨_, SqL.of h35⟩, for_list (xs := (aboveF ps).map T) (fun k σ H' => ∃ (fs : List Ent) (kvs2 : List (Key × V)) (y6 : Option V), σ = [some (.ref a), some (.ref p1), some (.int n), some (T (pathOf ps)), some (.ref p3), some (.ref D), y6] ∧ Same H H' ∧ H' p3 = some (.lst ((aboveF ps).map T)) ∧ H' p1 = some (.dK kvs2) ∧ OnE K H' fs kvs2 ∧ Grown es ((aboveF ps).take k) fs)
          ⟨es, kvs, _, rfl, sm.trans s15, h35, hk5, on5, Grown.nil st.nod⟩ (fun k σ H' _ p => ?_) (fun k x σ H6 hx6 p => ?_) (fun σ H6 p => ?_)⟩
        · obtain ⟨_, _, _, _, _, e, _⟩ := p
          exact SqL.of e
        · obtain ⟨fs, kvs2, y6, rfl, sm6, h36, hk6, on6, gr⟩ := p
          obtain ⟨t, ht, rfl⟩ : ∃ t, (aboveF ps)[k]? = some t ∧ x = T t := by
            rw [List.getElem?_map] at hx6
            cases e : (aboveF ps)[k]? with
            | none => rw [e] at hx6; cases hx6
            | some p => rw [e] at hx6; exact ⟨p, rfl, (Option.some.inj hx6).symm⟩
          have lfs : kvs2.length ≤ 100 := by
            rw [on6.length]
            have := gr.few
            rw [List.length_take] at this
            omega
          have smf : SmallE fs := fun e he => by
            rcases gr.new e he with h | ⟨b, _, rfl⟩
            · exact st.small e h
            · intro t b z; cases z
          refine ⟨_, rfl, two, fun H7 t7 s7 h7 => ⟨_, rfl, _, rfl, p1, _, rfl, DPut.k (k := kT t) (s7 _ _ hk6) (by rw [sizeLine_eq]; omega), ?_⟩⟩
          have w7 : Wr H7 p1 := Wr.dK (s7 _ _ hk6)
          refine ⟨putE fs (.folder t), _, _, rfl, keep_new (sm6.trans s7) n1, ?_, upd_same, onE_put (e := .folder t) (onE_over w7 smf (onE_keep s7 on6)) (dpOver w7 rfl (dEnt_folder h7)), ?_⟩
          · rw [upd_ne nep]
            exact s7 _ _ h36
          · rw [List.take_add_one, ht]
            exact gr.step (nb t (List.mem_of_getElem? ht))
        · obtain ⟨fs, kvs2, y6, rfl, sm6, h36, hk6, on6, gr⟩ := p
          rw [List.length_map, List.take_length] at gr
          have lfs : kvs2.length ≤ 100 := by
            rw [on6.length]
            have := gr.few
            omega
          have smf : SmallE fs := fun e he => by
            rcases gr.new e he with h | ⟨b, _, rfl⟩
            · exact st.small e h
            · intro t b z; cases z
          refine ⟨_, rfl, _, rfl, pathOf ps, n, rfl, fun H7 v e s7 pe xe de => ⟨_, rfl, _, rfl, p1, _, rfl, DPut.k (k := kT (pathOf ps)) (s7 _ _ hk6) (by rw [sizeLine_eq]; omega), ?_⟩⟩
          have w7 : Wr H7 p1 := Wr.dK (s7 _ _ hk6)
          have eok : EntOk e := xe.ok (by rw [pe]; exact pu)
          have ab : aboveT e.path = aboveF ps := by rw [pe, aboveT_of hp]
          rw [← ab] at gr
          obtain ⟨st2, ln2⟩ := st.put gr eok (by rw [pe]; exact atE_none hnew)
          have on7 := onE_put (e := e) (onE_over (o := .dK (putK kvs2 (kT (pathOf ps)) v)) w7 smf (onE_keep s7 on6)) (dpOver w7 (dEnt_ok eok.small).1 de)
          rw [pe] at on7
          rw [ab, lab] at ln2
          exact ⟨putE fs e, _, _, _, _, _, _, rfl, keep_new (sm6.trans s7) n1, upd_same, on7, st2, by omega, tiny_put gr ty xe⟩
      · rcases onE_get (pathOf ps) on5 with ⟨a1, v1⟩ | ⟨e, v, a1, v1, d1⟩
        · refine ⟨_, rfl, _, rfl, p1, none, rfl, .inl ⟨kvs, kT (pathOf ps), .inl hk5, rfl, v1.symm⟩, true, rfl, iteT ⟨_, rfl, _, .inl ⟨_, SqL.of h5, rfl⟩, go _ (fun k => ⟨a1, ?_⟩) (fun _ => trivial)⟩⟩
          rw [List.map_id] at k
          cases e : ((aboveF ps).map T).filter (keepBad es) with
          | nil => rfl
          | cons x r => rw [e] at k; cases k
        · exact ⟨_, rfl, _, rfl, p1, _, rfl, .inl ⟨kvs, kT (pathOf ps), .inl hk5, rfl, v1.symm⟩, false, rfl, iteF (go false (fun z => nomatch z) fun _ => trivial)⟩
    · obtain ⟨es, kvs, y2, y3, y4, y5, y6, rfl, sm, hk, on, st, le, ty⟩ := p
      rw [List.length_map] at le
      refine ⟨_, rfl, p1, kvs, es.map (fun e => mkS e.path), rfl, .inl hk, onE_keys on, by rw [List.length_map]; omega, fun ys p8 pm so n8 => ⟨p8, rfl, ⟨_, SqL.of upd_same⟩, fun D nD => ?_⟩⟩
      obtain ⟨zs, rfl⟩ : ∃ zs : List (List Nat), ys = zs.map mkS := ⟨ys.map TL.tl, by rw [List.map_map]; exact (List.map_id'' (fun x => mkS_tl x) ys).symm⟩
      have pm2 : zs.Perm (es.map Ent.path) := by
        have := pm.map TL.tl
        rw [List.map_map, List.map_map] at this
        have e1 : zs.map (TL.tl ∘ mkS) = zs := List.map_id'' (fun x => rfl) zs
        rw [e1] at this
        exact this
      have lz : zs.length = es.length := by rw [pm2.length_eq, List.length_map]
      refine lcG_list (xs := (zs.map mkS).map V.str) (keep := fun _ => true) (G := fun x y H => ∃ e ∈ es, x = T e.path ∧ Dp K H y (dEnt e)) nD (SqL.of upd_same) (by rw [List.length_map, List.length_map, sizeLine_eq]; omega) (fun _ => rfl) (fun x y H H' s h => ?_) (fun x y H us vs hD h => ?_) (fun k x H2 R hx2 s2 r => r _ (Same.refl _)) (fun k x H2 R hx2 _ s2 r => ?_) (fun ws H9 al s9 h9 => ?_)
      · obtain ⟨e, he, hx, hd⟩ := h
        exact ⟨e, he, hx, dpKeep s hd⟩
      · obtain ⟨e, he, hx, hd⟩ := h
        exact ⟨e, he, hx, dpOver (.lst hD) (dEnt_ok (st.small e he)).1 hd⟩
      · rw [mapT] at hx2
        obtain ⟨t, ht, ex⟩ := List.mem_map.mp (List.mem_of_getElem? hx2)
        subst ex
        obtain ⟨e, he, pe⟩ := List.mem_map.mp (pm2.mem_iff.mp ht)
        subst pe
        have sk : Same H1 H2 := (grow n8).trans s2
        have ae := atE_of st.nod he
        rcases onE_get e.path on with ⟨a1, _⟩ | ⟨e', v, a1, v1, d1⟩
        · rw [ae] at a1; cases a1
        · rw [ae] at a1
          cases a1
          exact ⟨_, rfl, _, rfl, p1, v, rfl, .inl ⟨kvs, kT e.path, .inl (sk _ _ hk), rfl, v1.symm⟩, r _ _ (Same.refl _) ⟨e, he, rfl, dpKeep sk d1⟩⟩
      · rw [List.filter_eq_self.mpr fun _ _ => rfl] at al
        obtain ⟨fs, ef, sub, da⟩ := choose_ents al
        rw [mapT] at ef
        have ef2 : fs.map Ent.path = zs := by
          have : zs.map T = (fs.map Ent.path).map T := by rw [ef, List.map_map]; rfl
          exact (List.map_inj_right fun a b h => T_inj h).mp this.symm
        have tk := st.tree pm2 so ef2 sub (by omega)
        have lf : fs.length = es.length := by rw [← lz, ← ef2, List.length_map]
        exact ⟨D, _, rfl, SqL.of h9, fun Ha ta sa ha => q _ _ fs (sm.trans ((grow n8).trans (s9.trans sa))) tk (by omega) (fun e he => ty e (sub e he)) (.tup ha (dpKeepAll sa da))⟩

def spBy (K : PySem.W.Frag) : Sp := fun vs H Q _ => ∃ (v : V) (es : List Ent), vs = [v] ∧ Dp K H v (dTree es) ∧ Nod es ∧ SmallE es ∧ es.length ≤ 1000 ∧ ∀ H' D kvs, Same H H' → H D = none → H' D = some (.dK kvs) → OnE K H' es kvs → Q (.ref D) H'
theorem ok_by {f : Addr} {fd : FuncData} (Ev : Env K mg) (F : Fun K "by_path" "by_path" sByPath f fd) : FnOk P w K mg base CX0 1 f fd ["tree"] (spBy K) := by
  refine F.ok scByPath (fun vs H Q E h => ?_) (fun cdv A outer s H vs Q E hr h => ?_)
  · obtain ⟨v, es, rfl, _⟩ := h; rfl
  · obtain ⟨v, es, rfl, hv, nd, sml, few, q⟩ := h
    refine ⟨_, (pss_one (ps_ret (pe_dc (own := [("entry", 1)]) (g := gName 1) (tt := tYes) (by rfl) scByPath.nd (pi_tup (pv 0)) (blkOk_by (own := [("entry", 1)]) (N := nByPath) (sc := defScope sByPath) (by decide +kernel)) (fun _ _ _ _ _ => (pg_name (i := 1) scByPath.nd rfl (.inl rfl))) (fun _ _ _ _ _ => pts_nil) (fun _ _ _ _ _ => (pe_ix (ix_tupq (K := K) rfl) (pv 1) pe_int (fun _ _ => rfl))) (fun _ _ _ _ _ => (pv 1))))), ?_⟩
    obtain ⟨tv, xs, rfl, hx, al⟩ := dpTree hv
    have lx : xs.length = es.length := al.length
    refine ⟨_, rfl, tv, rfl, ⟨_, hx⟩, fun D nD => ?_⟩
    refine dc_tup (xs := xs) (fun i H' => Same H H' ∧ ∃ kvs, H' D = some (.dK kvs) ∧ OnE K H' (es.take i) kvs) ⟨grow nD, [], upd_same, .nil⟩ (fun i H' _ p => keepT p.1 hx) (fun i x H' hxi p => ?_) (fun H' p => ?_)
    · obtain ⟨sm, kvs, hD, on⟩ := p
      have li : i < es.length := by
        have := (List.getElem?_eq_some_iff.mp hxi).1
        omega
      have gi : es[i]? = some es[i] := List.getElem?_eq_getElem li
      obtain ⟨e, ee⟩ : ∃ e, e = es[i] := ⟨_, rfl⟩
      rw [← ee] at gi
      have me : e ∈ es := List.mem_of_getElem? gi
      have dx := dpKeep sm (al.at gi hxi)
      obtain ⟨u, us, rfl, hu, u0, u1⟩ := dpWord dx
      refine ⟨rfl, ?_⟩
      unfold tYes
      dsimp only
      rw [if_pos rfl]
      refine ⟨_, rfl, u, us, 1, _, rfl, rfl, hu, at_ofA (j := 1) rfl u1, _, rfl, kvs, kT e.path, rfl, hD, ?_, keep_new sm nD, _, upd_same, ?_⟩
      · rw [on.length, List.length_take, sizeLine_eq]
        omega
      · have wD : Wr H' D := .dK hD
        have sT : SmallE (es.take i) := fun x hx => sml x (List.mem_of_mem_take hx)
        have r := onE_put (e := e) (v := .ref u) (onE_over (o := .dK (putK kvs (kT e.path) (.ref u))) wD sT on) (dpOver wD (dEnt_ok (sml e me)).1 dx)
        have nw : putE (es.take i) e = es.take (i + 1) := by
          rw [putE_new, List.take_add_one, gi]
          · rfl
          · intro x hx k
            have h2 := nd
            rw [Nod, ← List.take_append_drop (i + 1) es, List.take_add_one, gi, List.map_append, List.map_append, List.nodup_append] at h2
            have h3 := h2.1
            rw [List.nodup_append] at h3
            exact h3.2.2 x.path (List.mem_map.mpr ⟨x, hx, rfl⟩) e.path (by simp) k
        rw [nw] at r
        exact r
    · obtain ⟨sm, kvs, hD, on⟩ := p
      rw [lx, List.take_length] at on
      exact q _ _ _ sm nD hD on

/-! ### the differences of two trees -/
def spDiff (K : PySem.W.Frag) : Sp := fun vs H Q _ => ∃ (v u : V) (es fs : List Ent), vs = [v, u] ∧ Dp K H v (dTree es) ∧ Dp K H u (dTree fs) ∧ Nod es ∧ Nod fs ∧ (∀ e ∈ es, EntOk e) ∧ (∀ e ∈ fs, EntOk e) ∧ es.length + fs.length ≤ 120 ∧
  ∀ H' x us, Same H H' → Told es fs us → us.length ≤ 120 → Dp K H' x (.tuple (us.map (rowOf es fs))) → Q x H'
theorem ok_diff {f : Addr} {fd : FuncData} (Ev : Env K mg) (CByPath : Cal P w K mg base "by_path" 1 ["tree"] (spBy K)) (F : Fun K "differences" "differences" sDifferences f fd) : FnOk P w K mg base CX0 2 f fd ["one", "other"] (spDiff K) := by
  refine F.ok scDifferences (fun vs H Q E h => ?_) (fun cdv A outer s H vs Q E hr h => ?_)
  · obtain ⟨v, u, es, fs, rfl, _⟩ := h; rfl
  · obtain ⟨v, u, es, fs, rfl, hv, hw, nd, nf, se, sf, few, q⟩ := h
    refine ⟨_, (pss_cons (ps_set (i := 2) scDifferences.nd rfl (.inl rfl) (pe_c CByPath (hr.mono (by omega)) (pa_cons (pv 0) pa_nil)))
      (pss_cons (ps_set (i := 3) scDifferences.nd rfl (.inl rfl) (pe_c CByPath (hr.mono (by omega)) (pa_cons (pv 1) pa_nil)))
      (pss_cons (ps_set (i := 4) scDifferences.nd rfl (.inl rfl) (pe_lst pa_nil))
      (pss_cons (ps_for PassesOwn.never rfl (pi_list (pe_callB (call_sortedX rfl) (by rfl) Ev.b_sorted (by decide +kernel) (pa_cons (pe_op op_orX (pe_callTy cr_setD (by rfl) Ev.b_set (by decide +kernel) (pa_cons (pv 2) pa_nil)) (pe_callTy cr_setD (by rfl) Ev.b_set (by decide +kernel) (pa_cons (pv 3) pa_nil))) pa_nil))) (pg_name (i := 5) scDifferences.nd rfl (.inl rfl))
        (pss_one (ps_if (pt_cmp (pc_dnotin (hu1 hr) (pv 5) (pv 3)))
          (pss_one (ps_expr (pe_bm PySem.F.plainAttrs_list PySem.F.slot_list_append PySem.F.type_list_append mt_append (pv 4) (pa_cons (pe_tupU (pa_cons pe_str (pa_cons (pv 5) pa_nil))) pa_nil))))
          (pss_one (ps_if (pt_cmp (pc_dnotin (hu1 hr) (pv 5) (pv 2)))
            (pss_one (ps_expr (pe_bm PySem.F.plainAttrs_list PySem.F.slot_list_append PySem.F.type_list_append mt_append (pv 4) (pa_cons (pe_tupU (pa_cons pe_str (pa_cons (pv 5) pa_nil))) pa_nil))))
            (pss_one (ps_if (pt_cmpR (op_neD hr.units) (pe_dget (hu1 hr) (pv 2) (pv 5) (fun _ _ => rfl)) (pe_dget (hu1 hr) (pv 3) (pv 5) (fun _ _ => rfl)) (nomark _))
              (pss_one (ps_expr (pe_bm PySem.F.plainAttrs_list PySem.F.slot_list_append PySem.F.type_list_append mt_append (pv 4) (pa_cons (pe_tupU (pa_cons pe_str (pa_cons (pv 5) pa_nil))) pa_nil))))
              pss_nil)))))))
      (pss_one (ps_ret (pe_callTy call_tupleU (by rfl) Ev.b_tuple (by decide +kernel) (pa_cons (pv 4) pa_nil)))))))), ?_⟩
    have two : (2 : Nat) ≤ sizeLine := by rw [sizeLine_eq]; decide
    refine ⟨_, rfl, v, es, rfl, hv, nd, fun e he => (se e he).small, by omega, fun H1 D1 k1 s1 n1 h1 o1 => ?_⟩
    refine ⟨_, rfl, u, fs, rfl, dpKeep s1 hw, nf, fun e he => (sf e he).small, by omega, fun H2 D2 k2 s2 n2 h2 o2 => ?_⟩
    have h12 := s2 _ _ h1
    have o12 := onE_keep s2 o1
    dsimp only [gName]
    refine ⟨Nat.zero_le _, fun p3 n3 => ?_⟩
    refine ⟨_, rfl, D1, k1, es.map (fun e => mkS e.path), rfl, .inl (grow n3 _ _ h12), onE_keys o12, by rw [List.length_map]; omega, fun a na => ?_⟩
    refine ⟨_, rfl, D2, k2, fs.map (fun e => mkS e.path), rfl, .inl (grow na _ _ (grow n3 _ _ h2)), onE_keys o2, by rw [List.length_map]; omega, fun b nb => ?_⟩
    have ne : a ≠ b := fun z => by rw [z, upd_same] at nb; cases nb
    refine ⟨a, b, _, _, _, _, rfl, rfl, ne, grow nb _ _ upd_same, upd_same, by rw [List.length_map, List.length_map]; omega, fun c nc => ?_⟩
    refine ⟨c, _, _, rfl, upd_same, by rw [List.length_map, List.length_map]; omega, fun ys p mem ndy lny so np => ?_⟩
    rw [List.length_map, List.length_map] at lny
    obtain ⟨zs, rfl⟩ : ∃ zs : List (List Nat), ys = zs.map mkS := ⟨ys.map TL.tl, by rw [List.map_map]; exact (List.map_id'' (fun x => mkS_tl x) ys).symm⟩
    rw [List.length_map] at lny
    have ndz : zs.Nodup := nodup_of_map ndy
    have rz := sorted_paths so ndz
    have mz : ∀ t, t ∈ zs ↔ (∃ e ∈ es, e.path = t) ∨ ∃ e ∈ fs, e.path = t := fun t => by
      have m0 : t ∈ zs ↔ mkS t ∈ zs.map mkS := ⟨fun z => List.mem_map.mpr ⟨t, z, rfl⟩, fun z => by
        obtain ⟨x, hx, e⟩ := List.mem_map.mp z
        rw [← mkS_inj e]
        exact hx⟩
      rw [m0, mem (mkS t), List.mem_append, List.mem_map, List.mem_map]
      exact or_congr ⟨fun ⟨e, he, q⟩ => ⟨e, he, mkS_inj q⟩, fun ⟨e, he, q⟩ => ⟨e, he, by rw [q]⟩⟩ ⟨fun ⟨e, he, q⟩ => ⟨e, he, mkS_inj q⟩, fun ⟨e, he, q⟩ => ⟨e, he, by rw [q]⟩⟩
    have np3 : p3 ≠ p := fun z => by
      rw [← z] at np
      have h4 := np.symm.trans (grow nc p3 _ (grow nb p3 _ (grow na p3 _ upd_same)))
      cases h4
    refine ⟨p, rfl, ⟨_, SqL.of upd_same⟩, for_list (xs := (zs.map mkS).map V.str) (fun i σ H' => ∃ (ws : List V) (y5 : Option V), σ = [some v, some u, some (.ref D1), some (.ref D2), some (.ref p3), y5] ∧ Same H2 H' ∧ H' p3 = some (.lst ws) ∧ H' p = some (.lst ((zs.map mkS).map V.str)) ∧ Al2 (fun t y => Dp K H' y (rowOf es fs t)) ((zs.take i).filter fun t => (clsE es fs t).isSome) ws)
      ⟨[], none, rfl, (grow n3).trans ((grow na).trans ((grow nb).trans ((grow nc).trans (grow np)))), grow np _ _ (grow nc _ _ (grow nb _ _ (grow na _ _ upd_same))), upd_same, .nil⟩ (fun i σ H' _ k => ?_) (fun i x σ H4 hx k => ?_) (fun σ H4 k => ?_)⟩
    · obtain ⟨_, _, _, _, _, hp, _⟩ := k
      exact SqL.of hp
    · obtain ⟨ws, y5, rfl, s4, h3, hp, al⟩ := k
      rw [mapT] at hx
      obtain ⟨t, ht, rfl⟩ : ∃ t, zs[i]? = some t ∧ x = T t := by
        rw [List.getElem?_map] at hx
        cases e : zs[i]? with
        | none => rw [e] at hx; cases hx
        | some t => rw [e] at hx; exact ⟨t, rfl, (Option.some.inj hx).symm⟩
      have hk1 := s4 _ _ h12
      have hk2 := s4 _ _ h2
      have oo1 := onE_keep s4 o12
      have oo2 := onE_keep s4 o2
      have lw : ws.length ≤ 120 := by
        rw [al.length]
        refine Nat.le_trans (List.length_filter_le _ _) ?_
        rw [List.length_take]
        omega
      have tk : zs.take (i + 1) = zs.take i ++ [t] := by rw [List.take_add_one, ht]; rfl
      -- a row more
      have more : ∀ (r : String), clsE es fs t = some r → ∀ H5 q5, Same H4 H5 → SqT K H5 q5 [.str (Str.ofString r), T t] → ∃ (ws' : List V) (y5 : Option V), [some v, some u, some (.ref D1), some (.ref D2), some (.ref p3), some (T t)] = [some v, some u, some (.ref D1), some (.ref D2), some (.ref p3), y5] ∧ Same H2 (upd H5 p3 (.lst (ws ++ [.ref q5]))) ∧ upd H5 p3 (.lst (ws ++ [.ref q5])) p3 = some (.lst ws') ∧ upd H5 p3 (.lst (ws ++ [.ref q5])) p = some (.lst ((zs.map mkS).map V.str)) ∧ Al2 (fun t y => Dp K (upd H5 p3 (.lst (ws ++ [.ref q5]))) y (rowOf es fs t)) ((zs.take (i + 1)).filter fun t => (clsE es fs t).isSome) ws' := fun r hr H5 q5 s5 h5 => by
        have w5 : Wr H5 p3 := Wr.lst (s5 _ _ h3)
        refine ⟨ws ++ [.ref q5], _, rfl, keep_new (s4.trans s5) n3, upd_same, by rw [upd_ne np3.symm]; exact s5 _ _ hp, ?_⟩
        rw [tk, List.filter_append, List.filter_cons_of_pos (by rw [hr]; rfl), List.filter_nil]
        have d5 : Dp K H5 (.ref q5) (rowOf es fs t) := by
          unfold rowOf
          rw [hr]
          exact .tup h5 (.cons (.str _) (.cons (.str _) .nil))
        exact Al2.snoc (R := fun t y => Dp K (upd H5 p3 (.lst (ws ++ [.ref q5]))) y (rowOf es fs t)) (dpOver w5 (tups_row es fs t) d5) (al.mono fun t y k => dpOver w5 (tups_row es fs t) (dpKeep s5 k))
      have less : clsE es fs t = none → ((zs.take (i + 1)).filter fun t => (clsE es fs t).isSome) = (zs.take i).filter fun t => (clsE es fs t).isSome := fun hr => by
        rw [tk, List.filter_append, List.filter_cons_of_neg (by rw [hr]; decide), List.filter_nil, List.append_nil]
      have lz : ws.length < sizeLine := by rw [sizeLine_eq]; omega
      rcases onE_get t oo2 with ⟨b1, w1⟩ | ⟨e2, v2, b1, w1, d2⟩
      · have hc : clsE es fs t = some "gone" := by
          unfold clsE
          rw [b1]
          rcases (mz t).1 (List.mem_of_getElem? ht) with ⟨e, he, pe⟩ | ⟨e, he, pe⟩
          · rw [← pe, atE_of nd he]
          · rw [← pe, atE_of nf he] at b1; cases b1
        exact ⟨_, rfl, _, rfl, D2, none, rfl, .inl ⟨k2, kT t, .inl hk2, rfl, w1.symm⟩, true, rfl, iteT ⟨_, rfl, .inl ⟨rfl, _, SqL.of h3⟩, _, rfl, two, fun H5 q5 s5 h5 => ⟨p3, _, _, rfl, rfl, s5 _ _ h3, lz, more "gone" hc H5 q5 s5 h5⟩⟩⟩
      · refine ⟨_, rfl, _, rfl, D2, _, rfl, .inl ⟨k2, kT t, .inl hk2, rfl, w1.symm⟩, false, rfl, iteF ?_⟩
        rcases onE_get t oo1 with ⟨a1, w0⟩ | ⟨e1, v1, a1, w0, d1⟩
        · have hc : clsE es fs t = some "new" := by
            unfold clsE
            rw [b1, a1]
          exact ⟨_, rfl, _, rfl, D1, none, rfl, .inl ⟨k1, kT t, .inl hk1, rfl, w0.symm⟩, true, rfl, iteT ⟨_, rfl, .inl ⟨rfl, _, SqL.of h3⟩, _, rfl, two, fun H5 q5 s5 h5 => ⟨p3, _, _, rfl, rfl, s5 _ _ h3, lz, more "new" hc H5 q5 s5 h5⟩⟩⟩
        · refine ⟨_, rfl, _, rfl, D1, _, rfl, .inl ⟨k1, kT t, .inl hk1, rfl, w0.symm⟩, false, rfl, iteF ?_⟩
          refine ⟨_, rfl, _, rfl, D1, v1, rfl, .inl ⟨k1, kT t, .inl hk1, rfl, w0.symm⟩, _, rfl, _, rfl, D2, v2, rfl, .inl ⟨k2, kT t, .inl hk2, rfl, w1.symm⟩, dEnt e1, dEnt e2, d1, d2, (fine_ent (se e1 (atE_mem a1).1)).shaped, (fine_ent (sf e2 (atE_mem b1).1)).shaped, _, rfl, ?_⟩
          rw [eqv_ent]
          by_cases c : e1 = e2
          · have hc : clsE es fs t = none := by
              unfold clsE
              rw [b1, a1]
              exact if_pos c
            rw [decide_eq_true c]
            refine iteF ⟨ws, _, rfl, s4, h3, hp, ?_⟩
            rw [less hc]
            exact al
          · have hc : clsE es fs t = some "other" := by
              unfold clsE
              rw [b1, a1]
              exact if_neg c
            rw [decide_eq_false c]
            exact iteT ⟨_, rfl, .inl ⟨rfl, _, SqL.of h3⟩, _, rfl, two, fun H5 q5 s5 h5 => ⟨p3, _, _, rfl, rfl, s5 _ _ h3, lz, more "other" hc H5 q5 s5 h5⟩⟩
    · obtain ⟨ws, y5, rfl, s4, h3, hp, al⟩ := k
      rw [List.length_map, List.length_map, List.take_length] at al
      have lw : ws.length ≤ 120 := by
        rw [al.length]
        exact Nat.le_trans (List.length_filter_le _ _) (by omega)
      refine ⟨_, rfl, p3, _, rfl, SqL.of h3, fun H5 t5 s5 h5 => q _ _ _ (s1.trans (s2.trans (s4.trans s5))) ⟨rz.filter _, fun t => ?_⟩ (by rw [← al.length]; exact lw) (.tup h5 (dpAllOf (al.mono fun t y k => dpKeep s5 k)))⟩
      rw [List.mem_filter, mz t]
      refine ⟨fun z => z.2, fun z => ⟨?_, z⟩⟩
      unfold clsE at z
      cases a1 : atE es t with
      | some e => exact .inl ⟨e, (atE_mem a1).1, (atE_mem a1).2⟩
      | none =>
        cases b1 : atE fs t with
        | some e => exact .inr ⟨e, (atE_mem b1).1, (atE_mem b1).2⟩
        | none => rw [a1, b1] at z; cases z

/-! ### what is due -/
def spDue (K : PySem.W.Frag) : Sp := fun vs H Q _ => ∃ (v u : V) (es fs : List Ent), vs = [v, u] ∧ Dp K H v (dTree es) ∧ Dp K H u (dTree fs) ∧ Nod es ∧ Nod fs ∧ (∀ e ∈ es, EntOk e) ∧ (∀ e ∈ fs, EntOk e) ∧ es.length + fs.length ≤ 120 ∧
  ∀ H' x us, Same H H' → Told es fs us → us.length ≤ 120 → Dp K H' x (.tuple (us.map (rowOf es fs))) → Q x H'
def rowL (es fs : List Ent) (t : List Nat) : PyData := .tuple [td t, sd ((clsE es fs t).getD "")]
theorem tups_rowL (es fs : List Ent) (t : List Nat) : tupsOnly (rowL es fs t) = true := by
  unfold rowL sd td
  simp [tupsOnly, tupsAll]
theorem cls_new {es fs : List Ent} {f : Ent} (nf : Nod fs) (hf : f ∈ fs) (h : (!decide (f.path ∈ es.map Ent.path)) = true) : clsE es fs f.path = some "new" := by
  have n : f.path ∉ es.map Ent.path := fun z => by rw [decide_eq_true z] at h; cases h
  unfold clsE
  rw [atE_of nf hf]
  cases a : atE es f.path with
  | none => rfl
  | some e => exact absurd (List.mem_map.mpr ⟨e, (atE_mem a).1, (atE_mem a).2⟩) n
/-- the rows that are due, sorted: just those that are told -/
theorem told_of {es fs : List Ent} {ps : List (V × List Nat)} (nd : Nod es) (nf : Nod fs) (e : ps.map Prod.snd = (es.map Ent.path).filter (fun t => (clsE es fs t).isSome) ++ (fs.filter fun f => !decide (f.path ∈ es.map Ent.path)).map Ent.path) :
    ∃ us, us = (ps.mergeSort (PySem.W.dataLe false fun x => rowL es fs x.2)).map Prod.snd ∧ Told es fs us := by
  refine ⟨_, rfl, ?_, fun t => ?_⟩
  · have pm : ((ps.mergeSort (PySem.W.dataLe false fun x => rowL es fs x.2)).map Prod.snd).Perm (ps.map Prod.snd) := (data_perm (fun x : V × List Nat => rowL es fs x.2) ps).map _
    have nn : (ps.map Prod.snd).Nodup := by
      rw [e, List.nodup_append]
      refine ⟨List.Pairwise.filter _ nd, ?_, fun a ha b hb z => ?_⟩
      · have sub : ((fs.filter fun f => !decide (f.path ∈ es.map Ent.path)).map Ent.path).Sublist (fs.map Ent.path) := (List.filter_sublist).map _
        exact sub.nodup nf
      · obtain ⟨f, hf, rfl⟩ := List.mem_map.mp hb
        have k := (List.mem_filter.mp hf).2
        have m := (List.mem_filter.mp ha).1
        rw [z] at m
        rw [decide_eq_true m] at k
        cases k
    have nn2 := pm.nodup_iff.mpr nn
    have up := data_up (fun x : V × List Nat => rowL es fs x.2) ps
    have up2 : ((ps.mergeSort (PySem.W.dataLe false fun x => rowL es fs x.2)).map Prod.snd).Pairwise (· ≤ ·) := by
      rw [List.pairwise_map]
      exact up.imp fun {a b} h => le_ss (x := fun x : V × List Nat => mkS x.2) (y := fun x : V × List Nat => Str.ofString ((clsE es fs x.2).getD "")) h
    have both := List.Pairwise.and nn2 up2
    refine both.imp fun {a b} h => ?_
    exact Classical.byContradiction fun n => h.1 (List.le_antisymm h.2 (List.not_lt.mp n))
  · have pm : ((ps.mergeSort (PySem.W.dataLe false fun x => rowL es fs x.2)).map Prod.snd).Perm (ps.map Prod.snd) := (data_perm (fun x : V × List Nat => rowL es fs x.2) ps).map _
    rw [pm.mem_iff, e, List.mem_append, List.mem_filter]
    constructor
    · rintro (z | z)
      · exact z.2
      · obtain ⟨f, hf, rfl⟩ := List.mem_map.mp z
        rw [cls_new nf (List.mem_filter.mp hf).1 (List.mem_filter.mp hf).2]
        rfl
    · intro z
      cases a : atE es t with
      | some x => exact .inl ⟨List.mem_map.mpr ⟨x, (atE_mem a).1, (atE_mem a).2⟩, z⟩
      | none =>
        cases b : atE fs t with
        | some x =>
          obtain ⟨m1, m2⟩ := atE_mem b
          refine .inr (List.mem_map.mpr ⟨x, List.mem_filter.mpr ⟨m1, ?_⟩, m2⟩)
          rw [m2, decide_eq_false fun k => ?_]
          · rfl
          · obtain ⟨y, hy, ey⟩ := List.mem_map.mp k
            rw [← ey, atE_of nd hy] at a
            cases a
        | none =>
          unfold clsE at z
          rw [a, b] at z
          cases z
theorem ok_due {f : Addr} {fd : FuncData} (Ev : Env K mg) (F : Fun K "_law_due" "_law_due" sLawDue f fd) : FnOk P w K mg base CX0 1 f fd ["_law_one", "_law_other"] (spDue K) := by
  refine F.ok scLawDue (fun vs H Q E h => ?_) (fun cdv A outer s H vs Q E hr h => ?_)
  · obtain ⟨v, u, es, fs, rfl, _⟩ := h; rfl
  · obtain ⟨v, u, es, fs, rfl, hv, hw, nd, nf, se, sf, few, q⟩ := h
    refine ⟨_, (pss_cons (ps_set (i := 2) scLawDue.nd rfl (.inl rfl) (pe_lst pa_nil))
      (pss_cons (ps_for PassesOwn.never rfl (pi_tup (pv 0)) (pg_name (i := 3) scLawDue.nd rfl (.inr rfl))
        (pss_cons (ps_setLc (i := 5) (own := [("_law_more", 6)]) (g := gName 6) (by rfl) scLawDue.nd rfl rfl (sw_true rfl rfl rfl (by decide +kernel)) (pi_tup (pv 1)) (blkOk_by (own := [("_law_more", 6)]) (N := nLawDue) (sc := defScope sLawDue) (by decide +kernel)) (fun _ _ _ _ _ => (pg_name (i := 6) scLawDue.nd rfl (.inl rfl))) (fun _ _ _ _ _ => pts_one (pt_cmpR op_eq (pe_ix (ix_tupq (K := K) rfl) (pv 6) pe_int (fun _ _ => rfl)) (pe_ix (ix_tupq (K := K) rfl) (pv 3) pe_int (fun _ _ => rfl)) (nomark _))) (fun _ _ _ _ _ => (pv 6)))
        (pss_one (ps_if (pt_not (pt_truth (pv 5) (by intro _; rfl)))
          (pss_one (ps_expr (pe_bm PySem.F.plainAttrs_list PySem.F.slot_list_append PySem.F.type_list_append mt_append (pv 2) (pa_cons (pe_tupU (pa_cons (pe_ix ix_tup (pv 3) pe_int (fun _ _ => rfl)) (pa_cons pe_str pa_nil))) pa_nil))))
          (pss_one (ps_if (pt_cmpR (op_neD hr.units) (pe_ix ix_list (pv 5) pe_int (fun _ _ => rfl)) (pv 3) (nomark _))
            (pss_one (ps_expr (pe_bm PySem.F.plainAttrs_list PySem.F.slot_list_append PySem.F.type_list_append mt_append (pv 2) (pa_cons (pe_tupU (pa_cons (pe_ix ix_tup (pv 3) pe_int (fun _ _ => rfl)) (pa_cons pe_str pa_nil))) pa_nil))))
            pss_nil))))))
      (pss_cons (ps_set (i := 4) scLawDue.nd rfl (.inr rfl) (pe_lc (own := [("_law_entry_here", 3)]) (g := gName 3) (tt := tYes) (by rfl) scLawDue.nd (pi_tup (pv 0)) (blkOk_by (own := [("_law_entry_here", 3)]) (N := nLawDue) (sc := defScope sLawDue) (by decide +kernel)) (fun _ _ _ _ _ => (pg_name (i := 3) scLawDue.nd rfl (by first | exact .inl rfl | exact .inr rfl))) (fun _ _ _ _ _ => pts_nil) (fun _ _ _ _ _ => (pe_ix (ix_tupq (K := K) rfl) (pv 3) pe_int (fun _ _ => rfl)))))
      (pss_cons (ps_set (i := 2) scLawDue.nd rfl (.inl rfl) (pe_op op_cat (pv 2) (pe_lc (own := [("_law_entry_here", 3)]) (g := gName 3) (by rfl) scLawDue.nd (pi_tup (pv 1)) (blkOk_by (own := [("_law_entry_here", 3)]) (N := nLawDue) (sc := defScope sLawDue) (by decide +kernel)) (fun _ _ _ _ _ => (pg_name (i := 3) scLawDue.nd rfl (by first | exact .inl rfl | exact .inr rfl))) (fun _ _ _ _ _ => pts_one (pt_cmpR (op_notIn_seqq (K := K) rfl) (pe_ix (ix_tupq (K := K) rfl) (pv 3) pe_int (fun _ _ => rfl)) (pv 4) (by rfl))) (fun _ _ _ _ _ => (pe_tupUq (K := K) rfl (pa_cons (pe_ix (ix_tupq (K := K) rfl) (pv 3) pe_int (fun _ _ => rfl)) (pa_cons pe_str pa_nil)))))))
      (pss_one (ps_ret (pe_callTy call_tupleU (by rfl) Ev.b_tuple (by decide +kernel) (pa_cons (pe_lc (own := [("_law_path_here", 7), ("_law_word", 8)]) (g := gTup K 2 (gCons (gName 7) (gCons (gName 8) (gNil)))) (tt := tYes) (by rfl) scLawDue.nd (pi_list (pe_callB (cr_sortedD (hu65 hr)) (by rfl) Ev.b_sorted (by decide +kernel) (pa_cons (pv 2) pa_nil))) (blkOk_by (own := [("_law_path_here", 7), ("_law_word", 8)]) (N := nLawDue) (sc := defScope sLawDue) (by decide +kernel)) (fun _ _ _ _ _ => (pg_tup (by rfl) (pgs_cons (pg_name (i := 7) scLawDue.nd rfl (.inl rfl)) (pgs_cons (pg_name (i := 8) scLawDue.nd rfl (.inl rfl)) pgs_nil)))) (fun _ _ _ _ _ => pts_nil) (fun _ _ _ _ _ => (pe_tupUq (K := K) rfl (pa_cons (pv 8) (pa_cons (pv 7) pa_nil))))) pa_nil)))))))), ?_⟩
    have two : (2 : Nat) ≤ sizeLine := by rw [sizeLine_eq]; decide
    obtain ⟨tv, xs, rfl, hx, ax⟩ := dpTree hv
    obtain ⟨tu, zs, rfl, hz, az⟩ := dpTree hw
    have lx : es.length = xs.length := ax.length.symm
    have lz : fs.length = zs.length := az.length.symm
    refine ⟨Nat.zero_le _, fun p1 n1 => ?_⟩
    refine ⟨_, rfl, tv, rfl, ⟨_, keepT (grow n1) hx⟩, for_tup (xs := xs) (fun i σ H' => ∃ (ws : List V) (y3 y5 : Option V), σ = [some (.ref tv), some (.ref tu), some (.ref p1), y3, none, y5, none, none, none] ∧ Same H H' ∧ H' p1 = some (.lst ws) ∧ Al2 (fun t y => Dp K H' y (rowL es fs t)) (((es.take i).map Ent.path).filter fun t => (clsE es fs t).isSome) ws)
      ⟨[], none, none, rfl, grow n1, upd_same, .nil⟩ (fun i σ H' _ k => ?_) (fun i x σ H1 hx1 k => ?_) (fun σ H1 k => ?_)⟩
    · obtain ⟨_, _, _, _, e, _⟩ := k
      exact keepT e hx
    · obtain ⟨ws, y3, y5, rfl, sm, h1, al⟩ := k
      obtain ⟨e, ge, de⟩ := ax.get hx1
      have me : e ∈ es := List.mem_of_getElem? ge
      have li : i < xs.length := (List.getElem?_eq_some_iff.mp hx1).1
      obtain ⟨t0, us, rfl, hu, u0, u1⟩ := dpWord (dpKeep sm de)
      refine ⟨_, rfl, tu, rfl, ⟨_, keepT sm hz⟩, fun D nD => ?_⟩
      refine lcR_tup (es := fs) (fun f => decide (f.path = e.path)) (fun f y H => Dp K H y (dEnt f)) nD (keepT sm hz) lz (by rw [sizeLine_eq]; omega) (fun _ => rfl) (fun f y H H' s h => dpKeep s h) (fun f y H ys zs hD mf h => dpOver (.lst hD) (dEnt_ok (sf f mf).small).1 h)
        (fun k f x H3 R hf hx3 s3 r => ?_) (fun k f x H3 R hf hx3 kk s3 r => ⟨_, rfl, r _ _ (Same.refl _) (dpKeep (sm.trans s3) (az.at hf hx3))⟩) (fun ys H3 al3 s3 h3 => ?_)
      · obtain ⟨t4, vs4, rfl, hv4, w0, w1⟩ := dpWord (dpKeep (sm.trans s3) (az.at hf hx3))
        have r' : R (decide (f.path = e.path)) H3 := r H3 (Same.refl _)
        have ed : decide (f.path = e.path) = decide (T f.path = T e.path) := decide_eq_decide.mpr ⟨fun z => by rw [z], T_inj⟩
        rw [ed] at r'
        exact ⟨_, rfl, t4, vs4, 1, _, rfl, rfl, hv4, at_ofA (j := 1) rfl w1, _, rfl, t0, us, 1, _, rfl, rfl, keepT s3 hu, at_ofA (j := 1) rfl u1, rfl, _, rfl, r'⟩
      · have h13 := s3 _ _ h1
        have lw : ws.length ≤ 120 := by
          rw [al.length]
          refine Nat.le_trans (List.length_filter_le _ _) ?_
          rw [List.length_map, List.length_take]
          omega
        have lsz : ws.length < sizeLine := by rw [sizeLine_eq]; omega
        have tk : (es.take (i + 1)).map Ent.path = (es.take i).map Ent.path ++ [e.path] := by rw [List.take_add_one, ge, List.map_append]; rfl
        have more : ∀ (r : String), clsE es fs e.path = some r → ∀ H5 q5, Same H3 H5 → SqT K H5 q5 [T e.path, .str (Str.ofString r)] → ∃ (ws' : List V) (y3 y5 : Option V), [some (.ref tv), some (.ref tu), some (.ref p1), some (.ref t0), none, some (.ref D), none, none, none] = [some (.ref tv), some (.ref tu), some (.ref p1), y3, none, y5, none, none, none] ∧ Same H (upd H5 p1 (.lst (ws ++ [.ref q5]))) ∧ upd H5 p1 (.lst (ws ++ [.ref q5])) p1 = some (.lst ws') ∧ Al2 (fun t y => Dp K (upd H5 p1 (.lst (ws ++ [.ref q5]))) y (rowL es fs t)) (((es.take (i + 1)).map Ent.path).filter fun t => (clsE es fs t).isSome) ws' := fun r hr H5 q5 s5 h5 => by
          have w5 : Wr H5 p1 := Wr.lst (s5 _ _ h13)
          refine ⟨ws ++ [.ref q5], _, _, rfl, keep_new (sm.trans (s3.trans s5)) n1, upd_same, ?_⟩
          rw [tk, List.filter_append, List.filter_cons_of_pos (by rw [hr]; rfl), List.filter_nil]
          have d5 : Dp K H5 (.ref q5) (rowL es fs e.path) := by
            unfold rowL
            rw [hr]
            exact .tup h5 (.cons (.str _) (.cons (.str _) .nil))
          exact Al2.snoc (R := fun t y => Dp K (upd H5 p1 (.lst (ws ++ [.ref q5]))) y (rowL es fs t)) (dpOver w5 (tups_rowL es fs e.path) d5) (al.mono fun t y k => dpOver w5 (tups_rowL es fs t) (dpKeep (s3.trans s5) k))
        have hfit : (fs.filter fun f => decide (f.path = e.path)).head? = atE fs e.path := List.head?_filter ..
        refine ⟨_, rfl, _, .inl ⟨_, SqL.of h3, rfl⟩, ?_⟩
        cases hf : atE fs e.path with
        | none =>
          rw [hf, List.head?_eq_none_iff] at hfit
          rw [hfit] at al3
          cases al3
          have hc : clsE es fs e.path = some "gone" := by
            unfold clsE
            rw [atE_of nd me, hf]
          exact iteT ⟨_, rfl, .inl ⟨rfl, _, SqL.of h13⟩, _, rfl, t0, us, 1, _, rfl, rfl, keepT s3 hu, at_ofA (j := 1) rfl u1, two, fun H5 q5 s5 h5 => ⟨p1, _, _, rfl, rfl, s5 _ _ h13, lsz, more "gone" hc H5 q5 s5 h5⟩⟩
        | some f =>
          rw [hf] at hfit
          cases hl : fs.filter (fun f => decide (f.path = e.path)) with
          | nil => rw [hl] at hfit; cases hfit
          | cons f' fr =>
            rw [hl] at hfit al3
            obtain rfl : f' = f := Option.some.inj hfit
            cases al3 with
            | @cons _ y _ yr dy _ =>
            refine iteF ?_
            refine ⟨_, rfl, D, _, 0, y, rfl, rfl, SqL.of h3, at_ofA (j := 0) rfl rfl, _, rfl, dEnt f', dEnt e, dy, dpKeep (sm.trans s3) de, (fine_ent (sf f' (atE_mem hf).1)).shaped, (fine_ent (se e me)).shaped, _, rfl, ?_⟩
            rw [eqv_ent]
            by_cases c : f' = e
            · have hc : clsE es fs e.path = none := by
                unfold clsE
                rw [atE_of nd me, hf]
                exact if_pos c.symm
              rw [decide_eq_true c]
              refine iteF ⟨ws, _, _, rfl, sm.trans s3, h13, ?_⟩
              rw [tk, List.filter_append, List.filter_cons_of_neg (by rw [hc]; decide), List.filter_nil, List.append_nil]
              exact al.mono fun t y k => dpKeep s3 k
            · have hc : clsE es fs e.path = some "other" := by
                unfold clsE
                rw [atE_of nd me, hf]
                exact if_neg (Ne.symm c)
              rw [decide_eq_false c]
              exact iteT ⟨_, rfl, .inl ⟨rfl, _, SqL.of h13⟩, _, rfl, t0, us, 1, _, rfl, rfl, keepT s3 hu, at_ofA (j := 1) rfl u1, two, fun H5 q5 s5 h5 => ⟨p1, _, _, rfl, rfl, s5 _ _ h13, lsz, more "other" hc H5 q5 s5 h5⟩⟩
    · obtain ⟨ws, y3, y5, rfl, sm, h1, al⟩ := k
      rw [← lx, List.take_length] at al
      have lA := al.length
      refine ⟨_, rfl, tv, rfl, ⟨_, keepT sm hx⟩, fun D nD => ?_⟩
      refine lcR_tup (es := es) (fun _ => true) (fun e y _ => y = T e.path) nD (keepT sm hx) lx (by rw [sizeLine_eq]; omega) (fun _ => rfl) (fun _ _ _ _ _ h => h) (fun _ _ _ _ _ _ _ h => h) (fun k e x H3 R he hx3 s3 r => r _ (Same.refl _)) (fun k e x H3 R he hx3 _ s3 r => ?_) (fun ys H3 al3 s3 h3 => ?_)
      · obtain ⟨t4, vs4, rfl, hv4, w0, w1⟩ := dpWord (dpKeep (sm.trans s3) (ax.at he hx3))
        exact ⟨_, rfl, t4, vs4, 1, _, rfl, rfl, hv4, at_ofA (j := 1) rfl w1, r _ _ (Same.refl _) rfl⟩
      · rw [List.filter_eq_self.mpr fun _ _ => rfl] at al3
        obtain rfl := al3.eq_map
        have e4 : es.map (fun e => T e.path) = (es.map Ent.path).map T := by rw [List.map_map]; rfl
        rw [e4] at h3
        have sm3 := sm.trans s3
        have h13 := s3 _ _ h1
        refine ⟨_, rfl, _, rfl, tu, rfl, ⟨_, keepT sm3 hz⟩, fun D2 n2 => ?_⟩
        refine lcR_tup (es := fs) (fun f => !decide (f.path ∈ es.map Ent.path)) (fun f y H => Dp K H y (rowL es fs f.path)) n2 (keepT sm3 hz) lz (by rw [sizeLine_eq]; omega) (fun _ => rfl) (fun f y H H' s h => dpKeep s h) (fun f y H ys zs hD mf h => dpOver (.lst hD) (tups_rowL es fs f.path) h)
          (fun k f x H4 R hf hx4 s4 r => ?_) (fun k f x H4 R hf hx4 kk s4 r => ?_) (fun ys H4 al4 s4 h4 => ?_)
        · obtain ⟨t4, vs4, rfl, hv4, w0, w1⟩ := dpWord (dpKeep (sm3.trans s4) (az.at hf hx4))
          have r' : R (!decide (f.path ∈ es.map Ent.path)) H4 := r H4 (Same.refl _)
          rw [← inV_txt] at r'
          refine ⟨_, rfl, t4, vs4, 1, _, rfl, rfl, hv4, at_ofA (j := 1) rfl w1, _, rfl, D, _, rfl, .inl (SqL.of (s4 _ _ h3)), rfl, ?_, _, rfl, r'⟩
          rw [List.all_map]
          exact List.all_eq_true.mpr fun _ _ => rfl
        · obtain ⟨t4, vs4, rfl, hv4, w0, w1⟩ := dpWord (dpKeep (sm3.trans s4) (az.at hf hx4))
          refine ⟨_, rfl, t4, vs4, 1, _, rfl, rfl, hv4, at_ofA (j := 1) rfl w1, two, fun H5 q5 s5 h5 => r _ _ s5 ?_⟩
          have hc := cls_new nf (List.mem_of_getElem? hf) kk
          unfold rowL
          rw [hc]
          exact .tup h5 (.cons (.str _) (.cons (.str _) .nil))
        · have h14 := s4 _ _ h13
          have lB := al4.length
          have lB2 := List.length_filter_le (fun f : Ent => !decide (f.path ∈ es.map Ent.path)) fs
          have lA2 := List.length_filter_le (fun t => (clsE es fs t).isSome) (es.map Ent.path)
          rw [List.length_map] at lA2
          refine ⟨p1, D2, ws, ys, rfl, rfl, h14, h4, by rw [sizeLine_eq]; omega, fun p5 n5 => ?_⟩
          have aL := al_append (al.mono fun t y k => dpKeep ((s3.trans s4).trans (grow (o := .lst (ws ++ ys)) n5)) k) (al_map (R := fun t y => Dp K (upd H4 p5 (.lst (ws ++ ys))) y (rowL es fs t)) (f := Ent.path) (al4.mono fun f y k => dpKeep (grow n5) k))
          obtain ⟨qs, q1, q2, q3⟩ := al_pairs aL
          obtain ⟨ps, e5⟩ : ∃ ps : List (V × List Nat), ps = qs.map Prod.swap := ⟨_, rfl⟩
          have e6 : ps.map Prod.fst = ws ++ ys := by rw [← q2, e5, List.map_map]; rfl
          have e7 : ps.map Prod.snd = (es.map Ent.path).filter (fun t => (clsE es fs t).isSome) ++ (fs.filter fun f => !decide (f.path ∈ es.map Ent.path)).map Ent.path := by rw [← q1, e5, List.map_map]; rfl
          have e8 : ∀ x ∈ ps, Dp K (upd H4 p5 (.lst (ws ++ ys))) x.1 (rowL es fs x.2) := fun x hx => by
            rw [e5] at hx
            obtain ⟨y, hy, rfl⟩ := List.mem_map.mp hx
            exact q3 y hy
          obtain ⟨us, tu1, tu2⟩ := told_of nd nf e7
          refine ⟨_, rfl, List Nat, rowL es fs, p5, ps, rfl, by rw [e6]; exact SqL.of upd_same, e8, PySem.W.AllAlike.of fun b b' => by simp [rowL, td, sd, PySem.W.alike, PySem.W.alikeAll], PySem.W.Sortable.tuples fun b => ⟨_, _, rfl⟩, fun x _ => by simp [rowL, td, sd, PyData.depth, PyData.depthAll], fun p6 n6 => ?_⟩
          have pm := data_perm (fun x : V × List Nat => rowL es fs x.2) ps
          have lps : ps.length ≤ 120 := by
            have := congrArg List.length e6
            rw [List.length_map, List.length_append] at this
            omega
          refine ⟨p6, rfl, ⟨_, SqL.of upd_same⟩, fun D7 n7 => ?_⟩
          refine lcT_list (es := ps.mergeSort (PySem.W.dataLe false fun x => rowL es fs x.2)) (fun x y H => Dp K H y (rowOf es fs x.2)) n7 (SqL.of upd_same) (by rw [List.length_map]) (by rw [pm.length_eq, sizeLine_eq]; omega) (fun x y H H' s h => dpKeep s h) (fun x y H ys zs hD _ h => dpOver (.lst hD) (tups_row es fs x.2) h)
            (fun k x v H8 R N hk hv s8 r => ?_) (fun ys H8 al8 s8 h8 => ?_)
          · have ev : v = x.1 := by
              rw [List.getElem?_map, hk] at hv
              exact (Option.some.inj hv).symm
            have dx := dpKeep ((grow n6).trans s8) (e8 x (pm.mem_iff.mp (List.mem_of_getElem? hk)))
            rw [← ev] at dx
            obtain ⟨v2, d2, rfl, hv2, ad⟩ : ∃ v2 d2, v = .ref v2 ∧ SqT K H8 v2 d2 ∧ DpAll K H8 d2 [td x.2, sd ((clsE es fs x.2).getD "")] := by
              cases dx with
              | tup h1 h2 => exact ⟨_, _, rfl, h1, h2⟩
            cases ad with
            | cons b1 br =>
            cases br with
            | cons b2 bn =>
            cases bn
            cases b1
            cases b2
            refine ⟨v2, _, rfl, hv2, rfl, _, _, rfl, _, _, rfl, rfl, rfl, ?_⟩
            unfold tYes
            dsimp only
            rw [if_pos rfl]
            refine ⟨_, rfl, _, rfl, two, fun H9 q9 s9 h9 => r _ _ s9 (.tup h9 (.cons (.str _) (.cons (.str _) .nil)))⟩
          · refine ⟨D7, _, rfl, SqL.of h8, fun H9 t9 s9 h9 => ?_⟩
            refine q _ _ us (sm3.trans (s4.trans ((grow n5).trans ((grow n6).trans (s8.trans s9))))) tu2 (by rw [tu1, List.length_map, pm.length_eq]; exact lps) ?_
            have e9 : us.map (rowOf es fs) = (ps.mergeSort (PySem.W.dataLe false fun x => rowL es fs x.2)).map fun x => rowOf es fs x.2 := by rw [tu1, List.map_map]; rfl
            rw [e9]
            exact .tup h9 (dpAllOf (f := fun x : V × List Nat => rowOf es fs x.2) (al8.mono fun x y k => dpKeep s9 k))

/-! ### an entry with another body -/
def spTurn (K : PySem.W.Frag) : Sp := fun vs H Q _ => ∃ (v : V) (c : Int) (e : Ent), vs = [v, .int c] ∧ Dp K H v (dEnt e) ∧ EntOk e ∧ (∀ t b, e = .file t b → b.length ≤ 100) ∧ ∀ H' v' e', Same H H' → EntOk e' → e'.path = e.path → Dp K H' v' (dEnt e') → Q v' H'
theorem ok_turn {f : Addr} {fd : FuncData} (Ev : Env K mg) (CLawD : Cal P w K mg base "_law_d" 1 ["_law_cell_here", "_law_place", "_law_many"] spD) (F : Fun K "_law_turned" "_law_turned" sLawTurned f fd) : FnOk P w K mg base CX0 2 f fd ["_law_entry_here", "_law_cell_here"] (spTurn K) := by
  refine F.ok scLawTurned (fun vs H Q E h => ?_) (fun cdv A outer s H vs Q E hr h => ?_)
  · obtain ⟨v, c, e, rfl, _⟩ := h; rfl
  · obtain ⟨v, c, e, rfl, hv, ek, sm, q⟩ := h
    refine ⟨_, (pss_cons (ps_if (PW.pt (pw_and (pt_cmpR op_eq (pe_ix ix_tup (pv 0) pe_int (fun _ _ => rfl)) pe_str (nomark _)) (pw_and1 (pt_cmpR op_eq (pe_c CLawD (hr.mono (by omega)) (pa_cons (pv 1) (pa_cons pe_int (pa_cons pe_int pa_nil)))) pe_int (nomark _)))))
        (pss_one (ps_ret (pe_op op_catU (pe_slice sl_tupU (pv 0) po_none (po_some pe_int)) (pe_tupU (pa_cons (pe_op op_catU (pe_ix ix_tup (pv 0) pe_int (fun _ _ => rfl)) (pe_tupU (pa_cons pe_int pa_nil))) pa_nil)))))
        pss_nil)
      (pss_one (ps_ret (pv 0)))), ?_⟩
    have two : (2 : Nat) ≤ sizeLine := by rw [sizeLine_eq]; decide
    refine seq_by (t := tIfS _ _ _) (fun σ H' => σ = [some v, some (.int c)] ∧ Same H H') (fun σ H1 k => ?_) (fun nx => ?_)
    · obtain ⟨rfl, s1⟩ := k
      exact ⟨_, rfl, q _ _ e s1 ek rfl (dpKeep s1 hv)⟩
    · obtain ⟨t0, us, rfl, hu, k⟩ := dpEnt hv
      cases e with
      | folder t =>
        subst k
        exact ⟨_, rfl, t0, _, 0, _, rfl, rfl, hu, at_ofA (j := 0) rfl rfl, rfl, false, (by decide +kernel), iteF (iteF (nx _ _ ⟨rfl, Same.refl _⟩))⟩
      | link t g =>
        subst k
        exact ⟨_, rfl, t0, _, 0, _, rfl, rfl, hu, at_ofA (j := 0) rfl rfl, rfl, false, (by decide +kernel), iteF (iteF (nx _ _ ⟨rfl, Same.refl _⟩))⟩
      | file t b =>
        obtain ⟨tb, rfl, hb⟩ := k
        refine ⟨_, rfl, t0, _, 0, _, rfl, rfl, hu, at_ofA (j := 0) rfl rfl, rfl, true, (by decide +kernel), iteT ?_⟩
        refine ⟨_, rfl, c, 1, 2, rfl, by decide, by decide, by decide, fun d f0 f1 => ⟨rfl, _, rfl, ?_⟩⟩
        have ly : b.length ≤ 100 := sm t b rfl
        by_cases z : d = 0
        · rw [z, decide_eq_true rfl]
          refine iteT ⟨_, rfl, 2, rfl, t0, _, rfl, hu, fun H2 t2 s2 h2 => ?_⟩
          have e2 : cutV [V.str (Str.ofString "file"), T t, V.ref tb] none (some 2) = [V.str (Str.ofString "file"), T t] := rfl
          rw [e2] at h2
          refine ⟨_, rfl, t0, _, 2, _, rfl, rfl, keepT s2 hu, at_ofA (j := 2) rfl rfl, by rw [sizeLine_eq]; decide, fun H3 t3 s3 h3 => ?_⟩
          refine ⟨tb, t3, _, _, rfl, rfl, keepT (s2.trans s3) hb, h3, by rw [List.length_map, sizeLine_eq]; show b.length + 1 ≤ _; omega, fun H4 t4 s4 h4 => ?_⟩
          refine ⟨by rw [sizeLine_eq]; simp, fun H5 t5 s5 h5 => ?_⟩
          refine ⟨t2, t5, _, _, rfl, rfl, keepT (s3.trans (s4.trans s5)) h2, h5, by rw [sizeLine_eq]; simp, fun H6 t6 s6 h6 => ?_⟩
          have h46 := keepT (s5.trans s6) h4
          have e4 : b.map V.int ++ [V.int 1] = (b ++ [1]).map V.int := by rw [List.map_append]; rfl
          rw [e4] at h46
          refine q _ _ (.file t (b ++ [1])) (s2.trans (s3.trans (s4.trans (s5.trans s6)))) ⟨ek.1, fun x hx => ?_, by rw [List.length_append]; show b.length + 1 ≤ _; omega⟩ rfl (.tup h6 (.cons (.str _) (.cons (.str _) (.cons (dpTup h46) .nil))))
          rcases List.mem_append.mp hx with k | k
          · exact ek.2.1 x k
          · rw [List.mem_singleton.mp k]
            decide
        · rw [decide_eq_false fun k => z (V.int.inj k)]
          exact iteF (nx _ _ ⟨rfl, Same.refl _⟩)
theorem choose_turn {K : PySem.W.Frag} {H : Hp} : ∀ {fs : List Ent} {ys : List V}, Al2 (fun e y => ∃ e', EntOk e' ∧ e'.path = e.path ∧ Dp K H y (dEnt e')) fs ys → ∃ gs : List Ent, gs.map Ent.path = fs.map Ent.path ∧ (∀ e ∈ gs, EntOk e) ∧ Al2 (fun e y => Dp K H y (dEnt e)) gs ys
  | _, _, .nil => ⟨[], rfl, (fun e h => nomatch h), .nil⟩
  | _, _, .cons ⟨e', k1, k2, k3⟩ k => by
    obtain ⟨gs, g1, g2, g3⟩ := choose_turn k
    refine ⟨e' :: gs, by rw [List.map_cons, List.map_cons, g1, k2], fun e he => ?_, .cons k3 g3⟩
    rcases List.mem_cons.mp he with rfl | h
    · exact k1
    · exact g2 e h
theorem tups_rows (es fs : List Ent) (us : List (List Nat)) (h : us.length ≤ 120) : tupsOnly (.tuple (us.map (rowOf es fs))) = true ∧ PyData.depth (.tuple (us.map (rowOf es fs))) ≤ 4 := by
  have a : ∀ us : List (List Nat), tupsAll (us.map (rowOf es fs)) = true ∧ PyData.depthAll (us.map (rowOf es fs)) ≤ 1 := fun us => by
    induction us with
    | nil => exact ⟨rfl, by simp [PyData.depthAll]⟩
    | cons t us ih =>
      refine ⟨by rw [List.map_cons, tupsAll, tups_row, ih.1]; rfl, ?_⟩
      rw [List.map_cons, PyData.depthAll]
      have d : PyData.depth (rowOf es fs t) ≤ 1 := by simp [rowOf, sd, td, PyData.depth, PyData.depthAll]
      have := ih.2
      omega
  refine ⟨?_, ?_⟩
  · rw [tupsOnly, (a us).1, decide_eq_true (by rw [List.length_map]; omega)]
    rfl
  · rw [PyData.depth]
    have := (a us).2
    omega
structure Fit (es : List Ent) : Prop where
  nod : Nod es
  ok : ∀ e ∈ es, EntOk e
/-- a pair of trees -/
def Two (K : PySem.W.Frag) (H : Hp) (x : V) : Prop := ∃ (t : Addr) (u v : V) (A B : List Ent), x = .ref t ∧ SqT K H t [u, v] ∧ Dp K H u (dTree A) ∧ Dp K H v (dTree B) ∧ Fit A ∧ Fit B ∧ A.length + B.length ≤ 120
def spLaw (K : PySem.W.Frag) (tbs : List Addr) : Sp := fun vs H Q _ => ∃ (a : Addr) (ns : List Int), vs = [.ref a] ∧ SqL K H a (ns.map V.int) ∧ ns.length ≤ 63 ∧ Tabs tbs H ∧ ∀ H', Q (.bl true) H'
theorem ok_law {f : Addr} {fd : FuncData} {tb : List Addr} (Ev : Env K mg) (CDifferences : Cal P w K mg base "differences" 2 ["one", "other"] (spDiff K)) (CLawCell : Cal P w K mg base "_law_cell" 1 ["_law_script", "_law_k"] (spCellA K)) (CLawSame : Cal P w K mg base "_law_same" 5 ["_law_told", "_law_due_here"] (spSameD K 4))
    (CLawTree : Cal P w K mg base "_law_tree" 6 ["_law_cells"] (spTree K)) (CLawDue : Cal P w K mg base "_law_due" 1 ["_law_one", "_law_other"] (spDue K)) (CLawTurned : Cal P w K mg base "_law_turned" 2 ["_law_entry_here", "_law_cell_here"] (spTurn K)) (F : Fun K "law" "law" sLaw f fd) : FnOk P w K mg base CX0 8 f fd ["_law_script"] (spLaw K tb) := by
  refine F.ok scLaw (fun vs H Q E h => ?_) (fun cdv A outer s H vs Q E hr h => ?_)
  · obtain ⟨a, ns, rfl, _⟩ := h; rfl
  · obtain ⟨sa, ns, rfl, hS, hlen, _, q⟩ := h
    refine ⟨_, (pss_cons (ps_set (i := 1) scLaw.nd rfl (.inl rfl) (pe_slice sl_list (pv 0) (po_some pe_int) (po_some pe_int)))
      (pss_cons (ps_set (i := 2) scLaw.nd rfl (.inl rfl) (pe_c CLawTree (hr.mono (by omega)) (pa_cons (pv 1) pa_nil)))
      (pss_cons (ps_set (i := 3) scLaw.nd rfl (.inl rfl) (pe_op op_mod (pe_c CLawCell (hr.mono (by omega)) (pa_cons (pv 0) (pa_cons pe_int pa_nil))) pe_int))
      (pss_cons (ps_set (i := 4) scLaw.nd rfl (.inl rfl) (pe_c CLawTree (hr.mono (by omega)) (pa_cons (pe_op op_cat (pe_slice sl_list (pv 1) po_none (po_some (pv 3))) (pe_slice sl_list (pv 0) (po_some pe_int) (po_some (pe_op op_add pe_int (pe_op op_mod (pe_op op_fdiv (pe_c CLawCell (hr.mono (by omega)) (pa_cons (pv 0) (pa_cons pe_int pa_nil))) pe_int) pe_int))))) pa_nil)))
      (pss_cons (ps_set (i := 4) scLaw.nd rfl (.inl rfl) (pe_callTy call_tupleU (by rfl) Ev.b_tuple (by decide +kernel) (pa_cons (pe_lc (own := [("_law_k", 8), ("_law_entry_here", 9)]) (g := gTup K 2 (gCons (gName 8) (gCons (gName 9) (gNil)))) (tt := tYes) (by rfl) scLaw.nd (pi_enumT (by rfl) Ev.b_enumerate (pa_cons (pv 4) pa_nil)) (blkOk_by (own := [("_law_k", 8), ("_law_entry_here", 9)]) (N := nLaw) (sc := defScope sLaw) (by decide +kernel)) (fun _ _ _ _ _ => (pg_tup (by rfl) (pgs_cons (pg_name (i := 8) scLaw.nd rfl (.inl rfl)) (pgs_cons (pg_name (i := 9) scLaw.nd rfl (.inl rfl)) pgs_nil)))) (fun _ _ _ _ _ => pts_nil) (fun _ _ _ _ _ => (pe_c CLawTurned (hr.mono (by omega)) (pa_cons (pv 9) (pa_cons (pe_op op_add (pv 8) (pe_c CLawCell (hr.mono (by omega)) (pa_cons (pv 0) (pa_cons pe_int pa_nil)))) pa_nil))))) pa_nil)))
      (pss_cons (ps_set (i := 5) scLaw.nd rfl (.inl rfl) (pe_callTy call_tupleU (by rfl) Ev.b_tuple (by decide +kernel) (pa_cons (pe_lc (own := [("_law_entry_here", 9)]) (g := gName 9) (tt := tYes) (by rfl) scLaw.nd (pi_tup (pv 2)) (blkOk_by (own := [("_law_entry_here", 9)]) (N := nLaw) (sc := defScope sLaw) (by decide +kernel)) (fun _ _ _ _ _ => (pg_name (i := 9) scLaw.nd rfl (.inl rfl))) (fun _ _ _ _ _ => pts_nil) (fun _ _ _ _ _ => (pe_tupUq (K := K) rfl (pa_cons pe_str (pa_cons (pe_ix (ix_tupq (K := K) rfl) (pv 9) pe_int (fun _ _ => rfl)) pa_nil))))) pa_nil)))
      (pss_cons (ps_for PassesOwn.never rfl (pi_list (pe_lst (pa_cons (pe_tupU (pa_cons (pv 2) (pa_cons (pv 4) pa_nil))) (pa_cons (pe_tupU (pa_cons (pv 4) (pa_cons (pv 2) pa_nil))) (pa_cons (pe_tupU (pa_cons (pv 2) (pa_cons (pv 2) pa_nil))) (pa_cons (pe_tupU (pa_cons (pv 2) (pa_cons (pe_tupU pa_nil) pa_nil))) (pa_cons (pe_tupU (pa_cons (pe_tupU pa_nil) (pa_cons (pv 4) pa_nil))) (pa_cons (pe_tupU (pa_cons (pv 2) (pa_cons (pv 5) pa_nil))) (pa_cons (pe_tupU (pa_cons (pv 5) (pa_cons (pv 2) pa_nil))) pa_nil))))))))) (pg_tup (by rfl) (pgs_cons (pg_name (i := 6) scLaw.nd rfl (.inl rfl)) (pgs_cons (pg_name (i := 7) scLaw.nd rfl (.inl rfl)) pgs_nil)))
        (pss_one (ps_if (pt_not (pt_val (pe_c CLawSame (hr.mono (by omega)) (pa_cons (pe_c CDifferences (hr.mono (by omega)) (pa_cons (pv 6) (pa_cons (pv 7) pa_nil))) (pa_cons (pe_c CLawDue (hr.mono (by omega)) (pa_cons (pv 6) (pa_cons (pv 7) pa_nil))) pa_nil)))))
          (pss_one (ps_ret pe_bl))
          pss_nil)))
      (pss_one (ps_ret pe_bl))))))))), ?_⟩
    have two : (2 : Nat) ≤ sizeLine := by rw [sizeLine_eq]; decide
    refine ⟨_, rfl, 1, rfl, 7, rfl, sa, _, rfl, hS, fun p1 n1 => ?_⟩
    rw [show cutV (ns.map V.int) (some 1) (some 7) = ((ns.drop 1).take (7 - 1)).map V.int from cut_mid ns 1 7]
    refine ⟨_, rfl, p1, _, rfl, SqL.of upd_same, by rw [List.length_take]; omega, fun H1 tv es s1' tok les tiny hv => ?_⟩
    have s1 : Same H H1 := (grow n1).trans s1'
    have h11 : H1 p1 = some (.lst (((ns.drop 1).take (7 - 1)).map V.int)) := s1' _ _ upd_same
    have l48 : es.length ≤ 48 := by
      rw [List.length_take] at les
      omega
    refine ⟨_, rfl, sa, ns, 0, rfl, s1.seq hS, fun c0 => ?_⟩
    refine ⟨c0, 7, rfl, rfl, (show (0 : Int) < 7 by decide), ?_⟩
    have c7 := Int.emod_lt_of_pos c0 (show (0 : Int) < 7 by decide)
    have c70 := Int.emod_nonneg c0 (show (7 : Int) ≠ 0 by decide)
    obtain ⟨k7, ek7⟩ : ∃ k7 : Nat, c0 % 7 = (k7 : Int) := ⟨(c0 % 7).toNat, by omega⟩
    refine ⟨_, rfl, _, rfl, (k7 : Int), congrArg V.int ek7, p1, _, rfl, SqL.of h11, fun p2 n2 => ?_⟩
    rw [show cutV (((ns.drop 1).take (7 - 1)).map V.int) none (some (k7 : Int)) = (((ns.drop 1).take (7 - 1)).take k7).map V.int from cut_to _ k7]
    refine ⟨_, rfl, 7, rfl, _, rfl, sa, ns, 0, rfl, (grow n2).seq (s1.seq hS), fun c1 => ?_⟩
    have c4 := Int.emod_lt_of_pos (c1 / 7) (show (0 : Int) < 4 by decide)
    have c40 := Int.emod_nonneg (c1 / 7) (show (4 : Int) ≠ 0 by decide)
    obtain ⟨k4, ek4⟩ : ∃ k4 : Nat, c1 / 7 % 4 = (k4 : Int) := ⟨(c1 / 7 % 4).toNat, by omega⟩
    refine ⟨c1, 7, rfl, rfl, ⟨by decide, by decide⟩, _, 4, rfl, rfl, (show (0 : Int) < 4 by decide), _, _, rfl, rfl, ((7 + k4 : Nat) : Int), congrArg V.int (by rw [ek4]; omega), sa, _, rfl, (grow n2).seq (s1.seq hS), fun p3 n3 => ?_⟩
    rw [show cutV (ns.map V.int) (some 7) (some ((7 + k4 : Nat) : Int)) = ((ns.drop 7).take (7 + k4 - 7)).map V.int from cut_mid ns 7 (7 + k4)]
    refine ⟨p2, p3, _, _, rfl, rfl, grow n3 _ _ upd_same, upd_same, by rw [List.length_map, List.length_map, List.length_take, List.length_take, List.length_take, sizeLine_eq]; omega, fun p4 n4 => ?_⟩
    rw [← List.map_append]
    refine ⟨p4, _, rfl, SqL.of upd_same, by rw [List.length_append, List.length_take, List.length_take, List.length_take]; omega, fun H2 tw fs s2' tok2 les2 tiny2 hw => ?_⟩
    have s2 : Same H1 H2 := (grow n2).trans ((grow n3).trans ((grow n4).trans s2'))
    have l72 : fs.length ≤ 72 := by
      rw [List.length_append, List.length_take, List.length_take, List.length_take] at les2
      omega
    obtain ⟨aw, zs, rfl, hz, az⟩ := dpTree hw
    have lz : fs.length = zs.length := az.length.symm
    refine ⟨_, rfl, aw, _, rfl, hz, fun D nD => ?_⟩
    refine lcWp (es := fs) (G := fun e y H => ∃ e', EntOk e' ∧ e'.path = e.path ∧ Dp K H y (dEnt e')) (walk_enumT (xs := zs)) lz nD (by rw [← lz, sizeLine_eq]; omega) (fun H s => keepT s hz) (fun _ _ => rfl) (fun e y H H' s ⟨e', k1, k2, k3⟩ => ⟨e', k1, k2, dpKeep s k3⟩) (fun e y H us ws hD ⟨e', k1, k2, k3⟩ => ⟨e', k1, k2, dpOver (.lst hD) (dEnt_ok k1.small).1 k3⟩)
      (fun i e x y H3 R hi he fx fy s3 r => ?_) (fun ys H3 al3 s3 h3 => ?_)
    · have ex : x = .int (i : Int) := (Option.some.inj fx).symm
      subst ex
      have me : e ∈ fs := List.mem_of_getElem? he
      refine ⟨_, rfl, _, rfl, _, rfl, sa, ns, 0, rfl, (s1.trans (s2.trans s3)).seq hS, fun c2 => ?_⟩
      exact ⟨_, _, rfl, rfl, y, _, e, rfl, dpKeep s3 (az.at he fy), tok2.ok e me, tiny2 e me, fun H4 v' e' s4 k1 k2 k3 => r _ _ s4 ⟨e', k1, k2, k3⟩⟩
    · obtain ⟨gs, g1, g2, g3⟩ := choose_turn al3
      have lg : gs.length = fs.length := by simpa using congrArg List.length g1
      have fitE : Fit es := ⟨RiseE.nod tok.rise, tok.ok⟩
      have fitG : Fit gs := ⟨by show (gs.map Ent.path).Nodup; rw [g1]; exact RiseE.nod tok2.rise, g2⟩
      refine ⟨D, _, rfl, SqL.of h3, fun H4 t4 s4 h4 => ?_⟩
      have hg : Dp K H4 (.ref t4) (dTree gs) := dpTreeOf h4 (g3.mono fun e y k => dpKeep s4 k)
      have s14 : Same H1 H4 := s2.trans (s3.trans s4)
      have hv4 := dpKeep s14 hv
      obtain ⟨av, xs, rfl, hx, ax⟩ := dpTree hv4
      have lx : es.length = xs.length := ax.length.symm
      refine ⟨_, rfl, av, rfl, ⟨_, hx⟩, fun D5 n5 => ?_⟩
      refine lcR_tup (es := es) (fun _ => true) (fun e y H => Dp K H y (dEnt (.folder e.path))) n5 hx lx (by rw [sizeLine_eq]; omega) (fun _ => rfl) (fun e y H H' s h => dpKeep s h) (fun e y H us ws hD _ h => dpOver (.lst hD) (dEnt_ok (e := .folder e.path) (fun _ _ z => nomatch z)).1 h) (fun k e x H6 R he hx6 s6 r => r _ (Same.refl _)) (fun k e x H6 R he hx6 _ s6 r => ?_) (fun ws H6 al6 s6 h6 => ?_)
      · obtain ⟨t7, vs7, rfl, hv7, w0, w1⟩ := dpWord (dpKeep s6 (ax.at he hx6))
        exact ⟨_, rfl, t7, vs7, 1, _, rfl, rfl, hv7, at_ofA (j := 1) rfl w1, two, fun H8 t8 s8 h8 => r _ _ s8 (.tup h8 (.cons (.str _) (.cons (.str _) .nil)))⟩
      rw [List.filter_eq_self.mpr fun _ _ => rfl] at al6
      have fitF : Fit (es.map fun e => Ent.folder e.path) := by
        refine ⟨?_, fun e he => ?_⟩
        · show ((es.map fun e => Ent.folder e.path).map Ent.path).Nodup
          rw [List.map_map]
          exact fitE.nod
        · obtain ⟨x, hx, rfl⟩ := List.mem_map.mp he
          exact (tok.ok x hx).path
      refine ⟨D5, _, rfl, SqL.of h6, fun H7 t7 s7 h7 => ?_⟩
      have hf : Dp K H7 (.ref t7) (dTree (es.map fun e => Ent.folder e.path)) := dpTreeOf h7 (al_map (R := fun e y => Dp K H7 y (dEnt e)) (f := fun e : Ent => Ent.folder e.path) (al6.mono fun e y k => dpKeep s7 k))
      have hg7 := dpKeep (s6.trans s7) hg
      have hv7 := dpKeep (s6.trans s7) hv4
      have fitN : Fit [] := ⟨List.nodup_nil, fun e h => nomatch h⟩
      have lf : (es.map fun e => Ent.folder e.path).length = es.length := List.length_map _
      refine ⟨_, rfl, _, rfl, two, fun Ha ta xa ha => ?_⟩
      refine ⟨_, rfl, _, rfl, two, fun Hb tb xb hb => ?_⟩
      refine ⟨_, rfl, _, rfl, two, fun Hc tc xc hc => ?_⟩
      refine ⟨_, rfl, Nat.zero_le _, fun Hn tn xn hn => ⟨two, fun Hd td' xd hd => ?_⟩⟩
      refine ⟨Nat.zero_le _, fun Hm tm xm hm => ⟨_, rfl, two, fun He te' xe he => ?_⟩⟩
      refine ⟨_, rfl, _, rfl, two, fun Hf tf xf hf2 => ?_⟩
      refine ⟨_, rfl, _, rfl, two, fun Hg tg xg hg2 => ?_⟩
      refine ⟨by simp [sizeLine_eq], fun pl nl => ?_⟩
      have ys1 : Same H7 Hc := xa.trans (xb.trans xc)
      have ys2 : Same Hc Hd := xn.trans xd
      have ys3 : Same Hd He := xm.trans xe
      have ys4 : Same He Hg := xf.trans xg
      have zl : Same Hg (upd Hg pl (.lst [.ref ta, .ref tb, .ref tc, .ref td', .ref te', .ref tf, .ref tg])) := grow nl
      have toG : Same H7 Hg := ys1.trans (ys2.trans (ys3.trans ys4))
      have dE : Dp K Hg (.ref av) (dTree es) := dpKeep toG hv7
      have dG : Dp K Hg (.ref t4) (dTree gs) := dpKeep toG hg7
      have dF : Dp K Hg (.ref t7) (dTree (es.map fun e => Ent.folder e.path)) := dpKeep toG hf
      have dN : Dp K Hg (.ref tn) (dTree []) := .tup (keepT (xd.trans (ys3.trans ys4)) hn) .nil
      have dM : Dp K Hg (.ref tm) (dTree []) := .tup (keepT (xe.trans ys4) hm) .nil
      have all : ∀ x ∈ [V.ref ta, V.ref tb, V.ref tc, V.ref td', V.ref te', V.ref tf, V.ref tg], Two K Hg x := fun x hx => by
        simp only [List.mem_cons, List.not_mem_nil, or_false] at hx
        rcases hx with rfl | rfl | rfl | rfl | rfl | rfl | rfl
        · exact ⟨_, _, _, es, gs, rfl, keepT (xb.trans (xc.trans (ys2.trans (ys3.trans ys4)))) ha, dE, dG, fitE, fitG, by omega⟩
        · exact ⟨_, _, _, gs, es, rfl, keepT (xc.trans (ys2.trans (ys3.trans ys4))) hb, dG, dE, fitG, fitE, by omega⟩
        · exact ⟨_, _, _, es, es, rfl, keepT (ys2.trans (ys3.trans ys4)) hc, dE, dE, fitE, fitE, by omega⟩
        · exact ⟨_, _, _, es, [], rfl, keepT (ys3.trans ys4) hd, dE, dN, fitE, fitN, by rw [List.length_nil]; omega⟩
        · exact ⟨_, _, _, [], gs, rfl, keepT ys4 he, dM, dG, fitN, fitG, by rw [List.length_nil]; omega⟩
        · exact ⟨_, _, _, es, _, rfl, keepT xg hf2, dE, dF, fitE, fitF, by omega⟩
        · exact ⟨_, _, _, _, es, rfl, hg2, dF, dE, fitF, fitE, by omega⟩
      refine ⟨pl, rfl, ⟨_, SqL.of upd_same⟩, for_list (xs := [V.ref ta, V.ref tb, V.ref tc, V.ref td', V.ref te', V.ref tf, V.ref tg]) (fun i σ H' => ∃ (y6 y7 : Option V), σ = [some (.ref sa), some (.ref p1), some (.ref av), some (.int (c0 % 7)), some (.ref t4), some (.ref t7), y6, y7, none, none] ∧ Same Hg H' ∧ SqL K H' pl [V.ref ta, V.ref tb, V.ref tc, V.ref td', V.ref te', V.ref tf, V.ref tg])
        ⟨none, none, rfl, zl, SqL.of upd_same⟩ (fun i σ H' _ k => ?_) (fun i x σ H8 hx8 k => ?_) (fun σ H8 k => q _)⟩
      · obtain ⟨_, _, _, _, e⟩ := k
        exact e
      · obtain ⟨y6, y7, rfl, s8, h8⟩ := k
        obtain ⟨t9, u9, v9, A9, B9, rfl, h9, d9, e9, f9, k9, few⟩ := all x (List.mem_of_getElem? hx8)
        refine ⟨t9, _, rfl, keepT s8 h9, rfl, _, _, rfl, _, _, rfl, rfl, ?_⟩
        refine ⟨_, rfl, _, rfl, u9, v9, A9, B9, rfl, dpKeep s8 d9, dpKeep s8 e9, f9.nod, k9.nod, f9.ok, k9.ok, few, fun Hp xp up sp tp lp dp => ?_⟩
        refine ⟨_, rfl, _, rfl, u9, v9, A9, B9, rfl, dpKeep (s8.trans sp) d9, dpKeep (s8.trans sp) e9, f9.nod, k9.nod, f9.ok, k9.ok, few, fun Hq xq uq sq tq lq dq => ?_⟩
        obtain rfl := tp.one tq
        refine ⟨xp, xq, _, rfl, dpKeep sq dp, dq, (tups_rows A9 B9 up lp).1, (tups_rows A9 B9 up lp).2, fun Hr sr => ⟨true, rfl, iteF ⟨_, _, rfl, s8.trans (sp.trans (sq.trans sr)), (sp.trans (sq.trans sr)).seq h8⟩⟩⟩

end
def hD0 : He.DefD := ⟨("by_path", none), "by_path", "by_path", defArgs sByPath, defBody sByPath, defScope sByPath, [], []⟩
def hD1 : He.DefD := ⟨("differences", none), "differences", "differences", defArgs sDifferences, defBody sDifferences, defScope sDifferences, [], []⟩
def hD2 : He.DefD := ⟨("_law_d", none), "_law_d", "_law_d", defArgs sLawD, defBody sLawD, defScope sLawD, [], []⟩
def hD3 : He.DefD := ⟨("_law_cell", none), "_law_cell", "_law_cell", defArgs sLawCell, defBody sLawCell, defScope sLawCell, [], []⟩
def hD4 : He.DefD := ⟨("_law_same", none), "_law_same", "_law_same", defArgs sLawSame, defBody sLawSame, defScope sLawSame, [], []⟩
def hD5 : He.DefD := ⟨("_law_part", none), "_law_part", "_law_part", defArgs sLawPart, defBody sLawPart, defScope sLawPart, [], []⟩
def hD6 : He.DefD := ⟨("_law_path", none), "_law_path", "_law_path", defArgs sLawPath, defBody sLawPath, defScope sLawPath, [], []⟩
def hD7 : He.DefD := ⟨("_law_goal", none), "_law_goal", "_law_goal", defArgs sLawGoal, defBody sLawGoal, defScope sLawGoal, [], []⟩
def hD8 : He.DefD := ⟨("_law_body", none), "_law_body", "_law_body", defArgs sLawBody, defBody sLawBody, defScope sLawBody, [], []⟩
def hD9 : He.DefD := ⟨("_law_above", none), "_law_above", "_law_above", defArgs sLawAbove, defBody sLawAbove, defScope sLawAbove, [], []⟩
def hD10 : He.DefD := ⟨("_law_entry", none), "_law_entry", "_law_entry", defArgs sLawEntry, defBody sLawEntry, defScope sLawEntry, [], []⟩
def hD11 : He.DefD := ⟨("_law_tree", none), "_law_tree", "_law_tree", defArgs sLawTree, defBody sLawTree, defScope sLawTree, [], []⟩
def hD12 : He.DefD := ⟨("_law_due", none), "_law_due", "_law_due", defArgs sLawDue, defBody sLawDue, defScope sLawDue, [], []⟩
def hD13 : He.DefD := ⟨("_law_turned", none), "_law_turned", "_law_turned", defArgs sLawTurned, defBody sLawTurned, defScope sLawTurned, [], []⟩
def hD14 : He.DefD := ⟨("law", none), "law", "law", defArgs sLaw, defBody sLaw, defScope sLaw, [], []⟩
def hFn : List He.DefD := [hD0, hD1, hD2, hD3, hD4, hD5, hD6, hD7, hD8, hD9, hD10, hD11, hD12, hD13, hD14]
def hFa : List He.Fa := ([.glo "by_path", .glo "differences", .glo "_law_d", .glo "_law_cell", .glo "_law_same", .glo "_law_part", .glo "_law_path", .glo "_law_goal", .glo "_law_body", .glo "_law_above", .glo "_law_entry", .glo "_law_tree", .glo "_law_due", .glo "_law_turned", .glo "law", .free "all", .free "bool", .free "enumerate", .free "int", .free "isinstance", .free "len", .free "range", .free "set", .free "sorted", .free "str", .free "tuple", .free "zip"] : List He.Fa)
def hTf : List He.Defn := []
def hEx (K : PySem.W.Frag) : Bool := true
theorem all_mk {l : PySem.W.OpenLaw} {w : World} {K : PySem.W.Frag} {h : Heap} {mg : Str → Option Value} {fa : Addr} (X : K.In h) (G : h.Ns mainGlobals mg) (hfa : mg "law" = some (.ref fa)) (c : He.SaysX hFa hFn [] hTf hEx w h K) :
    LamX.LawAtS l w K CX0 8 63 "_law_script" mg fa h := by
  letI : LamNames := ⟨fun _ => none⟩
  have cd : He.SaysD hFa hFn K := c.t.d
  have e := hfa.symm.trans (He.glo_ok X G (cd.fact 14 (f := .glo "law") rfl))
  cases e
  have Ev : Env K mg := ⟨He.free_ok X G (cd.fact 15 (f := .free "all") rfl), He.free_ok X G (cd.fact 16 (f := .free "bool") rfl), He.free_ok X G (cd.fact 17 (f := .free "enumerate") rfl), He.free_ok X G (cd.fact 18 (f := .free "int") rfl), He.free_ok X G (cd.fact 19 (f := .free "isinstance") rfl), He.free_ok X G (cd.fact 20 (f := .free "len") rfl), He.free_ok X G (cd.fact 21 (f := .free "range") rfl), He.free_ok X G (cd.fact 22 (f := .free "set") rfl), He.free_ok X G (cd.fact 23 (f := .free "sorted") rfl), He.free_ok X G (cd.fact 24 (f := .free "str") rfl), He.free_ok X G (cd.fact 25 (f := .free "tuple") rfl), He.free_ok X G (cd.fact 26 (f := .free "zip") rfl)⟩
  obtain ⟨fd0, D0⟩ := cd.def_ 0 (d := hD0) rfl
  have F0 := fun_ofD (x := "by_path") (st := sByPath) D0
  obtain ⟨fd1, D1⟩ := cd.def_ 1 (d := hD1) rfl
  have F1 := fun_ofD (x := "differences") (st := sDifferences) D1
  obtain ⟨fd2, D2⟩ := cd.def_ 2 (d := hD2) rfl
  have F2 := fun_ofD (x := "_law_d") (st := sLawD) D2
  obtain ⟨fd3, D3⟩ := cd.def_ 3 (d := hD3) rfl
  have F3 := fun_ofD (x := "_law_cell") (st := sLawCell) D3
  obtain ⟨fd4, D4⟩ := cd.def_ 4 (d := hD4) rfl
  have F4 := fun_ofD (x := "_law_same") (st := sLawSame) D4
  obtain ⟨fd5, D5⟩ := cd.def_ 5 (d := hD5) rfl
  have F5 := fun_ofD (x := "_law_part") (st := sLawPart) D5
  obtain ⟨fd6, D6⟩ := cd.def_ 6 (d := hD6) rfl
  have F6 := fun_ofD (x := "_law_path") (st := sLawPath) D6
  obtain ⟨fd7, D7⟩ := cd.def_ 7 (d := hD7) rfl
  have F7 := fun_ofD (x := "_law_goal") (st := sLawGoal) D7
  obtain ⟨fd8, D8⟩ := cd.def_ 8 (d := hD8) rfl
  have F8 := fun_ofD (x := "_law_body") (st := sLawBody) D8
  obtain ⟨fd9, D9⟩ := cd.def_ 9 (d := hD9) rfl
  have F9 := fun_ofD (x := "_law_above") (st := sLawAbove) D9
  obtain ⟨fd10, D10⟩ := cd.def_ 10 (d := hD10) rfl
  have F10 := fun_ofD (x := "_law_entry") (st := sLawEntry) D10
  obtain ⟨fd11, D11⟩ := cd.def_ 11 (d := hD11) rfl
  have F11 := fun_ofD (x := "_law_tree") (st := sLawTree) D11
  obtain ⟨fd12, D12⟩ := cd.def_ 12 (d := hD12) rfl
  have F12 := fun_ofD (x := "_law_due") (st := sLawDue) D12
  obtain ⟨fd13, D13⟩ := cd.def_ 13 (d := hD13) rfl
  have F13 := fun_ofD (x := "_law_turned") (st := sLawTurned) D13
  obtain ⟨fd14, D14⟩ := cd.def_ 14 (d := hD14) rfl
  have F14 := fun_ofD (x := "law") (st := sLaw) D14
  refine ⟨fd14, [], spLaw K [], (fun _ z => nomatch z), (fun _ z => nomatch z), (fun _ z => nomatch z), fun s v => ?_, fun H a ns hl _ hH hS => ⟨a, ns, rfl, hS, hl, (fun _ z => nomatch z), fun _ => rfl⟩, fun base _ _ TBs => ?_⟩
  · exact (FunD.bindsA (ps := ["_law_script"]) D14 fun _ _ _ _ _ _ us hl => match us, hl with | [_], _ => rfl) s [v] rfl
  have C_0 : Cal l.prog w K mg base "by_path" 1 ["tree"] (spBy K) := ⟨_, _, ok_by Ev  F0, He.glo_ok X G (cd.fact 0 (f := .glo "by_path") rfl), F0.kp, F0.binds fun _ _ _ _ _ _ us hl => match us, hl with | [_], _ => rfl⟩
  have C_1 : Cal l.prog w K mg base "differences" 2 ["one", "other"] (spDiff K) := ⟨_, _, ok_diff Ev C_0 F1, He.glo_ok X G (cd.fact 1 (f := .glo "differences") rfl), F1.kp, F1.binds fun _ _ _ _ _ _ us hl => match us, hl with | [_, _], _ => rfl⟩
  have C_2 : Cal l.prog w K mg base "_law_d" 1 ["_law_cell_here", "_law_place", "_law_many"] spD := ⟨_, _, ok_d Ev  F2, He.glo_ok X G (cd.fact 2 (f := .glo "_law_d") rfl), F2.kp, F2.binds fun _ _ _ _ _ _ us hl => match us, hl with | [_, _, _], _ => rfl⟩
  have C_3 : Cal l.prog w K mg base "_law_cell" 1 ["_law_script", "_law_k"] (spCellA K) := ⟨_, _, ok_cell Ev  F3, He.glo_ok X G (cd.fact 3 (f := .glo "_law_cell") rfl), F3.kp, F3.binds fun _ _ _ _ _ _ us hl => match us, hl with | [_, _], _ => rfl⟩
  have C_4 : Cal l.prog w K mg base "_law_same" 5 ["_law_told", "_law_due_here"] (spSameD K 4) := ⟨_, _, ok_sameD Ev F4 (He.glo_ok X G (cd.fact 4 (f := .glo "_law_same") rfl)) (F4.binds fun _ _ _ _ _ _ us hl => match us, hl with | [_, _], _ => rfl) 4, He.glo_ok X G (cd.fact 4 (f := .glo "_law_same") rfl), F4.kp, F4.binds fun _ _ _ _ _ _ us hl => match us, hl with | [_, _], _ => rfl⟩
  have C_5 : Cal l.prog w K mg base "_law_part" 2 ["_law_cell_here"] (spPart K) := ⟨_, _, ok_part Ev C_2 F5, He.glo_ok X G (cd.fact 5 (f := .glo "_law_part") rfl), F5.kp, F5.binds fun _ _ _ _ _ _ us hl => match us, hl with | [_], _ => rfl⟩
  have C_6 : Cal l.prog w K mg base "_law_path" 3 ["_law_cell_here"] (spPath K) := ⟨_, _, ok_path Ev C_2 C_5 F6, He.glo_ok X G (cd.fact 6 (f := .glo "_law_path") rfl), F6.kp, F6.binds fun _ _ _ _ _ _ us hl => match us, hl with | [_], _ => rfl⟩
  have C_7 : Cal l.prog w K mg base "_law_goal" 4 ["_law_cell_here"] (spGoal K) := ⟨_, _, ok_goal Ev C_2 C_6 F7, He.glo_ok X G (cd.fact 7 (f := .glo "_law_goal") rfl), F7.kp, F7.binds fun _ _ _ _ _ _ us hl => match us, hl with | [_], _ => rfl⟩
  have C_8 : Cal l.prog w K mg base "_law_body" 2 ["_law_cell_here"] (spBody K) := ⟨_, _, ok_body Ev C_2 F8, He.glo_ok X G (cd.fact 8 (f := .glo "_law_body") rfl), F8.kp, F8.binds fun _ _ _ _ _ _ us hl => match us, hl with | [_], _ => rfl⟩
  have C_9 : Cal l.prog w K mg base "_law_above" 1 ["_law_path_here"] (spAboveL K) := ⟨_, _, ok_above Ev  F9, He.glo_ok X G (cd.fact 9 (f := .glo "_law_above") rfl), F9.kp, F9.binds fun _ _ _ _ _ _ us hl => match us, hl with | [_], _ => rfl⟩
  have C_10 : Cal l.prog w K mg base "_law_entry" 5 ["_law_path_here", "_law_cell_here"] (spEntry K) := ⟨_, _, ok_entry Ev C_2 C_7 C_8 F10, He.glo_ok X G (cd.fact 10 (f := .glo "_law_entry") rfl), F10.kp, F10.binds fun _ _ _ _ _ _ us hl => match us, hl with | [_, _], _ => rfl⟩
  have C_11 : Cal l.prog w K mg base "_law_tree" 6 ["_law_cells"] (spTree K) := ⟨_, _, ok_tree Ev C_6 C_9 C_10 F11, He.glo_ok X G (cd.fact 11 (f := .glo "_law_tree") rfl), F11.kp, F11.binds fun _ _ _ _ _ _ us hl => match us, hl with | [_], _ => rfl⟩
  have C_12 : Cal l.prog w K mg base "_law_due" 1 ["_law_one", "_law_other"] (spDue K) := ⟨_, _, ok_due Ev  F12, He.glo_ok X G (cd.fact 12 (f := .glo "_law_due") rfl), F12.kp, F12.binds fun _ _ _ _ _ _ us hl => match us, hl with | [_, _], _ => rfl⟩
  have C_13 : Cal l.prog w K mg base "_law_turned" 2 ["_law_entry_here", "_law_cell_here"] (spTurn K) := ⟨_, _, ok_turn Ev C_2 F13, He.glo_ok X G (cd.fact 13 (f := .glo "_law_turned") rfl), F13.kp, F13.binds fun _ _ _ _ _ _ us hl => match us, hl with | [_, _], _ => rfl⟩
  exact ok_law Ev C_1 C_3 C_4 C_11 C_12 C_13 F14
abbrev hR : PySem.W.OpenRow := PySem.W.OpenLaw.row PySem.Challenge.rw_filecrate_k19_whole_differences
def hLoose : List Str := (["by_path", "differences", "_law_d", "_law_cell", "_law_same", "_law_path", "_law_part", "_law_goal", "_law_body", "_law_above", "_law_entry", "_law_tree", "_law_due", "_law_turned"] : List Str)
abbrev hk : PySem.W.Hook := He.hookX 5 hFa hFn [] hTf hEx
def hOb (s : PySem.W.SharedT) : He.AlX := He.obsX 5 hFa hFn [] hTf hEx (HandSHeadRun.getT s)
theorem hOb_eq (s : PySem.W.SharedT) : hOb s = hk.obs s.abs := He.obsX_eq (HandSHeadRun.getT_eq s)
set_option maxHeartbeats 0 in
theorem hRun (w : World) : HandSHeadRun.RunEq hR (PySem.W.view hR.prog [16]) hk hOb 3000 hLoose w := by
  intro os
  kernel_rfl
end Fc
open PySem PySem.W PySem.Calls PyProof.Rows
set_option maxHeartbeats 0 in
theorem PySem.Challenge.cw_filecrate_k19_whole_differences_holds : PySem.Challenge.rw_filecrate_k19_whole_differences.Holds := by
  w_on; o_law
  refine HandSHeadRun.head_any (r := PySem.W.OpenLaw.row PySem.Challenge.rw_filecrate_k19_whole_differences) (q := view (PySem.W.OpenLaw.row PySem.Challenge.rw_filecrate_k19_whole_differences).prog [16]) (H := Fc.hk) (ob := Fc.hOb) (M := 3000) (loose := Fc.hLoose) (d := HandSHeadRun.topDef (PySem.W.OpenLaw.row PySem.Challenge.rw_filecrate_k19_whole_differences).prog 16) (kwd := []) Fc.hOb_eq
    (by kernel_rfl) (fun s => by kernel_rfl) Fc.hRun (by kernel_rfl) (by kernel_rfl) (by kernel_rfl) (by rfl) (by first | assumption | decide +kernel) (by decide +kernel) ⟨rfl, rfl, rfl, rfl, rfl, by decide +kernel⟩ ?hw ?hc
  case hw => w_witness2
  case hc =>
    refine LamX.walk_ofTsE (l := PySem.Challenge.rw_filecrate_k19_whole_differences) (n := 63) (k := 8) (x := "_law_script") (CX := fun _ => L2.CX0) rfl (by decide) (by kernel_rfl) ⟨rfl, by decide, by decide⟩ ?F (fun _ _ _ _ _ h => h)
    intro w mg fa h Y G hmg0
    obtain ⟨K, KX, c⟩ := Y
    have hmg : mg ("law" : PySem.Str) = some (.ref fa) := by
      have e : (HandSHeadRun.topDef (PySem.W.OpenLaw.row PySem.Challenge.rw_filecrate_k19_whole_differences).prog 16).name = ("law" : PySem.Str) := by kernel_rfl
      rw [← e]
      exact hmg0
    exact ⟨K, KX, Fc.all_mk KX G hmg c⟩
