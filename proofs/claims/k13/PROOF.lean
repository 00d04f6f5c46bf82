import PyProof.Rows.All
import Wide.All
import OpenK.AllK
import Wide.FinOn
import HandS.ForMost
import HandS.IsInst
import HandS.TupAny
import HandS.TupMul
import HandS.Zip
import HandS.Style
import HandS.AnyAll
import HandS.Lambda
import HandS.ForExc
import HandS.TryMany
import HandS.Flow
import KE.GoesMore
import HandS.Iter
import HandS.Walk
import HandS.GenList
import PyProof.TupleOfGen
import HandS.EndTab
import HandS.Head0
import HandS.Head1
import HandS.Head2
import HandS.HeadEnd
import HandS.HeadHook4
import HandS.HeadWalk
import HandS.CallLocal
import KE.KNestM
import HandS.More
import KE.SortKeyHeap
import HandS.SortKw
import KE.KTryMore
import HandS.ExcInit
import HandS.ExcField
import HandS.FStr
import HandS.FStrTup
import HandS.ClsMeth
import HandS.ExcCtx
import HandS.SuiteRaise
import HandS.RaiseFrom
import HandS.Comp
import HandS.Sort
import KE.KDictList
import HandS.DictComp
import HandS.SetKeys
import HandS.Conv
import PyProof.SumWalk
import PyProof.Rows.SortShellAny
import KE.SortData
import PyProof.Rows.SortWalk
import HandS.SetFor
import HandS.Set
import KE.KDictKeyed
import HandS.WideBits
import HandS.Small
import HandS.WordsDict
import PySem.Challenge.RW_filecrate_k13_whole_best_kind
set_option Elab.async false
set_option linter.all false
set_option maxRecDepth 100000
set_option maxHeartbeats 4000000
namespace Fc
open PySem PySem.Spec PyProof.Rows L2

/-! ### heaps that only grow (a code's table, which a generator expression lengthens, aside) -/
def NT : HO → Prop
  | .tbl _ => False
  | _ => True
/-- of the tables in which lambdas' code objects stand: what their lambdas are named -/
class LamNames where
  lam : Addr → Option Str
variable [LamNames]
/-- each code object that the table tells is known by this name -/
def Named (H : Hp) (ps : Array Value) (q : Str) : Prop := ∀ (pos : Pos) (cv : Value), codeAmong pos ps.toList = some cv → ∃ c, cv = .ref c ∧ H c = some (LamX.CodeO c q)
structure Same (H H' : Hp) : Prop where
  get : ∀ b o, H b = some o → NT o → H' b = some o
  tab : ∀ b ps, H b = some (.tbl ps) → ∃ ps' : Array Value, H' b = some (.tbl ps') ∧ (TriplesOk ps.toList → TriplesOk ps'.toList) ∧ ∀ q, LamNames.lam b = some q → Named H ps q → Named H' ps' q
theorem Same.at {H H' : Hp} (s : Same H H') (b : Addr) (o : HO) (e : H b = some o) (nt : NT o := by trivial) : H' b = some o := s.get b o e nt
instance {H H' : Hp} : CoeFun (Same H H') (fun _ => ∀ (b : Addr) (o : HO), H b = some o → (nt : NT o := by trivial) → H' b = some o) := ⟨@Same.at _ H H'⟩
theorem nt_or (o : HO) : NT o ∨ ∃ ps, o = .tbl ps := by
  cases o with
  | tbl ps => exact .inr ⟨ps, rfl⟩
  | _ => exact .inl trivial
theorem Same.refl (H : Hp) : Same H H := ⟨fun _ _ h _ => h, fun _ ps h => ⟨ps, h, fun z => z, fun _ _ z => z⟩⟩
theorem Same.trans {H H1 H2 : Hp} (a : Same H H1) (b : Same H1 H2) : Same H H2 := ⟨fun c o h nt => b.get c o (a.get c o h nt) nt, fun c ps h => by
  obtain ⟨ps1, h1, t1, m1⟩ := a.tab c ps h
  obtain ⟨ps2, h2, t2, m2⟩ := b.tab c ps1 h1
  exact ⟨ps2, h2, fun z => t2 (t1 z), fun q hq z => m2 q hq (m1 q hq z)⟩⟩
theorem Same.some {H H' : Hp} (e : Same H H') {b : Addr} {o : HO} (h : H b = .some o) : ∃ o', H' b = .some o' := by
  rcases nt_or o with n | ⟨ps, rfl⟩
  · exact ⟨o, e.get b o h n⟩
  · obtain ⟨ps', h', _⟩ := e.tab b ps h
    exact ⟨_, h'⟩
theorem Same.free {H H' : Hp} (e : Same H H') {l : Addr} (h : H' l = Option.none) : H l = Option.none := by
  cases q : H l with
  | none => rfl
  | some o =>
    obtain ⟨o', h'⟩ := e.some q
    rw [h] at h'
    cases h'
/-- nothing stands there, or what is no code object -/
def NC : Option HO → Prop
  | some (.ext _) => False
  | _ => True
theorem NC.lst {H : Hp} {p : Addr} {xs : List V} (h : H p = some (.lst xs)) : NC (H p) := by rw [h]; trivial
theorem NC.of {H : Hp} {p : Addr} {o : HO} (h : H p = some o) (k : NC (some o)) : NC (H p) := by rw [h]; exact k
theorem Same.over {H H' : Hp} (e : Same H H') {p : Addr} {o : HO} (n : H p = none) (nc : NC (H' p)) : Same H (upd H' p o) := ⟨fun b u h nt => by
  rw [upd_ne (ne_of_none h n)]
  exact e.get b u h nt, fun b ps h => by
  obtain ⟨ps', h', t, m⟩ := e.tab b ps h
  exact ⟨ps', by rw [upd_ne (ne_of_none h n)]; exact h', t, fun q hq z pos cv hc => by
    obtain ⟨c, e1, e2⟩ := m q hq z pos cv hc
    refine ⟨c, e1, ?_⟩
    rw [upd_ne (fun k => by rw [k] at e2; rw [e2] at nc; exact nc)]
    exact e2⟩⟩
theorem Same.seq {K : PySem.W.Frag} {H H' : Hp} {a : Addr} {xs : List V} (e : Same H H') (h : SqL K H a xs) : SqL K H' a xs := by
  rcases h with (h | ⟨o, h⟩) | h
  · exact .inl (.inl (e _ _ h))
  · exact .inl (.inr ⟨o, e _ _ h⟩)
  · exact .inr h
theorem grow {H : Hp} {p : Addr} {o : HO} (n : H p = none) : Same H (upd H p o) := (Same.refl H).over n (by rw [n]; trivial)
/-- this table stands, no lambda's is in it -/
structure TabN (H : Hp) (p : Addr) : Prop where
  g : GxR.TabG H p
  n : LamNames.lam p = none
/-- these tables stand -/
def Tabs (ps : List Addr) (H : Hp) : Prop := ∀ p ∈ ps, TabN H p
theorem Tabs.keep {ps : List Addr} {H H' : Hp} (t : Tabs ps H) (e : Same H H') : Tabs ps H' := fun p hp => by
  obtain ⟨⟨qs, h, ok⟩, n⟩ := t p hp
  obtain ⟨qs', h', k, _⟩ := e.tab p qs h
  exact ⟨⟨qs', h', k ok⟩, n⟩
/-- the tables of lambdas: told as LamX.TabS tells, and named so -/
structure LTab (H : Hp) (p : Addr) (q : Str) : Prop where
  s : LamX.TabS H p q
  n : LamNames.lam p = some q
theorem LTab.keep {p : Addr} {q : Str} {H H' : Hp} (t : LTab H p q) (e : Same H H') : LTab H' p q := by
  obtain ⟨⟨ps, h, ok, nm⟩, n⟩ := t
  obtain ⟨ps', h', k, m⟩ := e.tab p ps h
  exact ⟨⟨ps', h', k ok, m q n nm⟩, n⟩
theorem same_tab {P : Addr} {H H' : Hp} (hn : TabN H P) (t : GxR.Tabbed P H H') : Same H H' := by
  have h := hn.g
  refine ⟨fun b o e nt => ?_, fun b ps e => ?_⟩
  · have nb : b ≠ P := fun z => by
      obtain ⟨qs, h, _⟩ := h
      rw [z, h] at e
      cases e
      exact nt
    rw [t.2 b nb]
    exact e
  · by_cases z : b = P
    · obtain ⟨qs, h', ok⟩ := t.1
      rw [z]
      exact ⟨qs, h', fun _ => ok, fun q hq => by rw [hn.n] at hq; cases hq⟩
    · refine ⟨ps, by rw [t.2 b z]; exact e, fun k => k, fun q _ nm pos cv hc => ?_⟩
      obtain ⟨c, e1, e2⟩ := nm pos cv hc
      refine ⟨c, e1, ?_⟩
      rw [t.2 c fun k => by
        obtain ⟨qs, h, _⟩ := h
        rw [k, h] at e2
        cases e2]
      exact e2
theorem keepT {K : PySem.W.Frag} {H H' : Hp} {a : Addr} {xs : List V} (e : Same H H') (h : SqT K H a xs) : SqT K H' a xs := by
  rcases h with (h | ⟨o, h⟩) | h
  · left; left; exact e a _ h
  · left; right; exact ⟨o, e a _ h⟩
  · right; exact h
/-- behind it a tuple of these, and all that stood -/
def Tups (K : PySem.W.Frag) (H : Hp) (xs : List V) (Q : VK) : Prop := ∀ H' p, Same H H' → SqT K H' p xs → Q (.ref p) H'
theorem Tups.new {K : PySem.W.Frag} {H : Hp} {xs : List V} {Q : VK} (h : Tups K H xs Q) {p : Addr} (n : H p = none) : Q (.ref p) (upd H p (.tup xs)) := h _ _ (grow n) (SqT.of upd_same)
theorem Tups.old {K : PySem.W.Frag} {H : Hp} {xs ys : List V} {Q : VK} (h : Tups K H xs Q) {p : Addr} (e : SqT K H p ys) (eq : ys = xs) : Q (.ref p) H := by
  subst eq
  exact h _ _ (Same.refl H) e
theorem PEweak {X : Cx} {e : Expr} {t u : TE} (h : PE X e t) (w : ∀ σ H Q, u σ H Q → t σ H Q) : PE X e u := ⟨fun pins s σ H Q I q => h.run pins s σ H Q I (w σ H Q q)⟩
def upA (t : TA) : TA := fun σ H Q => ∃ R, t σ H R ∧ ∀ vs H', R vs H' → Q vs H'
theorem PAup {X : Cx} {es : List Expr} {t : TA} (h : PA X es t) : PA X es (upA t) := ⟨fun ps pins s σ H Q I q => by
  obtain ⟨R, q1, q2⟩ := q
  refine thn (h.run ps pins s σ H R I q1) fun us s' ⟨vs, H', I', r, k⟩ => ⟨vs, H', I', r, q2 _ _ k⟩⟩

/-! ### rules whose reading says Tups -/
section
variable {X : Cx}
def rCatU (K : PySem.W.Frag) : R2 := fun x y H Q => ∃ a b xs ys, x = .ref a ∧ y = .ref b ∧ SqT K H a xs ∧ SqT K H b ys ∧ xs.length + ys.length ≤ sizeLine ∧ Tups K H (xs ++ ys) Q
theorem op_catU : OpR X (binaryOp .Add) (rCatU X.K) := by
  intro pins s σ H x y v u Q I rx ry h
  obtain ⟨a, b, xs, ys, rfl, rfl, ha, hb, hz, q⟩ := h
  refine op_catA pins s σ H _ _ v u Q I rx ry ⟨a, b, xs, ys, rfl, rfl, ha, hb, hz, fun e => ?_, fun _ e => ?_, fun _ _ p n => q.new n⟩
  · subst e; exact q.old hb rfl
  · subst e; exact q.old ha (List.append_nil xs).symm
def rSlU (K : PySem.W.Frag) : V → Option Int → Option Int → Hp → VK → Prop := fun x lo hi H Q => ∃ a xs, x = .ref a ∧ SqT K H a xs ∧ Tups K H (cutV xs lo hi) Q
theorem sl_tupU : SlR X (rSlU X.K) := by
  intro pins s σ H x v vl vu lo hi sl Q I rx hs pl pu h
  obtain ⟨a, xs, rfl, hx, q⟩ := h
  refine sl_tupA pins s σ H _ v vl vu lo hi sl Q I rx hs pl pu ⟨a, xs, rfl, hx, fun e => q.old hx ?_, fun _ p n => q.new n⟩
  unfold cutV
  rw [e.1, e.2, List.drop_zero, Nat.sub_zero, List.take_length]
def tTupU (K : PySem.W.Frag) (t : TA) : TE := fun σ H Q => t σ H fun xs H1 => xs.length ≤ sizeLine ∧ Tups K H1 xs Q
theorem pe_tupU {es : List Expr} {x1 : Nat} {pos : Pos} {t : TA} (h : PA X es t) : PE X (.Tuple es x1 pos) (tTupU X.K t) :=
  PEweak (pe_tup (PAup h)) fun σ H Q q => ⟨_, q, fun vs H' k => ⟨k.1, fun p n => k.2.new n⟩⟩
theorem call_divmodU : CallR X (.builtin "divmod") (fun xs H Q => ∃ i j, xs = [.int i, .int j] ∧ CDiv i j ∧ Tups X.K H [.int (i / j), .int (i % j)] Q) := by
  intro pins s σ H xs us Q I r h
  obtain ⟨i, j, e, c, q⟩ := h
  exact call_divmod pins s σ H xs us Q I r ⟨i, j, e, c, fun p n => q.new n⟩
theorem call_tupleU : CallR X (.type "tuple") (fun xs H Q => ∃ p ys, xs = [.ref p] ∧ SqL X.K H p ys ∧ Tups X.K H ys Q) := by
  intro pins s σ H xs us Q I r h
  obtain ⟨p, ys, e, hp, q⟩ := h
  exact call_tuple_of pins s σ H xs us Q I r ⟨p, ys, e, .inl ⟨hp, fun l n => q.new n⟩⟩
theorem pe_globI {x : Str} {n : Int} {pos : Pos} (hg : Gl X x) (h : ∃ t, X.mg x = some (.int n t)) (hd : (x == ("__debug__" : Str)) = false := by decide) : PE X (.Name x pos) (tC (.int n)) := by
  obtain ⟨t, e⟩ := h
  exact pe_glob hg e ⟨t, rfl⟩ hd
def tGT (K : PySem.W.Frag) (xs : List V) : TE := fun _ H Q => ∀ a, (∀ H', SqT K H' a xs) → Q (.ref a) H
theorem pe_globT {x : Str} {xs : List V} {pos : Pos} (hg : Gl X x) (h : ∃ a, X.mg x = some (.ref a) ∧ ∀ H', SqT X.K H' a xs) (hd : (x == ("__debug__" : Str)) = false := by decide) : PE X (.Name x pos) (tGT X.K xs) := by
  obtain ⟨a, e, q⟩ := h
  exact PEweak (pe_glob (v := .ref a) hg e rfl hd) fun σ H Q k => k a q
theorem pe_btype {x : Str} {n : String} {pos : Pos} (hg : Gl X x) (hm : X.mg x = none) (hv : bootBuiltins x = some (.type n)) (hn : x ≠ "__name__" := by decide) (hd : (x == ("__debug__" : Str)) = false := by decide) : PE X (.Name x pos) (tC (.ty n)) := pe_bltn hg hm hv rfl hn hd
end

/-! ### a def that is called -/
structure Cal (P : Program) (w : World) (K : PySem.W.Frag) (mg : Str → Option Value) (base : Heap) (x : Str) (k : Nat) (ps : List Str) (sp : Sp) : Prop where
  ex : ∃ f fd, FnOk P w K mg base CX0 k f fd ps sp ∧ mg x = some (.ref f) ∧ PySem.W.keepIn K (.ref f) = true ∧ Binds K fd ps []
theorem pe_c {X : Cx} {x : Str} {k : Nat} {ps : List Str} {sp : Sp} {p pos : Pos} {e : Expr} {es : List Expr} {t : TA} (C : Cal X.prog X.w X.K X.mg X.base x k ps sp) (hr : Room k X.A) (ha : PA X (e :: es) t) (hg : Gl X x := by rfl) (hdb : (x == ("__debug__" : Str)) = false := by decide)
    (he : starEach (e :: es) X.env = (false, eval e X.env) :: starEach es X.env := by rfl) (hpl : (backTo pos (starEach es X.env)).any (·.1) = false := by rfl) : PE X (.Call (.Name x p) (e :: es) [] pos) (tCall sp [] E0 t) := by
  obtain ⟨f, fd, F, m, kp, b⟩ := C.ex
  exact pe_call F hr hg m kp b .nil pass0 ha hdb he hpl

/-! ### joining ways -/
theorem seq_by {t u : TS} {D : Ends} {σ : L2.St} {H : Hp} (P : L2.St → Hp → Prop) (h2 : ∀ σ H, P σ H → u D σ H) (h1 : (∀ σ H, P σ H → u D σ H) → t { D with nx := u D } σ H) : tSeq t u D σ H := h1 h2

theorem seq_c {v : V} {i : Nat} {u : TS} {D : Ends} {σ : L2.St} {H : Hp} (h : u D (σ.set i (some v)) H) : tSeq (tAsg (tC v) (gName i)) u D σ H := h

theorem if_by {c : TT} {a b : TS} {D : Ends} {σ : L2.St} {H : Hp} (PY : Prop) (hX : a D σ H) (hY : PY → b D σ H) (hc : (∀ k : Bool, (k = false → PY) → if k = true then a D σ H else b D σ H) → c σ H fun k H1 => if k = true then a D σ H1 else b D σ H1) : tIfS c a b D σ H := hc (fun k h => by
  cases k with
  | true => rw [if_pos rfl]; exact hX
  | false => rw [if_neg Bool.false_ne_true]; exact hY (h rfl))

theorem if_by2 {c : TT} {a b : TS} {D : Ends} {σ : L2.St} {H : Hp} (PX PY : Prop) (hX : PX → a D σ H) (hY : PY → b D σ H) (hc : (∀ k : Bool, (k = true → PX) → (k = false → PY) → if k = true then a D σ H else b D σ H) → c σ H fun k H1 => if k = true then a D σ H1 else b D σ H1) : tIfS c a b D σ H := hc (fun k hx h => by
  cases k with
  | true => rw [if_pos rfl]; exact hX (hx rfl)
  | false => rw [if_neg Bool.false_ne_true]; exact hY (h rfl))

theorem seq_if2 {c : TT} {a b u : TS} {D : Ends} {σ : L2.St} {H : Hp} (PX PY : Prop) (hX : PX → a { D with nx := u D } σ H) (hY : PY → b { D with nx := u D } σ H) (hc : (∀ k : Bool, (k = true → PX) → (k = false → PY) → if k = true then a { D with nx := u D } σ H else b { D with nx := u D } σ H) → c σ H fun k H1 => if k = true then a { D with nx := u D } σ H1 else b { D with nx := u D } σ H1) : tSeq (tIfS c a b) u D σ H := if_by2 PX PY hX hY hc

/-! ### isinstance -/
theorem k_ii {K : PySem.W.Frag} : PySem.W.kitOne K (.type "int") (.type "int") = some true := kit_ty (by decide +kernel)
theorem k_ib {K : PySem.W.Frag} : PySem.W.kitOne K (.type "int") (.type "bool") = some false := kit_ty (by decide +kernel)
theorem k_it {K : PySem.W.Frag} : PySem.W.kitOne K (.type "int") (.type "tuple") = some false := kit_ty (by decide +kernel)
theorem k_is' {K : PySem.W.Frag} : PySem.W.kitOne K (.type "int") (.type "str") = some false := kit_ty (by decide +kernel)
theorem k_tb {K : PySem.W.Frag} : PySem.W.kitOne K (.type "tuple") (.type "bool") = some false := kit_ty (by decide +kernel)
theorem k_tt {K : PySem.W.Frag} : PySem.W.kitOne K (.type "tuple") (.type "tuple") = some true := kit_ty (by decide +kernel)
theorem k_bb {K : PySem.W.Frag} : PySem.W.kitOne K (.type "bool") (.type "bool") = some true := kit_ty (by decide +kernel)
theorem k_sb {K : PySem.W.Frag} : PySem.W.kitOne K (.type "str") (.type "bool") = some false := kit_ty (by decide +kernel)
theorem k_st {K : PySem.W.Frag} : PySem.W.kitOne K (.type "str") (.type "tuple") = some false := kit_ty (by decide +kernel)
theorem k_ss {K : PySem.W.Frag} : PySem.W.kitOne K (.type "str") (.type "str") = some true := kit_ty (by decide +kernel)
theorem ty_tup {K : PySem.W.Frag} {H : Hp} {a : Addr} {xs : List V} (h : SqT K H a xs) : TyX K H (.ref a) (.type "tuple") := by
  rcases h with (h | ⟨o, h⟩) | ⟨o, its, n, h, c, _⟩
  · exact .base (.tup h)
  · exact .fTuple h
  · exact .kTuple h c

/-! ### cuts of whole numbers -/
theorem cut_to (ns : List Int) (k : Nat) : cutV (ns.map V.int) none (some (k : Int)) = (ns.take k).map V.int := by
  unfold cutV
  rw [HT.sIx_none, HT.sIx_nat, List.drop_zero, Nat.sub_zero, List.length_map, List.map_take]
  by_cases h : k ≤ ns.length
  · rw [Nat.min_eq_left h]
  · have h' : ns.length ≤ k := by omega
    rw [Nat.min_eq_right h', List.take_of_length_le (by rw [List.length_map]; omega), List.take_of_length_le (by rw [List.length_map]; omega)]
theorem cut_from (ns : List Int) (k : Nat) : cutV (ns.map V.int) (some (k : Int)) none = (ns.drop k).map V.int := by
  unfold cutV
  rw [HT.sIx_none, HT.sIx_nat, List.length_map, List.map_drop]
  by_cases h : k ≤ ns.length
  · rw [Nat.min_eq_left h]
    exact List.take_of_length_le (by rw [List.length_drop, List.length_map]; omega)
  · have h' : ns.length ≤ k := by omega
    rw [Nat.min_eq_right h', List.drop_of_length_le (by rw [List.length_map]; omega), List.drop_of_length_le (by rw [List.length_map]; omega), List.take_nil]
theorem cut_mid (ns : List Int) (i j : Nat) : cutV (ns.map V.int) (some (i : Int)) (some (j : Int)) = ((ns.drop i).take (j - i)).map V.int := by
  unfold cutV
  rw [HT.sIx_nat, HT.sIx_nat, List.length_map, List.map_take, List.map_drop]
  by_cases h : i ≤ ns.length
  · rw [Nat.min_eq_left h]
    by_cases g : j ≤ ns.length
    · rw [Nat.min_eq_left g]
    · have g' : ns.length ≤ j := by omega
      rw [Nat.min_eq_right g', List.take_of_length_le (by rw [List.length_drop, List.length_map]; omega), List.take_of_length_le (by rw [List.length_drop, List.length_map]; omega)]
  · have h' : ns.length ≤ i := by omega
    rw [Nat.min_eq_right h', List.drop_of_length_le (by rw [List.length_map]; omega), List.drop_of_length_le (by rw [List.length_map]; omega), List.take_nil, List.take_nil]

/-! ### a comprehension whose items are told by a row -/
theorem lc_row {K : PySem.W.Frag} {a : Addr} {xs ys : List V} {te : TE} {vs : List Nat} {σ : L2.St} {H1 : Hp} {D : Addr} {j : Nat} {Qd : Hp → Prop} (nD : H1 D = none) (hs : SqL K H1 a xs) (hy : ys.length = xs.length) (hz : xs.length ≤ sizeLine)
    (hw : ∀ x, wipe ((wipe σ vs).set j (some x)) vs = wipe σ vs)
    (turn : ∀ (i : Nat) (x y : V) (H : Hp) (R : V → Hp → Prop), xs[i]? = some x → ys[i]? = some y → Same H1 H → (∀ H', Same H H' → R y H') → te ((wipe σ vs).set j (some x)) H R) (hd : ∀ H', Same H1 H' → H' D = some (.lst ys) → Qd H') :
    ∃ W : Nat → Nat → Hp → Prop, (∃ m, W 0 m (upd H1 D (.lst []))) ∧ ∀ i m H, W i m H →
      ((Itl K a).stop i H ∧ Qd H) ∨ ((Itl K a).go i H ∧ ∃ Nx : Hp → Prop, (∀ H', Nx H' → ∃ m', m' < m ∧ W (i + 1) m' H') ∧ ∀ x H', (Itl K a).yld i H x H' → gName j x (wipe σ vs) H' fun σ2 H2 => wipe σ2 vs = wipe σ vs ∧ tYes σ2 H2 fun b H3 =>
        if b = true then te σ2 H3 fun y H4 => ∃ acc, H4 D = some (.lst acc) ∧ acc.length < sizeLine ∧ Nx (upd H4 D (.lst (acc ++ [y]))) else Nx H3) := by
  refine lc_list (xs := xs) (fun i H => Same H1 H ∧ H D = some (.lst (ys.take i))) ⟨grow nD, upd_same⟩ (fun i H _ p => p.1.seq hs) (fun i x H hx p => ?_) (fun H p => hd H p.1 ?_)
  · have hi : i < xs.length := (List.getElem?_eq_some_iff.mp hx).1
    have hiy : i < ys.length := by omega
    refine ⟨hw x, ?_⟩
    unfold tYes
    dsimp only
    rw [if_pos rfl]
    refine turn i x ys[i] H _ hx (List.getElem?_eq_getElem hiy) p.1 fun H' sm => ⟨ys.take i, sm _ _ p.2, ?_, ?_, ?_⟩
    · rw [List.length_take]; omega
    · exact (p.1.trans sm).over nD (.lst (sm _ _ p.2))
    · rw [upd_same, List.take_add_one, List.getElem?_eq_getElem hiy]
      rfl
  · have := p.2
    rw [← hy, List.take_length] at this
    exact this
theorem lc_rng {lo : Int} {n : Nat} {ys : List V} {te : TE} {vs : List Nat} {σ : L2.St} {H1 : Hp} {D : Addr} {j : Nat} {Qd : Hp → Prop} (nD : H1 D = none) (hy : ys.length = n) (hz : n ≤ sizeLine)
    (hw : ∀ x, wipe ((wipe σ vs).set j (some x)) vs = wipe σ vs)
    (turn : ∀ (i : Nat) (y : V) (H : Hp) (R : V → Hp → Prop), i < n → ys[i]? = some y → Same H1 H → (∀ H', Same H H' → R y H') → te ((wipe σ vs).set j (some (.int (lo + i)))) H R) (hd : ∀ H', Same H1 H' → H' D = some (.lst ys) → Qd H') :
    ∃ W : Nat → Nat → Hp → Prop, (∃ m, W 0 m (upd H1 D (.lst []))) ∧ ∀ i m H, W i m H →
      ((Itr lo n).stop i H ∧ Qd H) ∨ ((Itr lo n).go i H ∧ ∃ Nx : Hp → Prop, (∀ H', Nx H' → ∃ m', m' < m ∧ W (i + 1) m' H') ∧ ∀ x H', (Itr lo n).yld i H x H' → gName j x (wipe σ vs) H' fun σ2 H2 => wipe σ2 vs = wipe σ vs ∧ tYes σ2 H2 fun b H3 =>
        if b = true then te σ2 H3 fun y H4 => ∃ acc, H4 D = some (.lst acc) ∧ acc.length < sizeLine ∧ Nx (upd H4 D (.lst (acc ++ [y]))) else Nx H3) := by
  refine lc_range (fun i H => Same H1 H ∧ H D = some (.lst (ys.take i))) ⟨grow nD, upd_same⟩ (fun i H hi p => ?_) (fun H p => hd H p.1 ?_)
  · have hiy : i < ys.length := by omega
    refine ⟨hw _, ?_⟩
    unfold tYes
    dsimp only
    rw [if_pos rfl]
    refine turn i ys[i] H _ hi (List.getElem?_eq_getElem hiy) p.1 fun H' sm => ⟨ys.take i, sm _ _ p.2, ?_, ?_, ?_⟩
    · rw [List.length_take]; omega
    · exact (p.1.trans sm).over nD (.lst (sm _ _ p.2))
    · rw [upd_same, List.take_add_one, List.getElem?_eq_getElem hiy]
      rfl
  · have := p.2
    rw [← hy, List.take_length] at this
    exact this
end Fc

namespace Fc
open PySem PySem.Spec L2 PyProof.Rows
variable [LamNames]
/-! ### [e for x, y in zip(t, u)] over tuples, its items told by a row -/
theorem lc_zip {K : PySem.W.Frag} {a b : Addr} {xs ys zs : List V} {te : TE} {vs : List Nat} {σ : L2.St} {H1 : Hp} {D : Addr} {j k : Nat} {Qd : Hp → Prop} (nD : H1 D = none) (ha : SqT K H1 a xs) (hb : SqT K H1 b ys) (hy : ys.length = xs.length) (hzl : zs.length = xs.length) (hz : xs.length ≤ sizeLine)
    (hw : ∀ x y, wipe (((wipe σ vs).set j (some x)).set k (some y)) vs = wipe σ vs)
    (turn : ∀ (i : Nat) (x y z : V) (H : Hp) (R : V → Hp → Prop), xs[i]? = some x → ys[i]? = some y → zs[i]? = some z → Same H1 H → (∀ H', Same H H' → R z H') → te (((wipe σ vs).set j (some x)).set k (some y)) H R) (hd : ∀ H', Same H1 H' → H' D = some (.lst zs) → Qd H') :
    ∃ W : Nat → Nat → Hp → Prop, (∃ m, W 0 m (upd H1 D (.lst []))) ∧ ∀ i m H, W i m H →
      ((RZ.ItzT K a b).stop i H ∧ Qd H) ∨ ((RZ.ItzT K a b).go i H ∧ ∃ Nx : Hp → Prop, (∀ H', Nx H' → ∃ m', m' < m ∧ W (i + 1) m' H') ∧ ∀ x H', (RZ.ItzT K a b).yld i H x H' → gTup K 2 (gCons (gName j) (gCons (gName k) gNil)) x (wipe σ vs) H' fun σ2 H2 => wipe σ2 vs = wipe σ vs ∧ tYes σ2 H2 fun b H3 =>
        if b = true then te σ2 H3 fun y H4 => ∃ acc, H4 D = some (.lst acc) ∧ acc.length < sizeLine ∧ Nx (upd H4 D (.lst (acc ++ [y]))) else Nx H3) := by
  refine ⟨fun i m H => m = xs.length - i ∧ i ≤ xs.length ∧ Same H1 H ∧ H D = some (.lst (zs.take i)), ⟨xs.length, rfl, Nat.zero_le _, grow nD, upd_same⟩, ?_⟩
  rintro i m H ⟨rfl, hi, sm, hD⟩
  have qa := keepT sm ha
  have qb := keepT sm hb
  by_cases lt : i < xs.length
  · have ly : i < ys.length := by omega
    have lz : i < zs.length := by omega
    refine .inr ⟨⟨xs, ys, xs[i], ys[i], qa, qb, List.getElem?_eq_getElem lt, List.getElem?_eq_getElem ly⟩, fun H' => Same H1 H' ∧ H' D = some (.lst (zs.take (i + 1))), fun H' p => ⟨xs.length - (i + 1), by omega, rfl, lt, p.1, p.2⟩, fun v H' yl => ?_⟩
    obtain ⟨T, x, y, rfl, nT, rfl, fx, fy⟩ := yl
    have ex : xs[i]? = some x := fx xs qa
    have ey : ys[i]? = some y := fy ys qb
    refine ⟨T, [x, y], rfl, SqT.of upd_same, rfl, x, [y], rfl, y, [], rfl, rfl, hw x y, ?_⟩
    unfold tYes
    dsimp only
    rw [if_pos rfl]
    have sT : Same H (upd H T (.tup [x, y])) := grow nT
    refine turn i x y zs[i] _ _ ex ey (List.getElem?_eq_getElem lz) (sm.trans sT) fun H' e => ⟨zs.take i, e _ _ (sT _ _ hD), ?_, ?_, ?_⟩
    · rw [List.length_take]; omega
    · exact (sm.trans (sT.trans e)).over nD (.lst (e _ _ (sT _ _ hD)))
    · rw [upd_same, List.take_add_one, List.getElem?_eq_getElem lz]
      rfl
  · have e : i = xs.length := by omega
    subst e
    refine .inl ⟨⟨xs, ys, qa, qb, .inl (Nat.le_refl _)⟩, hd H sm ?_⟩
    rw [hD, ← hzl, List.take_length]
end Fc

namespace Fc
open PySem PySem.Spec L2 PyProof.Rows
variable [LamNames]
/-! ### lists that a def made itself -/
theorem keepT_lst {K : PySem.W.Frag} {H : Hp} {p t : Addr} {xs ys zs : List V} (h : SqT K H t xs) (e : H p = some (.lst ys)) : SqT K (upd H p (.lst zs)) t xs := by
  rcases h with (h | ⟨o, h⟩) | h
  · refine .inl (.inl ?_)
    rw [upd_ne (fun z => by rw [z, e] at h; cases h)]
    exact h
  · refine .inl (.inr ⟨o, ?_⟩)
    rw [upd_ne (fun z => by rw [z, e] at h; cases h)]
    exact h
  · exact .inr h
theorem keep_lst {H H' : Hp} {p : Addr} {zs : List V} (e : Same H H') (n : H p = none) (nc : NC (H' p) := by exact NC.of (by assumption) (by trivial)) : Same H (upd H' p (.lst zs)) := e.over n nc
theorem got {ns : List Int} {i : Nat} {x : V} (h : (ns.map V.int)[i]? = some x) : ∃ n, ns[i]? = some n ∧ x = .int n := by
  rw [List.getElem?_map] at h
  cases e : ns[i]? with
  | none => rw [e] at h; cases h
  | some n =>
    rw [e] at h
    exact ⟨n, rfl, (Option.some.inj h).symm⟩
theorem drop_head {S : List Int} {k : Nat} {x : Int} {r : List Int} (h : S.drop k = x :: r) : S[k]? = some x := by
  have := congrArg (·[0]?) h
  simpa [List.getElem?_drop] using this
theorem drop_more {S : List Int} {k : Nat} {x : Int} {r : List Int} (h : S.drop k = x :: r) : S.drop (k + 1) = r := by
  have := congrArg (·.drop 1) h
  simpa [List.drop_drop] using this
/-! ### the bytes of a number -/
def numB (n : Int) : List Int := if 127 < n then (n % 128 + 128) :: numB (n / 128) else [n]
termination_by n.toNat
decreasing_by omega
theorem numB_big {n : Int} (h : 127 < n) : numB n = (n % 128 + 128) :: numB (n / 128) := by
  conv => lhs; rw [numB]
  rw [if_pos h]
theorem numB_small {n : Int} (h : ¬ 127 < n) : numB n = [n] := by
  rw [numB, if_neg h]
theorem numB_len : ∀ (k : Nat) (n : Int), 0 ≤ n → n < 128 ^ (k + 1) → (numB n).length ≤ k + 1
  | 0, n, h0, h1 => by
    have : n < 128 := h1
    rw [numB_small (by omega)]
    simp
  | k + 1, n, h0, h1 => by
    by_cases z : 127 < n
    · rw [numB_big z, List.length_cons]
      have e : (128 : Int) ^ (k + 1 + 1) = 128 ^ (k + 1) * 128 := Int.pow_succ _ _
      have := numB_len k (n / 128) (by omega) (by
        rw [e] at h1
        exact Int.ediv_lt_of_lt_mul (by decide) h1)
      omega
    · rw [numB_small z]
      simp
theorem numB_few {n : Int} (h0 : 0 ≤ n) (h1 : n < 4398046511104) : (numB n).length ≤ 6 := numB_len 5 n h0 (by
  have : (128 : Int) ^ (5 + 1) = 4398046511104 := by decide
  rw [this]
  exact h1)
/-! ### fixed bytes -/
def low : Nat → Int → List Int
  | 0, _ => []
  | k + 1, n => n % 256 :: low k (n / 256)
def sh : Nat → Int → Int
  | 0, n => n
  | k + 1, n => sh k (n / 256)
theorem low_len : ∀ (k : Nat) (n : Int), (low k n).length = k
  | 0, _ => rfl
  | k + 1, n => by rw [low, List.length_cons, low_len]
theorem low_more : ∀ (k : Nat) (n : Int), low (k + 1) n = low k n ++ [sh k n % 256]
  | 0, n => rfl
  | k + 1, n => by
    rw [low, low_more k (n / 256)]
    rfl
theorem sh_more : ∀ (k : Nat) (n : Int), sh (k + 1) n = sh k n / 256
  | 0, n => rfl
  | k + 1, n => by
    show sh (k + 1) (n / 256) = sh k (n / 256) / 256
    rw [sh_more k (n / 256)]
def val256 (l : List Int) : Int := l.foldl (fun x b => x * 256 + b) 0
theorem val_low : ∀ (k : Nat) (n : Int), 0 ≤ n → n < 256 ^ k → val256 (low k n).reverse = n
  | 0, n, h0, h1 => by
    have : n < 1 := h1
    show (0 : Int) = n
    omega
  | k + 1, n, h0, h1 => by
    have e : (256 : Int) ^ (k + 1) = 256 ^ k * 256 := Int.pow_succ _ _
    have ih := val_low k (n / 256) (by omega) (by
      rw [e] at h1
      exact Int.ediv_lt_of_lt_mul (by decide) h1)
    rw [low, List.reverse_cons]
    unfold val256 at ih ⊢
    rw [List.foldl_append, ih]
    show n / 256 * 256 + n % 256 = n
    omega
theorem val_take {l : List Int} {i : Nat} {x : Int} (h : l[i]? = some x) : val256 (l.take (i + 1)) = val256 (l.take i) * 256 + x := by
  unfold val256
  rw [List.take_add_one, h, Option.toList_some, List.foldl_append]
  rfl
end Fc

namespace Fc
open PySem PySem.Spec L2 PyProof.Rows
variable [LamNames]
/-! ### t[::-1] -/
section
variable {pr : Program} {wd : World} {Ar : Around} {E : Value → Shared → Prop} {st : Shared}
theorem back_adjust (n : Nat) : Builtin.Slice.sliceAdjust none none (-1) (n : Int) = ((n : Int) - 1, -1) := rfl
theorem back_places (n : Nat) : Builtin.Slice.slicePlaces ((n : Int) - 1) (-1) (-1) = n := by
  have e : ((n : Int) - 1 - -1 - 1) / (- -1) = (n : Int) - 1 := by
    have z : (- -1 : Int) = 1 := by decide
    rw [z, Int.ediv_one]
    omega
  have z : ¬ ((-1 : Int) > 0) := by decide
  simp only [Builtin.Slice.slicePlaces, if_neg z, e]
  split <;> omega
theorem alike_filterMap {f g : Nat → Option Value} : ∀ {l : List Nat}, (∀ k ∈ l, f k = g k) → l.filterMap f = l.filterMap g
  | [], _ => rfl
  | a :: r, h => by rw [List.filterMap_cons, List.filterMap_cons, h a List.mem_cons_self, alike_filterMap fun k hk => h k (List.mem_cons_of_mem _ hk)]
theorem all_of {ys : List Value} : (List.range ys.length).filterMap (fun k => ys[k]?) = ys := by
  have h := PySem.pick_run ys.toArray 0 ys.length
  have e : (List.range ys.length).map (0 + ·) = List.range ys.length := by simp
  rw [e] at h
  simpa using h
theorem back_pick (xs : Array Value) : ((List.range xs.size).filterMap fun (k : Nat) => xs[((xs.size : Int) - 1 + (k : Int) * -1).toNat]?).toArray = xs.toList.reverse.toArray := by
  congr 1
  rw [alike_filterMap (g := fun k => xs.toList.reverse[k]?)]
  · have e2 : xs.size = xs.toList.reverse.length := by rw [List.length_reverse, Array.length_toList]
    rw [e2]
    exact all_of
  · intro k hk
    have hk' := List.mem_range.mp hk
    rw [List.getElem?_reverse (by rw [Array.length_toList]; exact hk'), Array.length_toList, Array.getElem?_toList]
    congr 1
    omega
theorem back_applied {sl : Addr} {v : Value} {n : Nat} {Q : Int × Int × Nat → Shared → Prop} (isl : st.heap.IsSliceOf sl .none .none v) (pt : IsPart v (some (-1)))
    (q : Q ((n : Int) - 1, -1, n) st) : wpAny (model pr wd) Ar (Builtin.Slice.sliceApplied (.ref sl) (pure (n : Int))) Q E st := by
  obtain ⟨o, ho, _, hf⟩ := isl
  simp only [Builtin.Slice.sliceApplied, Builtin.Slice.sliceFields]
  refine wpAny_bind (wpAny_bind (wpAny_field ho hf (x := .none) rfl (wpAny_bind (wpAny_field ho hf (x := .none) rfl (wpAny_bind (wpAny_field ho hf (x := v) rfl (wpAny_pure ?_)))))))
  refine wpAny_bind (HT.slicePart_ pt ?_)
  show wpAny _ _ (if ((-1 : Int) == 0) = true then _ else _) _ _ st
  rw [if_neg (by decide)]
  refine wpAny_bind (HT.slicePart_ .none (wpAny_bind (HT.slicePart_ .none (wpAny_bind (wpAny_pure ?_)))))
  show wpAny _ _ (match Builtin.Slice.sliceAdjust none none (-1) (n : Int) with | (lo, hi) => pure (lo, (-1 : Int), Builtin.Slice.slicePlaces lo hi (-1))) _ _ st
  rw [back_adjust n]
  show wpAny _ _ (pure ((n : Int) - 1, (-1 : Int), Builtin.Slice.slicePlaces ((n : Int) - 1) (-1) (-1))) _ _ st
  rw [back_places]
  exact wpAny_pure q
theorem back_item {t sl : Addr} {its : Array Value} {v : Value} {Q : Value → Shared → Prop} (tp : IsTup st.heap t its) (isl : st.heap.IsSliceOf sl .none .none v) (pt : IsPart v (some (-1)))
    (q : Q (.ref st.heap.objs.size) { st with heap := st.heap.push { cls := .type "tuple", data := .seq its.toList.reverse.toArray } }) (few : its.size ≤ sizeLine) :
    wpAny (model pr wd) Ar (getItem (.ref t) (.ref sl)) Q E st := by
  have fits : sizeOk (.seq its.toList.reverse.toArray) := by
    show its.toList.reverse.toArray.size ≤ sizeLine
    rw [List.size_toArray, List.length_reverse, Array.length_toList]
    exact few
  have isT : st.TypeIs (.ref sl) "slice" := by
    obtain ⟨o, ho, hc, _⟩ := isl
    exact ⟨o, ho, hc⟩
  have other : ¬ (((its.size : Int) - 1 == 0 && (-1 : Int) == 1 && its.size == its.size) = true) := fun z => by
    have z1 := (Bool.and_eq_true_iff.mp (Bool.and_eq_true_iff.mp z).1).2
    exact absurd z1 (by decide)
  unfold getItem
  with_reducible refine wpAny_holding ?_
  refine wpAny_bind (wpAny_sequenceKey tp.typeIs (by decide) (wpAny_bind (wpAny_callSpecial?_slot (name := Str.ofString "__getitem__") tp.typeIs PyProof.Rows.slot_tuple_getitem
    (wpAny_call_entry PyProof.Rows.slot_tuple_getitem tp.typeIs entry_tuple_getitem ?_ (args_tuple_getitem _ _)))))
  show wpAny _ _ (Builtin.Tuple.tupleItemsOf (.ref t) >>= _) _ _ st
  refine wpAny_bind (tupleItemsOf_ tp (wpAny_bind (wpAny_typeOf isT ?_)))
  rw [if_pos (by decide)]
  refine wpAny_bind (back_applied isl pt ?_)
  show wpAny _ _ (if ((its.size : Int) - 1 == 0 && (-1 : Int) == 1 && its.size == its.size) = true then _ else _) _ _ st
  rw [if_neg other, back_pick]
  first
    | exact wpAny_bind (m := Builtin.Tuple.tupleExact _) (wpAny_newObj_type (wpAny_bind (wpAny_pure (wpAny_pure ⟨_, rfl, wpAny_pure q⟩))) fits)
    | exact wpAny_bind (wpAny_bind (m := Builtin.Tuple.tupleExact _) (wpAny_newObj_type (wpAny_pure (wpAny_pure ⟨_, rfl, wpAny_pure q⟩)) fits))
    | exact wpAny_bind (m := Builtin.Tuple.tupleExact _) (wpAny_newObj_type (wpAny_pure ⟨_, rfl, wpAny_pure q⟩) fits)
end
section
variable {X : Cx}
def tRevU (K : PySem.W.Frag) (te : TE) : TE := fun σ H Q => te σ H fun x H1 => ∃ a xs, x = .ref a ∧ SqT K H1 a xs ∧ Tups K H1 xs.reverse Q
theorem pe_revT {e : Expr} {te : TE} {k : Nat} {p1 p2 p3 pos : Pos} (he : PE X e te) : PE X (.Subscript e (.Slice none none (some (.UnaryOp .USub (.Constant (.int 1) k p1) p2)) p3) pos) (tRevU X.K te) :=
  ⟨fun pins s σ H Q I h => Subscript_ (thn (he.run pins s σ H _ I h) fun v sa ⟨x, Ha, Ia, ra, a, xs, ex, hx, q⟩ => by
    subst ex
    cases ra
    have minus : PO X (some (.UnaryOp .USub (.Constant (.int 1) k p1) p2)) (tPart (tUn (rU fun i => .int (-i)) (tC (.int 1)))) := po_some (pe_un un_neg pe_int)
    refine wpAny_Slice (thn (po_none.run pins sa σ Ha (fun o H' => o = none ∧ H' = Ha) Ia ⟨rfl, rfl⟩) fun vl sb ⟨l, Hb, Ib, pl, el, eb⟩ => ?_)
    subst el eb
    refine thn (po_none.run pins sb σ Hb (fun o H' => o = none ∧ H' = Hb) Ib ⟨rfl, rfl⟩) fun vu sc ⟨u, Hc, Ic, pu, eu, ec⟩ => ?_
    subst eu ec
    refine thn (minus.run pins sc σ Hc (fun o H' => o = some (-1) ∧ H' = Hc) Ic ⟨1, rfl, -1, rfl, rfl, rfl⟩) fun vs sd ⟨o, Hd, Id, ps, eo, ed⟩ => ?_
    subst eo ed
    cases pl
    cases pu
    have J : Inv X pins σ Hd { sd with heap := sd.heap.push { cls := .type "slice", data := .fields #[.none, .none, vs] } } := Id.kept (t' := sd.toks) fun b ob z => Heap.get?_push_of_some _ z
    obtain ⟨its, r, tp, few⟩ := J.tuple hx
    have same := r.length
    show wpAny (model X.prog X.w) X.A (subscriptTail e (.Slice none none (some (.UnaryOp .USub (.Constant (.int 1) k p1) p2)) p3) (.ref a) (.ref sd.heap.objs.size)) (EP X pins σ Q) X.xe { sd with heap := sd.heap.push { cls := .type "slice", data := .fields #[.none, .none, vs] } }
    refine tail_any (ops := [.ref a, .ref sd.heap.objs.size]) tp.typeIs (PyProof.Rows.slot_tuple_getitem.lookup) ?_ (by with_unfolding_all rfl)
    refine back_item tp (Heap.IsSliceOf.new _ .none .none vs) ps ?_ (by rw [List.size_toArray]; omega)
    refine ⟨.ref _, _, J.laid (t' := sd.toks) (o := .tup xs.reverse) (fun b ob z => Heap.get?_push_of_some _ z) (Nat.le_refl _) ?_, rfl, q.new (J.hok.fresh (Nat.le_refl _))⟩
    exact ⟨by rw [List.length_reverse]; exact few, _, r.reverse, IsTup.new _ _⟩)⟩
end
end Fc

namespace Fc
open PySem PySem.Spec L2 PyProof.Rows
variable [LamNames]
/-! ### t * k of any small k -/
theorem mul_self (l : Addr) (its : Array Value) (n : Nat) (dd : Option Addr) (sl : Array (Option Value)) (k : Int) (u : Tok) (c0 : (decide (k < -(2 ^ 63)) || decide (k ≥ 2 ^ 63)) = false) (c1 : (its.isEmpty || k == 1) = true) :
    Meets (Builtin.«tuple.__mul__» ⟨[.ref l, .int k u], []⟩) (fun _ R s => s.heap.get? l = some { cls := .type "tuple", dict := dd, data := .seq its n, slots := sl } ∧ R (.ok (.ret (Value.ref l))) s) :=
  .of_wp fun prog w A R s h => by
    obtain ⟨hp, g, d, tk, os⟩ := s
    obtain ⟨hl, h⟩ := h
    have f1 := AutoSeq1.idx_int
    wp_walk using wpAny_loadPart' hl
    repeat (first
      | (refine wpAny_ite_false (decide_eq_false (by rw [c0]; exact Bool.false_ne_true)) ?_; wp_walk using wpAny_loadPart' hl)
      | (refine wpAny_ite_true (decide_eq_true c1) ?_; wp_walk using wpAny_loadPart' hl))
    exact ⟨_, rfl, h⟩
theorem mul_none (l : Addr) (its : Array Value) (n : Nat) (dd : Option Addr) (sl : Array (Option Value)) (k : Int) (u : Tok) (c0 : (decide (k < -(2 ^ 63)) || decide (k ≥ 2 ^ 63)) = false) (c1 : (its.isEmpty || k == 1) = false) (c2 : (decide (k ≤ 0) || its.isEmpty) = true) :
    Meets (Builtin.«tuple.__mul__» ⟨[.ref l, .int k u], []⟩) (fun _ R s => s.heap.get? l = some { cls := .type "tuple", dict := dd, data := .seq its n, slots := sl } ∧
      R (.ok (.ret (Value.ref s.heap.objs.size))) { s with heap := s.heap.push { cls := Value.type "tuple", data := Data.seq #[] }, toks := s.toks }) :=
  .of_wp fun prog w A R s h => by
    obtain ⟨hp, g, d, tk, os⟩ := s
    obtain ⟨hl, h⟩ := h
    have f1 := AutoSeq1.idx_int
    wp_walk using wpAny_loadPart' hl
    repeat (first
      | (refine wpAny_ite_false (decide_eq_false (by rw [c0]; exact Bool.false_ne_true)) ?_; wp_walk using wpAny_loadPart' hl)
      | (refine wpAny_ite_false (decide_eq_false (by rw [c1]; exact Bool.false_ne_true)) ?_; wp_walk using wpAny_loadPart' hl)
      | (refine wpAny_ite_true (decide_eq_true c2) ?_; wp_walk using wpAny_loadPart' hl))
    exact ⟨_, rfl, h⟩
def rRepU (K : PySem.W.Frag) : R2 := fun x y H Q => ∃ l k xs, x = .ref l ∧ y = .int k ∧ SqT K H l xs ∧ 0 ≤ k ∧ k ≤ 1000 ∧ xs.length ≤ 1000 ∧ Tups K H (List.replicate k.toNat xs).flatten Q
section
variable {X : Cx}
theorem op_repU : OpR X (binaryOp .Mult) (rRepU X.K) := by
  intro pins s σ H x y v u Q I rx ry h
  obtain ⟨l, k, xs, rfl, rfl, hT, k0, k1, few, q⟩ := h
  by_cases hn : xs = [] ∨ k < 2
  · cases rx
    obtain ⟨t, rfl⟩ := ry
    obtain ⟨its, r, ⟨⟨cls, dd, data, sl⟩, ho, hc, n, hd⟩, hs⟩ := I.tuple hT
    simp only at hc hd
    subst hc hd
    have hle : its.length = xs.length := r.length.symm
    have c0 : (decide (k < -(2 ^ 63)) || decide (k ≥ 2 ^ 63)) = false := by
      rw [decide_eq_false (by omega), decide_eq_false (by omega)] <;> rfl
    by_cases he : xs = [] ∨ k = 1
    · have c1 : (its.toArray.isEmpty || k == 1) = true := by
        rcases he with e | e
        · have : its = [] := by
            rw [e] at hle
            exact List.eq_nil_of_length_eq_zero hle
          rw [this]
          rfl
        · rw [e]
          simp
      have ex : xs = (List.replicate k.toNat xs).flatten := by
        rcases he with e | e
        · rw [e]
          simp
        · rw [e]
          simp
      refine wpAny_binaryOp_repeat_ref (T := "tuple") (U := "int") (by decide) ⟨_, ho, rfl⟩ (fun s' => typeIs_int s' k t) noFill_tuple_mul F.fills_int_mul F.slot_int_rmul repeat_tuple F.slot_int_index.lookup
        (call_meets F.slot_int_rmul (typeIs_int s k t) F.entry_int_rmul (F.args_int_rmul_2 _ _) (int_rmul_tuple k t l its.toArray n dd sl)
          ⟨ho, rfl, ⟨_, ho, rfl⟩, call_meets F.slot_tuple_mul ⟨_, ho, rfl⟩ F.entry_tuple_mul (F.args_tuple_mul_2 _ _) (mul_self l its.toArray n dd sl k t c0 c1) ⟨ho, ?_⟩⟩)
      exact ⟨.ref l, H, I, rfl, q.old hT ex⟩
    · have hx : xs ≠ [] := fun e => he (.inl e)
      have h1 : k ≠ 1 := fun e => he (.inr e)
      have h0 : k = 0 := by
        rcases hn with e | e
        · exact absurd e hx
        · omega
      have hi : its.toArray.isEmpty = false := by
        cases its with
        | nil =>
          exact absurd (List.eq_nil_of_length_eq_zero hle.symm) hx
        | cons a b => rfl
      have c1 : (its.toArray.isEmpty || k == 1) = false := by
        rw [hi, h0]
        rfl
      have c2 : (decide (k ≤ 0) || its.toArray.isEmpty) = true := by
        rw [h0]
        rfl
      have ex : (List.replicate k.toNat xs).flatten = [] := by
        rw [h0]
        rfl
      rw [ex] at q
      refine wpAny_binaryOp_repeat_ref (T := "tuple") (U := "int") (by decide) ⟨_, ho, rfl⟩ (fun s' => typeIs_int s' k t) noFill_tuple_mul F.fills_int_mul F.slot_int_rmul repeat_tuple F.slot_int_index.lookup
        (call_meets F.slot_int_rmul (typeIs_int s k t) F.entry_int_rmul (F.args_int_rmul_2 _ _) (int_rmul_tuple k t l its.toArray n dd sl)
          ⟨ho, rfl, ⟨_, ho, rfl⟩, call_meets F.slot_tuple_mul ⟨_, ho, rfl⟩ F.entry_tuple_mul (F.args_tuple_mul_2 _ _) (mul_none l its.toArray n dd sl k t c0 c1 c2) ⟨ho, ?_⟩⟩)
      refine ⟨.ref s.heap.objs.size, _, I.laid (t' := s.toks) (o := .tup []) (fun b ob z => Heap.get?_push_of_some _ z) (Nat.le_refl _) ?_, rfl, q.new (I.hok.fresh (Nat.le_refl _))⟩
      exact ⟨Nat.zero_le _, [], .nil, IsTup.new _ _⟩
  · exact op_repT pins s σ H _ _ v u Q I rx ry ⟨l, k, xs, rfl, rfl, hT, fun e => hn (.inl e), by omega, k1, few, fun p z => q.new z⟩
/-- as rRepU, for more -/
def rRepV (K : PySem.W.Frag) : R2 := fun x y H Q => ∃ l k xs, x = .ref l ∧ y = .int k ∧ SqT K H l xs ∧ 0 ≤ k ∧ k ≤ 1000000 ∧ (xs.length : Int) * k ≤ 1000000 ∧ Tups K H (List.replicate k.toNat xs).flatten Q
theorem op_repV : OpR X (binaryOp .Mult) (rRepV X.K) := by
  intro pins s σ H x y v u Q I rx ry h
  obtain ⟨l, k, xs, rfl, rfl, hT, k0, k1, few, q⟩ := h
  by_cases sm : k ≤ 1000 ∧ xs.length ≤ 1000
  · exact op_repU pins s σ H _ _ v u Q I rx ry ⟨l, k, xs, rfl, rfl, hT, k0, sm.1, sm.2, q⟩
  · by_cases hn : xs = [] ∨ k < 2
    · rcases hn with e | e
      · subst e
        cases rx
        obtain ⟨t, rfl⟩ := ry
        obtain ⟨its, r, ⟨⟨cls, dd, data, sl⟩, ho, hc, n, hd⟩, hs⟩ := I.tuple hT
        simp only at hc hd
        subst hc hd
        have e0 : its = [] := List.eq_nil_of_length_eq_zero r.length.symm
        have c0 : (decide (k < -(2 ^ 63)) || decide (k ≥ 2 ^ 63)) = false := by
          rw [decide_eq_false (by omega), decide_eq_false (by omega)] <;> rfl
        have c1 : (its.toArray.isEmpty || k == 1) = true := by rw [e0]; rfl
        refine wpAny_binaryOp_repeat_ref (T := "tuple") (U := "int") (by decide) ⟨_, ho, rfl⟩ (fun s' => typeIs_int s' k t) noFill_tuple_mul F.fills_int_mul F.slot_int_rmul repeat_tuple F.slot_int_index.lookup
          (call_meets F.slot_int_rmul (typeIs_int s k t) F.entry_int_rmul (F.args_int_rmul_2 _ _) (int_rmul_tuple k t l its.toArray n dd sl)
            ⟨ho, rfl, ⟨_, ho, rfl⟩, call_meets F.slot_tuple_mul ⟨_, ho, rfl⟩ F.entry_tuple_mul (F.args_tuple_mul_2 _ _) (mul_self l its.toArray n dd sl k t c0 c1) ⟨ho, ?_⟩⟩)
        exact ⟨.ref l, H, I, rfl, q.old hT (by simp)⟩
      · have lx : 1000 < xs.length := by omega
        have hk : k = 0 ∨ k = 1 := by omega
        cases rx
        obtain ⟨t, rfl⟩ := ry
        obtain ⟨its, r, ⟨⟨cls, dd, data, sl⟩, ho, hc, n, hd⟩, hs⟩ := I.tuple hT
        simp only at hc hd
        subst hc hd
        have hle : its.length = xs.length := r.length.symm
        have c0 : (decide (k < -(2 ^ 63)) || decide (k ≥ 2 ^ 63)) = false := by
          rw [decide_eq_false (by omega), decide_eq_false (by omega)] <;> rfl
        have hi : its.toArray.isEmpty = false := by
          cases its with
          | nil =>
            have : xs.length = 0 := hle.symm
            omega
          | cons a b => rfl
        rcases hk with rfl | rfl
        · refine wpAny_binaryOp_repeat_ref (T := "tuple") (U := "int") (by decide) ⟨_, ho, rfl⟩ (fun s' => typeIs_int s' 0 t) noFill_tuple_mul F.fills_int_mul F.slot_int_rmul repeat_tuple F.slot_int_index.lookup
            (call_meets F.slot_int_rmul (typeIs_int s 0 t) F.entry_int_rmul (F.args_int_rmul_2 _ _) (int_rmul_tuple 0 t l its.toArray n dd sl)
              ⟨ho, rfl, ⟨_, ho, rfl⟩, call_meets F.slot_tuple_mul ⟨_, ho, rfl⟩ F.entry_tuple_mul (F.args_tuple_mul_2 _ _) (mul_none l its.toArray n dd sl 0 t c0 (by rw [hi]; rfl) rfl) ⟨ho, ?_⟩⟩)
          refine ⟨.ref s.heap.objs.size, _, I.laid (t' := s.toks) (o := .tup []) (fun b ob z => Heap.get?_push_of_some _ z) (Nat.le_refl _) ?_, rfl, Tups.new (xs := []) q (I.hok.fresh (Nat.le_refl _))⟩
          exact ⟨Nat.zero_le _, [], .nil, IsTup.new _ _⟩
        · refine wpAny_binaryOp_repeat_ref (T := "tuple") (U := "int") (by decide) ⟨_, ho, rfl⟩ (fun s' => typeIs_int s' 1 t) noFill_tuple_mul F.fills_int_mul F.slot_int_rmul repeat_tuple F.slot_int_index.lookup
            (call_meets F.slot_int_rmul (typeIs_int s 1 t) F.entry_int_rmul (F.args_int_rmul_2 _ _) (int_rmul_tuple 1 t l its.toArray n dd sl)
              ⟨ho, rfl, ⟨_, ho, rfl⟩, call_meets F.slot_tuple_mul ⟨_, ho, rfl⟩ F.entry_tuple_mul (F.args_tuple_mul_2 _ _) (mul_self l its.toArray n dd sl 1 t c0 (by rw [hi]; rfl)) ⟨ho, ?_⟩⟩)
          exact ⟨.ref l, H, I, rfl, q.old hT (by simp)⟩
    · have k2 : 2 ≤ k := by omega
      have hx : xs ≠ [] := fun e => hn (.inl e)
      cases rx
      obtain ⟨t, rfl⟩ := ry
      obtain ⟨its, r, ⟨⟨cls, dd, data, sl⟩, ho, hc, n, hd⟩, hs⟩ := I.tuple hT
      simp only at hc hd
      subst hc hd
      have hle : its.length = xs.length := r.length.symm
      have hi : its.toArray.isEmpty = false := by
        cases its with
        | nil => exact absurd (List.eq_nil_of_length_eq_zero hle.symm) hx
        | cons a b => rfl
      have hsz0 : its.toArray.size = xs.length := by rw [List.size_toArray, hle]
      have flenN : k.toNat * xs.length ≤ 1000000 := by
        have e : ((k.toNat * xs.length : Nat) : Int) = (xs.length : Int) * k := by
          rw [Int.natCast_mul, Int.toNat_of_nonneg k0, Int.mul_comm]
        omega
      have hm : ((its.toArray.size : Nat) : Int) * k ≤ 1000000 := by rw [hsz0]; exact few
      have flen : (List.replicate k.toNat its).flatten.length ≤ sizeLine := by
        rw [PyProof.Rows.lm_len_rep_flat, hle, sizeLine_eq]
        omega
      have c0 : (decide (k < -(2 ^ 63)) || decide (k ≥ 2 ^ 63)) = false := by
        rw [decide_eq_false (by omega), decide_eq_false (by omega)] <;> rfl
      have c1 : (its.toArray.isEmpty || k == 1) = false := by
        rw [hi, Bool.false_or]
        exact beq_eq_false_iff_ne.mpr (by omega)
      have c2 : (decide (k ≤ 0) || its.toArray.isEmpty) = false := by
        rw [hi, Bool.or_false]
        exact decide_eq_false (by omega)
      have c4 : Builtin.Tuple.tupleTooMany (((its.toArray.size : Nat) : Int) * k) = false := by
        unfold Builtin.Tuple.tupleTooMany
        rw [sizeLine_eq]
        exact decide_eq_false (by omega)
      refine wpAny_binaryOp_repeat_ref (T := "tuple") (U := "int") (by decide) ⟨_, ho, rfl⟩ (fun s' => typeIs_int s' k t) noFill_tuple_mul F.fills_int_mul F.slot_int_rmul repeat_tuple F.slot_int_index.lookup
        (call_meets F.slot_int_rmul (typeIs_int s k t) F.entry_int_rmul (F.args_int_rmul_2 _ _) (int_rmul_tuple k t l its.toArray n dd sl)
          ⟨ho, rfl, ⟨_, ho, rfl⟩, call_meets F.slot_tuple_mul ⟨_, ho, rfl⟩ F.entry_tuple_mul (F.args_tuple_mul_2 _ _) (tuple_mulW l its.toArray n dd sl k t c0 c1 c2 (by omega) c4 (by rw [size_rep, List.size_toArray]; exact flen)) ⟨ho, ?_⟩⟩)
      rw [size_rep]
      refine ⟨.ref s.heap.objs.size, _, I.laid (t' := s.toks) (o := .tup (List.replicate k.toNat xs).flatten) (fun b ob z => Heap.get?_push_of_some _ z) (Nat.le_refl _) ?_, rfl, q.new (I.hok.fresh (Nat.le_refl _))⟩
      refine ⟨?_, _, r.rep k.toNat, IsTup.new _ _⟩
      rw [PyProof.Rows.lm_len_rep_flat, sizeLine_eq]
      omega
end
end Fc

namespace Fc
open PySem PySem.Spec L2 PyProof.Rows
variable [LamNames]
/-! ### tuples of whole numbers, compared -/
theorem lay_ints : ∀ (A : List Int), PyData.canLayAll0 (A.map PyData.int) = true
  | [] => by simp [PyData.canLayAll0]
  | a :: r => by
    rw [List.map_cons, PyData.canLayAll0, lay_ints r]
    simp [PyData.canLay0]
theorem deep_ints : ∀ (A : List Int), PyData.depthAll (A.map PyData.int) = 0
  | [] => by simp [PyData.depthAll]
  | a :: r => by
    rw [List.map_cons, PyData.depthAll, deep_ints r]
    simp [PyData.depth]
theorem shape_ints (A : List Int) : SeqAt.shaped (.tuple (A.map PyData.int)) = true := by
  unfold SeqAt.shaped
  rw [PyData.canLay0, lay_ints, PyData.depth, deep_ints]
  rfl
theorem dp_all (K : PySem.W.Frag) (H : Hp) : ∀ (A : List Int), DpAll K H (A.map V.int) (A.map PyData.int)
  | [] => .nil
  | a :: r => .cons (.int a) (dp_all K H r)
theorem dp_ints {K : PySem.W.Frag} {H : Hp} {p : Addr} {A : List Int} (h : SqT K H p (A.map V.int)) : Dp K H (.ref p) (.tuple (A.map PyData.int)) := .tup h (dp_all K H A)
theorem eqvAll_ints : ∀ (A B : List Int), PyData.eqvAll (A.map PyData.int) (B.map PyData.int) = decide (A = B)
  | [], [] => by simp [PyData.eqvAll]
  | [], b :: r => by simp [PyData.eqvAll]
  | a :: r, [] => by simp [PyData.eqvAll]
  | a :: r, b :: t => by
    rw [List.map_cons, List.map_cons, PyData.eqvAll, eqvAll_ints r t, Bool.eq_iff_iff]
    simp [PyData.eqv]
theorem eqv_tup (A B : List Int) : PyData.eqv (.tuple (A.map PyData.int)) (.tuple (B.map PyData.int)) = decide (A = B) := by
  rw [← eqvAll_ints]
  simp only [PyData.eqv]
end Fc

namespace Fc
open PySem PySem.Spec L2 PyProof.Rows
variable [LamNames]
/-! ### own errors, and defs that raise them -/
abbrev veMro : List Value := [.type "ValueError", .type "Exception", .type "BaseException", .type "object"]
structure Exc (K : PySem.W.Frag) (mg : Str → Option Value) (x : Str) (C : Addr) : Prop where
  g : mg x = some (.ref C)
  x : PySem.W.excIn K C veMro "ValueError.__new__" = true
  k : PySem.W.keepIn K (.ref C) = true
  s : PySem.W.subIn K (.ref C) (.type "BaseException") = some true
  t : PySem.W.typeIn K (.ref C) = some (.type "type")
  i : PySem.W.isClsIn K C = true
theorem caught {K : PySem.W.Frag} {mg : Str → Option Value} {x : Str} {B C : Addr} {b : Bool} (e : Exc K mg x C) (h : PySem.W.subIn K (.ref B) (.ref C) = some b) : PySem.W.exmOne K (.ref B) (.ref C) = some b := by
  unfold PySem.W.exmOne
  rw [if_pos (by rw [e.s]; rfl)]
  show (if ((PySem.W.clsIn K C).isSome && PySem.W.typeIn K (.ref C) == some (.type "type")) = true then PySem.W.subIn K (.ref B) (.ref C) else none) = some b
  rw [if_pos (by rw [show (PySem.W.clsIn K C).isSome = true from e.i, e.t]; rfl), h]
section
variable {X : Cx}
theorem ps_raiseC {W : WX} {x m : Str} {C : Addr} {j : Nat} {p p2 p3 pos : Pos} (hc : X.calm = true) (tk : Takes X W) (e : Exc X.K X.mg x C) (hg : Gl X x := by rfl) (hdb : (x == ("__debug__" : Str)) = false := by decide) :
    PS X (.Raise (some (.Call (.Name x p) [.Constant (.str m) j p2] [] p3)) none pos) (fun _ σ H => W (.ref C) none σ H) :=
  ps_raise hc tk (pmk_own PySem.F.excBase_ValueError e.x e.g e.k (raises_own e.s e.t) hg hdb)
end
/-- as Cal, of a def that may raise -/
structure CalX (P : Program) (w : World) (K : PySem.W.Frag) (mg : Str → Option Value) (base : Heap) (x : Str) (k : Nat) (ps : List Str) (sp : Sp) : Prop where
  ex : ∃ f fd, FnOk P w K mg base (L2.CX P w) k f fd ps sp ∧ mg x = some (.ref f) ∧ PySem.W.keepIn K (.ref f) = true ∧ Binds K fd ps []
section
variable {X : Cx} {x : Str} {k : Nat} {ps : List Str} {sp : Sp} {p pos : Pos} {e : Expr} {es : List Expr} {t : TA}
theorem pe_cx {E : XK} (C : CalX X.prog X.w X.K X.mg X.base x k ps sp) (hr : Room k X.A) (tk : Takes X (fun cls d _ H => E cls d H)) (ha : PA X (e :: es) t) (hg : Gl X x := by rfl) (hdb : (x == ("__debug__" : Str)) = false := by decide)
    (he : starEach (e :: es) X.env = (false, eval e X.env) :: starEach es X.env := by rfl) (hpl : (backTo pos (starEach es X.env)).any (·.1) = false := by rfl) : PE X (.Call (.Name x p) (e :: es) [] pos) (tCall sp [] E t) := by
  obtain ⟨f, fd, F, m, kp, b⟩ := C.ex
  exact pe_call F hr hg m kp b .nil (passes_call tk fun _ _ _ _ h => h) ha hdb he hpl
theorem pe_cn (C : CalX X.prog X.w X.K X.mg X.base x k ps sp) (hr : Room k X.A) (ha : PA X (e :: es) t) (hg : Gl X x := by rfl) (hdb : (x == ("__debug__" : Str)) = false := by decide)
    (he : starEach (e :: es) X.env = (false, eval e X.env) :: starEach es X.env := by rfl) (hpl : (backTo pos (starEach es X.env)).any (·.1) = false := by rfl) : PE X (.Call (.Name x p) (e :: es) [] pos) (tCall sp [] E0 t) := by
  obtain ⟨f, fd, F, m, kp, b⟩ := C.ex
  exact pe_call F hr hg m kp b .nil passL ha hdb he hpl
theorem pe_cs {W : WX} (C : CalX X.prog X.w X.K X.mg X.base x k ps sp) (hr : Room k X.A) (tk : Takes X W) (ha : PA X (e :: es) t) (hg : Gl X x := by rfl) (hdb : (x == ("__debug__" : Str)) = false := by decide)
    (he : starEach (e :: es) X.env = (false, eval e X.env) :: starEach es X.env := by rfl) (hpl : (backTo pos (starEach es X.env)).any (·.1) = false := by rfl) : PE X (.Call (.Name x p) (e :: es) [] pos) (tCallS sp (WE W) t) := by
  obtain ⟨f, fd, F, m, kp, b⟩ := C.ex
  exact pe_callS F hr hg m kp b (fun σ => passAt tk σ) ha hdb he hpl
end
end Fc

namespace Fc
open PySem PySem.Spec L2 PyProof.Rows
variable [LamNames]
/-! ### data of tuples, in heaps that grow -/
mutual
theorem dpKeep {K : PySem.W.Frag} {H H' : Hp} (e : Same H H') : ∀ {d : PyData} {v : V}, Dp K H v d → Dp K H' v d
  | .none, _, .non => .non
  | .bool _, _, .bl b => .bl b
  | .int _, _, .int i => .int i
  | .str _, _, .str x => .str x
  | .list _, _, .lst h hs => .lst (e.seq h) (dpKeepAll e hs)
  | .tuple _, _, .tup h hs => .tup (keepT e h) (dpKeepAll e hs)
theorem dpKeepAll {K : PySem.W.Frag} {H H' : Hp} (e : Same H H') : ∀ {ds : List PyData} {vs : List V}, DpAll K H vs ds → DpAll K H' vs ds
  | [], _, .nil => .nil
  | _ :: _, _, .cons h hs => .cons (dpKeep e h) (dpKeepAll e hs)
end
mutual
def tupsOnly : PyData → Bool
  | .none | .bool _ | .int _ | .str _ => true
  | .tuple ds => decide (ds.length ≤ 100000) && tupsAll ds
  | .list _ | .dict _ => false
def tupsAll : List PyData → Bool
  | [] => true
  | d :: r => tupsOnly d && tupsAll r
end
theorem tupsAll_get : ∀ {ds : List PyData} {i : Nat} {d : PyData}, tupsAll ds = true → ds[i]? = some d → tupsOnly d = true
  | [], _, _, _, h => by cases h
  | x :: r, 0, d, h, e => by
    rw [tupsAll, Bool.and_eq_true] at h
    cases e
    exact h.1
  | x :: r, i + 1, d, h, e => by
    rw [tupsAll, Bool.and_eq_true] at h
    exact tupsAll_get h.2 e
theorem depth_get : ∀ {ds : List PyData} {i : Nat} {d : PyData}, ds[i]? = some d → PyData.depth d ≤ PyData.depthAll ds
  | [], _, _, h => by cases h
  | x :: r, 0, d, e => by
    cases e
    rw [PyData.depthAll]
    exact Nat.le_max_left _ _
  | x :: r, i + 1, d, e => by
    rw [PyData.depthAll]
    exact Nat.le_trans (depth_get (ds := r) e) (Nat.le_max_right _ _)
theorem dpLen {K : PySem.W.Frag} {H : Hp} : ∀ {vs : List V} {ds : List PyData}, DpAll K H vs ds → vs.length = ds.length
  | _, _, .nil => rfl
  | _, _, .cons _ hs => congrArg (· + 1) (dpLen hs)
theorem dpGet {K : PySem.W.Frag} {H : Hp} : ∀ {vs : List V} {ds : List PyData} {i : Nat} {v : V}, DpAll K H vs ds → vs[i]? = some v → ∃ d, ds[i]? = some d ∧ Dp K H v d
  | _, _, _, _, .nil, h => by cases h
  | _, _, 0, _, .cons h hs, e => by
    cases e
    exact ⟨_, rfl, h⟩
  | _, _, i + 1, _, .cons h hs, e => dpGet (i := i) hs e
theorem dpInts {K : PySem.W.Frag} {H : Hp} : ∀ (A : List Int), DpAll K H (A.map V.int) (A.map PyData.int)
  | [] => .nil
  | a :: r => .cons (.int a) (dpInts r)
theorem tupsAll_ints : ∀ (A : List Int), tupsAll (A.map PyData.int) = true
  | [] => rfl
  | a :: r => by rw [List.map_cons, tupsAll, tupsAll_ints r]; rfl
theorem depthAll_ints : ∀ (A : List Int), PyData.depthAll (A.map PyData.int) = 0
  | [] => rfl
  | a :: r => by rw [List.map_cons, PyData.depthAll, depthAll_ints r]; rfl
/-- a tuple of whole numbers, as data -/
abbrev dInts (A : List Int) : PyData := .tuple (A.map PyData.int)
theorem dpTup {K : PySem.W.Frag} {H : Hp} {p : Addr} {A : List Int} (h : SqT K H p (A.map V.int)) : Dp K H (.ref p) (dInts A) := .tup h (dpInts A)
theorem dInts_ok (A : List Int) (h : A.length ≤ 100000) : tupsOnly (dInts A) = true ∧ PyData.depth (dInts A) ≤ 1 := ⟨by
  rw [tupsOnly, tupsAll_ints, decide_eq_true (by rw [List.length_map]; exact h)]
  rfl, by
  show PyData.depthAll (A.map PyData.int) + 1 ≤ 1
  rw [depthAll_ints]
  exact Nat.le_refl 1⟩
end Fc

namespace Fc
open PySem PySem.Spec L2 PyProof.Rows
variable [LamNames]
/-! ### texts as rows of codes -/
def mkS (l : List Nat) : Str := ⟨l.toArray⟩
def T (l : List Nat) : V := .str (mkS l)
theorem tl_mkS (l : List Nat) : TL.tl (mkS l) = l := rfl
theorem mkS_tl (x : Str) : mkS (TL.tl x) = x := TL.mk_tl x
theorem mkS_inj {a b : List Nat} (h : mkS a = mkS b) : a = b := by
  have := congrArg TL.tl h
  exact this
theorem T_inj {a b : List Nat} (h : T a = T b) : a = b := mkS_inj (V.str.inj h)
theorem dec_T {a b : List Nat} : decide (T a = T b) = decide (a = b) := by
  by_cases z : a = b
  · rw [z]; simp
  · rw [decide_eq_false z]; exact decide_eq_false fun k => z (T_inj k)
theorem len_mkS (l : List Nat) : (mkS l).length = l.length := TL.len_tl _
theorem mkS_app (a b : List Nat) : mkS a ++ mkS b = mkS (a ++ b) := TL.ext_tl (by rw [TL.tl_append]; rfl)
theorem mkS_cut (l : List Nat) (lo hi : Option Int) : cutS (mkS l) lo hi = mkS ((l.drop (HT.sIx l.length 0 lo)).take (HT.sIx l.length l.length hi - HT.sIx l.length 0 lo)) := by
  apply TL.ext_tl
  unfold cutS
  rw [len_mkS]
  first
    | rfl
    | (rw [TL.tl_strSub]; rfl)
/-! ### pieces between strokes -/
def splitC (c : Nat) : List Nat → List (List Nat)
  | [] => [[]]
  | x :: r => if x = c then [] :: splitC c r else match splitC c r with
    | [] => [[x]]
    | p :: ps => (x :: p) :: ps
theorem splitC_ne (c : Nat) : ∀ l, splitC c l ≠ []
  | [] => by simp [splitC]
  | x :: r => by
    rw [splitC]
    split
    · simp
    · split <;> simp
theorem spl_splitC (c : Nat) : ∀ (l acc : List Nat), TL.spl [c] 0 acc l = (match splitC c l with | [] => [acc] | p :: ps => (acc ++ p) :: ps)
  | [], acc => by
    rw [TL.spl_nil, splitC]
    simp
  | x :: r, acc => by
    by_cases z : x = c
    · subst z
      rw [TL.spl_hit (by unfold TL.pre; simp)]
      show acc :: TL.spl [x] 0 [] r = _
      rw [spl_splitC x r [], splitC, if_pos rfl]
      cases e : splitC x r with
      | nil => exact absurd e (splitC_ne x r)
      | cons p ps => simp
    · rw [TL.spl_miss (TL.pre_of_head [] r z), spl_splitC c r (acc ++ [x]), splitC, if_neg z]
      cases e : splitC c r with
      | nil => exact absurd e (splitC_ne c r)
      | cons p ps => simp
theorem split_mkS (c : Nat) (hc : c < 256) (l : List Nat) : Txt.split (mkS l) (mkS [c]) = (splitC c l).map mkS := by
  apply TL.map_tl_inj
  rw [TL.split_spl (mkS l) (mkS [c]) (by rw [tl_mkS]; simp) (TL.kind_ok (by simp [mkS, hc]))]
  rw [tl_mkS, tl_mkS, spl_splitC, List.map_map]
  have e : (TL.tl ∘ mkS) = id := rfl
  rw [e, List.map_id]
  cases e2 : splitC c l with
  | nil => exact absurd e2 (splitC_ne c l)
  | cons p ps => simp
def joinC (c : Nat) (ps : List (List Nat)) : List Nat := TL.joinL [c] ps
theorem join_mkS (c : Nat) (ps : List (List Nat)) : Txt.join (mkS [c]) (ps.map mkS) = mkS (joinC c ps) := by
  apply TL.ext_tl
  rw [TL.join_eq, TL.tl_join, List.map_map]
  have e : (TL.tl ∘ mkS) = id := rfl
  rw [e, List.map_id]
  rfl
theorem split_joinC (c : Nat) {ps : List (List Nat)} (hne : ps ≠ []) (h : ∀ p ∈ ps, c ∉ p) : splitC c (joinC c ps) = ps := by
  have e := TL.spl_join (s := c) (S := []) hne h
  have e2 := spl_splitC c (joinC c ps) []
  rw [show TL.spl [c] 0 [] (joinC c ps) = ps from e] at e2
  cases q : splitC c (joinC c ps) with
  | nil => exact absurd q (splitC_ne _ _)
  | cons p r =>
    rw [q] at e2
    simpa using e2.symm
theorem joinC_len (c : Nat) : ∀ (ps : List (List Nat)) (m : Nat), (∀ p ∈ ps, p.length ≤ m) → (joinC c ps).length ≤ ps.length * (m + 1)
  | [], m, _ => by simp [joinC, TL.joinL]
  | [p], m, h => by
    have := h p (by simp)
    simp [joinC, TL.joinL]
    omega
  | p :: q :: r, m, h => by
    have ih := joinC_len c (q :: r) m fun x hx => h x (List.mem_cons_of_mem _ hx)
    have hp := h p (by simp)
    have e : joinC c (p :: q :: r) = p ++ [c] ++ joinC c (q :: r) := by simp [joinC, TL.joinL]
    have e3 : (p :: q :: r).length * (m + 1) = (q :: r).length * (m + 1) + (m + 1) := by
      show ((q :: r).length + 1) * (m + 1) = _
      rw [Nat.add_mul, Nat.one_mul]
    have e4 : ([c] : List Nat).length = 1 := rfl
    rw [e, e3, List.length_append, List.length_append, e4]
    omega
end Fc

namespace Fc
open PySem PySem.Spec L2 PyProof.Rows
variable [LamNames]
/-! ### parts and paths -/
/-- a to z, 0 to 9, the dot, the two strokes -/
def good : List Nat := [97, 98, 99, 100, 101, 102, 103, 104, 105, 106, 107, 108, 109, 110, 111, 112, 113, 114, 115, 116, 117, 118, 119, 120, 121, 122, 48, 49, 50, 51, 52, 53, 54, 55, 56, 57, 46, 45, 95]
def partOk (p : List Nat) : Prop := 1 ≤ p.length ∧ p.length ≤ 12 ∧ p ≠ [46] ∧ p ≠ [46, 46] ∧ ∀ c ∈ p, c ∈ good
instance (p : List Nat) : Decidable (partOk p) := by
  unfold partOk
  infer_instance
theorem no_stroke {p : List Nat} (h : partOk p) : 47 ∉ p := fun m => absurd (h.2.2.2.2 47 m) (by decide)
inductive CRes where
  | bad
  | out
  | ok (kept : List (List Nat))
def walkC : List (List Nat) → List (List Nat) → CRes
  | [], kept => if kept = [] ∨ 8 < kept.length then .bad else .ok kept
  | p :: r, kept => if p = [46, 46] then (if kept = [] then .out else walkC r kept.dropLast) else if p = [] ∨ p = [46] then walkC r kept else if partOk p then walkC r (kept ++ [p]) else .bad
def cleanF (l : List Nat) : CRes := if l.head? = some 47 then .out else walkC (splitC 47 l) []
/-- the path that these parts make -/
def pathOf (ps : List (List Nat)) : List Nat := joinC 47 ps
def PathOk (ps : List (List Nat)) : Prop := ps ≠ [] ∧ ps.length ≤ 8 ∧ ∀ p ∈ ps, partOk p
theorem walkC_ok : ∀ (ps kept : List (List Nat)) {k2 : List (List Nat)}, (∀ p ∈ kept, partOk p) → walkC ps kept = .ok k2 → PathOk k2
  | [], kept, k2, h, e => by
    rw [walkC] at e
    split at e
    · cases e
    · rename_i z
      cases e
      exact ⟨fun q => z (.inl q), by omega, h⟩
  | p :: r, kept, k2, h, e => by
    rw [walkC] at e
    split at e
    · split at e
      · cases e
      · exact walkC_ok r _ (fun q hq => h q ((List.dropLast_sublist _).mem hq)) e
    · split at e
      · exact walkC_ok r _ h e
      · split at e
        · rename_i g
          refine walkC_ok r _ (fun q hq => ?_) e
          rcases List.mem_append.mp hq with hq | hq
          · exact h q hq
          · rw [List.mem_singleton.mp hq]
            exact g
        · cases e
theorem cleanF_ok {l : List Nat} {ps : List (List Nat)} (h : cleanF l = .ok ps) : PathOk ps := by
  unfold cleanF at h
  split at h
  · cases h
  · exact walkC_ok _ _ (fun p hp => by cases hp) h
theorem walkC_parts : ∀ (ps kept : List (List Nat)) (r : List (List Nat)), (∀ p ∈ ps, partOk p) → walkC (ps ++ r) kept = walkC r (kept ++ ps)
  | [], kept, r, _ => by simp
  | p :: ps, kept, r, h => by
    have g := h p (by simp)
    have n1 : p ≠ [46, 46] := g.2.2.2.1
    have n2 : ¬ (p = [] ∨ p = [46]) := fun z => by
      rcases z with z | z
      · rw [z] at g
        exact absurd g.1 (by decide)
      · exact g.2.2.1 z
    rw [List.cons_append, walkC, if_neg n1, if_neg n2, if_pos g, walkC_parts ps (kept ++ [p]) r fun q hq => h q (List.mem_cons_of_mem _ hq), List.append_assoc]
    rfl
theorem head_join {ps : List (List Nat)} (h : PathOk ps) : (pathOf ps).head? ≠ some 47 := by
  obtain ⟨hne, _, hp⟩ := h
  cases ps with
  | nil => exact absurd rfl hne
  | cons p r =>
    have g := hp p (by simp)
    cases p with
    | nil => exact absurd g.1 (by decide)
    | cons c q =>
      have nc : c ≠ 47 := fun z => no_stroke g (by rw [z]; simp)
      cases r with
      | nil =>
        show (c :: q).head? ≠ some 47
        simpa using nc
      | cons p2 r2 =>
        show ((c :: q) ++ ([47] ++ TL.joinL [47] (p2 :: r2))).head? ≠ some 47
        simpa using nc
theorem split_path {ps : List (List Nat)} (h : PathOk ps) : splitC 47 (pathOf ps) = ps := split_joinC 47 h.1 fun p hp => no_stroke (h.2.2 p hp)
theorem clean_path {ps : List (List Nat)} (h : PathOk ps) : cleanF (pathOf ps) = .ok ps := by
  unfold cleanF
  rw [if_neg (head_join h), split_path h]
  have e := walkC_parts ps [] [] h.2.2
  rw [List.append_nil, List.nil_append] at e
  rw [e, walkC, if_neg (fun z => by rcases z with z | z; exact h.1 z; exact absurd h.2.1 (by omega))]
/-! ### a stroke and two dots behind -/
theorem splitC_app (c : Nat) : ∀ (l m : List Nat), splitC c (l ++ c :: m) = splitC c l ++ splitC c m
  | [], m => by
    show splitC c (c :: m) = [[]] ++ splitC c m
    rw [splitC, if_pos rfl]
    rfl
  | x :: r, m => by
    show splitC c (x :: (r ++ c :: m)) = _
    rw [splitC, splitC, splitC_app c r m]
    by_cases z : x = c
    · rw [if_pos z, if_pos z]
      rfl
    · rw [if_neg z, if_neg z]
      cases e : splitC c r with
      | nil => exact absurd e (splitC_ne c r)
      | cons p ps => rfl
theorem clean_up {ps : List (List Nat)} (h : PathOk ps) : cleanF (pathOf ps ++ [47, 46, 46]) = if ps.dropLast = [] then .bad else .ok ps.dropLast := by
  have hd : (pathOf ps ++ [47, 46, 46]).head? ≠ some 47 := by
    have := head_join h
    cases e : pathOf ps with
    | nil =>
      have s := split_path h
      rw [e] at s
      have g := h.2.2 [] (by rw [← s]; simp [splitC])
      exact absurd g.1 (by decide)
    | cons c q =>
      rw [e] at this
      simpa using this
  unfold cleanF
  rw [if_neg hd, show pathOf ps ++ [47, 46, 46] = pathOf ps ++ 47 :: [46, 46] from rfl, splitC_app, split_path h, show splitC 47 [46, 46] = [[46, 46]] by decide, walkC_parts ps [] _ h.2.2, List.nil_append, walkC, if_pos rfl, if_neg h.1, walkC]
  have l8 : ps.dropLast.length ≤ 8 := by
    rw [List.length_dropLast]
    have := h.2.1
    omega
  by_cases z : ps.dropLast = []
  · rw [if_pos (.inl z), if_pos z]
  · rw [if_neg (fun k => by rcases k with k | k; exact z k; omega), if_neg z]
/-- the paths above -/
def aboveF (ps : List (List Nat)) : List (List Nat) := (List.range (ps.length - 1)).map fun k => pathOf (ps.take (k + 1))
theorem aboveF_last {ps : List (List Nat)} (h : ps ≠ []) : (aboveF ps).getLast? = if ps.dropLast = [] then none else some (pathOf ps.dropLast) := by
  unfold aboveF
  have lp : 0 < ps.length := List.length_pos_iff.mpr h
  have ld := List.length_dropLast (xs := ps)
  by_cases z : ps.length = 1
  · have e : ps.dropLast = [] := List.eq_nil_of_length_eq_zero (by rw [ld]; omega)
    rw [if_pos e, z]
    rfl
  · have e : ps.dropLast ≠ [] := fun q => by
      rw [q] at ld
      simp at ld
      omega
    rw [if_neg e, List.getLast?_map, List.getLast?_range]
    have z2 : ¬ ps.length - 1 = 0 := by omega
    rw [if_neg z2]
    show some (pathOf (ps.take (ps.length - 1 - 1 + 1))) = _
    rw [show ps.length - 1 - 1 + 1 = ps.length - 1 by omega, List.dropLast_eq_take]
end Fc

namespace Fc
open PySem PySem.Spec L2 PyProof.Rows
variable [LamNames]
/-! ### [c for c in text if test] -/
theorem lc_sign {l : List Nat} {keep : Nat → Bool} {tt : TT} {te : TE} {vs : List Nat} {σ : L2.St} {H1 : Hp} {D : Addr} {j : Nat} {Qd : Hp → Prop} (nD : H1 D = none) (hz : l.length ≤ sizeLine)
    (hw : ∀ x, wipe ((wipe σ vs).set j (some x)) vs = wipe σ vs)
    (test : ∀ (i : Nat) (c : Nat) (H : Hp) (R : Bool → Hp → Prop), l[i]? = some c → Same H1 H → (∀ H', Same H H' → R (keep c) H') → tt ((wipe σ vs).set j (some (T [c]))) H R)
    (item : ∀ (c : Nat) (H : Hp) (R : V → Hp → Prop), Same H1 H → (∀ H', Same H H' → R (T [c]) H') → te ((wipe σ vs).set j (some (T [c]))) H R) (hd : ∀ H', Same H1 H' → H' D = some (.lst ((l.filter keep).map fun c => T [c])) → Qd H') :
    ∃ W : Nat → Nat → Hp → Prop, (∃ m, W 0 m (upd H1 D (.lst []))) ∧ ∀ i m H, W i m H →
      ((Its (mkS l)).stop i H ∧ Qd H) ∨ ((Its (mkS l)).go i H ∧ ∃ Nx : Hp → Prop, (∀ H', Nx H' → ∃ m', m' < m ∧ W (i + 1) m' H') ∧ ∀ x H', (Its (mkS l)).yld i H x H' → gName j x (wipe σ vs) H' fun σ2 H2 => wipe σ2 vs = wipe σ vs ∧ tt σ2 H2 fun b H3 =>
        if b = true then te σ2 H3 fun y H4 => ∃ acc, H4 D = some (.lst acc) ∧ acc.length < sizeLine ∧ Nx (upd H4 D (.lst (acc ++ [y]))) else Nx H3) := by
  have sz : (mkS l).cps.size = l.length := by simp [mkS]
  refine ⟨fun i m H => m = l.length - i ∧ i ≤ l.length ∧ Same H1 H ∧ H D = some (.lst (((l.take i).filter keep).map fun c => T [c])), ⟨l.length, rfl, Nat.zero_le _, grow nD, upd_same⟩, ?_⟩
  rintro i m H ⟨rfl, hi, sm, hD⟩
  by_cases lt : i < l.length
  · refine .inr ⟨by show i < (mkS l).cps.size; omega, fun H' => Same H1 H' ∧ H' D = some (.lst (((l.take (i + 1)).filter keep).map fun c => T [c])), fun H' p => ⟨l.length - (i + 1), by omega, rfl, lt, p.1, p.2⟩, fun x H' yl => ?_⟩
    obtain ⟨rfl, c, hc, rfl⟩ := yl
    have gc : l[i]? = some c := by
      have : (mkS l).cps[i]? = l[i]? := by simp [mkS]
      rw [← this]
      exact hc
    have ft : (l.take (i + 1)).filter keep = (l.take i).filter keep ++ (if keep c = true then [c] else []) := by
      rw [List.take_add_one, gc, Option.toList_some, List.filter_append]
      congr 1
      by_cases k : keep c = true
      · rw [if_pos k, List.filter_cons_of_pos k]; rfl
      · rw [if_neg k, List.filter_cons_of_neg k]; rfl
    refine ⟨hw _, test i c H' _ gc sm fun H3 s3 => ?_⟩
    by_cases k : keep c = true
    · rw [if_pos k]
      refine item c H3 _ (sm.trans s3) fun H4 s4 => ⟨_, s4 _ _ (s3 _ _ hD), ?_, ?_, ?_⟩
      · rw [List.length_map]
        have := List.length_filter_le keep (l.take i)
        rw [List.length_take] at this
        omega
      · exact (sm.trans (s3.trans s4)).over nD (.lst (s4 _ _ (s3 _ _ hD)))
      · rw [upd_same, ft, if_pos k, List.map_append]
        rfl
    · rw [if_neg k]
      refine ⟨sm.trans s3, ?_⟩
      rw [ft, if_neg k, List.append_nil]
      exact s3 _ _ hD
  · have e : i = l.length := by omega
    subst e
    refine .inl ⟨by show (mkS l).cps.size ≤ _; omega, hd H sm ?_⟩
    rw [hD, List.take_length]
theorem at_ofA {α : Type} {xs : List α} {z : Int} {j : Nat} {v : α} (e : z = (j : Int)) (h : xs[j]? = some v) : atI xs z = some v := by
  rw [e]
  exact atI_nat h
/-! ### written texts -/
theorem t_dot : (V.str (Str.ofString ".")) = T [46] := by rw [show Str.ofString "." = mkS [46] by decide +kernel]; rfl
theorem t_dots : (V.str (Str.ofString "..")) = T [46, 46] := by rw [show Str.ofString ".." = mkS [46, 46] by decide +kernel]; rfl
theorem t_none : (V.str (Str.ofString "")) = T [] := by rw [show Str.ofString "" = mkS [] by decide +kernel]; rfl
theorem t_slash : (V.str (Str.ofString "/")) = T [47] := by rw [show Str.ofString "/" = mkS [47] by decide +kernel]; rfl
theorem t_good : Str.ofString "abcdefghijklmnopqrstuvwxyz0123456789.-_" = mkS good := by decide +kernel
theorem s_slash : Str.ofString "/" = mkS [47] := by decide +kernel
theorem starts_slash (l : List Nat) : Txt.startswith (mkS l) (mkS [47]) = decide (l.head? = some 47) := by
  cases l with
  | nil => decide +kernel
  | cons c r =>
    have e : Txt.startswith (mkS (c :: r)) (mkS [47]) = Builtin.Str.subAt (mkS (c :: r)) (mkS [47]) 0 := by
      unfold Txt.startswith
      rw [decide_eq_true (by rw [len_mkS, len_mkS]; simp), Bool.true_and]
    rw [e]
    unfold Builtin.Str.subAt
    simp [mkS, Str.length]
    exact Bool.eq_iff_iff.mpr (by simp)
end Fc

namespace Fc
open PySem PySem.Spec L2 PyProof.Rows
open AutoSeq1 (wpAny_loadPart')
variable [LamNames]
/-! ### enumerate of a tuple -/
def enO (a : Addr) : Obj := { cls := .type "enumerate", data := .fields #[.none, .bool false, .ref a, rawInt 0, .none, .none] }
def tiO (l : Addr) : Obj := { cls := .type "tuple_iterator", data := .fields #[.ref l, .int 0 0] }
theorem enum_newT (l : Addr) (its : Array Value) (n : Nat) (dd : Option Addr) (sl : Array (Option Value)) :
    Meets (Builtin.«enumerate.__new__» ⟨[.type "enumerate", .ref l], []⟩) (fun _ R s => s.heap.get? l = some { cls := .type "tuple", dict := dd, data := .seq its n, slots := sl } ∧
      R (.ok (.ret (.ref (s.heap.push (tiO l)).objs.size))) { s with heap := (s.heap.push (tiO l)).push (enO s.heap.objs.size) }) := .of_wp fun prog w A R s h => by
  obtain ⟨hp, g, d, tk, os⟩ := s
  obtain ⟨hl, h⟩ := h
  have sub := sub_enumerate
  have ht : Heap.IsTuple (Shared.heap ⟨hp, g, d, tk, os⟩) l its := ⟨_, hl, rfl, n, rfl⟩
  wp_walk using wpAny_loadPart' hl
  refine wpAny_stack_any fun st => wpAny_pure ?_
  split
  · rename_i c _ _ _ _ _
    cases (c == Value.type "enumerate") <;> (wp_walk using wpAny_loadPart' hl, wpAny_pyIter_tuple ht; exact ⟨_, rfl, h⟩)
  · wp_walk using wpAny_loadPart' hl, wpAny_pyIter_tuple ht
    exact ⟨_, rfl, h⟩
theorem call_enumT {prog : Program} {w : World} {A : Around} {E : Value → Shared → Prop} {s : Shared} {l : Addr} {its : Array Value} {Q : Value → Shared → Prop} (ht : s.heap.IsTuple l its)
    (h : ∀ h', IsEnum h' (s.heap.objs.size + 1) s.heap.objs.size 0 .none → h'.IsTupleIter s.heap.objs.size l 0 → (∀ b o, s.heap.get? b = some o → h'.get? b = some o) → Q (.ref (s.heap.objs.size + 1)) { s with heap := h' }) :
    wpAny (model prog w) A (call (.type "enumerate") [.ref l]) Q E s := by
  obtain ⟨⟨c, dd, dt, sl⟩, hl, hc, n, hd⟩ := ht
  dsimp only at hc hd
  subst hc hd
  refine callType_new F.called_enumerate (by decide) (F.typeCall_enumerate_1 _) (F.newCall_enumerate_1 _) (fun obj => F.args_object_init_2 obj _) F.entry_enumerate_new (enum_newT l its n dd sl) ⟨hl, ?_⟩
  have z1 : (s.heap.push (tiO l)).objs.size = s.heap.objs.size + 1 := Heap.size_push ..
  have he : IsEnum ((s.heap.push (tiO l)).push (enO s.heap.objs.size)) (s.heap.objs.size + 1) s.heap.objs.size 0 .none := by
    have q := Heap.get?_push_size (s.heap.push (tiO l)) (o := enO s.heap.objs.size) rfl
    rw [z1] at q
    exact q
  show _ ∧ _
  rw [z1]
  exact ⟨⟨_, he, rfl⟩, h _ he ⟨_, Heap.get?_push_of_some _ (Heap.get?_push_size _ rfl), rfl, rfl⟩ fun b o x => Heap.get?_push_of_some _ (Heap.get?_push_of_some _ x)⟩
def IteT (K : PySem.W.Frag) (a : Addr) : It where
  go := fun i H => ∃ (xs : List V) (x : V), SqT K H a xs ∧ xs[i]? = some x
  yld := fun i H v H' => ∃ T x, v = .ref T ∧ H T = none ∧ H' = upd H T (.tup [.int (i : Nat), x]) ∧ ∀ xs, SqT K H a xs → xs[i]? = some x
  stop := fun i H => ∃ xs : List V, SqT K H a xs ∧ xs.length = i
theorem turn_enumT {P : Program} {w : World} {K : PySem.W.Frag} {es : List Expr} {kk : Nat} {tp : Pos} (a e it : Addr) :
    Turn P w K (.Tuple es kk tp) (IteT K a) [e, it] e (fun i h => (∃ old, IsEnum h e it ((i : Nat) : Int) old) ∧ h.IsTupleIter it a i ∧ e ≠ it) where
  mem := by simp
  obj := fun i h st b hb => by
    obtain ⟨⟨old, he⟩, ⟨o, ho, _, hd⟩, _⟩ := st
    rcases (show b = e ∨ b = it by simpa using hb) with rfl | rfl
    · exact ⟨_, he, fun v q => nomatch q⟩
    · exact ⟨o, ho, fun v q => by rw [hd] at q; cases q⟩
  keep := fun i h h' st k => by
    obtain ⟨⟨old, he⟩, hi, ne⟩ := st
    exact ⟨⟨old, k e (by simp) _ he⟩, hi.at fun o q => k it (by simp) o q, ne⟩
  item := by
    intro X hP hw hK hc i pins s σ H E I hf st hg
    subst hP hw hK
    obtain ⟨⟨old, he⟩, hit, ne⟩ := st
    obtain ⟨xs, x, hq, hx⟩ := hg
    obtain ⟨its, rv, p, _⟩ := I.tuple hq
    obtain ⟨u, hu, ru⟩ := rv.get hx
    obtain ⟨oa, ha, ca, na, da⟩ := id p
    obtain ⟨oi, hi, ci, di⟩ := id hit
    have nai : a ≠ it := fun z => by
      rw [z, hi] at ha
      cases ha
      rw [di] at da
      cases da
    have nea : e ≠ a := fun z => by
      have he' : s.heap.get? e = _ := he
      rw [z, ha] at he'
      cases he'
      cases da
    have hel : e < s.heap.objs.size := Heap.lt_size he
    have hil : it < s.heap.objs.size := Heap.lt_size hi
    have hlt : i < its.toArray.size := by
      have := (List.getElem?_eq_some_iff.mp hu).1
      simpa using this
    refine wpAny_pyNext_enum_itemD (Draws.tuple (A := X.A.in1) (I.ok.hd hc) it a nai its.toArray) he ⟨hit, p⟩ hlt ne (by simp [ne, nea]) fun y h1 tk py ho st1 hT _ hk => ?_
    have ey : y = u := by
      have z : its.toArray[i]? = some u := by simpa using hu
      exact Option.some.inj (py.symm.trans z)
    subst ey
    refine ⟨_, rfl, wpAny_letOwnedTupleGo_enum (s := { s with heap := h1, toks := tk + 1 }) ho fun h2 he2 sb => ?_⟩
    have hT2 : h2.get? s.heap.objs.size = some { cls := .type "tuple", data := .seq #[.int i tk, y] } := (sb.2 _ (Nat.ne_of_gt hel)).trans hT
    have new : ObjOk X.prog X.w (upd H s.heap.objs.size (.tup [.int (i : Nat), x])) h2 s.heap.objs.size (.tup [.int (i : Nat), x]) := ⟨by show 2 ≤ sizeLine; rw [sizeLine_eq]; decide, [.int i tk, y], .cons ⟨_, rfl⟩ (.cons ru .nil), ⟨_, hT2, rfl, _, rfl⟩⟩
    have I1 : Inv X pins σ (upd H s.heap.objs.size (.tup [.int (i : Nat), x])) { s with heap := h2, toks := tk + 1 } :=
      I.turnedNew (t' := tk + 1) (ch := [e, it]) (fun b ob hb q => (sb.2 b fun z => hb (by simp [z])).trans (hk b ob (fun z => hb (by simp [z])) (fun z => hb (by simp [z])) q)) hf (Nat.le_refl _) new
    refine ⟨.ref s.heap.objs.size, _, I1, rfl, ⟨_, x, rfl, I.hok.fresh (Nat.le_refl _), rfl, fun l hl => by rw [I.tuple_inj hl hq]; exact hx⟩, ⟨⟨y, ?_⟩, st1.1.at fun o q => (sb.2 it (Ne.symm ne)).trans q, ne⟩, fun b hb => ?_⟩
    · rw [show ((i + 1 : Nat) : Int) = (i : Int) + 1 by omega]
      exact he2
    · have hb' : b < s.heap.objs.size := by
        rcases (show b = e ∨ b = it by simpa using hb) with rfl | rfl
        · exact hel
        · exact hil
      rw [upd_ne (Nat.ne_of_lt hb')]
      exact (hf b hb).1
  done := by
    intro X hP hw hK hc i pins s σ H E I hf st hg
    subst hP hw hK
    obtain ⟨⟨old, he⟩, hit, ne⟩ := st
    obtain ⟨xs, hq, hx⟩ := hg
    obtain ⟨its, rv, p, _⟩ := I.tuple hq
    obtain ⟨f0, f1, f2, f3, f4, f5⟩ := hf it (by simp)
    obtain ⟨oa, ha, ca, na, da⟩ := id p
    obtain ⟨oi, hi, ci, di⟩ := id hit
    have nai : a ≠ it := fun z => by
      rw [z, hi] at ha
      cases ha
      rw [di] at da
      cases da
    have ei : i = its.toArray.size := by
      have := rv.length
      simp
      omega
    have st0 : s.heap.IsTupleIter it a its.toArray.size := by rw [← ei]; exact hit
    exact wpAny_pyNext_enum_endD (Draws.tuple (A := X.A.in1) (I.ok.hd hc) it a nai its.toArray) he ⟨st0, p⟩ fun h' eb => ⟨rfl, I.turned (t' := s.toks) (fun b o hb q => eb b o hb q) f0 f1 f3 f4 f5⟩
  self := fun A i s Q E st h => by
    obtain ⟨⟨_, he⟩, _⟩ := st
    exact wpAny_pyIter_enum he h
def iEnumT (K : PySem.W.Frag) (ta : TA) : TI := fun σ H R => ta σ H fun vs H1 => ∃ a xs, vs = [.ref a] ∧ SqT K H1 a xs ∧ R (IteT K a) H1
theorem pi_enumT {X : Cx} {e : Expr} {ta : TA} {p pos tp : Pos} {es : List Expr} {kk : Nat} (hg : Gl X "enumerate") (hm : X.mg "enumerate" = none) (ha : PA X [e] ta) (hs : starEach [e] X.env = [(false, eval e X.env)] := by rfl) :
    PI X (.Tuple es kk tp) (.Call (.Name "enumerate" p) [e] [] pos) (iEnumT X.K ta) := ⟨fun pins s σ H R I h => by
  refine Call_ (ld_blt I hg hm boot_enumerate (PyProof.Rows.callWith_type1 (thn (ha.run pos pins s σ H _ I h) fun us s1 ⟨vs, H1, I1, r1, q1⟩ => ?_) hs rfl))
  obtain ⟨a, xs, ex, hq, q⟩ := q1
  subst ex
  obtain ⟨u, rfl, r⟩ := r1.one
  cases r
  obtain ⟨its, rv, p', _⟩ := I1.tuple hq
  refine call_enumT p' fun h' he hit hk => wpAny_pyIter_enum he ?_
  have I2 : Inv X pins σ H1 { s1 with heap := h' } := I1.kept (t' := s1.toks) hk
  refine ⟨s1.heap.objs.size + 1, [s1.heap.objs.size + 1, s1.heap.objs.size], _, _, H1, rfl, I2, turn_enumT a (s1.heap.objs.size + 1) s1.heap.objs.size, ⟨⟨.none, he⟩, hit, Nat.succ_ne_self _⟩, fun b hb => ?_, q⟩
  have hle : s1.heap.objs.size ≤ b := by
    rcases (show b = s1.heap.objs.size + 1 ∨ b = s1.heap.objs.size by simpa using hb) with rfl | rfl
    · exact Nat.le_add_right _ _
    · exact Nat.le_refl _
  exact I1.fpOk hle (I1.hok.fresh hle)⟩
theorem walk_enumT {K : PySem.W.Frag} {a : Addr} {xs : List V} : Walk (IteT K a) xs.length (fun H => SqT K H a xs) (YPair (fun i => some (.int (i : Nat))) (fun i => xs[i]?)) :=
  ⟨fun i _ hi q => ⟨xs, xs[i], q, by simp [hi]⟩, fun _ q => ⟨xs, q, rfl⟩, fun i H v H' _ q y => by
    obtain ⟨T, x, h1, h2, h3, h4⟩ := y
    exact ⟨T, .int (i : Nat), x, h1, h2, h3, rfl, h4 xs q⟩⟩
end Fc

namespace Fc
open PySem PySem.Spec L2 PyProof.Rows GxR GenW
variable [LamNames]
/-! ### generator expressions whose parts may call own defs -/
/-- the names of the expression's own block -/
structure GxOk (scope : Scope) : Prop where
  co : scope.isCoroutine = false
  cell : ∀ y ∈ scope.names, y.2 ≠ .cell
  dot : scope.names.lookup (".0" : Str) = some NameKind.local
abbrev gxEnv (X : Cx) (scope : Scope) (C : Addr) (code : Value) : Env := genEnv scope (cloFrom X.env.cells scope.names []) C code builtinsNs X.env
/-- its frame's context -/
abbrev gxc (X : Cx) (A' : Around) (s : Shared) (H : Hp) (scope : Scope) (C : Addr) (code : Value) (fp : List Addr) (pn : List (Addr × Obj)) : Cx :=
  { X with A := A'.deeper (gxEnv X scope C code), s_0 := s, H_0 := H, env := gxEnv X scope C code, outer := X.stack, stack := gxEnv X scope C code :: X.stack, ex := fp, fn := fun _ => false, calm := true, pn := pn, xe := fun _ _ => False }
theorem over_gx {A : Around} {elt tg iter : Expr} {ifs : List Expr} {scope : Scope} {pos : Pos} {it acc : Value} {env : Env} : A.over (.compLoop (.GeneratorExp elt [⟨tg, iter, ifs, 0⟩] scope pos) 0 it acc env) [] = A.deeper env := by
  obtain ⟨hd, d, fr, gs, u⟩ := A
  simp [Around.over, Around.deeper, marksOver, frameCount, unitsOf, envsOf, guardsOf, pushEnvs, pushGuards, Code.envs, Code.env?, Code.isFrame, Code.guards, Code.isGuard, Code.weight, Code.frames, Code.isCreation, Code.isCaller, Code.cUnits]
theorem over_gx0 {A : Around} {elt tg iter : Expr} {ifs : List Expr} {scope : Scope} {pos : Pos} {it acc : Value} {env : Env} : A.over (.compStart (.GeneratorExp elt [⟨tg, iter, ifs, 0⟩] scope pos) 0 it acc env) [] = A.deeper env := by
  obtain ⟨hd, d, fr, gs, u⟩ := A
  simp [Around.over, Around.deeper, marksOver, frameCount, unitsOf, envsOf, guardsOf, pushEnvs, pushGuards, Code.envs, Code.env?, Code.isFrame, Code.guards, Code.isGuard, Code.weight, Code.frames, Code.isCreation, Code.isCaller, Code.cUnits]
section
variable {X : Cx} {pins : List (Addr × Obj)} {σ : L2.St} {H : Hp} {s : Shared}
theorem gx_start {A' : Around} {scope : Scope} {own : List (Str × Nat)} {fp : List Addr} {code : Value} {pn : List (Addr × Obj)} {s5 : Shared} {m : Str → Option Value} (I : Inv X pins σ H s) (ok : BlkOk X.N X.env.scope scope own) (gk : GxOk scope) (hN : X.N.Nodup)
    (hfp : ∀ b ∈ fp, FpOk X pins H b ∧ b < s.heap.objs.size) (hA : A'.frames = some X.stack) (hh : A'.handled = none) (ho : s5.os = s.os) (hb5 : AllBare s5.gens) (kp : ∀ b o, s.heap.get? b = some o → s5.heap.get? b = some o) (hns : s5.heap.Ns s.heap.objs.size m)
    (hpn : ∀ p ∈ pn, s5.heap.get? p.1 = some p.2 ∧ s.heap.objs.size < p.1 ∧ ∀ v, p.2.data ≠ .cell v) :
    Inv (gxc X A' s H scope s.heap.objs.size code fp pn) [] (wipe σ (own.map (·.2))) H s5 := by
  have hfree : ∀ y ∈ scope.names, y.2 = .free → ∃ c, X.env.cells.lookup y.1 = some c := fun y hy e => by
    rcases ok.free y hy e with k | k
    · exact I.ok.has _ (.inl k)
    · exact I.ok.has _ (.inr k)
  have cm : ∀ {y c}, (y, c) ∈ cloFrom X.env.cells scope.names [] → X.env.cells.lookup y = some c ∧ c < s.heap.objs.size := fun {y c} hm => by
    rcases cloFrom_mem hm with hm | ⟨h1, rfl⟩
    · cases hm
    · obtain ⟨c, hc⟩ := hfree _ h1 rfl
      rw [hc]
      obtain ⟨w, z⟩ := I.cell _ _ hc
      exact ⟨rfl, z.lt⟩
  have mem : ∀ {y c}, (gxEnv X scope s.heap.objs.size code).cells.lookup y = some c → X.env.cells.lookup y = some c ∧ c < s.heap.objs.size := fun {y c} e => cm (PySem.mem_of_lookup e)
  have look : ∀ {y}, scope.names.lookup y = some .free → ∃ c, (gxEnv X scope s.heap.objs.size code).cells.lookup y = some c ∧ X.env.cells.lookup y = some c := fun {y} hl => by
    have hy : (y, NameKind.free) ∈ scope.names := PySem.mem_of_lookup hl
    obtain ⟨c', e'⟩ := mem_lookup (cloFrom_has (cells := X.env.cells) (acc := []) hy)
    exact ⟨c', e', (mem e').1⟩
  have okB : (gxc X A' s H scope s.heap.objs.size code fp pn).Ok := by
    refine ⟨I.ok.mod, ok.kind, I.ok.glob, rfl, Nat.le_refl _, fun y z c e1 e2 => I.ok.inj y z c (mem e1).1 (mem e2).1, fun y hy => ?_, (fun y c z e => nomatch (show false = true from z)), fun _ => hh, Around.frames_deeper hA, .inr ⟨rfl, rfl⟩, fun b hb => ⟨Nat.ne_of_lt (hfp b hb).2, fun y c e z => (hfp b hb).1.2.2.2.2.1 y c (mem e).1 z⟩, I.bs, Nat.le_trans I.ok.bsz I.sz, fun b o e hb => ?_, fun b hb z => ?_, I.stack, I.stkFree⟩
    · rcases hy with hy | hy
      · exact absurd rfl (gk.cell _ (PySem.mem_of_lookup hy))
      · obtain ⟨c, h1, _⟩ := look hy
        exact ⟨c, h1⟩
    · rcases (hfp b hb).1.2.2.2.1 with z | z
      · exact I.ok.noex b o e z
      · exact absurd (Nat.lt_of_lt_of_le (Heap.lt_size e) (Nat.le_trans I.ok.bsz z)) (Nat.lt_irrefl _)
    · rcases List.mem_cons.mp (I.stkSub b z) with z | z
      · exact (hfp b hb).1.2.1 z
      · exact (hfp b hb).1.2.2.1 z
  refine ⟨okB, ho, hb5, Un.kept kp, ⟨m, hns, fun i y av e1 e2 e3 => ?_⟩, fun y c e => ?_, I.hok.fresh (Nat.le_refl _), fun y c e => I.freeC y c (mem e).1, fun p hp => ?_, I.hok.kept kp, by rw [wipe_length]; exact I.len⟩
  · obtain ⟨e2, hne⟩ := wipe_some e2
    have no : ∀ k', scope.names.lookup y = some k' → ¬ (k' = .local ∨ k' = .cell) := fun k' e hh => by
      rcases ok.own _ (PySem.mem_of_lookup e) hh with e' | e'
      · obtain ⟨p, hp, hpy⟩ := List.mem_map.mp e'
        have e3 := ok.ix p hp
        have : p.1 = y := hpy
        rw [this] at e3
        exact hne (List.mem_map.mpr ⟨p, hp, nodup_ix hN e3 e1⟩)
      · exact e' (List.mem_of_getElem? e1)
    have e3 : scope.names.lookup y = some .local ∨ scope.names.lookup y = some .cell ∨ scope.names.lookup y = some .free := e3
    have hfr : scope.names.lookup y = some .free := by
      rcases e3 with e3 | e3 | e3
      · exact absurd (.inl rfl) (no _ e3)
      · exact absurd (.inr rfl) (no _ e3)
      · exact e3
    obtain ⟨m', hn, hl⟩ := I.loc
    have hvis : Vis X.env.scope y := (ok.free _ (PySem.mem_of_lookup hfr) rfl).elim (fun k => .inr (.inl k)) (fun k => .inr (.inr k))
    obtain ⟨w, r, q⟩ := hl i y av e1 e2 hvis
    refine ⟨w, r, .inr ⟨.inr hfr, ?_⟩⟩
    obtain ⟨c, h1, h2⟩ := look hfr
    rcases q with ⟨k, _⟩ | ⟨_, c', e', z⟩
    · have k : X.env.scope.names.lookup y = some .local := k
      rcases ok.free _ (PySem.mem_of_lookup hfr) rfl with k' | k' <;> rw [show X.env.scope.names.lookup y = _ from k'] at k <;> cases k
    · rw [h2] at e'; cases e'
      exact ⟨c, h1, z.keeps kp⟩
  · obtain ⟨w, z⟩ := I.cell y c (mem e).1
    exact ⟨w, z.keeps kp⟩
  · have hp' : p ∈ pn := by
      have : p ∈ pn ++ [] := hp
      rwa [List.append_nil] at this
    obtain ⟨h1, h2, h3⟩ := hpn p hp'
    refine ⟨h1, I.hok.fresh (Nat.le_of_lt h2), Nat.ne_of_gt h2, fun z => ?_, h3⟩
    have : p.1 ∈ frs X.stack := z
    rcases List.mem_cons.mp (I.stkSub p.1 this) with z | z
    · rw [z] at h2
      exact absurd (Nat.lt_trans h2 I.lt) (Nat.lt_irrefl _)
    · exact I.nofs (Nat.le_of_lt h2) z
/-- the table of generators, the tokens may change -/
def Slp (s s' : Shared) : Prop := s'.heap = s.heap ∧ s'.os = s.os ∧ AllBare s'.gens
theorem Slp.inv {Y : Cx} {pins : List (Addr × Obj)} {σ : L2.St} {H : Hp} {s s' : Shared} (I : Inv Y pins σ H s) (z : Slp s s') : Inv Y pins σ H s' := by
  obtain ⟨h1, h2, h3⟩ := z
  exact ⟨I.ok, h2.trans I.os, h3, by rw [h1]; exact I.base, by rw [h1]; exact I.loc, by rw [h1]; exact I.cell, I.free, I.freeC, by rw [h1]; exact I.pin, by rw [h1]; exact I.hok, I.len⟩
end
/-! ### the walk for all -/
/-- the reading: W of the turn, a measure, the heap -/
def GWalk (J : It) (g : TG) (tt : TT) (te : TE) (vs : List Nat) (σ : L2.St) (take : V → Hp → (Hp → Prop) → Prop) (fin : Hp → Prop) (W : Nat → Nat → Hp → Prop) : Prop :=
  ∀ i m H, W i m H → (J.stop i H ∧ fin H) ∨ (J.go i H ∧ ∃ Nx : Hp → Prop, (∀ H', Nx H' → ∃ m', m' < m ∧ W (i + 1) m' H') ∧ ∀ x H', J.yld i H x H' → g x (wipe σ vs) H' fun σ2 H2 => wipe σ2 vs = wipe σ vs ∧ tt σ2 H2 fun b H3 =>
    if b = true then te σ2 H3 fun y H4 => take y H4 Nx else Nx H3)
def takeAll (Q : VK) (y : V) (H : Hp) (Nx : Hp → Prop) : Prop := ∃ k, y = .bl k ∧ (k = true → Nx H) ∧ (k = false → Q (.bl false) H)
def allY (Y : Cx) (σ : L2.St) (Q : VK) : Protocol := fun n s₀ v s kap => ∃ (k : Bool) (H' : Hp), v = .bool k ∧ Inv Y [] σ H' s ∧ (k = false → Q (.bl false) H') ∧ (k = true → ∀ s'', Slp s s'' → kap (.send .none) s'')
def allF (Y : Cx) (σ : L2.St) (Q : VK) (s₁ : Shared) : Prop := ∃ H', Inv Y [] σ H' s₁ ∧ Q (.bl true) H'
def allR (Y : Cx) (σ : L2.St) (Q : VK) : GenEnd := fun _ _ r s₁ => ((r = .ok (.ret .none) ∨ r = .ok .next) ∧ allF Y σ Q s₁) ∨ ∃ e, r = .error e ∧ False
section
variable {X : Cx} {A' : Around} {s4 : Shared} {H4 : Hp} {scope : Scope} {C : Addr} {code : Value} {fp : List Addr} {pn : List (Addr × Obj)}
theorem gx_loop {elt iter : Expr} {x : Str} {px pos : Pos} {ifs : List Expr} {vs : List Nat} {σ : L2.St} {g : TG} {tt : TT} {te : TE} {J : It} {it : Addr} {tn : Nat → Heap → Prop} {Q : VK} {W : Nat → Nat → Hp → Prop}
    (gk : GxOk scope) (hpn : ∀ p ∈ pn, p.1 ∉ fp)
    (T : Turn X.prog X.w X.K (.Name x px) J fp it tn)
    (pg : PG (gxc X A' s4 H4 scope C code fp pn) (.Name x px) g) (pt : PTs (gxc X A' s4 H4 scope C code fp pn) ifs tt) (pe : PE (gxc X A' s4 H4 scope C code fp pn) elt te)
    (turn : GWalk J g tt te vs σ (takeAll Q) (Q (.bl true)) W) :
    ∀ (m n i : Nat) (s₀ s : Shared) (H : Hp), W i m H → m < n → Inv (gxc X A' s4 H4 scope C code fp pn) [] (wipe σ vs) H s → tn i s.heap → (∀ b ∈ fp, H b = none) →
      Seg (model X.prog X.w) A' (allR (gxc X A' s4 H4 scope C code fp pn) (wipe σ vs) Q) (allY (gxc X A' s4 H4 scope C code fp pn) (wipe σ vs) Q) n s₀
        (.compLoop (.GeneratorExp elt [⟨.Name x px, iter, ifs, 0⟩] scope pos) 0 (.ref it) .none (gxEnv X scope C code)) ((model X.prog X.w).den (.compLoop (.GeneratorExp elt [⟨.Name x px, iter, ifs, 0⟩] scope pos) 0 (.ref it) .none (gxEnv X scope C code))) [] s := by
  generalize hY : gxc X A' s4 H4 scope C code fp pn = Y at pg pt pe
  have eP : Y.prog = X.prog := by rw [← hY]
  have ew : Y.w = X.w := by rw [← hY]
  have eK : Y.K = X.K := by rw [← hY]
  have eA : Y.A = A'.deeper (gxEnv X scope C code) := by rw [← hY]
  have eE : Y.env = gxEnv X scope C code := by rw [← hY]
  have ex : Y.ex = fp := by rw [← hY]
  have exe : Y.xe = fun _ _ => False := by rw [← hY]
  have epn : Y.pn = pn := by rw [← hY]
  have ecalm : Y.calm = true := by rw [← hY]
  have stat : ∀ {σ' : L2.St} {H' : Hp} {s' : Shared}, Inv Y [] σ' H' s' → (∀ b ∈ fp, H' b = none) → ∀ b ∈ fp, FpOk Y [] H' b := fun {σ' H' s'} I' hn b hb =>
    ⟨hn b hb, (I'.ok.exf b (by rw [ex]; exact hb)).1, I'.ok.exfs b (by rw [ex]; exact hb), .inl (by rw [ex]; exact hb), fun x c e => (I'.ok.exf b (by rw [ex]; exact hb)).2 x c e, fun p hp z => by
      rw [epn, List.append_nil] at hp
      exact hpn p hp (by rw [z]; exact hb)⟩
  intro m
  induction m using Nat.strongRecOn with
  | ind m ih =>
    intro n i s₀ s H w hmn I st nf
    show Seg _ A' _ _ _ s₀ _ ((compTurn (.GeneratorExp elt [⟨.Name x px, iter, ifs, 0⟩] scope pos) 0 (.ref it) .none (gxEnv X scope C code)).onRaise (leaving (gxEnv X scope C code))) [] s
    rw [compTurn_gen, Sem.onRaise_eq_wrap]
    refine seg_bind_wrap (wpAny_standAt ?_)
    rcases turn i m H w with ⟨stop, qq⟩ | ⟨go, Nx, hNx, step⟩
    · have td := T.done Y eP ew eK ecalm i [] s _ H (fun _ _ => False) I (stat I nf) st stop
      rw [eA] at td
      refine seg_bind_wrap ?_
      rw [over_gx]
      refine thnF td fun r s6 ⟨hr, I6⟩ => ?_
      subst hr
      exact seg_end (.ok .next) (.inl ⟨.inr rfl, H, I6, qq⟩)
    · have ti := T.item Y eP ew eK ecalm i [] s _ H (fun _ _ => False) I (stat I nf) st go
      rw [eA] at ti
      refine seg_bind_wrap ?_
      rw [over_gx]
      refine thnF ti fun r s6 ⟨u, hr, h6⟩ => ?_
      subst hr
      refine seg_bind_wrap ?_
      rw [over_gx]
      refine thnF h6 fun _ s7 ⟨y, H7, I7, r7, y7, st7, n7⟩ => ?_
      have I7' := I7.pinned (stat I7 n7) (T.obj _ _ st7)
      have pgr := pg.run _ s7 _ H7 y u _ I7' r7 (step y H7 y7)
      rw [eP, ew, eA, exe, eE] at pgr
      refine seg_bind_wrap ?_
      rw [over_gx]
      refine thnF pgr fun _ s8 ⟨σ8, H8, I8, hw8, q8⟩ => ?_
      have ptr := pt.run _ s8 σ8 H8 _ I8 q8
      rw [eP, ew, eA, exe, eE] at ptr
      refine seg_bind_wrap ?_
      rw [over_gx]
      refine thnF ptr fun b s9 ⟨H9, I9, q9⟩ => ?_
      have fin : ∀ {s' : Shared} {H' : Hp}, Inv Y ([] ++ pinsAt fp s7.heap) σ8 H' s' → Inv Y [] (wipe σ vs) H' s' ∧ tn (i + 1) s'.heap ∧ (∀ b ∈ fp, H' b = none) := fun {s' H'} I' => by
        have pin' : ∀ b ∈ fp, ∀ o, s7.heap.get? b = some o → s'.heap.get? b = some o ∧ H' b = none := fun b hb o e =>
          let z := I'.pin (b, o) (List.mem_append_right _ (List.mem_append_right _ (mem_pinsAt hb e)))
          ⟨z.1, z.2.1⟩
        have hl : (wipe σ vs).length = σ8.length := by rw [← hw8, wipe_length]
        refine ⟨(I'.unpinned (pins := [])).weak hl (fun j v e => ?_), T.keep _ _ _ st7 fun b hb o e => (pin' b hb o e).1, fun b hb => ?_⟩
        · rw [← hw8] at e
          exact (wipe_some e).1
        · obtain ⟨o, e, _⟩ := T.obj _ _ st7 b hb
          exact (pin' b hb o e).2
      cases b with
      | false =>
        simp only [Bool.false_eq_true, if_false] at q9 ⊢
        obtain ⟨f1, f2, f3⟩ := fin I9
        obtain ⟨m', hm', w'⟩ := hNx _ q9
        exact seg_again rfl (ih m' hm' n (i + 1) s₀ s9 H9 w' (by omega) f1 f2 f3)
      | true =>
        simp only [if_true] at q9 ⊢
        have hy : ∀ v, yieldOut (gxEnv X scope C code) v = yieldValue v := fun v => by
          have hco : (gxEnv X scope C code).scope.isCoroutine = false := gk.co
          simp only [yieldOut, hco, Bool.false_eq_true, if_false]
        simp only [hy]
        rw [Sem.bind_eq_wrap', Sem.bind_eq_wrap', Sem.wrap_wrap, Sem.wrap_wrap]
        have per := pe.run _ s9 σ8 H9 _ I9 q9
        rw [eP, ew, eA, exe, eE] at per
        refine seg_wrap ?_
        rw [over_gx]
        refine thnF per fun z s10 ⟨yv, H10, I10, r10, k, ek, kt, kf⟩ => ?_
        subst ek
        obtain rfl : z = .bool k := r10
        obtain ⟨f1, f2, f3⟩ := fin I10
        cases n with
        | zero => omega
        | succ n' =>
          refine seg_at (seg_yield rfl rfl rfl ⟨k, H10, rfl, f1, kf, fun ek s'' z => ?_⟩)
          obtain ⟨m', hm', w'⟩ := hNx _ (kt ek)
          have z1 := z.1
          exact seg_again rfl (ih m' hm' n' (i + 1) s'' s'' H10 w' (by omega) (z.inv f1) (by rw [z1]; exact f2) f3)
theorem gx_begin {elt iter : Expr} {x : Str} {px pos : Pos} {ifs : List Expr} {vs : List Nat} {σ : L2.St} {g : TG} {tt : TT} {te : TE} {J : It} {it : Addr} {tn : Nat → Heap → Prop} {Q : VK} {W : Nat → Nat → Hp → Prop}
    (gk : GxOk scope) (hpn : ∀ p ∈ pn, p.1 ∉ fp)
    (T : Turn X.prog X.w X.K (.Name x px) J fp it tn)
    (pg : PG (gxc X A' s4 H4 scope C code fp pn) (.Name x px) g) (pt : PTs (gxc X A' s4 H4 scope C code fp pn) ifs tt) (pe : PE (gxc X A' s4 H4 scope C code fp pn) elt te)
    (turn : GWalk J g tt te vs σ (takeAll Q) (Q (.bl true)) W) (m n : Nat) (s₀ s : Shared) (H : Hp) (w : W 0 m H) (hmn : m < n) (I : Inv (gxc X A' s4 H4 scope C code fp pn) [] (wipe σ vs) H s) (st : tn 0 s.heap) (nf : ∀ b ∈ fp, H b = none) :
      Seg (model X.prog X.w) A' (allR (gxc X A' s4 H4 scope C code fp pn) (wipe σ vs) Q) (allY (gxc X A' s4 H4 scope C code fp pn) (wipe σ vs) Q) n s₀
        (.compStart (.GeneratorExp elt [⟨.Name x px, iter, ifs, 0⟩] scope pos) 0 (.ref it) .none (gxEnv X scope C code)) ((model X.prog X.w).den (.compStart (.GeneratorExp elt [⟨.Name x px, iter, ifs, 0⟩] scope pos) 0 (.ref it) .none (gxEnv X scope C code))) [] s := by
  have loop := gx_loop (iter := iter) (pos := pos) gk hpn T pg pt pe turn m n 0 s₀ s H w hmn I st nf
  show Seg _ A' _ _ _ s₀ _ ((compStart (.GeneratorExp elt [⟨.Name x px, iter, ifs, 0⟩] scope pos) 0 (.ref it) .none (gxEnv X scope C code)).onRaise (leaving (gxEnv X scope C code))) [] s
  unfold compStart
  rw [Sem.onRaise_eq_wrap]
  show Seg _ A' _ _ _ s₀ _ ((ask >>= _).wrap _ _ _ _) [] s
  refine seg_bind_wrap (wpAny_askSetting ?_)
  split
  · exact seg_again rfl loop
  · first
      | exact seg_bind_wrap (wpAny_rule (seg_bind_wrap (wpAny_standAt (seg_bind_wrap (T.self _ 0 s _ _ st (seg_again rfl loop))))))
      | (refine seg_bind_wrap (wpAny_rule ?_); show Seg _ A' _ _ _ s₀ _ ((standAt iter.pos >>= _).wrap _ _ _ _) [] s; exact seg_bind_wrap (wpAny_standAt (seg_bind_wrap (T.self _ 0 s _ _ st (seg_again rfl loop)))))
/-- the loop of all, by what each next tells -/
theorem all_by {P : Program} {w : World} {A : Around} {a : Addr} {R : Result → Shared → Prop} (St : Nat → Shared → Prop)
    (step : ∀ m s, St m s → wpAny (model P w) A.in1 (pyNext (.ref a)) (fun r s1 => match r with | none => R (.ok (.ret (.bool true))) s1 | some v => ∃ k : Bool, v = .bool k ∧ (k = true → ∃ m', m' < m ∧ St m' s1) ∧ (k = false → R (.ok (.ret (.bool false))) s1)) (fun _ _ => False) s) :
    ∀ (m : Nat) (s : Shared), St m s → codeAny (model P w) A (.builtin "all.loop" ⟨[.ref a], []⟩) R s := by
  intro m
  induction m using Nat.strongRecOn with
  | ind m ih =>
    intro s hst
    refine codeAny_builtin F.entry_all_loop ?_
    rw [Around.under_plainId F.plain_all_loop _]
    show wpAny _ A.in1 (pyNext (.ref a) >>= _) _ _ s
    refine wpAny_bind (thnF (step m s hst) fun r s1 h => ?_)
    cases r with
    | none => exact wpAny_bind (wpAny_rule (wpAny_pure h))
    | some v =>
      obtain ⟨k, rfl, h1, h2⟩ := h
      refine wpAny_bind (wpAny_holding (wpAny_truthy_bool ?_))
      refine wpAny_bind (wpAny_letGo ?_)
      cases k with
      | true =>
        obtain ⟨m', hm, st'⟩ := h1 rfl
        simp only [if_true]
        exact wpAny_pure ⟨plainId_quiet F.plain_all_loop _, ih m' hm s1 st'⟩
      | false =>
        simp only [Bool.false_eq_true, if_false]
        exact wpAny_bind (wpAny_rule (wpAny_pure (h2 rfl)))
end
section
variable {X : Cx}
/-- all(elt for x in iter if ..): P the table of the def's code -/
def tAllG (P : Addr) (wi : TI) (g : TG) (tt : TT) (te : TE) (vs : List Nat) : TE := fun σ H Q => wi σ H fun J H1 => TabG H1 P ∧ ∀ H2, Tabbed P H1 H2 → ∃ W : Nat → Nat → Hp → Prop, (∃ m, W 0 m H2) ∧ GWalk J g tt te vs σ (takeAll Q) (Q (.bl true)) W
theorem pe_allG {c P : Addr} {elt iter : Expr} {x : Str} {px p pos gpos : Pos} {ifs : List Expr} {scope : Scope} {own : List (Str × Nat)} {wi : TI} {g : TG} {tt : TT} {te : TE} {k : Nat}
    (hr : Room (k + 2) X.A) (hg : Gl X "all") (hm : X.mg "all" = none) (hb : bootBuiltins "all" = some (.builtin "all")) (TB : TabB X.base X.mg c P) (hcode : X.env.code = .ref c) (hN : X.N.Nodup) (ok : BlkOk X.N X.env.scope scope own) (gk : GxOk scope)
    (hi : PI X (.Name x px) iter wi) (hgt : ∀ (A' : Around) (s : Shared) (H : Hp) (C : Addr) (code : Value) (fp : List Addr) (pn : List (Addr × Obj)), PG (gxc X A' s H scope C code fp pn) (.Name x px) g)
    (ht : ∀ (A' : Around) (s : Shared) (H : Hp) (C : Addr) (code : Value) (fp : List Addr) (pn : List (Addr × Obj)), Room k (gxc X A' s H scope C code fp pn).A → PTs (gxc X A' s H scope C code fp pn) ifs tt)
    (he : ∀ (A' : Around) (s : Shared) (H : Hp) (C : Addr) (code : Value) (fp : List Addr) (pn : List (Addr × Obj)), Room k (gxc X A' s H scope C code fp pn).A → PE (gxc X A' s H scope C code fp pn) elt te)
    (hs : ∀ v, genFold iter X.env v = pure v)
    (hst : starEach [.GeneratorExp elt [⟨.Name x px, iter, ifs, 0⟩] scope gpos] X.env = (false, eval (.GeneratorExp elt [⟨.Name x px, iter, ifs, 0⟩] scope gpos) X.env) :: starEach [] X.env := by rfl) :
    PE X (.Call (.Name "all" p) [.GeneratorExp elt [⟨.Name x px, iter, ifs, 0⟩] scope gpos] [] pos) (tAllG P wi g tt te (own.map (·.2))) := by
  refine ⟨fun pins s σ H Q I h => ?_⟩
  refine wpAny_Call_Name_kw (ld_blt I hg hm hb ?_)
  refine PyProof.Rows.callWith_builtin1 ?_ hst (by rfl)
  rw [hst]
  show wpAny _ _ (spliced ((false, eval (.GeneratorExp elt [⟨.Name x px, iter, ifs, 0⟩] scope gpos) X.env) :: backTo pos (starEach [] X.env))) _ _ s
  have hfree : ∀ y ∈ scope.names, y.2 = .free → ∃ c, X.env.cells.lookup y.1 = some c := fun y hy e => by
    rcases ok.free y hy e with k | k
    · exact I.ok.has _ (.inl k)
    · exact I.ok.has _ (.inr k)
  refine Calls.spliced_cons (wpAny_GeneratorExp_make gk.co (closure_ok hfree) gk.cell gk.dot ok.kind (by have := hr.dp; omega) (thn (hi.run pins s σ H _ I h) fun xv s1 hx => thn hx fun itv s2 h2 => ?_) hs)
  obtain ⟨it, fp, tn, J, H2, e, I2, T, st2, f2, ⟨ps, hP, htr⟩, q⟩ := h2
  subst e
  have hPs : s2.heap.get? P = some { cls := .none, data := .fields ps } := I2.hok P _ hP
  have nPf : P ∉ fp := fun z => by
    have := (f2 P z).1
    rw [hP] at this
    cases this
  have cd : PySem.W.CodeHd s2.heap c P := TB.code.keeps I2.bk
  refine ⟨I2.nolimit, ?_⟩
  have cont : ∀ (code : Value) (h3 : Heap) (tk : Nat) (more : Array Value), Heap.ExtBut P s2.heap h3 → h3.get? P = some { cls := .none, data := .fields (ps ++ more) } → TriplesOk (ps ++ more).toList →
      wpAny (model X.prog X.w) X.A (builtinsFor X.env.globals X.env.builtins) (fun bi s₄ => ∀ h', h'.Ns s₄.heap.objs.size (fun y => if y = ".0" then some (.ref it) else none) → Heap.SameBut s₄.heap.objs.size (s₄.heap.push { cls := .type "frame", data := .dict #[] }) h' →
        wpAny (model X.prog X.w) X.A (spliced (backTo pos (starEach [] X.env))) (fun us s' => wpAny (model X.prog X.w) X.A (call (.builtin "all") (.ref h'.objs.size :: us)) (EP X pins σ Q) X.xe s') X.xe { s₄ with
            gens := s₄.gens.push (.fresh (.compStart (.GeneratorExp elt [⟨.Name x px, iter, ifs, 0⟩] scope gpos) 0 (.ref it) .none (genEnv scope (cloFrom X.env.cells scope.names []) s₄.heap.objs.size code bi X.env))),
            toks := s₄.toks + 1 + 1 + 1,
            heap := h'.push { cls := .type "generator", data := .fields #[.int s₄.gens.size 0, .str "<genexpr>" (s₄.toks + 1), .str (X.env.qual ++ "<genexpr>") (s₄.toks + 1 + 1)] } }) X.xe { s2 with heap := h3, toks := tk } := by
    intro code h3 tk more hx hP3 ht3
    have I3 : Inv X pins σ (upd H2 P (.tbl (ps ++ more))) { s2 with heap := h3, toks := tk } := inv_tab (g' := s2.gens) (d' := s2.drawn) (t' := tk) I2 hP (fun b o hb e => hx b o hb e) hP3 I2.bare
    have hb2 : AllBare s2.gens := I2.bare
    have st3 : tn 0 h3 := T.keep _ _ _ st2 fun b hb o e => hx b o (fun z => nPf (by rw [← z]; exact hb)) e
    have f3 : ∀ b ∈ fp, FpOk X pins (upd H2 P (.tbl (ps ++ more))) b ∧ b < h3.objs.size := fun b hb => by
      have nb : b ≠ P := fun z => nPf (by rw [← z]; exact hb)
      obtain ⟨o, e, _⟩ := T.obj _ _ st2 b hb
      refine ⟨⟨?_, (f2 b hb).2⟩, Heap.lt_size (hx b o nb e)⟩
      rw [upd_ne nb]
      exact (f2 b hb).1
    obtain ⟨W, ⟨m0, w0⟩, turn⟩ := q (upd H2 P (.tbl (ps ++ more))) ⟨⟨ps ++ more, upd_same, ht3⟩, fun b hb => upd_ne hb⟩
    obtain ⟨bm, ob, e1, e2, e3, e4, e5, e6, e7, e8⟩ := TB.bm
    refine wpAny_builtinsFor (m := X.mg) (by rw [I3.ok.glob]; exact I3.mod.glob.keeps I3.bk) e1 e2 (I3.bk _ _ e5) e6 e7 e8 ?_
    intro h' hn' hs'
    have hn' : h'.Ns h3.objs.size (fun y => if y = ".0" then some (.ref it) else none) := hn'
    have hs' : Heap.SameBut h3.objs.size (h3.push { cls := .type "frame", data := .dict #[] }) h' := hs'
    have hsz : h'.objs.size = h3.objs.size + 1 := by rw [hs'.1, Heap.size_push]
    have keep' : ∀ b o, h3.get? b = some o → h'.get? b = some o := fun b o e => hs'.extBut b o (Nat.ne_of_lt (Heap.lt_size e)) (Heap.get?_push_of_some _ e)
    generalize hH3 : upd H2 P (.tbl (ps ++ more)) = H3 at I3 f3 w0
    generalize hgo : ({ cls := .type "generator", data := .fields #[.int s2.gens.size 0, .str "<genexpr>" (tk + 1), .str (X.env.qual ++ "<genexpr>") (tk + 1 + 1)] } : Obj) = go
    have goC : ∀ v, go.data ≠ .cell v := fun v z => by rw [← hgo] at z; cases z
    have goF : go.isFreed = false := by rw [← hgo]; rfl
    generalize hs5 : ({ s2 with heap := h'.push go, toks := tk + 1 + 1 + 1, gens := s2.gens.push (.fresh (.compStart (.GeneratorExp elt [⟨.Name x px, iter, ifs, 0⟩] scope gpos) 0 (.ref it) .none (gxEnv X scope h3.objs.size code))) } : Shared) = s5
    have k5 : ∀ b o, h3.get? b = some o → s5.heap.get? b = some o := fun b o e => by rw [← hs5]; exact Heap.get?_push_of_some _ (keep' b o e)
    have g5 : s5.heap.get? h'.objs.size = some go := by rw [← hs5]; exact Heap.get?_push_size _ goF
    have b5 : AllBare s5.gens := by rw [← hs5]; exact I2.bare.push rfl
    have I5 := gx_start (A' := X.A.in1.in1) (code := code) (pn := [(h'.objs.size, go)]) (s5 := s5) (s := { s2 with heap := h3, toks := tk }) I3 ok gk hN f3 I2.ok.frames hr.hd (by rw [← hs5]) b5 k5 (by rw [← hs5]; exact hn'.push _) (fun p hp => by
      rw [List.mem_singleton.mp hp]
      exact ⟨g5, by show h3.objs.size < h'.objs.size; omega, goC⟩)
    have rk : Room k (gxc X X.A.in1.in1 { s2 with heap := h3, toks := tk } H3 scope h3.objs.size code fp [(h'.objs.size, go)]).A := ⟨hr.hd, by have := hr.dp; show X.A.depth + 1 + 3 * k + 5 < _; omega, by have := hr.un; show X.A.units + 1 + 1 + 3 + 16 * k + 200 < _; omega⟩
    have pg := hgt X.A.in1.in1 { s2 with heap := h3, toks := tk } H3 h3.objs.size code fp [(h'.objs.size, go)]
    have pt := ht X.A.in1.in1 { s2 with heap := h3, toks := tk } H3 h3.objs.size code fp [(h'.objs.size, go)] rk
    have pe := he X.A.in1.in1 { s2 with heap := h3, toks := tk } H3 h3.objs.size code fp [(h'.objs.size, go)] rk
    have npn : ∀ p ∈ [(h'.objs.size, go)], p.1 ∉ fp := fun p hp z => by
      rw [List.mem_singleton.mp hp] at z
      have h9 : h'.objs.size < h3.objs.size := (f3 _ z).2
      omega
    have nf : ∀ b ∈ fp, H3 b = none := fun b hb => (f3 b hb).1.1
    have isG : ∀ {h : Heap}, h.get? h'.objs.size = some go → h.IsGen h'.objs.size s2.gens.size := fun {h} e => ⟨go, .str "<genexpr>" (tk + 1), .str (X.env.qual ++ "<genexpr>") (tk + 1 + 1), e, by rw [← hgo], by rw [← hgo], by rw [← hgo]⟩
    have back : ∀ {H' : Hp} {s₁ s' : Shared}, Inv (gxc X X.A.in1.in1 { s2 with heap := h3, toks := tk } H3 scope h3.objs.size code fp [(h'.objs.size, go)]) [] (wipe σ (own.map (·.2))) H' s₁ → s'.os = s₁.os → AllBare s'.gens → (∀ b o, s₁.heap.get? b = some o → s'.heap.get? b = some o) → Inv X pins σ H' s' := fun {H' s₁ s'} I' ho hb k =>
      I3.call' (ch := fp) (ho.trans I'.os) (I'.base.trans (Un.kept k)) (I'.hok.kept k) hb fun b hb => ⟨(f3 b hb).1.2.2.2.1, (f3 b hb).1.2.1, (f3 b hb).1.2.2.2.2.1, (f3 b hb).1.2.2.2.2.2⟩
    refine Calls.spliced_nil ?_
    show wpAny (model X.prog X.w) X.A (call (.builtin "all") [.ref h'.objs.size]) (EP X pins σ Q) X.xe s5
    refine call_function_tree F.kind_all F.plain_all F.entry_all (F.args_all1 _) ?_
    unfold Builtin.«all»
    refine wpAny_bind (m := oneArg "all" _) (wpAny_pure ?_)
    refine wpAny_bind (wpAny_pyIter_gen (isG g5) ?_)
    refine wpAny_pure ⟨plainId_quiet F.plain_all_loop _, ?_⟩
    refine all_by (A := X.A) (fun n s => s.heap.IsGen h'.objs.size s2.gens.size ∧ s.heap.NoLimit ∧ ∃ gs, s.gens[s2.gens.size]? = some gs ∧ gs.Goes (model X.prog X.w) X.A.in1.in1 (allR (gxc X X.A.in1.in1 { s2 with heap := h3, toks := tk } H3 scope h3.objs.size code fp [(h'.objs.size, go)]) (wipe σ (own.map (·.2))) Q) (allY (gxc X X.A.in1.in1 { s2 with heap := h3, toks := tk } H3 scope h3.objs.size code fp [(h'.objs.size, go)]) (wipe σ (own.map (·.2))) Q) n (.send .none) (s.setGen s2.gens.size .running)) ?_ (m0 + 1) s5 ?_
    · rintro n s ⟨hgn, hl, gs, hgs, hgoes⟩
      have hgl : s2.gens.size < s.gens.size := (Array.getElem?_eq_some_iff.mp hgs).1
      refine wpAny_gsz (n := s2.gens.size + 1) hgl (next_genG (A := X.A.in1) (F := fun _ _ s₁ => allF (gxc X X.A.in1.in1 { s2 with heap := h3, toks := tk } H3 scope h3.objs.size code fp [(h'.objs.size, go)]) (wipe σ (own.map fun (y : Str × Nat) => y.2)) Q s₁) (Er := fun _ _ => False) hr.hd hl (by have := hr.dp; show X.A.depth < _; omega) hgn hgs hgoes (fun v s₁ gs' hbare hv => ?_) (fun s₁ hp h'' hk => ?_) fun e s₁ he => he.elim)
      · intro hsz
        obtain ⟨kb, H', rfl, I', kf, kt⟩ := hv
        have hsz1 : s2.gens.size < s₁.gens.size := by
          have q : (s₁.setGen s2.gens.size gs').gens.size = s₁.gens.size := setGen_size _ _ _
          have hsz' : s2.gens.size + 1 ≤ (s₁.setGen s2.gens.size gs').gens.size := hsz
          omega
        refine ⟨kb, rfl, fun ek => ?_, fun ek => ?_⟩
        · have kt' := kt ek
          cases n with
          | zero => exact (kt' s₁ ⟨rfl, rfl, I'.bare⟩).elim
          | succ n' =>
            refine ⟨n', Nat.lt_succ_self _, isG (I'.pin (h'.objs.size, go) (by simp)).1, I'.nolimit, gs', setGen_at hsz1, kt' _ ⟨rfl, rfl, allBare_setGen (allBare_setGen I'.bare hbare) rfl⟩⟩
        · subst ek
          exact ⟨.bl false, H', back (s' := s₁.setGen s2.gens.size gs') I' rfl (allBare_setGen I'.bare hbare) (fun _ _ e => e), rfl, kf rfl⟩
      · intro _
        obtain ⟨H', I', q'⟩ := hp
        exact ⟨.bl true, H', back (s' := { s₁.setGen s2.gens.size .finished with heap := h'' }) I' rfl (allBare_setGen I'.bare rfl) hk, rfl, q'⟩
    · refine ⟨isG g5, I5.nolimit, .fresh (.compStart (.GeneratorExp elt [⟨.Name x px, iter, ifs, 0⟩] scope gpos) 0 (.ref it) .none (gxEnv X scope h3.objs.size code)), by rw [← hs5]; exact Array.getElem?_push_size .., rfl, ?_⟩
      exact gx_begin gk npn T pg pt pe turn m0 (m0 + 1) _ _ H3 w0 (Nat.lt_succ_self _) (Slp.inv I5 ⟨rfl, rfl, allBare_setGen b5 rfl⟩) (T.keep _ _ _ st3 fun b hb o e => k5 b o e) nf
  cases hf : codeAmong gpos ps.toList with
  | none =>
    refine wpAny_genexprCodeX hcode (cd.code hPs htr) (cd.tab hPs) hf fun c' h' tk hx hge hlt hco' _ htab' _ => ?_
    obtain ⟨o1, vs, f1, tf, fl, tg, inF, tx, tt, op, _, _, _, _, _, _, _, _, _, htr', _⟩ := hco'
    exact cont _ h' tk _ hx htab'.2 htr'
  | some cv =>
    refine wpAny_genexprCode_hit hcode (cd.code hPs htr) hf ?_
    exact cont cv s2.heap s2.toks #[] (Heap.ExtBut.refl _ _) (by simpa using hPs) (by simpa using htr)
end
end Fc

namespace Fc
open PySem PySem.Spec L2 PyProof.Rows GxR GenW
variable [LamNames]
/-! ### the walk for tuple: what is handed out stands in the consumer's list at S -/
def GWalkT (J : It) (g : TG) (tt : TT) (te : TE) (vs : List Nat) (σ : L2.St) (fin : List V → Hp → Prop) (W : Nat → Nat → List V → Hp → Prop) : Prop :=
  ∀ i m ys H, W i m ys H → (J.stop i H ∧ fin ys H) ∨ (J.go i H ∧ ∃ Nx : List V → Hp → Prop, (∀ ys' H', Nx ys' H' → ∃ m', m' < m ∧ W (i + 1) m' ys' H') ∧ ∀ x H', J.yld i H x H' → g x (wipe σ vs) H' fun σ2 H2 => wipe σ2 vs = wipe σ vs ∧ tt σ2 H2 fun b H3 =>
    if b = true then te σ2 H3 fun y H4 => ys.length < sizeLine ∧ Nx (ys ++ [y]) H4 else Nx ys H3)
def tupY (Y : Cx) (σ : L2.St) (S : Addr) : Protocol := fun n s₀ v s kap => ∃ (ys : List V) (y : V) (H' : Hp), RelV y v ∧ GI Y S [] ys σ H' s ∧ ys.length < sizeLine ∧ ∀ s'', Slept S v s s'' → kap (.send .none) s''
def tupF (Y : Cx) (σ : L2.St) (S : Addr) (fin : List V → Hp → Prop) (s₁ : Shared) : Prop := ∃ ys H', GI Y S [] ys σ H' s₁ ∧ fin ys H'
def tupR (Y : Cx) (σ : L2.St) (S : Addr) (fin : List V → Hp → Prop) : GenEnd := fun _ _ r s₁ => ((r = .ok (.ret .none) ∨ r = .ok .next) ∧ tupF Y σ S fin s₁) ∨ ∃ e, r = .error e ∧ False
section
variable {X : Cx} {A' : Around} {s4 : Shared} {H4 : Hp} {scope : Scope} {C : Addr} {code : Value} {fp : List Addr} {pn : List (Addr × Obj)} {S : Addr}
theorem gx_loopT {elt iter : Expr} {x : Str} {px pos : Pos} {ifs : List Expr} {vs : List Nat} {σ : L2.St} {g : TG} {tt : TT} {te : TE} {J : It} {it : Addr} {tn : Nat → Heap → Prop} {fin : List V → Hp → Prop} {W : Nat → Nat → List V → Hp → Prop}
    (gk : GxOk scope) (hpn : ∀ p ∈ pn, p.1 ∉ fp) (hpS : ∀ p ∈ pn, p.1 ≠ S) (nSf : S ∉ fp) (ap : Apart (gxc X A' s4 H4 scope C code fp pn) S)
    (T : Turn X.prog X.w X.K (.Name x px) J fp it tn)
    (pg : PG (gxc X A' s4 H4 scope C code fp pn) (.Name x px) g) (pt : PTs (gxc X A' s4 H4 scope C code fp pn) ifs tt) (pe : PE (gxc X A' s4 H4 scope C code fp pn) elt te)
    (turn : GWalkT J g tt te vs σ fin W) :
    ∀ (m n i : Nat) (s₀ s : Shared) (ys : List V) (H : Hp), W i m ys H → m < n → GI (gxc X A' s4 H4 scope C code fp pn) S [] ys (wipe σ vs) H s → tn i s.heap → (∀ b ∈ fp, H b = none) →
      Seg (model X.prog X.w) A' (tupR (gxc X A' s4 H4 scope C code fp pn) (wipe σ vs) S fin) (tupY (gxc X A' s4 H4 scope C code fp pn) (wipe σ vs) S) n s₀
        (.compLoop (.GeneratorExp elt [⟨.Name x px, iter, ifs, 0⟩] scope pos) 0 (.ref it) .none (gxEnv X scope C code)) ((model X.prog X.w).den (.compLoop (.GeneratorExp elt [⟨.Name x px, iter, ifs, 0⟩] scope pos) 0 (.ref it) .none (gxEnv X scope C code))) [] s := by
  generalize hY : gxc X A' s4 H4 scope C code fp pn = Y at pg pt pe ap
  have eP : Y.prog = X.prog := by rw [← hY]
  have ew : Y.w = X.w := by rw [← hY]
  have eK : Y.K = X.K := by rw [← hY]
  have eA : Y.A = A'.deeper (gxEnv X scope C code) := by rw [← hY]
  have eE : Y.env = gxEnv X scope C code := by rw [← hY]
  have ex : Y.ex = fp := by rw [← hY]
  have exe : Y.xe = fun _ _ => False := by rw [← hY]
  have epn : Y.pn = pn := by rw [← hY]
  have ecalm : Y.calm = true := by rw [← hY]
  have stat : ∀ {o : Obj} {σ' : L2.St} {H' : Hp} {s' : Shared}, Inv Y [(S, o)] σ' H' s' → (∀ b ∈ fp, H' b = none) → ∀ b ∈ fp, FpOk Y [(S, o)] H' b := fun {o σ' H' s'} I' hn b hb =>
    ⟨hn b hb, (I'.ok.exf b (by rw [ex]; exact hb)).1, I'.ok.exfs b (by rw [ex]; exact hb), .inl (by rw [ex]; exact hb), fun x c e => (I'.ok.exf b (by rw [ex]; exact hb)).2 x c e, fun p hp z => by
      rw [epn] at hp
      rcases List.mem_append.mp hp with hp | hp
      · exact hpn p hp (by rw [z]; exact hb)
      · rw [List.mem_singleton.mp hp] at z
        exact nSf (by rw [show S = b from z]; exact hb)⟩
  intro m
  induction m using Nat.strongRecOn with
  | ind m ih =>
    intro n i s₀ s ys H w hmn hGI st nf
    obtain ⟨acc, ca, ra, I⟩ := hGI
    show Seg _ A' _ _ _ s₀ _ ((compTurn (.GeneratorExp elt [⟨.Name x px, iter, ifs, 0⟩] scope pos) 0 (.ref it) .none (gxEnv X scope C code)).onRaise (leaving (gxEnv X scope C code))) [] s
    rw [compTurn_gen, Sem.onRaise_eq_wrap]
    refine seg_bind_wrap (wpAny_standAt ?_)
    rcases turn i m ys H w with ⟨stop, qq⟩ | ⟨go, Nx, hNx, step⟩
    · have td := T.done Y eP ew eK ecalm i [(S, lstObj acc ca)] s _ H (fun _ _ => False) I (stat I nf) st stop
      rw [eA] at td
      refine seg_bind_wrap ?_
      rw [over_gx]
      refine thnF td fun r s6 ⟨hr, I6⟩ => ?_
      subst hr
      exact seg_end (.ok .next) (.inl ⟨.inr rfl, ys, H, ⟨acc, ca, ra, I6⟩, qq⟩)
    · have ti := T.item Y eP ew eK ecalm i [(S, lstObj acc ca)] s _ H (fun _ _ => False) I (stat I nf) st go
      rw [eA] at ti
      refine seg_bind_wrap ?_
      rw [over_gx]
      refine thnF ti fun r s6 ⟨u, hr, h6⟩ => ?_
      subst hr
      refine seg_bind_wrap ?_
      rw [over_gx]
      refine thnF h6 fun _ s7 ⟨y, H7, I7, r7, y7, st7, n7⟩ => ?_
      have I7' := I7.pinned (stat I7 n7) (T.obj _ _ st7)
      have pgr := pg.run _ s7 _ H7 y u _ I7' r7 (step y H7 y7)
      rw [eP, ew, eA, exe, eE] at pgr
      refine seg_bind_wrap ?_
      rw [over_gx]
      refine thnF pgr fun _ s8 ⟨σ8, H8, I8, hw8, q8⟩ => ?_
      have ptr := pt.run _ s8 σ8 H8 _ I8 q8
      rw [eP, ew, eA, exe, eE] at ptr
      refine seg_bind_wrap ?_
      rw [over_gx]
      refine thnF ptr fun b s9 ⟨H9, I9, q9⟩ => ?_
      have fin' : ∀ {s' : Shared} {H' : Hp}, Inv Y ([(S, lstObj acc ca)] ++ pinsAt fp s7.heap) σ8 H' s' → GI Y S [] ys (wipe σ vs) H' s' ∧ tn (i + 1) s'.heap ∧ (∀ b ∈ fp, H' b = none) := fun {s' H'} I' => by
        have pin' : ∀ b ∈ fp, ∀ o, s7.heap.get? b = some o → s'.heap.get? b = some o ∧ H' b = none := fun b hb o e =>
          let z := I'.pin (b, o) (List.mem_append_right _ (List.mem_append_right _ (mem_pinsAt hb e)))
          ⟨z.1, z.2.1⟩
        have hl : (wipe σ vs).length = σ8.length := by rw [← hw8, wipe_length]
        refine ⟨⟨acc, ca, ra, (I'.unpinned (pins := [(S, lstObj acc ca)])).weak hl (fun j v e => ?_)⟩, T.keep _ _ _ st7 fun b hb o e => (pin' b hb o e).1, fun b hb => ?_⟩
        · rw [← hw8] at e
          exact (wipe_some e).1
        · obtain ⟨o, e, _⟩ := T.obj _ _ st7 b hb
          exact (pin' b hb o e).2
      cases b with
      | false =>
        simp only [Bool.false_eq_true, if_false] at q9 ⊢
        obtain ⟨f1, f2, f3⟩ := fin' I9
        obtain ⟨m', hm', w'⟩ := hNx _ _ q9
        exact seg_again rfl (ih m' hm' n (i + 1) s₀ s9 ys H9 w' (by omega) f1 f2 f3)
      | true =>
        simp only [if_true] at q9 ⊢
        have hy : ∀ v, yieldOut (gxEnv X scope C code) v = yieldValue v := fun v => by
          have hco : (gxEnv X scope C code).scope.isCoroutine = false := gk.co
          simp only [yieldOut, hco, Bool.false_eq_true, if_false]
        simp only [hy]
        rw [Sem.bind_eq_wrap', Sem.bind_eq_wrap', Sem.wrap_wrap, Sem.wrap_wrap]
        have per := pe.run _ s9 σ8 H9 _ I9 q9
        rw [eP, ew, eA, exe, eE] at per
        refine seg_wrap ?_
        rw [over_gx]
        refine thnF per fun z s10 ⟨yv, H10, I10, r10, lt, nx⟩ => ?_
        obtain ⟨f1, f2, f3⟩ := fin' I10
        cases n with
        | zero => omega
        | succ n' =>
          refine seg_at (seg_yield rfl rfl rfl ⟨ys, yv, H10, r10, f1, lt, fun s'' zz => ?_⟩)
          obtain ⟨m', hm', w'⟩ := hNx _ _ nx
          refine seg_again rfl (ih m' hm' n' (i + 1) s'' s'' (ys ++ [yv]) H10 w' (by omega) (GI.woken (by rw [epn]; exact hpS) (fun p hp => by cases hp) ap f1 r10 zz) (T.keep _ _ _ f2 fun b hb o e => zz.keep b o (fun k => nSf (by rw [← k]; exact hb)) e) f3)
theorem gx_beginT {elt iter : Expr} {x : Str} {px pos : Pos} {ifs : List Expr} {vs : List Nat} {σ : L2.St} {g : TG} {tt : TT} {te : TE} {J : It} {it : Addr} {tn : Nat → Heap → Prop} {fin : List V → Hp → Prop} {W : Nat → Nat → List V → Hp → Prop}
    (gk : GxOk scope) (hpn : ∀ p ∈ pn, p.1 ∉ fp) (hpS : ∀ p ∈ pn, p.1 ≠ S) (nSf : S ∉ fp) (ap : Apart (gxc X A' s4 H4 scope C code fp pn) S)
    (T : Turn X.prog X.w X.K (.Name x px) J fp it tn)
    (pg : PG (gxc X A' s4 H4 scope C code fp pn) (.Name x px) g) (pt : PTs (gxc X A' s4 H4 scope C code fp pn) ifs tt) (pe : PE (gxc X A' s4 H4 scope C code fp pn) elt te)
    (turn : GWalkT J g tt te vs σ fin W) (m n : Nat) (s₀ s : Shared) (ys : List V) (H : Hp) (w : W 0 m ys H) (hmn : m < n) (I : GI (gxc X A' s4 H4 scope C code fp pn) S [] ys (wipe σ vs) H s) (st : tn 0 s.heap) (nf : ∀ b ∈ fp, H b = none) :
      Seg (model X.prog X.w) A' (tupR (gxc X A' s4 H4 scope C code fp pn) (wipe σ vs) S fin) (tupY (gxc X A' s4 H4 scope C code fp pn) (wipe σ vs) S) n s₀
        (.compStart (.GeneratorExp elt [⟨.Name x px, iter, ifs, 0⟩] scope pos) 0 (.ref it) .none (gxEnv X scope C code)) ((model X.prog X.w).den (.compStart (.GeneratorExp elt [⟨.Name x px, iter, ifs, 0⟩] scope pos) 0 (.ref it) .none (gxEnv X scope C code))) [] s := by
  have loop := gx_loopT (iter := iter) (pos := pos) gk hpn hpS nSf ap T pg pt pe turn m n 0 s₀ s ys H w hmn I st nf
  show Seg _ A' _ _ _ s₀ _ ((compStart (.GeneratorExp elt [⟨.Name x px, iter, ifs, 0⟩] scope pos) 0 (.ref it) .none (gxEnv X scope C code)).onRaise (leaving (gxEnv X scope C code))) [] s
  unfold compStart
  rw [Sem.onRaise_eq_wrap]
  show Seg _ A' _ _ _ s₀ _ ((ask >>= _).wrap _ _ _ _) [] s
  refine seg_bind_wrap (wpAny_askSetting ?_)
  split
  · exact seg_again rfl loop
  · first
      | exact seg_bind_wrap (wpAny_rule (seg_bind_wrap (wpAny_standAt (seg_bind_wrap (T.self _ 0 s _ _ st (seg_again rfl loop))))))
      | (refine seg_bind_wrap (wpAny_rule ?_); show Seg _ A' _ _ _ s₀ _ ((standAt iter.pos >>= _).wrap _ _ _ _) [] s; exact seg_bind_wrap (wpAny_standAt (seg_bind_wrap (T.self _ 0 s _ _ st (seg_again rfl loop)))))
/-- the loop that fills a list, by what each next tells -/
theorem ext_by {P : Program} {w : World} {A : Around} {a S : Addr} {res : Value} {R : Result → Shared → Prop} (St : Nat → Shared → Prop)
    (step : ∀ m s, St m s → wpAny (model P w) A.in1 (pyNext (.ref a)) (fun r s1 => match r with | none => R (.ok (.ret res)) s1 | some v => ∃ (acc : Array Value) (c : Nat), s1.heap.get? S = some (lstObj acc c) ∧ acc.size < sizeLine ∧ ∃ m', m' < m ∧ St m' { s1 with heap := s1.heap.update S (Obj.mapSeq (·.push v)) }) (fun _ _ => False) s) :
    ∀ (m : Nat) (s : Shared), St m s → codeAny (model P w) A (.builtin "list.extend.loop" ⟨[.ref S, .ref a, res], []⟩) R s := by
  intro m
  induction m using Nat.strongRecOn with
  | ind m ih =>
    intro s hst
    refine codeAny_builtin F.entry_extend_loop ?_
    rw [Around.under_plainId F.plain_extend_loop _]
    show wpAny _ A.in1 (pyNext (.ref a) >>= _) _ _ s
    refine wpAny_bind (thnF (step m s hst) fun r s1 h => ?_)
    cases r with
    | none => exact wpAny_pure h
    | some v =>
      obtain ⟨acc, c, hS, lt, m', hm, st'⟩ := h
      show wpAny _ A.in1 (updateSeq S (·.push v) >>= _) _ _ _
      refine wpAny_bind ?_
      exact wpAny_updateSeq hS rfl (wpAny_pure ⟨plainId_quiet F.plain_extend_loop _, ih m' hm _ st'⟩) (Nat.le_of_lt lt) (by show (acc.push v).size ≤ sizeLine + 1; rw [Array.size_push]; omega)
/-- collect of a generator -/
theorem collect_by {P : Program} {w : World} {A : Around} {E : Value → Shared → Prop} {s : Shared} {a : Addr} {g : Nat} {Q : List Value → Shared → Prop} (hg : s.heap.IsGen a g) (ha : a < s.heap.objs.size)
    (h : ∀ (c : Nat) (h2 : Heap), (∀ b o, s.heap.get? b = some o → h2.get? b = some o) → h2.get? s.heap.objs.size = some (lstObj #[] c) → codeAny (model P w) A (.builtin "list.extend.loop" ⟨[.ref s.heap.objs.size, .ref a, .ref s.heap.objs.size], []⟩) (fun r s' => ∃ acc c, r = .ok (.ret (.ref s.heap.objs.size)) ∧ s'.heap.get? s.heap.objs.size = some (lstObj acc c) ∧ Q acc.toList s') { s with heap := h2 }) :
    wpAny (model P w) A (collect (.ref a)) Q E s := by
  have hSI : s.heap.objs.size ≠ a := Nat.ne_of_gt ha
  unfold collect
  refine wpAny_bind (wpAny_runValue (codeAny_builtin F.entry_proto_collect ?_))
  rw [Around.under_plainId F.plain_proto_collect _]
  show wpAny _ A.in1 (newList [] >>= fun l => again (.builtin "list.__iadd__" ⟨[l, .ref a], []⟩)) _ _ s
  refine wpAny_bind (wpAny_newObj_type ?_)
  refine wpAny_pure ⟨plainId_quiet F.plain_list_iadd _, codeAny_builtin F.entry_list_iadd ?_⟩
  rw [Around.under_plainId F.plain_list_iadd _]
  have k1 : ∀ b o, s.heap.get? b = some o → (s.heap.push { cls := .type "list", data := .seq ([] : List Value).toArray }).get? b = some o := fun b o e => Heap.get?_push_of_some _ e
  have gty : ∀ {h2 : Heap}, (∀ b o, s.heap.get? b = some o → h2.get? b = some o) → h2.IsGen a g := fun {h2} q => hg.keeps q
  show wpAny _ A.in1 (Builtin.List.listExtendWith (.ref s.heap.objs.size) (.ref a) (.ref s.heap.objs.size)) _ _ _
  unfold Builtin.List.listExtendWith
  refine wpAny_bind (wpAny_typeOf (Heap.IsGen.typeIs (s := { s with heap := _ }) (gty k1)) ?_)
  have h1 : Builtin.List.listSameRef (.ref s.heap.objs.size) (.ref a) = false := by simp [Builtin.List.listSameRef, hSI]
  have h2 : (Value.type "generator" == Value.type "list") = false := by decide
  have h3 : (Value.type "generator" == Value.type "tuple") = false := by decide
  simp only [h1, h2, h3, Bool.or_false, Bool.false_eq_true, if_false]
  refine wpAny_bind (wpAny_pyIter_gen (s := { s with heap := _ }) (gty k1) ?_)
  refine wpAny_bind (wpAny_holding ?_)
  unfold Builtin.List.listLengthHint
  refine wpAny_bind (wpAny_specialOf (Heap.IsGen.typeIs (s := { s with heap := _ }) (gty k1)) F.gen_no_len ?_)
  show wpAny _ A.in1 (specialOf (Value.ref a) (Str.ofString "__length_hint__") >>= _) _ _ _
  refine wpAny_bind (wpAny_specialOf (Heap.IsGen.typeIs (s := { s with heap := _ }) (gty k1)) F.gen_no_hint ?_)
  refine wpAny_pure ?_
  show wpAny _ A.in1 (rule "list.extend.makes-room" >>= fun _ => Builtin.List.listTouch (.ref s.heap.objs.size) >>= fun _ =>
    again (.builtin "list.extend.loop" ⟨[.ref s.heap.objs.size, .ref a, .ref s.heap.objs.size], []⟩)) _ _ _
  refine wpAny_bind (wpAny_rule ?_)
  have hS1 : (s.heap.push { cls := .type "list", data := .seq ([] : List Value).toArray }).get? s.heap.objs.size = some { cls := .type "list", data := .seq ([] : List Value).toArray } := Heap.get?_push_size _ rfl
  refine wpAny_bind ?_
  show wpAny _ A.in1 (updateSeq s.heap.objs.size (·.push .none) >>= fun _ => updateSeq s.heap.objs.size (·.pop)) _ _ _
  refine wpAny_bind (wpAny_updateSeq hS1 rfl ?_)
  have hS2 := Heap.get?_update_self (Obj.mapSeq (·.push Value.none)) hS1 rfl
  refine wpAny_updateSeq hS2 rfl ?_
  have hS3 := Heap.get?_update_self (Obj.mapSeq (·.pop)) hS2 rfl
  have up : ∀ (h : Heap) (f : Obj → Obj), (∀ b o, s.heap.get? b = some o → h.get? b = some o) → ∀ b o, s.heap.get? b = some o → (h.update s.heap.objs.size f).get? b = some o := fun h f q b o e =>
    (Heap.get?_update_other _ _ (Ne.symm (Nat.ne_of_lt (Heap.lt_size e)))).trans (q b o e)
  refine wpAny_pure ⟨plainId_quiet F.plain_extend_loop _, ?_⟩
  refine codeAny_mono (h _ _ (up _ (Obj.mapSeq (·.pop)) (up _ (Obj.mapSeq (·.push Value.none)) k1)) hS3) fun r s' hq => ?_
  obtain ⟨acc, c, rfl, hS', hq⟩ := hq
  show wpAny _ A (load s.heap.objs.size >>= _) _ _ s'
  refine wpAny_bind (wpAny_load hS' ?_)
  exact wpAny_pure hq
end
section
variable {X : Cx}
/-- tuple(elt for x in iter if ..): P the table of the def's code -/
def tTupG (P : Addr) (wi : TI) (g : TG) (tt : TT) (te : TE) (vs : List Nat) : TE := fun σ H Q => wi σ H fun J H1 => TabG H1 P ∧ ∀ H2, Tabbed P H1 H2 → ∃ W : Nat → Nat → List V → Hp → Prop, (∃ m, W 0 m [] H2) ∧ GWalkT J g tt te vs σ (fun ys H' => ys.length ≤ sizeLine ∧ ∀ p, H' p = none → Q (.ref p) (upd H' p (.tup ys))) W
theorem pe_tupG {c P : Addr} {elt iter : Expr} {x : Str} {px p pos gpos : Pos} {ifs : List Expr} {scope : Scope} {own : List (Str × Nat)} {wi : TI} {g : TG} {tt : TT} {te : TE} {k : Nat}
    (hr : Room (k + 2) X.A) (hg : Gl X "tuple") (hm : X.mg "tuple" = none) (hb : bootBuiltins "tuple" = some (.type "tuple")) (TB : TabB X.base X.mg c P) (hcode : X.env.code = .ref c) (hN : X.N.Nodup) (ok : BlkOk X.N X.env.scope scope own) (gk : GxOk scope)
    (hi : PI X (.Name x px) iter wi) (hgt : ∀ (A' : Around) (s : Shared) (H : Hp) (C : Addr) (code : Value) (fp : List Addr) (pn : List (Addr × Obj)), PG (gxc X A' s H scope C code fp pn) (.Name x px) g)
    (ht : ∀ (A' : Around) (s : Shared) (H : Hp) (C : Addr) (code : Value) (fp : List Addr) (pn : List (Addr × Obj)), Room k (gxc X A' s H scope C code fp pn).A → PTs (gxc X A' s H scope C code fp pn) ifs tt)
    (he : ∀ (A' : Around) (s : Shared) (H : Hp) (C : Addr) (code : Value) (fp : List Addr) (pn : List (Addr × Obj)), Room k (gxc X A' s H scope C code fp pn).A → PE (gxc X A' s H scope C code fp pn) elt te)
    (hs : ∀ v, genFold iter X.env v = pure v)
    (hst : starEach [.GeneratorExp elt [⟨.Name x px, iter, ifs, 0⟩] scope gpos] X.env = (false, eval (.GeneratorExp elt [⟨.Name x px, iter, ifs, 0⟩] scope gpos) X.env) :: starEach [] X.env := by rfl) :
    PE X (.Call (.Name "tuple" p) [.GeneratorExp elt [⟨.Name x px, iter, ifs, 0⟩] scope gpos] [] pos) (tTupG P wi g tt te (own.map (·.2))) := by
  refine ⟨fun pins s σ H Q I h => ?_⟩
  refine wpAny_Call_Name_kw (ld_blt I hg hm hb ?_)
  refine PyProof.Rows.callWith_type1 ?_ hst rfl
  rw [hst]
  show wpAny _ _ (spliced ((false, eval (.GeneratorExp elt [⟨.Name x px, iter, ifs, 0⟩] scope gpos) X.env) :: backTo pos (starEach [] X.env))) _ _ s
  have hfree : ∀ y ∈ scope.names, y.2 = .free → ∃ c, X.env.cells.lookup y.1 = some c := fun y hy e => by
    rcases ok.free y hy e with k | k
    · exact I.ok.has _ (.inl k)
    · exact I.ok.has _ (.inr k)
  refine Calls.spliced_cons (wpAny_GeneratorExp_make gk.co (closure_ok hfree) gk.cell gk.dot ok.kind (by have := hr.dp; omega) (thn (hi.run pins s σ H _ I h) fun xv s1 hx => thn hx fun itv s2 h2 => ?_) hs)
  obtain ⟨it, fp, tn, J, H2, e, I2, T, st2, f2, ⟨ps, hP, htr⟩, q⟩ := h2
  subst e
  have hPs : s2.heap.get? P = some { cls := .none, data := .fields ps } := I2.hok P _ hP
  have nPf : P ∉ fp := fun z => by
    have := (f2 P z).1
    rw [hP] at this
    cases this
  have cd : PySem.W.CodeHd s2.heap c P := TB.code.keeps I2.bk
  refine ⟨I2.nolimit, ?_⟩
  have cont : ∀ (code : Value) (h3 : Heap) (tk : Nat) (more : Array Value), Heap.ExtBut P s2.heap h3 → h3.get? P = some { cls := .none, data := .fields (ps ++ more) } → TriplesOk (ps ++ more).toList →
      wpAny (model X.prog X.w) X.A (builtinsFor X.env.globals X.env.builtins) (fun bi s₄ => ∀ h', h'.Ns s₄.heap.objs.size (fun y => if y = ".0" then some (.ref it) else none) → Heap.SameBut s₄.heap.objs.size (s₄.heap.push { cls := .type "frame", data := .dict #[] }) h' →
        wpAny (model X.prog X.w) X.A (spliced (backTo pos (starEach [] X.env))) (fun us s' => wpAny (model X.prog X.w) X.A (call (.type "tuple") (.ref h'.objs.size :: us)) (EP X pins σ Q) X.xe s') X.xe { s₄ with
            gens := s₄.gens.push (.fresh (.compStart (.GeneratorExp elt [⟨.Name x px, iter, ifs, 0⟩] scope gpos) 0 (.ref it) .none (genEnv scope (cloFrom X.env.cells scope.names []) s₄.heap.objs.size code bi X.env))),
            toks := s₄.toks + 1 + 1 + 1,
            heap := h'.push { cls := .type "generator", data := .fields #[.int s₄.gens.size 0, .str "<genexpr>" (s₄.toks + 1), .str (X.env.qual ++ "<genexpr>") (s₄.toks + 1 + 1)] } }) X.xe { s2 with heap := h3, toks := tk } := by
    intro code h3 tk more hx hP3 ht3
    have I3 : Inv X pins σ (upd H2 P (.tbl (ps ++ more))) { s2 with heap := h3, toks := tk } := inv_tab (g' := s2.gens) (d' := s2.drawn) (t' := tk) I2 hP (fun b o hb e => hx b o hb e) hP3 I2.bare
    have hb2 : AllBare s2.gens := I2.bare
    have st3 : tn 0 h3 := T.keep _ _ _ st2 fun b hb o e => hx b o (fun z => nPf (by rw [← z]; exact hb)) e
    have f3 : ∀ b ∈ fp, FpOk X pins (upd H2 P (.tbl (ps ++ more))) b ∧ b < h3.objs.size := fun b hb => by
      have nb : b ≠ P := fun z => nPf (by rw [← z]; exact hb)
      obtain ⟨o, e, _⟩ := T.obj _ _ st2 b hb
      refine ⟨⟨?_, (f2 b hb).2⟩, Heap.lt_size (hx b o nb e)⟩
      rw [upd_ne nb]
      exact (f2 b hb).1
    obtain ⟨W, ⟨m0, w0⟩, turn⟩ := q (upd H2 P (.tbl (ps ++ more))) ⟨⟨ps ++ more, upd_same, ht3⟩, fun b hb => upd_ne hb⟩
    obtain ⟨bm, ob, e1, e2, e3, e4, e5, e6, e7, e8⟩ := TB.bm
    refine wpAny_builtinsFor (m := X.mg) (by rw [I3.ok.glob]; exact I3.mod.glob.keeps I3.bk) e1 e2 (I3.bk _ _ e5) e6 e7 e8 ?_
    intro h' hn' hs'
    have hn' : h'.Ns h3.objs.size (fun y => if y = ".0" then some (.ref it) else none) := hn'
    have hs' : Heap.SameBut h3.objs.size (h3.push { cls := .type "frame", data := .dict #[] }) h' := hs'
    have hsz : h'.objs.size = h3.objs.size + 1 := by rw [hs'.1, Heap.size_push]
    have keep' : ∀ b o, h3.get? b = some o → h'.get? b = some o := fun b o e => hs'.extBut b o (Nat.ne_of_lt (Heap.lt_size e)) (Heap.get?_push_of_some _ e)
    generalize hH3 : upd H2 P (.tbl (ps ++ more)) = H3 at I3 f3 w0
    generalize hgo : ({ cls := .type "generator", data := .fields #[.int s2.gens.size 0, .str "<genexpr>" (tk + 1), .str (X.env.qual ++ "<genexpr>") (tk + 1 + 1)] } : Obj) = go
    have goC : ∀ v, go.data ≠ .cell v := fun v z => by rw [← hgo] at z; cases z
    have goF : go.isFreed = false := by rw [← hgo]; rfl
    generalize hs5 : ({ s2 with heap := h'.push go, toks := tk + 1 + 1 + 1, gens := s2.gens.push (.fresh (.compStart (.GeneratorExp elt [⟨.Name x px, iter, ifs, 0⟩] scope gpos) 0 (.ref it) .none (gxEnv X scope h3.objs.size code))) } : Shared) = s5
    have k5 : ∀ b o, h3.get? b = some o → s5.heap.get? b = some o := fun b o e => by rw [← hs5]; exact Heap.get?_push_of_some _ (keep' b o e)
    have g5 : s5.heap.get? h'.objs.size = some go := by rw [← hs5]; exact Heap.get?_push_size _ goF
    have b5 : AllBare s5.gens := by rw [← hs5]; exact I2.bare.push rfl
    have I5 := gx_start (A' := X.A.in1.in1.in1.in1) (code := code) (pn := [(h'.objs.size, go)]) (s5 := s5) (s := { s2 with heap := h3, toks := tk }) I3 ok gk hN f3 I2.ok.frames hr.hd (by rw [← hs5]) b5 k5 (by rw [← hs5]; exact hn'.push _) (fun p hp => by
      rw [List.mem_singleton.mp hp]
      exact ⟨g5, by show h3.objs.size < h'.objs.size; omega, goC⟩)
    have rk : Room k (gxc X X.A.in1.in1.in1.in1 { s2 with heap := h3, toks := tk } H3 scope h3.objs.size code fp [(h'.objs.size, go)]).A := ⟨hr.hd, by have := hr.dp; show X.A.depth + 1 + 3 * k + 5 < _; omega, by have := hr.un; show X.A.units + 1 + 1 + 1 + 1 + 3 + 16 * k + 200 < _; omega⟩
    have pg := hgt X.A.in1.in1.in1.in1 { s2 with heap := h3, toks := tk } H3 h3.objs.size code fp [(h'.objs.size, go)]
    have pt := ht X.A.in1.in1.in1.in1 { s2 with heap := h3, toks := tk } H3 h3.objs.size code fp [(h'.objs.size, go)] rk
    have pe := he X.A.in1.in1.in1.in1 { s2 with heap := h3, toks := tk } H3 h3.objs.size code fp [(h'.objs.size, go)] rk
    have npn : ∀ p ∈ [(h'.objs.size, go)], p.1 ∉ fp := fun p hp z => by
      rw [List.mem_singleton.mp hp] at z
      have h9 : h'.objs.size < h3.objs.size := (f3 _ z).2
      omega
    have nf : ∀ b ∈ fp, H3 b = none := fun b hb => (f3 b hb).1.1
    have isG : ∀ {h : Heap}, h.get? h'.objs.size = some go → h.IsGen h'.objs.size s2.gens.size := fun {h} e => ⟨go, .str "<genexpr>" (tk + 1), .str (X.env.qual ++ "<genexpr>") (tk + 1 + 1), e, by rw [← hgo], by rw [← hgo], by rw [← hgo]⟩
    have back : ∀ {H' : Hp} {s₁ s' : Shared}, Inv (gxc X X.A.in1.in1.in1.in1 { s2 with heap := h3, toks := tk } H3 scope h3.objs.size code fp [(h'.objs.size, go)]) [] (wipe σ (own.map (·.2))) H' s₁ → s'.os = s₁.os → AllBare s'.gens → (∀ b o, s₁.heap.get? b = some o → s'.heap.get? b = some o) → Inv X pins σ H' s' := fun {H' s₁ s'} I' ho hb k =>
      I3.call' (ch := fp) (ho.trans I'.os) (I'.base.trans (Un.kept k)) (I'.hok.kept k) hb fun b hb => ⟨(f3 b hb).1.2.2.2.1, (f3 b hb).1.2.1, (f3 b hb).1.2.2.2.2.1, (f3 b hb).1.2.2.2.2.2⟩
    refine Calls.spliced_nil ?_
    show wpAny (model X.prog X.w) X.A (call (.type "tuple") [.ref h'.objs.size]) (EP X pins σ Q) X.xe s5
    have a5 : h'.objs.size < s5.heap.objs.size := Heap.lt_size g5
    have C5 : h3.objs.size < s5.heap.objs.size := by omega
    have nSf : s5.heap.objs.size ∉ fp := fun z => by
      have h9 : s5.heap.objs.size < h3.objs.size := (f3 _ z).2
      omega
    have ap : Apart (gxc X X.A.in1.in1.in1.in1 { s2 with heap := h3, toks := tk } H3 scope h3.objs.size code fp [(h'.objs.size, go)]) s5.heap.objs.size := by
      refine ⟨Nat.le_of_lt C5, Nat.ne_of_gt C5, fun y c e z => ?_⟩
      obtain ⟨v, q⟩ := I5.cell y c e
      have := q.lt
      rw [z] at this
      exact absurd this (Nat.lt_irrefl _)
    have hpS : ∀ p ∈ [(h'.objs.size, go)], p.1 ≠ s5.heap.objs.size := fun p hp => by
      rw [List.mem_singleton.mp hp]
      exact Nat.ne_of_lt a5
    have hSc : s5.heap.objs.size ≠ cStatics := fun z => by
      obtain ⟨mc, hns, _⟩ := I5.nolimit
      have := hns.lt
      rw [← z] at this
      exact absurd this (Nat.lt_irrefl _)
    refine callType_codes (Q₁ := fun obj s₁ => s₁.TypeIs obj "tuple" ∧ EP X pins σ Q obj s₁) F.called_tuple (F.typeCall_tuple_1 _) F.entry_object_init ?_ fun obj s₁ h₁ => ⟨h₁.1, F.args_object_init_2 obj _, object_init_meets F.called_tuple.init.lookup F.called_tuple.made (by decide) X.prog X.w X.A.in1 _ s₁ ⟨h₁.1, rfl, h₁.2⟩⟩
    refine codeAny_of_tree ?_
    show wpAny _ X.A.in1.in1 (do checkBuiltinCall "tuple.__new__" ⟨[.type "tuple", .ref h'.objs.size], []⟩; again (.builtin "tuple.__new__" ⟨[.type "tuple", .ref h'.objs.size], []⟩)) _ _ s5
    refine wpAny_bind (wpAny_of_eq (F.newCall_tuple_1 _) (wpAny_pure ⟨plainId_quiet F.plain_tuple_new _, codeAny_builtin F.entry_tuple_new ?_⟩))
    rw [Around.under_plainId F.plain_tuple_new _]
    have hsub := sub_tuple_self
    have hinit := init_tuple_lookup
    have hmh := madeHere_tuple
    have hTI := (isG g5).typeIs
    wp_walk using wpAny_typeOf hTI, collect_by (isG g5) a5
    intro c0 h2 hk2 hS2
    refine ext_by (A := X.A.in1.in1) (fun n s => s.heap.IsGen h'.objs.size s2.gens.size ∧ s.heap.NoLimit ∧ ∃ gs, s.gens[s2.gens.size]? = some gs ∧ gs.Goes (model X.prog X.w) X.A.in1.in1.in1.in1 (tupR (gxc X X.A.in1.in1.in1.in1 { s2 with heap := h3, toks := tk } H3 scope h3.objs.size code fp [(h'.objs.size, go)]) (wipe σ (own.map (·.2))) s5.heap.objs.size (fun ys H' => ys.length ≤ sizeLine ∧ ∀ p, H' p = none → Q (.ref p) (upd H' p (.tup ys)))) (tupY (gxc X X.A.in1.in1.in1.in1 { s2 with heap := h3, toks := tk } H3 scope h3.objs.size code fp [(h'.objs.size, go)]) (wipe σ (own.map (·.2))) s5.heap.objs.size) n (.send .none) (s.setGen s2.gens.size .running)) ?_ (m0 + 1) _ ?_
    · rintro n s ⟨hgn, hl, gs, hgs, hgoes⟩
      have hgl : s2.gens.size < s.gens.size := (Array.getElem?_eq_some_iff.mp hgs).1
      refine wpAny_gsz (n := s2.gens.size + 1) hgl (next_genG (A := X.A.in1.in1.in1) (F := fun _ _ s₁ => tupF (gxc X X.A.in1.in1.in1.in1 { s2 with heap := h3, toks := tk } H3 scope h3.objs.size code fp [(h'.objs.size, go)]) (wipe σ (own.map fun (y : Str × Nat) => y.2)) s5.heap.objs.size (fun ys H' => ys.length ≤ sizeLine ∧ ∀ p, H' p = none → Q (.ref p) (upd H' p (.tup ys))) s₁) (Er := fun _ _ => False) hr.hd hl (by have := hr.dp; show X.A.depth < _; omega) hgn hgs hgoes (fun v s₁ gs' hbare hv => ?_) (fun s₁ hp h'' hk => ?_) fun e s₁ he => he.elim)
      · intro hsz
        obtain ⟨ys, yv, H', rv, gi, lt, kt⟩ := hv
        obtain ⟨_, _, _, acc, ca, ra, hS1⟩ := gi.at
        obtain ⟨acc0, ca0, ra0, I'⟩ := gi
        have hsz1 : s2.gens.size < s₁.gens.size := by
          have q : (s₁.setGen s2.gens.size gs').gens.size = s₁.gens.size := setGen_size _ _ _
          have hsz' : s2.gens.size + 1 ≤ (s₁.setGen s2.gens.size gs').gens.size := hsz
          omega
        have la : acc.size < sizeLine := by
          have e9 : ys.length = acc.size := ra.length.trans Array.length_toList
          rw [← e9]
          exact lt
        refine ⟨acc, ca, hS1, la, ?_⟩
        cases n with
        | zero => exact (kt _ (Slept.push hS1 I'.bare)).elim
        | succ n' =>
          have kp3 : ∀ b o, b ≠ s5.heap.objs.size → s₁.heap.get? b = some o → (s₁.heap.update s5.heap.objs.size (Obj.mapSeq (·.push v))).get? b = some o := fun b o hbS e => (Heap.get?_update_other _ _ (Ne.symm hbS)).trans e
          refine ⟨n', Nat.lt_succ_self _, isG (kp3 _ _ (Nat.ne_of_lt a5) (I'.pin (h'.objs.size, go) (by simp)).1), ?_, gs', setGen_at (s := s₁) hsz1, kt _ (Slept.push hS1 (allBare_setGen (s := s₁.setGen s2.gens.size gs') (allBare_setGen I'.bare hbare) rfl))⟩
          obtain ⟨mc, hns, hnn⟩ := I'.nolimit
          exact ⟨mc, hns.at' fun o e => kp3 _ o (Ne.symm hSc) e, hnn⟩
      · intro _
        obtain ⟨ys, H', gi, lq, q'⟩ := hp
        obtain ⟨_, _, _, acc, ca, ra, hS1⟩ := gi.at
        obtain ⟨acc0, ca0, ra0, I'⟩ := gi
        refine ⟨acc, ca, rfl, hk _ _ hS1, ?_⟩
        have IX := back (s' := { s₁.setGen s2.gens.size .finished with heap := h'' }) (I'.pins_of fun p hp => by cases hp) rfl (allBare_setGen I'.bare rfl) hk
        show wpAny _ _ (Builtin.Tuple.tupleExact acc.toList.toArray >>= fun v => ret v) _ _ _
        unfold Builtin.Tuple.tupleExact
        have la : acc.size ≤ sizeLine := by
          have e9 : ys.length = acc.size := ra.length.trans Array.length_toList
          rw [← e9]
          exact lq
        refine wpAny_bind (wpAny_newObj_type ?_ (by show acc.toList.toArray.size ≤ sizeLine; simp only [Array.toArray_toList]; exact la))
        refine wpAny_pure ?_
        have IL := IX.laid (t' := s₁.toks) (h' := h''.push { cls := .type "tuple", data := .seq acc.toList.toArray }) (a := h''.objs.size) (o := .tup ys) (fun b o e => Heap.get?_push_of_some _ e) (Nat.le_refl _) ⟨lq, acc.toList, ra, _, Heap.get?_push_size _ rfl, rfl, _, rfl⟩
        exact ⟨⟨_, Heap.get?_push_size _ rfl, rfl⟩, .ref h''.objs.size, _, IL, rfl, q' _ (IX.hok.fresh (Nat.le_refl _))⟩
    · have b5' : AllBare (({ s5 with heap := h2 } : Shared).setGen s2.gens.size .running).gens := allBare_setGen (s := { s5 with heap := h2 }) b5 rfl
      refine ⟨isG (hk2 _ _ g5), I5.nolimit.keeps hk2, .fresh (.compStart (.GeneratorExp elt [⟨.Name x px, iter, ifs, 0⟩] scope gpos) 0 (.ref it) .none (gxEnv X scope h3.objs.size code)), by rw [← hs5]; exact Array.getElem?_push_size .., rfl, ?_⟩
      have I6 := I5.kept (t' := s5.toks) hk2
      refine gx_beginT gk npn hpS nSf ap T pg pt pe turn m0 (m0 + 1) _ _ [] H3 w0 (Nat.lt_succ_self _) ⟨#[], c0, .nil, (Slp.inv (s' := ({ s5 with heap := h2 } : Shared).setGen s2.gens.size .running) I6 ⟨rfl, rfl, b5'⟩).pins_of fun p hp => ?_⟩ (T.keep _ _ _ st3 fun b hb o e => hk2 _ _ (k5 b o e)) nf
      rw [List.mem_singleton.mp hp]
      exact ⟨hS2, I5.hok.fresh (Nat.le_refl _), Nat.ne_of_gt C5, I5.nofs (Nat.le_refl _), fun v z => by cases z⟩
  cases hf : codeAmong gpos ps.toList with
  | none =>
    refine wpAny_genexprCodeX hcode (cd.code hPs htr) (cd.tab hPs) hf fun c' h' tk hx hge hlt hco' _ htab' _ => ?_
    obtain ⟨o1, vs, f1, tf, fl, tg, inF, tx, tt, op, _, _, _, _, _, _, _, _, _, htr', _⟩ := hco'
    exact cont _ h' tk _ hx htab'.2 htr'
  | some cv =>
    refine wpAny_genexprCode_hit hcode (cd.code hPs htr) hf ?_
    exact cont cv s2.heap s2.toks #[] (Heap.ExtBut.refl _ _) (by simpa using hPs) (by simpa using htr)
end
end Fc

namespace Fc
open PySem PySem.Spec L2 PyProof.Rows GxR
variable [LamNames]
/-! ### a def whose code object is known by its address -/
structure FunC (K : PySem.W.Frag) (x qual : Str) (st : Stmt) (f : Addr) (fd : FuncData) (c : Addr) : Prop where
  ex : ∃ (oc : Value) (od : Option Addr) (kV doc pm : Value) (an : Option Addr) (ct : Value) (osl : Array (Option Value)),
    fd = PySem.W.fnOf x qual (defArgs st) (defBody st) (defScope st) .none kV doc pm an (.ref c) ct ∧ K.lookup f = some ⟨oc, od, .func fd, osl⟩ ∧ PySem.W.codeIn K (.ref c) qual = true
  kp : PySem.W.keepIn K (.ref f) = true
theorem FunC.to {K : PySem.W.Frag} {x qual : Str} {st : Stmt} {f : Addr} {fd : FuncData} {c : Addr} (F : FunC K x qual st f fd c) : Fun K x qual st f fd := by
  obtain ⟨oc, od, kV, doc, pm, an, ct, osl, h1, h2, h3⟩ := F.ex
  exact ⟨⟨oc, od, kV, doc, pm, an, _, ct, osl, h1, h2, h3⟩, F.kp⟩
section
variable {P : Program} {w : World} {K : PySem.W.Frag} {mg : Str → Option Value} {base : Heap}
theorem FunC.ok {x qual : Str} {st : Stmt} {f : Addr} {fd : FuncData} {c : Addr} {N ps : List Str} {k : Nat} {sp : Sp} (F : FunC K x qual st f fd c) (S : FnScope N ps (defScope st)) (len : ∀ vs H Q E, sp vs H Q E → vs.length = ps.length)
    (hbody : ∀ (A : Around) (outer : List Env) (s : Shared) (H : Hp) (vs : List V) (Q : VK) (E : XK), Room k (A.deeper (envOfC qual (defScope st) s.heap.objs.size f (.ref c))) → sp vs H Q E →
      ∃ t, PSs (cxOf CX0 P w K mg base N qual (defScope st) f (.ref c) A outer s H E).nox (defBody st) t ∧ t { nx := fun _ H' => Q .non H', rt := Q } (start N vs) H) : FnOk P w K mg base CX0 (k + 1) f fd ps sp := by
  obtain ⟨oc, od, kV, doc, pm, an, ct, osl, rfl, lk, hcd⟩ := F.ex
  refine fn_of lk hcd S len fun A outer s H vs Q E hr hsp => ?_
  obtain ⟨t, h, q⟩ := hbody A outer s H vs Q E hr hsp
  exact ⟨t, h.nox, q⟩
theorem FunC.okX {x qual : Str} {st : Stmt} {f : Addr} {fd : FuncData} {c : Addr} {N ps : List Str} {k : Nat} {sp : Sp} (F : FunC K x qual st f fd c) (S : FnScope N ps (defScope st)) (len : ∀ vs H Q E, sp vs H Q E → vs.length = ps.length)
    (hbody : ∀ (A : Around) (outer : List Env) (s : Shared) (H : Hp) (vs : List V) (Q : VK) (E : XK), Room k (A.deeper (envOfC qual (defScope st) s.heap.objs.size f (.ref c))) → sp vs H Q E →
      ∃ t, PSs (cxOf (L2.CX P w) P w K mg base N qual (defScope st) f (.ref c) A outer s H E) (defBody st) t ∧ t { nx := fun _ H' => Q .non H', rt := Q } (start N vs) H) : FnOk P w K mg base (L2.CX P w) (k + 1) f fd ps sp := by
  obtain ⟨oc, od, kV, doc, pm, an, ct, osl, rfl, lk, hcd⟩ := F.ex
  exact fn_of lk hcd S len fun A outer s H vs Q E hr hsp => hbody A outer s H vs Q E hr hsp
end
theorem funC_mk {K : PySem.W.Frag} {x : Str} {st : Stmt} {f : Addr} {oc kV doc pm ct : Value} {od an : Option Addr} {osl : Array (Option Value)} {c : Addr} (l : K.lookup f = some ⟨oc, od, .func (PySem.W.fnOf x x (defArgs st) (defBody st) (defScope st) .none kV doc pm an (.ref c) ct), osl⟩) (hc : PySem.W.codeIn K (.ref c) x = true) (k : PySem.W.keepIn K (.ref f) = true) :
    FunC K x x st f (PySem.W.fnOf x x (defArgs st) (defBody st) (defScope st) .none kV doc pm an (.ref c) ct) c := ⟨⟨oc, od, kV, doc, pm, an, ct, osl, rfl, l, hc⟩, k⟩
/-! ### a head's facts, by names -/
theorem fun_ofD {K : PySem.W.Frag} {x : Str} {st : Stmt} {f : Addr} {fd : FuncData} (D : FunD K x x (defArgs st) (defBody st) (defScope st) [] [] f fd) : Fun K x x st f fd := by
  obtain ⟨oc, od, dV, kV, doc, pm, an, cdv, ct, osl, h1, h2, h3, h4, _⟩ := D.ex
  rcases h4 with ⟨_, h4⟩ | ⟨h4, _⟩
  · subst h4
    exact ⟨⟨oc, od, kV, doc, pm, an, cdv, ct, osl, h1, h2, h3⟩, D.kp⟩
  · exact absurd rfl h4
theorem funC_ofD {K : PySem.W.Frag} {x : Str} {st : Stmt} {fd : FuncData} (D : FunD K x x (defArgs st) (defBody st) (defScope st) [] [] (He.fAd K (x, none)) fd) : FunC K x x st (He.fAd K (x, none)) fd (He.cT K (x, none)).1 := by
  obtain ⟨oc, od, dV, kV, doc, pm, an, cdv, ct, osl, h1, h2, h3, h4, _⟩ := D.ex
  rcases h4 with ⟨_, h4⟩ | ⟨h4, _⟩
  · subst h4
    obtain ⟨c, rfl⟩ := He.codeIn_ref h3
    have e : He.codeOf K (x, none) = c := He.codeOf_eq h2 (by rw [h1] <;> rfl)
    show FunC K x x st (He.fAd K (x, none)) fd (He.codeOf K (x, none))
    rw [e]
    exact ⟨⟨oc, od, kV, doc, pm, an, ct, osl, h1, h2, h3⟩, D.kp⟩
  · exact absurd rfl h4
theorem tab_empty {H : Hp} {p : Addr} (h : H p = some (.tbl #[])) (n : LamNames.lam p = none) : TabN H p := ⟨⟨#[], h, by simp [TriplesOk]⟩, n⟩
theorem tabB_of {base : Heap} {mg : Str → Option Value} {c p : Addr} (t : LamX.TabB base mg c p) : TabB base mg c p := ⟨t.code, t.bm, t.gP⟩
end Fc

namespace Fc
open PySem PySem.Spec L2 PyProof.Rows
variable [LamNames]
/-! ### a comprehension whose items are known by what holds of them -/
theorem lc_rowG {K : PySem.W.Frag} {a : Addr} {xs : List V} {G : Nat → V → Hp → Prop} {te : TE} {vs : List Nat} {σ : L2.St} {H1 : Hp} {D : Addr} {j : Nat} {Qd : Hp → Prop} (nD : H1 D = none) (hs : SqL K H1 a xs) (hz : xs.length ≤ sizeLine)
    (hw : ∀ x, wipe ((wipe σ vs).set j (some x)) vs = wipe σ vs) (gk : ∀ i v H H', Same H H' → G i v H → G i v H') (gu : ∀ i v H ys zs, H D = some (.lst ys) → G i v H → G i v (upd H D (.lst zs)))
    (turn : ∀ (i : Nat) (x : V) (H : Hp) (R : V → Hp → Prop), xs[i]? = some x → Same H1 H → (∀ y H', Same H H' → G i y H' → R y H') → te ((wipe σ vs).set j (some x)) H R) (hd : ∀ ys H', ys.length = xs.length → (∀ i y, ys[i]? = some y → G i y H') → Same H1 H' → H' D = some (.lst ys) → Qd H') :
    ∃ W : Nat → Nat → Hp → Prop, (∃ m, W 0 m (upd H1 D (.lst []))) ∧ ∀ i m H, W i m H →
      ((Itl K a).stop i H ∧ Qd H) ∨ ((Itl K a).go i H ∧ ∃ Nx : Hp → Prop, (∀ H', Nx H' → ∃ m', m' < m ∧ W (i + 1) m' H') ∧ ∀ x H', (Itl K a).yld i H x H' → gName j x (wipe σ vs) H' fun σ2 H2 => wipe σ2 vs = wipe σ vs ∧ tYes σ2 H2 fun b H3 =>
        if b = true then te σ2 H3 fun y H4 => ∃ acc, H4 D = some (.lst acc) ∧ acc.length < sizeLine ∧ Nx (upd H4 D (.lst (acc ++ [y]))) else Nx H3) := by
  refine lc_list (xs := xs) (fun i H => Same H1 H ∧ ∃ ys, ys.length = i ∧ H D = some (.lst ys) ∧ ∀ k y, ys[k]? = some y → G k y H) ⟨grow nD, [], rfl, upd_same, fun k y h => nomatch h⟩ (fun i H _ p => p.1.seq hs) (fun i x H hx p => ?_) (fun H p => ?_)
  · have hi : i < xs.length := (List.getElem?_eq_some_iff.mp hx).1
    obtain ⟨sm1, ys, ly, hD, hg⟩ := p
    refine ⟨hw x, ?_⟩
    unfold tYes
    dsimp only
    rw [if_pos rfl]
    refine turn i x H _ hx sm1 fun y H' sm gy => ⟨ys, sm _ _ hD, by omega, ?_, ys ++ [y], ?_, upd_same, ?_⟩
    · exact (sm1.trans sm).over nD (.lst (sm _ _ hD))
    · rw [List.length_append, ly]
      rfl
    · intro k z hk
      by_cases lt : k < ys.length
      · rw [List.getElem?_append_left lt] at hk
        exact gu _ _ _ _ _ (sm _ _ hD) (gk _ _ _ _ sm (hg k z hk))
      · rw [List.getElem?_append_right (by omega)] at hk
        have e : k = i := by
          have := (List.getElem?_eq_some_iff.mp hk).1
          simp only [List.length_cons, List.length_nil] at this
          omega
        subst e
        rw [ly, Nat.sub_self] at hk
        cases hk
        exact gu _ _ _ _ _ (sm _ _ hD) gy
  · obtain ⟨sm1, ys, ly, hD, hg⟩ := p
    exact hd ys H ly hg sm1 hD
/-- the same of flat things -/
theorem lc_rowP {K : PySem.W.Frag} {a : Addr} {xs : List V} {G : V → Prop} {te : TE} {vs : List Nat} {σ : L2.St} {H1 : Hp} {D : Addr} {j : Nat} {Qd : Hp → Prop} (nD : H1 D = none) (hs : SqL K H1 a xs) (hz : xs.length ≤ sizeLine)
    (hw : ∀ x, wipe ((wipe σ vs).set j (some x)) vs = wipe σ vs)
    (turn : ∀ (i : Nat) (x : V) (H : Hp) (R : V → Hp → Prop), xs[i]? = some x → Same H1 H → (∀ y H', Same H H' → G y → R y H') → te ((wipe σ vs).set j (some x)) H R) (hd : ∀ ys H', ys.length = xs.length → (∀ y ∈ ys, G y) → Same H1 H' → H' D = some (.lst ys) → Qd H') :
    ∃ W : Nat → Nat → Hp → Prop, (∃ m, W 0 m (upd H1 D (.lst []))) ∧ ∀ i m H, W i m H →
      ((Itl K a).stop i H ∧ Qd H) ∨ ((Itl K a).go i H ∧ ∃ Nx : Hp → Prop, (∀ H', Nx H' → ∃ m', m' < m ∧ W (i + 1) m' H') ∧ ∀ x H', (Itl K a).yld i H x H' → gName j x (wipe σ vs) H' fun σ2 H2 => wipe σ2 vs = wipe σ vs ∧ tYes σ2 H2 fun b H3 =>
        if b = true then te σ2 H3 fun y H4 => ∃ acc, H4 D = some (.lst acc) ∧ acc.length < sizeLine ∧ Nx (upd H4 D (.lst (acc ++ [y]))) else Nx H3) :=
  lc_rowG (G := fun _ v _ => G v) nD hs hz hw (fun _ _ _ _ _ h => h) (fun _ _ _ _ _ _ h => h) turn (fun ys H' l h => hd ys H' l fun y hy => by
    obtain ⟨i, e⟩ := List.getElem?_of_mem hy
    exact h i y e)
theorem lc_rngP {lo : Int} {n : Nat} {G : V → Prop} {te : TE} {vs : List Nat} {σ : L2.St} {H1 : Hp} {D : Addr} {j : Nat} {Qd : Hp → Prop} (nD : H1 D = none) (hz : n ≤ sizeLine)
    (hw : ∀ x, wipe ((wipe σ vs).set j (some x)) vs = wipe σ vs)
    (turn : ∀ (i : Nat) (H : Hp) (R : V → Hp → Prop), i < n → Same H1 H → (∀ y H', Same H H' → G y → R y H') → te ((wipe σ vs).set j (some (.int (lo + i)))) H R) (hd : ∀ ys H', ys.length = n → (∀ y ∈ ys, G y) → Same H1 H' → H' D = some (.lst ys) → Qd H') :
    ∃ W : Nat → Nat → Hp → Prop, (∃ m, W 0 m (upd H1 D (.lst []))) ∧ ∀ i m H, W i m H →
      ((Itr lo n).stop i H ∧ Qd H) ∨ ((Itr lo n).go i H ∧ ∃ Nx : Hp → Prop, (∀ H', Nx H' → ∃ m', m' < m ∧ W (i + 1) m' H') ∧ ∀ x H', (Itr lo n).yld i H x H' → gName j x (wipe σ vs) H' fun σ2 H2 => wipe σ2 vs = wipe σ vs ∧ tYes σ2 H2 fun b H3 =>
        if b = true then te σ2 H3 fun y H4 => ∃ acc, H4 D = some (.lst acc) ∧ acc.length < sizeLine ∧ Nx (upd H4 D (.lst (acc ++ [y]))) else Nx H3) := by
  refine lc_range (fun i H => Same H1 H ∧ ∃ ys, ys.length = i ∧ H D = some (.lst ys) ∧ ∀ y ∈ ys, G y) ⟨grow nD, [], rfl, upd_same, fun y h => nomatch h⟩ (fun i H hi p => ?_) (fun H p => ?_)
  · obtain ⟨sm1, ys, ly, hD, hg⟩ := p
    refine ⟨hw _, ?_⟩
    unfold tYes
    dsimp only
    rw [if_pos rfl]
    refine turn i H _ hi sm1 fun y H' sm gy => ⟨ys, sm _ _ hD, by omega, ?_, ys ++ [y], ?_, upd_same, ?_⟩
    · exact (sm1.trans sm).over nD (.lst (sm _ _ hD))
    · rw [List.length_append, ly]
      rfl
    · intro z hz
      rcases List.mem_append.mp hz with hz | hz
      · exact hg z hz
      · rw [List.mem_singleton.mp hz]
        exact gy
  · obtain ⟨sm1, ys, ly, hD, hg⟩ := p
    exact hd ys H ly hg sm1 hD
def PartV (v : V) : Prop := ∃ p : List Nat, v = T p ∧ partOk p
theorem partsV : ∀ {vs : List V}, (∀ v ∈ vs, PartV v) → ∃ ps : List (List Nat), vs = ps.map T ∧ ∀ p ∈ ps, partOk p
  | [], _ => ⟨[], rfl, fun p h => by cases h⟩
  | v :: r, h => by
    obtain ⟨p, rfl, hp⟩ := h v (by simp)
    obtain ⟨ps, rfl, hps⟩ := partsV fun u hu => h u (List.mem_cons_of_mem _ hu)
    refine ⟨p :: ps, rfl, fun q hq => ?_⟩
    rcases List.mem_cons.mp hq with rfl | hq
    · exact hp
    · exact hps q hq
theorem iteNS2 {b : Bool} {a c : Prop} (h : b = false) (k : c) : if b = true then a else c := by
  rw [h, if_neg Bool.false_ne_true]
  exact k
/-! ### cuts of any row -/
theorem cutV_to (xs : List V) (k : Nat) : cutV xs none (some (k : Int)) = xs.take k := by
  unfold cutV
  rw [HT.sIx_none, HT.sIx_nat, List.drop_zero, Nat.sub_zero]
  by_cases h : k ≤ xs.length
  · rw [Nat.min_eq_left h]
  · have h' : xs.length ≤ k := by omega
    rw [Nat.min_eq_right h', List.take_of_length_le (Nat.le_refl _), List.take_of_length_le h']
theorem cutV_from (xs : List V) (k : Nat) : cutV xs (some (k : Int)) none = xs.drop k := by
  unfold cutV
  rw [HT.sIx_none, HT.sIx_nat]
  by_cases h : k ≤ xs.length
  · rw [Nat.min_eq_left h]
    exact List.take_of_length_le (by rw [List.length_drop]; omega)
  · have h' : xs.length ≤ k := by omega
    rw [Nat.min_eq_right h', List.drop_of_length_le (Nat.le_refl _), List.drop_of_length_le h', List.take_nil]
theorem cut_some (ns : List Int) (lo hi : Option Int) : ∃ ms : List Int, cutV (ns.map V.int) lo hi = ms.map V.int ∧ ms.length ≤ ns.length := by
  refine ⟨(ns.drop (HT.sIx ns.length 0 lo)).take (HT.sIx ns.length ns.length hi - HT.sIx ns.length 0 lo), ?_, ?_⟩
  · unfold cutV
    rw [List.length_map, List.map_take, List.map_drop]
  · rw [List.length_take, List.length_drop]
    omega
theorem cutS_to (l : List Nat) (k : Nat) : cutS (mkS l) none (some (k : Int)) = mkS (l.take k) := by
  rw [mkS_cut, HT.sIx_none, HT.sIx_nat, List.drop_zero, Nat.sub_zero]
  by_cases h : k ≤ l.length
  · rw [Nat.min_eq_left h]
  · have h' : l.length ≤ k := by omega
    rw [Nat.min_eq_right h', List.take_of_length_le (Nat.le_refl _), List.take_of_length_le h']
theorem cutS_from (l : List Nat) (k : Nat) : cutS (mkS l) (some (k : Int)) none = mkS (l.drop k) := by
  rw [mkS_cut, HT.sIx_none, HT.sIx_nat]
  by_cases h : k ≤ l.length
  · rw [Nat.min_eq_left h]
    rw [List.take_of_length_le (by rw [List.length_drop]; omega)]
  · have h' : l.length ≤ k := by omega
    rw [Nat.min_eq_right h', List.drop_of_length_le (Nat.le_refl _), List.drop_of_length_le h', List.take_nil]
/-! ### rows of texts -/
def TxtOk (m : Nat) (v : V) : Prop := ∃ p : List Nat, v = T p ∧ p.length ≤ m
theorem txts {m : Nat} : ∀ {vs : List V}, (∀ v ∈ vs, TxtOk m v) → ∃ ps : List (List Nat), vs = ps.map T ∧ ∀ p ∈ ps, p.length ≤ m
  | [], _ => ⟨[], rfl, fun p h => by cases h⟩
  | v :: r, h => by
    obtain ⟨p, rfl, hp⟩ := h v (by simp)
    obtain ⟨ps, rfl, hps⟩ := txts fun u hu => h u (List.mem_cons_of_mem _ hu)
    refine ⟨p :: ps, rfl, fun q hq => ?_⟩
    rcases List.mem_cons.mp hq with rfl | hq
    · exact hp
    · exact hps q hq
theorem mapT (ps : List (List Nat)) : (ps.map mkS).map V.str = ps.map T := by rw [List.map_map]; rfl
theorem sum_sizes {m : Nat} : ∀ (ks : List (List Nat)), (∀ p ∈ ks, p.length ≤ m) → ((ks.map mkS).map (·.length)).sum ≤ ks.length * m
  | [], _ => by simp
  | x :: r, h => by
    have h1 := h x (by simp)
    have h2 := sum_sizes r fun p hp => h p (List.mem_cons_of_mem _ hp)
    rw [List.map_cons, List.map_cons, List.sum_cons, len_mkS, List.length_cons, Nat.add_mul, Nat.one_mul]
    omega
theorem splitC_sizes (c : Nat) : ∀ (l : List Nat) (p : List Nat), p ∈ splitC c l → p.length ≤ l.length
  | [], p, h => by
    rw [splitC, List.mem_singleton] at h
    rw [h]
    exact Nat.le_refl _
  | x :: r, p, h => by
    rw [splitC] at h
    by_cases z : x = c
    · rw [if_pos z] at h
      rcases List.mem_cons.mp h with h | h
      · rw [h]
        exact Nat.zero_le _
      · exact Nat.le_succ_of_le (splitC_sizes c r p h)
    · rw [if_neg z] at h
      cases e : splitC c r with
      | nil => exact absurd e (splitC_ne c r)
      | cons q qs =>
        rw [e] at h
        rcases List.mem_cons.mp h with h | h
        · rw [h, List.length_cons, List.length_cons]
          exact Nat.succ_le_succ (splitC_sizes c r q (by rw [e]; simp))
        · exact Nat.le_succ_of_le (splitC_sizes c r p (by rw [e]; exact List.mem_cons_of_mem _ h))
theorem splitC_many (c : Nat) : ∀ (l : List Nat), (splitC c l).length ≤ l.length + 1
  | [] => by simp [splitC]
  | x :: r => by
    have ih := splitC_many c r
    rw [splitC]
    by_cases z : x = c
    · rw [if_pos z, List.length_cons, List.length_cons]
      omega
    · rw [if_neg z]
      cases e : splitC c r with
      | nil => simp
      | cons q qs =>
        rw [e] at ih
        show (qs.length + 1) ≤ r.length + 1 + 1
        rw [List.length_cons] at ih
        omega
theorem len_str (x : String) : (Str.ofString x).length = (TL.tl (Str.ofString x)).length := by
  rw [← len_mkS, mkS_tl]
theorem at_last {α : Type} {xs : List α} {v : α} (h : xs.getLast? = some v) : atI xs (-1) = some v := by
  obtain ⟨ys, rfl⟩ := List.getLast?_eq_some_iff.mp h
  exact atI_last ys v
/-! ### rows of texts, as data -/
abbrev dTxts (ls : List (List Nat)) : PyData := .tuple (ls.map fun l => PyData.str (mkS l))
theorem dpTxtsAll {K : PySem.W.Frag} {H : Hp} : ∀ (ls : List (List Nat)), DpAll K H (ls.map T) (ls.map fun l => PyData.str (mkS l))
  | [] => .nil
  | a :: r => .cons (.str _) (dpTxtsAll r)
theorem dpTxts {K : PySem.W.Frag} {H : Hp} {p : Addr} {ls : List (List Nat)} (h : SqT K H p (ls.map T)) : Dp K H (.ref p) (dTxts ls) := .tup h (dpTxtsAll ls)
theorem tupsAll_txts : ∀ (ls : List (List Nat)), tupsAll (ls.map fun l => PyData.str (mkS l)) = true
  | [] => rfl
  | a :: r => by rw [List.map_cons, tupsAll, tupsAll_txts r]; rfl
theorem depthAll_txts : ∀ (ls : List (List Nat)), PyData.depthAll (ls.map fun l => PyData.str (mkS l)) = 0
  | [] => rfl
  | a :: r => by rw [List.map_cons, PyData.depthAll, depthAll_txts r]; rfl
theorem dTxts_ok (ls : List (List Nat)) (h : ls.length ≤ 100000) : tupsOnly (dTxts ls) = true ∧ PyData.depth (dTxts ls) ≤ 1 := ⟨by
  rw [tupsOnly, tupsAll_txts, decide_eq_true (by rw [List.length_map]; exact h)]
  rfl, by
  show PyData.depthAll (ls.map fun l => PyData.str (mkS l)) + 1 ≤ 1
  rw [depthAll_txts]
  exact Nat.le_refl 1⟩
theorem eqV_txt (a b : List Nat) : eqV (T a) (T b) = decide (a = b) := by
  show (decide (mkS a = mkS b) : Bool) = _ 
  by_cases z : a = b
  · rw [z]; simp
  · rw [decide_eq_false z]
    exact decide_eq_false fun k => z (mkS_inj k)
theorem inV_txt (p : List Nat) : ∀ ls : List (List Nat), inV (T p) (ls.map T) = decide (p ∈ ls)
  | [] => by simp [inV]
  | l :: r => by
    have ih := inV_txt p r
    unfold inV at ih ⊢
    rw [List.map_cons, List.any_cons, ih, eqV_txt]
    by_cases z : l = p
    · subst z; simp
    · rw [decide_eq_false z, Bool.false_or]
      by_cases y : p ∈ r
      · rw [decide_eq_true y, decide_eq_true (List.mem_cons_of_mem _ y)]
      · rw [decide_eq_false y]
        exact (decide_eq_false fun k => by
          rcases List.mem_cons.mp k with k | k
          · exact z k.symm
          · exact y k).symm
theorem flat_txts : ∀ ls : List (List Nat), (ls.map T).all flatV = true
  | [] => rfl
  | l :: r => by rw [List.map_cons, List.all_cons, flat_txts r]; rfl
end Fc

namespace Fc
open PySem PySem.Spec L2 PyProof.Rows
variable [LamNames]
/-! ### rules for within a comprehension, where the frag is given by name -/
section
variable {X : Cx} {K : PySem.W.Frag}
theorem ix_listq (hK : X.K = K) : IxR X (rIxL K) := by subst hK; exact ix_list
theorem ix_tupq (hK : X.K = K) : IxR X (rIxT K) := by subst hK; exact ix_tup
theorem sl_listq (hK : X.K = K) : SlR X (rSlL K) := by subst hK; exact sl_list
theorem sl_tupUq (hK : X.K = K) : SlR X (rSlU K) := by subst hK; exact sl_tupU
theorem op_catUq (hK : X.K = K) : OpR X (binaryOp .Add) (rCatU K) := by subst hK; exact op_catU
theorem op_in_seqq (hK : X.K = K) : OpR X (compareOp .In) (rIn K false) := by subst hK; exact op_in_seq
theorem op_notIn_seqq (hK : X.K = K) : OpR X (compareOp .NotIn) (rIn K true) := by subst hK; exact op_notIn_seq
theorem op_eqDq (hK : X.K = K) (hu : X.A.units + 64 < cLine) : OpR X (compareOp .Eq) (rEqD K) := by subst hK; exact op_eqD hu
theorem op_neDq (hK : X.K = K) (hu : X.A.units + 64 < cLine) : OpR X (compareOp .NotEq) (rNeD K) := by subst hK; exact op_neD hu
theorem call_len_seqq (hK : X.K = K) : CallR X (.builtin "len") (fun xs H Q => ∃ p ys, xs = [.ref p] ∧ (SqL K H p ys ∨ SqT K H p ys) ∧ Q (.int ys.length) H) := by subst hK; exact call_len_seq
theorem call_tupleUq (hK : X.K = K) : CallR X (.type "tuple") (fun xs H Q => ∃ p ys, xs = [.ref p] ∧ SqL K H p ys ∧ Tups K H ys Q) := by subst hK; exact call_tupleU
theorem call_isiq (hK : X.K = K) : CallR X (.builtin "isinstance") (rIsi K) := by subst hK; exact call_isi
theorem pe_tupUq (hK : X.K = K) {es : List Expr} {x1 : Nat} {pos : Pos} {t : TA} (h : PA X es t) : PE X (.Tuple es x1 pos) (tTupU K t) := by subst hK; exact pe_tupU h
theorem pe_notTq (hK : X.K = K) {a : Expr} {ta : TE} {pos : Pos} (ha : PE X a ta) : PE X (.UnaryOp .Not a pos) (tNotT K ta) := by subst hK; exact pe_notT ha
def tTru (K : PySem.W.Frag) (ta : TE) : TT := fun σ H Q => ta σ H fun x H' => ∃ k, TruV K x H' k ∧ Q k H'
theorem pt_truthq (hK : X.K = K) {a : Expr} {ta : TE} (ha : PE X a ta) (he : ∀ whole, isTrue a X.env whole = (do let v ← whole; standAt a.pos; holding [v] (truthy v))) :
    PT X a (tTru K ta) := by subst hK; exact pt_truth ha he
theorem pi_listq (hK : X.K = K) {l tg : Expr} {tl : TE} (hl : PE X l tl) : PI X tg l (iList K tl) := by subst hK; exact pi_list hl
theorem pi_tupq (hK : X.K = K) {l tg : Expr} {tl : TE} (hl : PE X l tl) : PI X tg l (iTup K tl) := by subst hK; exact pi_tup hl
theorem pe_joinq (hK : X.K = K) {o e : Expr} {to te : TE} {apos pos : Pos} (ho : PE X o to) (he : PE X e te) (hs : starEach [e] X.env = [(false, eval e X.env)] := by rfl) (hbase : attributeBase o "join" X.env (eval o X.env) = eval o X.env := by rfl) (hline : (apos.endLine == pos.line) = true := by rfl) :
    PE X (.Call (.Attribute o "join" apos) [e] [] pos) (tM1 (fun x xs H Q => ∃ a p, ∃ ys : List Str, x = .str a ∧ xs = [.ref p] ∧ (SqL K H p (ys.map V.str) ∨ SqT K H p (ys.map V.str)) ∧
      (ys.map (·.length)).sum + ys.length * a.length ≤ 16777216 ∧ Q (.str (Txt.join a ys)) H) to te) := by subst hK; exact pe_join ho he hs hbase hline
end
end Fc

namespace Fc
open PySem PySem.Spec L2 PyProof.Rows
variable [LamNames]
/-! ### two rows, one by one -/
inductive Al2 {α β : Type} (R : α → β → Prop) : List α → List β → Prop
  | nil : Al2 R [] []
  | cons {x : α} {y : β} {xs : List α} {ys : List β} (h : R x y) (hs : Al2 R xs ys) : Al2 R (x :: xs) (y :: ys)
theorem Al2.mono {α β : Type} {R S : α → β → Prop} (f : ∀ x y, R x y → S x y) : ∀ {xs : List α} {ys : List β}, Al2 R xs ys → Al2 S xs ys
  | _, _, .nil => .nil
  | _, _, .cons h hs => .cons (f _ _ h) (hs.mono f)
theorem Al2.length {α β : Type} {R : α → β → Prop} : ∀ {xs : List α} {ys : List β}, Al2 R xs ys → ys.length = xs.length
  | _, _, .nil => rfl
  | _, _, .cons _ hs => congrArg (· + 1) hs.length
theorem Al2.snoc {α β : Type} {R : α → β → Prop} {x : α} {y : β} (h : R x y) : ∀ {xs : List α} {ys : List β}, Al2 R xs ys → Al2 R (xs ++ [x]) (ys ++ [y])
  | _, _, .nil => .cons h .nil
  | _, _, .cons k hs => .cons k (hs.snoc h)
theorem Al2.eq_map {α β : Type} {f : α → β} : ∀ {xs : List α} {ys : List β}, Al2 (fun x y => y = f x) xs ys → ys = xs.map f
  | _, _, .nil => rfl
  | _, _, .cons h hs => by rw [List.map_cons, h, hs.eq_map]
theorem Al2.get {α β : Type} {R : α → β → Prop} : ∀ {xs : List α} {ys : List β} {i : Nat} {y : β}, Al2 R xs ys → ys[i]? = some y → ∃ x, xs[i]? = some x ∧ R x y
  | _, _, _, _, .nil, h => by cases h
  | _, _, 0, _, .cons h hs, e => by cases e; exact ⟨_, rfl, h⟩
  | _, _, i + 1, _, .cons h hs, e => hs.get (i := i) e
theorem Al2.mem {α β : Type} {R : α → β → Prop} : ∀ {xs : List α} {ys : List β} {y : β}, Al2 R xs ys → y ∈ ys → ∃ x ∈ xs, R x y
  | _, _, _, .nil, h => by cases h
  | _, _, _, .cons h hs, e => by
    rcases List.mem_cons.mp e with rfl | e
    · exact ⟨_, List.mem_cons_self .., h⟩
    · obtain ⟨x, hx, r⟩ := hs.mem e
      exact ⟨x, List.mem_cons_of_mem _ hx, r⟩
theorem take_filter {α : Type} {xs : List α} {i : Nat} {x : α} (keep : α → Bool) (h : xs[i]? = some x) : (xs.take (i + 1)).filter keep = (xs.take i).filter keep ++ (if keep x = true then [x] else []) := by
  rw [List.take_add_one, h, Option.toList_some, List.filter_append]
  congr 1
  by_cases k : keep x = true
  · rw [if_pos k, List.filter_cons_of_pos k]; rfl
  · rw [if_neg k, List.filter_cons_of_neg k]; rfl
/-! ### [e for x in xs if test]: which are kept, and what holds of the items -/
section
variable {xs : List V} {keep : V → Bool} {G : V → V → Hp → Prop} {tt : TT} {te : TE} {vs : List Nat} {σ : L2.St} {H1 : Hp} {D : Addr} {j : Nat} {Qd : Hp → Prop}
def LcP (xs : List V) (keep : V → Bool) (G : V → V → Hp → Prop) (H1 : Hp) (D : Addr) (i : Nat) (H : Hp) : Prop := Same H1 H ∧ ∃ ys, H D = some (.lst ys) ∧ Al2 (fun x y => G x y H) ((xs.take i).filter keep) ys
theorem lcp_step (nD : H1 D = none) (hz : xs.length ≤ sizeLine) (gk : ∀ x y H H', Same H H' → G x y H → G x y H') (gu : ∀ x y H ys zs, H D = some (.lst ys) → G x y H → G x y (upd H D (.lst zs)))
    (test : ∀ (i : Nat) (x : V) (H : Hp) (R : Bool → Hp → Prop), xs[i]? = some x → Same H1 H → (∀ H', Same H H' → R (keep x) H') → tt ((wipe σ vs).set j (some x)) H R)
    (item : ∀ (i : Nat) (x : V) (H : Hp) (R : V → Hp → Prop), xs[i]? = some x → keep x = true → Same H1 H → (∀ y H', Same H H' → G x y H' → R y H') → te ((wipe σ vs).set j (some x)) H R)
    {i : Nat} {x : V} {H : Hp} (hx : xs[i]? = some x) (p : LcP xs keep G H1 D i H) : tt ((wipe σ vs).set j (some x)) H fun b H3 =>
      if b = true then te ((wipe σ vs).set j (some x)) H3 fun y H4 => ∃ acc, H4 D = some (.lst acc) ∧ acc.length < sizeLine ∧ LcP xs keep G H1 D (i + 1) (upd H4 D (.lst (acc ++ [y]))) else LcP xs keep G H1 D (i + 1) H3 := by
  have hi : i < xs.length := (List.getElem?_eq_some_iff.mp hx).1
  obtain ⟨sm, ys, hD, al⟩ := p
  refine test i x H _ hx sm fun H3 s3 => ?_
  by_cases k : keep x = true
  · rw [if_pos k]
    refine item i x H3 _ hx k (sm.trans s3) fun y H4 s4 gy => ⟨ys, s4 _ _ (s3 _ _ hD), ?_, ?_, ys ++ [y], upd_same, ?_⟩
    · have := al.length
      have l2 := List.length_filter_le keep (xs.take i)
      rw [List.length_take] at l2
      omega
    · exact (sm.trans (s3.trans s4)).over nD (.lst (s4 _ _ (s3 _ _ hD)))
    · rw [take_filter keep hx, if_pos k]
      have hD4 := s4 _ _ (s3 _ _ hD)
      have al2 : Al2 (fun u v => G u v (upd H4 D (.lst (ys ++ [y])))) ((xs.take i).filter keep) ys := al.mono fun u v g => gu _ _ _ _ _ hD4 (gk _ _ _ _ (s3.trans s4) g)
      exact Al2.snoc (R := fun u v => G u v (upd H4 D (.lst (ys ++ [y])))) (gu _ _ _ _ _ hD4 gy) al2
  · rw [if_neg k]
    refine ⟨sm.trans s3, ys, s3 _ _ hD, ?_⟩
    rw [take_filter keep hx, if_neg k, List.append_nil]
    exact al.mono fun u v g => gk _ _ _ _ s3 g
theorem lcG_list {K : PySem.W.Frag} {a : Addr} (nD : H1 D = none) (hs : SqL K H1 a xs) (hz : xs.length ≤ sizeLine) (hw : ∀ x, wipe ((wipe σ vs).set j (some x)) vs = wipe σ vs)
    (gk : ∀ x y H H', Same H H' → G x y H → G x y H') (gu : ∀ x y H ys zs, H D = some (.lst ys) → G x y H → G x y (upd H D (.lst zs)))
    (test : ∀ (i : Nat) (x : V) (H : Hp) (R : Bool → Hp → Prop), xs[i]? = some x → Same H1 H → (∀ H', Same H H' → R (keep x) H') → tt ((wipe σ vs).set j (some x)) H R)
    (item : ∀ (i : Nat) (x : V) (H : Hp) (R : V → Hp → Prop), xs[i]? = some x → keep x = true → Same H1 H → (∀ y H', Same H H' → G x y H' → R y H') → te ((wipe σ vs).set j (some x)) H R)
    (hd : ∀ ys H', Al2 (fun x y => G x y H') (xs.filter keep) ys → Same H1 H' → H' D = some (.lst ys) → Qd H') :
    ∃ W : Nat → Nat → Hp → Prop, (∃ m, W 0 m (upd H1 D (.lst []))) ∧ ∀ i m H, W i m H →
      ((Itl K a).stop i H ∧ Qd H) ∨ ((Itl K a).go i H ∧ ∃ Nx : Hp → Prop, (∀ H', Nx H' → ∃ m', m' < m ∧ W (i + 1) m' H') ∧ ∀ x H', (Itl K a).yld i H x H' → gName j x (wipe σ vs) H' fun σ2 H2 => wipe σ2 vs = wipe σ vs ∧ tt σ2 H2 fun b H3 =>
        if b = true then te σ2 H3 fun y H4 => ∃ acc, H4 D = some (.lst acc) ∧ acc.length < sizeLine ∧ Nx (upd H4 D (.lst (acc ++ [y]))) else Nx H3) := by
  refine lc_list (xs := xs) (LcP xs keep G H1 D) ⟨grow nD, [], upd_same, .nil⟩ (fun i H _ p => p.1.seq hs) (fun i x H hx p => ⟨hw x, lcp_step nD hz gk gu test item hx p⟩) (fun H p => ?_)
  obtain ⟨sm, ys, hD, al⟩ := p
  rw [List.take_length] at al
  exact hd ys H al sm hD
theorem lcG_tup {K : PySem.W.Frag} {a : Addr} (nD : H1 D = none) (hs : SqT K H1 a xs) (hz : xs.length ≤ sizeLine) (hw : ∀ x, wipe ((wipe σ vs).set j (some x)) vs = wipe σ vs)
    (gk : ∀ x y H H', Same H H' → G x y H → G x y H') (gu : ∀ x y H ys zs, H D = some (.lst ys) → G x y H → G x y (upd H D (.lst zs)))
    (test : ∀ (i : Nat) (x : V) (H : Hp) (R : Bool → Hp → Prop), xs[i]? = some x → Same H1 H → (∀ H', Same H H' → R (keep x) H') → tt ((wipe σ vs).set j (some x)) H R)
    (item : ∀ (i : Nat) (x : V) (H : Hp) (R : V → Hp → Prop), xs[i]? = some x → keep x = true → Same H1 H → (∀ y H', Same H H' → G x y H' → R y H') → te ((wipe σ vs).set j (some x)) H R)
    (hd : ∀ ys H', Al2 (fun x y => G x y H') (xs.filter keep) ys → Same H1 H' → H' D = some (.lst ys) → Qd H') :
    ∃ W : Nat → Nat → Hp → Prop, (∃ m, W 0 m (upd H1 D (.lst []))) ∧ ∀ i m H, W i m H →
      ((Itt K a).stop i H ∧ Qd H) ∨ ((Itt K a).go i H ∧ ∃ Nx : Hp → Prop, (∀ H', Nx H' → ∃ m', m' < m ∧ W (i + 1) m' H') ∧ ∀ x H', (Itt K a).yld i H x H' → gName j x (wipe σ vs) H' fun σ2 H2 => wipe σ2 vs = wipe σ vs ∧ tt σ2 H2 fun b H3 =>
        if b = true then te σ2 H3 fun y H4 => ∃ acc, H4 D = some (.lst acc) ∧ acc.length < sizeLine ∧ Nx (upd H4 D (.lst (acc ++ [y]))) else Nx H3) := by
  refine ⟨fun i m H => m = xs.length - i ∧ i ≤ xs.length ∧ LcP xs keep G H1 D i H, ⟨xs.length, rfl, Nat.zero_le _, grow nD, [], upd_same, .nil⟩, ?_⟩
  rintro i m H ⟨rfl, hi, p⟩
  have q := keepT p.1 hs
  by_cases lt : i < xs.length
  · refine .inr ⟨⟨xs, xs[i], q, List.getElem?_eq_getElem lt⟩, LcP xs keep G H1 D (i + 1), fun H' p' => ⟨xs.length - (i + 1), by omega, rfl, lt, p'⟩, fun x H' y => ?_⟩
    obtain ⟨e, y⟩ := y
    subst e
    exact ⟨hw x, lcp_step nD hz gk gu test item (y xs q) p⟩
  · have e : i = xs.length := by omega
    subst e
    obtain ⟨sm, ys, hD, al⟩ := p
    rw [List.take_length] at al
    exact .inl ⟨⟨xs, q, Nat.le_refl _⟩, hd ys H al sm hD⟩
theorem lcG_rng {lo : Int} {n : Nat} (nD : H1 D = none) (hz : n ≤ sizeLine) (ex : xs = (List.range n).map fun i => V.int (lo + (i : Nat))) (hw : ∀ x, wipe ((wipe σ vs).set j (some x)) vs = wipe σ vs)
    (gk : ∀ x y H H', Same H H' → G x y H → G x y H') (gu : ∀ x y H ys zs, H D = some (.lst ys) → G x y H → G x y (upd H D (.lst zs)))
    (test : ∀ (i : Nat) (x : V) (H : Hp) (R : Bool → Hp → Prop), xs[i]? = some x → Same H1 H → (∀ H', Same H H' → R (keep x) H') → tt ((wipe σ vs).set j (some x)) H R)
    (item : ∀ (i : Nat) (x : V) (H : Hp) (R : V → Hp → Prop), xs[i]? = some x → keep x = true → Same H1 H → (∀ y H', Same H H' → G x y H' → R y H') → te ((wipe σ vs).set j (some x)) H R)
    (hd : ∀ ys H', Al2 (fun x y => G x y H') (xs.filter keep) ys → Same H1 H' → H' D = some (.lst ys) → Qd H') :
    ∃ W : Nat → Nat → Hp → Prop, (∃ m, W 0 m (upd H1 D (.lst []))) ∧ ∀ i m H, W i m H →
      ((Itr lo n).stop i H ∧ Qd H) ∨ ((Itr lo n).go i H ∧ ∃ Nx : Hp → Prop, (∀ H', Nx H' → ∃ m', m' < m ∧ W (i + 1) m' H') ∧ ∀ x H', (Itr lo n).yld i H x H' → gName j x (wipe σ vs) H' fun σ2 H2 => wipe σ2 vs = wipe σ vs ∧ tt σ2 H2 fun b H3 =>
        if b = true then te σ2 H3 fun y H4 => ∃ acc, H4 D = some (.lst acc) ∧ acc.length < sizeLine ∧ Nx (upd H4 D (.lst (acc ++ [y]))) else Nx H3) := by
  have lx : xs.length = n := by rw [ex, List.length_map, List.length_range]
  refine lc_range (LcP xs keep G H1 D) ⟨grow nD, [], upd_same, .nil⟩ (fun i H hi p => ⟨hw _, lcp_step nD (by omega) gk gu test item (i := i) ?_ p⟩) (fun H p => ?_)
  · rw [ex, List.getElem?_map, List.getElem?_range hi]
    rfl
  · obtain ⟨sm, ys, hD, al⟩ := p
    rw [← lx, List.take_length] at al
    exact hd ys H al sm hD
/-! ### the same, its items told by a row -/
theorem lcF_list {K : PySem.W.Frag} {a : Addr} (f : V → V) (nD : H1 D = none) (hs : SqL K H1 a xs) (hz : xs.length ≤ sizeLine) (hw : ∀ x, wipe ((wipe σ vs).set j (some x)) vs = wipe σ vs)
    (test : ∀ (i : Nat) (x : V) (H : Hp) (R : Bool → Hp → Prop), xs[i]? = some x → Same H1 H → (∀ H', Same H H' → R (keep x) H') → tt ((wipe σ vs).set j (some x)) H R)
    (item : ∀ (i : Nat) (x : V) (H : Hp) (R : V → Hp → Prop), xs[i]? = some x → keep x = true → Same H1 H → (∀ H', Same H H' → R (f x) H') → te ((wipe σ vs).set j (some x)) H R)
    (hd : ∀ H', Same H1 H' → H' D = some (.lst ((xs.filter keep).map f)) → Qd H') :
    ∃ W : Nat → Nat → Hp → Prop, (∃ m, W 0 m (upd H1 D (.lst []))) ∧ ∀ i m H, W i m H →
      ((Itl K a).stop i H ∧ Qd H) ∨ ((Itl K a).go i H ∧ ∃ Nx : Hp → Prop, (∀ H', Nx H' → ∃ m', m' < m ∧ W (i + 1) m' H') ∧ ∀ x H', (Itl K a).yld i H x H' → gName j x (wipe σ vs) H' fun σ2 H2 => wipe σ2 vs = wipe σ vs ∧ tt σ2 H2 fun b H3 =>
        if b = true then te σ2 H3 fun y H4 => ∃ acc, H4 D = some (.lst acc) ∧ acc.length < sizeLine ∧ Nx (upd H4 D (.lst (acc ++ [y]))) else Nx H3) :=
  lcG_list (G := fun x y _ => y = f x) nD hs hz hw (fun _ _ _ _ _ h => h) (fun _ _ _ _ _ _ h => h) test (fun i x H R hx k sm r => item i x H R hx k sm fun H' s => r _ _ s rfl) fun ys H' al sm h => hd H' sm (by rw [← al.eq_map]; exact h)
theorem lcF_tup {K : PySem.W.Frag} {a : Addr} (f : V → V) (nD : H1 D = none) (hs : SqT K H1 a xs) (hz : xs.length ≤ sizeLine) (hw : ∀ x, wipe ((wipe σ vs).set j (some x)) vs = wipe σ vs)
    (test : ∀ (i : Nat) (x : V) (H : Hp) (R : Bool → Hp → Prop), xs[i]? = some x → Same H1 H → (∀ H', Same H H' → R (keep x) H') → tt ((wipe σ vs).set j (some x)) H R)
    (item : ∀ (i : Nat) (x : V) (H : Hp) (R : V → Hp → Prop), xs[i]? = some x → keep x = true → Same H1 H → (∀ H', Same H H' → R (f x) H') → te ((wipe σ vs).set j (some x)) H R)
    (hd : ∀ H', Same H1 H' → H' D = some (.lst ((xs.filter keep).map f)) → Qd H') :
    ∃ W : Nat → Nat → Hp → Prop, (∃ m, W 0 m (upd H1 D (.lst []))) ∧ ∀ i m H, W i m H →
      ((Itt K a).stop i H ∧ Qd H) ∨ ((Itt K a).go i H ∧ ∃ Nx : Hp → Prop, (∀ H', Nx H' → ∃ m', m' < m ∧ W (i + 1) m' H') ∧ ∀ x H', (Itt K a).yld i H x H' → gName j x (wipe σ vs) H' fun σ2 H2 => wipe σ2 vs = wipe σ vs ∧ tt σ2 H2 fun b H3 =>
        if b = true then te σ2 H3 fun y H4 => ∃ acc, H4 D = some (.lst acc) ∧ acc.length < sizeLine ∧ Nx (upd H4 D (.lst (acc ++ [y]))) else Nx H3) :=
  lcG_tup (G := fun x y _ => y = f x) nD hs hz hw (fun _ _ _ _ _ h => h) (fun _ _ _ _ _ _ h => h) test (fun i x H R hx k sm r => item i x H R hx k sm fun H' s => r _ _ s rfl) fun ys H' al sm h => hd H' sm (by rw [← al.eq_map]; exact h)
end
/-! ### the same over a row that is known by another one -/
section
variable {α : Type} {es : List α} {xs : List V} {keep : α → Bool} {G : α → V → Hp → Prop} {tt : TT} {te : TE} {vs : List Nat} {σ : L2.St} {H1 : Hp} {D : Addr} {j : Nat} {Qd : Hp → Prop}
def LcE (es : List α) (keep : α → Bool) (G : α → V → Hp → Prop) (H1 : Hp) (D : Addr) (i : Nat) (H : Hp) : Prop := Same H1 H ∧ ∃ ys, H D = some (.lst ys) ∧ Al2 (fun e y => G e y H) ((es.take i).filter keep) ys
theorem lce_step (lx : es.length = xs.length) (nD : H1 D = none) (hz : xs.length ≤ sizeLine) (gk : ∀ e y H H', Same H H' → G e y H → G e y H') (gu : ∀ e y H ys zs, e ∈ es → H D = some (.lst ys) → G e y H → G e y (upd H D (.lst zs)))
    (test : ∀ (i : Nat) (e : α) (x : V) (H : Hp) (R : Bool → Hp → Prop), es[i]? = some e → xs[i]? = some x → Same H1 H → (∀ H', Same H H' → R (keep e) H') → tt ((wipe σ vs).set j (some x)) H R)
    (item : ∀ (i : Nat) (e : α) (x : V) (H : Hp) (R : V → Hp → Prop), es[i]? = some e → xs[i]? = some x → keep e = true → Same H1 H → (∀ y H', Same H H' → G e y H' → R y H') → te ((wipe σ vs).set j (some x)) H R)
    {i : Nat} {x : V} {H : Hp} (hx : xs[i]? = some x) (p : LcE es keep G H1 D i H) : tt ((wipe σ vs).set j (some x)) H fun b H3 =>
      if b = true then te ((wipe σ vs).set j (some x)) H3 fun y H4 => ∃ acc, H4 D = some (.lst acc) ∧ acc.length < sizeLine ∧ LcE es keep G H1 D (i + 1) (upd H4 D (.lst (acc ++ [y]))) else LcE es keep G H1 D (i + 1) H3 := by
  have hi : i < xs.length := (List.getElem?_eq_some_iff.mp hx).1
  obtain ⟨e, he⟩ : ∃ e, es[i]? = some e := ⟨_, List.getElem?_eq_getElem (by omega)⟩
  obtain ⟨sm, ys, hD, al⟩ := p
  refine test i e x H _ he hx sm fun H3 s3 => ?_
  by_cases k : keep e = true
  · rw [if_pos k]
    refine item i e x H3 _ he hx k (sm.trans s3) fun y H4 s4 gy => ⟨ys, s4 _ _ (s3 _ _ hD), ?_, ?_, ys ++ [y], upd_same, ?_⟩
    · have := al.length
      have l2 := List.length_filter_le keep (es.take i)
      rw [List.length_take] at l2
      omega
    · exact (sm.trans (s3.trans s4)).over nD (.lst (s4 _ _ (s3 _ _ hD)))
    · rw [take_filter keep he, if_pos k]
      have hD4 := s4 _ _ (s3 _ _ hD)
      have mem : ∀ u ∈ (es.take i).filter keep, u ∈ es := fun u hu => (List.take_sublist _ _).mem (List.mem_filter.mp hu).1
      have al2 : Al2 (fun u v => G u v (upd H4 D (.lst (ys ++ [y])))) ((es.take i).filter keep) ys := by
        clear hi he
        revert mem
        generalize (es.take i).filter keep = us at al
        intro mem
        have go : ∀ {us : List α} {ys' : List V}, Al2 (fun e y => G e y H) us ys' → (∀ u ∈ us, u ∈ es) → Al2 (fun u v => G u v (upd H4 D (.lst (ys ++ [y])))) us ys' := by
          intro us ys' al
          induction al with
          | nil => exact fun _ => .nil
          | cons h _ ih => exact fun mem => .cons (gu _ _ _ _ _ (mem _ (by simp)) hD4 (gk _ _ _ _ (s3.trans s4) h)) (ih fun u hu => mem u (List.mem_cons_of_mem _ hu))
        exact go al mem
      exact Al2.snoc (R := fun u v => G u v (upd H4 D (.lst (ys ++ [y])))) (gu _ _ _ _ _ (List.mem_of_getElem? he) hD4 gy) al2
  · rw [if_neg k]
    refine ⟨sm.trans s3, ys, s3 _ _ hD, ?_⟩
    rw [take_filter keep he, if_neg k, List.append_nil]
    exact al.mono fun u v g => gk _ _ _ _ s3 g
theorem lcE_list {K : PySem.W.Frag} {a : Addr} (lx : es.length = xs.length) (nD : H1 D = none) (hs : SqL K H1 a xs) (hz : xs.length ≤ sizeLine) (hw : ∀ x, wipe ((wipe σ vs).set j (some x)) vs = wipe σ vs)
    (gk : ∀ e y H H', Same H H' → G e y H → G e y H') (gu : ∀ e y H ys zs, e ∈ es → H D = some (.lst ys) → G e y H → G e y (upd H D (.lst zs)))
    (test : ∀ (i : Nat) (e : α) (x : V) (H : Hp) (R : Bool → Hp → Prop), es[i]? = some e → xs[i]? = some x → Same H1 H → (∀ H', Same H H' → R (keep e) H') → tt ((wipe σ vs).set j (some x)) H R)
    (item : ∀ (i : Nat) (e : α) (x : V) (H : Hp) (R : V → Hp → Prop), es[i]? = some e → xs[i]? = some x → keep e = true → Same H1 H → (∀ y H', Same H H' → G e y H' → R y H') → te ((wipe σ vs).set j (some x)) H R)
    (hd : ∀ ys H', Al2 (fun e y => G e y H') (es.filter keep) ys → Same H1 H' → H' D = some (.lst ys) → Qd H') :
    ∃ W : Nat → Nat → Hp → Prop, (∃ m, W 0 m (upd H1 D (.lst []))) ∧ ∀ i m H, W i m H →
      ((Itl K a).stop i H ∧ Qd H) ∨ ((Itl K a).go i H ∧ ∃ Nx : Hp → Prop, (∀ H', Nx H' → ∃ m', m' < m ∧ W (i + 1) m' H') ∧ ∀ x H', (Itl K a).yld i H x H' → gName j x (wipe σ vs) H' fun σ2 H2 => wipe σ2 vs = wipe σ vs ∧ tt σ2 H2 fun b H3 =>
        if b = true then te σ2 H3 fun y H4 => ∃ acc, H4 D = some (.lst acc) ∧ acc.length < sizeLine ∧ Nx (upd H4 D (.lst (acc ++ [y]))) else Nx H3) := by
  refine lc_list (xs := xs) (LcE es keep G H1 D) ⟨grow nD, [], upd_same, .nil⟩ (fun i H _ p => p.1.seq hs) (fun i x H hx p => ⟨hw x, lce_step lx nD hz gk gu test item hx p⟩) (fun H p => ?_)
  obtain ⟨sm, ys, hD, al⟩ := p
  rw [← lx, List.take_length] at al
  exact hd ys H al sm hD
theorem lcE_tup {K : PySem.W.Frag} {a : Addr} (lx : es.length = xs.length) (nD : H1 D = none) (hs : SqT K H1 a xs) (hz : xs.length ≤ sizeLine) (hw : ∀ x, wipe ((wipe σ vs).set j (some x)) vs = wipe σ vs)
    (gk : ∀ e y H H', Same H H' → G e y H → G e y H') (gu : ∀ e y H ys zs, e ∈ es → H D = some (.lst ys) → G e y H → G e y (upd H D (.lst zs)))
    (test : ∀ (i : Nat) (e : α) (x : V) (H : Hp) (R : Bool → Hp → Prop), es[i]? = some e → xs[i]? = some x → Same H1 H → (∀ H', Same H H' → R (keep e) H') → tt ((wipe σ vs).set j (some x)) H R)
    (item : ∀ (i : Nat) (e : α) (x : V) (H : Hp) (R : V → Hp → Prop), es[i]? = some e → xs[i]? = some x → keep e = true → Same H1 H → (∀ y H', Same H H' → G e y H' → R y H') → te ((wipe σ vs).set j (some x)) H R)
    (hd : ∀ ys H', Al2 (fun e y => G e y H') (es.filter keep) ys → Same H1 H' → H' D = some (.lst ys) → Qd H') :
    ∃ W : Nat → Nat → Hp → Prop, (∃ m, W 0 m (upd H1 D (.lst []))) ∧ ∀ i m H, W i m H →
      ((Itt K a).stop i H ∧ Qd H) ∨ ((Itt K a).go i H ∧ ∃ Nx : Hp → Prop, (∀ H', Nx H' → ∃ m', m' < m ∧ W (i + 1) m' H') ∧ ∀ x H', (Itt K a).yld i H x H' → gName j x (wipe σ vs) H' fun σ2 H2 => wipe σ2 vs = wipe σ vs ∧ tt σ2 H2 fun b H3 =>
        if b = true then te σ2 H3 fun y H4 => ∃ acc, H4 D = some (.lst acc) ∧ acc.length < sizeLine ∧ Nx (upd H4 D (.lst (acc ++ [y]))) else Nx H3) := by
  refine lc_tup (xs := xs) (LcE es keep G H1 D) ⟨grow nD, [], upd_same, .nil⟩ (fun i H _ p => keepT p.1 hs) (fun i x H hx p => ⟨hw x, lce_step lx nD hz gk gu test item hx p⟩) (fun H p => ?_)
  obtain ⟨sm, ys, hD, al⟩ := p
  rw [← lx, List.take_length] at al
  exact hd ys H al sm hD
end
theorem Al2.at {α β : Type} {R : α → β → Prop} : ∀ {xs : List α} {ys : List β} {i : Nat} {x : α} {y : β}, Al2 R xs ys → xs[i]? = some x → ys[i]? = some y → R x y
  | _, _, _, _, _, .nil, h, _ => by cases h
  | _, _, 0, _, _, .cons h hs, e, k => by cases e; cases k; exact h
  | _, _, i + 1, _, _, .cons h hs, e, k => hs.at (i := i) e k
end Fc

namespace Fc
open PySem PySem.Spec L2 PyProof.Rows GxR
variable [LamNames]
/-! ### comprehensions by what is walked, their items by a relation -/
section
variable {J : It} {n : Nat} {G0 : Hp → Prop} {Y : Nat → Hp → V → Hp → Prop} {α : Type} {es : List α} {G : α → V → Hp → Prop} {te : TE} {vs : List Nat} {σ : L2.St} {H1 : Hp} {D : Addr} {Qd : Hp → Prop}
/-- what stands behind i turns -/
def LcW (es : List α) (G : α → V → Hp → Prop) (H1 : Hp) (D : Addr) (i : Nat) (H : Hp) : Prop := Same H1 H ∧ ∃ ys, H D = some (.lst ys) ∧ Al2 (fun e y => G e y H) (es.take i) ys
theorem lcw_more (nD : H1 D = none) (hz : es.length ≤ sizeLine) (gk : ∀ e y H H', Same H H' → G e y H → G e y H') (gu : ∀ e y H ys zs, H D = some (.lst ys) → G e y H → G e y (upd H D (.lst zs)))
    {i : Nat} {e : α} {H H4 : Hp} {y : V} (he : es[i]? = some e) (p : LcW es G H1 D i H) (s4 : Same H H4) (g : G e y H4) : ∃ acc, H4 D = some (.lst acc) ∧ acc.length < sizeLine ∧ LcW es G H1 D (i + 1) (upd H4 D (.lst (acc ++ [y]))) := by
  obtain ⟨sm, ys, hD, al⟩ := p
  have hi : i < es.length := (List.getElem?_eq_some_iff.mp he).1
  have hD4 := s4 _ _ hD
  refine ⟨ys, hD4, ?_, (sm.trans s4).over nD (.lst hD4), ys ++ [y], upd_same, ?_⟩
  · have := al.length
    rw [List.length_take] at this
    omega
  · rw [List.take_add_one, he]
    exact Al2.snoc (R := fun u v => G u v (upd H4 D (.lst (ys ++ [y])))) (gu _ _ _ _ _ hD4 g) (al.mono fun u v k => gu _ _ _ _ _ hD4 (gk _ _ _ _ s4 k))
theorem lcW (w : Walk J n G0 Y) {g : TG} (hn : es.length = n) (nD : H1 D = none) (hz : n ≤ sizeLine) (hG : ∀ H, Same H1 H → G0 H)
    (gk : ∀ e y H H', Same H H' → G e y H → G e y H') (gu : ∀ e y H ys zs, H D = some (.lst ys) → G e y H → G e y (upd H D (.lst zs)))
    (turn : ∀ (i : Nat) (e : α) (x : V) (H H' : Hp) (R : V → Hp → Prop), i < n → es[i]? = some e → Same H1 H → Y i H x H' → (∀ y H4, Same H H4 → G e y H4 → R y H4) → ∀ Z : Hp → Prop, g x (wipe σ vs) H' fun σ2 H2 => wipe σ2 vs = wipe σ vs ∧ tYes σ2 H2 fun b H3 => if b = true then te σ2 H3 R else Z H3)
    (hd : ∀ ys H', Al2 (fun e y => G e y H') es ys → Same H1 H' → H' D = some (.lst ys) → Qd H') :
    ∃ W : Nat → Nat → Hp → Prop, (∃ m, W 0 m (upd H1 D (.lst []))) ∧ ∀ i m H, W i m H →
      (J.stop i H ∧ Qd H) ∨ (J.go i H ∧ ∃ Nx : Hp → Prop, (∀ H', Nx H' → ∃ m', m' < m ∧ W (i + 1) m' H') ∧ ∀ x H', J.yld i H x H' → g x (wipe σ vs) H' fun σ2 H2 => wipe σ2 vs = wipe σ vs ∧ tYes σ2 H2 fun b H3 =>
        if b = true then te σ2 H3 fun y H4 => ∃ acc, H4 D = some (.lst acc) ∧ acc.length < sizeLine ∧ Nx (upd H4 D (.lst (acc ++ [y]))) else Nx H3) := by
  refine lc_it w (LcW es G H1 D) ⟨grow nD, [], upd_same, .nil⟩ (fun i H _ p => hG H p.1) (fun i x H H' hi p y => ?_) (fun H p => ?_)
  · have he : es[i]? = some es[i] := List.getElem?_eq_getElem (by omega)
    exact turn i _ x H H' _ hi he p.1 y (fun y H4 s4 g => lcw_more nD (by omega) gk gu he p s4 g) _
  · obtain ⟨sm, ys, hD, al⟩ := p
    rw [← hn, List.take_length] at al
    exact hd ys H al sm hD
/-- over numbers or items told: one name -/
theorem lcWn {f : Nat → V} {j : Nat} (w : Walk J n G0 (YFn f)) (hn : es.length = n) (nD : H1 D = none) (hz : n ≤ sizeLine) (hG : ∀ H, Same H1 H → G0 H) (hw : ∀ x, wipe ((wipe σ vs).set j (some x)) vs = wipe σ vs)
    (gk : ∀ e y H H', Same H H' → G e y H → G e y H') (gu : ∀ e y H ys zs, H D = some (.lst ys) → G e y H → G e y (upd H D (.lst zs)))
    (turn : ∀ (i : Nat) (e : α) (H : Hp) (R : V → Hp → Prop), i < n → es[i]? = some e → Same H1 H → (∀ y H4, Same H H4 → G e y H4 → R y H4) → te ((wipe σ vs).set j (some (f i))) H R)
    (hd : ∀ ys H', Al2 (fun e y => G e y H') es ys → Same H1 H' → H' D = some (.lst ys) → Qd H') :
    ∃ W : Nat → Nat → Hp → Prop, (∃ m, W 0 m (upd H1 D (.lst []))) ∧ ∀ i m H, W i m H →
      (J.stop i H ∧ Qd H) ∨ (J.go i H ∧ ∃ Nx : Hp → Prop, (∀ H', Nx H' → ∃ m', m' < m ∧ W (i + 1) m' H') ∧ ∀ x H', J.yld i H x H' → gName j x (wipe σ vs) H' fun σ2 H2 => wipe σ2 vs = wipe σ vs ∧ tYes σ2 H2 fun b H3 =>
        if b = true then te σ2 H3 fun y H4 => ∃ acc, H4 D = some (.lst acc) ∧ acc.length < sizeLine ∧ Nx (upd H4 D (.lst (acc ++ [y]))) else Nx H3) := by
  refine lcW w hn nD hz hG gk gu (fun i e x H H' R hi he sm y r Z => ?_) hd
  obtain ⟨rfl, rfl⟩ := y
  refine ⟨hw _, ?_⟩
  unfold tYes
  dsimp only
  rw [if_pos rfl]
  exact turn i e _ R hi he sm r
theorem lcWi {xs : List V} {j : Nat} (w : Walk J n G0 (YAt xs)) (hn : es.length = n) (nD : H1 D = none) (hz : n ≤ sizeLine) (hG : ∀ H, Same H1 H → G0 H) (hw : ∀ x, wipe ((wipe σ vs).set j (some x)) vs = wipe σ vs)
    (gk : ∀ e y H H', Same H H' → G e y H → G e y H') (gu : ∀ e y H ys zs, H D = some (.lst ys) → G e y H → G e y (upd H D (.lst zs)))
    (turn : ∀ (i : Nat) (e : α) (x : V) (H : Hp) (R : V → Hp → Prop), i < n → es[i]? = some e → xs[i]? = some x → Same H1 H → (∀ y H4, Same H H4 → G e y H4 → R y H4) → te ((wipe σ vs).set j (some x)) H R)
    (hd : ∀ ys H', Al2 (fun e y => G e y H') es ys → Same H1 H' → H' D = some (.lst ys) → Qd H') :
    ∃ W : Nat → Nat → Hp → Prop, (∃ m, W 0 m (upd H1 D (.lst []))) ∧ ∀ i m H, W i m H →
      (J.stop i H ∧ Qd H) ∨ (J.go i H ∧ ∃ Nx : Hp → Prop, (∀ H', Nx H' → ∃ m', m' < m ∧ W (i + 1) m' H') ∧ ∀ x H', J.yld i H x H' → gName j x (wipe σ vs) H' fun σ2 H2 => wipe σ2 vs = wipe σ vs ∧ tYes σ2 H2 fun b H3 =>
        if b = true then te σ2 H3 fun y H4 => ∃ acc, H4 D = some (.lst acc) ∧ acc.length < sizeLine ∧ Nx (upd H4 D (.lst (acc ++ [y]))) else Nx H3) := by
  refine lcW w hn nD hz hG gk gu (fun i e x H H' R hi he sm y r Z => ?_) hd
  obtain ⟨rfl, hx⟩ := y
  refine ⟨hw _, ?_⟩
  unfold tYes
  dsimp only
  rw [if_pos rfl]
  exact turn i e x _ R hi he hx sm r
/-- over pairs: two names -/
theorem lcWp {K : PySem.W.Frag} {f h : Nat → Option V} {j k : Nat} (w : Walk J n G0 (YPair f h)) (hn : es.length = n) (nD : H1 D = none) (hz : n ≤ sizeLine) (hG : ∀ H, Same H1 H → G0 H) (hw : ∀ x y, wipe (((wipe σ vs).set j (some x)).set k (some y)) vs = wipe σ vs)
    (gk : ∀ e y H H', Same H H' → G e y H → G e y H') (gu : ∀ e y H ys zs, H D = some (.lst ys) → G e y H → G e y (upd H D (.lst zs)))
    (turn : ∀ (i : Nat) (e : α) (x y : V) (H : Hp) (R : V → Hp → Prop), i < n → es[i]? = some e → f i = some x → h i = some y → Same H1 H → (∀ y H4, Same H H4 → G e y H4 → R y H4) → te (((wipe σ vs).set j (some x)).set k (some y)) H R)
    (hd : ∀ ys H', Al2 (fun e y => G e y H') es ys → Same H1 H' → H' D = some (.lst ys) → Qd H') :
    ∃ W : Nat → Nat → Hp → Prop, (∃ m, W 0 m (upd H1 D (.lst []))) ∧ ∀ i m H, W i m H →
      (J.stop i H ∧ Qd H) ∨ (J.go i H ∧ ∃ Nx : Hp → Prop, (∀ H', Nx H' → ∃ m', m' < m ∧ W (i + 1) m' H') ∧ ∀ x H', J.yld i H x H' → gTup K 2 (gCons (gName j) (gCons (gName k) gNil)) x (wipe σ vs) H' fun σ2 H2 => wipe σ2 vs = wipe σ vs ∧ tYes σ2 H2 fun b H3 =>
        if b = true then te σ2 H3 fun y H4 => ∃ acc, H4 D = some (.lst acc) ∧ acc.length < sizeLine ∧ Nx (upd H4 D (.lst (acc ++ [y]))) else Nx H3) := by
  refine lcW w hn nD hz hG gk gu (fun i e x H H' R hi he sm y r Z => ?_) hd
  obtain ⟨T, x, y, rfl, nT, rfl, fx, fy⟩ := y
  refine ⟨T, [x, y], rfl, SqT.of upd_same, rfl, x, [y], rfl, y, [], rfl, rfl, hw x y, ?_⟩
  unfold tYes
  dsimp only
  rw [if_pos rfl]
  have sT : Same H (upd H T (.tup [x, y])) := grow nT
  exact turn i e x y _ R hi he fx fy (sm.trans sT) fun z H4 s4 g => r z H4 (sT.trans s4) g
end
/-! ### a tuple of a generator expression over a list, its items by a relation -/
section
variable {j : Nat} {te : TE} {vs : List Nat} {σ : L2.St} {H1 : Hp} {Q : VK}
theorem gwT_rel {K : PySem.W.Frag} {a : Addr} {xs : List V} {α : Type} {es : List α} (G : α → V → Hp → Prop) (hs : SqL K H1 a xs) (hl : es.length = xs.length) (hz : es.length ≤ sizeLine) (hw : ∀ x, wipe ((wipe σ vs).set j (some x)) vs = wipe σ vs) (gk : ∀ e y H H', Same H H' → G e y H → G e y H')
    (item : ∀ (i : Nat) (e : α) (x : V) (H : Hp) (R : VK), es[i]? = some e → xs[i]? = some x → Same H1 H → (∀ y H', Same H H' → G e y H' → R y H') → te ((wipe σ vs).set j (some x)) H R)
    (hd : ∀ ys H', Al2 (fun e y => G e y H') es ys → Same H1 H' → ∀ p, H' p = none → Q (.ref p) (upd H' p (.tup ys))) :
    ∃ W : Nat → Nat → List V → Hp → Prop, (∃ m, W 0 m [] H1) ∧ GWalkT (Itl K a) (gName j) tYes te vs σ (fun ys H' => ys.length ≤ sizeLine ∧ ∀ p, H' p = none → Q (.ref p) (upd H' p (.tup ys))) W := by
  refine ⟨fun i m ys H => m = es.length - i ∧ i ≤ es.length ∧ Same H1 H ∧ Al2 (fun e y => G e y H) (es.take i) ys, ⟨es.length, rfl, Nat.zero_le _, Same.refl _, .nil⟩, ?_⟩
  rintro i m ys H ⟨rfl, hi, sm, al⟩
  have q := sm.seq hs
  have few : ys.length = i := by
    rw [al.length, List.length_take]
    omega
  by_cases lt : i < es.length
  · have lx : i < xs.length := by omega
    have he : es[i]? = some es[i] := List.getElem?_eq_getElem lt
    refine .inr ⟨⟨xs, xs[i], q, List.getElem?_eq_getElem lx⟩, fun ys' H' => Same H1 H' ∧ Al2 (fun e y => G e y H') (es.take (i + 1)) ys', fun ys' H' p => ⟨es.length - (i + 1), by omega, rfl, lt, p.1, p.2⟩, fun x H' y => ?_⟩
    obtain ⟨e, y⟩ := y
    subst e
    refine ⟨hw x, ?_⟩
    unfold tYes
    dsimp only
    rw [if_pos rfl]
    refine item i es[i] x _ _ he (y xs q) sm fun y2 H2 s2 g2 => ⟨by omega, sm.trans s2, ?_⟩
    rw [List.take_add_one, he]
    exact Al2.snoc (R := fun u v => G u v H2) g2 (al.mono fun u v k => gk _ _ _ _ s2 k)
  · have e : i = es.length := by omega
    subst e
    rw [List.take_length] at al
    exact .inl ⟨⟨xs, q, by omega⟩, by omega, hd ys H al sm⟩
end
/-! ### rows of tuples of whole numbers -/
/-- v is a tuple of these -/
def IsB (K : PySem.W.Frag) (b : List Int) (v : V) (H : Hp) : Prop := ∃ p, v = .ref p ∧ SqT K H p (b.map V.int)
theorem IsB.keep {K : PySem.W.Frag} {b : List Int} {v : V} {H H' : Hp} (s : Same H H') (h : IsB K b v H) : IsB K b v H' := by
  obtain ⟨p, e, k⟩ := h
  exact ⟨p, e, keepT s k⟩
theorem IsB.put {K : PySem.W.Frag} {b : List Int} {v : V} {H : Hp} {D : Addr} {ys zs : List V} (e : H D = some (.lst ys)) (h : IsB K b v H) : IsB K b v (upd H D (.lst zs)) := by
  obtain ⟨p, e1, k⟩ := h
  exact ⟨p, e1, keepT_lst k e⟩
abbrev Bs (K : PySem.W.Frag) (H : Hp) (B : List (List Int)) (vs : List V) : Prop := Al2 (fun b v => IsB K b v H) B vs
theorem Bs.keep {K : PySem.W.Frag} {H H' : Hp} {B : List (List Int)} {vs : List V} (s : Same H H') (h : Bs K H B vs) : Bs K H' B vs := h.mono fun _ _ k => k.keep s
theorem Bs.put {K : PySem.W.Frag} {H : Hp} {B : List (List Int)} {vs : List V} {D : Addr} {ys zs : List V} (e : H D = some (.lst ys)) (h : Bs K H B vs) : Bs K (upd H D (.lst zs)) B vs := h.mono fun _ _ k => k.put e
theorem Bs.dp {K : PySem.W.Frag} {H : Hp} : ∀ {B : List (List Int)} {vs : List V}, Bs K H B vs → DpAll K H vs (B.map dInts)
  | _, _, .nil => .nil
  | _, _, .cons h hs => by
    obtain ⟨p, rfl, k⟩ := h
    exact .cons (dpTup k) (Bs.dp hs)
/-- a tuple of such rows, as data -/
abbrev dRows (B : List (List Int)) : PyData := .tuple (B.map dInts)
theorem dRows_ok {B : List (List Int)} (h : B.length ≤ 100000) (hb : ∀ b ∈ B, b.length ≤ 100000) : tupsOnly (dRows B) = true ∧ PyData.depth (dRows B) ≤ 2 := by
  have a : ∀ {B : List (List Int)}, (∀ b ∈ B, b.length ≤ 100000) → tupsAll (B.map dInts) = true ∧ PyData.depthAll (B.map dInts) ≤ 1 := by
    intro B
    induction B with
    | nil => exact fun _ => ⟨rfl, Nat.zero_le _⟩
    | cons b r ih =>
      intro hb
      have i := ih fun c hc => hb c (List.mem_cons_of_mem _ hc)
      have o := dInts_ok b (hb b (by simp))
      rw [List.map_cons, tupsAll, o.1, i.1, PyData.depthAll]
      exact ⟨rfl, Nat.max_le.mpr ⟨o.2, i.2⟩⟩
  have o := a hb
  refine ⟨?_, ?_⟩
  · rw [tupsOnly, o.1, decide_eq_true (by rw [List.length_map]; exact h)]
    rfl
  · show PyData.depthAll (B.map dInts) + 1 ≤ 2
    omega
/-! ### an object that is made -/
structure CalM (P : Program) (w : World) (K : PySem.W.Frag) (mg : Str → Option Value) (base : Heap) (x : Str) (C : Addr) (k : Nat) (ps : List Str) (sp : Sp) : Prop where
  ex : ∃ f fd, Mk K C f ∧ FnOk P w K mg base CX0 k f fd ps sp ∧ mg x = some (.ref C) ∧ Binds K fd ps []
theorem pe_mk {X : Cx} {x : Str} {C : Addr} {k : Nat} {ps : List Str} {sp : Sp} {p pos : Pos} {e : Expr} {es : List Expr} {t : TA} (M : CalM X.prog X.w X.K X.mg X.base x C k ps sp) (hr : Room (k + 1) X.A) (ha : PA X (e :: es) t) (hg : Gl X x := by rfl) (hdb : (x == ("__debug__" : Str)) = false := by decide)
    (he : starEach (e :: es) X.env = (false, eval e X.env) :: starEach es X.env := by rfl) (hpl : (backTo pos (starEach es X.env)).any (·.1) = false := by rfl) : PE X (.Call (.Name x p) (e :: es) [] pos) (tMake C sp [] E0 t) := by
  obtain ⟨f, fd, mk, F, m, b⟩ := M.ex
  exact pe_make mk F hr hg m b .nil pass0 ha hdb he hpl
theorem fun_ofDq {K : PySem.W.Frag} {x qual : Str} {st : Stmt} {f : Addr} {fd : FuncData} (D : FunD K x qual (defArgs st) (defBody st) (defScope st) [] [] f fd) : Fun K x qual st f fd := by
  obtain ⟨oc, od, dV, kV, doc, pm, an, cdv, ct, osl, h1, h2, h3, h4, _⟩ := D.ex
  rcases h4 with ⟨_, h4⟩ | ⟨h4, _⟩
  · cases h4
    exact ⟨⟨oc, od, kV, doc, pm, an, cdv, ct, osl, h1, h2, h3⟩, D.kp⟩
  · exact absurd rfl h4
/-! ### try, when the body raises nothing -/
theorem ps_tryN {X : Cx} {body : List Stmt} {h₀ : ExceptHandler} {hds : List ExceptHandler} {pos : Pos} {tb : TS} (hb : ∀ (pn : List (Addr × Obj)) (xe : Value → Shared → Prop), PSs (X.tr pn xe) body tb) : PS X (.Try body (h₀ :: hds) [] [] pos) tb := by
  refine ⟨fun pins s σ H D I h => ?_⟩
  have ok := I.ok
  refine wpAny_Try_except ?_
  refine wpAny_mono ((hb (X.pn ++ pins) _).run [] s σ H D (I.toTry _) h) (fun f s1 hsp => ?_) (fun e s1 he => he)
  cases f with
  | next =>
    obtain ⟨σ', H', J', q⟩ := hsp
    exact wpAny_execs_nil ⟨σ', H', J'.ofTry ok, q⟩
  | ret u =>
    obtain ⟨v, σ', H', J', r, q⟩ := hsp
    exact ⟨v, σ', H', J'.ofTry ok, r, q⟩
  | _ =>
    obtain ⟨σ', H', J', q⟩ := hsp
    exact ⟨σ', H', J'.ofTry ok, q⟩
end Fc

namespace Fc
open PySem PySem.Spec L2 PyProof.Rows
variable [LamNames]
/-! ### xs[lo:hi:c]: some of the items -/
theorem vals_pick {xs : List V} {us : List Value} (r : Vals xs us) : ∀ (is : List Nat), Vals (is.filterMap (xs[·]?)) (is.filterMap (us[·]?))
  | [] => .nil
  | i :: is => by
    cases e : xs[i]? with
    | none =>
      rw [List.filterMap_cons_none e, List.filterMap_cons_none (r.none_of e)]
      exact vals_pick r is
    | some x =>
      obtain ⟨u, hu, rl⟩ := r.get e
      rw [List.filterMap_cons_some e, List.filterMap_cons_some hu]
      exact .cons rl (vals_pick r is)
def tStepL (K : PySem.W.Frag) (te : TE) (tl th : TO) : TE := fun σ H Q => te σ H fun x H1 => tl σ H1 fun _ H2 => th σ H2 fun _ H3 => ∃ a xs, x = .ref a ∧ SqL K H3 a xs ∧ ∀ p zs, (∀ z ∈ zs, z ∈ xs) → zs.length ≤ xs.length → H3 p = none → Q (.ref p) (upd H3 p (.lst zs))
theorem pe_stepL {X : Cx} {e : Expr} {lo hi : Option Expr} {te : TE} {tl th : TO} {c : Int} {k : Nat} {p1 p2 pos : Pos} (c0 : c ≠ 0) (he : PE X e te) (hl : PO X lo tl) (hu : PO X hi th) : PE X (.Subscript e (.Slice lo hi (some (.Constant (.int c) k p1)) p2) pos) (tStepL X.K te tl th) := by
  refine ⟨fun pins s σ H Q I h => ?_⟩
  refine Subscript_ (thn (he.run pins s σ H _ I h) fun v s1 ⟨x, H1, I1, r1, q1⟩ => ?_)
  have hst : PO X (some (.Constant (.int c) k p1)) (tPart (tC (.int c))) := po_some pe_int
  refine wpAny_Slice (thn (hl.run pins s1 σ H1 _ I1 q1) fun vl s2 ⟨l, H2, I2, pl, q2⟩ => ?_)
  refine thn (hu.run pins s2 σ H2 _ I2 q2) fun vu s3 ⟨u, H3, I3, pu, q3⟩ => ?_
  obtain ⟨a, xs, ex, hx, q⟩ := q3
  subst ex
  cases r1
  refine thn (hst.run pins s3 σ H3 (fun o H4 => o = some c ∧ H4 = H3) I3 ⟨c, rfl, rfl, rfl⟩) fun vs s4 ⟨o, H4, I4, ps, eo, e4⟩ => ?_
  subst eo e4
  have I5 : Inv X pins σ H4 { s4 with heap := s4.heap.push { cls := .type "slice", data := .fields #[vl, vu, vs] } } := I4.kept (t' := s4.toks) fun b ob q => Heap.get?_push_of_some _ q
  obtain ⟨its, r, ht, hz⟩ := I5.list hx
  have hlen := r.length
  show wpAny (model X.prog X.w) X.A (subscriptTail e (.Slice lo hi (some (.Constant (.int c) k p1)) p2) (.ref a) (.ref s4.heap.objs.size)) (EP X pins σ Q) X.xe { s4 with heap := s4.heap.push { cls := .type "slice", data := .fields #[vl, vu, vs] } }
  refine tail_any (ops := [.ref a, .ref s4.heap.objs.size]) ht.isList.typeIs (PySem.slot_list_getitem.lookup) ?_ (by with_unfolding_all rfl)
  refine wpAny_getItem_list_slice ht.isList (Heap.IsSliceOf.new _ vl vu vs) pl pu ps (fun z => c0 (Option.some.inj z)) ?_ (by rw [List.size_toArray]; omega)
  have sz := slicePick_size_le its.toArray l u (some c)
  obtain ⟨is, ep⟩ : ∃ is : List Nat, slicePick its.toArray l u (some c) = (is.filterMap (its[·]?)).toArray := by
    have ef : (fun i : Nat => its.toArray[i]?) = fun i => its[i]? := by
      funext i
      exact List.getElem?_toArray
    exact ⟨sliceRange (sliceBounds l u (some c) its.toArray.size).1 (sliceBounds l u (some c) its.toArray.size).2.1 (sliceBounds l u (some c) its.toArray.size).2.2, by unfold slicePick; rw [ef]⟩
  rw [ep] at sz ⊢
  rw [List.size_toArray, List.size_toArray] at sz
  have vp := vals_pick r is
  have lp := vp.length
  refine ⟨.ref _, _, I5.laid (t' := s4.toks) (o := .lst (is.filterMap (xs[·]?))) (fun b ob q => Heap.get?_push_of_some _ q) (Nat.le_refl _) ?_, rfl, q _ _ (fun z hz => ?_) (by omega) (I5.hok.fresh (Nat.le_refl _))⟩
  · exact ⟨by omega, _, 0, vp, Heap.get?_push_size _ rfl⟩
  · obtain ⟨i, _, hi⟩ := List.mem_filterMap.mp hz
    exact List.mem_of_getElem? hi
/-! ### a loop over zip of two lists of any lengths -/
theorem for_zipM {K : PySem.W.Frag} {a b : Addr} {xs ys : List V} {g : TG} {tb : TS} {D : Ends} {σ : L2.St} {H : Hp} (Pv : L2.St → Hp → Prop) (h0 : Pv σ H) (hq : ∀ σ H, Pv σ H → SqL K H a xs ∧ SqL K H b ys)
    (hs : ∀ (x y : V) (T : Addr) (σ : L2.St) (H : Hp), x ∈ xs → y ∈ ys → Pv σ H → H T = none → g (.ref T) σ (upd H T (.tup [x, y])) fun σ2 H2 => tb { D with nx := Pv, ct := Pv, bk := D.nx } σ2 H2) (hd : ∀ σ H, Pv σ H → D.nx σ H) :
    ∃ W : Nat → Nat → L2.St → Hp → Prop, (∃ m, W 0 m σ H) ∧ ∀ i m σ H, W i m σ H →
      ((Itz K a b).stop i H ∧ D.nx σ H) ∨ ((Itz K a b).go i H ∧ ∃ N : L2.St → Hp → Prop, (∀ σ' H', N σ' H' → ∃ m', m' < m ∧ W (i + 1) m' σ' H') ∧ ∀ v H', (Itz K a b).yld i H v H' → g v σ H' fun σ2 H2 => tb { D with nx := N, ct := N, bk := D.nx } σ2 H2) := by
  refine ⟨fun i m σ H => m = xs.length - i ∧ Pv σ H, ⟨xs.length, rfl, h0⟩, ?_⟩
  rintro i m σ H ⟨rfl, p⟩
  obtain ⟨qx, qy⟩ := hq σ H p
  by_cases hlt : i < xs.length ∧ i < ys.length
  · have hx : xs[i]? = some xs[i] := List.getElem?_eq_getElem hlt.1
    have hy : ys[i]? = some ys[i] := List.getElem?_eq_getElem hlt.2
    refine .inr ⟨⟨xs, ys, _, _, qx, qy, hx, hy⟩, Pv, fun σ' H' p' => ⟨xs.length - (i + 1), by omega, rfl, p'⟩, fun v H' y => ?_⟩
    obtain ⟨T, x', y', rfl, hT, rfl, f1, f2⟩ := y
    exact hs x' y' T σ H (List.mem_of_getElem? (f1 xs qx)) (List.mem_of_getElem? (f2 ys qy)) p hT
  · refine .inl ⟨⟨xs, ys, qx, qy, ?_⟩, hd σ H p⟩
    omega
end Fc

namespace Fc
open PySem PySem.Spec L2 PyProof.Rows GxR
variable [LamNames]
/-! ### all and tuple of generator expressions, by the row of their items -/
section
variable {j : Nat} {te : TE} {vs : List Nat} {σ : L2.St} {H1 : Hp} {Q : VK}
theorem take_all {α : Type} {xs : List α} {i : Nat} {x : α} (test : α → Bool) (h : xs[i]? = some x) : (xs.take (i + 1)).all test = ((xs.take i).all test && test x) := by
  rw [List.take_add_one, h, List.all_append]
  show (_ && (test x && true)) = _
  rw [Bool.and_true]
theorem all_false {α : Type} {xs : List α} {i : Nat} {x : α} (test : α → Bool) (h : xs[i]? = some x) (k : test x = false) : xs.all test = false := by
  cases e : xs.all test with
  | false => rfl
  | true =>
    have := List.all_eq_true.mp e x (List.mem_of_getElem? h)
    rw [k] at this
    cases this
theorem gw_list {K : PySem.W.Frag} {a : Addr} {xs : List V} (test : V → Bool) (hs : SqL K H1 a xs) (hw : ∀ x, wipe ((wipe σ vs).set j (some x)) vs = wipe σ vs)
    (item : ∀ (i : Nat) (x : V) (H : Hp) (R : VK), xs[i]? = some x → Same H1 H → (∀ H', Same H H' → R (.bl (test x)) H') → te ((wipe σ vs).set j (some x)) H R) (hd : ∀ H', Same H1 H' → Q (.bl (xs.all test)) H') :
    ∃ W : Nat → Nat → Hp → Prop, (∃ m, W 0 m H1) ∧ GWalk (Itl K a) (gName j) tYes te vs σ (takeAll Q) (Q (.bl true)) W := by
  refine ⟨fun i m H => m = xs.length - i ∧ i ≤ xs.length ∧ Same H1 H ∧ (xs.take i).all test = true, ⟨xs.length, rfl, Nat.zero_le _, Same.refl _, rfl⟩, ?_⟩
  rintro i m H ⟨rfl, hi, sm, al⟩
  have q := sm.seq hs
  by_cases lt : i < xs.length
  · refine .inr ⟨⟨xs, xs[i], q, by simp [lt]⟩, fun H' => Same H1 H' ∧ (xs.take (i + 1)).all test = true, fun H' p => ⟨xs.length - (i + 1), by omega, rfl, lt, p.1, p.2⟩, fun x H' y => ?_⟩
    obtain ⟨e, y⟩ := y
    subst e
    have hx := y xs q
    refine ⟨hw x, ?_⟩
    unfold tYes
    dsimp only
    rw [if_pos rfl]
    refine item i x _ _ hx sm fun H2 s2 => ⟨test x, rfl, fun k => ⟨sm.trans s2, by rw [take_all test hx, al, k]; rfl⟩, fun k => ?_⟩
    have := hd H2 (sm.trans s2)
    rw [all_false test hx k] at this
    exact this
  · have e : i = xs.length := by omega
    subst e
    rw [List.take_length] at al
    have := hd H sm
    rw [al] at this
    exact .inl ⟨⟨xs, q, Nat.le_refl _⟩, this⟩
theorem gw_tup {K : PySem.W.Frag} {a : Addr} {xs : List V} (test : V → Bool) (hs : SqT K H1 a xs) (hw : ∀ x, wipe ((wipe σ vs).set j (some x)) vs = wipe σ vs)
    (item : ∀ (i : Nat) (x : V) (H : Hp) (R : VK), xs[i]? = some x → Same H1 H → (∀ H', Same H H' → R (.bl (test x)) H') → te ((wipe σ vs).set j (some x)) H R) (hd : ∀ H', Same H1 H' → Q (.bl (xs.all test)) H') :
    ∃ W : Nat → Nat → Hp → Prop, (∃ m, W 0 m H1) ∧ GWalk (Itt K a) (gName j) tYes te vs σ (takeAll Q) (Q (.bl true)) W := by
  refine ⟨fun i m H => m = xs.length - i ∧ i ≤ xs.length ∧ Same H1 H ∧ (xs.take i).all test = true, ⟨xs.length, rfl, Nat.zero_le _, Same.refl _, rfl⟩, ?_⟩
  rintro i m H ⟨rfl, hi, sm, al⟩
  have q := keepT sm hs
  by_cases lt : i < xs.length
  · refine .inr ⟨⟨xs, xs[i], q, by simp [lt]⟩, fun H' => Same H1 H' ∧ (xs.take (i + 1)).all test = true, fun H' p => ⟨xs.length - (i + 1), by omega, rfl, lt, p.1, p.2⟩, fun x H' y => ?_⟩
    obtain ⟨e, y⟩ := y
    subst e
    have hx := y xs q
    refine ⟨hw x, ?_⟩
    unfold tYes
    dsimp only
    rw [if_pos rfl]
    refine item i x _ _ hx sm fun H2 s2 => ⟨test x, rfl, fun k => ⟨sm.trans s2, by rw [take_all test hx, al, k]; rfl⟩, fun k => ?_⟩
    have := hd H2 (sm.trans s2)
    rw [all_false test hx k] at this
    exact this
  · have e : i = xs.length := by omega
    subst e
    rw [List.take_length] at al
    have := hd H sm
    rw [al] at this
    exact .inl ⟨⟨xs, q, Nat.le_refl _⟩, this⟩
theorem gw_rng {lo : Int} {n : Nat} (test : Nat → Bool) (hw : ∀ x, wipe ((wipe σ vs).set j (some x)) vs = wipe σ vs)
    (item : ∀ (i : Nat) (H : Hp) (R : VK), i < n → Same H1 H → (∀ H', Same H H' → R (.bl (test i)) H') → te ((wipe σ vs).set j (some (.int (lo + (i : Nat))))) H R) (hd : ∀ H', Same H1 H' → Q (.bl ((List.range n).all test)) H') :
    ∃ W : Nat → Nat → Hp → Prop, (∃ m, W 0 m H1) ∧ GWalk (Itr lo n) (gName j) tYes te vs σ (takeAll Q) (Q (.bl true)) W := by
  refine ⟨fun i m H => m = n - i ∧ i ≤ n ∧ Same H1 H ∧ ((List.range n).take i).all test = true, ⟨n, rfl, Nat.zero_le _, Same.refl _, rfl⟩, ?_⟩
  rintro i m H ⟨rfl, hi, sm, al⟩
  by_cases lt : i < n
  · refine .inr ⟨lt, fun H' => Same H1 H' ∧ ((List.range n).take (i + 1)).all test = true, fun H' p => ⟨n - (i + 1), by omega, rfl, lt, p.1, p.2⟩, fun x H' y => ?_⟩
    obtain ⟨e, rfl⟩ := y
    subst e
    have hx : (List.range n)[i]? = some i := List.getElem?_range lt
    refine ⟨hw _, ?_⟩
    unfold tYes
    dsimp only
    rw [if_pos rfl]
    refine item i _ _ lt sm fun H2 s2 => ⟨test i, rfl, fun k => ⟨sm.trans s2, by rw [take_all test hx, al, k]; rfl⟩, fun k => ?_⟩
    have := hd H2 (sm.trans s2)
    rw [all_false test hx k] at this
    exact this
  · have e : i = n := by omega
    subst e
    rw [List.take_of_length_le (by rw [List.length_range]; exact Nat.le_refl _)] at al
    have := hd H sm
    rw [al] at this
    exact .inl ⟨Nat.le_refl _, this⟩
theorem gw_sign {l : List Nat} (test : Nat → Bool) (hw : ∀ x, wipe ((wipe σ vs).set j (some x)) vs = wipe σ vs)
    (item : ∀ (i c : Nat) (H : Hp) (R : VK), l[i]? = some c → Same H1 H → (∀ H', Same H H' → R (.bl (test c)) H') → te ((wipe σ vs).set j (some (T [c]))) H R) (hd : ∀ H', Same H1 H' → Q (.bl (l.all test)) H') :
    ∃ W : Nat → Nat → Hp → Prop, (∃ m, W 0 m H1) ∧ GWalk (Its (mkS l)) (gName j) tYes te vs σ (takeAll Q) (Q (.bl true)) W := by
  have sz : (mkS l).cps.size = l.length := by simp [mkS]
  refine ⟨fun i m H => m = l.length - i ∧ i ≤ l.length ∧ Same H1 H ∧ (l.take i).all test = true, ⟨l.length, rfl, Nat.zero_le _, Same.refl _, rfl⟩, ?_⟩
  rintro i m H ⟨rfl, hi, sm, al⟩
  by_cases lt : i < l.length
  · refine .inr ⟨by show i < (mkS l).cps.size; omega, fun H' => Same H1 H' ∧ (l.take (i + 1)).all test = true, fun H' p => ⟨l.length - (i + 1), by omega, rfl, lt, p.1, p.2⟩, fun x H' yl => ?_⟩
    obtain ⟨rfl, c, hc, rfl⟩ := yl
    have gc : l[i]? = some c := by
      have : (mkS l).cps[i]? = l[i]? := by simp [mkS]
      rw [← this]
      exact hc
    refine ⟨hw _, ?_⟩
    unfold tYes
    dsimp only
    rw [if_pos rfl]
    refine item i c _ _ gc sm fun H2 s2 => ⟨test c, rfl, fun k => ⟨sm.trans s2, by rw [take_all test gc, al, k]; rfl⟩, fun k => ?_⟩
    have := hd H2 (sm.trans s2)
    rw [all_false test gc k] at this
    exact this
  · have e : i = l.length := by omega
    subst e
    rw [List.take_length] at al
    have := hd H sm
    rw [al] at this
    exact .inl ⟨by show (mkS l).cps.size ≤ _; omega, this⟩
/-- tuple(.. for i in range ..) -/
theorem gwT_rng {lo : Int} {n : Nat} (f : Nat → V) (hz : n ≤ sizeLine) (hw : ∀ x, wipe ((wipe σ vs).set j (some x)) vs = wipe σ vs)
    (item : ∀ (i : Nat) (H : Hp) (R : VK), i < n → Same H1 H → (∀ H', Same H H' → R (f i) H') → te ((wipe σ vs).set j (some (.int (lo + (i : Nat))))) H R) (hd : ∀ H', Same H1 H' → ∀ p, H' p = none → Q (.ref p) (upd H' p (.tup ((List.range n).map f)))) :
    ∃ W : Nat → Nat → List V → Hp → Prop, (∃ m, W 0 m [] H1) ∧ GWalkT (Itr lo n) (gName j) tYes te vs σ (fun ys H' => ys.length ≤ sizeLine ∧ ∀ p, H' p = none → Q (.ref p) (upd H' p (.tup ys))) W := by
  refine ⟨fun i m ys H => m = n - i ∧ i ≤ n ∧ Same H1 H ∧ ys = (List.range i).map f, ⟨n, rfl, Nat.zero_le _, Same.refl _, rfl⟩, ?_⟩
  rintro i m ys H ⟨rfl, hi, sm, rfl⟩
  by_cases lt : i < n
  · refine .inr ⟨lt, fun ys' H' => Same H1 H' ∧ ys' = (List.range (i + 1)).map f, fun ys' H' p => ⟨n - (i + 1), by omega, rfl, lt, p.1, p.2⟩, fun x H' y => ?_⟩
    obtain ⟨e, rfl⟩ := y
    subst e
    refine ⟨hw _, ?_⟩
    unfold tYes
    dsimp only
    rw [if_pos rfl]
    refine item i _ _ lt sm fun H2 s2 => ⟨by rw [List.length_map, List.length_range]; omega, sm.trans s2, ?_⟩
    rw [List.range_succ, List.map_append]
    rfl
  · have e : i = n := by omega
    subst e
    exact .inl ⟨Nat.le_refl _, by rw [List.length_map, List.length_range]; exact hz, hd H sm⟩
end
/-- a loop over zip of two lists, turn by turn -/
theorem for_zipI {K : PySem.W.Frag} {a b : Addr} {xs ys : List V} {g : TG} {tb : TS} {D : Ends} {σ : L2.St} {H : Hp} (Pv : Nat → L2.St → Hp → Prop) (h0 : Pv 0 σ H) (hq : ∀ i σ H, Pv i σ H → SqL K H a xs ∧ SqL K H b ys)
    (hs : ∀ (i : Nat) (x y : V) (T : Addr) (σ : L2.St) (H : Hp), xs[i]? = some x → ys[i]? = some y → Pv i σ H → H T = none → g (.ref T) σ (upd H T (.tup [x, y])) fun σ2 H2 => tb { D with nx := Pv (i + 1), ct := Pv (i + 1), bk := D.nx } σ2 H2) (hd : ∀ i σ H, (xs.length ≤ i ∨ ys.length ≤ i) → Pv i σ H → D.nx σ H) :
    ∃ W : Nat → Nat → L2.St → Hp → Prop, (∃ m, W 0 m σ H) ∧ ∀ i m σ H, W i m σ H →
      ((Itz K a b).stop i H ∧ D.nx σ H) ∨ ((Itz K a b).go i H ∧ ∃ N : L2.St → Hp → Prop, (∀ σ' H', N σ' H' → ∃ m', m' < m ∧ W (i + 1) m' σ' H') ∧ ∀ v H', (Itz K a b).yld i H v H' → g v σ H' fun σ2 H2 => tb { D with nx := N, ct := N, bk := D.nx } σ2 H2) := by
  refine ⟨fun i m σ H => m = xs.length - i ∧ Pv i σ H, ⟨xs.length, rfl, h0⟩, ?_⟩
  rintro i m σ H ⟨rfl, p⟩
  obtain ⟨qx, qy⟩ := hq i σ H p
  by_cases hlt : i < xs.length ∧ i < ys.length
  · have hx : xs[i]? = some xs[i] := List.getElem?_eq_getElem hlt.1
    have hy : ys[i]? = some ys[i] := List.getElem?_eq_getElem hlt.2
    refine .inr ⟨⟨xs, ys, _, _, qx, qy, hx, hy⟩, Pv (i + 1), fun σ' H' p' => ⟨xs.length - (i + 1), by omega, rfl, p'⟩, fun v H' y => ?_⟩
    obtain ⟨T, x', y', rfl, hT, rfl, f1, f2⟩ := y
    exact hs i x' y' T σ H (f1 xs qx) (f2 ys qy) p hT
  · refine .inl ⟨⟨xs, ys, qx, qy, by omega⟩, hd i σ H (by omega) p⟩
section
variable {X : Cx}
theorem pe_globS {x : Str} {z : Str} {pos : Pos} (hg : Gl X x) (h : ∃ t, X.mg x = some (.str z t)) (hd : (x == ("__debug__" : Str)) = false := by decide) : PE X (.Name x pos) (tC (.str z)) := by
  obtain ⟨t, e⟩ := h
  exact pe_glob hg e ⟨t, rfl⟩ hd
/-- a def of the module as a value -/
def tDefV (mg : Str → Option Value) (x : Str) : TE := fun _ H Q => ∀ f, mg x = some (.ref f) → Q (.ref f) H
theorem pe_defV {x : Str} {k : Nat} {ps : List Str} {sp : Sp} {pos : Pos} (C : Cal X.prog X.w X.K X.mg X.base x k ps sp) (hg : Gl X x := by rfl) (hd : (x == ("__debug__" : Str)) = false := by decide) : PE X (.Name x pos) (tDefV X.mg x) := by
  obtain ⟨f, fd, F, m, kp, b⟩ := C.ex
  exact PEweak (pe_glob (v := .ref f) hg m rfl hd) fun σ H Q q => q f m
end
end Fc

namespace Fc
open PySem PySem.Spec L2 PyProof.Rows
variable [LamNames]
/-! ### isinstance of any data -/
def tyN : PyData → String
  | .none => "NoneType"
  | .bool _ => "bool"
  | .int _ => "int"
  | .str _ => "str"
  | .list _ => "list"
  | .tuple _ => "tuple"
  | .dict _ => "dict"
theorem ty_lst {K : PySem.W.Frag} {H : Hp} {a : Addr} {xs : List V} (h : SqL K H a xs) : TyX K H (.ref a) (.type "list") := by
  rcases h with (h | ⟨o, h⟩) | ⟨o, its, n, h, c, _⟩
  · exact .base (.lst h)
  · exact .base (.frz h)
  · exact .kList h c
theorem ty_dp {K : PySem.W.Frag} {H : Hp} : ∀ {d : PyData} {v : V}, Dp K H v d → TyX K H v (.type (tyN d))
  | .none, _, .non => .base .non
  | .bool _, _, .bl b => .base (.bl b)
  | .int _, _, .int i => .base (.int i)
  | .str _, _, .str x => .base (.str x)
  | .list _, _, .lst h _ => ty_lst h
  | .tuple _, _, .tup h _ => ty_tup h
def isBool : PyData → Bool
  | .bool _ => true
  | _ => false
def isInt : PyData → Bool
  | .bool _ | .int _ => true
  | _ => false
def isStr : PyData → Bool
  | .str _ => true
  | _ => false
def isTup : PyData → Bool
  | .tuple _ => true
  | _ => false
theorem kd_bool {K : PySem.W.Frag} (d : PyData) : PySem.W.kitOne K (.type (tyN d)) (.type "bool") = some (isBool d) := by cases d <;> exact kit_ty (by kernel_rfl)
theorem kd_int {K : PySem.W.Frag} (d : PyData) : PySem.W.kitOne K (.type (tyN d)) (.type "int") = some (isInt d) := by cases d <;> exact kit_ty (by kernel_rfl)
theorem kd_str {K : PySem.W.Frag} (d : PyData) : PySem.W.kitOne K (.type (tyN d)) (.type "str") = some (isStr d) := by cases d <;> exact kit_ty (by kernel_rfl)
theorem kd_tup {K : PySem.W.Frag} (d : PyData) : PySem.W.kitOne K (.type (tyN d)) (.type "tuple") = some (isTup d) := by cases d <;> exact kit_ty (by kernel_rfl)
/-! ### bytes and bodies, of any data -/
def byteB : PyData → Bool
  | .int i => decide (0 ≤ i) && decide (i ≤ 255)
  | _ => false
def bodyB : PyData → Bool
  | .tuple ds => decide (ds.length ≤ 1000) && ds.all byteB
  | _ => false
def byteV : V → Bool
  | .int i => decide (0 ≤ i) && decide (i ≤ 255)
  | _ => false
theorem byteV_of {K : PySem.W.Frag} {H : Hp} : ∀ {d : PyData} {v : V}, Dp K H v d → byteB d = byteV v
  | .none, _, .non => rfl
  | .bool _, _, .bl b => rfl
  | .int _, _, .int i => rfl
  | .str _, _, .str x => rfl
  | .list _, _, .lst h _ => rfl
  | .tuple _, _, .tup h _ => rfl
theorem byteV_all {K : PySem.W.Frag} {H : Hp} : ∀ {vs : List V} {ds : List PyData}, DpAll K H vs ds → vs.all byteV = ds.all byteB
  | _, _, .nil => rfl
  | _, _, .cons h hs => by rw [List.all_cons, List.all_cons, byteV_all hs, byteV_of h]
/-- a def that keeps two promises keeps the one of both -/
theorem fn_or {P : Program} {w : World} {K : PySem.W.Frag} {mg : Str → Option Value} {base : Heap} {CX : CXT} {k : Nat} {f : Addr} {fd : FuncData} {ps : List Str} {sp sp' : Sp} (F : FnOk P w K mg base CX k f fd ps sp) (F' : FnOk P w K mg base CX k f fd ps sp') :
    FnOk P w K mg base CX k f fd ps (fun vs H Q E => sp vs H Q E ∨ sp' vs H Q E) :=
  ⟨fun vs H Q E h => h.elim (F.len vs H Q E) (F'.len vs H Q E), fun A outer s H args us vs Q E hr e0 hb r h => h.elim (F.run A outer s H args us vs Q E hr e0 hb r) (F'.run A outer s H args us vs Q E hr e0 hb r)⟩
end Fc

namespace Fc
open PySem PySem.Spec L2 PyProof.Rows
variable [LamNames]
theorem t_by {c : TT} {σ : L2.St} {H : Hp} {Q : Bool → Hp → Prop} (PX PY : Prop) (hX : PX → Q true H) (hY : PY → Q false H) (hc : (∀ k : Bool, (k = true → PX) → (k = false → PY) → Q k H) → c σ H Q) : c σ H Q := hc fun k hx hy => by
  cases k with
  | true => exact hX (hx rfl)
  | false => exact hY (hy rfl)
theorem te_by {t : TE} {σ : L2.St} {H : Hp} {Q : VK} (P : V → Hp → Prop) (hQ : ∀ v H', P v H' → Q v H') (h : (∀ v H', P v H' → Q v H') → t σ H Q) : t σ H Q := h hQ
/-! ### the program's clean: told or refused -/
def OutC (K : PySem.W.Frag) (cB cL : Addr) (H : Hp) (Q : VK) (E : XK) : CRes → Prop
  | .bad => ∀ H', Same H H' → E (.ref cB) none H'
  | .out => ∀ H', Same H H' → E (.ref cL) none H'
  | .ok ps => ∀ H', Same H H' → Q (T (pathOf ps)) H'
def spCln (K : PySem.W.Frag) (cB cL : Addr) : Sp := fun vs H Q E => ∃ l : List Nat, vs = [T l] ∧ l.length ≤ 1000 ∧ OutC K cB cL H Q E (cleanF l)
theorem pathOf_len {ps : List (List Nat)} (h : PathOk ps) : (pathOf ps).length ≤ 104 := by
  have := joinC_len 47 ps 12 fun p hp => (h.2.2 p hp).2.1
  have l8 := h.2.1
  unfold pathOf
  omega
/-! ### the way from a folder to a path -/
def strip : List (List Nat) → List (List Nat) → List (List Nat) × List (List Nat)
  | p :: ps, q :: qs => if p = q then strip ps qs else (p :: ps, q :: qs)
  | ps, qs => (ps, qs)
theorem strip_spec : ∀ (fs gs : List (List Nat)), ∃ c, fs = c ++ (strip fs gs).1 ∧ gs = c ++ (strip fs gs).2
  | [], gs => ⟨[], by simp [strip], by simp [strip]⟩
  | p :: ps, [] => ⟨[], by simp [strip], by simp [strip]⟩
  | p :: ps, q :: qs => by
    rw [strip]
    by_cases z : p = q
    · rw [if_pos z]
      obtain ⟨c, e1, e2⟩ := strip_spec ps qs
      exact ⟨p :: c, by rw [List.cons_append, ← e1], by rw [List.cons_append, ← e2, z]⟩
    · rw [if_neg z]
      exact ⟨[], rfl, rfl⟩
def dots : List Nat := [46, 46]
def wayP (a b : List (List Nat)) : List (List Nat) := a.map (fun _ => dots) ++ b
def wayTo (a b : List (List Nat)) : List Nat := if wayP a b = [] then [46] else joinC 47 (wayP a b)
def wayT (fs gs : List (List Nat)) : List Nat := wayTo (strip fs gs).1 (strip fs gs).2
theorem pops (r : List (List Nat)) : ∀ (n : Nat) (k : List (List Nat)), n ≤ k.length → walkC (List.replicate n dots ++ r) k = walkC r (k.take (k.length - n))
  | 0, k, _ => by simp
  | n + 1, k, h => by
    have k0 : k ≠ [] := fun e => by rw [e] at h; simp at h
    rw [List.replicate_succ, List.cons_append, walkC, if_pos (show dots = [46, 46] from rfl), if_neg k0, pops r n k.dropLast (by rw [List.length_dropLast]; omega), List.length_dropLast, List.dropLast_eq_take, List.take_take]
    congr 2
    omega
def FolOk (fs : List (List Nat)) : Prop := fs = [] ∨ PathOk fs
theorem FolOk.parts {fs : List (List Nat)} (h : FolOk fs) : ∀ p ∈ fs, partOk p := by
  rcases h with rfl | h
  · intro p hp; cases hp
  · exact h.2.2
theorem wayP_stroke {a b : List (List Nat)} (hb : ∀ p ∈ b, partOk p) : ∀ p ∈ wayP a b, 47 ∉ p := by
  intro p hp
  rcases List.mem_append.mp hp with hp | hp
  · obtain ⟨q, _, rfl⟩ := List.mem_map.mp hp
    decide
  · exact no_stroke (hb p hp)
theorem walk_way {fs gs : List (List Nat)} (hf : ∀ p ∈ fs, partOk p) (hg : PathOk gs) : walkC (fs ++ splitC 47 (wayT fs gs)) [] = .ok gs := by
  obtain ⟨c, e1, e2⟩ := strip_spec fs gs
  rw [walkC_parts fs [] _ hf, List.nil_append]
  unfold wayT wayTo
  generalize (strip fs gs).1 = a at e1 e2
  generalize (strip fs gs).2 = b at e1 e2
  have hb : ∀ p ∈ b, partOk p := fun p hp => hg.2.2 p (by rw [e2]; exact List.mem_append_right _ hp)
  have fin : walkC [] gs = .ok gs := by
    rw [walkC, if_neg fun z => by rcases z with z | z; exact hg.1 z; exact absurd hg.2.1 (by omega)]
  by_cases z : wayP a b = []
  · rw [if_pos z]
    unfold wayP at z
    rw [List.append_eq_nil_iff, List.map_eq_nil_iff] at z
    rw [z.1, List.append_nil] at e1
    rw [z.2, List.append_nil] at e2
    rw [show splitC 47 [46] = [[46]] by decide, walkC, if_neg (by decide), if_pos (.inr rfl), e1, ← e2]
    exact fin
  · rw [if_neg z, split_joinC 47 z (wayP_stroke hb)]
    unfold wayP
    rw [List.map_const', pops _ _ _ (by rw [e1, List.length_append]; omega), e1, List.length_append, Nat.add_sub_cancel, List.take_left]
    have w := walkC_parts b c [] hb
    rw [List.append_nil] at w
    rw [w, ← e2]
    exact fin
theorem join_ne {ws : List (List Nat)} (h : ws ≠ []) (hp : ∀ p ∈ ws, p ≠ []) : joinC 47 ws ≠ [] := by
  cases ws with
  | nil => exact absurd rfl h
  | cons p r =>
    have p0 := hp p (by simp)
    cases p with
    | nil => exact absurd rfl p0
    | cons c q =>
      cases r with
      | nil =>
        show (c :: q) ≠ []
        simp
      | cons p2 r2 =>
        show (c :: q) ++ ([47] ++ TL.joinL [47] (p2 :: r2)) ≠ []
        simp
theorem part_ne {p : List Nat} (h : partOk p) : p ≠ [] := fun e => by
  rw [e] at h
  exact absurd h.1 (by decide)
theorem wayP_ne {a b : List (List Nat)} (hb : ∀ p ∈ b, partOk p) : ∀ p ∈ wayP a b, p ≠ [] := by
  intro p hp
  rcases List.mem_append.mp hp with hp | hp
  · obtain ⟨q, _, rfl⟩ := List.mem_map.mp hp
    decide
  · exact part_ne (hb p hp)
theorem pathOf_ne {ps : List (List Nat)} (h : PathOk ps) : pathOf ps ≠ [] := join_ne h.1 fun p hp => part_ne (h.2.2 p hp)
/-- from the top -/
theorem clean_top {gs : List (List Nat)} (hg : PathOk gs) : cleanF (wayT [] gs) = .ok gs := by
  have e : wayT [] gs = pathOf gs := by
    unfold wayT wayTo wayP
    cases gs with
    | nil => exact absurd rfl hg.1
    | cons p r => rfl
  rw [e, clean_path hg]
/-- from a folder -/
theorem clean_way {fs gs : List (List Nat)} (hf : PathOk fs) (hg : PathOk gs) : cleanF (pathOf fs ++ [47] ++ wayT fs gs) = .ok gs := by
  have hd : (pathOf fs ++ [47] ++ wayT fs gs).head? ≠ some 47 := by
    have := head_join hf
    have ne := pathOf_ne hf
    cases e : pathOf fs with
    | nil => exact absurd e ne
    | cons c q =>
      rw [e] at this
      simpa using this
  unfold cleanF
  rw [if_neg hd, List.append_assoc]
  show walkC (splitC 47 (pathOf fs ++ 47 :: wayT fs gs)) [] = _
  rw [splitC_app, split_path hf]
  exact walk_way hf.2.2 hg
theorem split_fol {fs : List (List Nat)} (h : FolOk fs) : (splitC 47 (pathOf fs)).filter (fun p => decide (p ≠ [])) = fs := by
  rcases h with rfl | h
  · rfl
  · rw [split_path h]
    exact List.filter_eq_self.mpr fun p hp => decide_eq_true (part_ne (h.2.2 p hp))
theorem wayT_len {fs gs : List (List Nat)} (hf : FolOk fs) (hg : PathOk gs) : (wayT fs gs).length ≤ 300 := by
  obtain ⟨c, e1, e2⟩ := strip_spec fs gs
  unfold wayT wayTo
  generalize (strip fs gs).1 = a at e1 e2
  generalize (strip fs gs).2 = b at e1 e2
  have hb : ∀ p ∈ b, partOk p := fun p hp => hg.2.2 p (by rw [e2]; exact List.mem_append_right _ hp)
  have la : a.length ≤ 8 := by
    have : fs.length ≤ 8 := by
      rcases hf with rfl | h
      · simp
      · exact h.2.1
    rw [e1, List.length_append] at this
    omega
  have lb : b.length ≤ 8 := by
    have := hg.2.1
    rw [e2, List.length_append] at this
    omega
  split
  · simp
  · have := joinC_len 47 (wayP a b) 12 fun p hp => by
      rcases List.mem_append.mp hp with hp | hp
      · obtain ⟨q, _, rfl⟩ := List.mem_map.mp hp
        decide
      · exact (hb p hp).2.1
    have l2 : (wayP a b).length = a.length + b.length := by
      unfold wayP
      rw [List.length_append, List.length_map]
    omega
end Fc

namespace Fc
open PySem PySem.Spec L2 PyProof.Rows
variable [LamNames]
/-! ### rows of deeds -/
def Byt (S : List Int) : Prop := ∀ x ∈ S, 0 ≤ x ∧ x < 256
theorem Byt.nil : Byt [] := fun x hx => by cases hx
theorem Byt.app {A B : List Int} (a : Byt A) (b : Byt B) : Byt (A ++ B) := fun x hx => by
  rcases List.mem_append.mp hx with h | h
  · exact a x h
  · exact b x h
theorem Byt.take {A : List Int} (a : Byt A) (k : Nat) : Byt (A.take k) := fun x hx => a x (List.mem_of_mem_take hx)
theorem Byt.drop {A : List Int} (a : Byt A) (k : Nat) : Byt (A.drop k) := fun x hx => a x (List.mem_of_mem_drop hx)
theorem Byt.one {x : Int} (h : 0 ≤ x ∧ x < 256) : Byt [x] := fun y hy => by
  rw [List.mem_singleton.mp hy]
  exact h
theorem Byt.rep {A : List Int} (a : Byt A) (k : Nat) : Byt (List.replicate k A).flatten := fun x hx => by
  obtain ⟨l, hl, hx'⟩ := List.mem_flatten.mp hx
  rw [(List.mem_replicate.mp hl).2] at hx'
  exact a x hx'
def moreB (far : Nat) (B : List Int) : List Int := B ++ [B.getD (B.length - far) 0]
def copyB : Nat → Nat → List Int → List Int
  | 0, _, B => B
  | k + 1, far, B => copyB k far (moreB far B)
theorem copyB_succ : ∀ (k far : Nat) (B : List Int), copyB (k + 1) far B = moreB far (copyB k far B)
  | 0, _, _ => rfl
  | k + 1, far, B => by
    show copyB (k + 1) far (moreB far B) = moreB far (copyB k far (moreB far B))
    exact copyB_succ k far (moreB far B)
theorem copyB_len : ∀ (k far : Nat) (B : List Int), (copyB k far B).length = B.length + k
  | 0, _, _ => rfl
  | k + 1, far, B => by
    show (copyB k far (moreB far B)).length = _
    rw [copyB_len k far, moreB, List.length_append]
    show B.length + 1 + k = B.length + (k + 1)
    omega
theorem moreB_byt {far : Nat} {B : List Int} (b : Byt B) (h : 0 < far) (h2 : far ≤ B.length) : Byt (moreB far B) := by
  refine b.app (Byt.one ?_)
  have lt : B.length - far < B.length := by omega
  rw [List.getD_eq_getElem?_getD, List.getElem?_eq_getElem lt]
  exact b _ (List.getElem_mem lt)
theorem copyB_byt {far : Nat} (h : 0 < far) : ∀ (k : Nat) {B : List Int}, Byt B → far ≤ B.length → Byt (copyB k far B)
  | 0, _, b, _ => b
  | k + 1, B, b, h2 => copyB_byt h k (moreB_byt b h h2) (by
    rw [moreB, List.length_append]
    omega)
def deedsF : Nat → List Int → List Int → Option (List Int)
  | _, [], B => if B.length ≤ 1000 then some B else none
  | 0, _ :: _, _ => none
  | f + 1, n :: r, B => if n ≤ 127 then (if r.length < (n + 1).toNat then none else deedsF f (r.drop (n + 1).toNat) (B ++ r.take (n + 1).toNat))
    else if r = [] then none else if (B.length : Int) ≤ r.headD 0 then none else deedsF f (r.drop 1) (copyB (n - 125).toNat (r.headD 0 + 1).toNat B)
def backF (S : List Int) : Option (List Int) := deedsF S.length S []
theorem deedsF_end {f : Nat} {B : List Int} : deedsF f [] B = if B.length ≤ 1000 then some B else none := by
  cases f <;> rfl
theorem deedsF_lit {f : Nat} {n : Int} {r B : List Int} (h : n ≤ 127) : deedsF (f + 1) (n :: r) B = if r.length < (n + 1).toNat then none else deedsF f (r.drop (n + 1).toNat) (B ++ r.take (n + 1).toNat) := by
  rw [deedsF, if_pos h]
theorem deedsF_back {f : Nat} {n d : Int} {r B : List Int} (h : ¬ n ≤ 127) : deedsF (f + 1) (n :: d :: r) B = if (B.length : Int) ≤ d then none else deedsF f r (copyB (n - 125).toNat (d + 1).toNat B) := by
  rw [deedsF, if_neg h, if_neg (List.cons_ne_nil d r)]
  rfl
theorem deedsF_cut {f : Nat} {n : Int} {B : List Int} (h : ¬ n ≤ 127) : deedsF (f + 1) [n] B = none := by
  rw [deedsF, if_neg h, if_pos rfl]
/-- a body, or None -/
def ShowsO (K : PySem.W.Frag) (H : Hp) (v : V) : Option (List Int) → Prop
  | none => v = .non
  | some B => ∃ t, v = .ref t ∧ SqT K H t (B.map V.int)
def unpF (k : Nat) (S : List Int) : Option (List Int) := if k = 0 then (if S.length ≤ 1000 then some S else none) else backF S
/-- a body, or a text -/
def ShowsR (K : PySem.W.Frag) (H : Hp) (v : V) : Option (List Int) → Prop
  | none => v = .str "refused"
  | some B => ∃ t, v = .ref t ∧ SqT K H t (B.map V.int)
/-- a def that tells a body or raises -/
def OutU (K : PySem.W.Frag) (cB : Addr) (H : Hp) (Q : VK) (E : XK) : Option (List Int) → Prop
  | none => ∀ H', Same H H' → E (.ref cB) none H'
  | some B => Tups K H (B.map V.int) Q
def spUnp (K : PySem.W.Frag) (cB : Addr) : Sp := fun vs H Q E => ∃ (k : Nat) (p : Addr) (S : List Int), vs = [.int (k : Int), .ref p] ∧ k ≤ 1 ∧ SqT K H p (S.map V.int) ∧ Byt S ∧ S.length ≤ 20000 ∧ OutU K cB H Q E (unpF k S)
theorem copy_alike (x : Int) : ∀ (k m : Nat), 0 < m → copyB k 1 (List.replicate m x) = List.replicate (m + k) x
  | 0, m, _ => rfl
  | k + 1, m, h => by
    show copyB k 1 (moreB 1 (List.replicate m x)) = _
    have e : moreB 1 (List.replicate m x) = List.replicate (m + 1) x := by
      unfold moreB
      rw [List.length_replicate, List.getD_eq_getElem?_getD, List.getElem?_replicate, if_pos (by omega), List.replicate_succ']
      rfl
    rw [e, copy_alike x k (m + 1) (by omega), show m + 1 + k = m + (k + 1) by omega]
theorem far_all (x : Int) : ∀ (n f m : Nat), 0 < m → n ≤ f → deedsF f (List.replicate n ([255, 0] : List Int)).flatten (List.replicate m x) = if m + 130 * n ≤ 1000 then some (List.replicate (m + 130 * n) x) else none
  | 0, f, m, _, _ => by
    show deedsF f [] _ = _
    rw [deedsF_end, List.length_replicate]
    rfl
  | n + 1, f, m, h, hf => by
    obtain ⟨g, rfl⟩ : ∃ g, f = g + 1 := ⟨f - 1, by omega⟩
    rw [List.replicate_succ, List.flatten_cons]
    show deedsF (g + 1) (255 :: 0 :: (List.replicate n ([255, 0] : List Int)).flatten) _ = _
    rw [deedsF_back (by decide), List.length_replicate, if_neg (by omega)]
    show deedsF g _ (copyB 130 1 (List.replicate m x)) = _
    rw [copy_alike x 130 m h, far_all x n g (m + 130) (by omega) (by omega), show m + 130 + 130 * n = m + 130 * (n + 1) by omega]
theorem far_begin (x : Int) (n : Nat) : backF ([0, x] ++ (List.replicate n ([255, 0] : List Int)).flatten) = if 1 + 130 * n ≤ 1000 then some (List.replicate (1 + 130 * n) x) else none := by
  unfold backF
  show deedsF ((x :: (List.replicate n ([255, 0] : List Int)).flatten).length + 1) (0 :: x :: (List.replicate n ([255, 0] : List Int)).flatten) [] = _
  rw [deedsF_lit (by decide), if_neg (by rw [List.length_cons]; show ¬ _ < 1; omega)]
  show deedsF _ (List.replicate n ([255, 0] : List Int)).flatten (List.replicate 1 x) = _
  rw [far_all x n _ 1 (by decide)]
  rw [List.length_cons, PyProof.Rows.lm_len_rep_flat]
  show n ≤ n * 2 + 1
  omega
end Fc

namespace Fc
open PySem PySem.Spec L2 PyProof.Rows
variable [LamNames]
theorem hu1 {k : Nat} {A : Around} (r : Room k A) : A.units + 1 < cLine := Nat.lt_of_le_of_lt (by omega) r.units
/-! ### data stays where a list or a dict is written -/
def Wr (H : Hp) (p : Addr) : Prop := (∃ xs, H p = some (.lst xs)) ∨ ∃ kvs, H p = some (.dK kvs)
theorem Wr.nc {H : Hp} {p : Addr} (h : Wr H p) : NC (H p) := by
  rcases h with ⟨xs, h⟩ | ⟨kvs, h⟩ <;> (rw [h]; trivial)
theorem Wr.lst {H : Hp} {p : Addr} {xs : List V} (h : H p = some (.lst xs)) : Wr H p := .inl ⟨xs, h⟩
theorem Wr.dK {H : Hp} {p : Addr} {kvs : List (Key × V)} (h : H p = some (.dK kvs)) : Wr H p := .inr ⟨kvs, h⟩
theorem overT {K : PySem.W.Frag} {H : Hp} {p t : Addr} {xs : List V} {o : HO} (e : Wr H p) (h : SqT K H t xs) : SqT K (upd H p o) t xs := by
  have ne : ∀ {u : HO}, H t = some u → (∀ xs, u ≠ .lst xs) → (∀ kvs, u ≠ .dK kvs) → t ≠ p := by
    intro u hu n1 n2 z
    rw [z] at hu
    rcases e with ⟨ys, e⟩ | ⟨kvs, e⟩
    · rw [e] at hu
      exact n1 ys (Option.some.inj hu).symm
    · rw [e] at hu
      exact n2 kvs (Option.some.inj hu).symm
  rcases h with (h | ⟨o2, h⟩) | h
  · refine .inl (.inl ?_)
    rw [upd_ne (ne h (fun _ => nofun) (fun _ => nofun))]
    exact h
  · refine .inl (.inr ⟨o2, ?_⟩)
    rw [upd_ne (ne h (fun _ => nofun) (fun _ => nofun))]
    exact h
  · exact .inr h
mutual
theorem dpOver {K : PySem.W.Frag} {H : Hp} {p : Addr} {o : HO} (e : Wr H p) : ∀ {d : PyData} {v : V}, tupsOnly d = true → Dp K H v d → Dp K (upd H p o) v d
  | .none, _, _, .non => .non
  | .bool _, _, _, .bl b => .bl b
  | .int _, _, _, .int i => .int i
  | .str _, _, _, .str x => .str x
  | .list _, _, ok, _ => by cases ok
  | .tuple ds, _, ok, .tup h hs => .tup (overT e h) (dpOverAll e (by rw [tupsOnly, Bool.and_eq_true] at ok; exact ok.2) hs)
theorem dpOverAll {K : PySem.W.Frag} {H : Hp} {p : Addr} {o : HO} (e : Wr H p) : ∀ {ds : List PyData} {vs : List V}, tupsAll ds = true → DpAll K H vs ds → DpAll K (upd H p o) vs ds
  | [], _, _, .nil => .nil
  | d :: r, _, ok, .cons h hs => .cons (dpOver e (by rw [tupsAll, Bool.and_eq_true] at ok; exact ok.1) h) (dpOverAll e (by rw [tupsAll, Bool.and_eq_true] at ok; exact ok.2) hs)
end
theorem keep_new {H H' : Hp} {p : Addr} {o : HO} (e : Same H H') (n : H p = none) (nc : NC (H' p) := by first | exact NC.of (by assumption) (by trivial) | exact Wr.nc (by assumption)) : Same H (upd H' p o) := e.over n nc
/-! ### entries and trees -/
inductive Ent where
  | folder (t : List Nat)
  | file (t : List Nat) (b : List Int)
  | link (t : List Nat) (g : List Nat)
deriving DecidableEq
def Ent.path : Ent → List Nat
  | .folder t => t
  | .file t _ => t
  | .link t _ => t
def Ent.isFolder : Ent → Bool
  | .folder _ => true
  | _ => false
def sd (x : String) : PyData := .str (Str.ofString x)
def td (l : List Nat) : PyData := .str (mkS l)
def dEnt : Ent → PyData
  | .folder t => .tuple [sd "folder", td t]
  | .file t b => .tuple [sd "file", td t, dInts b]
  | .link t g => .tuple [sd "link", td t, td g]
def PathT (t : List Nat) : Prop := PathOk (splitC 47 t)
def aboveT (t : List Nat) : List (List Nat) := aboveF (splitC 47 t)
def GoalT (g : List Nat) : Prop := (splitC 47 g).length ≤ 8 ∧ ∀ p ∈ splitC 47 g, p = dots ∨ partOk p
def EntOk : Ent → Prop
  | .folder t => PathT t
  | .file t b => PathT t ∧ Byt b ∧ b.length ≤ 1000
  | .link t g => PathT t ∧ GoalT g
def dTree (es : List Ent) : PyData := .tuple (es.map dEnt)
structure TreeOk (es : List Ent) : Prop where
  ok : ∀ e ∈ es, EntOk e
  rise : es.Pairwise fun a b => a.path < b.path
  up : ∀ e ∈ es, ∀ a ∈ aboveT e.path, Ent.folder a ∈ es
  few : es.length ≤ 100
theorem EntOk.path {e : Ent} (h : EntOk e) : PathT e.path := by
  cases e with
  | folder t => exact h
  | file t b => exact h.1
  | link t g => exact h.1
theorem EntOk.small {e : Ent} (h : EntOk e) : ∀ t b, e = .file t b → b.length ≤ 1000 := by
  intro t b z
  rw [z] at h
  exact h.2.2
theorem join_split (c : Nat) : ∀ l : List Nat, joinC c (splitC c l) = l
  | [] => rfl
  | x :: r => by
    have ih := join_split c r
    rw [splitC]
    cases e : splitC c r with
    | nil => exact absurd e (splitC_ne c r)
    | cons p ps =>
      rw [e] at ih
      by_cases z : x = c
      · rw [if_pos z]
        have : joinC c ([] :: p :: ps) = c :: joinC c (p :: ps) := by
          show ([] : List Nat) ++ ([c] ++ TL.joinL [c] (p :: ps)) = _
          rfl
        rw [this, ih, z]
      · rw [if_neg z]
        cases ps with
        | nil =>
          have e1 : joinC c [p] = p := rfl
          rw [e1] at ih
          show x :: p = _
          rw [ih]
        | cons p2 ps2 =>
          have e1 : joinC c (p :: p2 :: ps2) = p ++ ([c] ++ TL.joinL [c] (p2 :: ps2)) := rfl
          rw [e1] at ih
          show (x :: p) ++ ([c] ++ TL.joinL [c] (p2 :: ps2)) = _
          rw [List.cons_append, ih]
theorem pathOf_parts (t : List Nat) : pathOf (splitC 47 t) = t := join_split 47 t
theorem PathT.of {ps : List (List Nat)} (h : PathOk ps) : PathT (pathOf ps) := by
  unfold PathT
  rw [split_path h]
  exact h
theorem aboveT_of {ps : List (List Nat)} (h : PathOk ps) : aboveT (pathOf ps) = aboveF ps := by
  unfold aboveT
  rw [split_path h]
theorem PathT.len {t : List Nat} (h : PathT t) : t.length ≤ 104 := by
  have := pathOf_len h
  rw [pathOf_parts] at this
  exact this
theorem PathT.ne {t : List Nat} (h : PathT t) : t ≠ [] := by
  have := pathOf_ne h
  rw [pathOf_parts] at this
  exact this
theorem aboveF_mem {ps : List (List Nat)} {a : List Nat} (h : a ∈ aboveF ps) : ∃ k, k + 1 < ps.length ∧ a = pathOf (ps.take (k + 1)) := by
  unfold aboveF at h
  obtain ⟨k, hk, rfl⟩ := List.mem_map.mp h
  rw [List.mem_range] at hk
  exact ⟨k, by omega, rfl⟩
theorem take_ok {ps : List (List Nat)} (h : PathOk ps) (k : Nat) : PathOk (ps.take (k + 1)) := by
  refine ⟨fun e => h.1 ?_, by rw [List.length_take]; have := h.2.1; omega, fun p hp => h.2.2 p ((List.take_sublist _ _).mem hp)⟩
  have := congrArg List.length e
  rw [List.length_take, List.length_nil] at this
  exact List.eq_nil_of_length_eq_zero (by omega)
theorem above_ok {t a : List Nat} (h : PathT t) (ha : a ∈ aboveT t) : PathT a := by
  obtain ⟨k, _, rfl⟩ := aboveF_mem ha
  exact PathT.of (take_ok h k)
/-- what is above what is above is above -/
theorem above_above {t a b : List Nat} (h : PathT t) (ha : a ∈ aboveT t) (hb : b ∈ aboveT a) : b ∈ aboveT t := by
  obtain ⟨k, lk, rfl⟩ := aboveF_mem ha
  rw [aboveT_of (take_ok h k)] at hb
  obtain ⟨j, lj, rfl⟩ := aboveF_mem hb
  rw [List.length_take] at lj
  unfold aboveT aboveF
  refine List.mem_map.mpr ⟨j, List.mem_range.mpr (by omega), ?_⟩
  rw [List.take_take, Nat.min_eq_left (by omega)]
theorem above_ne {t a : List Nat} (h : PathT t) (ha : a ∈ aboveT t) : a ≠ t := by
  obtain ⟨k, lk, rfl⟩ := aboveF_mem ha
  intro e
  have e2 : (splitC 47 (pathOf ((splitC 47 t).take (k + 1)))).length = (splitC 47 t).length := by rw [e]
  rw [split_path (take_ok h k), List.length_take] at e2
  omega
theorem dEnt_ok {e : Ent} (h : ∀ t b, e = .file t b → b.length ≤ 1000) : tupsOnly (dEnt e) = true ∧ PyData.depth (dEnt e) ≤ 2 := by
  cases e with
  | folder t => exact ⟨rfl, show max 0 (max 0 0) + 1 ≤ 2 by decide⟩
  | file t b =>
    have l := h t b rfl
    have k := dInts_ok b (by omega)
    constructor
    · show (decide ((3 : Nat) ≤ 100000) && (true && (true && (tupsOnly (dInts b) && true)))) = true
      rw [k.1]
      rfl
    · show max 0 (max 0 (max (PyData.depth (dInts b)) 0)) + 1 ≤ 2
      have := k.2
      omega
  | link t g => exact ⟨rfl, show max 0 (max 0 (max 0 0)) + 1 ≤ 2 by decide⟩
theorem dTree_ok {es : List Ent} (h : ∀ e ∈ es, ∀ t b, e = .file t b → b.length ≤ 1000) (few : es.length ≤ 100000) : tupsOnly (dTree es) = true ∧ PyData.depth (dTree es) ≤ 3 := by
  have all : ∀ (fs : List Ent), (∀ e ∈ fs, ∀ t b, e = .file t b → b.length ≤ 1000) → tupsAll (fs.map dEnt) = true ∧ PyData.depthAll (fs.map dEnt) ≤ 2 := by
    intro fs
    induction fs with
    | nil => intro _; exact ⟨rfl, by decide⟩
    | cons e r ih =>
      intro h
      have h1 := dEnt_ok (h e (by simp))
      have h2 := ih fun x hx => h x (List.mem_cons_of_mem _ hx)
      constructor
      · rw [List.map_cons, tupsAll, h1.1, h2.1]
        rfl
      · rw [List.map_cons, PyData.depthAll]
        have := h1.2
        have := h2.2
        omega
  have k := all es h
  constructor
  · unfold dTree
    rw [tupsOnly, k.1, decide_eq_true (by rw [List.length_map]; exact few)]
    rfl
  · unfold dTree
    rw [PyData.depth]
    have := k.2
    omega
/-- an entry in the heap: its parts -/
theorem dpEnt {K : PySem.W.Frag} {H : Hp} {v : V} {e : Ent} (h : Dp K H v (dEnt e)) : ∃ t xs, v = .ref t ∧ SqT K H t xs ∧ (match e with
    | .folder p => xs = [.str (Str.ofString "folder"), T p]
    | .file p b => ∃ u, xs = [.str (Str.ofString "file"), T p, .ref u] ∧ SqT K H u (b.map V.int)
    | .link p g => xs = [.str (Str.ofString "link"), T p, T g]) := by
  cases e with
  | folder p =>
    cases h with
    | tup h hs =>
      cases hs with
      | cons h1 hs =>
        cases hs with
        | cons h2 hs =>
          cases hs
          cases h1
          cases h2
          exact ⟨_, _, rfl, h, rfl⟩
  | file p b =>
    cases h with
    | tup h hs =>
      cases hs with
      | cons h1 hs =>
        cases hs with
        | cons h2 hs =>
          cases hs with
          | cons h3 hs =>
            cases hs
            cases h1
            cases h2
            cases h3 with
            | tup g gs =>
              refine ⟨_, _, rfl, h, _, rfl, ?_⟩
              have : ∀ {vs : List V} {b : List Int}, DpAll K H vs (b.map PyData.int) → vs = b.map V.int := by
                intro vs b
                induction b generalizing vs with
                | nil => intro k; cases k; rfl
                | cons x r ih =>
                  intro k
                  cases k with
                  | cons k1 ks =>
                    cases k1
                    rw [ih ks]
                    rfl
              rw [← this gs]
              exact g
  | link p g =>
    cases h with
    | tup h hs =>
      cases hs with
      | cons h1 hs =>
        cases hs with
        | cons h2 hs =>
          cases hs with
          | cons h3 hs =>
            cases hs
            cases h1
            cases h2
            cases h3
            exact ⟨_, _, rfl, h, rfl⟩
theorem dEnt_folder {K : PySem.W.Frag} {H : Hp} {t : Addr} {p : List Nat} (h : SqT K H t [.str (Str.ofString "folder"), T p]) : Dp K H (.ref t) (dEnt (.folder p)) := .tup h (.cons (.str _) (.cons (.str _) .nil))
theorem dEnt_link {K : PySem.W.Frag} {H : Hp} {t : Addr} {p g : List Nat} (h : SqT K H t [.str (Str.ofString "link"), T p, T g]) : Dp K H (.ref t) (dEnt (.link p g)) := .tup h (.cons (.str _) (.cons (.str _) (.cons (.str _) .nil)))
theorem dEnt_file {K : PySem.W.Frag} {H : Hp} {t u : Addr} {p : List Nat} {b : List Int} (h : SqT K H t [.str (Str.ofString "file"), T p, .ref u]) (g : SqT K H u (b.map V.int)) : Dp K H (.ref t) (dEnt (.file p b)) := .tup h (.cons (.str _) (.cons (.str _) (.cons (dpTup g) .nil)))
end Fc

namespace Fc
open PySem PySem.Spec L2 PyProof.Rows
variable [LamNames]
/-! ### a dict of entries by their paths -/
def kT (t : List Nat) : Key := .inr (mkS t)
theorem kT_inj {a b : List Nat} (h : kT a = kT b) : a = b := mkS_inj (Sum.inr.inj h)
def OneE (K : PySem.W.Frag) (H : Hp) (e : Ent) (kv : Key × V) : Prop := kv.1 = kT e.path ∧ Dp K H kv.2 (dEnt e)
abbrev OnE (K : PySem.W.Frag) (H : Hp) (es : List Ent) (kvs : List (Key × V)) : Prop := Al2 (OneE K H) es kvs
def atE (es : List Ent) (t : List Nat) : Option Ent := es.find? fun e => decide (e.path = t)
def putE (es : List Ent) (e : Ent) : List Ent := if (es.any fun x => decide (x.path = e.path)) = true then es.map (fun x => if x.path = e.path then e else x) else es ++ [e]
theorem onE_get {K : PySem.W.Frag} {H : Hp} (t : List Nat) : ∀ {es : List Ent} {kvs : List (Key × V)}, OnE K H es kvs → (atE es t = none ∧ valV kvs (kT t) = none) ∨ ∃ e v, atE es t = some e ∧ valV kvs (kT t) = some v ∧ Dp K H v (dEnt e)
  | _, _, .nil => .inl ⟨rfl, rfl⟩
  | e :: es, kv :: kvs, .cons h hs => by
    by_cases z : e.path = t
    · refine .inr ⟨e, kv.2, ?_, valV_pos (by rw [h.1, z]), h.2⟩
      unfold atE
      rw [List.find?_cons_of_pos (by simpa using z)]
    · have nz : ¬ kv.1 = kT t := fun k => z (kT_inj (h.1.symm.trans k))
      have e1 : atE (e :: es) t = atE es t := by
        unfold atE
        rw [List.find?_cons_of_neg (by simpa using z)]
      rw [e1, valV_neg nz]
      exact onE_get t hs
theorem onE_any {K : PySem.W.Frag} {H : Hp} (t : List Nat) : ∀ {es : List Ent} {kvs : List (Key × V)}, OnE K H es kvs → (kvs.any fun kv => decide (kv.1 = kT t)) = es.any fun x => decide (x.path = t)
  | _, _, .nil => rfl
  | e :: es, kv :: kvs, .cons h hs => by
    rw [List.any_cons, List.any_cons, onE_any t hs]
    congr 1
    by_cases z : e.path = t
    · rw [decide_eq_true z]
      exact decide_eq_true (by rw [h.1, z])
    · rw [decide_eq_false z]
      exact decide_eq_false fun k => z (kT_inj (h.1.symm.trans k))
theorem onE_map {K : PySem.W.Frag} {H : Hp} {e : Ent} {v : V} (hv : Dp K H v (dEnt e)) : ∀ {es : List Ent} {kvs : List (Key × V)}, OnE K H es kvs → OnE K H (es.map fun x => if x.path = e.path then e else x) (kvs.map fun kv => if kv.1 = kT e.path then (kv.1, v) else kv)
  | _, _, .nil => .nil
  | x :: es, kv :: kvs, .cons h hs => by
    rw [List.map_cons, List.map_cons]
    refine .cons ?_ (onE_map hv hs)
    by_cases z : x.path = e.path
    · have z2 : kv.1 = kT e.path := by rw [h.1, z]
      rw [if_pos z, if_pos z2]
      exact ⟨z2, hv⟩
    · have nz : ¬ kv.1 = kT e.path := fun k => z (kT_inj (h.1.symm.trans k))
      rw [if_neg z, if_neg nz]
      exact h
theorem onE_put {K : PySem.W.Frag} {H : Hp} {e : Ent} {v : V} {es : List Ent} {kvs : List (Key × V)} (h : OnE K H es kvs) (hv : Dp K H v (dEnt e)) : OnE K H (putE es e) (putK kvs (kT e.path) v) := by
  unfold putE putK
  rw [onE_any e.path h]
  by_cases z : (es.any fun x => decide (x.path = e.path)) = true
  · rw [if_pos z, if_pos z]
    exact onE_map hv h
  · rw [if_neg z, if_neg z]
    exact h.snoc ⟨rfl, hv⟩
def SmallE (es : List Ent) : Prop := ∀ e ∈ es, ∀ t b, e = .file t b → b.length ≤ 1000
theorem SmallE.tail {e : Ent} {es : List Ent} (h : SmallE (e :: es)) : SmallE es := fun x hx => h x (List.mem_cons_of_mem _ hx)
theorem onE_keep {K : PySem.W.Frag} {H H' : Hp} (s : Same H H') {es : List Ent} {kvs : List (Key × V)} (h : OnE K H es kvs) : OnE K H' es kvs := h.mono fun e kv k => ⟨k.1, dpKeep s k.2⟩
theorem onE_over {K : PySem.W.Frag} {H : Hp} {p : Addr} {o : HO} (w : Wr H p) : ∀ {es : List Ent} {kvs : List (Key × V)}, SmallE es → OnE K H es kvs → OnE K (upd H p o) es kvs
  | _, _, _, .nil => .nil
  | e :: es, kv :: kvs, sm, .cons h hs => .cons ⟨h.1, dpOver w (dEnt_ok (sm e (by simp))).1 h.2⟩ (onE_over w sm.tail hs)
theorem onE_keys {K : PySem.W.Frag} {H : Hp} : ∀ {es : List Ent} {kvs : List (Key × V)}, OnE K H es kvs → kvs.map (·.1) = (es.map fun e => mkS e.path).map Sum.inr
  | _, _, .nil => rfl
  | e :: es, kv :: kvs, .cons h hs => by rw [List.map_cons, List.map_cons, List.map_cons, h.1, onE_keys hs]; rfl
theorem atE_mem {es : List Ent} {t : List Nat} {e : Ent} (h : atE es t = some e) : e ∈ es ∧ e.path = t := ⟨List.mem_of_find?_eq_some h, by
  have := List.find?_some (p := fun e : Ent => decide (e.path = t)) h
  exact of_decide_eq_true this⟩
theorem atE_none {es : List Ent} {t : List Nat} (h : atE es t = none) : ∀ e ∈ es, e.path ≠ t := fun e he k => by
  have := List.find?_eq_none.mp h e he
  exact this (decide_eq_true k)
/-! ### the paths of a growing dict -/
abbrev Nod (es : List Ent) : Prop := (es.map Ent.path).Nodup
theorem Nod.eq {es : List Ent} (h : Nod es) {a b : Ent} (ha : a ∈ es) (hb : b ∈ es) (e : a.path = b.path) : a = b := by
  induction es with
  | nil => cases ha
  | cons x r ih =>
    rw [Nod, List.map_cons, List.nodup_cons] at h
    rcases List.mem_cons.mp ha with ka | ka
    · rcases List.mem_cons.mp hb with kb | kb
      · rw [ka, kb]
      · exact absurd (List.mem_map.mpr ⟨b, kb, by rw [← e, ka]⟩) h.1
    · rcases List.mem_cons.mp hb with kb | kb
      · exact absurd (List.mem_map.mpr ⟨a, ka, by rw [e, kb]⟩) h.1
      · exact ih h.2 ka kb
theorem atE_of {es : List Ent} (h : Nod es) {e : Ent} (he : e ∈ es) : atE es e.path = some e := by
  cases k : atE es e.path with
  | none => exact absurd rfl (atE_none k e he)
  | some x =>
    obtain ⟨hx, px⟩ := atE_mem k
    rw [h.eq hx he px]
theorem putE_new {es : List Ent} {e : Ent} (h : ∀ x ∈ es, x.path ≠ e.path) : putE es e = es ++ [e] := by
  unfold putE
  rw [if_neg]
  intro z
  obtain ⟨x, hx, k⟩ := List.any_eq_true.mp z
  exact h x hx (of_decide_eq_true k)
theorem putE_same {es : List Ent} {e : Ent} (h : ∀ x ∈ es, x.path = e.path → x = e) (he : ∃ x ∈ es, x.path = e.path) : putE es e = es := by
  unfold putE
  obtain ⟨x, hx, px⟩ := he
  rw [if_pos (List.any_eq_true.mpr ⟨x, hx, decide_eq_true px⟩)]
  have : es.map (fun x => if x.path = e.path then e else x) = es.map id := List.map_congr_left fun y hy => by
    by_cases z : y.path = e.path
    · rw [if_pos z]
      exact (h y hy z).symm
    · rw [if_neg z]
      rfl
  rw [this, List.map_id]
theorem nod_snoc {es : List Ent} {e : Ent} (h : Nod es) (n : ∀ x ∈ es, x.path ≠ e.path) : Nod (es ++ [e]) := by
  unfold Nod
  rw [List.map_append, List.nodup_append]
  refine ⟨h, by simp, fun a ha b hb k => ?_⟩
  obtain ⟨x, hx, rfl⟩ := List.mem_map.mp ha
  rw [List.map_cons, List.map_nil, List.mem_singleton] at hb
  exact n x hx (k.trans hb)
/-- the folders above are put in -/
structure Grown (es : List Ent) (as : List (List Nat)) (fs : List Ent) : Prop where
  nod : Nod fs
  old : ∀ e ∈ es, e ∈ fs
  new : ∀ e ∈ fs, e ∈ es ∨ ∃ a ∈ as, e = .folder a
  all : ∀ a ∈ as, Ent.folder a ∈ fs
  few : fs.length ≤ es.length + as.length
theorem Grown.nil {es : List Ent} (h : Nod es) : Grown es [] es := ⟨h, fun _ h => h, fun e h => .inl h, fun a h => (by cases h), by simp⟩
theorem Grown.step {es fs : List Ent} {as : List (List Nat)} {a : List Nat} (g : Grown es as fs) (nb : ∀ e ∈ es, e.path = a → e = .folder a) : Grown es (as ++ [a]) (putE fs (.folder a)) := by
  have same : ∀ x ∈ fs, x.path = (Ent.folder a).path → x = .folder a := fun x hx px => by
    rcases g.new x hx with h | ⟨b, _, rfl⟩
    · exact nb x h px
    · have : b = a := px
      rw [this]
  by_cases z : ∃ x ∈ fs, x.path = (Ent.folder a).path
  · rw [putE_same same z]
    refine ⟨g.nod, g.old, fun e he => ?_, fun b hb => ?_, by rw [List.length_append]; have := g.few; simp only [List.length_cons, List.length_nil]; omega⟩
    · rcases g.new e he with h | ⟨b, hb, h⟩
      · exact .inl h
      · exact .inr ⟨b, List.mem_append_left _ hb, h⟩
    · rcases List.mem_append.mp hb with hb | hb
      · exact g.all b hb
      · rw [List.mem_singleton.mp hb]
        obtain ⟨x, hx, px⟩ := z
        rw [← same x hx px]
        exact hx
  · have n : ∀ x ∈ fs, x.path ≠ (Ent.folder a).path := fun x hx k => z ⟨x, hx, k⟩
    rw [putE_new n]
    refine ⟨nod_snoc g.nod n, fun e he => List.mem_append_left _ (g.old e he), fun e he => ?_, fun b hb => ?_, by rw [List.length_append, List.length_append]; have := g.few; simp only [List.length_cons, List.length_nil]; omega⟩
    · rcases List.mem_append.mp he with he | he
      · rcases g.new e he with h | ⟨b, hb, h⟩
        · exact .inl h
        · exact .inr ⟨b, List.mem_append_left _ hb, h⟩
      · rw [List.mem_singleton.mp he]
        exact .inr ⟨a, by simp, rfl⟩
    · rcases List.mem_append.mp hb with hb | hb
      · exact List.mem_append_left _ (g.all b hb)
      · rw [List.mem_singleton.mp hb]
        simp
/-- a dict whose entries and folders are right -/
structure Stock (es : List Ent) : Prop where
  nod : Nod es
  ok : ∀ e ∈ es, EntOk e
  up : ∀ e ∈ es, ∀ a ∈ aboveT e.path, Ent.folder a ∈ es
theorem Stock.small {es : List Ent} (h : Stock es) : SmallE es := fun e he => (h.ok e he).small
theorem Stock.put {es fs : List Ent} {e : Ent} (h : Stock es) (g : Grown es (aboveT e.path) fs) (he : EntOk e) (n : ∀ x ∈ es, x.path ≠ e.path) : Stock (putE fs e) ∧ (putE fs e).length ≤ es.length + (aboveT e.path).length + 1 := by
  have n2 : ∀ x ∈ fs, x.path ≠ e.path := fun x hx => by
    rcases g.new x hx with k | ⟨a, ha, rfl⟩
    · exact n x k
    · exact above_ne he.path ha
  rw [putE_new n2]
  refine ⟨⟨nod_snoc g.nod n2, fun x hx => ?_, fun x hx a ha => ?_⟩, by rw [List.length_append]; have := g.few; simp only [List.length_cons, List.length_nil]; omega⟩
  · rcases List.mem_append.mp hx with hx | hx
    · rcases g.new x hx with k | ⟨a, ha, rfl⟩
      · exact h.ok x k
      · exact above_ok he.path ha
    · rw [List.mem_singleton.mp hx]
      exact he
  · rcases List.mem_append.mp hx with hx | hx
    · rcases g.new x hx with k | ⟨b, hb, rfl⟩
      · exact List.mem_append_left _ (g.old _ (h.up x k a ha))
      · exact List.mem_append_left _ (g.all _ (above_above he.path hb ha))
    · rw [List.mem_singleton.mp hx] at ha
      exact List.mem_append_left _ (g.all a ha)
/-! ### put in order -/
theorem lt_of_rising {x : Str} {r : List Str} (h : risingS x r = true) : ∀ y ∈ r, ltCps y.cps.toList x.cps.toList = false := by
  induction r generalizing x with
  | nil => intro y hy; cases hy
  | cons z r ih =>
    intro y hy
    have h' : (!ltCps z.cps.toList x.cps.toList && risingS z r) = true := h
    rw [Bool.and_eq_true, Bool.not_eq_true'] at h'
    rcases List.mem_cons.mp hy with rfl | hy
    · exact h'.1
    · have k := ih h'.2 y hy
      have h1 := h'.1
      rw [ltCps_eq] at k h1 ⊢
      rw [decide_eq_false_iff_not] at k h1 ⊢
      intro q
      rcases Decidable.em (x.cps.toList < z.cps.toList) with p | p
      · exact k (List.lt_trans q p)
      · have e : x.cps.toList = z.cps.toList := List.le_antisymm (List.not_lt.mp h1) (List.not_lt.mp p)
        rw [e] at q
        exact k q
theorem sorted_pairwise : ∀ {l : List Str}, sortedS l = true → l.Pairwise fun a b => ltCps b.cps.toList a.cps.toList = false
  | [], _ => .nil
  | x :: r, h => .cons (lt_of_rising h) (by
    cases r with
    | nil => exact .nil
    | cons z r =>
      have h' : (!ltCps z.cps.toList x.cps.toList && risingS z r) = true := h
      rw [Bool.and_eq_true] at h'
      exact sorted_pairwise (l := z :: r) h'.2)
theorem sorted_paths {ys : List (List Nat)} (h : sortedS (ys.map mkS) = true) (nd : ys.Nodup) : ys.Pairwise (· < ·) := by
  have p := List.pairwise_map.mp (sorted_pairwise h)
  refine (p.and nd).imp fun {a b} k => ?_
  have k1 : ltCps b a = false := k.1
  rw [ltCps_eq, decide_eq_false_iff_not] at k1
  rcases Decidable.em (a < b) with q | q
  · exact q
  · exact absurd (List.le_antisymm (List.not_lt.mp k1) (List.not_lt.mp q)) k.2
/-- the tree that a stock makes, its entries in the order of the paths -/
theorem Stock.tree {es fs : List Ent} {ys : List (List Nat)} (h : Stock es) (pm : ys.Perm (es.map Ent.path)) (so : sortedS (ys.map mkS) = true) (ef : fs.map Ent.path = ys) (sub : ∀ e ∈ fs, e ∈ es) (few : es.length ≤ 100) : TreeOk fs := by
  have nd : ys.Nodup := pm.nodup_iff.mpr h.nod
  refine ⟨fun e he => h.ok e (sub e he), ?_, fun e he a ha => ?_, ?_⟩
  · have := sorted_paths so nd
    rw [← ef, List.pairwise_map] at this
    exact this
  · have hm := h.up e (sub e he) a ha
    have : a ∈ ys := pm.mem_iff.mpr (List.mem_map.mpr ⟨_, hm, rfl⟩)
    rw [← ef] at this
    obtain ⟨x, hx, px⟩ := List.mem_map.mp this
    have : x = .folder a := h.nod.eq (sub x hx) hm px
    rw [← this]
    exact hx
  · have l1 := congrArg List.length ef
    have l2 := pm.length_eq
    rw [List.length_map] at l1 l2
    omega
/-! ### the word and the path of an entry -/
def wordOf : Ent → V
  | .folder _ => .str (Str.ofString "folder")
  | .file _ _ => .str (Str.ofString "file")
  | .link _ _ => .str (Str.ofString "link")
theorem word_ne (e : Ent) : (!decide (wordOf e = V.str (Str.ofString "folder"))) = !e.isFolder := by
  cases e with
  | folder t => exact congrArg (!·) (decide_eq_true rfl)
  | file t b => exact congrArg (!·) (decide_eq_false fun k => absurd (V.str.inj k) (by decide +kernel))
  | link t g => exact congrArg (!·) (decide_eq_false fun k => absurd (V.str.inj k) (by decide +kernel))
theorem dpWord {K : PySem.W.Frag} {H : Hp} {v : V} {e : Ent} (h : Dp K H v (dEnt e)) : ∃ t xs, v = .ref t ∧ SqT K H t xs ∧ xs[0]? = some (wordOf e) ∧ xs[1]? = some (T e.path) := by
  obtain ⟨t, xs, rfl, ht, k⟩ := dpEnt h
  refine ⟨t, xs, rfl, ht, ?_⟩
  cases e with
  | folder p => rw [k]; exact ⟨rfl, rfl⟩
  | file p b => obtain ⟨u, rfl, _⟩ := k; exact ⟨rfl, rfl⟩
  | link p g => rw [k]; exact ⟨rfl, rfl⟩
theorem choose_ents {K : PySem.W.Frag} {H : Hp} {es : List Ent} : ∀ {xs ys : List V}, Al2 (fun x y => ∃ e ∈ es, x = T e.path ∧ Dp K H y (dEnt e)) xs ys → ∃ fs : List Ent, xs = fs.map (fun e => T e.path) ∧ (∀ e ∈ fs, e ∈ es) ∧ DpAll K H ys (fs.map dEnt)
  | _, _, .nil => ⟨[], rfl, (fun e h => by cases h), .nil⟩
  | _, _, .cons ⟨e, he, hx, hd⟩ hs => by
    obtain ⟨fs, hf, hm, hD⟩ := choose_ents hs
    refine ⟨e :: fs, by rw [hx, hf]; rfl, fun x hx => ?_, .cons hd hD⟩
    rcases List.mem_cons.mp hx with rfl | hx
    · exact he
    · exact hm x hx
end Fc

namespace Fc
open PySem PySem.Spec L2 PyProof.Rows
variable [LamNames]
/-! ### things that are not too large -/
mutual
def fineB : PyData → Bool
  | .none | .bool _ | .int _ => true
  | .str x => PyData.canLay0 (.str x) && decide (x.length ≤ 2000)
  | .list ds => decide (ds.length ≤ 5000) && fineAll ds
  | .tuple ds => decide (ds.length ≤ 5000) && fineAll ds
  | .dict _ => false
def fineAll : List PyData → Bool
  | [] => true
  | d :: r => fineB d && fineAll r
end
mutual
theorem fine_lay : ∀ {d : PyData}, fineB d = true → PyData.canLay0 d = true
  | .none, _ => by simp [PyData.canLay0]
  | .bool _, _ => by simp [PyData.canLay0]
  | .int _, _ => by simp [PyData.canLay0]
  | .str x, h => by
    rw [fineB, Bool.and_eq_true] at h
    exact h.1
  | .list ds, h => by
    rw [fineB, Bool.and_eq_true] at h
    rw [PyData.canLay0]
    exact fine_layAll h.2
  | .tuple ds, h => by
    rw [fineB, Bool.and_eq_true] at h
    rw [PyData.canLay0]
    exact fine_layAll h.2
  | .dict _, h => by simp [fineB] at h
theorem fine_layAll : ∀ {ds : List PyData}, fineAll ds = true → PyData.canLayAll0 ds = true
  | [], _ => by simp [PyData.canLayAll0]
  | d :: r, h => by
    rw [fineAll, Bool.and_eq_true] at h
    rw [PyData.canLayAll0, fine_lay h.1, fine_layAll h.2]
    rfl
end
def Fine (n : Nat) (d : PyData) : Prop := fineB d = true ∧ d.depth ≤ n
theorem Fine.shaped {n : Nat} {d : PyData} (h : Fine n d) (hn : n ≤ 20 := by decide) : SeqAt.shaped d = true := by
  unfold SeqAt.shaped
  rw [fine_lay h.1, decide_eq_true (Nat.le_trans h.2 (by omega))]
  rfl
theorem Fine.mono {n m : Nat} {d : PyData} (h : Fine n d) (hn : n ≤ m) : Fine m d := ⟨h.1, Nat.le_trans h.2 hn⟩
theorem fineAll_get : ∀ {ds : List PyData} {i : Nat} {d : PyData}, fineAll ds = true → ds[i]? = some d → fineB d = true
  | [], _, _, _, h => by cases h
  | x :: r, 0, d, h, e => by
    rw [fineAll, Bool.and_eq_true] at h
    cases e
    exact h.1
  | x :: r, i + 1, d, h, e => by
    rw [fineAll, Bool.and_eq_true] at h
    exact fineAll_get h.2 e
theorem Fine.get {n : Nat} {ds : List PyData} {i : Nat} {d : PyData} (h : Fine (n + 1) (.tuple ds)) (e : ds[i]? = some d) : Fine n d := by
  obtain ⟨h1, h2⟩ := h
  rw [fineB, Bool.and_eq_true] at h1
  rw [PyData.depth] at h2
  exact ⟨fineAll_get h1.2 e, Nat.le_trans (depth_get e) (by omega)⟩
theorem Fine.getL {n : Nat} {ds : List PyData} {i : Nat} {d : PyData} (h : Fine (n + 1) (.list ds)) (e : ds[i]? = some d) : Fine n d := by
  obtain ⟨h1, h2⟩ := h
  rw [fineB, Bool.and_eq_true] at h1
  rw [PyData.depth] at h2
  exact ⟨fineAll_get h1.2 e, Nat.le_trans (depth_get e) (by omega)⟩
theorem Fine.few {n : Nat} {ds : List PyData} (h : Fine n (.tuple ds)) : ds.length ≤ 5000 := by
  have h1 := h.1
  rw [fineB, Bool.and_eq_true] at h1
  exact of_decide_eq_true h1.1
theorem Fine.fewL {n : Nat} {ds : List PyData} (h : Fine n (.list ds)) : ds.length ≤ 5000 := by
  have h1 := h.1
  rw [fineB, Bool.and_eq_true] at h1
  exact of_decide_eq_true h1.1
theorem Fine.len {n : Nat} {x : Str} (h : Fine n (.str x)) : (TL.tl x).length ≤ 2000 := by
  have h1 := h.1
  rw [fineB, Bool.and_eq_true] at h1
  have := of_decide_eq_true h1.2
  rw [← TL.len_tl]
  exact this
theorem fineAll_of : ∀ {ds : List PyData}, (∀ d ∈ ds, fineB d = true) → fineAll ds = true
  | [], _ => rfl
  | d :: r, h => by
    rw [fineAll, h d (by simp), fineAll_of fun x hx => h x (List.mem_cons_of_mem _ hx)]
    rfl
theorem depthAll_of {n : Nat} : ∀ {ds : List PyData}, (∀ d ∈ ds, d.depth ≤ n) → PyData.depthAll ds ≤ n
  | [], _ => by rw [PyData.depthAll]; omega
  | d :: r, h => by
    rw [PyData.depthAll]
    exact Nat.max_le.mpr ⟨h d (by simp), depthAll_of fun x hx => h x (List.mem_cons_of_mem _ hx)⟩
theorem Fine.tup {n : Nat} {ds : List PyData} (few : ds.length ≤ 5000) (h : ∀ d ∈ ds, Fine n d) : Fine (n + 1) (.tuple ds) := by
  refine ⟨?_, ?_⟩
  · rw [fineB, decide_eq_true few, fineAll_of fun d hd => (h d hd).1]
    rfl
  · rw [PyData.depth]
    have := depthAll_of fun d hd => (h d hd).2
    omega
theorem Fine.lst {n : Nat} {ds : List PyData} (few : ds.length ≤ 5000) (h : ∀ d ∈ ds, Fine n d) : Fine (n + 1) (.list ds) := by
  refine ⟨?_, ?_⟩
  · rw [fineB, decide_eq_true few, fineAll_of fun d hd => (h d hd).1]
    rfl
  · rw [PyData.depth]
    have := depthAll_of fun d hd => (h d hd).2
    omega
/-! ### rows and entries, told by data -/
def RowT (l : List Nat) : Prop := (splitC 47 l).length ≤ 8 ∧ ∀ p ∈ splitC 47 l, partOk p
instance (l : List Nat) : Decidable (RowT l) := by
  unfold RowT
  infer_instance
def goalPart (p : List Nat) : Prop := p = [46, 46] ∨ partOk p
instance (p : List Nat) : Decidable (goalPart p) := by
  unfold goalPart
  infer_instance
def RowG (l : List Nat) : Prop := (splitC 47 l).length ≤ 8 ∧ ∀ p ∈ splitC 47 l, goalPart p
instance (l : List Nat) : Decidable (RowG l) := by
  unfold RowG
  infer_instance
def short : PyData → Prop
  | .str x => (TL.tl x).length ≤ 20000
  | _ => True
theorem Fine.shortD {n : Nat} {d : PyData} (h : Fine n d) : short d := by
  cases d with
  | str x =>
    have := h.len
    show _ ≤ 20000
    omega
  | _ => trivial
def pathB : PyData → Bool
  | .str x => decide (RowT (TL.tl x))
  | _ => false
def goalB : PyData → Bool
  | .str x => decide (RowG (TL.tl x))
  | _ => false
def bytesB : PyData → Bool
  | .tuple ds => ds.all byteB
  | _ => false
theorem td_tl (x : Str) : td (TL.tl x) = .str x := congrArg PyData.str (mkS_tl x)
theorem pathB_iff {d : PyData} : pathB d = true ↔ ∃ t, d = td t ∧ PathT t := by
  constructor
  · intro h
    cases d with
    | str x =>
      have r : RowT (TL.tl x) := of_decide_eq_true h
      exact ⟨TL.tl x, (td_tl x).symm, splitC_ne _ _, r.1, r.2⟩
    | _ => cases h
  · rintro ⟨t, rfl, p⟩
    exact decide_eq_true (show RowT t from ⟨p.2.1, p.2.2⟩)
theorem goalB_iff {d : PyData} : goalB d = true ↔ ∃ g, d = td g ∧ GoalT g := by
  constructor
  · intro h
    cases d with
    | str x =>
      have r : RowG (TL.tl x) := of_decide_eq_true h
      exact ⟨TL.tl x, (td_tl x).symm, r.1, r.2⟩
    | _ => cases h
  · rintro ⟨t, rfl, p⟩
    exact decide_eq_true (show RowG t from ⟨p.1, p.2⟩)
theorem byt_rows : ∀ {ds : List PyData}, ds.all byteB = true → ∃ b : List Int, ds = b.map PyData.int ∧ Byt b
  | [], _ => ⟨[], rfl, fun x hx => by cases hx⟩
  | d :: r, h => by
    rw [List.all_cons, Bool.and_eq_true] at h
    obtain ⟨b, rfl, hb⟩ := byt_rows h.2
    cases d with
    | int i =>
      have hi : (decide (0 ≤ i) && decide (i ≤ 255)) = true := h.1
      rw [Bool.and_eq_true, decide_eq_true_eq, decide_eq_true_eq] at hi
      refine ⟨i :: b, rfl, fun x hx => ?_⟩
      rcases List.mem_cons.mp hx with rfl | hx
      · omega
      · exact hb x hx
    | _ => exact absurd h.1 (by simp [byteB])
theorem byt_all {b : List Int} (h : Byt b) : (b.map PyData.int).all byteB = true := by
  rw [List.all_map, List.all_eq_true]
  intro x hx
  have := h x hx
  show (decide (0 ≤ x) && decide (x ≤ 255)) = true
  rw [decide_eq_true this.1, decide_eq_true (show x ≤ 255 by omega)]
  rfl
theorem bodyB_iff {d : PyData} : bodyB d = true ↔ ∃ b, d = dInts b ∧ Byt b ∧ b.length ≤ 1000 := by
  constructor
  · intro h
    cases d with
    | tuple ds =>
      have h' : (decide (ds.length ≤ 1000) && ds.all byteB) = true := h
      rw [Bool.and_eq_true, decide_eq_true_eq] at h'
      obtain ⟨b, rfl, hb⟩ := byt_rows h'.2
      exact ⟨b, rfl, hb, by have := h'.1; rwa [List.length_map] at this⟩
    | _ => cases h
  · rintro ⟨b, rfl, hb, l⟩
    show (decide ((b.map PyData.int).length ≤ 1000) && (b.map PyData.int).all byteB) = true
    rw [byt_all hb, decide_eq_true (by rw [List.length_map]; exact l)]
    rfl
theorem eqv_sd {d : PyData} {x : String} : PyData.eqv d (sd x) = true ↔ d = sd x := by
  constructor
  · intro h
    cases d with
    | str y =>
      have h' : (y == Str.ofString x) = true := by simpa [PyData.eqv, sd] using h
      show PyData.str y = PyData.str _
      rw [eq_of_beq h']
    | _ => simp [PyData.eqv, sd] at h
  · rintro rfl
    simp [PyData.eqv, sd]
def EntD (d : PyData) : Prop := ∃ e, d = dEnt e ∧ EntOk e
theorem ent_words : sd "folder" ≠ sd "file" ∧ sd "folder" ≠ sd "link" ∧ sd "file" ≠ sd "link" := by
  refine ⟨fun k => ?_, fun k => ?_, fun k => ?_⟩ <;> exact absurd (PyData.str.inj k) (by decide +kernel)
theorem ent2 {a p : PyData} : EntD (.tuple [a, p]) ↔ pathB p = true ∧ a = sd "folder" := by
  rw [pathB_iff]
  constructor
  · rintro ⟨e, h, ok⟩
    cases e with
    | folder t => cases h; exact ⟨⟨t, rfl, ok⟩, rfl⟩
    | file t b => cases h
    | link t g => cases h
  · rintro ⟨⟨t, rfl, ok⟩, rfl⟩
    exact ⟨.folder t, rfl, ok⟩
theorem ent3 {a p x : PyData} : EntD (.tuple [a, p, x]) ↔ pathB p = true ∧ ((a = sd "file" ∧ bodyB x = true) ∨ (a = sd "link" ∧ goalB x = true)) := by
  rw [pathB_iff, bodyB_iff, goalB_iff]
  constructor
  · rintro ⟨e, h, ok⟩
    cases e with
    | folder t => cases h
    | file t b => cases h; exact ⟨⟨t, rfl, ok.1⟩, .inl ⟨rfl, b, rfl, ok.2.1, ok.2.2⟩⟩
    | link t g => cases h; exact ⟨⟨t, rfl, ok.1⟩, .inr ⟨rfl, g, rfl, ok.2⟩⟩
  · rintro ⟨⟨t, rfl, ok⟩, ⟨rfl, b, rfl, hb⟩ | ⟨rfl, g, rfl, hg⟩⟩
    · exact ⟨.file t b, rfl, ok, hb⟩
    · exact ⟨.link t g, rfl, ok, hg⟩
theorem ent_few {ds : List PyData} (h : ds.length < 2 ∨ 3 < ds.length) : ¬ EntD (.tuple ds) := by
  rintro ⟨e, k, _⟩
  cases e <;> (cases k; simp at h)
theorem ent_no {d : PyData} (h : isTup d = false) : ¬ EntD d := by
  rintro ⟨e, rfl, _⟩
  cases e <;> cases h
/-! ### trees, told by data -/
def pathAt (es : List Ent) (k : Nat) : List Nat := (es[k]?.map Ent.path).getD []
def riseB (es : List Ent) : Bool := (List.range (es.length - 1)).all fun k => decide (pathAt es k < pathAt es (k + 1))
def hasF (es : List Ent) (a : List Nat) : Bool := es.any fun x => x.isFolder && decide (x.path = a)
def foldB (es : List Ent) : Bool := es.all fun e => (aboveT e.path).all fun a => hasF es a
def areB (es : List Ent) : Bool := decide (es.length ≤ 100) && (riseB es && foldB es)
def TreeD (d : PyData) : Prop := ∃ es, d = dTree es ∧ (∀ e ∈ es, EntOk e) ∧ areB es = true
theorem dEnt_inj : ∀ {a b : Ent}, dEnt a = dEnt b → a = b := by
  have nts : ∀ {x y : List Int}, x.map PyData.int = y.map PyData.int → x = y := fun {x y} h => (List.map_inj_right fun a b k => PyData.int.inj k).mp h
  have tds : ∀ {x y : List Nat}, td x = td y → x = y := fun {x y} h => mkS_inj (PyData.str.inj h)
  intro a b h
  cases a with
  | folder t =>
    cases b with
    | folder u =>
      have h' := PyData.tuple.inj h
      simp only [List.cons.injEq, and_true, true_and] at h'
      rw [tds h']
    | file u b => simp [dEnt] at h
    | link u g => simp [dEnt] at h
  | file t x =>
    cases b with
    | folder u => simp [dEnt] at h
    | file u y =>
      have h' := PyData.tuple.inj h
      simp only [List.cons.injEq, and_true, true_and] at h'
      rw [tds h'.1, nts (PyData.tuple.inj h'.2)]
    | link u g =>
      have h' := PyData.tuple.inj h
      simp only [List.cons.injEq] at h'
      exact absurd h'.1 ent_words.2.2
  | link t x =>
    cases b with
    | folder u => simp [dEnt] at h
    | file u y =>
      have h' := PyData.tuple.inj h
      simp only [List.cons.injEq] at h'
      exact absurd h'.1.symm ent_words.2.2
    | link u y =>
      have h' := PyData.tuple.inj h
      simp only [List.cons.injEq, and_true, true_and] at h'
      rw [tds h'.1, tds h'.2]
theorem ents_of : ∀ {ds : List PyData}, (∀ d ∈ ds, EntD d) → ∃ es : List Ent, ds = es.map dEnt ∧ ∀ e ∈ es, EntOk e
  | [], _ => ⟨[], rfl, fun e h => by cases h⟩
  | d :: r, h => by
    obtain ⟨e, rfl, ok⟩ := h d (by simp)
    obtain ⟨es, rfl, oks⟩ := ents_of fun x hx => h x (List.mem_cons_of_mem _ hx)
    refine ⟨e :: es, rfl, fun x hx => ?_⟩
    rcases List.mem_cons.mp hx with rfl | hx
    · exact ok
    · exact oks x hx
theorem tree_iff {es : List Ent} (h : ∀ e ∈ es, EntOk e) : TreeD (dTree es) ↔ areB es = true := by
  constructor
  · rintro ⟨fs, k, _, a⟩
    have e : fs = es := (List.map_inj_right fun a b k => dEnt_inj k).mp (PyData.tuple.inj k).symm
    rw [← e]
    exact a
  · exact fun a => ⟨es, rfl, h, a⟩
theorem tree_ents {ds : List PyData} (h : TreeD (.tuple ds)) : ∀ d ∈ ds, EntD d := by
  obtain ⟨es, k, ok, _⟩ := h
  have k' := PyData.tuple.inj k
  subst k'
  intro d hd
  obtain ⟨e, he, rfl⟩ := List.mem_map.mp hd
  exact ⟨e, rfl, ok e he⟩
theorem tree_no {d : PyData} (h : isTup d = false) : ¬ TreeD d := by
  rintro ⟨es, rfl, _⟩
  cases h
/-! ### all(.. for x in a tuple), by places -/
section
open GxR
variable {j : Nat} {te : TE} {vs : List Nat} {σ : L2.St} {H1 : Hp} {Q : VK}
theorem gw_tupN {K : PySem.W.Frag} {a : Addr} {xs : List V} (test : Nat → Bool) (hs : SqT K H1 a xs) (hw : ∀ x, wipe ((wipe σ vs).set j (some x)) vs = wipe σ vs)
    (item : ∀ (i : Nat) (x : V) (H : Hp) (R : VK), xs[i]? = some x → Same H1 H → (∀ H', Same H H' → R (.bl (test i)) H') → te ((wipe σ vs).set j (some x)) H R) (hd : ∀ H', Same H1 H' → Q (.bl ((List.range xs.length).all test)) H') :
    ∃ W : Nat → Nat → Hp → Prop, (∃ m, W 0 m H1) ∧ GWalk (Itt K a) (gName j) tYes te vs σ (takeAll Q) (Q (.bl true)) W := by
  refine ⟨fun i m H => m = xs.length - i ∧ i ≤ xs.length ∧ Same H1 H ∧ ((List.range xs.length).take i).all test = true, ⟨xs.length, rfl, Nat.zero_le _, Same.refl _, rfl⟩, ?_⟩
  rintro i m H ⟨rfl, hi, sm, al⟩
  have q := keepT sm hs
  by_cases lt : i < xs.length
  · refine .inr ⟨⟨xs, xs[i], q, by simp [lt]⟩, fun H' => Same H1 H' ∧ ((List.range xs.length).take (i + 1)).all test = true, fun H' p => ⟨xs.length - (i + 1), by omega, rfl, lt, p.1, p.2⟩, fun x H' y => ?_⟩
    obtain ⟨e, y⟩ := y
    subst e
    have hx : (List.range xs.length)[i]? = some i := List.getElem?_range lt
    refine ⟨hw x, ?_⟩
    unfold tYes
    dsimp only
    rw [if_pos rfl]
    refine item i x _ _ (y xs q) sm fun H2 s2 => ⟨test i, rfl, fun k => ⟨sm.trans s2, by rw [take_all test hx, al, k]; rfl⟩, fun k => ?_⟩
    have := hd H2 (sm.trans s2)
    rw [all_false test hx k] at this
    exact this
  · have e : i = xs.length := by omega
    subst e
    rw [List.take_of_length_le (by rw [List.length_range]; exact Nat.le_refl _)] at al
    have := hd H sm
    rw [al] at this
    exact .inl ⟨⟨xs, q, Nat.le_refl _⟩, this⟩
end
end Fc

namespace Fc
open PySem PySem.Spec L2 PyProof.Rows
variable [LamNames]
/-! ### folders as trees: what is below a path, and what is put there -/
def Ent.re : Ent → List Nat → Ent
  | .folder _, t => .folder t
  | .file _ b, t => .file t b
  | .link _ g, t => .link t g
theorem re_path (e : Ent) (t : List Nat) : (e.re t).path = t := by cases e <;> rfl
theorem re_re (e : Ent) (t u : List Nat) : (e.re t).re u = e.re u := by cases e <;> rfl
theorem re_self (e : Ent) : e.re e.path = e := by cases e <;> rfl
theorem re_fol (e : Ent) (t : List Nat) : (e.re t).isFolder = e.isFolder := by cases e <;> rfl
theorem EntOk.re {e : Ent} (h : EntOk e) {t : List Nat} (p : PathT t) : EntOk (e.re t) := by
  cases e with
  | folder _ => exact p
  | file _ _ => exact ⟨p, h.2⟩
  | link _ _ => exact ⟨p, h.2⟩
def belowB (p q : List Nat) : Bool := (p ++ [47]).isPrefixOf q
theorem below_iff {p q : List Nat} : belowB p q = true ↔ ∃ r, q = p ++ 47 :: r := by
  unfold belowB
  rw [List.isPrefixOf_iff_prefix]
  constructor
  · rintro ⟨r, rfl⟩
    exact ⟨r, by simp⟩
  · rintro ⟨r, rfl⟩
    exact ⟨r, by simp⟩
theorem joinC_cons2 (c : Nat) (a : List Nat) {bs : List (List Nat)} (h : bs ≠ []) : joinC c (a :: bs) = a ++ c :: joinC c bs := by
  cases bs with
  | nil => exact absurd rfl h
  | cons b bs => rfl
theorem joinC_app (c : Nat) : ∀ {as bs : List (List Nat)}, as ≠ [] → bs ≠ [] → joinC c (as ++ bs) = joinC c as ++ c :: joinC c bs
  | [], _, h, _ => absurd rfl h
  | [a], bs, _, hb => by
    show joinC c (a :: bs) = _
    rw [joinC_cons2 c a hb]
    rfl
  | a :: b :: as, bs, _, hb => by
    show joinC c (a :: (b :: as ++ bs)) = _
    rw [joinC_cons2 c a (by simp), joinC_app c (as := b :: as) (by simp) hb, joinC_cons2 c a (bs := b :: as) (by simp)]
    simp
theorem above_iff {p q : List Nat} : p ∈ aboveT q ↔ ∃ r, q = p ++ 47 :: r := by
  unfold aboveT
  constructor
  · intro h
    obtain ⟨k, hk, rfl⟩ := aboveF_mem h
    refine ⟨joinC 47 ((splitC 47 q).drop (k + 1)), ?_⟩
    unfold pathOf
    rw [← joinC_app 47 (by intro z; have := congrArg List.length z; rw [List.length_take, List.length_nil] at this; omega) (by intro z; have := congrArg List.length z; rw [List.length_drop, List.length_nil] at this; omega), List.take_append_drop, join_split]
  · rintro ⟨r, rfl⟩
    unfold aboveF
    have l1 : 0 < (splitC 47 p).length := List.length_pos_iff.mpr (splitC_ne 47 p)
    have l2 : 0 < (splitC 47 r).length := List.length_pos_iff.mpr (splitC_ne 47 r)
    rw [List.mem_map]
    refine ⟨(splitC 47 p).length - 1, ?_, ?_⟩
    · rw [List.mem_range, splitC_app, List.length_append]
      omega
    · rw [splitC_app, show (splitC 47 p).length - 1 + 1 = (splitC 47 p).length by omega, List.take_left']
      · exact join_split 47 p
      · rfl
theorem below_above (p q : List Nat) : belowB p q = true ↔ p ∈ aboveT q := below_iff.trans above_iff.symm
theorem app_lt (l : List Nat) {a b : List Nat} : l ++ a < l ++ b ↔ a < b := by
  induction l with
  | nil => exact Iff.rfl
  | cons x l ih =>
    rw [List.cons_append, List.cons_append, List.cons_lt_cons_iff]
    constructor
    · rintro (h | ⟨_, h⟩)
      · exact absurd h (Nat.lt_irrefl _)
      · exact ih.mp h
    · exact fun h => .inr ⟨rfl, ih.mpr h⟩
def underE (es : List Ent) (p : List Nat) : List Ent := (es.filter fun e => belowB p e.path).map fun e => e.re (e.path.drop (p.length + 1))
def keptE (es : List Ent) (p : List Nat) : List Ent := es.filter fun e => !belowB p e.path
def comeE (part : List Ent) (p : List Nat) : List Ent := part.map fun e => e.re (p ++ 47 :: e.path)
def tooB (part : List Ent) (p : List Nat) : Bool := part.any fun e => decide (8 < (splitC 47 (p ++ 47 :: e.path)).length)
def sortE (es : List Ent) : List Ent := es.mergeSort fun a b => decide (a.path ≤ b.path)
theorem drop_below (p r : List Nat) : (p ++ 47 :: r).drop (p.length + 1) = r := by
  rw [show p ++ 47 :: r = (p ++ [47]) ++ r by simp, List.drop_left']
  simp
theorem path_app {p r : List Nat} : PathT (p ++ 47 :: r) ↔ (∀ x ∈ splitC 47 p, partOk x) ∧ (∀ x ∈ splitC 47 r, partOk x) ∧ (splitC 47 p).length + (splitC 47 r).length ≤ 8 := by
  unfold PathT PathOk
  rw [splitC_app, List.length_append]
  constructor
  · rintro ⟨_, h2, h3⟩
    exact ⟨fun x hx => h3 x (List.mem_append_left _ hx), fun x hx => h3 x (List.mem_append_right _ hx), h2⟩
  · rintro ⟨h1, h2, h3⟩
    refine ⟨fun z => splitC_ne 47 p (List.append_eq_nil_iff.mp z).1, h3, fun x hx => ?_⟩
    rcases List.mem_append.mp hx with h | h
    · exact h1 x h
    · exact h2 x h
theorem path_right {p r : List Nat} (h : PathT (p ++ 47 :: r)) : PathT r := by
  obtain ⟨_, h2, h3⟩ := path_app.mp h
  exact ⟨splitC_ne 47 r, by omega, h2⟩
/-- rising rows: one for each set -/
abbrev RiseE (es : List Ent) : Prop := es.Pairwise fun a b => a.path < b.path
theorem RiseE.nod {es : List Ent} (h : RiseE es) : Nod es := by
  rw [Nod, List.nodup_iff_pairwise_ne, List.pairwise_map]
  exact h.imp fun {a b} (k : a.path < b.path) (z : a.path = b.path) => List.lt_irrefl b.path (by rw [z] at k; exact k)
theorem rise_uniq : ∀ {a b : List Ent}, RiseE a → RiseE b → a.Perm b → a = b
  | [], b, _, _, p => (List.Perm.nil_eq p)
  | x :: a, [], _, _, p => absurd p.length_eq (by simp)
  | x :: a, y :: b, ha, hb, p => by
    have e : x = y := by
      have hx : x ∈ y :: b := p.mem_iff.mp (List.mem_cons_self ..)
      have hy : y ∈ x :: a := p.mem_iff.mpr (List.mem_cons_self ..)
      rcases List.mem_cons.mp hx with h | h
      · exact h
      · rcases List.mem_cons.mp hy with k | k
        · exact k.symm
        · have h1 := (List.pairwise_cons.mp hb).1 x h
          have h2 := (List.pairwise_cons.mp ha).1 y k
          exact absurd (List.lt_trans h1 h2) (List.lt_irrefl _)
    subst e
    rw [rise_uniq (List.pairwise_cons.mp ha).2 (List.pairwise_cons.mp hb).2 (List.Perm.cons_inv p)]
theorem sortE_perm (es : List Ent) : (sortE es).Perm es := List.mergeSort_perm es _
theorem sortE_rise {es : List Ent} (h : Nod es) : RiseE (sortE es) := by
  have nd : Nod (sortE es) := ((sortE_perm es).map Ent.path).nodup_iff.mpr h
  have pw : (sortE es).Pairwise fun a b => decide (a.path ≤ b.path) = true := List.pairwise_mergeSort (le := fun a b : Ent => decide (a.path ≤ b.path)) (fun a b c h1 h2 => decide_eq_true (List.le_trans (of_decide_eq_true h1) (of_decide_eq_true h2))) (fun a b => by
    rcases List.le_total a.path b.path with h | h
    · rw [decide_eq_true h, Bool.true_or]
    · rw [decide_eq_true h, Bool.or_true]) es
  rw [Nod, List.nodup_iff_pairwise_ne, List.pairwise_map] at nd
  exact (pw.and nd).imp fun {a b} (k : decide (a.path ≤ b.path) = true ∧ a.path ≠ b.path) => by
    by_cases h : a.path < b.path
    · exact h
    · exact absurd (List.le_antisymm (of_decide_eq_true k.1) (List.not_lt.mp h)) k.2
theorem sortE_of {es fs : List Ent} (h : Nod es) (r : RiseE fs) (p : fs.Perm es) : fs = sortE es := rise_uniq r (sortE_rise h) (p.trans (sortE_perm es).symm)
/-! what is below is a tree -/
theorem belowE {es : List Ent} {p : List Nat} {e : Ent} : e ∈ es.filter (fun e => belowB p e.path) ↔ e ∈ es ∧ ∃ r, e.path = p ++ 47 :: r := by
  rw [List.mem_filter]
  exact and_congr Iff.rfl below_iff
theorem under_mem {es : List Ent} {p : List Nat} {x : Ent} : x ∈ underE es p ↔ x.re (p ++ 47 :: x.path) ∈ es := by
  unfold underE
  rw [List.mem_map]
  constructor
  · rintro ⟨e, he, rfl⟩
    obtain ⟨h1, r, hr⟩ := belowE.mp he
    rw [re_path, re_re, hr, drop_below, ← hr, re_self]
    exact h1
  · intro h
    refine ⟨x.re (p ++ 47 :: x.path), belowE.mpr ⟨h, x.path, re_path _ _⟩, ?_⟩
    rw [re_path, re_re, drop_below, re_self]
theorem under_ok {es : List Ent} {p : List Nat} (h : TreeOk es) : TreeOk (underE es p) := by
  refine ⟨fun x hx => ?_, ?_, fun x hx a ha => ?_, ?_⟩
  · have h1 := h.ok _ (under_mem.mp hx)
    have h2 := h1.path
    rw [re_path] at h2
    have := h1.re (path_right h2)
    rw [re_re, re_self] at this
    exact this
  · unfold underE
    rw [List.pairwise_map]
    have h1 : (es.filter fun e => belowB p e.path).Pairwise fun a b => a.path < b.path := h.rise.filter _
    refine List.Pairwise.imp_of_mem (fun {a b} ha hb k => ?_) h1
    obtain ⟨_, ra, ea⟩ := belowE.mp ha
    obtain ⟨_, rb, eb⟩ := belowE.mp hb
    rw [re_path, re_path, ea, eb, drop_below, drop_below]
    rw [ea, eb, app_lt, List.cons_lt_cons_iff] at k
    rcases k with k | k
    · exact absurd k (Nat.lt_irrefl _)
    · exact k.2
  · refine under_mem.mpr ?_
    obtain ⟨r, hr⟩ := above_iff.mp ha
    refine h.up _ (under_mem.mp hx) (p ++ 47 :: a) (above_iff.mpr ⟨r, ?_⟩)
    rw [re_path, hr]
    simp
  · unfold underE
    rw [List.length_map]
    exact Nat.le_trans (List.length_filter_le _ _) h.few
theorem come_under (es : List Ent) (p : List Nat) : comeE (underE es p) p = es.filter fun e => belowB p e.path := by
  unfold comeE underE
  rw [List.map_map]
  refine (List.map_congr_left fun e he => ?_).trans (List.map_id _)
  obtain ⟨_, r, hr⟩ := belowE.mp he
  show (e.re _).re (p ++ 47 :: (e.re _).path) = e
  rw [re_path, re_re, hr, drop_below, ← hr, re_self]
theorem put_back {es : List Ent} {p : List Nat} (h : TreeOk es) : sortE (keptE es p ++ comeE (underE es p) p) = es := by
  have pm : (keptE es p ++ comeE (underE es p) p).Perm es := by
    rw [come_under]
    unfold keptE
    exact (List.perm_append_comm).trans (List.filter_append_perm (fun e => belowB p e.path) es)
  exact (sortE_of ((pm.map Ent.path).nodup_iff.mpr (RiseE.nod h.rise)) h.rise pm.symm).symm
theorem too_under {es : List Ent} {p : List Nat} (h : TreeOk es) : tooB (underE es p) p = false := by
  unfold tooB
  rw [List.any_eq_false]
  intro x hx z
  have h1 := (h.ok _ (under_mem.mp hx)).path
  rw [re_path] at h1
  have := of_decide_eq_true z
  have := h1.2.1
  omega
/-! what is put is a tree -/
theorem come_below (part : List Ent) (p : List Nat) {x : Ent} (h : x ∈ comeE part p) : ∃ e ∈ part, x = e.re (p ++ 47 :: e.path) := by
  obtain ⟨e, he, rfl⟩ := List.mem_map.mp h
  exact ⟨e, he, rfl⟩
theorem come_rise {part : List Ent} (p : List Nat) (h : RiseE part) : RiseE (comeE part p) := by
  unfold RiseE comeE
  rw [List.pairwise_map]
  refine h.imp fun {a b} k => ?_
  rw [re_path, re_path, app_lt, List.cons_lt_cons_iff]
  exact .inr ⟨rfl, k⟩
theorem put_nod {es part : List Ent} {p : List Nat} (h : RiseE es) (k : RiseE part) : Nod (keptE es p ++ comeE part p) := by
  rw [Nod, List.map_append, List.nodup_append]
  refine ⟨RiseE.nod (h.filter _), RiseE.nod (come_rise p k), fun a ha b hb e => ?_⟩
  obtain ⟨x, hx, rfl⟩ := List.mem_map.mp ha
  obtain ⟨y, hy, rfl⟩ := List.mem_map.mp hb
  obtain ⟨z, _, rfl⟩ := come_below part p hy
  rw [re_path] at e
  have := (List.mem_filter.mp hx).2
  rw [below_iff.mpr ⟨_, e⟩] at this
  cases this
theorem kept_mem {es : List Ent} {p : List Nat} {e : Ent} : e ∈ keptE es p ↔ e ∈ es ∧ ¬ ∃ r, e.path = p ++ 47 :: r := by
  unfold keptE
  rw [List.mem_filter]
  refine and_congr Iff.rfl ?_
  rw [← below_iff]
  cases belowB p e.path <;> simp
theorem put_ok {es part : List Ent} {p : List Nat} (h : TreeOk es) (k : TreeOk part) (f : Ent.folder p ∈ es) (t : tooB part p = false) (few : es.length + part.length ≤ 100) : TreeOk (sortE (keptE es p ++ comeE part p)) := by
  have mem : ∀ x, x ∈ sortE (keptE es p ++ comeE part p) ↔ x ∈ keptE es p ∨ x ∈ comeE part p := fun x => (sortE_perm _).mem_iff.trans List.mem_append
  have pp : PathT p := (h.ok _ f).path
  refine ⟨fun x hx => ?_, sortE_rise (put_nod h.rise k.rise), fun x hx a ha => ?_, ?_⟩
  · rcases (mem x).mp hx with hx | hx
    · exact h.ok x (kept_mem.mp hx).1
    · obtain ⟨e, he, rfl⟩ := come_below part p hx
      refine (k.ok e he).re (path_app.mpr ⟨pp.2.2, (k.ok e he).path.2.2, ?_⟩)
      have := List.any_eq_false.mp t e he
      rw [splitC_app, List.length_append] at this
      have n9 : ¬ 8 < (splitC 47 p).length + (splitC 47 e.path).length := fun z => this (decide_eq_true z)
      omega
  · obtain ⟨r, hr⟩ := above_iff.mp ha
    rw [mem]
    rcases (mem x).mp hx with hx | hx
    · obtain ⟨h1, h2⟩ := kept_mem.mp hx
      refine .inl (kept_mem.mpr ⟨h.up x h1 a ha, fun ⟨r2, z⟩ => h2 ⟨r2 ++ 47 :: r, ?_⟩⟩)
      rw [hr, show a = p ++ 47 :: r2 from z]
      simp
    · obtain ⟨e, he, rfl⟩ := come_below part p hx
      rw [re_path] at hr
      -- a / r = p / e.path
      have key : (a = p) ∨ (∃ s, p = a ++ 47 :: s) ∨ ∃ s, a = p ++ 47 :: s ∧ e.path = s ++ 47 :: r := by
        rcases List.append_eq_append_iff.mp hr with ⟨w, e1, e2⟩ | ⟨w, e1, e2⟩
        · -- a = p ++ w
          cases w with
          | nil => exact .inl (by rw [e1, List.append_nil])
          | cons c w =>
            rw [List.cons_append] at e2
            injection e2 with c1 c2
            subst c1
            exact .inr (.inr ⟨w, e1, c2⟩)
        · cases w with
          | nil => exact .inl (by rw [e1, List.append_nil])
          | cons c w =>
            rw [List.cons_append] at e2
            injection e2 with c1 c2
            subst c1
            exact .inr (.inl ⟨w, e1⟩)
      have lone : ∀ q s : List Nat, q = q ++ 47 :: s → False := fun q s z => by
        have := congrArg List.length z
        simp at this
      rcases key with rfl | ⟨s, hs⟩ | ⟨s, hs, hp⟩
      · exact .inl (kept_mem.mpr ⟨f, fun ⟨r2, z⟩ => lone a r2 z⟩)
      · refine .inl (kept_mem.mpr ⟨h.up _ f a (above_iff.mpr ⟨s, hs⟩), fun ⟨r2, z⟩ => ?_⟩)
        have z' : a = p ++ 47 :: r2 := z
        rw [hs] at z'
        have := congrArg List.length z'
        simp at this
      · refine .inr (List.mem_map.mpr ⟨.folder s, k.up e he s (above_iff.mpr ⟨r, hp⟩), ?_⟩)
        rw [hs]
        rfl
  · rw [(sortE_perm _).length_eq, List.length_append]
    have := List.length_filter_le (fun e : Ent => !belowB p e.path) es
    unfold keptE comeE
    rw [List.length_map]
    omega
theorem under_put {es part : List Ent} {p : List Nat} (h : TreeOk es) (k : TreeOk part) : underE (sortE (keptE es p ++ comeE part p)) p = part := by
  have e1 : (sortE (keptE es p ++ comeE part p)).filter (fun e => belowB p e.path) = comeE part p := by
    refine rise_uniq ((sortE_rise (put_nod h.rise k.rise)).filter _) (come_rise p k.rise) (((sortE_perm _).filter _).trans ?_)
    rw [List.filter_append]
    have n1 : (keptE es p).filter (fun e => belowB p e.path) = [] := by
      rw [List.filter_eq_nil_iff]
      intro e he z
      exact (kept_mem.mp he).2 (below_iff.mp z)
    have n2 : (comeE part p).filter (fun e => belowB p e.path) = comeE part p := by
      rw [List.filter_eq_self]
      intro e he
      obtain ⟨x, _, rfl⟩ := come_below part p he
      exact below_iff.mpr ⟨x.path, re_path _ _⟩
    rw [n1, n2]
    exact .refl _
  unfold underE
  rw [e1]
  unfold comeE
  rw [List.map_map]
  refine (List.map_congr_left fun e he => ?_).trans (List.map_id _)
  show (e.re _).re ((e.re _).path.drop (p.length + 1)) = e
  rw [re_path, re_re, drop_below, re_self]
theorem TreeOk.are {es : List Ent} (h : TreeOk es) : areB es = true := by
  unfold areB
  rw [Bool.and_eq_true, Bool.and_eq_true]
  refine ⟨decide_eq_true h.few, ?_, ?_⟩
  · unfold riseB
    rw [List.all_eq_true]
    intro i hi
    have hi := List.mem_range.mp hi
    have h1 : i < es.length := by omega
    have h2 : i + 1 < es.length := by omega
    have := List.pairwise_iff_getElem.mp h.rise i (i + 1) h1 h2 (Nat.lt_succ_self i)
    unfold pathAt
    rw [List.getElem?_eq_getElem h1, List.getElem?_eq_getElem h2]
    exact decide_eq_true this
  · unfold foldB
    rw [List.all_eq_true]
    intro e he
    rw [List.all_eq_true]
    intro a ha
    unfold hasF
    rw [List.any_eq_true]
    refine ⟨_, h.up e he a ha, ?_⟩
    rw [Bool.and_eq_true]
    exact ⟨rfl, decide_eq_true rfl⟩
theorem TreeOk.treeD {es : List Ent} (h : TreeOk es) : TreeD (dTree es) := (tree_iff h.ok).mpr h.are
end Fc

namespace Fc
open PySem PySem.Spec L2 PyProof.Rows
variable [LamNames]
/-! ### a lambda with parameters, of no captured name, handed about -/
/-- what is known of one: where it stands, its code object, its name, its text -/
structure Lam where
  f : Addr
  c : Addr
  pm : Value
  ct : Value
  q : Str
  params : Arguments
  body : Expr
  scope : Scope
def Lam.fd (l : Lam) : FuncData := PySem.W.kla_fn "<lambda>" l.q l.params l.body l.scope [] l.pm (.ref l.c) l.ct
def Lam.obj (l : Lam) : Obj := { cls := .type "function", data := .func l.fd }
def LamO (l : Lam) : HO := .ext fun h => h.get? l.f = some l.obj
structure LamAt (H : Hp) (l : Lam) : Prop where
  fn : H l.f = some (LamO l)
  cd : H l.c = some (LamX.CodeO l.c l.q)
theorem LamAt.keep {H H' : Hp} {l : Lam} (a : LamAt H l) (e : Same H H') : LamAt H' l := ⟨e.get _ _ a.fn trivial, e.get _ _ a.cd trivial⟩
section
variable {P : Program} {w : World} {K : PySem.W.Frag} {mg : Str → Option Value} {base : Heap}
/-- a lambda keeps a promise, told where it stands -/
theorem lam_ok {l : Lam} {k : Nat} {N ps : List Str} {sp : Sp} (S : FnScope N ps l.scope) (len : ∀ vs H Q E, sp vs H Q E → vs.length = ps.length) (at_ : ∀ vs H Q E, sp vs H Q E → LamAt H l)
    (hbody : ∀ (A : Around) (outer : List Env) (s : Shared) (H : Hp) (vs : List V) (Q : VK) (E : XK), Room k (A.deeper (envOfC l.q l.scope s.heap.objs.size l.f (.ref l.c))) → sp vs H Q E →
      ∃ t, PE (cxOf CX0 P w K mg base N l.q l.scope l.f (.ref l.c) A outer s H E).nox l.body t ∧ t (start N vs) H Q) : FnOk P w K mg base CX0 (k + 1) l.f l.fd ps sp := by
  refine ⟨len, fun A outer s H args us vs Q E hr e0 hb r hsp => ?_⟩
  have L := at_ _ _ _ _ hsp
  have ho : s.heap.get? l.f = some l.obj := (e0.hok _ _ L.fn).1
  obtain ⟨oc, ws, t, hoc, hdc, hvc⟩ := (e0.hok _ _ L.cd).1
  have lim : s.heap.NoLimit := e0.mod.nolimit.keeps fun b o e => (e0.bs b o e).1
  have hkind : ∀ y ∈ ps.zip us, l.scope.names.lookup y.1 = some .local ∨ (l.scope.names.lookup y.1 = some .cell ∧ ((cellsFrom (s.heap.objs.size + 1) l.scope.names []).lookup y.1).isSome = true) := fun y hy =>
    (S.par y.1 (List.of_mem_zip (show (y.1, y.2) ∈ ps.zip us from hy)).1).elim .inl fun z => .inr ⟨z, PySem.W.cellsFrom_some _ _ _ (.inl z)⟩
  refine PySem.W.kla_callFunE hr.depth ho rfl S.co S.gen rfl ⟨l.c, oc, ws, t, rfl, hoc, hdc, hvc⟩ (hb _ _ _ _ ?_)
  refine wpAny_newFunctionEnv_cells S.kind hkind fun env he s1 x => ?_
  subst he
  refine ⟨lim.keeps x.toInCall.keep, PySem.W.kla_codeExpr ?_⟩
  obtain ⟨t, ht, hq⟩ := hbody A outer s H vs Q E (hr.deeper _) hsp
  have I : Inv (cxOf CX0 P w K mg base N l.q l.scope l.f (.ref l.c) A outer s H E) [] (start N vs) H s1 := inv_start S hr.hd e0 (len _ _ _ _ hsp) r x
  refine wpAny_mono (ht.nox.run [] s1 (start N vs) H _ I hq) (fun u s' ⟨v, H', J, rv, q⟩ => ?_) fun e s' hs => hs
  exact ⟨v, H', J.os, J.bare, J.base, J.hok, rv, q⟩
end
section
variable {X : Cx} {x : Str} {i k : Nat} {ps : List Str} {sp : Sp} {p pos : Pos} {e : Expr} {es : List Expr} {t : TA}
/-- x(e, ..), x a slot that holds the lambda -/
def tCallM (i : Nat) (l : Lam) (sp : Sp) (t : TA) : TE := fun σ H Q => σ[i]? = some (some (.ref l.f)) ∧ LamAt H l ∧ t σ H fun vs H1 => LamAt H1 l ∧ sp vs H1 Q E0
theorem pe_callM {l : Lam} (F : FnOk X.prog X.w X.K X.mg X.base CX0 k l.f l.fd ps sp) (hr : Room k X.A) (hN : X.N[i]? = some x) (hv : Vis X.env.scope x) (hb : Binds X.K l.fd ps []) (ha : PA X (e :: es) t)
    (hdb : (x == ("__debug__" : Str)) = false := by decide) (hcd : (x == ("__classdict__" : Str)) = false := by decide)
    (he : starEach (e :: es) X.env = (false, eval e X.env) :: starEach es X.env := by rfl) (hpl : (backTo pos (starEach es X.env)).any (·.1) = false := by rfl) : PE X (.Call (.Name x p) (e :: es) [] pos) (tCallM i l sp t) := by
  refine ⟨fun pins s σ H Q I h => ?_⟩
  obtain ⟨hs, hL, ht⟩ := h
  refine wpAny_Call_Name_kw (thn ((pe_var (pos := p) hN hv hdb hcd).run pins s σ H (fun v H1 => v = .ref l.f ∧ H1 = H) I ⟨.ref l.f, hs, rfl, rfl⟩) fun u s1 ⟨v, H1, I1, r1, e1, e2⟩ => ?_)
  subst e1
  rw [e2] at I1
  cases r1
  refine PySem.W.callWith_F ⟨_, _, _, _, (I1.hok _ _ hL.fn).1⟩ (thn (ha.run pos pins s1 σ H _ I1 ht) fun us s2 ⟨vs, H2, I2, r, hL2, q⟩ => ⟨⟨_, _, _, _, (I2.hok _ _ hL2.fn).1⟩, ?_⟩) he hpl
  exact run_fn (E := E0) (dvs := []) (ds := []) F hr hb .nil (fun _ _ _ _ _ _ _ z => False.elim z) I2 r (by rw [List.append_nil]; exact q)
end
/-! ### it is made -/
/-- from H to H' the lambda l came, and its code object into the table at P or it was there -/
structure Made (P : Addr) (H H' : Hp) (l : Lam) : Prop where
  keep : ∀ b o, H b = some o → b ≠ P → H' b = some o
  new : H l.f = none
  tab : LamX.TabS H' P l.q
  at_ : LamAt H' l
def tLamV (P : Addr) (q : Str) (params : Arguments) (body : Expr) (scope : Scope) : TE := fun _ H Q => LamX.TabS H P q ∧ ∀ (f c : Addr) (pm ct : Value) (H' : Hp), Made P H H' ⟨f, c, pm, ct, q, params, body, scope⟩ → Q (.ref f) H'
section
variable {X : Cx}
theorem lamO_ok {P : Program} {w : World} {H : Hp} {h : Heap} {l : Lam} (e : h.get? l.f = some l.obj) : ObjOk P w H h l.f (LamO l) := ⟨e, ⟨_, e⟩, fun _ _ a k => k _ a⟩
theorem pe_lamV {c P : Addr} {params : Arguments} {body : Expr} {scope : Scope} {pos : Pos} (TB : LamX.TabB X.base X.mg c P) (hcode : X.env.code = .ref c) (hdef : defaultsOf params X.env = ([], [])) (hclo : closureFor scope X.env = pure []) :
    PE X (.Lambda params body scope pos) (tLamV P (X.env.qual ++ "<lambda>") params body scope) := by
  refine ⟨fun pins s σ H Q I h => ?_⟩
  obtain ⟨⟨ps, hP, ht, ha⟩, q⟩ := h
  have bP : s.heap.BuiltinsAt X.mg P := TB.bm.keeps I.bk
  have hP' : s.heap.get? P = some { cls := .none, data := .fields ps } := I.hok P _ hP
  have gl := I.mod.glob.keeps I.bk
  have cd := TB.code.keeps I.bk
  refine PySem.W.kla_eval hdef ?_
  cases hc : codeAmong pos ps.toList with
  | some cv =>
    obtain ⟨c', rfl, hco⟩ := ha pos cv hc
    refine PySem.W.kla_makeFunctionHit (mg := X.mg) (c := c) (P := P) (ps := ps) hclo I.ok.glob gl hcode cd hP' ht hc bP fun ctv h' tk hx hsz => ?_
    have hn : H h'.objs.size = none := I.hok.fresh hsz
    have J := I.laid (t' := tk) (a := h'.objs.size) (o := LamO ⟨h'.objs.size, c', (X.mg "__name__").getD .none, ctv, X.env.qual ++ "<lambda>", params, body, scope⟩) (h' := h'.push (Lam.obj ⟨h'.objs.size, c', (X.mg "__name__").getD .none, ctv, X.env.qual ++ "<lambda>", params, body, scope⟩))
      (fun b u e => Heap.get?_push_of_some _ (hx b u e)) hsz (lamO_ok (Heap.get?_push_size _ rfl))
    refine ⟨.ref h'.objs.size, _, J, rfl, q h'.objs.size c' _ ctv _ ⟨fun b o e _ => ?_, hn, ⟨ps, ?_, ht, fun p v hv => ?_⟩, ⟨upd_same, ?_⟩⟩⟩
    · rw [upd_ne (ne_of_none e hn)]
      exact e
    · rw [upd_ne (ne_of_none hP hn)]
      exact hP
    · obtain ⟨d, rfl, hd⟩ := ha p v hv
      exact ⟨d, rfl, by rw [upd_ne (ne_of_none hd hn)]; exact hd⟩
    · show upd H h'.objs.size _ c' = _
      rw [upd_ne (ne_of_none hco hn)]
      exact hco
  | none =>
    refine PySem.W.kla_makeFunction (mg := X.mg) (c := c) (P := P) (ps := ps) hclo I.ok.glob gl hcode cd hP' ht hc TB.gP bP fun c' ctv h' tk hx hge hlt hrec htb => ?_
    obtain ⟨c2, oc, vs, t, e2, hoc, hd, hv⟩ := hrec
    cases e2
    have nC : H c' = none := I.hok.fresh hge
    have I1 := LamX.inv_table (t' := tk) (more := #[rawInt pos.line, rawInt pos.col, .ref c']) (h' := h') I hP hx htb hge ⟨oc, vs, t, hoc, hd, hv⟩
    have nF : H h'.objs.size = none := I.hok.fresh (Nat.le_trans hge (Nat.le_of_lt hlt))
    have n1 : upd (upd H P (.tbl (ps ++ #[rawInt pos.line, rawInt pos.col, .ref c']))) c' (LamX.CodeO c' (X.env.qual ++ "<lambda>")) h'.objs.size = none := I1.hok.fresh (Nat.le_refl _)
    have J := I1.laid (t' := tk) (a := h'.objs.size) (o := LamO ⟨h'.objs.size, c', (X.mg "__name__").getD .none, ctv, X.env.qual ++ "<lambda>", params, body, scope⟩) (h' := h'.push (Lam.obj ⟨h'.objs.size, c', (X.mg "__name__").getD .none, ctv, X.env.qual ++ "<lambda>", params, body, scope⟩))
      (fun b u e => Heap.get?_push_of_some _ e) (Nat.le_refl _) (lamO_ok (Heap.get?_push_size _ rfl))
    have old : ∀ b o, H b = some o → b ≠ P → upd (upd (upd H P (.tbl (ps ++ #[rawInt pos.line, rawInt pos.col, .ref c']))) c' (LamX.CodeO c' (X.env.qual ++ "<lambda>"))) h'.objs.size (LamO ⟨h'.objs.size, c', (X.mg "__name__").getD .none, ctv, X.env.qual ++ "<lambda>", params, body, scope⟩) b = some o := fun b o e hb => by
      rw [upd_ne (ne_of_none e nF), upd_ne (ne_of_none e nC), upd_ne hb]
      exact e
    have eL : (ps ++ #[rawInt pos.line, rawInt pos.col, .ref c']).toList = ps.toList ++ [rawInt pos.line, rawInt pos.col, .ref c'] := by simp
    have hC : upd (upd (upd H P (.tbl (ps ++ #[rawInt pos.line, rawInt pos.col, .ref c']))) c' (LamX.CodeO c' (X.env.qual ++ "<lambda>"))) h'.objs.size (LamO ⟨h'.objs.size, c', (X.mg "__name__").getD .none, ctv, X.env.qual ++ "<lambda>", params, body, scope⟩) c' = some (LamX.CodeO c' (X.env.qual ++ "<lambda>")) := by
      rw [upd_ne (Nat.ne_of_lt hlt), upd_same]
    refine ⟨.ref h'.objs.size, _, J, rfl, q h'.objs.size c' _ ctv _ ⟨old, nF, ⟨_, ?_, by rw [eL]; exact PySem.TriplesOk_snoc _ _ _ _ ht, fun p v hv => ?_⟩, ⟨upd_same, hC⟩⟩⟩
    · rw [upd_ne (ne_of_none hP nF), upd_ne (ne_of_none hP nC), upd_same]
    · rw [eL] at hv
      rcases LamX.among_app _ ht hv with z | z
      · obtain ⟨d, rfl, hd⟩ := ha p v z
        exact ⟨d, rfl, old d _ hd fun e => by rw [e, hP] at hd; cases hd⟩
      · exact ⟨c', z, hC⟩
end
/-- a lambda that is made leaves all else as it was -/
theorem Made.same {P : Addr} {H H' : Hp} {l : Lam} (m : Made P H H' l) (t : LTab H P l.q) : Same H H' := by
  obtain ⟨⟨ps0, h0, ok0, nm0⟩, n⟩ := t
  have far : ∀ b o, H b = some o → NT o → b ≠ P := fun b o e nt z => by
    rw [z, h0] at e
    cases e
    exact nt
  refine ⟨fun b o e nt => m.keep b o e (far b o e nt), fun b ps e => ?_⟩
  by_cases z : b = P
  · obtain ⟨ps', h', ok', nm'⟩ := m.tab
    rw [z]
    refine ⟨ps', h', fun _ => ok', fun q hq _ => ?_⟩
    rw [n] at hq
    cases hq
    exact nm'
  · refine ⟨ps, m.keep b _ e z, fun k => k, fun q _ nm pos cv hc => ?_⟩
    obtain ⟨c, e1, e2⟩ := nm pos cv hc
    exact ⟨c, e1, m.keep c _ e2 (far c _ e2 trivial)⟩
theorem Made.ltab {P : Addr} {H H' : Hp} {l : Lam} (m : Made P H H' l) (t : LTab H P l.q) : LTab H' P l.q := ⟨m.tab, t.n⟩
end Fc

namespace Fc
open PySem PySem.Spec L2 PyProof.Rows
variable [LamNames]
/-! ### sorted(l, key=lambda entry: entry[1]) -/
section
variable {X : Cx}
/-- the lambda called at a tuple whose second part is a text -/
theorem lam_ix1 {P : Program} {w : World} {A : Around} {s : Shared} {l : Lam} {x : Str} {p1 p2 p3 : Pos} {kd : Nat} {t : Addr} {its : Array Value} {y : Value} {Q : Value → Shared → Prop} {E : Value → Shared → Prop}
    (hb : l.body = .Subscript (.Name x p1) (.Constant (.int 1) kd p2) p3) (S : FnScope [x] [x] l.scope) (loc : l.scope.names.lookup x = some .local) (lim : s.heap.NoLimit) (hroom : A.depth < recursionLimit) (ho : s.heap.get? l.f = some l.obj) (hc : s.heap.CodeRec (.ref l.c) l.q) (bd : BindsTo s l.fd ⟨[.ref t], []⟩ ([x].zip [.ref t]))
    (hdb : (x == ("__debug__" : Str)) = false) (ht : IsTup s.heap t its) (hy : its[1]? = some y)
    (q : ∀ h' tk, (∀ b o, s.heap.get? b = some o → h'.get? b = some o) → Q y { s with heap := h', toks := tk }) : wpAny (model P w) A (call (.ref l.f) [.ref t]) Q E s := by
  refine wpAny_call ?_
  have hkind : ∀ z ∈ [x].zip [Value.ref t], l.scope.names.lookup z.1 = some .local ∨ (l.scope.names.lookup z.1 = some .cell ∧ ((cellsFrom (s.heap.objs.size + 1) l.scope.names []).lookup z.1).isSome = true) := fun z hz =>
    (S.par z.1 (List.of_mem_zip (show (z.1, z.2) ∈ [x].zip [Value.ref t] from hz)).1).elim .inl fun k => .inr ⟨k, PySem.W.cellsFrom_some _ _ _ (.inl k)⟩
  refine PySem.W.kla_callFunE hroom ho rfl S.co S.gen rfl hc (bd _ _ _ _ ?_)
  refine wpAny_newFunctionEnv_cells S.kind hkind fun env he s1 z => ?_
  subst he
  refine ⟨lim.keeps z.toInCall.keep, PySem.W.kla_codeExpr ?_⟩
  rw [hb]
  obtain ⟨h1, tk, rfl, hk⟩ := z.done
  refine wpAny_Subscript_Constant_late (wpAny_Name (wpAny_loadName_local (v := .ref t) S.kind loc z.toInCall.ns ?_ ?_) hdb)
  · show (if l.scope.names.lookup x = some .local then fun y => if y = x then some (Value.ref t) else none else fun _ => none) x = some (.ref t)
    rw [if_pos loc]
    exact if_pos rfl
  · have ht1 : IsTup h1 t its := ht.keeps hk
    refine wpAny_Constant_int ⟨"tuple", _, PyProof.Rows.slot_tuple_getitem.lookup, ht1.typeIs, getItem_tuple ht1 (by decide) (by decide) (j := 1) ?_ hy (q _ _ hk)⟩
    have l1 : 1 < its.size := (Array.getElem?_eq_some_iff.mp hy).1
    unfold seqIndex?
    simp only [show ¬ ((1 : Int) < 0) by decide, if_false]
    rw [if_pos (by rw [Bool.and_eq_true]; exact ⟨by decide, decide_eq_true (by omega)⟩)]
    rfl
/-- sorted(l, key=the lambda): the rows by the texts in their second place -/
def rSortL (K : PySem.W.Frag) (q : Str) (A : Arguments) (B : Expr) (S : Scope) : List V → List V → Hp → VK → Prop := fun vs zs H Q => ∃ (a f c : Addr) (pm ct : Value) (ps : List (V × List Nat)), vs = [.ref a] ∧ zs = [.ref f] ∧ LamAt H ⟨f, c, pm, ct, q, A, B, S⟩ ∧ SqL K H a (ps.map Prod.fst) ∧
  (∀ x ∈ ps, ∃ t us, x.1 = .ref t ∧ SqT K H t us ∧ us[1]? = some (T x.2)) ∧ ∀ p, H p = none → Q (.ref p) (upd H p (.lst ((ps.mergeSort fun x y => decide (x.2 ≤ y.2)).map Prod.fst)))
theorem each_vals : ∀ {ps : List (V × List Nat)} {us : List Value}, Vals (ps.map Prod.fst) us → PySem.W.EachIs (fun u x => RelV x.1 u) us ps
  | [], _, .nil => .nil
  | _ :: _, _, .cons h t => .cons h (each_vals t)
theorem vals_each : ∀ {ps : List (V × List Nat)} {us : List Value}, PySem.W.EachIs (fun u x => RelV x.1 u) us ps → Vals (ps.map Prod.fst) us
  | _, _, .nil => .nil
  | _, _, .cons h t => .cons h (vals_each t)
theorem cr_sortedL {k : Nat} {x : Str} {q : Str} {A : Arguments} {B : Expr} {S : Scope} {p1 p2 p3 : Pos} {kd : Nat} (hb : B = .Subscript (.Name x p1) (.Constant (.int 1) kd p2) p3) (Sc : FnScope [x] [x] S) (loc : S.names.lookup x = some .local) (hdb : (x == ("__debug__" : Str)) = false) (hr : Room k X.A)
    (bL : ∀ f c pm ct, L2.Binds X.K (Lam.fd ⟨f, c, pm, ct, q, A, B, S⟩) [x] []) : CallRK X (.builtin "sorted") [Str.ofString "key"] (rSortL X.K q A B S) := by
  intro pins s σ H vs zs us ws Q I r rz h
  obtain ⟨a, f, c, pm, ct, ps, rfl, rfl, L, hs, rows, fin⟩ := h
  obtain rfl := Vals.ref1 r
  obtain rfl := Vals.ref1 rz
  obtain ⟨its, rv, hl, hz⟩ := I.list hs
  rw [List.length_map] at hz
  have hu := hr.units
  refine PySem.W.sorted_key_data (b := false) (R := fun u (x : V × List Nat) => RelV x.1 u) (fun x : V × List Nat => .str (mkS x.2)) hl.isList (each_vals rv) (PySem.W.AllAlike.of fun _ _ => by simp [PySem.W.alike]) (PySem.W.Sortable.others fun _ => ⟨by simp, by simp⟩) hz (fun x _ => ?_) (ksk_s1 _ _) (fun _ => ksk_l1 _ _) (fun _ => ksk_t1 _ _)
    (fun v x hR hx h tk kp => ?_) fun out cc h' tk kp hn hD hlen eo => ?_
  · have hd : (PySem.PyData.str (mkS x.2)).depth = 0 := by simp [PySem.PyData.depth]
    omega
  · obtain ⟨x, kx⟩ := x
    obtain ⟨t, ys, rfl, ht, hy⟩ := rows _ hx
    obtain rfl : v = .ref t := hR
    obtain ⟨it, ri, hT, _⟩ := I.tuple ht
    obtain ⟨y, hy1, ry⟩ : ∃ y, it[1]? = some y ∧ RelV (T kx) y := ri.get hy
    obtain ⟨tk2, rfl⟩ : ∃ tk2, y = .str (mkS kx) tk2 := ry
    obtain ⟨oc, ws, tc, hoc, hdc, hvc⟩ := (I.hok _ _ L.cd).1
    refine lam_ix1 (l := ⟨f, c, pm, ct, q, A, B, S⟩) (its := it.toArray) hb Sc loc ?_ ?_ ?_ ?_ ?_ hdb (hT.keeps kp) (by simpa using hy1) fun h2 tk3 k2 => ⟨h2, tk3, rfl, k2, .str _ _⟩
    · exact I.nolimit.keeps kp
    · exact hr.depth
    · exact kp _ _ (I.hok _ _ L.fn).1
    · exact ⟨c, oc, ws, tc, rfl, kp _ _ hoc, hdc, hvc⟩
    · exact bL f c pm ct _ [.ref t] (I.kIn.keeps kp) rfl
  · rw [PySem.W.dataLe_str] at eo
    have eo' : PySem.W.EachIs (fun u (x : V × List Nat) => RelV x.1 u) out (ps.mergeSort fun x y => decide (x.2 ≤ y.2)) := eo
    refine ⟨.ref _, upd H (s.heap.objs.size + 1) (.lst ((ps.mergeSort fun x y => decide (x.2 ≤ y.2)).map Prod.fst)), I.laid (t' := tk) kp (Nat.le_succ _) ⟨?_, out, cc, vals_each eo', hD⟩, rfl, fin _ (I.hok.fresh (Nat.le_succ _))⟩
    rw [List.length_map, List.length_mergeSort]
    exact hz
end
end Fc

namespace Fc
open PySem PySem.Spec L2 PyProof.Rows
variable [LamNames]
theorem starts_mk (x y : List Nat) : Txt.startswith (mkS x) (mkS y) = y.isPrefixOf x := by
  unfold Txt.startswith
  rw [PySem.StrLaws.subAt_eq]
  show (decide (0 + y.toArray.size ≤ x.toArray.size) && ((x.toArray.toList.drop 0).take y.toArray.size == y.toArray.toList)) = _
  simp only [List.size_toArray, List.toList_toArray, List.drop_zero, Nat.zero_add]
  rw [Bool.eq_iff_iff, Bool.and_eq_true, List.isPrefixOf_iff_prefix, beq_iff_eq, decide_eq_true_eq]
  constructor
  · rintro ⟨_, h⟩
    rw [← h]
    exact List.take_prefix _ _
  · rintro ⟨r, rfl⟩
    exact ⟨by simp, by simp⟩
theorem add_mk (x y : List Nat) : mkS x ++ mkS y = mkS (x ++ y) := by
  show (⟨_⟩ : Str) = ⟨_⟩
  simp [mkS]
/-! ### an entry with another path -/
section
variable {K : PySem.W.Frag} {H : Hp}
theorem dpEnt3 {v : V} {e : Ent} (h : Dp K H v (dEnt e)) : ∃ t xs, v = .ref t ∧ SqT K H t (wordOf e :: T e.path :: xs) ∧ xs.length ≤ 1 ∧ ∀ H' t' (u : List Nat), Same H H' → SqT K H' t' (wordOf e :: T u :: xs) → Dp K H' (.ref t') (dEnt (e.re u)) := by
  obtain ⟨t, xs, rfl, hx, m⟩ := dpEnt h
  cases e with
  | folder p =>
    subst m
    exact ⟨t, [], rfl, hx, by simp, fun H' t' u s h => dEnt_folder h⟩
  | file p b =>
    obtain ⟨w, rfl, hw⟩ := m
    exact ⟨t, [.ref w], rfl, hx, by simp, fun H' t' u s h => dEnt_file h (keepT s hw)⟩
  | link p g =>
    subst m
    exact ⟨t, [T g], rfl, hx, by simp, fun H' t' u s h => dEnt_link h⟩
end
theorem cut2 (a b : V) (xs : List V) : cutV (a :: b :: xs) (some 2) none = xs := by
  rw [show (some (2 : Int)) = some ((2 : Nat) : Int) from rfl, cutV_from]
  rfl
theorem al_of {α β : Type} {R : α → β → Prop} : ∀ {qs : List (α × β)}, (∀ q ∈ qs, R q.1 q.2) → Al2 R (qs.map Prod.fst) (qs.map Prod.snd)
  | [], _ => .nil
  | q :: qs, h => .cons (h q (List.mem_cons_self ..)) (al_of fun x hx => h x (List.mem_cons_of_mem _ hx))
theorem al_pairs {α β : Type} {R : α → β → Prop} : ∀ {xs : List α} {ys : List β}, Al2 R xs ys → ∃ qs : List (α × β), qs.map Prod.fst = xs ∧ qs.map Prod.snd = ys ∧ ∀ q ∈ qs, R q.1 q.2
  | _, _, .nil => ⟨[], rfl, rfl, fun q h => nomatch h⟩
  | x :: xs, y :: ys, .cons h t => by
    obtain ⟨qs, rfl, rfl, hq⟩ := al_pairs t
    exact ⟨(x, y) :: qs, rfl, rfl, fun q m => (List.mem_cons.mp m).elim (fun e => e ▸ h) (hq q)⟩
theorem sort_al {R : Ent → V → Prop} {es : List Ent} {xs : List V} (al : Al2 R es xs) : ∃ ps : List (V × List Nat), ps.map Prod.fst = xs ∧ (∀ x ∈ ps, ∃ e ∈ es, R e x.1 ∧ x.2 = e.path) ∧ Al2 R (sortE es) ((ps.mergeSort fun x y => decide (x.2 ≤ y.2)).map Prod.fst) := by
  obtain ⟨qs, rfl, rfl, hq⟩ := al_pairs al
  refine ⟨qs.map fun q => (q.2, q.1.path), by rw [List.map_map]; rfl, fun x hx => ?_, ?_⟩
  · obtain ⟨q, m, rfl⟩ := List.mem_map.mp hx
    exact ⟨q.1, List.mem_map.mpr ⟨q, m, rfl⟩, hq q m, rfl⟩
  · have e1 : sortE (qs.map Prod.fst) = (qs.mergeSort fun a b => decide (a.1.path ≤ b.1.path)).map Prod.fst := by
      unfold sortE
      exact (List.map_mergeSort (f := Prod.fst) (r := fun (a b : Ent × V) => decide (a.1.path ≤ b.1.path)) (s := fun (a b : Ent) => decide (a.path ≤ b.path)) fun a _ b _ => rfl).symm
    have e2 : (qs.map fun q => (q.2, q.1.path)).mergeSort (fun (x y : V × List Nat) => decide (x.2 ≤ y.2)) = (qs.mergeSort fun a b => decide (a.1.path ≤ b.1.path)).map fun q => (q.2, q.1.path) := (List.map_mergeSort (f := fun q : Ent × V => (q.2, q.1.path)) (r := fun (a b : Ent × V) => decide (a.1.path ≤ b.1.path)) (s := fun (x y : V × List Nat) => decide (x.2 ≤ y.2)) fun a _ b _ => rfl).symm
    rw [e1, e2, List.map_map]
    exact al_of fun q m => hq q ((List.mergeSort_perm _ _).mem_iff.mp m)
/-! ### [x for e in .. if ..], its items by a relation to what the row stands for -/
theorem al_mem {α β : Type} {R : α → β → Prop} : ∀ {xs : List α} {ys : List β}, Al2 R xs ys → Al2 (fun x y => R x y ∧ x ∈ xs) xs ys
  | _, _, .nil => .nil
  | x :: xs, y :: ys, .cons h t => .cons ⟨h, List.mem_cons_self ..⟩ ((al_mem t).mono fun _ _ k => ⟨k.1, List.mem_cons_of_mem _ k.2⟩)
theorem al_append {α β : Type} {R : α → β → Prop} : ∀ {xs xs' : List α} {ys ys' : List β}, Al2 R xs ys → Al2 R xs' ys' → Al2 R (xs ++ xs') (ys ++ ys')
  | _, _, _, _, .nil, k => k
  | _ :: _, _, _ :: _, _, .cons h t, k => .cons h (al_append t k)
theorem al_map {α β γ : Type} {R : γ → β → Prop} {f : α → γ} : ∀ {xs : List α} {ys : List β}, Al2 (fun x y => R (f x) y) xs ys → Al2 R (xs.map f) ys
  | _, _, .nil => .nil
  | _ :: _, _ :: _, .cons h t => .cons h (al_map t)
section
variable {α : Type} {tt : TT} {te : TE} {vs : List Nat} {σ : L2.St} {H1 : Hp} {D : Addr} {j : Nat} {Qd : Hp → Prop}
theorem lcR_tup {K : PySem.W.Frag} {a : Addr} {xs : List V} {es : List α} (keep : α → Bool) (G : α → V → Hp → Prop) (nD : H1 D = none) (hs : SqT K H1 a xs) (hl : es.length = xs.length) (hz : es.length ≤ sizeLine) (hw : ∀ x, wipe ((wipe σ vs).set j (some x)) vs = wipe σ vs)
    (gk : ∀ e y H H', Same H H' → G e y H → G e y H') (gu : ∀ e y H ys zs, H D = some (.lst ys) → e ∈ es → G e y H → G e y (upd H D (.lst zs)))
    (test : ∀ (i : Nat) (e : α) (x : V) (H : Hp) (R : Bool → Hp → Prop), es[i]? = some e → xs[i]? = some x → Same H1 H → (∀ H', Same H H' → R (keep e) H') → tt ((wipe σ vs).set j (some x)) H R)
    (item : ∀ (i : Nat) (e : α) (x : V) (H : Hp) (R : V → Hp → Prop), es[i]? = some e → xs[i]? = some x → keep e = true → Same H1 H → (∀ y H', Same H H' → G e y H' → R y H') → te ((wipe σ vs).set j (some x)) H R)
    (hd : ∀ ys H', Al2 (fun e y => G e y H') (es.filter keep) ys → Same H1 H' → H' D = some (.lst ys) → Qd H') :
    ∃ W : Nat → Nat → Hp → Prop, (∃ m, W 0 m (upd H1 D (.lst []))) ∧ ∀ i m H, W i m H →
      ((Itt K a).stop i H ∧ Qd H) ∨ ((Itt K a).go i H ∧ ∃ Nx : Hp → Prop, (∀ H', Nx H' → ∃ m', m' < m ∧ W (i + 1) m' H') ∧ ∀ x H', (Itt K a).yld i H x H' → gName j x (wipe σ vs) H' fun σ2 H2 => wipe σ2 vs = wipe σ vs ∧ tt σ2 H2 fun b H3 =>
        if b = true then te σ2 H3 fun y H4 => ∃ acc, H4 D = some (.lst acc) ∧ acc.length < sizeLine ∧ Nx (upd H4 D (.lst (acc ++ [y]))) else Nx H3) := by
  refine ⟨fun i m H => m = es.length - i ∧ i ≤ es.length ∧ Same H1 H ∧ ∃ ys, H D = some (.lst ys) ∧ Al2 (fun e y => G e y H) ((es.take i).filter keep) ys, ⟨es.length, rfl, Nat.zero_le _, grow nD, [], upd_same, .nil⟩, ?_⟩
  rintro i m H ⟨rfl, hi, sm, ys, hD, al⟩
  have q := keepT sm hs
  by_cases lt : i < es.length
  · have lx : i < xs.length := by omega
    have he : es[i]? = some es[i] := List.getElem?_eq_getElem lt
    refine .inr ⟨⟨xs, xs[i], q, List.getElem?_eq_getElem lx⟩, fun H' => Same H1 H' ∧ ∃ ys, H' D = some (.lst ys) ∧ Al2 (fun e y => G e y H') ((es.take (i + 1)).filter keep) ys, fun H' p' => ⟨es.length - (i + 1), by omega, rfl, lt, p'⟩, fun x H' y => ?_⟩
    obtain ⟨e, y⟩ := y
    subst e
    refine ⟨hw x, test i es[i] x _ _ he (y xs q) sm fun H3 s3 => ?_⟩
    have ft : (es.take (i + 1)).filter keep = (es.take i).filter keep ++ (if keep es[i] = true then [es[i]] else []) := by
      rw [List.take_add_one, he, Option.toList_some, List.filter_append]
      congr 1
      by_cases k : keep es[i] = true
      · rw [if_pos k, List.filter_cons_of_pos k]; rfl
      · rw [if_neg k, List.filter_cons_of_neg k]; rfl
    by_cases k : keep es[i] = true
    · rw [if_pos k]
      refine item i es[i] x H3 _ he (y xs q) k (sm.trans s3) fun z H4 s4 g => ?_
      have hD4 := s4 _ _ (s3 _ _ hD)
      refine ⟨ys, hD4, ?_, (sm.trans (s3.trans s4)).over nD (.lst hD4), _, upd_same, ?_⟩
      · rw [al.length]
        have l1 := List.length_filter_le keep (es.take i)
        rw [List.length_take] at l1
        omega
      · rw [ft, if_pos k]
        have al2 : Al2 (fun u v => G u v (upd H4 D (.lst (ys ++ [z])))) ((es.take i).filter keep) ys := (al_mem al).mono fun u v g => gu _ _ _ _ _ hD4 (List.mem_of_mem_take (List.mem_filter.mp g.2).1) (gk _ _ _ _ (s3.trans s4) g.1)
        exact Al2.snoc (R := fun u v => G u v (upd H4 D (.lst (ys ++ [z])))) (gu _ _ _ _ _ hD4 (List.getElem_mem lt) g) al2
    · rw [if_neg k]
      refine ⟨sm.trans s3, ys, s3 _ _ hD, ?_⟩
      rw [ft, if_neg k, List.append_nil]
      exact al.mono fun u v g => gk _ _ _ _ s3 g
  · have e : i = es.length := by omega
    rw [e, List.take_length] at al
    exact .inl ⟨⟨xs, q, by omega⟩, hd ys H al sm hD⟩
theorem lcR_list {K : PySem.W.Frag} {a : Addr} {xs : List V} {es : List α} (keep : α → Bool) (G : α → V → Hp → Prop) (nD : H1 D = none) (hs : SqL K H1 a xs) (hl : es.length = xs.length) (hz : es.length ≤ sizeLine) (hw : ∀ x, wipe ((wipe σ vs).set j (some x)) vs = wipe σ vs)
    (gk : ∀ e y H H', Same H H' → G e y H → G e y H') (gu : ∀ e y H ys zs, H D = some (.lst ys) → e ∈ es → G e y H → G e y (upd H D (.lst zs)))
    (test : ∀ (i : Nat) (e : α) (x : V) (H : Hp) (R : Bool → Hp → Prop), es[i]? = some e → xs[i]? = some x → Same H1 H → (∀ H', Same H H' → R (keep e) H') → tt ((wipe σ vs).set j (some x)) H R)
    (item : ∀ (i : Nat) (e : α) (x : V) (H : Hp) (R : V → Hp → Prop), es[i]? = some e → xs[i]? = some x → keep e = true → Same H1 H → (∀ y H', Same H H' → G e y H' → R y H') → te ((wipe σ vs).set j (some x)) H R)
    (hd : ∀ ys H', Al2 (fun e y => G e y H') (es.filter keep) ys → Same H1 H' → H' D = some (.lst ys) → Qd H') :
    ∃ W : Nat → Nat → Hp → Prop, (∃ m, W 0 m (upd H1 D (.lst []))) ∧ ∀ i m H, W i m H →
      ((Itl K a).stop i H ∧ Qd H) ∨ ((Itl K a).go i H ∧ ∃ Nx : Hp → Prop, (∀ H', Nx H' → ∃ m', m' < m ∧ W (i + 1) m' H') ∧ ∀ x H', (Itl K a).yld i H x H' → gName j x (wipe σ vs) H' fun σ2 H2 => wipe σ2 vs = wipe σ vs ∧ tt σ2 H2 fun b H3 =>
        if b = true then te σ2 H3 fun y H4 => ∃ acc, H4 D = some (.lst acc) ∧ acc.length < sizeLine ∧ Nx (upd H4 D (.lst (acc ++ [y]))) else Nx H3) := by
  refine ⟨fun i m H => m = es.length - i ∧ i ≤ es.length ∧ Same H1 H ∧ ∃ ys, H D = some (.lst ys) ∧ Al2 (fun e y => G e y H) ((es.take i).filter keep) ys, ⟨es.length, rfl, Nat.zero_le _, grow nD, [], upd_same, .nil⟩, ?_⟩
  rintro i m H ⟨rfl, hi, sm, ys, hD, al⟩
  have q := sm.seq hs
  by_cases lt : i < es.length
  · have lx : i < xs.length := by omega
    have he : es[i]? = some es[i] := List.getElem?_eq_getElem lt
    refine .inr ⟨⟨xs, xs[i], q, List.getElem?_eq_getElem lx⟩, fun H' => Same H1 H' ∧ ∃ ys, H' D = some (.lst ys) ∧ Al2 (fun e y => G e y H') ((es.take (i + 1)).filter keep) ys, fun H' p' => ⟨es.length - (i + 1), by omega, rfl, lt, p'⟩, fun x H' y => ?_⟩
    obtain ⟨e, y⟩ := y
    subst e
    refine ⟨hw x, test i es[i] x _ _ he (y xs q) sm fun H3 s3 => ?_⟩
    have ft : (es.take (i + 1)).filter keep = (es.take i).filter keep ++ (if keep es[i] = true then [es[i]] else []) := by
      rw [List.take_add_one, he, Option.toList_some, List.filter_append]
      congr 1
      by_cases k : keep es[i] = true
      · rw [if_pos k, List.filter_cons_of_pos k]; rfl
      · rw [if_neg k, List.filter_cons_of_neg k]; rfl
    by_cases k : keep es[i] = true
    · rw [if_pos k]
      refine item i es[i] x H3 _ he (y xs q) k (sm.trans s3) fun z H4 s4 g => ?_
      have hD4 := s4 _ _ (s3 _ _ hD)
      refine ⟨ys, hD4, ?_, (sm.trans (s3.trans s4)).over nD (.lst hD4), _, upd_same, ?_⟩
      · rw [al.length]
        have l1 := List.length_filter_le keep (es.take i)
        rw [List.length_take] at l1
        omega
      · rw [ft, if_pos k]
        have al2 : Al2 (fun u v => G u v (upd H4 D (.lst (ys ++ [z])))) ((es.take i).filter keep) ys := (al_mem al).mono fun u v g => gu _ _ _ _ _ hD4 (List.mem_of_mem_take (List.mem_filter.mp g.2).1) (gk _ _ _ _ (s3.trans s4) g.1)
        exact Al2.snoc (R := fun u v => G u v (upd H4 D (.lst (ys ++ [z])))) (gu _ _ _ _ _ hD4 (List.getElem_mem lt) g) al2
    · rw [if_neg k]
      refine ⟨sm.trans s3, ys, s3 _ _ hD, ?_⟩
      rw [ft, if_neg k, List.append_nil]
      exact al.mono fun u v g => gk _ _ _ _ s3 g
  · have e : i = es.length := by omega
    rw [e, List.take_length] at al
    exact .inl ⟨⟨xs, q, by omega⟩, hd ys H al sm hD⟩
end
theorem al_dpAll {K : PySem.W.Frag} {H : Hp} : ∀ {es : List Ent} {xs : List V}, Al2 (fun e x => Dp K H x (dEnt e)) es xs → DpAll K H xs (es.map dEnt)
  | _, _, .nil => .nil
  | _ :: _, _ :: _, .cons h t => .cons h (al_dpAll t)
theorem rise_uniqL : ∀ {a b : List (List Nat)}, a.Pairwise (· < ·) → b.Pairwise (· < ·) → a.Perm b → a = b
  | [], b, _, _, p => (List.Perm.nil_eq p)
  | x :: a, [], _, _, p => absurd p.length_eq (by simp)
  | x :: a, y :: b, ha, hb, p => by
    have e : x = y := by
      have hx : x ∈ y :: b := p.mem_iff.mp (List.mem_cons_self ..)
      have hy : y ∈ x :: a := p.mem_iff.mpr (List.mem_cons_self ..)
      rcases List.mem_cons.mp hx with h | h
      · exact h
      · rcases List.mem_cons.mp hy with k | k
        · exact k.symm
        · have h1 := (List.pairwise_cons.mp hb).1 x h
          have h2 := (List.pairwise_cons.mp ha).1 y k
          exact absurd (List.lt_trans h1 h2) (List.lt_irrefl _)
    subst e
    rw [rise_uniqL (List.pairwise_cons.mp ha).2 (List.pairwise_cons.mp hb).2 (List.Perm.cons_inv p)]
theorem paths_inj {L : List Ent} (nd : Nod L) : ∀ {fs gs : List Ent}, (∀ e ∈ fs, e ∈ L) → (∀ e ∈ gs, e ∈ L) → fs.map Ent.path = gs.map Ent.path → fs = gs
  | [], [], _, _, _ => rfl
  | [], _ :: _, _, _, h => by cases h
  | _ :: _, [], _, _, h => by cases h
  | f :: fs, g :: gs, hf, hg, h => by
    rw [List.map_cons, List.map_cons] at h
    injection h with h1 h2
    rw [nd.eq (hf f (List.mem_cons_self ..)) (hg g (List.mem_cons_self ..)) h1, paths_inj nd (fun e he => hf e (List.mem_cons_of_mem _ he)) (fun e he => hg e (List.mem_cons_of_mem _ he)) h2]
theorem sorted_is {L fs : List Ent} {ys : List (List Nat)} (nd : Nod L) (pm : ys.Perm (L.map Ent.path)) (so : sortedS (ys.map mkS) = true) (ef : fs.map Ent.path = ys) (sub : ∀ e ∈ fs, e ∈ L) : fs = sortE L := by
  have ny : ys.Nodup := pm.nodup_iff.mpr nd
  have r1 := sorted_paths so ny
  have r2 : ((sortE L).map Ent.path).Pairwise (· < ·) := by
    rw [List.pairwise_map]
    exact sortE_rise nd
  have e1 : ys = (sortE L).map Ent.path := rise_uniqL r1 r2 (pm.trans ((sortE_perm L).map Ent.path).symm)
  exact paths_inj nd sub (fun e he => (sortE_perm L).mem_iff.mp he) (ef.trans e1)
theorem kept_snoc (es : List Ent) (e : Ent) (p : List Nat) : keptE (es ++ [e]) p = keptE es p ++ (if belowB p e.path = true then [] else [e]) := by
  unfold keptE
  rw [List.filter_append]
  congr 1
  by_cases k : belowB p e.path = true
  · rw [if_pos k, List.filter_cons_of_neg (by rw [k]; decide)]
    rfl
  · rw [if_neg k, List.filter_cons_of_pos (by rw [Bool.eq_false_iff.mpr k]; rfl)]
    rfl
theorem come_snoc (es : List Ent) (e : Ent) (p : List Nat) : comeE (es ++ [e]) p = comeE es p ++ [e.re (p ++ 47 :: e.path)] := by
  unfold comeE
  rw [List.map_append]
  rfl
theorem SmallE.re {es : List Ent} (h : SmallE es) {e : Ent} (me : e ∈ es) (u : List Nat) : ∀ t b, e.re u = .file t b → b.length ≤ 1000 := fun t b z => by
  cases e with
  | folder _ => cases z
  | link _ _ => cases z
  | file t' b' => cases z; exact h _ me _ _ rfl
end Fc

namespace Fc
open PySem PySem.Spec L2 PyProof.Rows
variable [LamNames]
/-! ### a list that grows by a tuple -/
theorem ext_any (l : Addr) (its : Array Value) (n : Nat) (b : Addr) (o : Obj) (its2 : Array Value) (n2 : Nat) (hc : o.cls = .type "tuple") (hd : o.data = .seq its2 n2) (hs0 : ¬(!its.isEmpty && Builtin.List.listTooLong (its.size + its2.size)) = true) (hs1 : its.size ≤ sizeLine) (hs2 : its.size + its2.size ≤ sizeLine + 1) :
    Meets (Builtin.«list.extend» ⟨[.ref l, .ref b], []⟩) (fun _ R s => s.heap.get? l = some { cls := .type "list", dict := none, data := .seq its n, slots := #[] } ∧ s.heap.get? b = some o ∧ R (.ok (.ret Value.none)) { s with heap := s.heap.update l (Obj.mapSeq fun x => x ++ its2), toks := s.toks }) := by
  refine .of_wp fun prog w A R s h => ?_
  obtain ⟨cls, dict, data, slots⟩ := o
  dsimp only at hc hd
  subst hc hd
  obtain ⟨hp, g, d, tk, os⟩ := s
  obtain ⟨hl, hb, h⟩ := h
  have f1 := PySem.AutoSeq1.sub_tuple_tuple
  have f2 := PySem.AutoSeq1.sub_list_list
  have f3 := PySem.AutoSeq1.sub_tuple_list
  have f4 := PySem.AutoSeq1.sub_list_tuple
  have f5 := PySem.AutoSeq1.idx_int
  have hz' : (its ++ its2).size ≤ sizeLine + 1 := by
    rw [Array.size_append]
    exact hs2
  wp_walk using (wpAny_updateSeq hl rfl (hz := hs1) (_hz' := hz')), wpAny_loadPart' hl, wpAny_loadPart' hb
  exact ⟨_, rfl, h⟩
section
variable {X : Cx}
def rExtT (K : PySem.W.Frag) : V → List V → Hp → VK → Prop := fun x vs H Q => ∃ l b xs zs, x = .ref l ∧ vs = [.ref b] ∧ H l = some (.lst xs) ∧ SqT K H b zs ∧ xs.length + zs.length ≤ sizeLine ∧ Q .non (upd H l (.lst (xs ++ zs)))
theorem mt_extendT : MtM X "list.extend" (rExtT X.K) := by
  intro pins s σ H x vs v us Q I rx rv h
  obtain ⟨l, b, xs, zs, rfl, rfl, hH, hB, hz, q⟩ := h
  cases rx
  obtain ⟨u, rfl, ru⟩ := rv.one
  cases ru
  obtain ⟨z, its, n, r, hl, e⟩ := I.lstM hH
  obtain ⟨its2, r2, ⟨o, e2, hc, n2, hd⟩, z2⟩ := I.tuple hB
  have l2 := r2.length
  have hsz : its.toArray.size + its2.toArray.size ≤ sizeLine := by rw [List.size_toArray, List.size_toArray]; omega
  have hlong : ¬ (!its.toArray.isEmpty && Builtin.List.listTooLong (its.toArray.size + its2.toArray.size)) = true := by
    rw [notLongL hsz, Bool.and_false]
    exact Bool.false_ne_true
  refine call_meets F.slot_list_extend ⟨_, e, rfl⟩ F.entry_list_extend (F.args_list_extend_2 _ _)
    (ext_any l its.toArray n b o its2.toArray n2 hc hd hlong (by rw [List.size_toArray]; omega) (by omega)) ⟨e, e2, ?_⟩
  refine ⟨.non, _, I.lset (its' := its ++ its2) hH e (by simp) (r.append r2) ?_, rfl, q⟩
  rw [List.length_append]
  omega
end
/-! ### all but one object -/
def But (b : Addr) (H H' : Hp) : Prop := ∀ a o, a ≠ b → H a = some o → H' a = some o
theorem But.refl (b : Addr) (H : Hp) : But b H H := fun _ _ _ h => h
theorem But.trans {b : Addr} {H H' H'' : Hp} (h : But b H H') (h2 : But b H' H'') : But b H H'' := fun a o n e => h2 a o n (h a o n e)
theorem But.set {b : Addr} {H H' : Hp} {o : HO} (h : But b H H') : But b H (upd H' b o) := fun a o' n e => by
  rw [upd_ne n]
  exact h a o' n e
/-- what is new behind a heap may change -/
theorem But.same {b : Addr} {H H1 H2 : Hp} (s : Same H H1) (n : H b = none) (nc : NC (H1 b)) (h : But b H1 H2) : Same H H2 := ⟨fun a o e nt => h a o (ne_of_none e n) (s.get a o e nt), fun a ps e => by
  obtain ⟨ps', e', t, m⟩ := s.tab a ps e
  refine ⟨ps', h a _ (ne_of_none e n) e', t, fun q hq z pos cv hc => ?_⟩
  obtain ⟨c, e1, e2⟩ := m q hq z pos cv hc
  exact ⟨c, e1, h c _ (fun k => by rw [k] at e2; rw [e2] at nc; exact nc) e2⟩⟩
theorem But.tup {K : PySem.W.Frag} {b t : Addr} {H H' : Hp} {xs ys : List V} (h : But b H H') (e : H b = some (.lst ys)) (ht : SqT K H t xs) : SqT K H' t xs := by
  rcases ht with (ht | ⟨o, ht⟩) | ht
  · left; left
    exact h t _ (fun z => by subst z; rw [e] at ht; cases ht) ht
  · left; right
    exact ⟨o, h t _ (fun z => by subst z; rw [e] at ht; cases ht) ht⟩
  · right; exact ht
end Fc

namespace Fc
open PySem PySem.Spec L2 PyProof.Rows
variable [LamNames]
/-! ### except clauses over a class or over a row of classes -/
/-- the test of a clause, over the classes cs -/
def TestOk (X : Cx) (e : Expr) (cs : List Value) : Prop :=
  ∀ (a : Addr) (oe : Obj) (pn : List (Addr × Obj)) (σ : L2.St) (H : Hp) (s : Shared) (cls : Value) (b : Bool) (Q : Bool → Shared → Prop) (E : Value → Shared → Prop), Inv (X.suite a ((a, oe) :: pn)) [] σ H s → X.K.In s.heap →
    PySem.W.Looks (model X.prog X.w) s.heap (typeOf (.ref a)) cls → PySem.W.exmAny X.K cls cs = some b → (∀ h', (∀ q o, s.heap.get? q = some o → h'.get? q = some o) → Q b { s with heap := h' }) →
    wpAny (model X.prog X.w) (X.A.mark (some (.ref a))) (eval e X.env) (fun c s₁ => wpAny (model X.prog X.w) (X.A.mark (some (.ref a))) (excMatches (.ref a) c) Q E s₁) E s
section
variable {X : Cx}
theorem ld_name {x : Str} {c : Value} {np : Pos} (hc : Names X x c) {a : Addr} {oe : Obj} {pn : List (Addr × Obj)} {σ : L2.St} {H : Hp} {s : Shared} {Q : Value → Shared → Prop} {E : Value → Shared → Prop} (I : Inv (X.suite a ((a, oe) :: pn)) [] σ H s) (q : Q c s) :
    wpAny (model X.prog X.w) (X.A.mark (some (.ref a))) (eval (.Name x np) X.env) Q E s := by
  obtain ⟨hg, hdbg, hm | ⟨hm, hv, hnn⟩⟩ := hc
  · exact ld_glob (X := X.suite a ((a, oe) :: pn)) I hg hm q hdbg
  · exact ld_blt (X := X.suite a ((a, oe) :: pn)) I hg hm hv q hnn hdbg
theorem test_nameC {x : Str} {c : Value} {np : Pos} (hc : Names X x c) : TestOk X (.Name x np) [c] := fun a oe pn σ H s cls b Q E I kI LT hx q => by
  obtain ⟨b1, d1, x1, y1, rfl⟩ := PySem.W.exmAny_cons hx
  have w : some false = some d1 := y1
  cases w
  rw [Bool.or_false] at q
  exact ld_name hc I ((PySem.W.exm_one (M := model X.prog X.w) kI LT x1).here (q s.heap fun _ _ z => z))
theorem test_tup3C {x1 x2 x3 : Str} {c1 c2 c3 : Value} {p1 p2 p3 tp : Pos} {kk : Nat} (h1 : Names X x1 c1) (h2 : Names X x2 c2) (h3 : Names X x3 c3) : TestOk X (.Tuple [.Name x1 p1, .Name x2 p2, .Name x3 p3] kk tp) [c1, c2, c3] := fun a oe pn σ H s cls b Q E I kI LT hx q => by
  refine wpAny_Tuple ?_
  refine wpAny_items_cons (ld_name h1 I ?_)
  refine wpAny_items_cons (ld_name h2 I ?_)
  refine wpAny_items_cons (ld_name h3 I ?_)
  refine wpAny_items_nil ⟨by show 3 ≤ sizeLine; rw [sizeLine_eq]; decide, ?_⟩
  have kp : ∀ q o, s.heap.get? q = some o → (s.heap.push { cls := .type "tuple", data := .seq [c1, c2, c3].toArray }).get? q = some o := fun _ _ z => Heap.get?_push_of_some _ z
  exact (PySem.W.exm_tup3 (kI.keeps kp) (LT.keeps kp) (Heap.get?_push_size s.heap rfl) hx).here (q _ kp)
end
/-- what the clauses wish of an exception of the body; one of them takes it -/
def wRow (K : PySem.W.Frag) (D : Ends) : List (List Value × TS) → WX
  | [] => fun _ _ _ _ => False
  | (cs, ts) :: r => fun cls d σ H => ∃ b, PySem.W.exmAny K cls cs = some b ∧ (b = true → ts D σ H) ∧ (b = false → wRow K D r cls d σ H)
inductive Hds (X : Cx) : List ExceptHandler → List (List Value × TS) → Prop
  | nil : Hds X [] []
  | cons {e : Expr} {cs : List Value} {ts : TS} {b₀ : Stmt} {suite : List Stmt} {pos' : Pos} {hds : List ExceptHandler} {l : List (List Value × TS)} (ht : TestOk X e cs)
      (hsu : ∀ (a : Addr) (oe : Obj) (pn : List (Addr × Obj)), PSs (X.suite a ((a, oe) :: pn)) (b₀ :: suite) ts) (r : Hds X hds l) : Hds X (.ExceptHandler (some e) none (b₀ :: suite) pos' :: hds) ((cs, ts) :: l)
theorem fly_keeps {B h h' : Heap} {l : List Env} {a : Addr} {Z : Obj → Prop} (f : HandSPX.FlyingZ B l a Z h) (k : ∀ b o, h.get? b = some o → h'.get? b = some o) : HandSPX.FlyingZ B l a Z h' := by
  obtain ⟨f1, f2, f3, oe, vs, T, oT, ts, g1, g2, g3, g4, g5, g6, g7, g8, g9⟩ := f
  exact ⟨fun b o q => k b o (f1 b o q), f2, f3.of_keeps fun b o q _ => ⟨o, k b o q, rfl⟩, oe, vs, T, oT, ts, k _ _ g1, g2, g3, g4, g5, g6, k _ _ g7, g8, g9⟩
section
variable {X : Cx}
/-- the clauses, one behind the other, while the exception at a flies -/
theorem rows_run {D : Ends} {a : Addr} {B : Heap} {sI : Shared} {pins : List (Addr × Obj)} {σ : L2.St} {H : Hp} {cls : Value} {d : Option Addr} (ok : X.Ok) (hf : X.env.frame = some X.env.locals) (J : Inv X pins σ H sI) (nb : ∀ b o, sI.heap.get? b = some o → b ∉ frs X.stack → B.get? b = some o) (na : H a = none) {hds : List ExceptHandler} {l : List (List Value × TS)} (hk : Hds X hds l) :
    ∀ s : Shared, HandSPX.FlyingZ B (X.env :: X.outer) a (Zc cls d) s.heap → sI.heap.UpToSlots s.heap → s.os = sI.os → AllBare s.gens → wRow X.K D l cls d σ H → wpAny (model X.prog X.w) X.A (handleBy (.ref a) X.env hds) (SP X pins D) X.xe s := by
  have away : ∀ {h : Heap}, HandSPX.FlyingZ B (X.env :: X.outer) a (Zc cls d) h → a ≠ X.env.locals ∧ a ∉ X.fs := fun {h} fl => by
    obtain ⟨oe, vs, he, _, hd⟩ := fl.there
    have n : a ∉ frs (X.env :: X.outer) := fun hm => by
      obtain ⟨_, o', e', z⟩ := fl.2.2.1.mem hm
      rw [he] at e'
      cases e'
      exact z _ hd
    refine ⟨fun z => n (List.mem_filterMap.mpr ⟨X.env, List.mem_cons_self, by rw [hf, z]⟩), fun hm => ?_⟩
    obtain ⟨e, he, q⟩ := List.mem_filterMap.mp hm
    exact n (List.mem_filterMap.mpr ⟨e, List.mem_cons_of_mem _ he, q⟩)
  induction hk with
  | nil => exact fun s _ _ _ _ w => w.elim
  | cons ht hsu r ih =>
    intro s fl up os ag w
    obtain ⟨b, hb, yes, no⟩ := w
    have J1 : Inv X pins σ H s := J.landed nb fl.1 up os ag
    obtain ⟨oe, vs, he, hz, hd⟩ := fl.there
    have LT : PySem.W.Looks (model X.prog X.w) s.heap (typeOf (.ref a)) cls := fun A Q E s k q => wpAny_typeOf_ref (k _ _ he) (by rw [hz.1]; exact q)
    refine wpAny_handleBy_cons (codeAny_handlers_test ?_) (by intro q; cases q)
    refine ht a oe (X.pn ++ pins) σ H s cls b _ _ (J1.suite he hd na (away fl).1 (away fl).2) J1.kIn LT hb fun h2 k2 => ?_
    have fl2 := fly_keeps fl k2
    have up2 := up.trans (Heap.UpToSlots.of_keeps k2)
    cases b with
    | false => exact ih { s with heap := h2 } fl2 up2 os ag (no rfl)
    | true =>
      refine codeAny_handlers_suite ?_
      refine HandSPX.lands_againZ fl2 fun h4 fl4 up4 => ?_
      have J4 : Inv X pins σ H { s with heap := h4 } := J.landed nb fl4.1 (up2.trans up4) os ag
      obtain ⟨oe4, vs4, he4, hz4, hd4⟩ := fl4.there
      refine wpAny_mono ((hsu a oe4 (X.pn ++ pins)).run [] _ _ H _ (J4.suite he4 hd4 na (away fl4).1 (away fl4).2) (yes rfl)) (fun f s6 hsp => ?_) (fun _ _ z => False.elim z)
      cases f with
      | ret u =>
        obtain ⟨v6, σ6, H6, S6, r6, q6⟩ := hsp
        exact ⟨_, _, _, S6.unsuite ok, r6, q6⟩
      | _ =>
        obtain ⟨σ6, H6, S6, q6⟩ := hsp
        exact ⟨_, _, S6.unsuite ok, q6⟩
/-- try with such clauses, when one of them takes whatever the body raises -/
theorem ps_tryR {body : List Stmt} {h₀ : ExceptHandler} {hds : List ExceptHandler} {l : List (List Value × TS)} {pos : Pos} {tb : WX → TS} (hs : X.stack = X.env :: X.outer) (hf : X.env.frame = some X.env.locals)
    (hb : ∀ (W : WX) (pn : List (Addr × Obj)) (xe : Value → Shared → Prop), Takes (X.tr pn xe) W → PassesOwn (model X.prog X.w) X.A X.env xe → PSs (X.tr pn xe) body (tb W)) (hh : Hds X (h₀ :: hds) l) :
    PS X (.Try body (h₀ :: hds) [] [] pos) (fun D σ H => tb (wRow X.K D l) D σ H) := by
  refine ⟨fun pins s σ H D I h => ?_⟩
  have ok := I.ok
  refine wpAny_Try_except ?_
  refine wpAny_mono ((hb (wRow X.K D l) (X.pn ++ pins) (fun e s₁ => wpAny (model X.prog X.w) X.A (noteFrame e X.env) (fun _ s₂ => wpAny (model X.prog X.w) X.A (setFlight e none) (fun _ s₃ =>
    wpAny (model X.prog X.w) X.A (handleBy e X.env (h₀ :: hds)) (SP X pins D) X.xe s₃) X.xe s₂) X.xe s₁) (fun u s' xx => ?_) PassesOwn.looking).run [] s σ H D (I.toTry _) h) (fun f s1 hsp => ?_) (fun e s1 he => he)
  · obtain ⟨a, B, sI, pins', σ', H', cls, d, rfl, J', nb, up, sky, na, os, ag, w⟩ := xx
    exact Sky.land Zc.steady (by rw [ok.frames, hs]) hf (by rw [← hs]; exact sky) fun h3 fl3 up3 => rows_run ok hf (J'.ofTry ok) nb na hh { s' with heap := h3 } fl3 (up.trans up3) os ag w
  · cases f with
    | next =>
      obtain ⟨σ', H', J', q⟩ := hsp
      exact wpAny_execs_nil ⟨σ', H', J'.ofTry ok, q⟩
    | ret u =>
      obtain ⟨v, σ', H', J', r, q⟩ := hsp
      exact ⟨v, σ', H', J'.ofTry ok, r, q⟩
    | _ =>
      obtain ⟨σ', H', J', q⟩ := hsp
      exact ⟨σ', H', J'.ofTry ok, q⟩
end
end Fc

namespace Fc
open PySem PySem.Spec L2 PyProof.Rows
variable [LamNames]
/-! ### a tuple that is known by its place -/
def Tupn (H : Hp) (xs : List V) (Q : VK) : Prop := ∀ H' p, Same H H' → H' p = some (.tup xs) → Q (.ref p) H'
theorem Tupn.new {H : Hp} {xs : List V} {Q : VK} (h : Tupn H xs Q) {p : Addr} (n : H p = none) : Q (.ref p) (upd H p (.tup xs)) := h _ _ (grow n) upd_same
section
variable {X : Cx}
theorem call_tupleN : CallR X (.type "tuple") (fun xs H Q => ∃ p ys, xs = [.ref p] ∧ SqL X.K H p ys ∧ Tupn H ys Q) := by
  intro pins s σ H xs us Q I r h
  obtain ⟨p, ys, e, hp, q⟩ := h
  exact call_tuple_of pins s σ H xs us Q I r ⟨p, ys, e, .inl ⟨hp, fun l n => q.new n⟩⟩
def rSlN : V → Option Int → Option Int → Hp → VK → Prop := fun x lo hi H Q => ∃ a xs, x = .ref a ∧ H a = some (.tup xs) ∧ Tupn H (cutV xs lo hi) Q
theorem sl_tupN : SlR X rSlN := by
  intro pins s σ H x v vl vu lo hi sl Q I rx hs pl pu h
  obtain ⟨a, xs, rfl, hx, q⟩ := h
  refine sl_tupA pins s σ H _ v vl vu lo hi sl Q I rx hs pl pu ⟨a, xs, rfl, SqT.of hx, fun e => ?_, fun _ p n => q.new n⟩
  have ec : cutV xs lo hi = xs := by
    unfold cutV
    rw [e.1, e.2, List.drop_zero, Nat.sub_zero, List.take_length]
  exact q _ _ (Same.refl H) (by rw [ec]; exact hx)
end
/-! ### what is written leaves tuples as they are -/
def Wo : HO → Prop
  | .lst _ => True
  | .dK _ => True
  | .dT _ => True
  | _ => False
theorem Wo.nc {H : Hp} {p : Addr} {o : HO} (h : H p = some o) (w : Wo o) : NC (H p) := by
  rw [h]
  cases o <;> first | trivial | exact w.elim
theorem keepT_wo {K : PySem.W.Frag} {H : Hp} {p t : Addr} {xs : List V} {o o' : HO} (h : SqT K H t xs) (e : H p = some o) (w : Wo o) : SqT K (upd H p o') t xs := by
  rcases h with (h | ⟨u, h⟩) | h
  · refine .inl (.inl ?_)
    rw [upd_ne (fun z => by rw [z, e] at h; cases h; exact w)]
    exact h
  · refine .inl (.inr ⟨u, ?_⟩)
    rw [upd_ne (fun z => by rw [z, e] at h; cases h; exact w)]
    exact h
  · exact .inr h
theorem upd_at {H : Hp} {p a : Addr} {o o' u : HO} (h : H a = some u) (e : H p = some o) (n : u ≠ o) : upd H p o' a = some u := by
  rw [upd_ne (fun z => by rw [z, e] at h; cases h; exact n rfl)]
  exact h
theorem ixNn {n j : Nat} (hj : j < n) : ixN n (j : Int) = some j := by
  have a : (0 : Int) ≤ (j : Int) := Int.natCast_nonneg j
  have b : (j : Int) < (n : Int) := by omega
  simp [ixN, a, b]
/-- a row of whole numbers, not below zero -/
def nV (xs : List Nat) : List V := xs.map fun n : Nat => V.int (n : Int)
theorem nV_len (xs : List Nat) : (nV xs).length = xs.length := List.length_map ..
theorem nV_get {xs : List Nat} {i : Nat} {v : V} (h : (nV xs)[i]? = some v) : ∃ n, xs[i]? = some n ∧ v = .int (n : Int) := by
  unfold nV at h
  rw [List.getElem?_map] at h
  cases e : xs[i]? with
  | none => rw [e] at h; cases h
  | some n => rw [e] at h; exact ⟨n, rfl, (Option.some.inj h).symm⟩
theorem nV_ints (xs : List Nat) : nV xs = (xs.map fun n : Nat => (n : Int)).map V.int := by
  unfold nV
  rw [List.map_map]
  rfl
theorem nV_app (xs ys : List Nat) : nV (xs ++ ys) = nV xs ++ nV ys := List.map_append ..
/-- a pair of whole numbers -/
def IsP (K : PySem.W.Frag) (x : Nat × Nat) (v : V) (H : Hp) : Prop := ∃ t, v = .ref t ∧ SqT K H t [.int (x.1 : Int), .int (x.2 : Int)]
theorem IsP.keep {K : PySem.W.Frag} {x : Nat × Nat} {v : V} {H H' : Hp} (s : Same H H') (h : IsP K x v H) : IsP K x v H' := by
  obtain ⟨t, e, k⟩ := h
  exact ⟨t, e, keepT s k⟩
theorem IsP.put {K : PySem.W.Frag} {x : Nat × Nat} {v : V} {H : Hp} {p : Addr} {o o' : HO} (e : H p = some o) (w : Wo o) (h : IsP K x v H) : IsP K x v (upd H p o') := by
  obtain ⟨t, ev, k⟩ := h
  exact ⟨t, ev, keepT_wo k e w⟩
def Ps (K : PySem.W.Frag) (H : Hp) (T : List (Nat × Nat)) (vs : List V) : Prop := Al2 (fun x v => IsP K x v H) T vs
end Fc

namespace Fc
open PySem PySem.Spec L2 PyProof.Rows
variable [LamNames]
/-! ### an own error with its own __init__ -/
def oexCls (K : PySem.W.Frag) (C : Addr) : Bool :=
  match K.lookup C with
  | some ⟨.type "type", _, .cls cd, sl⟩ =>
    match cd.mro, sl.toList with
    | .ref D :: bm, [_, _, _, _, some (.builtin n), _] => D == C && (n == "ValueError.__new__" && (!cd.hasDel && (cd.hasDict && PySem.HandSPX.refsVE bm)))
    | _, _ => false
  | _ => false
def oexB (K : PySem.W.Frag) (C : Addr) : Bool := oexCls K C && (decide (PySem.W.findIn K (.ref C) "__setattr__" = some (some (.builtin "object.__setattr__"))) &&
  (decide (PySem.W.subIn K (.ref C) (.type "BaseException") = some true) && (decide (PySem.W.typeIn K (.ref C) = some (.type "type")) && PySem.W.keepIn K (.ref C))))
theorem oexB_ok {K : PySem.W.Frag} {C : Addr} (h : oexB K C = true) : OexC K C := by
  unfold oexB at h
  simp only [Bool.and_eq_true, decide_eq_true_eq] at h
  obtain ⟨h0, h1, h2, h3, h4⟩ := h
  refine ⟨?_, h1, h2, h3, h4⟩
  unfold oexCls at h0
  split at h0
  · rename_i dd cd sl ho
    split at h0
    · rename_i D bm k0 k1 k2 k3 n k5 hm hs
      simp only [Bool.and_eq_true, beq_iff_eq, Bool.not_eq_true'] at h0
      obtain ⟨rfl, rfl, hdel, hdict, hv⟩ := h0
      obtain ⟨nm, bs, mro, ns, qn, hd, sn, sub, ab, col, del⟩ := cd
      dsimp only at hm hdel hdict
      subst hm hdel hdict
      have hsl : sl = #[k0, k1, k2, k3, some (.builtin "ValueError.__new__"), k5] := by
        obtain ⟨l⟩ := sl
        simp only at hs
        rw [hs]
      subst hsl
      exact ⟨nm, qn, ns, bs, bm, sn, sub, ab, col, dd, k0, k1, k2, k3, k5, ho, hv⟩
    · cases h0
  · cases h0
/-- B.__init__ is ValueError's -/
structure VeI (K : PySem.W.Frag) (B : Addr) : Prop where
  rd : PySem.W.readsIn K B (.type "type") = true
  ga : PySem.W.specialIn K (.ref B) "__getattribute__" = some (some (.builtin "type.__getattribute__"))
  fi : PySem.W.findCls K (.ref B) (.type "type") "__init__" = some (.val (.builtin "ValueError.__init__"))
def veIB (K : PySem.W.Frag) (B : Addr) : Bool := PySem.W.readsIn K B (.type "type") && ((match PySem.W.specialIn K (.ref B) "__getattribute__" with | some (some (.builtin n)) => n == "type.__getattribute__" | _ => false) && (match PySem.W.findCls K (.ref B) (.type "type") "__init__" with | some (.val (.builtin n)) => n == "ValueError.__init__" | _ => false))
theorem veIB_ok {K : PySem.W.Frag} {B : Addr} (h : veIB K B = true) : VeI K B := by
  unfold veIB at h
  rw [Bool.and_eq_true, Bool.and_eq_true] at h
  obtain ⟨h1, h2, h3⟩ := h
  refine ⟨h1, ?_, ?_⟩
  · split at h2
    · rename_i n e
      rw [e, beq_iff_eq.mp h2]
    · cases h2
  · split at h3
    · rename_i n e
      rw [e, beq_iff_eq.mp h3]
    · cases h3
section
variable {X : Cx} {e : Expr} {es : List Expr} {ta : TA} {p1 p2 pos : Pos}
/-- B.__init__(self, ..), B an own class over ValueError -/
theorem pe_clinit {x : Str} {B : Addr} {pl : Sem Bool} (hg : Gl X x) (hm : X.mg x = some (.ref B)) (V : VeI X.K B) (ha : PA X (e :: es) ta)
    (hc : eval (.Call (.Attribute (.Name x p1) "__init__" p2) (e :: es) [] pos) X.env = (do
      let ov ← eval (.Name x p1) X.env
      standAt p2.atName
      let (f, first) ← holding [ov] (getMethod ov "__init__" pl)
      callWith pos f first (backTo pos (starEach (e :: es) X.env)) (backToKw pos (keywordEach [] X.env))) := by rfl)
    (hdb : (x == ("__debug__" : Str)) = false := by decide) (he : starEach (e :: es) X.env = (false, eval e X.env) :: starEach es X.env := by rfl) (hpl : (backTo pos (starEach es X.env)).any (·.1) = false := by rfl) :
    PE X (.Call (.Attribute (.Name x p1) "__init__" p2) (e :: es) [] pos) (tVeI X.K ta) := by
  refine ⟨fun pins s σ H Q I h => ?_⟩
  refine PySem.W.methodCall_KW (ld_glob I hg hm ?_ hdb) hc
  refine PySem.W.method_cls I.kIn V.ga ?_
  refine PySem.W.cls_value I.kIn V.rd V.fi (by decide +kernel) ?_
  show wpAny _ _ (callWith pos (Value.builtin "ValueError.__init__") [] (backTo pos (starEach (e :: es) X.env)) []) _ _ _
  refine PyProof.Rows.callWith_method1 (thn (ha.run pos pins _ σ H _ (I.tok _) h) fun us s1 ⟨vs, H1, I1, r1, a, C, ws, ev, hl, T, ea, q⟩ => ?_) he hpl
  subst ev
  cases r1 with
  | @cons _ u0 _ ur ra rt =>
    obtain rfl : u0 = Value.ref a := ra
    refine oinit_ok T I1 ea ?_ fun s' J => ⟨.non, H1, J, rfl, q⟩
    rw [← Paired.length rt, sizeLine_eq]
    omega
end
structure ExcM (K : PySem.W.Frag) (mg : Str → Option Value) (x : Str) (C : Addr) (f : Str) : Prop where
  g : mg x = some (.ref C)
  o : OexC K C
  xf : XfC K C
  no : PySem.W.findIn K (.ref C) f = some none
/-- as CalM, of an error's class -/
structure CalE (P : Program) (w : World) (K : PySem.W.Frag) (mg : Str → Option Value) (base : Heap) (x : Str) (C : Addr) (k : Nat) (ps : List Str) (sp : Sp) : Prop where
  ex : ∃ f fd, OexC K C ∧ (PySem.W.findIn K (.ref C) "__init__" = some (some (.ref f)) ∧ PySem.W.typeIn K (.ref f) = some (.type "function")) ∧ FnOk P w K mg base CX0 k f fd ps sp ∧ mg x = some (.ref C) ∧ Binds K fd ps []
theorem fnOfMeth {K : PySem.W.Frag} {x m : Str} (c : (He.Fa.meth x m).ok K = true) : PySem.W.findIn K (.ref (He.ga K x)) m = some (some (.ref (He.ma K (He.ga K x) m))) ∧ PySem.W.typeIn K (.ref (He.ma K (He.ga K x) m)) = some (.type "function") := by
  obtain ⟨c1, c⟩ := He.ba c
  exact ⟨He.eqO_ok c1, by
    have c2 := (He.ba c).1
    unfold PySem.W.isFn at c2
    first | exact beq_iff_eq.mp c2 | exact of_decide_eq_true c2 | simpa using c2⟩
section
variable {X : Cx}
theorem ps_raiseM {W : WX} {x : Str} {C : Addr} {k : Nat} {ps : List Str} {sp : Sp} {p p3 pos : Pos} {e : Expr} {es : List Expr} {ta : TA} (hc : X.calm = true) (tk : Takes X W) (M : CalE X.prog X.w X.K X.mg X.base x C k ps sp) (hr : Room (k + 1) X.A) (ha : PA X (e :: es) ta) (hg : Gl X x := by rfl) (hdb : (x == ("__debug__" : Str)) = false := by decide)
    (he : starEach (e :: es) X.env = (false, eval e X.env) :: starEach es X.env := by rfl) (hpl : (backTo p3 (starEach es X.env)).any (·.1) = false := by rfl) :
    PS X (.Raise (some (.Call (.Name x p) (e :: es) [] p3)) none pos) (fun _ σ H => tMkO C sp [] ta σ H fun cls d H' => W cls d σ H') := by
  obtain ⟨f, fd, T, ⟨iC, tI⟩, F1, m, b⟩ := M.ex
  exact ps_raise hc tk (pmk_oex T iC tI F1 hr b .nil pass0 hg m ha hdb he hpl)
end
/-! ### a tuple of whole numbers in an f-string -/
section
variable {X : Cx}
theorem repr_ints {prog : Program} {w : World} : ∀ {ns : List Int} {its : List Value}, Vals (ns.map V.int) its → (∀ n ∈ ns, 0 ≤ n ∧ n < 100000) → ReprAll prog w its (ns.map fun n => Str.ofString (toString n))
  | [], _, r, _ => by
    cases r
    exact .nil
  | n :: ns, _, r, h => by
    cases r with
    | cons r1 r2 =>
      obtain ⟨t, rfl⟩ := r1
      have hn := h n List.mem_cons_self
      refine .cons (ReprIs.int t ?_) (repr_ints r2 fun m hm => h m (List.mem_cons_of_mem _ hm))
      by_cases z : n.natAbs = 0
      · rw [z]; decide
      · exact (Nat.log2_lt z).mpr (Nat.lt_of_lt_of_le (show n.natAbs < 2 ^ 17 by omega) (Nat.pow_le_pow_right (by decide) (by decide)))
theorem piled_ints : ∀ {ns : List Int}, (∀ n ∈ ns, 0 ≤ n ∧ n < 100000) → piled (ns.map fun n => Str.ofString (toString n)) ≤ 10 * ns.length
  | [], _ => Nat.le_refl _
  | n :: ns, h => by
    have h1 := PyProof.Rows.toString_length_le (v := n) (h n List.mem_cons_self).1 (k := 5) (by decide) (h n List.mem_cons_self).2
    have h2 := piled_ints fun m hm => h m (List.mem_cons_of_mem _ hm)
    rw [List.map_cons, piled_cons, List.length_cons]
    omega
def tFmtI (K : PySem.W.Frag) (te : TE) : TE := fun σ H Q => te σ H fun x H1 => ∃ (a : Addr) (ns : List Int), x = .ref a ∧ SqT K H1 a (ns.map V.int) ∧ (∀ n ∈ ns, 0 ≤ n ∧ n < 100000) ∧ ns.length ≤ 30000 ∧ ∀ m : Str, m.length ≤ 10 * ns.length + 7 → Q (.str m) H1
theorem pe_fmtI {e : Expr} {te : TE} {pos : Pos} {k : Nat} (hr : Room k X.A) (he : PE X e te) : PE X (.FormattedValue e (-1) none pos) (tFmtI X.K te) := by
  refine ⟨fun pins s σ H Q I h => ?_⟩
  refine wpAny_FormattedValue_plain (thn (he.run pins s σ H _ I h) fun v s1 hv => ?_)
  obtain ⟨x, H1, I1, r1, a, ns, rfl, ht, hc, hz, q⟩ := hv
  cases r1
  obtain ⟨its, rv, ⟨o, ho, hcl, n, hd⟩, _⟩ := I1.tuple ht
  have hp := piled_ints hc
  have htx := fmt_text (ns.map fun n => Str.ofString (toString n))
  have hu := hr.units
  have sl := sizeLine_eq
  refine fmt_tuple (ts := ns.map fun n => Str.ofString (toString n)) (by omega) ho hcl hd (repr_ints rv hc) (by omega) fun m u tk hm => ⟨.str m, H1, I1.tok _, ⟨u, rfl⟩, q m (by omega)⟩
end
/-! ### except clauses, some with a name -/
abbrev Gone (i : Nat) (D : Ends) : Ends := { nx := fun σ' H' => D.nx (σ'.set i none) H', rt := D.rt, bk := fun σ' H' => D.bk (σ'.set i none) H', ct := fun σ' H' => D.ct (σ'.set i none) H' }
def wRowN (K : PySem.W.Frag) (D : Ends) : List (List Value × Option Nat × (Addr → Value → Option Addr → TS)) → WX
  | [] => fun _ _ _ _ => False
  | (cs, none, ts) :: r => fun cls d σ H => ∃ b, PySem.W.exmAny K cls cs = some b ∧ (b = true → ∀ a, H a = none → ts a cls d D σ H) ∧ (b = false → wRowN K D r cls d σ H)
  | (cs, some i, ts) :: r => fun cls d σ H => ∃ b, PySem.W.exmAny K cls cs = some b ∧ (b = true → ∀ a, H a = none → ts a cls d (Gone i D) (σ.set i (some (.ref a))) H) ∧ (b = false → wRowN K D r cls d σ H)
inductive HdsN (X : Cx) : List ExceptHandler → List (List Value × Option Nat × (Addr → Value → Option Addr → TS)) → Prop
  | nil : HdsN X [] []
  | cons {e : Expr} {cs : List Value} {ts : Addr → Value → Option Addr → TS} {b₀ : Stmt} {suite : List Stmt} {pos' : Pos} {hds : List ExceptHandler} {l : List (List Value × Option Nat × (Addr → Value → Option Addr → TS))} (ht : TestOk X e cs)
      (hsu : ∀ (a : Addr) (oe : Obj) (cls : Value) (d : Option Addr) (pn : List (Addr × Obj)), Zc cls d oe → (∃ vs, oe.data = .fields vs) → PSs (X.suite a ((a, oe) :: pn)) (b₀ :: suite) (ts a cls d)) (r : HdsN X hds l) : HdsN X (.ExceptHandler (some e) none (b₀ :: suite) pos' :: hds) ((cs, none, ts) :: l)
  | named {e : Expr} {cs : List Value} {ts : Addr → Value → Option Addr → TS} {b₀ : Stmt} {suite : List Stmt} {pos' : Pos} {n : Str} {i : Nat} {hds : List ExceptHandler} {l : List (List Value × Option Nat × (Addr → Value → Option Addr → TS))} (ht : TestOk X e cs) (hN : X.N.Nodup) (hi : X.N[i]? = some n) (hln : X.env.kindOf n = some .local)
      (hsu : ∀ (a : Addr) (oe : Obj) (cls : Value) (d : Option Addr) (pn : List (Addr × Obj)), Zc cls d oe → (∃ vs, oe.data = .fields vs) → PSs (X.suite a ((a, oe) :: pn)) (b₀ :: suite) (ts a cls d)) (r : HdsN X hds l) : HdsN X (.ExceptHandler (some e) (some n) (b₀ :: suite) pos' :: hds) ((cs, some i, ts) :: l)
section
variable {X : Cx}
theorem rows_runN {D : Ends} {a : Addr} {B : Heap} {sI : Shared} {pins : List (Addr × Obj)} {σ : L2.St} {H : Hp} {cls : Value} {d : Option Addr} (ok : X.Ok) (hf : X.env.frame = some X.env.locals) (J : Inv X pins σ H sI) (nb : ∀ b o, sI.heap.get? b = some o → b ∉ frs X.stack → B.get? b = some o) (na : H a = none) {hds : List ExceptHandler} {l : List (List Value × Option Nat × (Addr → Value → Option Addr → TS))} (hk : HdsN X hds l) :
    ∀ s : Shared, HandSPX.FlyingZ B (X.env :: X.outer) a (Zc cls d) s.heap → sI.heap.UpToSlots s.heap → s.os = sI.os → AllBare s.gens → wRowN X.K D l cls d σ H → wpAny (model X.prog X.w) X.A (handleBy (.ref a) X.env hds) (SP X pins D) X.xe s := by
  have away : ∀ {h : Heap}, HandSPX.FlyingZ B (X.env :: X.outer) a (Zc cls d) h → a ≠ X.env.locals ∧ a ∉ X.fs := fun {h} fl => by
    obtain ⟨oe, vs, he, _, hd⟩ := fl.there
    have n : a ∉ frs (X.env :: X.outer) := fun hm => by
      obtain ⟨_, o', e', z⟩ := fl.2.2.1.mem hm
      rw [he] at e'
      cases e'
      exact z _ hd
    refine ⟨fun z => n (List.mem_filterMap.mpr ⟨X.env, List.mem_cons_self, by rw [hf, z]⟩), fun hm => ?_⟩
    obtain ⟨e, he, q⟩ := List.mem_filterMap.mp hm
    exact n (List.mem_filterMap.mpr ⟨e, List.mem_cons_of_mem _ he, q⟩)
  induction hk with
  | nil => exact fun s _ _ _ _ w => w.elim
  | cons ht hsu r ih =>
    intro s fl up os ag w
    obtain ⟨b, hb, yes, no⟩ := w
    have J1 : Inv X pins σ H s := J.landed nb fl.1 up os ag
    obtain ⟨oe, vs, he, hz, hd⟩ := fl.there
    have LT : PySem.W.Looks (model X.prog X.w) s.heap (typeOf (.ref a)) cls := fun A Q E s k q => wpAny_typeOf_ref (k _ _ he) (by rw [hz.1]; exact q)
    refine wpAny_handleBy_cons (codeAny_handlers_test ?_) (by intro q; cases q)
    refine ht a oe (X.pn ++ pins) σ H s cls b _ _ (J1.suite he hd na (away fl).1 (away fl).2) J1.kIn LT hb fun h2 k2 => ?_
    have fl2 := fly_keeps fl k2
    have up2 := up.trans (Heap.UpToSlots.of_keeps k2)
    cases b with
    | false => exact ih { s with heap := h2 } fl2 up2 os ag (no rfl)
    | true =>
      refine codeAny_handlers_suite ?_
      refine HandSPX.lands_againZ fl2 fun h4 fl4 up4 => ?_
      have J4 : Inv X pins σ H { s with heap := h4 } := J.landed nb fl4.1 (up2.trans up4) os ag
      obtain ⟨oe4, vs4, he4, hz4, hd4⟩ := fl4.there
      refine wpAny_mono ((hsu a oe4 cls d (X.pn ++ pins) hz4 ⟨_, hd4⟩).run [] _ _ H _ (J4.suite he4 hd4 na (away fl4).1 (away fl4).2) (yes rfl a na)) (fun f s6 hsp => ?_) (fun _ _ z => False.elim z)
      cases f with
      | ret u =>
        obtain ⟨v6, σ6, H6, S6, r6, q6⟩ := hsp
        exact ⟨_, _, _, S6.unsuite ok, r6, q6⟩
      | _ =>
        obtain ⟨σ6, H6, S6, q6⟩ := hsp
        exact ⟨_, _, S6.unsuite ok, q6⟩
  | @named e cs ts b₀ suite pos' n i hds2 l2 ht hN hi hln hsu r ih =>
    intro s fl up os ag w
    obtain ⟨b, hb, yes, no⟩ := w
    have J1 : Inv X pins σ H s := J.landed nb fl.1 up os ag
    obtain ⟨oe, vs, he, hz, hd⟩ := fl.there
    have LT : PySem.W.Looks (model X.prog X.w) s.heap (typeOf (.ref a)) cls := fun A Q E s k q => wpAny_typeOf_ref (k _ _ he) (by rw [hz.1]; exact q)
    refine wpAny_handleBy_cons (codeAny_handlers_test ?_) (by intro q; cases q)
    refine ht a oe (X.pn ++ pins) σ H s cls b _ _ (J1.suite he hd na (away fl).1 (away fl).2) J1.kIn LT hb fun h2 k2 => ?_
    have fl2 := fly_keeps fl k2
    have up2 := up.trans (Heap.UpToSlots.of_keeps k2)
    cases b with
    | false => exact ih { s with heap := h2 } fl2 up2 os ag (no rfl)
    | true =>
      refine codeAny_handlers_suite_as ?_
      refine HandSPX.lands_againZ fl2 fun h4 fl4 up4 => ?_
      have J4 : Inv X pins σ H { s with heap := h4 } := J.landed nb fl4.1 (up2.trans up4) os ag
      obtain ⟨oe4, vs4, he4, hz4, hd4⟩ := fl4.there
      have S4 := J4.suite he4 hd4 na (away fl4).1 (away fl4).2
      refine store_ok (X := X.suite a ((a, oe4) :: (X.pn ++ pins))) (v := .ref a) S4 hN hi (.inl hln) rfl (fun s5 S5 => ?_) (.inr hln)
      refine wpAny_mono ((hsu a oe4 cls d (X.pn ++ pins) hz4 ⟨_, hd4⟩).run [] s5 _ H _ S5 (yes rfl a na)) (fun f s6 hsp => ?_) (fun _ _ z => False.elim z)
      have fin : ∀ {σ6 : L2.St} {H6 : Hp} {Q : Shared → Prop}, Inv (X.suite a ((a, oe4) :: (X.pn ++ pins))) [] σ6 H6 s6 → (∀ s7, Inv X pins (σ6.set i none) H6 s7 → Q s7) →
          wpAny (model X.prog X.w) X.A (do bindName X.env n .none; unbindBehindTheSuite X.env n pos') (fun _ s7 => Q s7) X.xe s6 := fun {σ6 H6 Q} S6 hq => gone_ok (S6.unsuite ok) hN hi hln hq
      cases f with
      | ret u =>
        obtain ⟨v6, σ6, H6, S6, r6, q6⟩ := hsp
        exact fin S6 fun s7 J7 => ⟨_, _, _, J7, r6, q6⟩
      | _ =>
        obtain ⟨σ6, H6, S6, q6⟩ := hsp
        exact fin S6 fun s7 J7 => ⟨_, _, J7, q6⟩
theorem ps_tryM {body : List Stmt} {h₀ : ExceptHandler} {hds : List ExceptHandler} {l : List (List Value × Option Nat × (Addr → Value → Option Addr → TS))} {pos : Pos} {tb : WX → TS} (hs : X.stack = X.env :: X.outer) (hf : X.env.frame = some X.env.locals)
    (hb : ∀ (W : WX) (pn : List (Addr × Obj)) (xe : Value → Shared → Prop), Takes (X.tr pn xe) W → PassesOwn (model X.prog X.w) X.A X.env xe → PSs (X.tr pn xe) body (tb W)) (hh : HdsN X (h₀ :: hds) l) :
    PS X (.Try body (h₀ :: hds) [] [] pos) (fun D σ H => tb (wRowN X.K D l) D σ H) := by
  refine ⟨fun pins s σ H D I h => ?_⟩
  have ok := I.ok
  refine wpAny_Try_except ?_
  refine wpAny_mono ((hb (wRowN X.K D l) (X.pn ++ pins) (fun e s₁ => wpAny (model X.prog X.w) X.A (noteFrame e X.env) (fun _ s₂ => wpAny (model X.prog X.w) X.A (setFlight e none) (fun _ s₃ =>
    wpAny (model X.prog X.w) X.A (handleBy e X.env (h₀ :: hds)) (SP X pins D) X.xe s₃) X.xe s₂) X.xe s₁) (fun u s' xx => ?_) PassesOwn.looking).run [] s σ H D (I.toTry _) h) (fun f s1 hsp => ?_) (fun e s1 he => he)
  · obtain ⟨a, B, sI, pins', σ', H', cls, d, rfl, J', nb, up, sky, na, os, ag, w⟩ := xx
    exact Sky.land Zc.steady (by rw [ok.frames, hs]) hf (by rw [← hs]; exact sky) fun h3 fl3 up3 => rows_runN ok hf (J'.ofTry ok) nb na hh { s' with heap := h3 } fl3 (up.trans up3) os ag w
  · cases f with
    | next =>
      obtain ⟨σ', H', J', q⟩ := hsp
      exact wpAny_execs_nil ⟨σ', H', J'.ofTry ok, q⟩
    | ret u =>
      obtain ⟨v, σ', H', J', r, q⟩ := hsp
      exact ⟨v, σ', H', J'.ofTry ok, r, q⟩
    | _ =>
      obtain ⟨σ', H', J', q⟩ := hsp
      exact ⟨σ', H', J'.ofTry ok, q⟩
end
end Fc

namespace Fc
open PySem PySem.Spec L2 PyProof.Rows
variable [LamNames]
/-! ### defs whose errors have no context -/
section
variable {P : Program} {w : World} {K : PySem.W.Frag} {mg : Str → Option Value} {base : Heap}
theorem funOkN {x qual : Str} {st : Stmt} {f : Addr} {fd : FuncData} {N ps : List Str} {k : Nat} {sp : Sp} (F : Fun K x qual st f fd) (S : FnScope N ps (defScope st)) (len : ∀ vs H Q E, sp vs H Q E → vs.length = ps.length)
    (body : ∀ (cdv : Value) (A : Around) (outer : List Env) (s : Shared) (H : Hp) (vs : List V) (Q : VK) (E : XK), Room k (A.deeper (envOfC qual (defScope st) s.heap.objs.size f cdv)) → sp vs H Q E →
      ∃ t, PSs (cxOf (L2N.CX P w) P w K mg base N qual (defScope st) f cdv A outer s H E) (defBody st) t ∧ t { nx := fun _ H' => Q .non H', rt := Q } (start N vs) H) : FnOk P w K mg base (L2N.CX P w) (k + 1) f fd ps sp := by
  obtain ⟨oc, od, kV, doc, pm, an, cdv, ct, osl, rfl, lk, code⟩ := F.ex
  exact fn_of lk code S len fun A outer s H vs Q E hr h => body cdv A outer s H vs Q E hr h
end
structure CalN (P : Program) (w : World) (K : PySem.W.Frag) (mg : Str → Option Value) (base : Heap) (x : Str) (k : Nat) (ps : List Str) (sp : Sp) : Prop where
  ex : ∃ f fd, FnOk P w K mg base (L2N.CX P w) k f fd ps sp ∧ mg x = some (.ref f) ∧ PySem.W.keepIn K (.ref f) = true ∧ Binds K fd ps []
section
variable {X : Cx} {x : Str} {k : Nat} {ps : List Str} {sp : Sp} {p pos : Pos} {e : Expr} {es : List Expr} {t : TA}
theorem pe_cxN {E : XK} (C : CalN X.prog X.w X.K X.mg X.base x k ps sp) (hr : Room k X.A) (tk : L2N.Takes X (fun cls d _ H => E cls d H)) (ha : PA X (e :: es) t) (hg : Gl X x := by rfl) (hdb : (x == ("__debug__" : Str)) = false := by decide)
    (he : starEach (e :: es) X.env = (false, eval e X.env) :: starEach es X.env := by rfl) (hpl : (backTo pos (starEach es X.env)).any (·.1) = false := by rfl) : PE X (.Call (.Name x p) (e :: es) [] pos) (tCall sp [] E t) := by
  obtain ⟨f, fd, F, m, kp, b⟩ := C.ex
  exact pe_call F hr hg m kp b .nil (L2N.passes_call tk fun _ _ _ _ h => h) ha hdb he hpl
theorem pe_csN {W : WX} (C : CalN X.prog X.w X.K X.mg X.base x k ps sp) (hr : Room k X.A) (tk : L2N.Takes X W) (ha : PA X (e :: es) t) (hg : Gl X x := by rfl) (hdb : (x == ("__debug__" : Str)) = false := by decide)
    (he : starEach (e :: es) X.env = (false, eval e X.env) :: starEach es X.env := by rfl) (hpl : (backTo pos (starEach es X.env)).any (·.1) = false := by rfl) : PE X (.Call (.Name x p) (e :: es) [] pos) (tCallS sp (WE W) t) := by
  obtain ⟨f, fd, F, m, kp, b⟩ := C.ex
  exact pe_callS F hr hg m kp b (fun σ => L2N.passAt tk σ) ha hdb he hpl
theorem ps_raiseCN {W : WX} {x m : Str} {C : Addr} {j : Nat} {p p2 p3 pos : Pos} (hc : X.calm = true) (tk : L2N.Takes X W) (e : Exc X.K X.mg x C) (hg : Gl X x := by rfl) (hdb : (x == ("__debug__" : Str)) = false := by decide) :
    PS X (.Raise (some (.Call (.Name x p) [.Constant (.str m) j p2] [] p3)) none pos) (fun _ σ H => W (.ref C) none σ H) :=
  L2N.ps_raise hc tk (L2N.pmk_own PySem.F.excBase_ValueError e.x e.g e.k (raises_own e.s e.t) hg hdb)
/-- what raises nothing is not asked about contexts -/
theorem CalN.weak (C : CalN X.prog X.w X.K X.mg X.base x k ps sp) : CalX X.prog X.w X.K X.mg X.base x k ps sp ∨ True := .inr trivial
end
/-! ### X('m') from None -/
section
variable {X : Cx}
theorem pmk_five {x m : Str} {C : Addr} {j : Nat} {p p2 pos : Pos} (e : Exc X.K X.mg x C) (hg : Gl X x) (hdb : (x == ("__debug__" : Str)) = false := by decide) : L2H.PMk5 X (.Call (.Name x p) [.Constant (.str m) j p2] [] pos) (fun _ H Q => Q (.ref C) none H) := by
  intro pins s σ H Q I h
  have args := (pa_cons pe_str pa_nil : PA X [.Constant (.str m) j p2] (tCons (tC (.str m)) tNil))
  refine wpAny_Call_Name_kw (ld_glob I hg e.g ?_ hdb)
  refine PySem.W.callWith_K (h₀ := X.base) I.ok.mod.kin e.k (thn (args.run pos pins s σ H (fun vs H1 => vs = [V.str m] ∧ H1 = H) I ⟨rfl, rfl⟩) fun us s1 ⟨vs, H1, I1, r1, ev, eH⟩ => ?_)
  subst ev eH
  cases r1 with
  | @cons _ u _ _ ru rn =>
    cases rn
    refine ⟨I1.kIn, ?_⟩
    show wpAny _ _ (call (.ref C) [u]) _ _ _
    obtain ⟨bm, N, nm, qn, bs, hdct, sn, sub, ab, col, dd, k0, k1, k2, k3, k5, mN, hC, hN, hni, T⟩ := exc_obj I1.kIn e.x
    exact wpAny_call_exc_subT PySem.F.excBase_ValueError T hC hN hni (fun h' a hm => L2H.mk_of5 I1 hm (raises_own e.s e.t) h (I1.hok.gone hm.new)) (by show 1 ≤ sizeLine; rw [sizeLine_eq]; decide)
theorem ps_raiseF {W : WX} {x m : Str} {C : Addr} {j j2 : Nat} {p p2 p3 cpos pos : Pos} (hc : L2H.HotC X) (tk : L2.Takes X W) (e : Exc X.K X.mg x C) (hg : Gl X x := by rfl) (hdb : (x == ("__debug__" : Str)) = false := by decide) :
    PS X (.Raise (some (.Call (.Name x p) [.Constant (.str m) j p2] [] p3)) (some (.Constant .none j2 cpos)) pos) (fun _ σ H => W (.ref C) none σ H) :=
  L2H.ps_raiseHN hc tk (pmk_five e hg hdb)
theorem test_tup2C {x1 x2 : Str} {c1 c2 : Value} {p1 p2 tp : Pos} {kk : Nat} (h1 : Names X x1 c1) (h2 : Names X x2 c2) : TestOk X (.Tuple [.Name x1 p1, .Name x2 p2] kk tp) [c1, c2] := fun a oe pn σ H s cls b Q E I kI LT hx q => by
  refine wpAny_Tuple (wpAny_items_cons (ld_name h1 I (wpAny_items_cons (ld_name h2 I (wpAny_items_nil ⟨by show 2 ≤ sizeLine; rw [sizeLine_eq]; decide, ?_⟩)))))
  have kp : ∀ q o, s.heap.get? q = some o → (s.heap.push { cls := .type "tuple", data := .seq [c1, c2].toArray }).get? q = some o := fun _ _ z => Heap.get?_push_of_some _ z
  exact (PySem.W.exm_tup2 (kI.keeps kp) (LT.keeps kp) (Heap.get?_push_size s.heap rfl) hx).here (q _ kp)
/-- what one clause that raises wishes -/
def wOneX (K : PySem.W.Frag) (cs : List Value) (ts : TS) (Wout : WX) (D : Ends) : WX := fun cls d σ H => ∃ b, PySem.W.exmAny K cls cs = some b ∧ (b = true → ts D σ H) ∧ (b = false → Wout cls d σ H)
theorem zn_fly {h B : Heap} {l : List Env} {a : Addr} {cls : Value} {d : Option Addr} (f : HandSPX.FlyingZ B l a (L2N.Zn cls d) h) : HandSPX.FlyingZ B l a (Zc cls d) h := L2H.flyingZ_imp (fun _ z => z.zc) f
/-- try: .. except ..: suite that raises; the suite may raise out, what it doesn't name flies on -/
theorem ps_tryX {body suite : List Stmt} {b₀ : Stmt} {e : Expr} {cs : List Value} {pos pos' : Pos} {tb : WX → TS} {ts : TS} {Wout : WX} (hs : X.stack = X.env :: X.outer) (hf : X.env.frame = some X.env.locals) (ht : TestOk X e cs)
    (hpa : ∀ hd : Option Value, PassesOwnAt (model X.prog X.w) (X.A.mark hd) X.A X.env X.xe) (tk : L2.Takes X Wout)
    (hb : ∀ (W : WX) (pn : List (Addr × Obj)) (xe : Value → Shared → Prop), L2N.Takes (X.tr pn xe) W → PassesOwn (model X.prog X.w) X.A X.env xe → PSs (X.tr pn xe) body (tb W))
    (hsu : ∀ (a : Addr) (oe : Obj) (pn : List (Addr × Obj)), L2.Takes (L2H.suiteX X a ((a, oe) :: pn)) Wout → L2H.HotC (L2H.suiteX X a ((a, oe) :: pn)) → PSs (L2H.suiteX X a ((a, oe) :: pn)) (b₀ :: suite) ts) :
    PS X (.Try body [.ExceptHandler (some e) none (b₀ :: suite) pos'] [] [] pos) (fun D σ H => tb (wOneX X.K cs ts Wout D) D σ H) := by
  refine ⟨fun pins s σ H D I h => ?_⟩
  have ok := I.ok
  refine wpAny_Try_except ?_
  refine wpAny_mono ((hb (wOneX X.K cs ts Wout D) (X.pn ++ pins) (fun u s₁ => wpAny (model X.prog X.w) X.A (noteFrame u X.env) (fun _ s₂ => wpAny (model X.prog X.w) X.A (setFlight u none) (fun _ s₃ =>
    wpAny (model X.prog X.w) X.A (handleBy u X.env [.ExceptHandler (some e) none (b₀ :: suite) pos']) (SP X pins D) X.xe s₃) X.xe s₂) X.xe s₁) (fun u s' xx => ?_) PassesOwn.looking).run [] s σ H D (I.toTry _) h) (fun f s1 hsp => ?_) (fun _ _ he => he)
  · obtain ⟨a, B, sI, pins', σ', H', cls, d, rfl, J', nb, up, sky, na, os, ag, b, hx, yes, no⟩ := xx
    have J : Inv X pins σ' H' sI := J'.ofTry ok
    refine L2N.Sky.land L2N.Zn.steady (by rw [ok.frames, hs]) hf (by rw [← hs]; exact sky) fun h3 fl up3 => ?_
    have away : ∀ {h : Heap}, HandSPX.FlyingZ B (X.env :: X.outer) a (L2N.Zn cls d) h → a ≠ X.env.locals ∧ a ∉ X.fs := fun {h} fl => by
      obtain ⟨oe, vs, he, _, hd⟩ := fl.there
      have n : a ∉ frs (X.env :: X.outer) := fun hm => by
        obtain ⟨_, o', e', z⟩ := fl.2.2.1.mem hm
        rw [he] at e'
        cases e'
        exact z _ hd
      refine ⟨fun z => n (List.mem_filterMap.mpr ⟨X.env, List.mem_cons_self, by rw [hf, z]⟩), fun hm => ?_⟩
      obtain ⟨e, he, q⟩ := List.mem_filterMap.mp hm
      exact n (List.mem_filterMap.mpr ⟨e, List.mem_cons_of_mem _ he, q⟩)
    have up1 := up.trans up3
    have J1 : Inv X pins σ' H' { s' with heap := h3 } := J.landed nb fl.1 up1 os ag
    obtain ⟨oe, vs, he, hz, hd⟩ := fl.there
    have LT : PySem.W.Looks (model X.prog X.w) h3 (typeOf (.ref a)) cls := fun A Q E s k q => wpAny_typeOf_ref (k _ _ he) (by rw [hz.1]; exact q)
    refine wpAny_handleBy_cons (codeAny_handlers_test ?_) (by intro q; cases q)
    refine ht a oe (X.pn ++ pins) σ' H' { s' with heap := h3 } cls b _ _ (J1.suite he hd na (away fl).1 (away fl).2) J1.kIn LT hx fun h2 k2 => ?_
    have fl2 := fly_keeps fl k2
    have up2 := up1.trans (Heap.UpToSlots.of_keeps k2)
    cases b with
    | true =>
      refine codeAny_handlers_suite (HandSPX.lands_againZ fl2 fun h4 fl4 up4 => ?_)
      have J4 : Inv X pins σ' H' { s' with heap := h4 } := J.landed nb fl4.1 (up2.trans up4) os ag
      obtain ⟨oe4, vs4, he4, hz4, hd4⟩ := fl4.there
      have S4 := J4.suite he4 hd4 na (away fl4).1 (away fl4).2
      have tkS : L2.Takes (L2H.suiteX X a ((a, oe4) :: (X.pn ++ pins))) Wout := fun u2 s2 ⟨a2, B2, sI2, pn2, σ2, H2, cls2, d2, e2, I2, r2⟩ => tk u2 s2 ⟨a2, B2, sI2, pins, σ2, H2, cls2, d2, e2, L2H.unsuiteX I2 ok, r2⟩
      have hot : L2H.HotC (L2H.suiteX X a ((a, oe4) :: (X.pn ++ pins))) := ⟨(a, oe4), ⟨rfl, vs4, hd4, hz4.2.2 vs4 hd4⟩, List.mem_cons_self⟩
      refine wpAny_mono ((hsu a oe4 (X.pn ++ pins) tkS hot).run [] _ _ H' _ (L2H.suiteX_of S4) (yes rfl)) (fun f s6 hsp => ?_) (fun e6 s6 z => hpa (some (.ref a)) e6 s6 z)
      cases f with
      | ret u =>
        obtain ⟨v6, σ6, H6, S6, r6, q6⟩ := hsp
        exact ⟨_, _, _, L2H.unsuiteX S6 ok, r6, q6⟩
      | _ =>
        obtain ⟨σ6, H6, S6, q6⟩ := hsp
        exact ⟨_, _, L2H.unsuiteX S6 ok, q6⟩
    | false =>
      have fl3 := zn_fly fl2
      refine wpAny_handleBy_nil ?_
      obtain ⟨k1, k2', k3, oe5, vs5, T, oT, ts', he5, hz5, hd5, h15, hr5⟩ := id fl3
      unfold PySem.passOn
      refine wpAny_bind (wpAny_field he5 hd5 h15 ?_)
      rw [if_neg (show ¬ ((Value.ref T == Value.none) = true) from by simp)]
      have fin : wpAny (model X.prog X.w) X.A (setFlight (.ref a) X.env.frame) (fun _ s4 => wpAny (model X.prog X.w) X.A (throw (.ref a) : Sem Flow) (SP X pins D) X.xe s4) X.xe { s' with heap := h2 } := by
        rw [hf]
        exact HandSPX.setFlight_upZ fl3 fun h4 hh4 up4 => wpAny_throw (tk _ _ ⟨a, B, sI, pins, σ', H', cls, d, rfl, J, nb, up2.trans up4, .inr (.inr (by rw [hs]; exact hh4)), na, os, ag, no rfl⟩)
      first
        | exact wpAny_bind (wpAny_pure (wpAny_bind fin))
        | exact wpAny_bind fin
  · cases f with
    | next =>
      obtain ⟨σ', H', J', q⟩ := hsp
      exact wpAny_execs_nil ⟨σ', H', J'.ofTry ok, q⟩
    | ret u =>
      obtain ⟨v, σ', H', J', r, q⟩ := hsp
      exact ⟨v, σ', H', J'.ofTry ok, r, q⟩
    | _ =>
      obtain ⟨σ', H', J', q⟩ := hsp
      exact ⟨σ', H', J'.ofTry ok, q⟩
end
end Fc

namespace Fc
open PySem PySem.Spec L2 PyProof.Rows
variable [LamNames]
/-! ### a list comprehension whose element is a call that may raise -/
theorem note_by {u : Value} {e1 e2 : Env} (h : e1.frame = e2.frame) : noteFrame u e1 = noteFrame u e2 := by
  unfold noteFrame PySem.frameOf
  rw [h]
theorem pass_by {α : Type} {t : String} {u : Value} {e1 e2 : Env} (h : e1.frame = e2.frame) : (PySem.passOn t u e1 : Sem α) = PySem.passOn t u e2 := by
  unfold PySem.passOn
  rw [h]
theorem frames_but {C : Addr} {h h2 B B2 : Heap} (k : ∀ b, b ≠ C → h2.get? b = h.get? b) (kb : ∀ b, B.get? b = none → B2.get? b = none) : ∀ {l : List Env}, C ∉ frs l → h.FunFrames B l → h2.FunFrames B2 l
  | [], _, _ => trivial
  | e :: l, n, f => by
    obtain ⟨q, ⟨L, o, hf, hb, ho, hd⟩, r⟩ := f
    have nL : L ≠ C := fun z => n (List.mem_filterMap.mpr ⟨e, List.mem_cons_self, by rw [hf, z]⟩)
    refine ⟨q, ⟨L, o, hf, kb L hb, (k L nL).trans ho, hd⟩, frames_but k kb (fun z => n ?_) r⟩
    obtain ⟨x, hx, y⟩ := List.mem_filterMap.mp z
    exact List.mem_filterMap.mpr ⟨x, List.mem_cons_of_mem _ hx, y⟩
section
variable {X : Cx}
theorem blk_out {W : WX} {pins : List (Addr × Obj)} {σ : L2.St} {H : Hp} {s0 s1 : Shared} {C : Addr} {m : Str → Option Value} {u : Value} {ce : Env} {E1 : Value → Shared → Prop} (hs : X.stack = X.env :: X.outer) (hf : X.env.frame = some X.env.locals) (tk : L2.Takes X W)
    (I : Inv X pins σ H s0) (hm : s0.heap.Ns C m) (hC : FpOk X pins H C) (cx : L2.CX X.prog X.w X.stack H s0 (fun cls d H' => W cls d σ H') u s1) (hce : ce.frame = X.env.frame) :
    wpAny (model X.prog X.w) X.A (noteFrame u ce) (fun _ s2 => ∃ m, s2.heap.Ns C m ∧ ∀ h', Heap.SameBut C s2.heap h' → ∀ cv : Env, cv.frame = X.env.frame →
      wpAny (model X.prog X.w) X.A (PySem.passOn "comprehension.variables-let-go" u cv : Sem Value) (fun _ _ => False) X.xe { s2 with heap := h' }) E1 s1 := by
  rw [note_by hce]
  obtain ⟨f0, f1, f2, f3, f4, f5⟩ := hC
  have nst : C ∉ frs X.stack := fun z => by
    rcases List.mem_cons.mp (I.stkSub C z) with q | q
    · exact f1 q
    · exact f2 q
  obtain ⟨oC, es, ep, hoC, hdC, kC, fC⟩ := hm
  obtain ⟨a, B, H', cls, d, rfl, fl, hok, ub, na, os, ag, hE⟩ := cx
  have hB := ub.keep C oC hoC f0 nst
  have h1C := fl.1 C oC hB
  have nC := ub.free C oC hoC f0
  have cx2 : L2.CX X.prog X.w X.stack H s0 (fun cls d H' => W cls d σ H' ∧ H' C = none) (.ref a) s1 := ⟨a, B, H', cls, d, rfl, fl, hok, ub, na, os, ag, hE, nC⟩
  clear hB nC hE ag os na ub hok fl
  obtain ⟨a2, B, sI, pins2, σ2, H2, cls, d, e2, J, nb, up, sky, na, os, ag, hW, nC⟩ := XE.of_call (W := fun cls d σ2 H' => σ2 = σ ∧ W cls d σ H' ∧ H' C = none) I (fun _ _ _ z => ⟨rfl, z⟩) cx2
  cases e2
  obtain ⟨rfl, hW⟩ := And.intro hW nC
  obtain ⟨hW, nC⟩ := nC
  have J0 : Inv X [] σ2 H2 sI := J.pins_of fun _ z => nomatch z
  have fin : ∀ h1, HandSPX.HeldZ B X.stack a (Zc cls d) X.env.locals h1 → s1.heap.UpToSlots h1 → ∃ m, h1.Ns C m ∧ ∀ h', Heap.SameBut C h1 h' → ∀ cv : Env, cv.frame = X.env.frame →
      wpAny (model X.prog X.w) X.A (PySem.passOn "comprehension.variables-let-go" (.ref a) cv : Sem Value) (fun _ _ => False) X.xe { s1 with heap := h' } := fun h1 hh up1 => by
    obtain ⟨sl, hC1⟩ := up1 C oC h1C (fun vs z => by rw [hdC] at z; cases z)
    refine ⟨m, ⟨_, es, ep, hC1, hdC, kC, fC⟩, fun h' sb cv hcv => ?_⟩
    rw [pass_by hcv, show (PySem.passOn "comprehension.variables-let-go" (.ref a) X.env : Sem Value) = PySem.passOn "comprehension.variables-let-go" (.ref a) X.env from rfl]
    obtain ⟨k1, k2, k3, oe, vs, T, oT, ts, he, hz, hd, h1', hnT, hTe, hT, hdT, h3⟩ := hh
    have aC : a ≠ C := fun z => by
      rw [z, hC1] at he
      cases he
      rw [show ({ oC with slots := sl } : Obj).data = oC.data from rfl, hdC] at hd
      cases hd
    have TC : T ≠ C := fun z => by
      rw [z, hC1] at hT
      cases hT
      rw [show ({ oC with slots := sl } : Obj).data = oC.data from rfl, hdC] at hdT
      cases hdT
    have hb : ∀ b, B.get? b = none → (PySem.W.hideAll B [C]).get? b = none := fun b e => by
      cases q : (PySem.W.hideAll B [C]).get? b with
      | none => rfl
      | some o =>
        have z := PySem.W.of_hideAll _ q
        rw [e] at z
        cases z
    have ne : ∀ {G : Heap} {b : Addr} {o : Obj}, (PySem.W.hideAll G [C]).get? b = some o → b ≠ C ∧ G.get? b = some o := fun {G b o} e => by
      refine ⟨fun z => ?_, PySem.W.of_hideAll _ e⟩
      rw [z, PySem.W.hideAll_none [C] List.mem_cons_self] at e
      cases e
    have hh2 : HandSPX.HeldZ (PySem.W.hideAll B [C]) X.stack a (Zc cls d) X.env.locals h' := by
      refine ⟨fun b o e => ?_, hb a k2, frames_but sb.2 hb nst k3, oe, vs, T, oT, ts, (sb.2 a aC).trans he, hz, hd, h1', hb T hnT, hTe, (sb.2 T TC).trans hT, hdT, h3⟩
      obtain ⟨n, e⟩ := ne e
      exact (sb.2 b n).trans (k1 b o e)
    have JC : Inv X [] σ2 H2 { sI with heap := PySem.W.hideAll sI.heap [C], toks := sI.toks } := J0.turned (it := C) (fun b o n e => PySem.W.hideAll_get _ e (by simpa using n)) nC f1 f3 f4 fun p hp => f5 p (by
      rw [List.append_nil] at hp
      exact List.mem_append_left _ hp)
    have he2 := (sb.2 a aC).trans he
    unfold PySem.passOn
    refine wpAny_bind (wpAny_field he2 hd h1' ?_)
    rw [if_neg (show ¬ ((Value.ref T == Value.none) = true) from by simp)]
    have go : wpAny (model X.prog X.w) X.A (setFlight (.ref a) X.env.frame) (fun _ s4 => wpAny (model X.prog X.w) X.A (throw (.ref a) : Sem Value) (fun _ _ => False) X.xe s4) X.xe { s1 with heap := h' } := by
      rw [hf]
      refine HandSPX.setFlight_onZ hh2 fun h4 hh4 up4 => wpAny_throw (tk _ _ ⟨a, PySem.W.hideAll B [C], _, [], σ2, H2, cls, d, rfl, JC, fun b o e n => ?_, fun b o e n => ?_, .inr (.inr hh4), na, os, ag, hW⟩)
      · obtain ⟨nb', e⟩ := ne e
        exact PySem.W.hideAll_get _ (nb b o e n) (by simpa using nb')
      · obtain ⟨nb', e⟩ := ne e
        obtain ⟨sl1, e1⟩ := (up.trans up1) b o e n
        obtain ⟨sl2, e2⟩ := up4 b _ ((sb.2 b nb').trans e1) n
        exact ⟨sl2, e2⟩
    first
      | exact wpAny_bind (wpAny_pure (wpAny_bind go))
      | exact wpAny_bind go
  have hfr : X.A.frames = some (X.env :: X.outer) := by rw [I.ok.frames, hs]
  rcases sky with ⟨q1, q2, q3, oe, vs, q4, q5, q6, q7⟩ | q | q
  · exact HandSPX.look_newZ Zc.steady hfr (hs ▸ q3) hf q4 q1 q2 q6 q7 q5 fun h1 hh up1 => fin h1 (by rw [hs]; exact hh) up1
  · exact HandSPX.looks_onZ Zc.steady hfr hf (hs ▸ q) fun h1 hh up1 => fin h1 (by rw [hs]; exact hh) up1
  · exact HandSPX.againZ hf q.2.2.2 (fin s1.heap q (Heap.UpToSlots.refl _))
end
/-- what stands behind the block of a comprehension that may raise; cv: the block's own surroundings -/
def postX (M : Model) (A : Around) (E : Value → Shared → Prop) (use : Option (Value → Sem Unit)) (Q : Value → Shared → Prop) (acc : Value) (cv : Env) : Result → Shared → Prop
  | .ok f, s' => compPost M A E use Q acc cv.locals (.ok f) s'
  | .error x, s' => ∃ m, s'.heap.Ns cv.locals m ∧ ∀ h', Heap.SameBut cv.locals s'.heap h' → wpAny M A (PySem.passOn "comprehension.variables-let-go" x cv : Sem Value) (fun _ _ => False) E { s' with heap := h' }
theorem comp_freeX {M : Model} {A : Around} {E : Value → Shared → Prop} {s : Shared} {env : Env} {e : Expr} {scope : Scope} {pos : Pos} {newAcc first : Sem Value} {g : Comprehension} {gs : List Comprehension} {cl : List (Str × Addr)}
    {use : Option (Value → Sem Unit)} {Q : Value → Shared → Prop} (hcl : clausesOf e = g :: gs) (hs : ∀ x, foldedSetIterable g.iter env x = pure x) (hclos : closureFor scope env = pure cl) (hk : scope.kind = .function) (hn : ∀ x ∈ scope.names, x.2 = .local → scope.names.lookup x.1 = some .local)
    (h : wpAny M A first (fun x s1 => wpAny M A (pyIter x) (fun it s2 => wpAny M A newAcc (fun acc s3 => wpAny M A (newFunctionEnv scope env.globals cl [] env.qual none .none (some env)) (fun cv s4 =>
      codeAny M A (.compStart e 0 it acc { cv with scope := relabel scope env }) (postX M A E use Q acc { cv with scope := relabel scope env }) s4) E s3) E s2) E s1) E s) :
    wpAny M A (comprehension e scope env pos newAcc false first use) Q E s := by
  have same : ∀ {α : Type} {t : Sem α} {Q : α → Shared → Prop} {Q' : α → Shared → Prop} {s : Shared}, wpAny M A t Q E s → (∀ a s, Q a s → Q' a s) → wpAny M A t Q' E s := fun w f => wpAny_mono w f fun _ _ z => z
  unfold comprehension
  rw [hclos, hcl]
  refine wpAny_bind (same h fun x s1 h1 => wpAny_bind (wpAny_standAt (wpAny_bind (wpAny_of_eq (hs x) (wpAny_bind (wpAny_holding (same h1 fun it s2 h2 => wpAny_standIf (wpAny_bind (same h2 fun acc s3 h3 => wpAny_bind (wpAny_pure (wpAny_bind (same h3 fun cv s4 h4 => ?_))))))))))))
  dsimp only
  generalize hvs : (scope.names.filter fun x => (x.2 == .local || x.2 == .cell) && x.1 != (".0" : Str)).reverse = vs at *
  have key : ∀ x ∈ vs, x.2 = .local → Env.kindOf { cv with scope := relabel scope env } x.1 = some .local := fun x hx hl => by
    rw [← hvs] at hx
    exact lookup_relabel_local (hn x (List.mem_filter.mp (List.mem_reverse.mp hx)).1 hl)
  refine wpAny_holding (wpAny_bind (wpAny_attempt (wpAny_holding (wpAny_run (codeAny_mono h4 fun r s5 h5 => ?_)))))
  cases r with
  | ok f =>
    cases use with
    | none =>
      obtain ⟨m, n5, q5⟩ := h5
      exact wpAny_bind (wpAny_holding (wpAny_comp_letGo (cenv := { cv with scope := relabel scope env }) hk vs s5 m key n5 fun h6 _ _ sb => wpAny_pure (q5 h6 sb)))
    | some v =>
      refine wpAny_bind (wpAny_rule (wpAny_bind (wpAny_holding (same h5 fun _ s6 ⟨m, n6, q6⟩ => ?_))))
      refine wpAny_bind (wpAny_comp_letGo (cenv := { cv with scope := relabel scope env }) hk _ s6 m (fun x hx => key x ?_) n6 fun h7 _ _ sb => wpAny_pure (q6 h7 sb))
      rcases List.mem_append.mp hx with z | z
      · exact List.mem_of_mem_drop z
      · exact List.mem_of_mem_take z
  | error x =>
    obtain ⟨m, n5, q5⟩ := h5
    exact wpAny_bind (wpAny_holding (wpAny_comp_letGo (cenv := { cv with scope := relabel scope env }) hk vs s5 m key n5 fun h6 _ _ sb => wpAny_mono (q5 h6 sb) (fun _ _ z => z.elim) fun _ _ z => z))
section
variable {X : Cx}
/-- [elt for target in iter], elt a call that may raise: te by what is wished of its errors -/
def tLcX (wi : TI) (g : TG) (te : XK → TE) (vs : List Nat) (W : WX) : TE := fun σ H Q => tLc wi g tYes (te fun cls d H' => W cls d σ H') vs σ H Q
/-- an element of a block -/
def EltX (X : Cx) (scope : Scope) (elt : Expr) (te : XK → TE) : Prop := ∀ (E : XK) (s : Shared) (H : Hp) (C : Addr) (cl : List (Str × Addr)) (fp : List Addr) (pn : List (Addr × Obj)) (xe : Value → Shared → Prop),
  Passes (L2.CX X.prog X.w) ((X.blk s H scope (compEnvC scope cl C X.env) fp).tr pn xe) E → PE ((X.blk s H scope (compEnvC scope cl C X.env) fp).tr pn xe) elt (te E)
theorem lc_coreX {W : WX} {pins : List (Addr × Obj)} {s : Shared} {σ : L2.St} {H : Hp} {Q : VK} {elt tg iter : Expr} {scope : Scope} {own : List (Str × Nat)} {pos pos' : Pos} {wi : TI} {g : TG} {te : XK → TE} {use : Option (Value → Sem Unit)} {Qf : Value → Shared → Prop}
    (hsk : X.stack = X.env :: X.outer) (hf : X.env.frame = some X.env.locals) (tk : L2.Takes X W) (hc : X.calm = true) (hN : X.N.Nodup) (I : Inv X pins σ H s) (hi : PI X tg iter wi) (ok : BlkOk X.N X.env.scope scope own)
    (hg : ∀ (s : Shared) (H : Hp) (C : Addr) (cl : List (Str × Addr)) (fp : List Addr), PG (X.blk s H scope (compEnvC scope cl C X.env) fp) tg g) (he : EltX X scope elt te) (hs : ∀ x, foldedSetIterable iter X.env x = pure x) (h : tLcX wi g te (own.map (·.2)) W σ H Q)
    (back : ∀ D C s' m H', Inv X pins σ H' s' → Q (.ref D) H' → s'.heap.Ns C m → FpOk X pins H' C → compPost (model X.prog X.w) X.A X.xe use Qf (.ref D) C (.ok .next) s') :
    wpAny (model X.prog X.w) X.A (comprehension (.ListComp elt [⟨tg, iter, [], 0⟩] scope pos) scope X.env pos' (newList []) false (eval iter X.env) use) Qf X.xe s := by
  have cells : ∀ y ∈ scope.names, y.2 = .free → ∃ c, X.env.cells.lookup y.1 = some c := fun y hy e => I.ok.has _ (ok.free y hy e)
  refine comp_freeX (use := use) rfl hs (closure_ok cells) ok.kind (fun y hy e => (ok.uniq y hy).trans (by rw [e])) (thn (hi.run pins s σ H _ I h) fun xv s1 hx => thn hx fun itv s2 ⟨it, fp, tn, J, H2, e, I2, T, st2, f2, q⟩ => ?_)
  subst e
  refine wpAny_newObj_type (newEnv_comp ?_) (by show 0 ≤ sizeLine; decide)
  generalize hD : s2.heap.objs.size = D
  obtain ⟨Wv, ⟨m0, w0⟩, turn⟩ := q D (I2.hok.fresh (Nat.le_of_eq hD))
  generalize hs3 : ({ s2 with heap := s2.heap.push { cls := .type "list", data := .seq ([] : List Value).toArray } } : Shared) = s3
  have h3 : s3.heap = s2.heap.push { cls := .type "list", data := .seq ([] : List Value).toArray } := congrArg Shared.heap hs3.symm
  have I3 : Inv X pins σ (upd H2 D (.lst [])) s3 := by
    subst hs3
    exact I2.laid (t' := s2.toks) (fun _ _ e => Heap.get?_push_of_some _ e) (Nat.le_of_eq hD) ⟨Nat.zero_le _, [], 0, .nil, by rw [← hD]; exact Heap.get?_push_size _ rfl⟩
  have f3 : ∀ b ∈ fp, FpOk X pins (upd H2 D (.lst [])) b ∧ b < s3.heap.objs.size := fun b hb => by
    obtain ⟨o, e, _⟩ := T.obj _ _ st2 b hb
    have lt := Heap.lt_size e
    refine ⟨⟨by rw [upd_ne (by rw [← hD]; exact Nat.ne_of_lt lt)]; exact (f2 b hb).1, (f2 b hb).2⟩, ?_⟩
    rw [h3, Heap.size_push]
    exact Nat.lt_succ_of_lt lt
  have st3 : tn 0 s3.heap := T.keep _ _ _ st2 fun _ _ _ e => by rw [h3]; exact Heap.get?_push_of_some _ e
  have I4 := block_start I3 ok hN f3
  generalize hcl : cellsFrom (s3.heap.objs.size + 1) scope.names (cloFrom X.env.cells scope.names []) = cl at I4
  have pg := hg s3 (upd H2 D (.lst [])) s3.heap.objs.size cl fp
  have pe := fun E => he E s3 (upd H2 D (.lst [])) s3.heap.objs.size cl fp
  show codeAny _ _ (.compStart (.ListComp elt [⟨tg, iter, [], 0⟩] scope pos) 0 (.ref it) (.ref D) (compEnvC scope cl s3.heap.objs.size X.env)) (postX (model X.prog X.w) X.A X.xe use Qf (.ref D) (compEnvC scope cl s3.heap.objs.size X.env)) { s3 with heap := pushCells (s3.heap.push { cls := .type "dict", data := .dict #[] }) scope.names }
  generalize hce : compEnvC scope cl s3.heap.objs.size X.env = ce at I4 pg pe ⊢
  have cL : ce.locals = s3.heap.objs.size := by rw [← hce]; rfl
  have cF : ce.frame = X.env.frame := by rw [← hce]; rfl
  have nfp : ∀ b ∈ fp, (upd H2 D (.lst [])) b = none := fun b hb => (f3 b hb).1.1
  generalize hH3 : upd H2 D (.lst []) = H3 at I3 I4 pg pe w0 nfp f3
  generalize hs4 : ({ s3 with heap := pushCells (s3.heap.push { cls := .type "dict", data := .dict #[] }) scope.names } : Shared) = s4 at I4 ⊢
  have st4 : tn 0 s4.heap := T.keep _ _ _ st3 fun _ _ _ e => by rw [← hs4]; exact pushCells_keeps _ _ _ _ (Heap.get?_push_of_some _ e)
  have at_fp : ∀ {σ' : L2.St} {H' : Hp} {s' : Shared}, Inv (X.blk s3 H3 scope ce fp) [] σ' H' s' → (∀ b ∈ fp, H' b = none) → ∀ b ∈ fp, FpOk (X.blk s3 H3 scope ce fp) [] H' b := fun {σ' H' s'} J n b hb =>
    ⟨n b hb, (J.ok.exf b hb).1, J.ok.exfs b hb, .inl hb, (J.ok.exf b hb).2, fun _ z => nomatch z⟩
  -- back in the def
  have home : ∀ {pins' : List (Addr × Obj)} {σ' : L2.St} {H' : Hp} {s' : Shared}, Inv (X.blk s3 H3 scope ce fp) pins' σ' H' s' → Inv X pins σ H' s' ∧ (∃ m, s'.heap.Ns s3.heap.objs.size m) ∧ FpOk X pins H' s3.heap.objs.size := fun {pins' σ' H' s'} J => by
    have nC : H' ce.locals = none := J.free
    obtain ⟨m, hn, _⟩ := J.loc
    have hn : s'.heap.Ns ce.locals m := hn
    rw [cL] at nC hn
    exact ⟨I3.call' (ch := fp) J.os J.base J.hok J.bare fun b hb => ⟨(f3 b hb).1.2.2.2.1, (f3 b hb).1.2.1, (f3 b hb).1.2.2.2.2.1, (f3 b hb).1.2.2.2.2.2⟩, ⟨m, hn⟩, I3.fpOk (Nat.le_refl _) nC⟩
  have loop : codeAny (model X.prog X.w) X.A (.compLoop (.ListComp elt [⟨tg, iter, [], 0⟩] scope pos) 0 (.ref it) (.ref D) ce) (postX (model X.prog X.w) X.A X.xe use Qf (.ref D) ce) s4 := by
    refine compLoop_any (fun n s' => ∃ i H', Inv (X.blk s3 H3 scope ce fp) [] (wipe σ (own.map (·.2))) H' s' ∧ tn i s'.heap ∧ (∀ b ∈ fp, H' b = none) ∧ Wv i n H') ?_ m0 ⟨0, H3, I4, st4, nfp, w0⟩
    rintro n s5 ⟨i, H5, I5, st5, n5, w5⟩
    rcases turn i n H5 w5 with ⟨stop, qq⟩ | ⟨go, Nx, hNx, step⟩
    · refine thnF (T.done (X.blk s3 H3 scope ce fp) rfl rfl rfl hc i [] s5 _ H5 (fun _ _ => False) I5 (at_fp I5 n5) st5 stop) fun r s6 ⟨hr, I6⟩ => ?_
      subst hr
      obtain ⟨I7, ⟨m, hn⟩, hC⟩ := home I6
      show compPost _ _ _ _ _ _ ce.locals _ _
      rw [cL]
      exact back D _ s6 m H5 I7 qq hn hC
    · refine thnF (T.item (X.blk s3 H3 scope ce fp) rfl rfl rfl hc i [] s5 _ H5 (fun _ _ => False) I5 (at_fp I5 n5) st5 go) fun r s6 ⟨v, hr, h6⟩ => ?_
      subst hr
      refine thnF h6 fun _ s7 ⟨x, H7, I7, r7, y7, st7, n7⟩ => ?_
      refine thnF (pg.run _ s7 _ H7 x v _ (I7.pinned (at_fp I7 n7) (T.obj _ _ st7)) r7 (step x H7 y7)) fun _ s8 ⟨σ8, H8, I8, hw8, q8⟩ => wpAny_tests_nil ?_
      have q9 : te (fun cls d H' => W cls d σ H') σ8 H8 fun y H4 => ∃ acc, H4 D = some (.lst acc) ∧ acc.length < sizeLine ∧ Nx (upd H4 D (.lst (acc ++ [y]))) := q8
      rw [if_pos rfl]
      have done : ∀ {s' : Shared} {H' : Hp}, Inv (X.blk s3 H3 scope ce fp) ([] ++ pinsAt fp s7.heap) σ8 H' s' → Nx H' → ∃ m, m < n ∧ ∃ i H', Inv (X.blk s3 H3 scope ce fp) [] (wipe σ (own.map (·.2))) H' s' ∧ tn i s'.heap ∧ (∀ b ∈ fp, H' b = none) ∧ Wv i m H' := fun {s' H'} I' nx => by
        obtain ⟨m', hm, w'⟩ := hNx H' nx
        have stay : ∀ b ∈ fp, ∀ o, s7.heap.get? b = some o → s'.heap.get? b = some o ∧ H' b = none := fun b hb o e => by
          obtain ⟨z1, z2, _⟩ := I'.pin (b, o) (List.mem_append_right _ (List.mem_append_right _ (mem_pinsAt hb e)))
          exact ⟨z1, z2⟩
        refine ⟨m', hm, i + 1, H', (I'.unpinned (pins := [])).weak (by rw [← hw8, wipe_length]) (fun j v e => (wipe_some (hw8 ▸ e)).1), T.keep _ _ _ st7 fun b hb o e => (stay b hb o e).1, fun b hb => ?_, w'⟩
        obtain ⟨o, e, _⟩ := T.obj _ _ st7 b hb
        exact (stay b hb o e).2
      have okB := I8.ok
      refine wpAny_mono ((pe (fun cls d H' => W cls d σ H') _ (fun u s' => ∃ pn σ' H' s0, Inv (X.blk s3 H3 scope ce fp) pn σ' H' s0 ∧ L2.CX X.prog X.w X.stack H' s0 (fun cls d H' => W cls d σ H') u s') (fun pn σ' H' s0 u s' J c => ?_)).run [] s8 σ8 H8 _ (I8.toTry _) q9) (fun z s10 hz => ?_) fun u s' hx => ?_
      · exact ⟨_, σ', H', s0, J.ofTry okB, c⟩
      · obtain ⟨yv, H10, J10, r10, acc, hD10, hz10, nx⟩ := hz
        exact app_ok (X := X.blk s3 H3 scope ce fp) (J10.ofTry okB) hD10 hz10 r10 fun s11 I11 => done I11 nx
      · obtain ⟨pn, σ', H', s0, J, c⟩ := hx
        obtain ⟨I7, ⟨m, hn⟩, hC⟩ := home J
        refine wpAny_mono (blk_out hsk hf tk I7 hn hC c cF) (fun _ s2 ⟨m2, n2, q2⟩ => ?_) fun _ _ z => z
        refine ⟨m2, by rw [cL]; exact n2, fun h' sb => ?_⟩
        rw [cL] at sb
        exact q2 h' sb ce cF
  exact codeAny_compStart_list loop (T.self X.A 0 _ _ _ st4 loop)
/-- as a value -/
theorem pe_lcX {W : WX} {elt tg iter : Expr} {scope : Scope} {own : List (Str × Nat)} {pos : Pos} {wi : TI} {g : TG} {te : XK → TE} (hsk : X.stack = X.env :: X.outer) (hf : X.env.frame = some X.env.locals) (tk : L2.Takes X W) (hc : X.calm = true) (hN : X.N.Nodup) (hi : PI X tg iter wi)
    (ok : BlkOk X.N X.env.scope scope own) (hg : ∀ (s : Shared) (H : Hp) (C : Addr) (cl : List (Str × Addr)) (fp : List Addr), PG (X.blk s H scope (compEnvC scope cl C X.env) fp) tg g) (he : EltX X scope elt te) (hs : ∀ x, foldedSetIterable iter X.env x = pure x := by intro _; rfl) :
    PE X (.ListComp elt [⟨tg, iter, [], 0⟩] scope pos) (tLcX wi g te (own.map (·.2)) W) := by
  refine ⟨fun pins s σ H Q I h => ?_⟩
  rw [eval_ListComp]
  refine lc_coreX hsk hf tk hc hN I hi ok hg he hs h fun D C s' m H' I' q hn ⟨f0, f1, f2, f3, f4, f5⟩ => ⟨m, hn, fun h2 sb => ?_⟩
  exact ⟨.ref D, H', I'.turned (t' := s'.toks) (fun b _ hb e => (sb.2 b hb).trans e) f0 f1 f3 f4 f5, rfl, q⟩
/-- name = [..] on one line -/
theorem ps_setLcX {W : WX} {i : Nat} {y : Str} {py : Pos} {elt tg iter : Expr} {scope : Scope} {own : List (Str × Nat)} {pos spos : Pos} {wi : TI} {g : TG} {te : XK → TE} (hsk : X.stack = X.env :: X.outer) (hf : X.env.frame = some X.env.locals) (tk : L2.Takes X W) (hc : X.calm = true) (hN : X.N.Nodup)
    (hy : X.N[i]? = some y) (hyl : X.env.scope.names.lookup y = some .local) (hsw : swapsWith (.ListComp elt [⟨tg, iter, [], 0⟩] scope pos) (some (.Name y py)) spos.line X.env = pure true) (hi : PI X tg iter wi)
    (ok : BlkOk X.N X.env.scope scope own) (hg : ∀ (s : Shared) (H : Hp) (C : Addr) (cl : List (Str × Addr)) (fp : List Addr), PG (X.blk s H scope (compEnvC scope cl C X.env) fp) tg g) (he : EltX X scope elt te) (hs : ∀ x, foldedSetIterable iter X.env x = pure x := by intro _; rfl) :
    PS X (.Assign [.Name y py] (.ListComp elt [⟨tg, iter, [], 0⟩] scope pos) spos) (tAsg (tLcX wi g te (own.map (·.2)) W) (gName i)) := by
  refine ⟨fun pins s σ H D I h => ?_⟩
  rw [exec_Assign_Name_used _ _ _ _ hsw]
  refine wpAny_bind (wpAny_standAt (wpAny_bind (wpAny_bind (thn (lc_coreX (use := some (assign (.Name y py) X.env)) (Qf := fun _ s' => SP X pins D .next s') (Q := fun x H1 => gName i x σ H1 D.nx) hsk hf tk hc hN I hi ok hg he hs h fun L C s' m H' I' q hn ⟨f0, f1, f2, f3, f4, f5⟩ => ?_) fun _ s' hq => wpAny_pure (wpAny_pure hq)))))
  show wpAny _ _ (assign (.Name y py) X.env (.ref L)) _ _ _
  refine wpAny_assign_Name (store_ok2 (v := V.ref L) I' hN hy (.inl hyl) rfl (fun s2 I2 ⟨a, sb, ha⟩ => ?_) (.inr hyl))
  have ne : C ≠ a := ha.elim (fun z => by rw [z]; exact f1) fun z e => f4 y a z e.symm
  refine ⟨m, hn.sameBut sb ne, fun h3 sb3 => ⟨_, H', I2.turned (t' := s2.toks) (fun b _ hb e => (sb3.2 b hb).trans e) f0 f1 f3 f4 f5, q⟩⟩
/-- a call within such a block -/
theorem pe_cp {E : XK} {x : Str} {k : Nat} {ps : List Str} {sp : Sp} {p pos : Pos} {e : Expr} {es : List Expr} {t : TA} (C : CalX X.prog X.w X.K X.mg X.base x k ps sp) (hr : Room k X.A) (hp : Passes (L2.CX X.prog X.w) X E) (ha : PA X (e :: es) t) (hg : Gl X x := by rfl) (hdb : (x == ("__debug__" : Str)) = false := by decide)
    (he : starEach (e :: es) X.env = (false, eval e X.env) :: starEach es X.env := by rfl) (hpl : (backTo pos (starEach es X.env)).any (·.1) = false := by rfl) : PE X (.Call (.Name x p) (e :: es) [] pos) (tCall sp [] E t) := by
  obtain ⟨f, fd, F, m, kp, b⟩ := C.ex
  exact pe_call F hr hg m kp b .nil hp ha hdb he hpl
end
end Fc

namespace Fc
open PySem PySem.Spec L2 PyProof.Rows
variable [LamNames]
/-! ### the check, in plain numbers -/
def turn (d : Int) : Int := d + 4096 * (1 - 2 * (d / 4096 % 2)) + 32 * (1 - 2 * (d / 32 % 2)) + (1 - 2 * (d % 2))
theorem low33 : ∀ a : Fin 256, (((a.val ^^^ 33 : Nat)) : Int) = (a.val : Int) + 32 * (1 - 2 * ((a.val : Int) / 32 % 2)) + (1 - 2 * ((a.val : Int) % 2)) := by decide +kernel
theorem high16 : ∀ a : Fin 256, (((a.val ^^^ 16 : Nat)) : Int) = (a.val : Int) + 16 * (1 - 2 * ((a.val : Int) / 16 % 2)) := by decide +kernel
theorem xor_turn {d : Int} (h0 : 0 ≤ d) (h1 : d < 65536) : Builtin.bitXor d 4129 = turn d := by
  rw [Bits.bitXor_pp h0 (by decide)]
  have e : d = (d.toNat : Int) := by omega
  generalize d.toNat = n at e
  subst e
  have hn : n < 65536 := by omega
  have e1 : (n ^^^ 4129) / 2 ^ 8 = n / 2 ^ 8 ^^^ 4129 / 2 ^ 8 := Nat.xor_div_two_pow
  have e2 : (n ^^^ 4129) % 2 ^ 8 = n % 2 ^ 8 ^^^ 4129 % 2 ^ 8 := Nat.xor_mod_two_pow
  have l := low33 ⟨n % 256, by omega⟩
  have h := high16 ⟨n / 256, by omega⟩
  dsimp only at l h
  have e1' : (n ^^^ 4129) / 256 = n / 256 ^^^ 16 := e1
  have e2' : (n ^^^ 4129) % 256 = n % 256 ^^^ 33 := e2
  rw [← e1'] at h
  rw [← e2'] at l
  show ((n ^^^ 4129 : Nat) : Int) = turn n
  generalize n ^^^ 4129 = x at l h
  obtain ⟨a, ea⟩ : ∃ a, a = n / 256 := ⟨_, rfl⟩
  obtain ⟨b, eb⟩ : ∃ b, b = n % 256 := ⟨_, rfl⟩
  rw [← ea] at h
  rw [← eb] at l
  have en : n = 256 * a + b := by omega
  have hb : b < 256 := by omega
  clear e1 e2 e1' e2' ea eb
  subst en
  have g1 : (256 * a + b) / 4096 = a / 16 := by
    rw [show 4096 = 256 * 16 from rfl, ← Nat.div_div_eq_div_mul]
    congr 1
    omega
  have f1 : ((256 * a + b : Nat) : Int) / 4096 % 2 = (a : Int) / 16 % 2 := by omega
  have f2 : ((256 * a + b : Nat) : Int) / 32 % 2 = (b : Int) / 32 % 2 := by omega
  have f3 : ((256 * a + b : Nat) : Int) % 2 = (b : Int) % 2 := by omega
  unfold turn
  rw [f1, f2, f3]
  generalize (a : Int) / 16 % 2 = u at h
  generalize (b : Int) / 32 % 2 = v at l
  generalize (b : Int) % 2 = w at l
  omega
theorem and_all : ∀ a : Fin 256, ∀ u ∈ [128, 64, 32, 16, 8, 4, 2, 1], (decide (0 < (a.val &&& u))) = decide (a.val / u % 2 = 1) := by decide +kernel
def units : List Int := [128, 64, 32, 16, 8, 4, 2, 1]
theorem and_unit {x u : Int} (h : 0 ≤ x ∧ x < 256) (hu : u ∈ units) : decide (0 < Builtin.bitAnd x u) = decide (x / u % 2 = 1) := by
  have hp : 0 ≤ u := by
    simp only [units, List.mem_cons, List.not_mem_nil, or_false] at hu
    omega
  rw [bitAnd_pp h.1 hp]
  have e : x = (x.toNat : Int) := by omega
  have eu : u = (u.toNat : Int) := by omega
  have a := and_all ⟨x.toNat, by omega⟩ u.toNat (by
    simp only [units, List.mem_cons, List.not_mem_nil, or_false] at hu ⊢
    omega)
  dsimp only at a
  have b1 : decide (0 < ((x.toNat &&& u.toNat : Nat) : Int)) = decide (0 < (x.toNat &&& u.toNat)) := by
    rw [Bool.eq_iff_iff]
    simp only [decide_eq_true_eq]
    omega
  rw [b1, a, Bool.eq_iff_iff]
  simp only [decide_eq_true_eq]
  have ed : x / u = ((x.toNat / u.toNat : Nat) : Int) := by
    rw [Int.natCast_ediv, ← e, ← eu]
  rw [ed]
  omega
/-- the mark behind a bit, 0 or 1 -/
def nextI (m b : Int) : Int := if (b = 1) ↔ (32768 ≤ m) then m * 2 % 65536 else turn (m * 2 % 65536)
theorem nextI_in (m b : Int) : 0 ≤ nextI m b ∧ nextI m b < 65536 := by
  unfold nextI turn
  split <;> omega
def byteI (m x : Int) : Int := units.foldl (fun m u => nextI m (x / u % 2)) m
def chk (m : Int) (ns : List Int) : Int := ns.foldl byteI m
theorem fold_in (x : Int) : ∀ (us : List Int) (m : Int), 0 ≤ m ∧ m < 65536 → 0 ≤ us.foldl (fun m u => nextI m (x / u % 2)) m ∧ us.foldl (fun m u => nextI m (x / u % 2)) m < 65536
  | [], m, h => h
  | u :: r, m, h => fold_in x r _ (nextI_in m _)
theorem chk_in : ∀ (ns : List Int) (m : Int), 0 ≤ m ∧ m < 65536 → 0 ≤ chk m ns ∧ chk m ns < 65536
  | [], m, h => h
  | x :: r, m, h => chk_in r _ (fold_in x units m h)
theorem chk_app (m : Int) (A B : List Int) : chk (chk m A) B = chk m (A ++ B) := (List.foldl_append).symm
theorem fold_take {α β : Type} {g : β → α → β} {b : β} {l : List α} {i : Nat} {x : α} (h : l[i]? = some x) : (l.take (i + 1)).foldl g b = g ((l.take i).foldl g b) x := by
  rw [List.take_add_one, h, Option.toList_some, List.foldl_append]
  rfl
/-! ### the check by a row of sixteen bits -/
def valL (l : List Int) : Int := l.foldl (fun n b => n * 2 + b) 0
def turnAt (l : List Int) (k : Int) : List Int := l.set k.toNat (1 - l.getD k.toNat 0)
def stepL (l : List Int) (f : Bool) : List Int := if f then [3, 10, 15].foldl turnAt (l.drop 1 ++ [0]) else l.drop 1 ++ [0]
def Bits16 (l : List Int) : Prop := l.length = 16 ∧ ∀ b ∈ l, 0 ≤ b ∧ b ≤ 1
theorem sixteen {l : List Int} (h : l.length = 16) : ∃ a b c d e f g i j k m n o p q r : Int, l = [a, b, c, d, e, f, g, i, j, k, m, n, o, p, q, r] := by
  match l, h with
  | [a, b, c, d, e, f, g, i, j, k, m, n, o, p, q, r], _ => exact ⟨a, b, c, d, e, f, g, i, j, k, m, n, o, p, q, r, rfl⟩
theorem stepL_ok {l : List Int} (h : Bits16 l) {x : Int} (hx : 0 ≤ x ∧ x ≤ 1) : Bits16 (stepL l (!decide (l.getD 0 0 = x))) ∧ valL (stepL l (!decide (l.getD 0 0 = x))) = nextI (valL l) x := by
  obtain ⟨a, b, c, d, e, f, g, i, j, k, m, n, o, p, q, r, rfl⟩ := sixteen h.1
  have ha := h.2 a (by simp)
  have hb := h.2 b (by simp)
  have hc := h.2 c (by simp)
  have hd := h.2 d (by simp)
  have he := h.2 e (by simp)
  have hf := h.2 f (by simp)
  have hg := h.2 g (by simp)
  have hi := h.2 i (by simp)
  have hj := h.2 j (by simp)
  have hk := h.2 k (by simp)
  have hm := h.2 m (by simp)
  have hn := h.2 n (by simp)
  have ho := h.2 o (by simp)
  have hp := h.2 p (by simp)
  have hq := h.2 q (by simp)
  have hr := h.2 r (by simp)
  have v : valL [a, b, c, d, e, f, g, i, j, k, m, n, o, p, q, r] = 32768 * a + (16384 * b + 8192 * c + 4096 * d + 2048 * e + 1024 * f + 512 * g + 256 * i + 128 * j + 64 * k + 32 * m + 16 * n + 8 * o + 4 * p + 2 * q + r) := by
    simp only [valL, List.foldl_cons, List.foldl_nil]
    omega
  have top : (32768 ≤ valL [a, b, c, d, e, f, g, i, j, k, m, n, o, p, q, r]) ↔ a = 1 := by
    rw [v]
    omega
  by_cases z : a = x
  · have s : stepL [a, b, c, d, e, f, g, i, j, k, m, n, o, p, q, r] (!decide (([a, b, c, d, e, f, g, i, j, k, m, n, o, p, q, r] : List Int).getD 0 0 = x)) = [b, c, d, e, f, g, i, j, k, m, n, o, p, q, r, 0] := by
      show stepL _ (!decide (a = x)) = _
      rw [decide_eq_true z]
      rfl
    rw [s]
    refine ⟨⟨rfl, ?_⟩, ?_⟩
    · intro y hy
      simp only [List.mem_cons, List.not_mem_nil, or_false] at hy
      rcases hy with rfl | rfl | rfl | rfl | rfl | rfl | rfl | rfl | rfl | rfl | rfl | rfl | rfl | rfl | rfl | rfl <;> first | assumption | exact ⟨by decide, by decide⟩
    · unfold nextI
      rw [if_pos (by rw [top, z])]
      rw [v]
      simp only [valL, List.foldl_cons, List.foldl_nil]
      omega
  · have s : stepL [a, b, c, d, e, f, g, i, j, k, m, n, o, p, q, r] (!decide (([a, b, c, d, e, f, g, i, j, k, m, n, o, p, q, r] : List Int).getD 0 0 = x)) = [b, c, d, 1 - e, f, g, i, j, k, m, 1 - n, o, p, q, r, 1 - 0] := by
      show stepL _ (!decide (a = x)) = _
      rw [decide_eq_false z]
      rfl
    rw [s]
    refine ⟨⟨rfl, ?_⟩, ?_⟩
    · intro y hy
      simp only [List.mem_cons, List.not_mem_nil, or_false] at hy
      rcases hy with rfl | rfl | rfl | rfl | rfl | rfl | rfl | rfl | rfl | rfl | rfl | rfl | rfl | rfl | rfl | rfl <;> first | assumption | omega
    · unfold nextI
      rw [if_neg (by rw [top]; omega)]
      have d2 : valL [a, b, c, d, e, f, g, i, j, k, m, n, o, p, q, r] * 2 % 65536 = 2 * (16384 * b + 8192 * c + 4096 * d + 2048 * e + 1024 * f + 512 * g + 256 * i + 128 * j + 64 * k + 32 * m + 16 * n + 8 * o + 4 * p + 2 * q + r) := by
        rw [v]
        omega
      rw [d2]
      simp only [valL, List.foldl_cons, List.foldl_nil]
      unfold turn
      have t1 : 2 * (16384 * b + 8192 * c + 4096 * d + 2048 * e + 1024 * f + 512 * g + 256 * i + 128 * j + 64 * k + 32 * m + 16 * n + 8 * o + 4 * p + 2 * q + r) / 4096 % 2 = e := by omega
      have t2 : 2 * (16384 * b + 8192 * c + 4096 * d + 2048 * e + 1024 * f + 512 * g + 256 * i + 128 * j + 64 * k + 32 * m + 16 * n + 8 * o + 4 * p + 2 * q + r) / 32 % 2 = n := by omega
      have t3 : 2 * (16384 * b + 8192 * c + 4096 * d + 2048 * e + 1024 * f + 512 * g + 256 * i + 128 * j + 64 * k + 32 * m + 16 * n + 8 * o + 4 * p + 2 * q + r) % 2 = 0 := by omega
      rw [t1, t2, t3]
      omega
end Fc

namespace Fc
open PySem PySem.Spec L2 PyProof.Rows
variable [LamNames]
/-! ### the check, a byte at a time -/
def stepN (m : Nat) : Nat := if 65536 ≤ m * 2 then (m * 2 ^^^ 4129) % 65536 else m * 2
def nxN (m : Nat) (b : Bool) : Nat := if b = decide (32768 ≤ m) then m * 2 % 65536 else m * 2 % 65536 ^^^ 4129
theorem xor16 {a b : Nat} (ha : a < 65536) (hb : b < 65536) : a ^^^ b < 65536 := Nat.xor_lt_two_pow (n := 16) ha hb
theorem nxN_lt (m : Nat) (b : Bool) : nxN m b < 65536 := by
  unfold nxN
  split
  · omega
  · exact xor16 (by omega) (by decide)
theorem dbl_xor (a b : Nat) : (a ^^^ b) * 2 = a * 2 ^^^ b * 2 := by
  have := Nat.shiftLeft_xor_distrib (a := a) (b := b) (i := 1)
  simpa [Nat.shiftLeft_eq] using this
theorem dblm_xor (a b : Nat) : (a ^^^ b) * 2 % 65536 = (a * 2 % 65536) ^^^ (b * 2 % 65536) := by
  rw [dbl_xor]
  exact Nat.xor_mod_two_pow (n := 16)
theorem step_xor {m y : Nat} (hm : m < 65536) (hy : y < 65536) : stepN (m ^^^ y) = nxN m (decide (32768 ≤ y)) ^^^ (y * 2 % 65536) := by
  have hz := xor16 hm hy
  have top : (m ^^^ y) / 2 ^ 15 = m / 2 ^ 15 ^^^ y / 2 ^ 15 := Nat.xor_div_two_pow
  have top' : (m ^^^ y) / 32768 = m / 32768 ^^^ y / 32768 := top
  have dm := dblm_xor m y
  have on : ∀ z : Nat, (z ^^^ 4129) % 65536 = z % 65536 ^^^ 4129 := fun z => Nat.xor_mod_two_pow (n := 16) (a := z) (b := 4129)
  unfold stepN nxN
  rcases (show m / 32768 = 0 ∨ m / 32768 = 1 by omega) with a | a <;> rcases (show y / 32768 = 0 ∨ y / 32768 = 1 by omega) with b | b <;> rw [a, b] at top'
  · have t : (m ^^^ y) / 32768 = 0 := top'
    rw [if_neg (by omega), decide_eq_false (show ¬ 32768 ≤ y by omega), decide_eq_false (show ¬ 32768 ≤ m by omega), if_pos rfl, ← dm, Nat.mod_eq_of_lt (by omega)]
  · have t : (m ^^^ y) / 32768 = 1 := top'
    rw [if_pos (by omega), decide_eq_true (show 32768 ≤ y by omega), decide_eq_false (show ¬ 32768 ≤ m by omega), if_neg (by simp), on, dm, Nat.xor_assoc, Nat.xor_comm (y * 2 % 65536), ← Nat.xor_assoc]
  · have t : (m ^^^ y) / 32768 = 1 := top'
    rw [if_pos (by omega), decide_eq_false (show ¬ 32768 ≤ y by omega), decide_eq_true (show 32768 ≤ m by omega), if_neg (by simp), on, dm, Nat.xor_assoc, Nat.xor_comm (y * 2 % 65536), ← Nat.xor_assoc]
  · have t : (m ^^^ y) / 32768 = 0 := top'
    rw [if_neg (by omega), decide_eq_true (show 32768 ≤ y by omega), decide_eq_true (show 32768 ≤ m by omega), if_pos rfl, ← dm, Nat.mod_eq_of_lt (by omega)]
theorem nextI_nat {m : Nat} (hm : m < 65536) {b : Int} {c : Bool} (e : (b = 1) ↔ c = true) : nextI (m : Int) b = ((nxN m c : Nat) : Int) := by
  unfold nextI nxN
  have h : ((b = 1) ↔ (32768 ≤ (m : Int))) ↔ (c = decide (32768 ≤ m)) := by
    rw [e]
    cases c with
    | true =>
      by_cases k : 32768 ≤ m
      · rw [decide_eq_true k]
        simp
        omega
      · rw [decide_eq_false k]
        simp
        omega
    | false =>
      by_cases k : 32768 ≤ m
      · rw [decide_eq_true k]
        simp
        omega
      · rw [decide_eq_false k]
        simp
        omega
  have e2 : (m : Int) * 2 % 65536 = ((m * 2 % 65536 : Nat) : Int) := by omega
  by_cases k : c = decide (32768 ≤ m)
  · rw [if_pos (h.mpr k), if_pos k, e2]
  · rw [if_neg fun z => k (h.mp z), if_neg k, e2, ← xor_turn (by omega) (by omega), Bits.bitXor_pp (by omega) (by decide)]
    rfl
/-- the mark behind a bit, the byte put in ahead -/
def lstep (m : Int) : Int := if 65536 ≤ m * 2 then Builtin.bitXor (m * 2) 4129 % 65536 else m * 2
def lits : Nat → Int → Int
  | 0, m => m
  | k + 1, m => lits k (lstep m)
theorem lits_more : ∀ (k : Nat) (m : Int), lits (k + 1) m = lstep (lits k m)
  | 0, m => rfl
  | k + 1, m => by
    show lits (k + 1) (lstep m) = lstep (lits k (lstep m))
    exact lits_more k (lstep m)
theorem lstep_nat (m : Nat) : lstep (m : Int) = ((stepN m : Nat) : Int) := by
  unfold lstep stepN
  by_cases k : 65536 ≤ m * 2
  · rw [if_pos (by omega), if_pos k, Bits.bitXor_pp (by omega) (by decide)]
    have e : ((m : Int) * 2).toNat = m * 2 := by omega
    rw [e]
    show (((m * 2 ^^^ 4129 : Nat) : Int)) % 65536 = _
    omega
  · rw [if_neg (by omega), if_neg k]
    omega
theorem lstep_in {m : Int} (h0 : 0 ≤ m) (h1 : m < 65536) : 0 ≤ lstep m ∧ lstep m < 65536 := by
  have e : m = (m.toNat : Int) := by omega
  rw [e, lstep_nat]
  have : stepN m.toNat < 65536 := by
    unfold stepN
    split <;> omega
  omega
theorem lits_in : ∀ (k : Nat) {m : Int}, 0 ≤ m → m < 65536 → 0 ≤ lits k m ∧ lits k m < 65536
  | 0, _, h0, h1 => ⟨h0, h1⟩
  | k + 1, m, h0, h1 => lits_in k (lstep_in h0 h1).1 (lstep_in h0 h1).2
theorem pre_in {m x : Int} (m0 : 0 ≤ m) (m1 : m < 65536) (x0 : 0 ≤ x) (x1 : x < 256) : 0 ≤ Builtin.bitXor m (x * 256) ∧ Builtin.bitXor m (x * 256) < 65536 := by
  rw [Bits.bitXor_pp m0 (by omega)]
  have := xor16 (a := m.toNat) (b := (x * 256).toNat) (by omega) (by omega)
  omega
theorem one_step {m y : Nat} (hm : m < 65536) (hy : y < 65536) : lstep ((m ^^^ y : Nat) : Int) = ((nxN m (decide (32768 ≤ y)) ^^^ (y * 2 % 65536) : Nat) : Int) := by rw [lstep_nat, step_xor hm hy]
theorem byte_walk {m x : Int} (m0 : 0 ≤ m) (m1 : m < 65536) (x0 : 0 ≤ x) (x1 : x < 256) : lits 8 (Builtin.bitXor m (x * 256)) = byteI m x := by
  obtain ⟨M, rfl⟩ : ∃ M : Nat, m = (M : Int) := ⟨m.toNat, by omega⟩
  obtain ⟨X, rfl⟩ : ∃ X : Nat, x = (X : Int) := ⟨x.toNat, by omega⟩
  have hM : M < 65536 := by omega
  have hX : X < 256 := by omega
  have e0 : Builtin.bitXor (M : Int) ((X : Int) * 256) = ((M ^^^ X * 256 : Nat) : Int) := by
    rw [Bits.bitXor_pp (by omega) (by omega)]
    have : ((X : Int) * 256).toNat = X * 256 := by omega
    rw [this]
    rfl
  rw [e0]
  show lstep (lstep (lstep (lstep (lstep (lstep (lstep (lstep _))))))) = nextI (nextI (nextI (nextI (nextI (nextI (nextI (nextI (M : Int) ((X : Int) / 128 % 2)) ((X : Int) / 64 % 2)) ((X : Int) / 32 % 2)) ((X : Int) / 16 % 2)) ((X : Int) / 8 % 2)) ((X : Int) / 4 % 2)) ((X : Int) / 2 % 2)) ((X : Int) / 1 % 2)
  have go : ∀ {m y : Nat} {b : Int} {y' : Nat}, m < 65536 → y < 65536 → y' = y * 2 % 65536 → ((b = 1) ↔ 32768 ≤ y) → ∃ m' : Nat, m' < 65536 ∧ lstep ((m ^^^ y : Nat) : Int) = ((m' ^^^ y' : Nat) : Int) ∧ nextI (m : Int) b = (m' : Int) := by
    intro m y b y' hm hy ey eb
    subst ey
    exact ⟨nxN m (decide (32768 ≤ y)), nxN_lt _ _, one_step hm hy, nextI_nat hm (by rw [decide_eq_true_eq]; exact eb)⟩
  obtain ⟨m1, h1, a1, b1⟩ := go (m := M) (y := X * 256) (y' := X * 512 % 65536) (b := (X : Int) / 128 % 2) hM (by omega) (by omega) (by omega)
  rw [a1, b1]
  obtain ⟨m2, h2, a2, b2⟩ := go (m := m1) (y := X * 512 % 65536) (y' := X * 1024 % 65536) (b := (X : Int) / 64 % 2) h1 (by omega) (by omega) (by omega)
  rw [a2, b2]
  obtain ⟨m3, h3, a3, b3⟩ := go (m := m2) (y := X * 1024 % 65536) (y' := X * 2048 % 65536) (b := (X : Int) / 32 % 2) h2 (by omega) (by omega) (by omega)
  rw [a3, b3]
  obtain ⟨m4, h4, a4, b4⟩ := go (m := m3) (y := X * 2048 % 65536) (y' := X * 4096 % 65536) (b := (X : Int) / 16 % 2) h3 (by omega) (by omega) (by omega)
  rw [a4, b4]
  obtain ⟨m5, h5, a5, b5⟩ := go (m := m4) (y := X * 4096 % 65536) (y' := X * 8192 % 65536) (b := (X : Int) / 8 % 2) h4 (by omega) (by omega) (by omega)
  rw [a5, b5]
  obtain ⟨m6, h6, a6, b6⟩ := go (m := m5) (y := X * 8192 % 65536) (y' := X * 16384 % 65536) (b := (X : Int) / 4 % 2) h5 (by omega) (by omega) (by omega)
  rw [a6, b6]
  obtain ⟨m7, h7, a7, b7⟩ := go (m := m6) (y := X * 16384 % 65536) (y' := X * 32768 % 65536) (b := (X : Int) / 2 % 2) h6 (by omega) (by omega) (by omega)
  rw [a7, b7]
  obtain ⟨m8, h8, a8, b8⟩ := go (m := m7) (y := X * 32768 % 65536) (y' := 0) (b := (X : Int) / 1 % 2) h7 (by omega) (by omega) (by omega)
  rw [a8, b8, Nat.xor_zero]
/-! ### bodies and volumes -/

def colB (k : Nat) (a : Int) (b : List Int) : Int := match b[k]? with
  | some x => Builtin.bitXor a x
  | none => a
def colX (B : List (List Int)) (k : Nat) : Int := B.foldl (colB k) 0
def mixed (B : List (List Int)) (n : Nat) : List Int := (List.range n).map (colX B)
theorem mixed_len (B : List (List Int)) (n : Nat) : (mixed B n).length = n := by rw [mixed, List.length_map, List.length_range]
theorem xor8 {a b : Int} (ha : 0 ≤ a ∧ a < 256) (hb : 0 ≤ b ∧ b < 256) : 0 ≤ Builtin.bitXor a b ∧ Builtin.bitXor a b < 256 := by
  rw [Bits.bitXor_pp ha.1 hb.1]
  have : a.toNat ^^^ b.toNat < 256 := Nat.xor_lt_two_pow (n := 8) (by omega) (by omega)
  omega
theorem colB_in {k : Nat} {a : Int} {b : List Int} (ha : 0 ≤ a ∧ a < 256) (hb : Byt b) : 0 ≤ colB k a b ∧ colB k a b < 256 := by
  unfold colB
  cases e : b[k]? with
  | none => exact ha
  | some x => exact xor8 ha (hb x (List.mem_of_getElem? e))
theorem fold_col_in {k : Nat} : ∀ {B : List (List Int)} {a : Int}, (∀ b ∈ B, Byt b) → 0 ≤ a ∧ a < 256 → 0 ≤ B.foldl (colB k) a ∧ B.foldl (colB k) a < 256
  | [], _, _, h => h
  | b :: r, a, hB, h => fold_col_in (B := r) (fun c hc => hB c (List.mem_cons_of_mem _ hc)) (colB_in h (hB b (by simp)))
theorem mixed_byt {B : List (List Int)} (h : ∀ b ∈ B, Byt b) (n : Nat) : Byt (mixed B n) := fun x hx => by
  obtain ⟨k, _, rfl⟩ := List.mem_map.mp hx
  exact fold_col_in h (by decide)
def chunk (S : List Int) (m j : Nat) : List Int := (S.drop (j * m)).take m
def cnt (n m : Nat) : Nat := (n + m - 1) / m
def chunks (S : List Int) (m : Nat) : List (List Int) := (List.range (cnt S.length m)).map (chunk S m)
def bodies (S : List Int) (m : Nat) : List (List Int) := chunks S m ++ [mixed (chunks S m) (min m S.length)]
theorem chunks_len (S : List Int) (m : Nat) : (chunks S m).length = cnt S.length m := by rw [chunks, List.length_map, List.length_range]
theorem bodies_len (S : List Int) (m : Nat) : (bodies S m).length = cnt S.length m + 1 := by rw [bodies, List.length_append, chunks_len]; rfl
theorem chunk_byt {S : List Int} (h : Byt S) (m j : Nat) : Byt (chunk S m j) := fun x hx => h x (List.mem_of_mem_drop (List.mem_of_mem_take hx))
theorem chunks_byt {S : List Int} (h : Byt S) (m : Nat) : ∀ b ∈ chunks S m, Byt b := fun b hb => by
  obtain ⟨j, _, rfl⟩ := List.mem_map.mp hb
  exact chunk_byt h m j
theorem bodies_byt {S : List Int} (h : Byt S) (m : Nat) : ∀ b ∈ bodies S m, Byt b := fun b hb => by
  rcases List.mem_append.mp hb with k | k
  · exact chunks_byt h m b k
  · rw [List.mem_singleton.mp k]
    exact mixed_byt (chunks_byt h m) _
theorem cnt_pos {n m : Nat} (hn : 1 ≤ n) (hm : 1 ≤ m) : 1 ≤ cnt n m := by
  unfold cnt
  exact (Nat.le_div_iff_mul_le (by omega)).mpr (by omega)
theorem cnt_lt {n m j : Nat} (hm : 1 ≤ m) (h : j < cnt n m) : j * m < n := by
  unfold cnt at h
  have := (Nat.le_div_iff_mul_le (k := m) (x := j + 1) (y := n + m - 1) (by omega)).mp h
  rw [Nat.add_mul] at this
  omega
theorem cnt_ge {n m j : Nat} (hm : 1 ≤ m) (h : ¬ j < cnt n m) : n ≤ j * m := by
  unfold cnt at h
  have := (Nat.div_lt_iff_lt_mul (k := m) (x := n + m - 1) (y := j + 1) (by omega)).mp (by omega)
  rw [Nat.add_mul] at this
  omega
theorem cnt_le {n m : Nat} (hm : 1 ≤ m) : cnt n m ≤ n := by
  by_cases h : n < cnt n m
  · have := cnt_lt hm h
    have l := Nat.le_mul_of_pos_right n (show 0 < m by omega)
    omega
  · omega
theorem chunk_len {S : List Int} {m j : Nat} : (chunk S m j).length = min m (S.length - j * m) := by rw [chunk, List.length_take, List.length_drop]
/-- the bytes of a volume -/
def headB (n most total c : Int) (body : List Int) : List Int := [70, 86] ++ numB n ++ numB most ++ numB total ++ (low 2 c).reverse ++ body
def volB (n most total c : Int) (body : List Int) : List Int := headB n most total c body ++ (low 2 (chk 65535 (headB n most total c body))).reverse
def volAt (S : List Int) (m i : Nat) : List Int := volB i m S.length (chk 65535 S) ((bodies S m).getD i [])
def volsOf (S : List Int) (m : Nat) : List (List Int) := (List.range (cnt S.length m + 1)).map (volAt S m)
theorem numB_byt : ∀ (k : Nat) (n : Int), 0 ≤ n → n.toNat ≤ k → Byt (numB n)
  | k, n, h0, hk => by
    by_cases z : 127 < n
    · rw [numB_big z]
      intro x hx
      rcases List.mem_cons.mp hx with rfl | hx
      · omega
      · cases k with
        | zero => omega
        | succ k => exact numB_byt k (n / 128) (by omega) (by omega) x hx
    · rw [numB_small z]
      intro x hx
      rw [List.mem_singleton.mp hx]
      omega
theorem numB_bytes {n : Int} (h : 0 ≤ n) : Byt (numB n) := numB_byt n.toNat n h (Nat.le_refl _)
theorem low_byt : ∀ (k : Nat) (n : Int), Byt (low k n)
  | 0, _ => fun x hx => by cases hx
  | k + 1, n => fun x hx => by
    rcases List.mem_cons.mp hx with rfl | hx
    · omega
    · exact low_byt k _ x hx
theorem rev_byt {l : List Int} (h : Byt l) : Byt l.reverse := fun x hx => h x (List.mem_reverse.mp hx)
theorem app_byt {a b : List Int} (ha : Byt a) (hb : Byt b) : Byt (a ++ b) := fun x hx => (List.mem_append.mp hx).elim (ha x) (hb x)
theorem head_byt {n most total c : Int} {body : List Int} (h0 : 0 ≤ n) (h1 : 0 ≤ most) (h2 : 0 ≤ total) (hb : Byt body) : Byt (headB n most total c body) :=
  app_byt (app_byt (app_byt (app_byt (app_byt (fun x hx => by
    simp only [List.mem_cons, List.not_mem_nil, or_false] at hx
    omega) (numB_bytes h0)) (numB_bytes h1)) (numB_bytes h2)) (rev_byt (low_byt 2 c))) hb
theorem vol_byt {n most total c : Int} {body : List Int} (h0 : 0 ≤ n) (h1 : 0 ≤ most) (h2 : 0 ≤ total) (hb : Byt body) : Byt (volB n most total c body) := app_byt (head_byt h0 h1 h2 hb) (rev_byt (low_byt 2 _))
theorem numB_pos (n : Int) : 1 ≤ (numB n).length := by
  by_cases z : 127 < n
  · rw [numB_big z, List.length_cons]
    omega
  · rw [numB_small z]
    exact Nat.le_refl 1
theorem head_len {n most total c : Int} {body : List Int} (h0 : 0 ≤ n ∧ n < 4398046511104) (h1 : 0 ≤ most ∧ most < 4398046511104) (h2 : 0 ≤ total ∧ total < 4398046511104) : (headB n most total c body).length ≤ 22 + body.length := by
  have a := numB_few h0.1 h0.2
  have b := numB_few h1.1 h1.2
  have d := numB_few h2.1 h2.2
  simp only [headB, List.length_append, List.length_reverse, low_len, List.length_cons, List.length_nil]
  omega
end Fc

namespace Fc
open PySem PySem.Spec L2 PyProof.Rows
variable [LamNames]
/-! ### list(d.values()) -/
def ViewO (v d : Addr) : HO := .ext fun h => h.IsValuesView v d
section
variable {X : Cx}
def rValues : V → List V → Hp → VK → Prop := fun x xs H Q => ∃ (d : Addr) (kvs : List (Key × V)), x = .ref d ∧ xs = [] ∧ H d = some (.dK kvs) ∧ ∀ v, H v = none → Q (.ref v) (upd H v (ViewO v d))
theorem mt_values : MtR X "dict.values" rValues := by
  intro pins s σ H x xs u us Q I rx rs h
  obtain ⟨d, kvs, rfl, rfl, hd, q⟩ := h
  obtain rfl : u = Value.ref d := rx
  cases rs
  obtain ⟨_, sys, ws, rel, dd⟩ := dk_of I.hok hd
  obtain ⟨ep, da⟩ := dd.dictAt
  obtain ⟨ob, es, ho, ex, _⟩ := id da
  refine call_meetsIn F.slot_dict_values ⟨ob, ho, ex.1⟩ F.entry_dict_values (F.args_dict_values_1 _) (meets_dict_values (mixKind X.prog X.w) d sys) ⟨⟨ws, dd⟩, ?_⟩
  have new : (s.heap.push { cls := .type "dict_values", data := .fields #[.ref d] }).get? s.heap.objs.size = some { cls := .type "dict_values", data := .fields #[.ref d] } := Heap.get?_push_size _ rfl
  exact ⟨.ref s.heap.objs.size, _, I.laid (t' := s.toks) (a := s.heap.objs.size) (o := ViewO s.heap.objs.size d) (fun b w e => Heap.get?_push_of_some _ e) (Nat.le_refl _) ⟨⟨_, new, rfl, rfl⟩, ⟨_, new⟩, fun h1 h2 ⟨o, ho, k⟩ kp => ⟨o, kp o ho, k⟩⟩, rfl, q _ (I.hok.fresh (Nat.le_refl _))⟩
def rListVals : List V → Hp → VK → Prop := fun xs H Q => ∃ (v d : Addr) (kvs : List (Key × V)), xs = [.ref v] ∧ H v = some (ViewO v d) ∧ H d = some (.dK kvs) ∧ ∀ p, H p = none → Q (.ref p) (upd H p (.lst (kvs.map (·.2))))
theorem call_listVals (calm : X.calm = true) : CallR X (.type "list") rListVals := by
  intro pins s σ H xs us Q I r h
  obtain ⟨v, d, kvs, rfl, hv, hd, q⟩ := h
  obtain rfl := Vals.ref1 r
  obtain ⟨z, sys, ws, rel, dd⟩ := dk_of I.hok hd
  obtain ⟨ep, da⟩ := dd.dictAt
  have vw : s.heap.IsValuesView v d := (I.hok _ _ hv).1
  refine PySem.W.kdl_call (PySem.W.kdl_values (knd := mixKind X.prog X.w) (kvs := ws) (ep := ep) (r := v) (d := d)) (I.ok.hd calm) ⟨vw, da⟩ (by rw [← KV.length rel]; exact z) fun g tk got c keep hD its => ?_
  have eg : got.toList = ws.map (·.2) := PySem.W.kdl_vals_eq _ (by rw [Array.length_toList]; exact its.1) fun j u hu => its.2 j u (by rw [← Array.getElem?_toList]; exact hu)
  have vals : Vals (kvs.map (·.2)) got.toList := by
    rw [eg]
    clear its eg hD da dd vw hd q z
    unfold KV at rel
    induction rel with
    | nil => exact .nil
    | cons h _ ih => exact .cons h.2 ih
  exact ⟨.ref s.heap.objs.size, upd H s.heap.objs.size (.lst (kvs.map (·.2))), I.laid (t' := tk) keep (Nat.le_refl _) ⟨by rw [List.length_map]; exact z, got.toList, c, vals, by rw [Array.toArray_toList]; exact hD⟩, rfl, q _ (I.hok.fresh (Nat.le_refl _))⟩
end
end Fc

namespace Fc
open PySem PySem.Spec L2 PyProof.Rows
variable [LamNames]
/-! ### y = {k: v for ..} -/
theorem ps_setDc {X : Cx} {i : Nat} {y : Str} {py : Pos} {kx vx tg iter : Expr} {ifs : List Expr} {scope : Scope} {own : List (Str × Nat)} {pos sp : Pos} {wi : TI} {g : TG} {tt : TT} {tk tv : TE} (hc : X.calm = true) (hN : X.N.Nodup) (hy : X.N[i]? = some y) (hl : X.env.scope.names.lookup y = some .local)
    (hw : swapsWith (.DictComp kx vx [⟨tg, iter, ifs, 0⟩] scope pos) (some (.Name y py)) sp.line X.env = pure true) (hi : PI X tg iter wi) (ok : BlkOk X.N X.env.scope scope own)
    (hg : ∀ (s : Shared) (H : Hp) (C : Addr) (cl : List (Str × Addr)) (fp : List Addr), PG (X.blk s H scope (compEnvC scope cl C X.env) fp) tg g)
    (ht : ∀ (s : Shared) (H : Hp) (C : Addr) (cl : List (Str × Addr)) (fp : List Addr), PTs (X.blk s H scope (compEnvC scope cl C X.env) fp) ifs tt)
    (hk : ∀ (s : Shared) (H : Hp) (C : Addr) (cl : List (Str × Addr)) (fp : List Addr), PE (X.blk s H scope (compEnvC scope cl C X.env) fp) kx tk)
    (he : ∀ (s : Shared) (H : Hp) (C : Addr) (cl : List (Str × Addr)) (fp : List Addr), PE (X.blk s H scope (compEnvC scope cl C X.env) fp) vx tv)
    (hs : ∀ x, foldedSetIterable iter X.env x = pure x := by intro _; rfl) : PS X (.Assign [.Name y py] (.DictComp kx vx [⟨tg, iter, ifs, 0⟩] scope pos) sp) (tAsg (tDc wi g tt tk tv (own.map (·.2))) (gName i)) := ⟨fun pins s σ H D I h => by
  rw [exec_Assign_Name_used _ _ _ _ hw]
  refine wpAny_bind (wpAny_standAt (wpAny_bind ?_))
  show wpAny _ X.A (do let _ ← comprehension (.DictComp kx vx [⟨tg, iter, ifs, 0⟩] scope pos) scope X.env (firstIterPos [⟨tg, iter, ifs, 0⟩] pos) newDict false (eval iter X.env) (some (assign (.Name y py) X.env))) _ _ s
  have h : tDc wi g tt tk tv (own.map (·.2)) σ H (fun x H1 => gName i x σ H1 D.nx) := h
  refine wpAny_bind (thn (dc_core (Qf := fun _ s' => SP X pins D .next s') hc hN I hi ok hg ht hk he hs h fun L C s' m H' I' q hn f => ?_) fun _ s' hq => wpAny_pure (wpAny_pure hq))
  show wpAny _ _ (assign (.Name y py) X.env (.ref L)) _ _ _
  refine wpAny_assign_Name (store_ok2 (v := V.ref L) I' hN hy (.inl hl) rfl (fun s2 I2 ⟨a, sb, ha⟩ => ?_) (.inr hl))
  obtain ⟨f0, f1, f2, f3, f4, f5⟩ := f
  have na : C ≠ a := ha.elim (fun z => by rw [z]; exact f1) (fun z e => f4 y a z e.symm)
  exact ⟨m, hn.sameBut sb na, fun h3 sb3 => ⟨_, H', I2.turned (t' := s2.toks) (fun b o hb e => (sb3.2 b hb).trans e) f0 f1 f3 f4 f5, q⟩⟩⟩
theorem sw_trueD {kx vx : Expr} {gs : List Comprehension} {scope : Scope} {pos py : Pos} {y : Str} {l : Nat} {env : Env} (hk : env.scope.kind = .function) (hy : env.scope.names.lookup y = some .local) (hl : (py.line == pos.line) = true)
    (ha : (scope.names.any fun (n, k) => n == y && (k == .local || k == .cell)) = false) : swapsWith (.DictComp kx vx gs scope pos) (some (.Name y py)) l env = pure true := by
  have k1 : env.kindOf y = some .local := hy
  have k2 : env.blockKind = .function := by
    unfold Env.blockKind
    rw [hk]
    rfl
  unfold swapsWith
  simp only [k2, k1, ha, Expr.pos, hl]
  rfl
end Fc

namespace Fc
open PySem PySem.Spec L2 PyProof.Rows
variable [LamNames]
/-! ### what a volume tells -/
structure VD where
  n : Nat
  m : Nat
  t : Nat
  c : Int
  b : List Int
/-- the numbers, each once, as they come -/
def addK (ks : List Nat) (n : Nat) : List Nat := if n ∈ ks then ks else ks ++ [n]
def keysOf (ns : List Nat) : List Nat := ns.foldl addK []
theorem keysOf_snoc (ns : List Nat) (n : Nat) : keysOf (ns ++ [n]) = addK (keysOf ns) n := by
  unfold keysOf
  rw [List.foldl_append]
  rfl
theorem addK_mem {ks : List Nat} {n x : Nat} : x ∈ addK ks n ↔ x ∈ ks ∨ x = n := by
  unfold addK
  split
  · rename_i h
    exact ⟨.inl, fun z => z.elim id fun e => e ▸ h⟩
  · rw [List.mem_append, List.mem_singleton]
theorem addK_nod {ks : List Nat} {n : Nat} (h : ks.Nodup) : (addK ks n).Nodup := by
  unfold addK
  split
  · exact h
  · rename_i z
    rw [List.nodup_append]
    refine ⟨h, by simp, fun a ha b hb e => ?_⟩
    rw [List.mem_singleton.mp hb] at e
    exact z (e ▸ ha)
theorem foldK_mem : ∀ (ns ks : List Nat) (x : Nat), x ∈ ns.foldl addK ks ↔ x ∈ ks ∨ x ∈ ns
  | [], ks, x => by simp
  | n :: r, ks, x => by
    show x ∈ r.foldl addK (addK ks n) ↔ _
    rw [foldK_mem r, addK_mem, List.mem_cons]
    exact or_assoc
theorem foldK_nod : ∀ (ns ks : List Nat), ks.Nodup → (ns.foldl addK ks).Nodup
  | [], _, h => h
  | n :: r, ks, h => foldK_nod r _ (addK_nod h)
theorem keysOf_mem {ns : List Nat} {x : Nat} : x ∈ keysOf ns ↔ x ∈ ns := by
  unfold keysOf
  rw [foldK_mem]
  simp
theorem keysOf_nod (ns : List Nat) : (keysOf ns).Nodup := foldK_nod ns [] List.nodup_nil
theorem addK_len (ks : List Nat) (n : Nat) : (addK ks n).length ≤ ks.length + 1 := by
  unfold addK
  split
  · omega
  · rw [List.length_append]; exact Nat.le_refl _
theorem keysOf_len : ∀ (ns : List Nat), (keysOf ns).length ≤ ns.length := by
  have go : ∀ (ns ks : List Nat), (ns.foldl addK ks).length ≤ ks.length + ns.length := by
    intro ns
    induction ns with
    | nil => intro ks; exact Nat.le_refl _
    | cons n r ih =>
      intro ks
      have a := ih (addK ks n)
      have b := addK_len ks n
      show (r.foldl addK (addK ks n)).length ≤ _
      rw [List.length_cons]
      omega
  intro ns
  have := go ns []
  simpa [keysOf] using this
/-! ### bodies by their numbers -/
section
variable {K : PySem.W.Frag} {H : Hp}
def IsK (K : PySem.W.Frag) (B : Nat → List Int) (n : Nat) (y : Key × V) (H : Hp) : Prop := y.1 = Sum.inl (n : Int) ∧ IsB K (B n) y.2 H
def DB (K : PySem.W.Frag) (H : Hp) (B : Nat → List Int) (ks : List Nat) (kvs : List (Key × V)) : Prop := Al2 (fun n y => IsK K B n y H) ks kvs
theorem DB.none {B : Nat → List Int} {n : Nat} : ∀ {ks : List Nat} {kvs : List (Key × V)}, DB K H B ks kvs → n ∉ ks → valV kvs (Sum.inl (n : Int)) = Option.none
  | _, _, .nil, _ => rfl
  | k :: ks, y :: kvs, .cons h t, z => by
    have nk : ¬ y.1 = Sum.inl (n : Int) := fun e => by
      rw [h.1] at e
      have := Sum.inl.inj e
      exact z (by rw [show n = k by omega]; exact List.mem_cons_self ..)
    rw [valV_neg nk]
    exact DB.none t fun m => z (List.mem_cons_of_mem _ m)
theorem DB.some {B : Nat → List Int} {n : Nat} : ∀ {ks : List Nat} {kvs : List (Key × V)}, DB K H B ks kvs → n ∈ ks → ∃ v, valV kvs (Sum.inl (n : Int)) = Option.some v ∧ IsB K (B n) v H
  | k :: ks, y :: kvs, .cons h t, z => by
    by_cases e : k = n
    · subst e
      exact ⟨y.2, valV_pos h.1, h.2⟩
    · have nk : ¬ y.1 = Sum.inl (n : Int) := fun q => by
        rw [h.1] at q
        have := Sum.inl.inj q
        omega
      rw [valV_neg nk]
      exact DB.some t ((List.mem_cons.mp z).resolve_left (Ne.symm e))
theorem DB.any {B : Nat → List Int} {n : Nat} {ks : List Nat} {kvs : List (Key × V)} (h : DB K H B ks kvs) : (valV kvs (Sum.inl (n : Int))).isSome = decide (n ∈ ks) := by
  by_cases m : n ∈ ks
  · obtain ⟨v, e, _⟩ := h.some m
    rw [e, decide_eq_true m]
    rfl
  · rw [h.none m, decide_eq_false m]
    rfl
theorem DB.keep {B : Nat → List Int} {H' : Hp} {ks : List Nat} {kvs : List (Key × V)} (s : Same H H') (h : DB K H B ks kvs) : DB K H' B ks kvs := h.mono fun _ _ k => ⟨k.1, k.2.keep s⟩
theorem IsB.wo {b : List Int} {v : V} {p : Addr} {o o' : HO} (h : IsB K b v H) (e : H p = Option.some o) (w : Wo o) : IsB K b v (upd H p o') := by
  obtain ⟨t, ev, k⟩ := h
  exact ⟨t, ev, keepT_wo k e w⟩
theorem DB.wo {B : Nat → List Int} {ks : List Nat} {kvs : List (Key × V)} {p : Addr} {o o' : HO} (h : DB K H B ks kvs) (e : H p = Option.some o) (w : Wo o) : DB K (upd H p o') B ks kvs := h.mono fun _ _ k => ⟨k.1, k.2.wo e w⟩
theorem DB.repl {B : Nat → List Int} {n : Nat} {v : V} (hv : IsB K (B n) v H) : ∀ {ks : List Nat} {kvs : List (Key × V)}, DB K H B ks kvs → DB K H B ks (kvs.map fun kv => if kv.1 = Sum.inl (n : Int) then (kv.1, v) else kv)
  | _, _, .nil => .nil
  | k :: ks, y :: kvs, .cons h t => by
    refine .cons ?_ (DB.repl hv t)
    dsimp only
    by_cases e : y.1 = Sum.inl (n : Int)
    · rw [if_pos e]
      have ek : k = n := by
        rw [h.1] at e
        have := Sum.inl.inj e
        omega
      exact ⟨h.1, by rw [ek]; exact hv⟩
    · rw [if_neg e]
      exact h
theorem DB.put {B : Nat → List Int} {n : Nat} {v : V} {ks : List Nat} {kvs : List (Key × V)} (h : DB K H B ks kvs) (hv : IsB K (B n) v H) : DB K H B (addK ks n) (putK kvs (Sum.inl (n : Int)) v) := by
  unfold putK addK
  rw [valV_any, h.any]
  by_cases m : n ∈ ks
  · rw [if_pos m, if_pos (decide_eq_true m)]
    exact h.repl hv
  · rw [if_neg m, if_neg (by rw [decide_eq_false m]; exact Bool.false_ne_true)]
    exact Al2.snoc (R := fun n y => IsK K B n y H) ⟨rfl, hv⟩ h
theorem DB.vals {B : Nat → List Int} : ∀ {ks : List Nat} {kvs : List (Key × V)}, DB K H B ks kvs → Bs K H (ks.map B) (kvs.map (·.2))
  | _, _, .nil => .nil
  | _ :: _, _ :: _, .cons h t => .cons h.2 (DB.vals t)
theorem DB.len {B : Nat → List Int} {ks : List Nat} {kvs : List (Key × V)} (h : DB K H B ks kvs) : kvs.length = ks.length := Al2.length h
theorem DB.other {B B' : Nat → List Int} : ∀ {ks : List Nat} {kvs : List (Key × V)}, (∀ k ∈ ks, B k = B' k) → DB K H B ks kvs → DB K H B' ks kvs
  | _, _, _, .nil => .nil
  | k :: ks, _ :: _, e, .cons h t => .cons ⟨h.1, by rw [← e k (List.mem_cons_self ..)]; exact h.2⟩ (DB.other (fun x hx => e x (List.mem_cons_of_mem _ hx)) t)
end
/-! ### volumes that belong together -/
def VD.comm (D : VD) : List Int := [(D.m : Int), (D.t : Int), D.c]
def bodyAt (Ds : List VD) (n : Nat) : List Int := match Ds.find? fun D => decide (D.n = n) with
  | some D => D.b
  | none => []
def Tog (Ds : List VD) : Prop := Ds ≠ [] ∧ (∀ D ∈ Ds, ∀ D0, Ds[0]? = some D0 → D.comm = D0.comm) ∧ ∀ D ∈ Ds, D.b = bodyAt Ds D.n
theorem bodyAt_first : ∀ {Ds : List VD} {i : Nat} {D : VD}, Ds[i]? = some D → D.n ∉ (Ds.take i).map VD.n → bodyAt Ds D.n = D.b
  | [], _, _, h, _ => by cases h
  | E :: r, 0, D, h, _ => by
    cases h
    unfold bodyAt
    rw [List.find?_cons, decide_eq_true rfl]
  | E :: r, i + 1, D, h, n => by
    rw [List.take_succ_cons, List.map_cons, List.mem_cons, not_or] at n
    have e : bodyAt (E :: r) D.n = bodyAt r D.n := by
      unfold bodyAt
      rw [List.find?_cons, decide_eq_false (Ne.symm n.1)]
    rw [e]
    exact bodyAt_first (i := i) h n.2
/-- which lack -/
def lackOf (ks : List Nat) (many : Nat) : List Nat := (List.range many).filter fun k => !decide (k ∈ ks)
def Lost (ks : List Nat) (many : Nat) : Prop := 1 < (lackOf ks many).length ∨ (lackOf ks many ≠ [] ∧ many ∉ ks)
theorem lack_mem {ks : List Nat} {many k : Nat} : k ∈ lackOf ks many ↔ k < many ∧ k ∉ ks := by
  unfold lackOf
  rw [List.mem_filter, List.mem_range]
  simp
/-! ### what is xored comes back -/
def xorN (a b : Nat) : Nat := a ^^^ b
theorem colB_nat {k : Nat} {a : Int} {b : List Int} (ha : 0 ≤ a) (hb : Byt b) : colB k a b = ((a.toNat ^^^ ((b.getD k 0).toNat) : Nat) : Int) := by
  unfold colB
  cases e : b[k]? with
  | none =>
    rw [List.getD_eq_getElem?_getD, e]
    show a = ((a.toNat ^^^ 0 : Nat) : Int)
    rw [Nat.xor_zero]
    omega
  | some x =>
    rw [List.getD_eq_getElem?_getD, e]
    have hx := hb x (List.mem_of_getElem? e)
    show Builtin.bitXor a x = _
    rw [Bits.bitXor_pp ha hx.1]
    rfl
def colN (B : List (List Int)) (k : Nat) : Nat := B.foldl (fun a b => a ^^^ (b.getD k 0).toNat) 0
theorem fold_colN {k : Nat} : ∀ (B : List (List Int)) (a : Nat), (∀ b ∈ B, Byt b) → B.foldl (colB k) (a : Int) = ((B.foldl (fun a b => a ^^^ (b.getD k 0).toNat) a : Nat) : Int)
  | [], a, _ => rfl
  | b :: r, a, h => by
    rw [List.foldl_cons, List.foldl_cons, colB_nat (by omega) (h b (List.mem_cons_self ..)), Int.toNat_natCast]
    exact fold_colN r _ fun c hc => h c (List.mem_cons_of_mem _ hc)
theorem colX_nat {B : List (List Int)} {k : Nat} (h : ∀ b ∈ B, Byt b) : colX B k = ((colN B k : Nat) : Int) := fold_colN B 0 h
theorem foldx_out (g : List Int → Nat) : ∀ (B : List (List Int)) (a : Nat), B.foldl (fun a b => a ^^^ g b) a = a ^^^ B.foldl (fun a b => a ^^^ g b) 0
  | [], a => (Nat.xor_zero a).symm
  | b :: r, a => by
    rw [List.foldl_cons, List.foldl_cons, foldx_out g r (a ^^^ g b), foldx_out g r (0 ^^^ g b), Nat.zero_xor, Nat.xor_assoc]
theorem colN_cons (b : List Int) (B : List (List Int)) (k : Nat) : colN (b :: B) k = (b.getD k 0).toNat ^^^ colN B k := by
  unfold colN
  rw [List.foldl_cons, foldx_out (fun b => (b.getD k 0).toNat), Nat.zero_xor]
theorem colN_app (A B : List (List Int)) (k : Nat) : colN (A ++ B) k = colN A k ^^^ colN B k := by
  induction A with
  | nil => exact (Nat.zero_xor _).symm
  | cons a A ih => rw [List.cons_append, colN_cons, colN_cons, ih, Nat.xor_assoc]
theorem colN_perm {A B : List (List Int)} (h : A.Perm B) (k : Nat) : colN A k = colN B k := by
  induction h with
  | nil => rfl
  | cons x _ ih => rw [colN_cons, colN_cons, ih]
  | swap x y l => rw [colN_cons, colN_cons, colN_cons, colN_cons, ← Nat.xor_assoc, ← Nat.xor_assoc, Nat.xor_comm (y.getD k 0).toNat]
  | trans _ _ a b => exact a.trans b
/-! ### [x for k in range(n) if ..], its items by a relation -/
section
variable {tt : TT} {te : TE} {vs : List Nat} {σ : L2.St} {H1 : Hp} {D : Addr} {j : Nat} {Qd : Hp → Prop}
theorem lcR_rng {lo : Int} {n : Nat} (keep : Nat → Bool) (G : Nat → V → Hp → Prop) (nD : H1 D = none) (hz : n ≤ sizeLine) (hw : ∀ x, wipe ((wipe σ vs).set j (some x)) vs = wipe σ vs)
    (gk : ∀ e y H H', Same H H' → G e y H → G e y H') (gu : ∀ e y H ys zs, H D = some (.lst ys) → G e y H → G e y (upd H D (.lst zs)))
    (test : ∀ (i : Nat) (H : Hp) (R : Bool → Hp → Prop), i < n → Same H1 H → (∀ H', Same H H' → R (keep i) H') → tt ((wipe σ vs).set j (some (.int (lo + i)))) H R)
    (item : ∀ (i : Nat) (H : Hp) (R : V → Hp → Prop), i < n → keep i = true → Same H1 H → (∀ y H', Same H H' → G i y H' → R y H') → te ((wipe σ vs).set j (some (.int (lo + i)))) H R)
    (hd : ∀ ys H', Al2 (fun e y => G e y H') ((List.range n).filter keep) ys → Same H1 H' → H' D = some (.lst ys) → Qd H') :
    ∃ W : Nat → Nat → Hp → Prop, (∃ m, W 0 m (upd H1 D (.lst []))) ∧ ∀ i m H, W i m H →
      ((Itr lo n).stop i H ∧ Qd H) ∨ ((Itr lo n).go i H ∧ ∃ Nx : Hp → Prop, (∀ H', Nx H' → ∃ m', m' < m ∧ W (i + 1) m' H') ∧ ∀ x H', (Itr lo n).yld i H x H' → gName j x (wipe σ vs) H' fun σ2 H2 => wipe σ2 vs = wipe σ vs ∧ tt σ2 H2 fun b H3 =>
        if b = true then te σ2 H3 fun y H4 => ∃ acc, H4 D = some (.lst acc) ∧ acc.length < sizeLine ∧ Nx (upd H4 D (.lst (acc ++ [y]))) else Nx H3) := by
  refine lc_range (fun i H => Same H1 H ∧ ∃ ys, H D = some (.lst ys) ∧ Al2 (fun e y => G e y H) ((List.range i).filter keep) ys) ⟨grow nD, [], upd_same, .nil⟩ (fun i H hi p => ?_) (fun H p => ?_)
  · obtain ⟨sm, ys, hD, al⟩ := p
    refine ⟨hw _, test i H _ hi sm fun H3 s3 => ?_⟩
    have hD3 := s3 _ _ hD
    have ft : (List.range (i + 1)).filter keep = (List.range i).filter keep ++ (if keep i = true then [i] else []) := by
      rw [List.range_succ, List.filter_append]
      congr 1
      by_cases k : keep i = true
      · rw [if_pos k, List.filter_cons_of_pos k]; rfl
      · rw [if_neg k, List.filter_cons_of_neg k]; rfl
    by_cases k : keep i = true
    · rw [if_pos k]
      refine item i H3 _ hi k (sm.trans s3) fun y H4 s4 g => ?_
      have hD4 := s4 _ _ hD3
      refine ⟨ys, hD4, ?_, (sm.trans (s3.trans s4)).over nD (.lst hD4), _, upd_same, ?_⟩
      · rw [al.length]
        have l1 := List.length_filter_le keep (List.range i)
        rw [List.length_range] at l1
        omega
      · rw [ft, if_pos k]
        exact Al2.snoc (R := fun u v => G u v (upd H4 D (.lst (ys ++ [y])))) (gu _ _ _ _ _ hD4 g) (al.mono fun u v g => gu _ _ _ _ _ hD4 (gk _ _ _ _ (s3.trans s4) g))
    · rw [if_neg k]
      refine ⟨sm.trans s3, ys, hD3, ?_⟩
      rw [ft, if_neg k, List.append_nil]
      exact al.mono fun u v g => gk _ _ _ _ s3 g
  · obtain ⟨sm, ys, hD, al⟩ := p
    exact hd ys H al sm hD
end
theorem pe_fldq {X : Cx} {K : PySem.W.Frag} (hK : X.K = K) {e : Expr} {ta : TE} {f : Str} {pos : Pos} (he : PE X e ta) (hb : attributeBase e f X.env (eval e X.env) = eval e X.env) : PE X (.Attribute e f pos) (tFld K ta f) := by subst hK; exact pe_fld he hb
/-- the error's heap, its dict let stand -/
theorem miss_heap {H : Hp} {a dx C : Addr} {fs fs' : List (Str × V)} (na : H a = none) (ndx : upd H a (exo a C none) dx = none) (ne : dx ≠ a) :
    upd (del (upd (upd (upd H a (exo a C none)) dx (exd dx fs')) a (exo a C (some dx))) a) dx (.xd fs) = upd H dx (.xd fs) := by
  funext b
  by_cases e1 : b = dx
  · rw [e1, upd_same, upd_same]
  · rw [upd_ne e1, upd_ne e1]
    by_cases e2 : b = a
    · rw [e2, del_same, na]
    · rw [del_ne e2, upd_ne e2, upd_ne e1, upd_ne e2]
/-! ### over pairs, with a test -/
section
variable {α : Type} {J : It} {n : Nat} {G0 : Hp → Prop} {es : List α} {G : α → V → Hp → Prop} {tt : TT} {te : TE} {vs : List Nat} {σ : L2.St} {H1 : Hp} {D : Addr} {Qd : Hp → Prop}
theorem lcWpR {K : PySem.W.Frag} {f h : Nat → Option V} {j k : Nat} (keep : α → Bool) (w : Walk J n G0 (YPair f h)) (hn : es.length = n) (nD : H1 D = none) (hz : n ≤ sizeLine) (hG : ∀ H, Same H1 H → G0 H) (hw : ∀ x y, wipe (((wipe σ vs).set j (some x)).set k (some y)) vs = wipe σ vs)
    (gk : ∀ e y H H', Same H H' → G e y H → G e y H') (gu : ∀ e y H ys zs, H D = some (.lst ys) → G e y H → G e y (upd H D (.lst zs)))
    (test : ∀ (i : Nat) (e : α) (x y : V) (H : Hp) (R : Bool → Hp → Prop), i < n → es[i]? = some e → f i = some x → h i = some y → Same H1 H → (∀ H', Same H H' → R (keep e) H') → tt (((wipe σ vs).set j (some x)).set k (some y)) H R)
    (turn : ∀ (i : Nat) (e : α) (x y : V) (H : Hp) (R : V → Hp → Prop), i < n → es[i]? = some e → f i = some x → h i = some y → Same H1 H → (∀ y H4, Same H H4 → G e y H4 → R y H4) → te (((wipe σ vs).set j (some x)).set k (some y)) H R)
    (hd : ∀ ys H', Al2 (fun e y => G e y H') (es.filter keep) ys → Same H1 H' → H' D = some (.lst ys) → Qd H') :
    ∃ W : Nat → Nat → Hp → Prop, (∃ m, W 0 m (upd H1 D (.lst []))) ∧ ∀ i m H, W i m H →
      (J.stop i H ∧ Qd H) ∨ (J.go i H ∧ ∃ Nx : Hp → Prop, (∀ H', Nx H' → ∃ m', m' < m ∧ W (i + 1) m' H') ∧ ∀ x H', J.yld i H x H' → gTup K 2 (gCons (gName j) (gCons (gName k) gNil)) x (wipe σ vs) H' fun σ2 H2 => wipe σ2 vs = wipe σ vs ∧ tt σ2 H2 fun b H3 =>
        if b = true then te σ2 H3 fun y H4 => ∃ acc, H4 D = some (.lst acc) ∧ acc.length < sizeLine ∧ Nx (upd H4 D (.lst (acc ++ [y]))) else Nx H3) := by
  refine lc_it w (fun i H => Same H1 H ∧ ∃ ys, H D = some (.lst ys) ∧ Al2 (fun e y => G e y H) ((es.take i).filter keep) ys) ⟨grow nD, [], upd_same, .nil⟩ (fun i H _ p => hG H p.1) (fun i x H H' hi p y => ?_) (fun H p => ?_)
  · obtain ⟨sm, ys, hD, al⟩ := p
    have he : es[i]? = some es[i] := List.getElem?_eq_getElem (by omega)
    obtain ⟨T, x, y, rfl, nT, rfl, fx, fy⟩ := y
    have sT : Same H (upd H T (.tup [x, y])) := grow nT
    refine ⟨T, [x, y], rfl, SqT.of upd_same, rfl, x, [y], rfl, y, [], rfl, rfl, hw x y, test i es[i] x y _ _ hi he fx fy (sm.trans sT) fun H3 s3 => ?_⟩
    have s03 := sT.trans s3
    have ft : (es.take (i + 1)).filter keep = (es.take i).filter keep ++ (if keep es[i] = true then [es[i]] else []) := by
      rw [List.take_add_one, he, Option.toList_some, List.filter_append]
      congr 1
      by_cases k : keep es[i] = true
      · rw [if_pos k, List.filter_cons_of_pos k]; rfl
      · rw [if_neg k, List.filter_cons_of_neg k]; rfl
    by_cases kk : keep es[i] = true
    · rw [if_pos kk]
      refine turn i es[i] x y H3 _ hi he fx fy (sm.trans s03) fun z H4 s4 g => ?_
      have hD4 := (s03.trans s4) _ _ hD
      refine ⟨ys, hD4, ?_, (sm.trans (s03.trans s4)).over nD (.lst hD4), _, upd_same, ?_⟩
      · rw [al.length]
        have l1 := List.length_filter_le keep (es.take i)
        rw [List.length_take] at l1
        omega
      · rw [ft, if_pos kk]
        exact Al2.snoc (R := fun u v => G u v (upd H4 D (.lst (ys ++ [z])))) (gu _ _ _ _ _ hD4 g) (al.mono fun u v g => gu _ _ _ _ _ hD4 (gk _ _ _ _ (s03.trans s4) g))
    · rw [if_neg kk]
      refine ⟨sm.trans s03, ys, s03 _ _ hD, ?_⟩
      rw [ft, if_neg kk, List.append_nil]
      exact al.mono fun u v g => gk _ _ _ _ s03 g
  · obtain ⟨sm, ys, hD, al⟩ := p
    rw [← hn, List.take_length] at al
    exact hd ys H al sm hD
end
/-! ### what was shared out comes back -/
theorem flat_chunks (S : List Int) (m : Nat) : ∀ i, ((List.range i).map (chunk S m)).flatten = S.take (i * m)
  | 0 => by rw [Nat.zero_mul, List.take_zero]; rfl
  | i + 1 => by
    rw [List.range_succ, List.map_append, List.flatten_append, flat_chunks S m i, Nat.add_mul, Nat.one_mul, List.take_add]
    show _ ++ [chunk S m i].flatten = _
    congr 1
    simp [chunk]
theorem all_chunks {S : List Int} {m : Nat} (m0 : 1 ≤ m) : (chunks S m).flatten = S := by
  unfold chunks
  rw [flat_chunks, List.take_of_length_le]
  exact cnt_ge m0 (Nat.lt_irrefl _)
def bodyN (S : List Int) (m k : Nat) : List Int := (bodies S m).getD k []
theorem bodyN_chunk {S : List Int} {m k : Nat} (h : k < cnt S.length m) : bodyN S m k = chunk S m k := by
  unfold bodyN bodies
  rw [List.getD_eq_getElem?_getD, List.getElem?_append_left (by rw [chunks_len]; exact h)]
  unfold chunks
  rw [List.getElem?_map, List.getElem?_range h]
  rfl
theorem bodyN_all (S : List Int) (m : Nat) : (List.range (cnt S.length m + 1)).map (bodyN S m) = bodies S m := by
  apply List.ext_getElem?
  intro i
  rw [List.getElem?_map]
  by_cases h : i < cnt S.length m + 1
  · rw [List.getElem?_range h]
    unfold bodyN
    rw [Option.map_some, List.getD_eq_getElem?_getD, List.getElem?_eq_getElem (by rw [bodies_len]; exact h)]
    rfl
  · rw [List.getElem?_eq_none (by rw [List.length_range]; omega), List.getElem?_eq_none (by rw [bodies_len]; omega)]
    rfl
theorem bodyN_byt {S : List Int} (hb : Byt S) (m k : Nat) : Byt (bodyN S m k) := by
  unfold bodyN
  rw [List.getD_eq_getElem?_getD]
  cases e : (bodies S m)[k]? with
  | none => exact fun x hx => by cases hx
  | some b => exact bodies_byt hb m b (List.mem_of_getElem? e)
theorem colN_bodies {S : List Int} (hb : Byt S) (m : Nat) {q : Nat} (hq : q < min m S.length) : colN (bodies S m) q = 0 := by
  unfold bodies
  rw [colN_app, colN_cons]
  have e : ((mixed (chunks S m) (min m S.length)).getD q 0).toNat = colN (chunks S m) q := by
    unfold mixed
    rw [List.getD_eq_getElem?_getD, List.getElem?_map, List.getElem?_range hq, Option.map_some, Option.getD_some, colX_nat (chunks_byt hb m), Int.toNat_natCast]
  rw [e]
  show _ ^^^ (_ ^^^ 0) = 0
  rw [Nat.xor_zero, Nat.xor_self]
/-- the one that lacks, of all others -/
theorem made_back {S : List Int} {m k : Nat} {ks : List Nat} (hb : Byt S) (m0 : 1 ≤ m) (hk : k < cnt S.length m) (nd : ks.Nodup) (hm : ∀ x, x ∈ ks ↔ x ≤ cnt S.length m ∧ x ≠ k) : (mixed (ks.map (bodyN S m)) (min m S.length)).take (chunk S m k).length = chunk S m k := by
  have pm : (k :: ks).Perm (List.range (cnt S.length m + 1)) := by
    refine (List.perm_ext_iff_of_nodup ?_ List.nodup_range).mpr fun x => ?_
    · exact List.nodup_cons.mpr ⟨fun z => ((hm k).mp z).2 rfl, nd⟩
    · rw [List.mem_cons, hm, List.mem_range]
      omega
  have lc := chunk_len (S := S) (m := m) (j := k)
  apply List.ext_getElem?
  intro q
  rw [List.getElem?_take]
  by_cases hq : q < (chunk S m k).length
  · rw [if_pos hq]
    have hq2 : q < min m S.length := by omega
    unfold mixed
    rw [List.getElem?_map, List.getElem?_range hq2, Option.map_some, colX_nat (fun b hbm => by
      obtain ⟨x, _, rfl⟩ := List.mem_map.mp hbm
      exact bodyN_byt hb m x)]
    have z := colN_bodies hb m hq2
    rw [← bodyN_all, ← colN_perm (pm.map _), List.map_cons, colN_cons] at z
    have e : colN (ks.map (bodyN S m)) q = ((bodyN S m k).getD q 0).toNat := by
      have := congrArg (fun y => ((bodyN S m k).getD q 0).toNat ^^^ y) z
      simp only [← Nat.xor_assoc, Nat.xor_self, Nat.zero_xor, Nat.xor_zero] at this
      exact this
    rw [e, bodyN_chunk hk, List.getD_eq_getElem?_getD, List.getElem?_eq_getElem hq, Option.getD_some]
    have bb := chunk_byt hb m k _ (List.getElem_mem hq)
    congr 1
    omega
  · rw [if_neg hq, List.getElem?_eq_none (by omega)]
theorem any_one {K : PySem.W.Frag} {a b : Value} {r : Bool} (h : PySem.W.exmOne K a b = some r) : PySem.W.exmAny K a [b] = some r := by
  unfold PySem.W.exmAny
  rw [h]
  show some (r || false) = some r
  rw [Bool.or_false]
theorem inV_nat (k : Nat) (w : List Nat) : inV (.int (k : Int)) (nV w) = decide (k ∈ w) := by
  unfold inV nV
  rw [List.any_map, Bool.eq_iff_iff, decide_eq_true_eq, List.any_eq_true]
  constructor
  · rintro ⟨x, hx, e⟩
    have e' : ((x : Int) == (k : Int)) = true := e
    have := beq_iff_eq.mp e'
    rw [show k = x by omega]
    exact hx
  · intro h
    exact ⟨k, h, by show ((k : Int) == (k : Int)) = true; rw [beq_self_eq_true]⟩
theorem flat_nV (w : List Nat) : (nV w).all flatV = true := by
  rw [nV_ints]
  rw [List.all_eq_true]
  intro v hv
  obtain ⟨n, _, rfl⟩ := List.mem_map.mp hv
  rfl
/-- a tuple of numbers, not below zero -/
def IsN (K : PySem.W.Frag) (w : List Nat) (v : V) (H : Hp) : Prop := ∃ p, v = .ref p ∧ SqT K H p (nV w)
theorem IsN.keep {K : PySem.W.Frag} {w : List Nat} {v : V} {H H' : Hp} (s : Same H H') (h : IsN K w v H) : IsN K w v H' := by
  obtain ⟨p, e, k⟩ := h
  exact ⟨p, e, keepT s k⟩
theorem IsN.wo {K : PySem.W.Frag} {w : List Nat} {v : V} {H : Hp} {p : Addr} {o o' : HO} (h : IsN K w v H) (e : H p = some o) (x : Wo o) : IsN K w v (upd H p o') := by
  obtain ⟨t, ev, k⟩ := h
  exact ⟨t, ev, keepT_wo k e x⟩
/-- some way -/
def AnyN (K : PySem.W.Frag) (v : V) (H : Hp) : Prop := ∃ w, IsN K w v H
theorem rgV_nV (n : Nat) : rgV 0 (n : Int) = nV (List.range n) := by
  unfold rgV nV
  rw [show ((n : Int) - 0).toNat = n by omega]
  exact List.map_congr_left fun i _ => congrArg V.int (by omega)
theorem nV_drop (w : List Nat) (k : Nat) : (nV w).drop k = nV (w.drop k) := List.map_drop.symm
end Fc

namespace Fc
open PySem PySem.Spec L2 PyProof.Rows
/-! ### what is read, by a walk -/
inductive Res where
  | cut
  | bad
  | ok (n : Int) (p : Nat)
def rd (S : List Int) (at_ : Nat) : Nat → Nat → Int → Int → Res
  | 0, _, _, _ => .bad
  | f + 1, k, n, u => match S[at_ + k]? with
    | none => .cut
    | some x => if x = 0 ∧ 0 < k then .bad else if x < 128 then .ok (n + x % 128 * u) (at_ + k + 1) else rd S at_ f (k + 1) (n + x % 128 * u) (u * 128)
def resOf (S : List Int) (at_ : Nat) : Res := rd S at_ 6 0 0 1
theorem rd_cut {S : List Int} {at_ f k : Nat} {n u : Int} (h : S[at_ + k]? = none) : rd S at_ (f + 1) k n u = .cut := by rw [rd, h]
theorem rd_zero {S : List Int} {at_ f k : Nat} {n u x : Int} (h : S[at_ + k]? = some x) (z : x = 0 ∧ 0 < k) : rd S at_ (f + 1) k n u = .bad := by
  rw [rd, h]
  show (if x = 0 ∧ 0 < k then Res.bad else _) = _
  rw [if_pos z]
theorem rd_end {S : List Int} {at_ f k : Nat} {n u x : Int} (h : S[at_ + k]? = some x) (z : ¬ (x = 0 ∧ 0 < k)) (l : x < 128) : rd S at_ (f + 1) k n u = .ok (n + x % 128 * u) (at_ + k + 1) := by
  rw [rd, h]
  show (if x = 0 ∧ 0 < k then Res.bad else if x < 128 then _ else _) = _
  rw [if_neg z, if_pos l]
theorem rd_on {S : List Int} {at_ f k : Nat} {n u x : Int} (h : S[at_ + k]? = some x) (l : ¬ x < 128) : rd S at_ (f + 1) k n u = rd S at_ f (k + 1) (n + x % 128 * u) (u * 128) := by
  rw [rd, h]
  show (if x = 0 ∧ 0 < k then Res.bad else if x < 128 then _ else _) = _
  rw [if_neg (fun z => l (by omega)), if_neg l]
/-- what a good reading tells: where it ends, that it is no negative number, and that only the bytes ahead of its end matter -/
theorem rd_told {S T : List Int} {at_ : Nat} : ∀ (f k : Nat) (n u v : Int) (p : Nat), rd S at_ f k n u = .ok v p → at_ + k < p ∧ p ≤ S.length ∧ (0 ≤ n → 0 ≤ u → 0 ≤ v) ∧ ((∀ i, i < p → T[i]? = S[i]?) → rd T at_ f k n u = .ok v p)
  | 0, _, _, _, _, _, h => by rw [rd] at h; cases h
  | f + 1, k, n, u, v, p, h => by
    cases e : S[at_ + k]? with
    | none => rw [rd_cut e] at h; cases h
    | some x =>
      have lt : at_ + k < S.length := (List.getElem?_eq_some_iff.mp e).1
      by_cases z : x = 0 ∧ 0 < k
      · rw [rd_zero e z] at h; cases h
      by_cases l : x < 128
      · rw [rd_end e z l] at h
        cases h
        refine ⟨by omega, by omega, fun n0 u0 => ?_, fun g => rd_end ((g _ (by omega)).trans e) z l⟩
        have := Int.mul_nonneg (show 0 ≤ x % 128 by omega) u0
        omega
      · rw [rd_on e l] at h
        obtain ⟨a, b, c, d⟩ := rd_told f (k + 1) _ _ v p h
        refine ⟨by omega, b, fun n0 u0 => c ?_ (by omega), fun g => ?_⟩
        · have := Int.mul_nonneg (show 0 ≤ x % 128 by omega) u0
          omega
        · rw [rd_on ((g _ (by omega)).trans e) l]
          exact d g
theorem res_lt {S : List Int} {a p : Nat} {n : Int} (h : resOf S a = .ok n p) : a < p ∧ p ≤ S.length ∧ 0 ≤ n :=
  let z := rd_told (T := S) 6 0 0 1 n p h
  ⟨by have := z.1; omega, z.2.1, z.2.2.1 (by decide) (by decide)⟩
theorem res_as {S T : List Int} {a p : Nat} {n : Int} (h : resOf S a = .ok n p) (g : ∀ i, i < p → T[i]? = S[i]?) : resOf T a = .ok n p := (rd_told 6 0 0 1 n p h).2.2.2 g
/-! ### bytes that are a volume -/
structure VolS (S : List Int) (D : VD) (p1 p2 p3 : Nat) : Prop where
  hd : S.take 2 = [70, 86]
  r1 : resOf S 2 = .ok (D.n : Int) p1
  r2 : resOf S p1 = .ok (D.m : Int) p2
  r3 : resOf S p2 = .ok (D.t : Int) p3
  m0 : 1 ≤ D.m
  m1 : D.m ≤ 1000
  t0 : 1 ≤ D.t
  t1 : D.t ≤ 20000
  hj : D.n ≤ cnt D.t D.m
  len : S.length = p3 + 2 + (if D.n = cnt D.t D.m then min D.m D.t else min D.m (D.t - D.n * D.m)) + 2
  hc : D.c = val256 ((S.drop p3).take 2)
  hb : D.b = (S.drop (p3 + 2)).take (if D.n = cnt D.t D.m then min D.m D.t else min D.m (D.t - D.n * D.m))
  ck : val256 (S.drop (S.length - 2)) = chk 65535 (S.take (S.length - 2))
def IsVol (S : List Int) (D : VD) : Prop := ∃ p1 p2 p3, VolS S D p1 p2 p3
theorem VolS.one {S : List Int} {D D' : VD} {p1 p2 p3 q1 q2 q3 : Nat} (a : VolS S D p1 p2 p3) (b : VolS S D' q1 q2 q3) : D = D' ∧ p1 = q1 ∧ p2 = q2 ∧ p3 = q3 := by
  have e1 := a.r1.symm.trans b.r1
  injection e1 with n1 e1
  subst e1
  have e2 := a.r2.symm.trans b.r2
  injection e2 with n2 e2
  subst e2
  have e3 := a.r3.symm.trans b.r3
  injection e3 with n3 e3
  subst e3
  obtain ⟨n, m, t, c, bd⟩ := D
  obtain ⟨n', m', t', c', bd'⟩ := D'
  have x1 : n = n' := Int.ofNat.inj n1
  have x2 : m = m' := Int.ofNat.inj n2
  have x3 : t = t' := Int.ofNat.inj n3
  subst x1 x2 x3
  have x4 : c = c' := a.hc.trans b.hc.symm
  have x5 : bd = bd' := a.hb.trans b.hb.symm
  subst x4 x5
  exact ⟨rfl, rfl, rfl, rfl⟩
theorem IsVol.one {S : List Int} {D D' : VD} (a : IsVol S D) (b : IsVol S D') : D = D' := by
  obtain ⟨_, _, _, a⟩ := a
  obtain ⟨_, _, _, b⟩ := b
  exact (a.one b).1
end Fc

namespace Fc
open PySem PySem.Spec L2 PyProof.Rows GxR GenW
variable [LamNames]
/-! ### the walk for sum: the total stands in the consumer's list at S -/
structure SleptN (S : Addr) (n : Int) (s s' : Shared) : Prop where
  os : s'.os = s.os
  bare : AllBare s'.gens
  keep : ∀ b o, b ≠ S → s.heap.get? b = some o → s'.heap.get? b = some o
  own : ∃ t c, s'.heap.get? S = some (lstObj #[.int n t] c)
theorem pin_new {X : Cx} {S : Addr} {oS oT : Obj} {n : Int} {σ : L2.St} {H : Hp} {s s' : Shared} (hpn : ∀ p ∈ X.pn, p.1 ≠ S) (hA : Apart X S) (I : Inv X [(S, oS)] σ H s) (z : SleptN S n s s') (eS' : s'.heap.get? S = some oT) (ncell : ∀ v, oT.data ≠ .cell v := by intro v q; cases q) : Inv X [(S, oT)] σ H s' := by
  obtain ⟨eS, hS0, hSL, hSf, _⟩ := I.pin (S, oS) (List.mem_append_right _ List.mem_cons_self)
  have I0 : Inv X [] σ H s := I.pins_of fun p hp => nomatch hp
  have nt : ∀ b u, H b = some u → b ≠ S := fun b u q hb => by rw [hb, hS0] at q; cases q
  obtain ⟨z1, z2, z3, _⟩ := z
  obtain ⟨hh, g, d, t, o⟩ := s'
  have ho : o = s.os := z1
  subst ho
  have nc : ∀ b, b ∉ [S] → b ≠ S := fun b hb e => hb (by rw [e]; exact List.mem_singleton.mpr rfl)
  have J : Inv X [] σ H { s with heap := hh, gens := g, drawn := d, toks := t } := by
    refine I0.step (g' := g) (t' := t) (d' := d) (ch := [S]) (fun b hb => ?_)
      (fun b ob _ _ hc q _ => z3 b ob (nc b hc) q) (fun b ob _ _ hc q _ => ⟨ob.slots, z3 b ob (nc b hc) q⟩) (fun _ _ _ _ n => n) (fun b ob hc q => ⟨ob, z3 b ob (nc b hc) q⟩)
      (fun _ _ q => q) (fun _ _ _ q => q) (fun b ps q => ⟨#[], by rw [q]; simp⟩) (fun m hm => ?_) (fun b u q => ?_) z2
    · rw [List.mem_singleton.mp hb]
      refine ⟨.inr hA.1, hA.2.1, hA.2.2, fun p hp => ?_⟩
      rcases List.mem_append.mp hp with hp | hp
      · exact hpn p hp
      · cases hp
    · obtain ⟨ob, es, ep, ho, r⟩ := hm
      exact ⟨ob, es, ep, z3 _ ob (Ne.symm hSL) ho, r⟩
    · refine (I0.hok b u q).stay (fun c v hc y => z3 c v ?_ y) (fun _ y => y) fun _ _ y => y
      rcases hc with y | y
      · rw [y]; exact nt b u q
      · exact nt c _ y
  refine J.pins_of fun p hp => ?_
  rw [List.mem_singleton.mp hp]
  exact ⟨eS', hS0, hSL, hSf, ncell⟩
def GWalkN (J : It) (g : TG) (tt : TT) (te : TE) (vs : List Nat) (σ : L2.St) (fin : Int → Hp → Prop) (W : Nat → Nat → Int → Hp → Prop) : Prop :=
  ∀ i m n H, W i m n H → (J.stop i H ∧ fin n H) ∨ (J.go i H ∧ ∃ Nx : Int → Hp → Prop, (∀ n' H', Nx n' H' → ∃ m', m' < m ∧ W (i + 1) m' n' H') ∧ ∀ x H', J.yld i H x H' → g x (wipe σ vs) H' fun σ2 H2 => wipe σ2 vs = wipe σ vs ∧ tt σ2 H2 fun b H3 =>
    if b = true then te σ2 H3 fun y H4 => ∃ k, y = .int k ∧ InLong k ∧ InLong (n + k) ∧ Nx (n + k) H4 else Nx n H3)
def sumY (Y : Cx) (σ : L2.St) (S : Addr) : Protocol := fun _ s₀ v s kap => ∃ (n k : Int) (t t0 : Tok) (c : Nat) (H' : Hp), v = .int k t ∧ InLong k ∧ InLong (n + k) ∧ s₀.heap.get? S = some (lstObj #[.int n t0] c) ∧ Inv Y [(S, lstObj #[.int n t0] c)] σ H' s ∧ ∀ s'', SleptN S (n + k) s s'' → kap (.send .none) s''
def sumF (Y : Cx) (σ : L2.St) (S : Addr) (fin : Int → Hp → Prop) (s₀ s₁ : Shared) : Prop := ∃ n t c H', s₀.heap.get? S = some (lstObj #[.int n t] c) ∧ Inv Y [(S, lstObj #[.int n t] c)] σ H' s₁ ∧ fin n H'
def sumR (Y : Cx) (σ : L2.St) (S : Addr) (fin : Int → Hp → Prop) : GenEnd := fun _ s₀ r s₁ => ((r = .ok (.ret .none) ∨ r = .ok .next) ∧ sumF Y σ S fin s₀ s₁) ∨ ∃ e, r = .error e ∧ False
section
variable {X : Cx} {A' : Around} {s4 : Shared} {H4 : Hp} {scope : Scope} {C : Addr} {code : Value} {fp : List Addr} {pn : List (Addr × Obj)} {S : Addr}
theorem gx_loopN {elt iter : Expr} {x : Str} {px pos : Pos} {ifs : List Expr} {vs : List Nat} {σ : L2.St} {g : TG} {tt : TT} {te : TE} {J : It} {it : Addr} {tn : Nat → Heap → Prop} {fin : Int → Hp → Prop} {W : Nat → Nat → Int → Hp → Prop}
    (gk : GxOk scope) (hpn : ∀ p ∈ pn, p.1 ∉ fp) (hpS : ∀ p ∈ pn, p.1 ≠ S) (nSf : S ∉ fp) (ap : Apart (gxc X A' s4 H4 scope C code fp pn) S)
    (T : Turn X.prog X.w X.K (.Name x px) J fp it tn)
    (pg : PG (gxc X A' s4 H4 scope C code fp pn) (.Name x px) g) (pt : PTs (gxc X A' s4 H4 scope C code fp pn) ifs tt) (pe : PE (gxc X A' s4 H4 scope C code fp pn) elt te)
    (turn : GWalkN J g tt te vs σ fin W) :
    ∀ (m n i : Nat) (s₀ s : Shared) (N : Int) (t0 : Tok) (ca : Nat) (H : Hp), W i m N H → m < n → s₀.heap.get? S = some (lstObj #[.int N t0] ca) → Inv (gxc X A' s4 H4 scope C code fp pn) [(S, lstObj #[.int N t0] ca)] (wipe σ vs) H s → tn i s.heap → (∀ b ∈ fp, H b = none) →
      Seg (model X.prog X.w) A' (sumR (gxc X A' s4 H4 scope C code fp pn) (wipe σ vs) S fin) (sumY (gxc X A' s4 H4 scope C code fp pn) (wipe σ vs) S) n s₀
        (.compLoop (.GeneratorExp elt [⟨.Name x px, iter, ifs, 0⟩] scope pos) 0 (.ref it) .none (gxEnv X scope C code)) ((model X.prog X.w).den (.compLoop (.GeneratorExp elt [⟨.Name x px, iter, ifs, 0⟩] scope pos) 0 (.ref it) .none (gxEnv X scope C code))) [] s := by
  generalize hY : gxc X A' s4 H4 scope C code fp pn = Y at pg pt pe ap
  have eP : Y.prog = X.prog := by rw [← hY]
  have ew : Y.w = X.w := by rw [← hY]
  have eK : Y.K = X.K := by rw [← hY]
  have eA : Y.A = A'.deeper (gxEnv X scope C code) := by rw [← hY]
  have eE : Y.env = gxEnv X scope C code := by rw [← hY]
  have ex : Y.ex = fp := by rw [← hY]
  have exe : Y.xe = fun _ _ => False := by rw [← hY]
  have epn : Y.pn = pn := by rw [← hY]
  have ecalm : Y.calm = true := by rw [← hY]
  have stat : ∀ {o : Obj} {σ' : L2.St} {H' : Hp} {s' : Shared}, Inv Y [(S, o)] σ' H' s' → (∀ b ∈ fp, H' b = none) → ∀ b ∈ fp, FpOk Y [(S, o)] H' b := fun {o σ' H' s'} I' hn b hb =>
    ⟨hn b hb, (I'.ok.exf b (by rw [ex]; exact hb)).1, I'.ok.exfs b (by rw [ex]; exact hb), .inl (by rw [ex]; exact hb), fun x c e => (I'.ok.exf b (by rw [ex]; exact hb)).2 x c e, fun p hp z => by
      rw [epn] at hp
      rcases List.mem_append.mp hp with hp | hp
      · exact hpn p hp (by rw [z]; exact hb)
      · rw [List.mem_singleton.mp hp] at z
        exact nSf (by rw [show S = b from z]; exact hb)⟩
  intro m
  induction m using Nat.strongRecOn with
  | ind m ih =>
    intro n i s₀ s N t0 ca H w hmn h0 I st nf
    show Seg _ A' _ _ _ s₀ _ ((compTurn (.GeneratorExp elt [⟨.Name x px, iter, ifs, 0⟩] scope pos) 0 (.ref it) .none (gxEnv X scope C code)).onRaise (leaving (gxEnv X scope C code))) [] s
    rw [compTurn_gen, Sem.onRaise_eq_wrap]
    refine seg_bind_wrap (wpAny_standAt ?_)
    rcases turn i m N H w with ⟨stop, qq⟩ | ⟨go, Nx, hNx, step⟩
    · have td := T.done Y eP ew eK ecalm i [(S, lstObj #[.int N t0] ca)] s _ H (fun _ _ => False) I (stat I nf) st stop
      rw [eA] at td
      refine seg_bind_wrap ?_
      rw [over_gx]
      refine thnF td fun r s6 ⟨hr, I6⟩ => ?_
      subst hr
      exact seg_end (.ok .next) (.inl ⟨.inr rfl, N, t0, ca, H, h0, I6, qq⟩)
    · have ti := T.item Y eP ew eK ecalm i [(S, lstObj #[.int N t0] ca)] s _ H (fun _ _ => False) I (stat I nf) st go
      rw [eA] at ti
      refine seg_bind_wrap ?_
      rw [over_gx]
      refine thnF ti fun r s6 ⟨u, hr, h6⟩ => ?_
      subst hr
      refine seg_bind_wrap ?_
      rw [over_gx]
      refine thnF h6 fun _ s7 ⟨y, H7, I7, r7, y7, st7, n7⟩ => ?_
      have I7' := I7.pinned (stat I7 n7) (T.obj _ _ st7)
      have pgr := pg.run _ s7 _ H7 y u _ I7' r7 (step y H7 y7)
      rw [eP, ew, eA, exe, eE] at pgr
      refine seg_bind_wrap ?_
      rw [over_gx]
      refine thnF pgr fun _ s8 ⟨σ8, H8, I8, hw8, q8⟩ => ?_
      have ptr := pt.run _ s8 σ8 H8 _ I8 q8
      rw [eP, ew, eA, exe, eE] at ptr
      refine seg_bind_wrap ?_
      rw [over_gx]
      refine thnF ptr fun b s9 ⟨H9, I9, q9⟩ => ?_
      have fin' : ∀ {s' : Shared} {H' : Hp}, Inv Y ([(S, lstObj #[.int N t0] ca)] ++ pinsAt fp s7.heap) σ8 H' s' → Inv Y [(S, lstObj #[.int N t0] ca)] (wipe σ vs) H' s' ∧ tn (i + 1) s'.heap ∧ (∀ b ∈ fp, H' b = none) := fun {s' H'} I' => by
        have pin' : ∀ b ∈ fp, ∀ o, s7.heap.get? b = some o → s'.heap.get? b = some o ∧ H' b = none := fun b hb o e =>
          let z := I'.pin (b, o) (List.mem_append_right _ (List.mem_append_right _ (mem_pinsAt hb e)))
          ⟨z.1, z.2.1⟩
        have hl : (wipe σ vs).length = σ8.length := by rw [← hw8, wipe_length]
        refine ⟨(I'.unpinned (pins := [(S, lstObj #[.int N t0] ca)])).weak hl (fun j v e => ?_), T.keep _ _ _ st7 fun b hb o e => (pin' b hb o e).1, fun b hb => ?_⟩
        · rw [← hw8] at e
          exact (wipe_some e).1
        · obtain ⟨o, e, _⟩ := T.obj _ _ st7 b hb
          exact (pin' b hb o e).2
      cases b with
      | false =>
        simp only [Bool.false_eq_true, if_false] at q9 ⊢
        obtain ⟨f1, f2, f3⟩ := fin' I9
        obtain ⟨m', hm', w'⟩ := hNx _ _ q9
        exact seg_again rfl (ih m' hm' n (i + 1) s₀ s9 N t0 ca H9 w' (by omega) h0 f1 f2 f3)
      | true =>
        simp only [if_true] at q9 ⊢
        have hy : ∀ v, yieldOut (gxEnv X scope C code) v = yieldValue v := fun v => by
          have hco : (gxEnv X scope C code).scope.isCoroutine = false := gk.co
          simp only [yieldOut, hco, Bool.false_eq_true, if_false]
        simp only [hy]
        rw [Sem.bind_eq_wrap', Sem.bind_eq_wrap', Sem.wrap_wrap, Sem.wrap_wrap]
        have per := pe.run _ s9 σ8 H9 _ I9 q9
        rw [eP, ew, eA, exe, eE] at per
        refine seg_wrap ?_
        rw [over_gx]
        refine thnF per fun z s10 ⟨yv, H10, I10, r10, kk, ek, l1, l2, nx⟩ => ?_
        obtain ⟨f1, f2, f3⟩ := fin' I10
        cases n with
        | zero => omega
        | succ n' =>
          subst ek
          obtain ⟨tz, rfl⟩ : ∃ tz, z = .int kk tz := r10
          refine seg_at (seg_yield rfl rfl rfl ⟨N, kk, tz, t0, ca, H10, rfl, l1, l2, h0, f1, fun s'' zz => ?_⟩)
          obtain ⟨m', hm', w'⟩ := hNx _ _ nx
          obtain ⟨t', c', hS'⟩ := zz.own
          refine seg_again rfl (ih m' hm' n' (i + 1) s'' s'' (N + kk) t' c' H10 w' (by omega) hS' (pin_new (by rw [epn]; exact hpS) ap f1 zz hS') (T.keep _ _ _ f2 fun b hb o e => zz.keep b o (fun k => nSf (by rw [← k]; exact hb)) e) f3)
theorem gx_beginN {elt iter : Expr} {x : Str} {px pos : Pos} {ifs : List Expr} {vs : List Nat} {σ : L2.St} {g : TG} {tt : TT} {te : TE} {J : It} {it : Addr} {tn : Nat → Heap → Prop} {fin : Int → Hp → Prop} {W : Nat → Nat → Int → Hp → Prop}
    (gk : GxOk scope) (hpn : ∀ p ∈ pn, p.1 ∉ fp) (hpS : ∀ p ∈ pn, p.1 ≠ S) (nSf : S ∉ fp) (ap : Apart (gxc X A' s4 H4 scope C code fp pn) S)
    (T : Turn X.prog X.w X.K (.Name x px) J fp it tn)
    (pg : PG (gxc X A' s4 H4 scope C code fp pn) (.Name x px) g) (pt : PTs (gxc X A' s4 H4 scope C code fp pn) ifs tt) (pe : PE (gxc X A' s4 H4 scope C code fp pn) elt te)
    (turn : GWalkN J g tt te vs σ fin W) (m n : Nat) (s₀ s : Shared) (N : Int) (t0 : Tok) (ca : Nat) (H : Hp) (w : W 0 m N H) (hmn : m < n) (h0 : s₀.heap.get? S = some (lstObj #[.int N t0] ca)) (I : Inv (gxc X A' s4 H4 scope C code fp pn) [(S, lstObj #[.int N t0] ca)] (wipe σ vs) H s) (st : tn 0 s.heap) (nf : ∀ b ∈ fp, H b = none) :
      Seg (model X.prog X.w) A' (sumR (gxc X A' s4 H4 scope C code fp pn) (wipe σ vs) S fin) (sumY (gxc X A' s4 H4 scope C code fp pn) (wipe σ vs) S) n s₀
        (.compStart (.GeneratorExp elt [⟨.Name x px, iter, ifs, 0⟩] scope pos) 0 (.ref it) .none (gxEnv X scope C code)) ((model X.prog X.w).den (.compStart (.GeneratorExp elt [⟨.Name x px, iter, ifs, 0⟩] scope pos) 0 (.ref it) .none (gxEnv X scope C code))) [] s := by
  have loop := gx_loopN (iter := iter) (pos := pos) gk hpn hpS nSf ap T pg pt pe turn m n 0 s₀ s N t0 ca H w hmn h0 I st nf
  show Seg _ A' _ _ _ s₀ _ ((compStart (.GeneratorExp elt [⟨.Name x px, iter, ifs, 0⟩] scope pos) 0 (.ref it) .none (gxEnv X scope C code)).onRaise (leaving (gxEnv X scope C code))) [] s
  unfold compStart
  rw [Sem.onRaise_eq_wrap]
  show Seg _ A' _ _ _ s₀ _ ((ask >>= _).wrap _ _ _ _) [] s
  refine seg_bind_wrap (wpAny_askSetting ?_)
  split
  · exact seg_again rfl loop
  · first
      | exact seg_bind_wrap (wpAny_rule (seg_bind_wrap (wpAny_standAt (seg_bind_wrap (T.self _ 0 s _ _ st (seg_again rfl loop))))))
      | (refine seg_bind_wrap (wpAny_rule ?_); show Seg _ A' _ _ _ s₀ _ ((standAt iter.pos >>= _).wrap _ _ _ _) [] s; exact seg_bind_wrap (wpAny_standAt (seg_bind_wrap (T.self _ 0 s _ _ st (seg_again rfl loop)))))
/-- the loop of sum, by what each next tells -/
theorem sum_by {P : Program} {w : World} {A : Around} {a S : Addr} {R : Result → Shared → Prop} (St : Nat → Shared → Prop)
    (step : ∀ m s, St m s → ∃ n t c, s.heap.get? S = some (lstObj #[.int n t] c) ∧ wpAny (model P w) A.in1 (pyNext (.ref a)) (fun r s1 => match r with | none => R (.ok (.ret (.int n t))) s1 | some v => ∃ k u c1, v = .int k u ∧ InLong k ∧ InLong (n + k) ∧ s1.heap.get? S = some (lstObj #[.int n t] c1) ∧ ∃ m', m' < m ∧ St m' { s1 with heap := s1.heap.update S (Obj.mapSeq fun _ => #[.int (n + k) s1.toks]), toks := s1.toks + 1 }) (fun _ _ => False) s) :
    ∀ (m : Nat) (s : Shared), St m s → codeAny (model P w) A (.builtin "sum.loop" ⟨[.ref a, .ref S, rawInt 0, rawInt 0], []⟩) R s := by
  intro m
  induction m using Nat.strongRecOn with
  | ind m ih =>
    intro s hst
    obtain ⟨n, t, c, hS, nxt⟩ := step m s hst
    refine codeAny_builtin F.entry_sum_loop ?_
    rw [Around.under_plainId F.plain_sum_loop _]
    show wpAny _ A.in1 (seqItems? (.ref S) >>= _) _ _ s
    refine wpAny_bind (wpAny_seqItems hS rfl ?_)
    show wpAny _ A.in1 (tryCatch (pyNext (.ref a)) _ >>= _) _ _ s
    refine wpAny_bind (wpAny_tryCatch (wpAny_mono nxt (fun r s1 h => ?_) fun _ _ z => z.elim))
    cases r with
    | none => exact wpAny_pure h
    | some v =>
      obtain ⟨k, u, c1, rfl, ⟨f1, f2⟩, ⟨f3, f4⟩, hS1, m', hm, st'⟩ := h
      have hc : ((decide (-(2 ^ 63) ≤ k) && decide (k < 2 ^ 63)) && (decide (-(2 ^ 63) ≤ n + k) && decide (n + k < 2 ^ 63))) = true := by
        simp only [Bool.and_eq_true, decide_eq_true_eq]
        exact ⟨⟨f1, f2⟩, f3, f4⟩
      show wpAny _ A.in1 (if (_ : Bool) = true then (mkInt (n + k) >>= _) else _) _ _ _
      split
      · refine wpAny_bind (wpAny_mkInt ?_)
        show wpAny _ A.in1 (updateSeq S (fun _ => #[.int (n + k) s1.toks]) >>= _) _ _ _
        refine wpAny_bind ?_
        exact wpAny_updateSeq hS1 rfl (wpAny_pure ⟨plainId_quiet F.plain_sum_loop _, ih m' hm _ st'⟩)
      · rename_i neg
        exact absurd hc neg
end
section
variable {X : Cx}
/-- sum(elt for x in iter if ..): P the table of the def's code -/
def tSumG (P : Addr) (wi : TI) (g : TG) (tt : TT) (te : TE) (vs : List Nat) : TE := fun σ H Q => wi σ H fun J H1 => TabG H1 P ∧ ∀ H2, Tabbed P H1 H2 → ∃ W : Nat → Nat → Int → Hp → Prop, (∃ m, W 0 m 0 H2) ∧ GWalkN J g tt te vs σ (fun n H' => Q (.int n) H') W
theorem pe_sumG {c P : Addr} {elt iter : Expr} {x : Str} {px p pos gpos : Pos} {ifs : List Expr} {scope : Scope} {own : List (Str × Nat)} {wi : TI} {g : TG} {tt : TT} {te : TE} {k : Nat}
    (hr : Room (k + 2) X.A) (hg : Gl X "sum") (hm : X.mg "sum" = none) (hb : bootBuiltins "sum" = some (.builtin "sum")) (TB : TabB X.base X.mg c P) (hcode : X.env.code = .ref c) (hN : X.N.Nodup) (ok : BlkOk X.N X.env.scope scope own) (gk : GxOk scope)
    (hi : PI X (.Name x px) iter wi) (hgt : ∀ (A' : Around) (s : Shared) (H : Hp) (C : Addr) (code : Value) (fp : List Addr) (pn : List (Addr × Obj)), PG (gxc X A' s H scope C code fp pn) (.Name x px) g)
    (ht : ∀ (A' : Around) (s : Shared) (H : Hp) (C : Addr) (code : Value) (fp : List Addr) (pn : List (Addr × Obj)), Room k (gxc X A' s H scope C code fp pn).A → PTs (gxc X A' s H scope C code fp pn) ifs tt)
    (he : ∀ (A' : Around) (s : Shared) (H : Hp) (C : Addr) (code : Value) (fp : List Addr) (pn : List (Addr × Obj)), Room k (gxc X A' s H scope C code fp pn).A → PE (gxc X A' s H scope C code fp pn) elt te)
    (hs : ∀ v, genFold iter X.env v = pure v)
    (hst : starEach [.GeneratorExp elt [⟨.Name x px, iter, ifs, 0⟩] scope gpos] X.env = (false, eval (.GeneratorExp elt [⟨.Name x px, iter, ifs, 0⟩] scope gpos) X.env) :: starEach [] X.env := by rfl) :
    PE X (.Call (.Name "sum" p) [.GeneratorExp elt [⟨.Name x px, iter, ifs, 0⟩] scope gpos] [] pos) (tSumG P wi g tt te (own.map (·.2))) := by
  refine ⟨fun pins s σ H Q I h => ?_⟩
  refine wpAny_Call_Name_kw (ld_blt I hg hm hb ?_)
  refine PyProof.Rows.callWith_builtin1 ?_ hst (by rfl)
  rw [hst]
  show wpAny _ _ (spliced ((false, eval (.GeneratorExp elt [⟨.Name x px, iter, ifs, 0⟩] scope gpos) X.env) :: backTo pos (starEach [] X.env))) _ _ s
  have hfree : ∀ y ∈ scope.names, y.2 = .free → ∃ c, X.env.cells.lookup y.1 = some c := fun y hy e => by
    rcases ok.free y hy e with k | k
    · exact I.ok.has _ (.inl k)
    · exact I.ok.has _ (.inr k)
  refine Calls.spliced_cons (wpAny_GeneratorExp_make gk.co (closure_ok hfree) gk.cell gk.dot ok.kind (by have := hr.dp; omega) (thn (hi.run pins s σ H _ I h) fun xv s1 hx => thn hx fun itv s2 h2 => ?_) hs)
  obtain ⟨it, fp, tn, J, H2, e, I2, T, st2, f2, ⟨ps, hP, htr⟩, q⟩ := h2
  subst e
  have hPs : s2.heap.get? P = some { cls := .none, data := .fields ps } := I2.hok P _ hP
  have nPf : P ∉ fp := fun z => by
    have := (f2 P z).1
    rw [hP] at this
    cases this
  have cd : PySem.W.CodeHd s2.heap c P := TB.code.keeps I2.bk
  refine ⟨I2.nolimit, ?_⟩
  have cont : ∀ (code : Value) (h3 : Heap) (tk : Nat) (more : Array Value), Heap.ExtBut P s2.heap h3 → h3.get? P = some { cls := .none, data := .fields (ps ++ more) } → TriplesOk (ps ++ more).toList →
      wpAny (model X.prog X.w) X.A (builtinsFor X.env.globals X.env.builtins) (fun bi s₄ => ∀ h', h'.Ns s₄.heap.objs.size (fun y => if y = ".0" then some (.ref it) else none) → Heap.SameBut s₄.heap.objs.size (s₄.heap.push { cls := .type "frame", data := .dict #[] }) h' →
        wpAny (model X.prog X.w) X.A (spliced (backTo pos (starEach [] X.env))) (fun us s' => wpAny (model X.prog X.w) X.A (call (.builtin "sum") (.ref h'.objs.size :: us)) (EP X pins σ Q) X.xe s') X.xe { s₄ with
            gens := s₄.gens.push (.fresh (.compStart (.GeneratorExp elt [⟨.Name x px, iter, ifs, 0⟩] scope gpos) 0 (.ref it) .none (genEnv scope (cloFrom X.env.cells scope.names []) s₄.heap.objs.size code bi X.env))),
            toks := s₄.toks + 1 + 1 + 1,
            heap := h'.push { cls := .type "generator", data := .fields #[.int s₄.gens.size 0, .str "<genexpr>" (s₄.toks + 1), .str (X.env.qual ++ "<genexpr>") (s₄.toks + 1 + 1)] } }) X.xe { s2 with heap := h3, toks := tk } := by
    intro code h3 tk more hx hP3 ht3
    have I3 : Inv X pins σ (upd H2 P (.tbl (ps ++ more))) { s2 with heap := h3, toks := tk } := inv_tab (g' := s2.gens) (d' := s2.drawn) (t' := tk) I2 hP (fun b o hb e => hx b o hb e) hP3 I2.bare
    have hb2 : AllBare s2.gens := I2.bare
    have st3 : tn 0 h3 := T.keep _ _ _ st2 fun b hb o e => hx b o (fun z => nPf (by rw [← z]; exact hb)) e
    have f3 : ∀ b ∈ fp, FpOk X pins (upd H2 P (.tbl (ps ++ more))) b ∧ b < h3.objs.size := fun b hb => by
      have nb : b ≠ P := fun z => nPf (by rw [← z]; exact hb)
      obtain ⟨o, e, _⟩ := T.obj _ _ st2 b hb
      refine ⟨⟨?_, (f2 b hb).2⟩, Heap.lt_size (hx b o nb e)⟩
      rw [upd_ne nb]
      exact (f2 b hb).1
    obtain ⟨W, ⟨m0, w0⟩, turn⟩ := q (upd H2 P (.tbl (ps ++ more))) ⟨⟨ps ++ more, upd_same, ht3⟩, fun b hb => upd_ne hb⟩
    obtain ⟨bm, ob, e1, e2, e3, e4, e5, e6, e7, e8⟩ := TB.bm
    refine wpAny_builtinsFor (m := X.mg) (by rw [I3.ok.glob]; exact I3.mod.glob.keeps I3.bk) e1 e2 (I3.bk _ _ e5) e6 e7 e8 ?_
    intro h' hn' hs'
    have hn' : h'.Ns h3.objs.size (fun y => if y = ".0" then some (.ref it) else none) := hn'
    have hs' : Heap.SameBut h3.objs.size (h3.push { cls := .type "frame", data := .dict #[] }) h' := hs'
    have hsz : h'.objs.size = h3.objs.size + 1 := by rw [hs'.1, Heap.size_push]
    have keep' : ∀ b o, h3.get? b = some o → h'.get? b = some o := fun b o e => hs'.extBut b o (Nat.ne_of_lt (Heap.lt_size e)) (Heap.get?_push_of_some _ e)
    generalize hH3 : upd H2 P (.tbl (ps ++ more)) = H3 at I3 f3 w0
    generalize hgo : ({ cls := .type "generator", data := .fields #[.int s2.gens.size 0, .str "<genexpr>" (tk + 1), .str (X.env.qual ++ "<genexpr>") (tk + 1 + 1)] } : Obj) = go
    have goC : ∀ v, go.data ≠ .cell v := fun v z => by rw [← hgo] at z; cases z
    have goF : go.isFreed = false := by rw [← hgo]; rfl
    generalize hs5 : ({ s2 with heap := h'.push go, toks := tk + 1 + 1 + 1, gens := s2.gens.push (.fresh (.compStart (.GeneratorExp elt [⟨.Name x px, iter, ifs, 0⟩] scope gpos) 0 (.ref it) .none (gxEnv X scope h3.objs.size code))) } : Shared) = s5
    have k5 : ∀ b o, h3.get? b = some o → s5.heap.get? b = some o := fun b o e => by rw [← hs5]; exact Heap.get?_push_of_some _ (keep' b o e)
    have g5 : s5.heap.get? h'.objs.size = some go := by rw [← hs5]; exact Heap.get?_push_size _ goF
    have b5 : AllBare s5.gens := by rw [← hs5]; exact I2.bare.push rfl
    have I5 := gx_start (A' := X.A.in1.in1) (code := code) (pn := [(h'.objs.size, go)]) (s5 := s5) (s := { s2 with heap := h3, toks := tk }) I3 ok gk hN f3 I2.ok.frames hr.hd (by rw [← hs5]) b5 k5 (by rw [← hs5]; exact hn'.push _) (fun p hp => by
      rw [List.mem_singleton.mp hp]
      exact ⟨g5, by show h3.objs.size < h'.objs.size; omega, goC⟩)
    have rk : Room k (gxc X X.A.in1.in1 { s2 with heap := h3, toks := tk } H3 scope h3.objs.size code fp [(h'.objs.size, go)]).A := ⟨hr.hd, by have := hr.dp; show X.A.depth + 1 + 3 * k + 5 < _; omega, by have := hr.un; show X.A.units + 1 + 1 + 3 + 16 * k + 200 < _; omega⟩
    have pg := hgt X.A.in1.in1 { s2 with heap := h3, toks := tk } H3 h3.objs.size code fp [(h'.objs.size, go)]
    have pt := ht X.A.in1.in1 { s2 with heap := h3, toks := tk } H3 h3.objs.size code fp [(h'.objs.size, go)] rk
    have pe := he X.A.in1.in1 { s2 with heap := h3, toks := tk } H3 h3.objs.size code fp [(h'.objs.size, go)] rk
    have npn : ∀ p ∈ [(h'.objs.size, go)], p.1 ∉ fp := fun p hp z => by
      rw [List.mem_singleton.mp hp] at z
      have h9 : h'.objs.size < h3.objs.size := (f3 _ z).2
      omega
    have nf : ∀ b ∈ fp, H3 b = none := fun b hb => (f3 b hb).1.1
    have isG : ∀ {h : Heap}, h.get? h'.objs.size = some go → h.IsGen h'.objs.size s2.gens.size := fun {h} e => ⟨go, .str "<genexpr>" (tk + 1), .str (X.env.qual ++ "<genexpr>") (tk + 1 + 1), e, by rw [← hgo], by rw [← hgo], by rw [← hgo]⟩
    have back : ∀ {H' : Hp} {s₁ s' : Shared}, Inv (gxc X X.A.in1.in1 { s2 with heap := h3, toks := tk } H3 scope h3.objs.size code fp [(h'.objs.size, go)]) [] (wipe σ (own.map (·.2))) H' s₁ → s'.os = s₁.os → AllBare s'.gens → (∀ b o, s₁.heap.get? b = some o → s'.heap.get? b = some o) → Inv X pins σ H' s' := fun {H' s₁ s'} I' ho hb k =>
      I3.call' (ch := fp) (ho.trans I'.os) (I'.base.trans (Un.kept k)) (I'.hok.kept k) hb fun b hb => ⟨(f3 b hb).1.2.2.2.1, (f3 b hb).1.2.1, (f3 b hb).1.2.2.2.2.1, (f3 b hb).1.2.2.2.2.2⟩
    refine Calls.spliced_nil ?_
    show wpAny (model X.prog X.w) X.A (call (.builtin "sum") [.ref h'.objs.size]) (EP X pins σ Q) X.xe s5
    have a5 : h'.objs.size < s5.heap.objs.size := Heap.lt_size g5
    have C5 : h3.objs.size < s5.heap.objs.size := by omega
    have nSf : s5.heap.objs.size ∉ fp := fun z => by
      have h9 : s5.heap.objs.size < h3.objs.size := (f3 _ z).2
      omega
    have ap : Apart (gxc X X.A.in1.in1 { s2 with heap := h3, toks := tk } H3 scope h3.objs.size code fp [(h'.objs.size, go)]) s5.heap.objs.size := by
      refine ⟨Nat.le_of_lt C5, Nat.ne_of_gt C5, fun y c e z => ?_⟩
      obtain ⟨v, q⟩ := I5.cell y c e
      have := q.lt
      rw [z] at this
      exact absurd this (Nat.lt_irrefl _)
    have hpS : ∀ p ∈ [(h'.objs.size, go)], p.1 ≠ s5.heap.objs.size := fun p hp => by
      rw [List.mem_singleton.mp hp]
      exact Nat.ne_of_lt a5
    have hSc : s5.heap.objs.size ≠ cStatics := fun z => by
      obtain ⟨mc, hns, _⟩ := I5.nolimit
      have := hns.lt
      rw [← z] at this
      exact absurd this (Nat.lt_irrefl _)
    refine call_function_tree F.kind_sum F.plain_sum F.entry_sum (F.args_sum1 _) ?_
    unfold Builtin.«sum»; simp only [List.length_cons, List.length_nil]; rw [if_neg (by decide)]
    refine wpAny_bind (wpAny_of_eq (show Builtin.Builtins.bindParams "sum" ["start"] 0 { } = pure [none] from rfl) (wpAny_bind (wpAny_pyIter_gen (isG g5) (wpAny_bind (wpAny_mkInt (wpAny_bind (wpAny_pure ?_)))))))
    simp only [List.forIn_cons, List.forIn_nil]
    refine wpAny_bind (wpAny_bind (wpAny_bind (wpAny_isInstance (T := "int") (b := false) (typeIs_int _ _ _) PySem.sub_int_str ?_))); simp only [Bool.false_eq_true, if_false]
    refine wpAny_pure (wpAny_bind (wpAny_bind (wpAny_isInstance (T := "int") (b := false) (typeIs_int _ _ _) PySem.sub_int_bytes ?_))); simp only [Bool.false_eq_true, if_false]
    refine wpAny_pure (wpAny_bind (wpAny_bind (wpAny_isInstance (T := "int") (b := false) (typeIs_int _ _ _) PySem.sub_int_bytearray ?_))); simp only [Bool.false_eq_true, if_false]
    refine wpAny_pure (wpAny_pure (wpAny_bind (wpAny_newObj_type ?_)))
    have k6 : ∀ b o, s5.heap.get? b = some o → (s5.heap.push (lstObj #[.int 0 s5.toks] 0)).get? b = some o := fun b o e => Heap.get?_push_of_some _ e
    have hS6 : (s5.heap.push (lstObj #[.int 0 s5.toks] 0)).get? s5.heap.objs.size = some (lstObj #[.int 0 s5.toks] 0) := Heap.get?_push_size _ rfl
    refine wpAny_pure ⟨plainId_quiet F.plain_sum_loop _, ?_⟩
    refine sum_by (A := X.A) (fun n s => s.heap.IsGen h'.objs.size s2.gens.size ∧ s.heap.NoLimit ∧ (∃ N t c, s.heap.get? s5.heap.objs.size = some (lstObj #[.int N t] c)) ∧ ∃ gs, s.gens[s2.gens.size]? = some gs ∧ gs.Goes (model X.prog X.w) X.A.in1.in1 (sumR (gxc X X.A.in1.in1 { s2 with heap := h3, toks := tk } H3 scope h3.objs.size code fp [(h'.objs.size, go)]) (wipe σ (own.map (·.2))) s5.heap.objs.size (fun n H' => Q (.int n) H')) (sumY (gxc X X.A.in1.in1 { s2 with heap := h3, toks := tk } H3 scope h3.objs.size code fp [(h'.objs.size, go)]) (wipe σ (own.map (·.2))) s5.heap.objs.size) n (.send .none) (s.setGen s2.gens.size .running)) ?_ (m0 + 1) _ ?_
    · rintro n s ⟨hgn, hl, ⟨N, tN, cN, hN0⟩, gs, hgs, hgoes⟩
      have hgl : s2.gens.size < s.gens.size := (Array.getElem?_eq_some_iff.mp hgs).1
      refine ⟨N, tN, cN, hN0, wpAny_gsz (n := s2.gens.size + 1) hgl (next_genG (A := X.A.in1) (F := fun _ s₀ s₁ => sumF (gxc X X.A.in1.in1 { s2 with heap := h3, toks := tk } H3 scope h3.objs.size code fp [(h'.objs.size, go)]) (wipe σ (own.map fun (y : Str × Nat) => y.2)) s5.heap.objs.size (fun n H' => Q (.int n) H') s₀ s₁) (Er := fun _ _ => False) hr.hd hl (by have := hr.dp; show X.A.depth < _; omega) hgn hgs hgoes (fun v s₁ gs' hbare hv => ?_) (fun s₁ hp h'' hk => ?_) fun e s₁ he => he.elim)⟩
      · intro hsz
        obtain ⟨N', k', t', t0', c', H', rfl, l1, l2, h00, I', kt⟩ := hv
        have e00 := (show s.heap.get? s5.heap.objs.size = some (lstObj #[.int N' t0'] c') from h00).symm.trans hN0
        obtain ⟨rfl, rfl, rfl⟩ : N' = N ∧ t0' = tN ∧ c' = cN := by
          simp only [Option.some.injEq, Obj.mk.injEq, Data.seq.injEq, true_and, and_true] at e00
          obtain ⟨q1, q2⟩ := e00
          simp at q1
          exact ⟨q1.1, q1.2, q2⟩
        have hS1 : s₁.heap.get? s5.heap.objs.size = some (lstObj #[.int N' t0'] c') := (I'.pin (s5.heap.objs.size, lstObj #[.int N' t0'] c') (by simp)).1
        have hsz1 : s2.gens.size < s₁.gens.size := by
          have q : (s₁.setGen s2.gens.size gs').gens.size = s₁.gens.size := setGen_size _ _ _
          have hsz' : s2.gens.size + 1 ≤ (s₁.setGen s2.gens.size gs').gens.size := hsz
          omega
        have upS : (s₁.heap.update s5.heap.objs.size (Obj.mapSeq fun _ => #[.int (N' + k') s₁.toks])).get? s5.heap.objs.size = some (lstObj #[.int (N' + k') s₁.toks] _) := Heap.get?_update_self _ hS1 rfl
        have kp3 : ∀ b o, b ≠ s5.heap.objs.size → s₁.heap.get? b = some o → (s₁.heap.update s5.heap.objs.size (Obj.mapSeq fun _ => #[.int (N' + k') s₁.toks])).get? b = some o := fun b o hbS e => (Heap.get?_update_other _ _ (Ne.symm hbS)).trans e
        refine ⟨k', t', c', rfl, l1, l2, hS1, ?_⟩
        cases n with
        | zero => exact (kt { s₁ with heap := s₁.heap.update s5.heap.objs.size (Obj.mapSeq fun _ => #[.int (N' + k') s₁.toks]) } ⟨rfl, I'.bare, kp3, _, _, upS⟩).elim
        | succ n' =>
          refine ⟨n', Nat.lt_succ_self _, isG (kp3 _ _ (Nat.ne_of_lt a5) (I'.pin (h'.objs.size, go) (by simp)).1), ?_, ⟨_, _, _, upS⟩, gs', setGen_at (s := s₁) hsz1, kt _ ⟨rfl, allBare_setGen (s := s₁.setGen s2.gens.size gs') (allBare_setGen I'.bare hbare) rfl, kp3, _, _, upS⟩⟩
          obtain ⟨mc, hns, hnn⟩ := I'.nolimit
          exact ⟨mc, hns.at' fun o e => kp3 _ o (Ne.symm hSc) e, hnn⟩
      · intro _
        obtain ⟨N', t0', c', H', h00, I', q'⟩ := hp
        have e00 := (show s.heap.get? s5.heap.objs.size = some (lstObj #[.int N' t0'] c') from h00).symm.trans hN0
        obtain ⟨rfl, rfl, rfl⟩ : N' = N ∧ t0' = tN ∧ c' = cN := by
          simp only [Option.some.injEq, Obj.mk.injEq, Data.seq.injEq, true_and, and_true] at e00
          obtain ⟨q1, q2⟩ := e00
          simp at q1
          exact ⟨q1.1, q1.2, q2⟩
        exact ⟨.int N', H', back (s' := { s₁.setGen s2.gens.size .finished with heap := h'' }) (I'.pins_of fun p hp => by cases hp) rfl (allBare_setGen I'.bare rfl) hk, ⟨_, rfl⟩, q'⟩
    · have b5' : AllBare (({ s5 with heap := s5.heap.push (lstObj #[.int 0 s5.toks] 0), toks := s5.toks + 1 } : Shared).setGen s2.gens.size .running).gens := allBare_setGen (s := { s5 with heap := s5.heap.push (lstObj #[.int 0 s5.toks] 0), toks := s5.toks + 1 }) b5 rfl
      refine ⟨isG (k6 _ _ g5), I5.nolimit.keeps k6, ⟨0, s5.toks, 0, hS6⟩, .fresh (.compStart (.GeneratorExp elt [⟨.Name x px, iter, ifs, 0⟩] scope gpos) 0 (.ref it) .none (gxEnv X scope h3.objs.size code)), by rw [← hs5]; exact Array.getElem?_push_size .., rfl, ?_⟩
      have I6 := I5.kept (t' := s5.toks + 1) k6
      refine gx_beginN gk npn hpS nSf ap T pg pt pe turn m0 (m0 + 1) _ _ 0 s5.toks 0 H3 w0 (Nat.lt_succ_self _) hS6 ((Slp.inv (s' := ({ s5 with heap := s5.heap.push (lstObj #[.int 0 s5.toks] 0), toks := s5.toks + 1 } : Shared).setGen s2.gens.size .running) I6 ⟨rfl, rfl, b5'⟩).pins_of fun p hp => ?_) (T.keep _ _ _ st3 fun b hb o e => k6 _ _ (k5 b o e)) nf
      rw [List.mem_singleton.mp hp]
      exact ⟨hS6, I5.hok.fresh (Nat.le_refl _), Nat.ne_of_gt C5, I5.nofs (Nat.le_refl _), fun v z => by cases z⟩
  cases hf : codeAmong gpos ps.toList with
  | none =>
    refine wpAny_genexprCodeX hcode (cd.code hPs htr) (cd.tab hPs) hf fun c' h' tk hx hge hlt hco' _ htab' _ => ?_
    obtain ⟨o1, vs, f1, tf, fl, tg, inF, tx, tt, op, _, _, _, _, _, _, _, _, _, htr', _⟩ := hco'
    exact cont _ h' tk _ hx htab'.2 htr'
  | some cv =>
    refine wpAny_genexprCode_hit hcode (cd.code hPs htr) hf ?_
    exact cont cv s2.heap s2.toks #[] (Heap.ExtBut.refl _ _) (by simpa using hPs) (by simpa using htr)
end
end Fc

namespace Fc
open PySem PySem.Spec L2 PyProof.Rows
variable [LamNames]
/-! ### {(k, l): v for target in iter} -/
theorem d_dictSetT {X : Cx} {pins : List (Addr × Obj)} {σ : L2.St} {H : Hp} {s : Shared} {E : Value → Shared → Prop} {D b : Addr} {kvs : List (List Key × V)} {ks : List Key} {v : V} {r : Value} {Q : Unit → Shared → Prop} (hu : X.A.units + 2 < cLine) (I : Inv X pins σ H s) (hD : H D = some (.dT kvs)) (hz : kvs.length < sizeLine)
    (hb : H b = some (.tup (ks.map kV))) (rv : RelV v r) (h : ∀ s', Inv X pins σ (upd H D (.dT (putK kvs ks v))) s' → Q () s') : wpAny (model X.prog X.w) X.A (dictSet D (.ref b) r) Q E s := by
  obtain ⟨z, hd, xs, rel, dd⟩ := dt_of I.hok hD
  have lz : xs.length ≤ sizeLine := by rw [← Paired.length rel]; exact z
  have hl : (putK kvs ks v).length ≤ sizeLine := by have := length_putK kvs ks v; omega
  refine wpAny_dictSet_heap (hsz := lz) (show X.A.units < cLine by omega) (key_of I.hok hb) dd fun h' dd' hs => h _ ?_
  obtain ⟨q, es, ep, hq, h2, h3, h4, _, h5⟩ := dd'
  refine d_write I (by rw [hD]; exact True.intro) hs ⟨q, hq⟩ ⟨hl, hd, _, (rel.put ks hb rv).keeps fun c ys ec => ?_, q, es, ep, hq, h2, h3, h4, h5⟩
  rw [upd_ne (ne_of ec hD (fun z => nomatch z))]
  exact ec
section
variable {X : Cx}
def tDcT (wi : TI) (g : TG) (tk tv : TE) (vs : List Nat) : TE := fun σ H Q => wi σ H fun J H1 => ∀ D, H1 D = none → ∃ W : Nat → Nat → Hp → Prop, (∃ m, W 0 m (upd H1 D (.dT []))) ∧ ∀ i m H, W i m H →
  (J.stop i H ∧ Q (.ref D) H) ∨ (J.go i H ∧ ∃ Nx : Hp → Prop, (∀ H', Nx H' → ∃ m', m' < m ∧ W (i + 1) m' H') ∧ ∀ x H', J.yld i H x H' → g x (wipe σ vs) H' fun σ2 H2 => wipe σ2 vs = wipe σ vs ∧
    tk σ2 H2 fun y H4 => tv σ2 H4 fun z H5 => ∃ kvs ks b, y = .ref b ∧ H5 b = some (.tup (List.map kV ks)) ∧ H5 D = some (.dT kvs) ∧ kvs.length < sizeLine ∧ Nx (upd H5 D (.dT (putK kvs ks z))))
theorem dc_coreT {pins : List (Addr × Obj)} {s : Shared} {σ : L2.St} {H : Hp} {Q : VK} {kx vx tg iter : Expr} {scope : Scope} {own : List (Str × Nat)} {pos pos' : Pos} {wi : TI} {g : TG} {tk tv : TE} {use : Option (Value → Sem Unit)} {Qf : Value → Shared → Prop}
    (hc : X.calm = true) (hu : X.A.units + 2 < cLine) (hN : X.N.Nodup) (I : Inv X pins σ H s) (hi : PI X tg iter wi) (ok : BlkOk X.N X.env.scope scope own)
    (hg : ∀ (s : Shared) (H : Hp) (C : Addr) (cl : List (Str × Addr)) (fp : List Addr), PG (X.blk s H scope (compEnvC scope cl C X.env) fp) tg g)
    (hk : ∀ (s : Shared) (H : Hp) (C : Addr) (cl : List (Str × Addr)) (fp : List Addr), PE (X.blk s H scope (compEnvC scope cl C X.env) fp) kx tk)
    (he : ∀ (s : Shared) (H : Hp) (C : Addr) (cl : List (Str × Addr)) (fp : List Addr), PE (X.blk s H scope (compEnvC scope cl C X.env) fp) vx tv) (hs : ∀ x, foldedSetIterable iter X.env x = pure x) (h : tDcT wi g tk tv (own.map (·.2)) σ H Q)
    (back : ∀ D C s' m H', Inv X pins σ H' s' → Q (.ref D) H' → s'.heap.Ns C m → FpOk X pins H' C → compPost (model X.prog X.w) X.A X.xe use Qf (.ref D) C (.ok .next) s') :
    wpAny (model X.prog X.w) X.A (comprehension (.DictComp kx vx [⟨tg, iter, [], 0⟩] scope pos) scope X.env pos' newDict false (eval iter X.env) use) Qf X.xe s := by
  have cells : ∀ y ∈ scope.names, y.2 = .free → ∃ c, X.env.cells.lookup y.1 = some c := fun y hy e => I.ok.has _ (ok.free y hy e)
  refine wpAny_comprehension_free (use := use) rfl hs (closure_ok cells) ok.kind (fun y hy e => (ok.uniq y hy).trans (by rw [e])) (thn (hi.run pins s σ H _ I h) fun xv s1 hx => thn hx fun itv s2 ⟨it, fp, tn, J, H2, e, I2, T, st2, f2, q⟩ => ?_)
  subst e
  refine wpAny_newObj_type (newEnv_comp ?_)
  generalize hD : s2.heap.objs.size = D
  obtain ⟨Wv, ⟨m0, w0⟩, turn⟩ := q D (I2.hok.fresh (Nat.le_of_eq hD))
  generalize hs3 : ({ s2 with heap := s2.heap.push { cls := .type "dict", data := .dict #[] } } : Shared) = s3
  have h3 : s3.heap = s2.heap.push { cls := .type "dict", data := .dict #[] } := congrArg Shared.heap hs3.symm
  have I3 : Inv X pins σ (upd H2 D (.dT [])) s3 := by
    subst hs3
    refine I2.laid (t' := s2.toks) (fun _ _ e => Heap.get?_push_of_some _ e) (Nat.le_of_eq hD) ?_
    rw [← hD]
    exact dt_empty s2.heap I2.big
  have f3 : ∀ b ∈ fp, FpOk X pins (upd H2 D (.dT [])) b ∧ b < s3.heap.objs.size := fun b hb => by
    obtain ⟨o, e, _⟩ := T.obj _ _ st2 b hb
    have lt := Heap.lt_size e
    refine ⟨⟨by rw [upd_ne (by rw [← hD]; exact Nat.ne_of_lt lt)]; exact (f2 b hb).1, (f2 b hb).2⟩, ?_⟩
    rw [h3, Heap.size_push]
    exact Nat.lt_succ_of_lt lt
  have st3 : tn 0 s3.heap := T.keep _ _ _ st2 fun _ _ _ e => by rw [h3]; exact Heap.get?_push_of_some _ e
  have I4 := block_start I3 ok hN f3
  generalize hcl : cellsFrom (s3.heap.objs.size + 1) scope.names (cloFrom X.env.cells scope.names []) = cl at I4
  have pg := hg s3 (upd H2 D (.dT [])) s3.heap.objs.size cl fp
  have pk := hk s3 (upd H2 D (.dT [])) s3.heap.objs.size cl fp
  have pe := he s3 (upd H2 D (.dT [])) s3.heap.objs.size cl fp
  show codeAny _ _ (.compStart (.DictComp kx vx [⟨tg, iter, [], 0⟩] scope pos) 0 (.ref it) (.ref D) (compEnvC scope cl s3.heap.objs.size X.env)) (compPost (model X.prog X.w) X.A X.xe use Qf (.ref D) s3.heap.objs.size) { s3 with heap := pushCells (s3.heap.push { cls := .type "dict", data := .dict #[] }) scope.names }
  generalize hce : compEnvC scope cl s3.heap.objs.size X.env = ce at I4 pg pk pe ⊢
  have cL : ce.locals = s3.heap.objs.size := by rw [← hce]; rfl
  have nfp : ∀ b ∈ fp, (upd H2 D (.dT [])) b = none := fun b hb => (f3 b hb).1.1
  generalize hH3 : upd H2 D (.dT []) = H3 at I3 I4 pg pk pe w0 nfp f3
  generalize hs4 : ({ s3 with heap := pushCells (s3.heap.push { cls := .type "dict", data := .dict #[] }) scope.names } : Shared) = s4 at I4 ⊢
  have st4 : tn 0 s4.heap := T.keep _ _ _ st3 fun _ _ _ e => by rw [← hs4]; exact pushCells_keeps _ _ _ _ (Heap.get?_push_of_some _ e)
  have at_fp : ∀ {σ' : L2.St} {H' : Hp} {s' : Shared}, Inv (X.blk s3 H3 scope ce fp) [] σ' H' s' → (∀ b ∈ fp, H' b = none) → ∀ b ∈ fp, FpOk (X.blk s3 H3 scope ce fp) [] H' b := fun {σ' H' s'} J n b hb =>
    ⟨n b hb, (J.ok.exf b hb).1, J.ok.exfs b hb, .inl hb, (J.ok.exf b hb).2, fun _ z => nomatch z⟩
  -- back in the def
  have home : ∀ {pins' : List (Addr × Obj)} {σ' : L2.St} {H' : Hp} {s' : Shared}, Inv (X.blk s3 H3 scope ce fp) pins' σ' H' s' → Inv X pins σ H' s' ∧ (∃ m, s'.heap.Ns s3.heap.objs.size m) ∧ FpOk X pins H' s3.heap.objs.size := fun {pins' σ' H' s'} J => by
    have nC : H' ce.locals = none := J.free
    obtain ⟨m, hn, _⟩ := J.loc
    have hn : s'.heap.Ns ce.locals m := hn
    rw [cL] at nC hn
    exact ⟨I3.call' (ch := fp) J.os J.base J.hok J.bare fun b hb => ⟨(f3 b hb).1.2.2.2.1, (f3 b hb).1.2.1, (f3 b hb).1.2.2.2.2.1, (f3 b hb).1.2.2.2.2.2⟩, ⟨m, hn⟩, I3.fpOk (Nat.le_refl _) nC⟩
  have loop : codeAny (model X.prog X.w) X.A (.compLoop (.DictComp kx vx [⟨tg, iter, [], 0⟩] scope pos) 0 (.ref it) (.ref D) ce) (compPost (model X.prog X.w) X.A X.xe use Qf (.ref D) s3.heap.objs.size) s4 := by
    refine compLoop_anyD (fun n s' => ∃ i H', Inv (X.blk s3 H3 scope ce fp) [] (wipe σ (own.map (·.2))) H' s' ∧ tn i s'.heap ∧ (∀ b ∈ fp, H' b = none) ∧ Wv i n H') ?_ m0 ⟨0, H3, I4, st4, nfp, w0⟩
    rintro n s5 ⟨i, H5, I5, st5, n5, w5⟩
    rcases turn i n H5 w5 with ⟨stop, qq⟩ | ⟨go, Nx, hNx, step⟩
    · refine thnF (T.done (X.blk s3 H3 scope ce fp) rfl rfl rfl hc i [] s5 _ H5 (fun _ _ => False) I5 (at_fp I5 n5) st5 stop) fun r s6 ⟨hr, I6⟩ => ?_
      subst hr
      obtain ⟨I7, ⟨m, hn⟩, hC⟩ := home I6
      exact back D _ s6 m H5 I7 qq hn hC
    · refine thnF (T.item (X.blk s3 H3 scope ce fp) rfl rfl rfl hc i [] s5 _ H5 (fun _ _ => False) I5 (at_fp I5 n5) st5 go) fun r s6 ⟨v, hr, h6⟩ => ?_
      subst hr
      refine thnF h6 fun _ s7 ⟨x, H7, I7, r7, y7, st7, n7⟩ => ?_
      refine thnF (pg.run _ s7 _ H7 x v _ (I7.pinned (at_fp I7 n7) (T.obj _ _ st7)) r7 (step x H7 y7)) fun _ s8 ⟨σ8, H8, I8, hw8, q8⟩ => wpAny_tests_nil ?_
      have q9 : tk σ8 H8 fun y H4 => tv σ8 H4 fun z H5 => ∃ kvs ks b, y = .ref b ∧ H5 b = some (.tup (List.map kV ks)) ∧ H5 D = some (.dT kvs) ∧ kvs.length < sizeLine ∧ Nx (upd H5 D (.dT (putK kvs ks z))) := q8
      rw [if_pos rfl]
      have done : ∀ {s' : Shared} {H' : Hp}, Inv (X.blk s3 H3 scope ce fp) ([] ++ pinsAt fp s7.heap) σ8 H' s' → Nx H' → ∃ m, m < n ∧ ∃ i H', Inv (X.blk s3 H3 scope ce fp) [] (wipe σ (own.map (·.2))) H' s' ∧ tn i s'.heap ∧ (∀ b ∈ fp, H' b = none) ∧ Wv i m H' := fun {s' H'} I' nx => by
        obtain ⟨m', hm, w'⟩ := hNx H' nx
        have stay : ∀ b ∈ fp, ∀ o, s7.heap.get? b = some o → s'.heap.get? b = some o ∧ H' b = none := fun b hb o e => by
          obtain ⟨z1, z2, _⟩ := I'.pin (b, o) (List.mem_append_right _ (List.mem_append_right _ (mem_pinsAt hb e)))
          exact ⟨z1, z2⟩
        refine ⟨m', hm, i + 1, H', (I'.unpinned (pins := [])).weak (by rw [← hw8, wipe_length]) (fun j v e => (wipe_some (hw8 ▸ e)).1), T.keep _ _ _ st7 fun b hb o e => (stay b hb o e).1, fun b hb => ?_, w'⟩
        obtain ⟨o, e, _⟩ := T.obj _ _ st7 b hb
        exact (stay b hb o e).2
      refine thnF (pk.run _ s8 σ8 H8 _ I8 q9) fun z s10 ⟨yk, H10, I10, r10, q10⟩ => ?_
      refine thnF (pe.run _ s10 σ8 H10 _ I10 q10) fun z2 s11 ⟨yv, H11, I11, r11, kvs, ks, b, ek, hb, hD11, hz11, nx⟩ => ?_
      subst ek
      obtain rfl : z = Value.ref b := r10
      exact d_dictSetT (X := X.blk s3 H3 scope ce fp) hu I11 hD11 hz11 hb r11 fun s12 I12 => done I12 nx
  exact codeAny_compStart_dict loop (T.self X.A 0 _ _ _ st4 loop)
theorem ps_setDcT {i : Nat} {y : Str} {py : Pos} {kx vx tg iter : Expr} {scope : Scope} {own : List (Str × Nat)} {pos sp : Pos} {wi : TI} {g : TG} {tk tv : TE} (hc : X.calm = true) (hu : X.A.units + 2 < cLine) (hN : X.N.Nodup) (hy : X.N[i]? = some y) (hl : X.env.scope.names.lookup y = some .local)
    (hw : swapsWith (.DictComp kx vx [⟨tg, iter, [], 0⟩] scope pos) (some (.Name y py)) sp.line X.env = pure true) (hi : PI X tg iter wi) (ok : BlkOk X.N X.env.scope scope own)
    (hg : ∀ (s : Shared) (H : Hp) (C : Addr) (cl : List (Str × Addr)) (fp : List Addr), PG (X.blk s H scope (compEnvC scope cl C X.env) fp) tg g)
    (hk : ∀ (s : Shared) (H : Hp) (C : Addr) (cl : List (Str × Addr)) (fp : List Addr), PE (X.blk s H scope (compEnvC scope cl C X.env) fp) kx tk)
    (he : ∀ (s : Shared) (H : Hp) (C : Addr) (cl : List (Str × Addr)) (fp : List Addr), PE (X.blk s H scope (compEnvC scope cl C X.env) fp) vx tv)
    (hs : ∀ x, foldedSetIterable iter X.env x = pure x := by intro _; rfl) : PS X (.Assign [.Name y py] (.DictComp kx vx [⟨tg, iter, [], 0⟩] scope pos) sp) (tAsg (tDcT wi g tk tv (own.map (·.2))) (gName i)) := ⟨fun pins s σ H D I h => by
  rw [exec_Assign_Name_used _ _ _ _ hw]
  refine wpAny_bind (wpAny_standAt (wpAny_bind ?_))
  show wpAny _ X.A (do let _ ← comprehension (.DictComp kx vx [⟨tg, iter, [], 0⟩] scope pos) scope X.env (firstIterPos [⟨tg, iter, [], 0⟩] pos) newDict false (eval iter X.env) (some (assign (.Name y py) X.env))) _ _ s
  have h : tDcT wi g tk tv (own.map (·.2)) σ H (fun x H1 => gName i x σ H1 D.nx) := h
  refine wpAny_bind (thn (dc_coreT (Qf := fun _ s' => SP X pins D .next s') hc hu hN I hi ok hg hk he hs h fun L C s' m H' I' q hn f => ?_) fun _ s' hq => wpAny_pure (wpAny_pure hq))
  show wpAny _ _ (assign (.Name y py) X.env (.ref L)) _ _ _
  refine wpAny_assign_Name (store_ok2 (v := V.ref L) I' hN hy (.inl hl) rfl (fun s2 I2 ⟨a, sb, ha⟩ => ?_) (.inr hl))
  obtain ⟨f0, f1, f2, f3, f4, f5⟩ := f
  have na : C ≠ a := ha.elim (fun z => by rw [z]; exact f1) (fun z e => f4 y a z e.symm)
  exact ⟨m, hn.sameBut sb na, fun h3 sb3 => ⟨_, H', I2.turned (t' := s2.toks) (fun b o hb e => (sb3.2 b hb).trans e) f0 f1 f3 f4 f5, q⟩⟩⟩
end
end Fc

namespace Fc
open PySem PySem.Spec L2 PyProof.Rows
variable [LamNames]
/-! ### max(d.values()) -/
section
variable {X : Cx}
def rMaxVals : List V → Hp → VK → Prop := fun xs H Q => ∃ (v d : Addr) (kvs : List (Key × V)) (is : List Int), xs = [.ref v] ∧ H v = some (ViewO v d) ∧ H d = some (.dK kvs) ∧ kvs.map (·.2) = is.map V.int ∧ is ≠ [] ∧ ∀ m, m ∈ is → (∀ j ∈ is, j ≤ m) → Q (.int m) H
theorem cr_maxVals (calm : X.calm = true) : CallR X (.builtin "max") rMaxVals := by
  intro pins s σ H xs us Q I r h
  obtain ⟨v, d, kvs, is, rfl, hv, hd, hm, ne, q⟩ := h
  obtain rfl := Vals.ref1 r
  obtain ⟨z, sys, ws, rel, dd⟩ := dk_of I.hok hd
  obtain ⟨ep, da⟩ := dd.dictAt
  have vw : s.heap.IsValuesView v d := (I.hok _ _ hv).1
  have lv : ws.length = is.length := by
    have e := congrArg List.length hm
    rw [List.length_map, List.length_map] at e
    rw [← KV.length rel, e]
  have pos : 0 < ws.length := by rw [lv]; exact List.length_pos_iff.mpr ne
  have val : ∀ (i : Nat) (u : Value), (∃ k, ws[i]? = some (k, u)) → ∃ t, u = Value.int (is.getD i 0) t := fun i u ⟨k, hk⟩ => by
    obtain ⟨x, h1, h2⟩ := KV.at' rel hk
    have e1 : (kvs.map (·.2))[i]? = some x := by rw [List.getElem?_map, h1]; rfl
    rw [hm, List.getElem?_map] at e1
    obtain ⟨j, hj, rfl⟩ := Option.map_eq_some_iff.mp e1
    obtain ⟨t, rfl⟩ := h2
    exact ⟨t, by rw [List.getD_eq_getElem?_getD, hj]; rfl⟩
  refine call_max_walk (wpAny_pyIter_values (v := v) (d := d) vw da ?_)
  obtain ⟨ob, es, ho, _⟩ := id da
  have hlt : d < s.heap.objs.size := Heap.lt_size ho
  refine ⟨_, _, _, _, _, _, _, rfl, Walks.dictValues (knd := mixKind X.prog X.w) (A := X.A.in1) (I.ok.hd calm) s.heap.objs.size d (Nat.ne_of_lt hlt) ws ep,
    ⟨⟨_, Heap.get?_push_size _ rfl, rfl, rfl⟩, da.keep fun b u e => Heap.get?_push_of_some _ e⟩, fun b hb => ?_, pos, CmpOf.ints_gt (fun i => is.getD i 0) val, fun u h' tk hP hk => ?_⟩
  · show b < (s.heap.push _).objs.size
    rw [Heap.size_push]
    rcases List.mem_cons.mp hb with e | hb
    · rw [e]
      exact Nat.lt_succ_self _
    · rw [List.mem_singleton.mp hb]
      exact Nat.lt_succ_of_lt hlt
  · obtain ⟨t, rfl⟩ := val _ u hP
    obtain ⟨b1, b2⟩ := argBest_gt (fun i => is.getD i 0) (ws.length - 1)
    refine ⟨.int _, H, I.kept (t' := tk) fun b u e => hk b u (fun hmem => ?_) (Heap.get?_push_of_some _ e), ⟨t, rfl⟩, q _ ?_ fun j hj => ?_⟩
    · have e1 := List.mem_singleton.mp hmem
      have e2 := Heap.lt_size e
      rw [e1] at e2
      exact absurd e2 (Nat.lt_irrefl _)
    · exact PySem.getD_mem (by omega)
    · obtain ⟨k, hk2, rfl⟩ := mem_getD hj
      exact b2 k (by omega)
end
end Fc

namespace Fc
open PySem PySem.Spec L2 PyProof.Rows
/-! ### words of bits -/
abbrev Wd := Nat × Nat × Int
def findW (W : List Wd) (l n : Nat) : Option Int := (W.find? fun w => decide (w.1 = l ∧ w.2.1 = n)).map (·.2.2)
/-- one word read: l bits with the number n are read, the next one stands at q -/
inductive Rd1 (W : List Wd) (B : List Int) : Nat → Nat → Nat → Int → Nat → Prop
  | hit {q l n : Nat} {b : Int} : findW W l n = some b → Rd1 W B q l n b q
  | step {q l n q' : Nat} {b x : Int} : findW W l n = none → B[q]? = some x → Rd1 W B (q + 1) (l + 1) (n * 2 + x.toNat) b q' → Rd1 W B q l n b q'
inductive RdAll (W : List Wd) (B : List Int) : Nat → Nat → List Int → Nat → Prop
  | zero {q : Nat} : RdAll W B q 0 [] q
  | more {q m q1 q2 : Nat} {b : Int} {r : List Int} : Rd1 W B q 0 0 b q1 → RdAll W B q1 m r q2 → RdAll W B q (m + 1) (b :: r) q2
section
variable {W : List Wd} {B : List Int}
theorem Rd1.one {q l n q' : Nat} {b : Int} (h : Rd1 W B q l n b q') : ∀ {b2 : Int} {q2 : Nat}, Rd1 W B q l n b2 q2 → b2 = b ∧ q2 = q' := by
  induction h with
  | hit e =>
    intro b2 q2 k
    cases k with
    | hit e2 => rw [e] at e2; cases e2; exact ⟨rfl, rfl⟩
    | step e2 _ _ => rw [e] at e2; cases e2
  | step e x _ ih =>
    intro b2 q2 k
    cases k with
    | hit e2 => rw [e] at e2; cases e2
    | step e2 x2 k2 =>
      rw [x] at x2
      cases x2
      exact ih k2
theorem RdAll.one {q m q' : Nat} {r : List Int} (h : RdAll W B q m r q') : ∀ {r2 : List Int} {q2 : Nat}, RdAll W B q m r2 q2 → r2 = r ∧ q2 = q' := by
  induction h with
  | zero => intro r2 q2 k; cases k; exact ⟨rfl, rfl⟩
  | more a _ ih =>
    intro r2 q2 k
    cases k with
    | more a2 k2 =>
      obtain ⟨rfl, rfl⟩ := a.one a2
      obtain ⟨rfl, rfl⟩ := ih k2
      exact ⟨rfl, rfl⟩
theorem RdAll.snoc {q m q1 q2 : Nat} {r : List Int} {b : Int} (h : RdAll W B q m r q1) (k : Rd1 W B q1 0 0 b q2) : RdAll W B q (m + 1) (r ++ [b]) q2 := by
  induction h with
  | zero => exact .more k .zero
  | more a _ ih => exact .more a (ih k)
theorem RdAll.split : ∀ {j m q q2 : Nat} {r : List Int}, RdAll W B q (j + m) r q2 → ∃ a c q1, r = a ++ c ∧ RdAll W B q j a q1 ∧ RdAll W B q1 m c q2
  | 0, m, q, q2, r, h => ⟨[], r, q, rfl, .zero, by rw [Nat.zero_add] at h; exact h⟩
  | j + 1, m, q, q2, r, h => by
    rw [Nat.succ_add] at h
    cases h with
    | more a k =>
      obtain ⟨x, c, q1, rfl, k1, k2⟩ := RdAll.split k
      exact ⟨_ :: x, c, q1, rfl, .more a k1, k2⟩
theorem RdAll.len {q m q' : Nat} {r : List Int} (h : RdAll W B q m r q') : r.length = m := by
  induction h with
  | zero => rfl
  | more _ _ ih => rw [List.length_cons, ih]
/-- where no more can be read no longer body is read -/
theorem RdAll.stop {j M q1 q2 : Nat} {a r : List Int} (h : RdAll W B 0 j a q1) (lt : j < M) (no : ∀ b q', ¬ Rd1 W B q1 0 0 b q') : ¬ RdAll W B 0 M r q2 := fun k => by
  obtain ⟨d, rfl⟩ : ∃ d, M = j + (d + 1) := ⟨M - j - 1, by omega⟩
  obtain ⟨x, c, q3, rfl, k1, k2⟩ := k.split
  obtain ⟨rfl, rfl⟩ := h.one k1
  cases k2 with
  | more z _ => exact no _ _ z
theorem Rd1.le {q l n q' : Nat} {b : Int} (h : Rd1 W B q l n b q') (hq : q ≤ B.length) : q ≤ q' ∧ q' ≤ B.length := by
  induction h with
  | hit _ => exact ⟨Nat.le_refl _, hq⟩
  | step _ x _ ih =>
    have := (List.getElem?_eq_some_iff.mp x).1
    have := ih (by omega)
    omega
/-- a word that is read has at least as many bits as were read ahead -/
theorem Rd1.long {q l n q' : Nat} {b : Int} (h : Rd1 W B q l n b q') : ∃ w ∈ W, l ≤ w.1 := by
  induction h with
  | hit e =>
    unfold findW at e
    obtain ⟨w, e1, _⟩ := Option.map_eq_some_iff.mp e
    have := List.find?_some e1
    rw [decide_eq_true_eq] at this
    exact ⟨w, List.mem_of_find?_eq_some e1, by omega⟩
  | step _ _ _ ih =>
    obtain ⟨w, hw, lw⟩ := ih
    exact ⟨w, hw, by omega⟩
end
/-! ### the bits of bytes -/
def bitAt (S : List Int) (q : Nat) : Int := S.getD (q / 8) 0 / 2 ^ (7 - q % 8) % 2
def bitsOf (S : List Int) : List Int := (List.range (8 * S.length)).map (bitAt S)
theorem bitsOf_len (S : List Int) : (bitsOf S).length = 8 * S.length := by unfold bitsOf; rw [List.length_map, List.length_range]
theorem bitsOf_get {S : List Int} {q : Nat} (h : q < 8 * S.length) : (bitsOf S)[q]? = some (bitAt S q) := by
  unfold bitsOf
  rw [List.getElem?_map, List.getElem?_range h]
  rfl
theorem bitAt_drop (S : List Int) (p q : Nat) : bitAt (S.drop p) q = bitAt S (8 * p + q) := by
  unfold bitAt
  have e1 : (8 * p + q) / 8 = p + q / 8 := by omega
  have e2 : (8 * p + q) % 8 = q % 8 := by omega
  rw [e1, e2, List.getD_eq_getElem?_getD, List.getD_eq_getElem?_getD, List.getElem?_drop]
theorem bitAt_01 (S : List Int) (q : Nat) : 0 ≤ bitAt S q ∧ bitAt S q ≤ 1 := by
  unfold bitAt
  have a := Int.emod_nonneg (S.getD (q / 8) 0 / 2 ^ (7 - q % 8)) (show (2 : Int) ≠ 0 by decide)
  have b := Int.emod_lt_of_pos (S.getD (q / 8) 0 / 2 ^ (7 - q % 8)) (show (0 : Int) < 2 by decide)
  omega
/-! ### the words of lengths -/
def pLe (p q : Int × Int) : Bool := decide (p.1 < q.1 ∨ (p.1 = q.1 ∧ p.2 ≤ q.2))
def wordsFrom : Nat → Nat → List (Int × Int) → List Wd
  | _, _, [] => []
  | n, prev, (l, b) :: r => (l.toNat, n * 2 ^ (l.toNat - prev), b) :: wordsFrom (n * 2 ^ (l.toNat - prev) + 1) l.toNat r
/-- longs: (length, byte), as they stand in the head -/
def wds (ls : List (Int × Int)) : List Wd := wordsFrom 0 0 (ls.mergeSort pLe)
def kraft (ls : List (Int × Int)) : Nat := (ls.map fun p => 2 ^ (30 - p.1.toNat)).sum
/-- what the head tells: m longs, ended at p -/
structure Head (S : List Int) (m p0 : Nat) (ls : List (Int × Int)) : Prop where
  r : resOf S 0 = .ok (m : Int) p0
  len : p0 + 2 * m ≤ S.length
  isl : ls = (List.range m).map fun i => (S.getD (p0 + 2 * i + 1) 0, S.getD (p0 + 2 * i) 0)
  rise : (ls.map (·.2)).Pairwise (· < ·)
  lng : ∀ p ∈ ls, 1 ≤ p.1 ∧ p.1 ≤ 30
  one : m = 1 → ∀ p ∈ ls, p.1 = 1
  sum : 1 < m → kraft ls = 2 ^ 30
structure IsWd (S body : List Int) (m p0 : Nat) (ls : List (Int × Int)) (M p1 q : Nat) : Prop where
  hd : Head S m p0 ls
  r : resOf S (p0 + 2 * m) = .ok (M : Int) p1
  few : M ≤ 1000
  all : RdAll (wds ls) (bitsOf (S.drop p1)) 0 M body q
  rest : 8 * (S.drop p1).length ≤ q + 7
  zero : ∀ i, q ≤ i → i < 8 * (S.drop p1).length → bitAt (S.drop p1) i = 0
def IsW (S body : List Int) : Prop := ∃ m p0 ls M p1 q, IsWd S body m p0 ls M p1 q
theorem Head.one2 {S : List Int} {m m' p p' : Nat} {ls ls' : List (Int × Int)} (h : Head S m p ls) (k : Head S m' p' ls') : m = m' ∧ p = p' ∧ ls = ls' := by
  have e := h.r.symm.trans k.r
  injection e with e1 e2
  have e1 := Int.ofNat.inj e1
  subst e1 e2
  exact ⟨rfl, rfl, h.isl.trans k.isl.symm⟩
theorem IsW.one {S a b : List Int} (h : IsW S a) (k : IsW S b) : a = b := by
  obtain ⟨m, p0, ls, M, p1, q, h⟩ := h
  obtain ⟨m', p0', ls', M', p1', q', k⟩ := k
  obtain ⟨rfl, rfl, rfl⟩ := h.hd.one2 k.hd
  have e := h.r.symm.trans k.r
  injection e with e1 e2
  have e1 := Int.ofNat.inj e1
  subst e1 e2
  exact (k.all.one h.all).1
theorem Head.len_ls {S : List Int} {m p : Nat} {ls : List (Int × Int)} (h : Head S m p ls) : ls.length = m := by rw [h.isl, List.length_map, List.length_range]
/-! ### words fit, and none begins another one -/
def up (w : Wd) : Nat := w.2.1 * 2 ^ (30 - w.1)
theorem pow_split {a b : Nat} (h1 : a ≤ b) (h2 : b ≤ 30) : 2 ^ (30 - a) = 2 ^ (b - a) * 2 ^ (30 - b) := by
  rw [← Nat.pow_add]
  congr 1
  omega
theorem from_up : ∀ (ls : List (Int × Int)) (n prev : Nat), (∀ p ∈ ls, prev ≤ p.1.toNat ∧ p.1.toNat ≤ 30) → ls.Pairwise (fun p q => p.1.toNat ≤ q.1.toNat) → ∀ w ∈ wordsFrom n prev ls, prev ≤ w.1 ∧ w.1 ≤ 30 ∧ n * 2 ^ (30 - prev) ≤ up w ∧ up w + 2 ^ (30 - w.1) ≤ n * 2 ^ (30 - prev) + kraft ls
  | [], _, _, _, _, w, hw => nomatch hw
  | (l, b) :: r, n, prev, hl, hp, w, hw => by
    obtain ⟨p1, p2⟩ := List.pairwise_cons.mp hp
    obtain ⟨l1, l2⟩ := hl (l, b) List.mem_cons_self
    dsimp only at l1 l2
    have ek : kraft ((l, b) :: r) = 2 ^ (30 - l.toNat) + kraft r := by unfold kraft; rw [List.map_cons, List.sum_cons]
    have e1 : n * 2 ^ (l.toNat - prev) * 2 ^ (30 - l.toNat) = n * 2 ^ (30 - prev) := by rw [Nat.mul_assoc, ← pow_split l1 l2]
    rcases List.mem_cons.mp hw with rfl | h
    · refine ⟨l1, l2, Nat.le_of_eq e1.symm, ?_⟩
      unfold up
      dsimp only
      rw [e1, ek]
      omega
    · obtain ⟨a1, a2, a3, a4⟩ := from_up r _ l.toNat (fun p hp' => ⟨p1 p hp', (hl p (List.mem_cons_of_mem _ hp')).2⟩) p2 w h
      have e2 : (n * 2 ^ (l.toNat - prev) + 1) * 2 ^ (30 - l.toNat) = n * 2 ^ (30 - prev) + 2 ^ (30 - l.toNat) := by rw [Nat.add_mul, e1, Nat.one_mul]
      rw [e2] at a3 a4
      refine ⟨Nat.le_trans l1 a1, a2, Nat.le_trans (Nat.le_add_right _ _) a3, ?_⟩
      rw [ek, ← Nat.add_assoc]
      exact a4
/-- a word behind another one: as long at least, and above all that begins with it -/
theorem from_pair : ∀ (ls : List (Int × Int)) (n prev : Nat), (∀ p ∈ ls, prev ≤ p.1.toNat ∧ p.1.toNat ≤ 30) → ls.Pairwise (fun p q => p.1.toNat ≤ q.1.toNat) → (wordsFrom n prev ls).Pairwise fun v w => v.1 ≤ w.1 ∧ up v + 2 ^ (30 - v.1) ≤ up w
  | [], _, _, _, _ => .nil
  | (l, b) :: r, n, prev, hl, hp => by
    obtain ⟨p1, p2⟩ := List.pairwise_cons.mp hp
    obtain ⟨l1, l2⟩ := hl (l, b) List.mem_cons_self
    have hr : ∀ p ∈ r, l.toNat ≤ p.1.toNat ∧ p.1.toNat ≤ 30 := fun p hp' => ⟨p1 p hp', (hl p (List.mem_cons_of_mem _ hp')).2⟩
    refine List.pairwise_cons.mpr ⟨fun w hw => ?_, from_pair r _ l.toNat hr p2⟩
    obtain ⟨a1, a2, a3, _⟩ := from_up r _ l.toNat hr p2 w hw
    refine ⟨a1, ?_⟩
    rw [Nat.add_mul, Nat.one_mul] at a3
    exact a3
theorem from_map : ∀ (ls : List (Int × Int)) (n prev : Nat), (wordsFrom n prev ls).map (fun w => (w.1, w.2.2)) = ls.map fun p => (p.1.toNat, p.2)
  | [], _, _ => rfl
  | (l, b) :: r, n, prev => by rw [wordsFrom, List.map_cons, List.map_cons, from_map r]
theorem pLe_total (a b : Int × Int) : (pLe a b || pLe b a) = true := by
  unfold pLe
  rw [Bool.or_eq_true, decide_eq_true_eq, decide_eq_true_eq]
  omega
theorem pLe_trans (a b c : Int × Int) : pLe a b = true → pLe b c = true → pLe a c = true := by
  unfold pLe
  rw [decide_eq_true_eq, decide_eq_true_eq, decide_eq_true_eq]
  omega
structure Fine10 (ls : List (Int × Int)) : Prop where
  lng : ∀ p ∈ ls, 1 ≤ p.1 ∧ p.1 ≤ 30
  kr : kraft ls ≤ 2 ^ 30
section
variable {ls : List (Int × Int)}
theorem srt_perm (ls : List (Int × Int)) : (ls.mergeSort pLe).Perm ls := List.mergeSort_perm _ _
theorem srt_up (ls : List (Int × Int)) : (ls.mergeSort pLe).Pairwise (fun p q => p.1.toNat ≤ q.1.toNat) :=
  (List.pairwise_mergeSort pLe_trans pLe_total ls).imp fun {a b} h => by
    unfold pLe at h
    rw [decide_eq_true_eq] at h
    omega
theorem srt_lng (F : Fine10 ls) : ∀ p ∈ ls.mergeSort pLe, 0 ≤ p.1.toNat ∧ p.1.toNat ≤ 30 := fun p hp => by
  have := F.lng p ((srt_perm ls).mem_iff.mp hp)
  omega
theorem srt_kr (F : Fine10 ls) : kraft (ls.mergeSort pLe) ≤ 2 ^ 30 := by
  have e : kraft (ls.mergeSort pLe) = kraft ls := by
    unfold kraft
    exact List.Perm.sum_nat ((srt_perm ls).map _)
  rw [e]
  exact F.kr
theorem wds_fit (F : Fine10 ls) : ∀ w ∈ wds ls, 1 ≤ w.1 ∧ w.1 ≤ 30 ∧ w.2.1 < 2 ^ w.1 := fun w hw => by
  obtain ⟨_, a2, _, a4⟩ := from_up _ 0 0 (srt_lng F) (srt_up ls) w hw
  have hk := srt_kr F
  have hm : (w.1, w.2.2) ∈ (ls.mergeSort pLe).map fun p => (p.1.toNat, p.2) := by
    rw [← from_map _ 0 0]
    exact List.mem_map.mpr ⟨w, hw, rfl⟩
  obtain ⟨p, hp, ep⟩ := List.mem_map.mp hm
  have lp := F.lng p ((srt_perm ls).mem_iff.mp hp)
  have e1 : p.1.toNat = w.1 := congrArg Prod.fst ep
  refine ⟨by omega, a2, ?_⟩
  have e2 : 2 ^ w.1 * 2 ^ (30 - w.1) = 2 ^ 30 := by rw [← Nat.pow_add]; congr 1; omega
  have a5 : (w.2.1 + 1) * 2 ^ (30 - w.1) ≤ 2 ^ w.1 * 2 ^ (30 - w.1) := by
    rw [Nat.add_mul, Nat.one_mul]
    refine Nat.le_trans a4 ?_
    rw [Nat.zero_mul, Nat.zero_add]
    exact Nat.le_trans hk (Nat.le_of_eq e2.symm)
  have := Nat.le_of_mul_le_mul_right a5 (Nat.pow_pos (by decide))
  omega
theorem wds_pair (F : Fine10 ls) : (wds ls).Pairwise fun v w => v.1 ≤ w.1 ∧ up v + 2 ^ (30 - v.1) ≤ up w := from_pair _ 0 0 (srt_lng F) (srt_up ls)
/-- no two words have the same number of bits and the same number -/
theorem wds_nod (F : Fine10 ls) : (wds ls).Pairwise fun v w => ¬ (v.1 = w.1 ∧ v.2.1 = w.2.1) := (wds_pair F).imp fun {v w} h k => by
  have h2 := h.2
  unfold up at h2
  rw [k.1, k.2] at h2
  have : 0 < 2 ^ (30 - w.1) := Nat.pow_pos (by decide)
  omega
theorem find_of (F : Fine10 ls) {w : Wd} (hw : w ∈ wds ls) : findW (wds ls) w.1 w.2.1 = some w.2.2 := by
  have key : ∀ (W : List Wd), W.Pairwise (fun v w => ¬ (v.1 = w.1 ∧ v.2.1 = w.2.1)) → w ∈ W → findW W w.1 w.2.1 = some w.2.2 := fun W nd hw => by
    induction W with
    | nil => cases hw
    | cons v W ih =>
      obtain ⟨n1, n2⟩ := List.pairwise_cons.mp nd
      unfold findW
      rcases List.mem_cons.mp hw with rfl | h
      · rw [List.find?_cons_of_pos (by rw [decide_eq_true_eq]; exact ⟨rfl, rfl⟩)]
        rfl
      · rw [List.find?_cons_of_neg (by rw [decide_eq_true_eq]; exact n1 w h)]
        exact ih n2 h
  exact key _ (wds_nod F) hw
/-- what a word begins with is no word -/
theorem find_none (F : Fine10 ls) {w : Wd} (hw : w ∈ wds ls) {j : Nat} (hj : j < w.1) : findW (wds ls) j (w.2.1 / 2 ^ (w.1 - j)) = none := by
  cases e : findW (wds ls) j (w.2.1 / 2 ^ (w.1 - j)) with
  | none => rfl
  | some b =>
    exfalso
    unfold findW at e
    obtain ⟨v, e1, _⟩ := Option.map_eq_some_iff.mp e
    have hv := List.mem_of_find?_eq_some e1
    have k := List.find?_some e1
    rw [decide_eq_true_eq] at k
    obtain ⟨k1, k2⟩ := k
    obtain ⟨_, w30, _⟩ := wds_fit F w hw
    have nvw : v ≠ w := fun z => by rw [z] at k1; omega
    have two : (v.1 ≤ w.1 ∧ up v + 2 ^ (30 - v.1) ≤ up w) ∨ (w.1 ≤ v.1 ∧ up w + 2 ^ (30 - w.1) ≤ up v) := by
      have key : ∀ (W : List Wd), W.Pairwise (fun v w => v.1 ≤ w.1 ∧ up v + 2 ^ (30 - v.1) ≤ up w) → v ∈ W → w ∈ W → (v.1 ≤ w.1 ∧ up v + 2 ^ (30 - v.1) ≤ up w) ∨ (w.1 ≤ v.1 ∧ up w + 2 ^ (30 - w.1) ≤ up v) := fun W pw hv hw => by
        induction W with
        | nil => cases hv
        | cons u W ih =>
          obtain ⟨n1, n2⟩ := List.pairwise_cons.mp pw
          rcases List.mem_cons.mp hv with rfl | hv2
          · rcases List.mem_cons.mp hw with rfl | hw2
            · exact absurd rfl nvw
            · exact .inl (n1 w hw2)
          · rcases List.mem_cons.mp hw with rfl | hw2
            · exact .inr (n1 v hv2)
            · exact ih n2 hv2 hw2
      exact key _ (wds_pair F) hv hw
    rcases two with ⟨t1, t2⟩ | ⟨t1, t2⟩
    · unfold up at t2
      rw [k2, k1] at t2
      have e3 : 2 ^ (30 - j) = 2 ^ (w.1 - j) * 2 ^ (30 - w.1) := pow_split (by omega) w30
      rw [e3, ← Nat.mul_assoc] at t2
      have lt := Nat.div_add_mod w.2.1 (2 ^ (w.1 - j))
      have ml := Nat.mod_lt w.2.1 (show 0 < 2 ^ (w.1 - j) from Nat.pow_pos (by decide))
      have t3 : (w.2.1 / 2 ^ (w.1 - j) * 2 ^ (w.1 - j) + 2 ^ (w.1 - j)) * 2 ^ (30 - w.1) ≤ w.2.1 * 2 ^ (30 - w.1) := by
        rw [Nat.add_mul]
        exact t2
      have t4 := Nat.le_of_mul_le_mul_right t3 (Nat.pow_pos (by decide))
      rw [Nat.mul_comm (w.2.1 / 2 ^ (w.1 - j))] at t4
      omega
    · omega
end
theorem Head.fine {S : List Int} {m p : Nat} {ls : List (Int × Int)} (h : Head S m p ls) : Fine10 ls := by
  refine ⟨h.lng, ?_⟩
  have hl := h.len_ls
  rcases Nat.lt_or_ge 1 m with c | c
  · rw [h.sum c]
    exact Nat.le_refl _
  · cases e : ls with
    | nil => unfold kraft; decide
    | cons x r =>
      rw [e] at hl
      have er : r = [] := List.eq_nil_of_length_eq_zero (by rw [List.length_cons] at hl; omega)
      have x1 := h.one (by rw [List.length_cons] at hl; omega) x (by rw [e]; exact List.mem_cons_self)
      subst er
      unfold kraft
      rw [List.map_cons, List.map_nil, List.sum_cons, List.sum_nil, x1]
      decide
end Fc

namespace Fc
open PySem PySem.Spec L2 PyProof.Rows
variable [LamNames]
theorem hu65 {k : Nat} {A : Around} (r : Room k A) : A.units + 65 < cLine := by have := r.un; omega
/-! ### sorted(d), d a dict of texts, however many -/
section
variable {X : Cx}
def rSortedAny : List V → Hp → VK → Prop := fun vs H Q => ∃ (D : Addr) (es : List (Key × V)) (names : List Str), vs = [.ref D] ∧ Rd H D (.dK es) ∧ es.map (·.1) = names.map Sum.inr ∧ names.length ≤ 100000 ∧
  ∀ (ys : List Str) (p : Addr), ys.Perm names → sortedS ys = true → H p = none → Q (.ref p) (upd H p (.lst (ys.map V.str)))
theorem keys_strs {ws : List (Key × Value)} {names : List Str} (hk : ws.map (·.1) = names.map Sum.inr) {got : List Value} (lg : got.length = names.length)
    (at_ : ∀ (i : Nat) (u : Value), got[i]? = some u → ∃ (k : Key) (x : Value), ws[i]? = some (k, x) ∧ keyIs k u = true) : StrsAre got names :=
  strs_at lg fun i u hu => by
    obtain ⟨k, x, f1, f2⟩ := at_ i u hu
    have f3 : (ws.map (·.1))[i]? = some k := by rw [List.getElem?_map, f1]; rfl
    rw [hk, List.getElem?_map, Option.map_eq_some_iff] at f3
    obtain ⟨y, f4, rfl⟩ := f3
    obtain ⟨t, f5⟩ := Value.isStrOf_shape (x := y) (v := u) f2
    exact ⟨y, t, f4, f5⟩
theorem call_sortedAny (calm : X.calm = true) : CallR X (.builtin "sorted") rSortedAny := by
  intro pins s σ H vs us Q I r h
  obtain ⟨D, es, names, rfl, hD, hn, few, fin⟩ := h
  obtain rfl := Vals.ref1 r
  obtain ⟨_, lo, ws, rel, dd⟩ := dk_rd I.hok hD
  obtain ⟨ep, at_⟩ := dd.dictAt
  have hk : ws.map (·.1) = names.map Sum.inr := rel.keys.symm.trans hn
  have lw : ws.length = names.length := by simpa using congrArg List.length hk
  have big : ∀ {n : Nat}, n ≤ 100000 → n ≤ sizeLine := fun h => by rw [sizeLine_eq]; omega
  refine Calls.call_function_entry kind_sorted plain_sorted entry_sorted (args_sorted1 _) ?_
  unfold Builtin.«sorted»
  refine wpAny_bind (m := checkCount "sorted" 1 1 _) (wpAny_pure (wpAny_bind ?_))
  refine PySem.W.kdu_collect (A := X.A.in1) (PySem.W.kdl_dict (knd := mixKind X.prog X.w) (kvs := ws) (ep := ep) lo) (I.ok.hd calm) at_ (by rw [lw]; exact big few) fun g tk got keep its => ?_
  have lg : got.toList.length = names.length := by rw [Array.length_toList, its.1, lw]
  have st : StrsAre got.toList names := keys_strs hk lg fun i u hu => its.2 i u (by rw [← Array.getElem?_toList]; exact hu)
  have J : Inv X pins σ H { s with heap := g, toks := tk } := I.kept keep
  refine wpAny_bind (wpAny_newList ?_ (by rw [lg]; exact big few))
  have new : (g.push (seqObj "list" got.toList.toArray 0)).get? g.objs.size = some (seqObj "list" got.toList.toArray 0) := Heap.get?_push_size _ rfl
  show wpAny _ _ _ _ _ { s with heap := g.push (seqObj "list" got.toList.toArray 0), toks := tk }
  refine wpAny_bind (wpAny_holding (wpAny_call_entry slot_list_sort ⟨_, new, rfl⟩ entry_list_sort ?_ (args_list_sort _)))
  refine list_sort_treeKAny strKind_oneLt (s := { s with heap := g.push (seqObj "list" got.toList.toArray 0), toks := tk }) new st.keysOf (fun a b rest e => keyKind_strs (by rw [← e]; exact st)) (by rw [lg]; exact big few) fun z zp zs => ⟨_, rfl, ?_⟩
  obtain ⟨ys, y1, y2, y3⟩ := sorted_out_str st zp zs
  obtain ⟨ep2, there⟩ := sortedHeap_at (vs := got.toList) (out := (arrOf z).map (·.2)) new
  have ly : (ys.map V.str).length ≤ sizeLine := by rw [List.length_map, y2.length_eq]; exact big few
  have old : ∀ b u, g.get? b = some u → (sortedHeap (g.push (seqObj "list" got.toList.toArray 0)) g.objs.size got.toList ((arrOf z).map (·.2))).get? b = some u := fun b u e => by
    have lb := Heap.lt_size e
    rw [sortedHeap_old (Nat.ne_of_lt lb) (by rw [size_push']; exact Nat.lt_succ_of_lt lb)]
    exact Heap.get?_push_of_some _ e
  exact wpAny_pure ⟨_, rfl, .ref g.objs.size, upd H g.objs.size (.lst (ys.map V.str)), J.laid (t' := tk) old (Nat.le_refl _) ⟨ly, ((arrOf z).map (·.2)).toList, ep2, vals_of_strs y1, by rw [Array.toArray_toList]; exact there⟩, rfl, fin ys _ y2 y3 (J.hok.fresh (Nat.le_refl _))⟩
end
end Fc

namespace Fc
open PySem PySem.Spec L2 PyProof.Rows
variable [LamNames]
/-! ### sorted(l), l a list of data, all of one shape, however many -/
section
variable {X : Cx}
theorem each_fst {β : Type} : ∀ {ps : List (V × β)} {us : List Value}, Vals (ps.map Prod.fst) us → PySem.W.EachIs (fun u x => RelV x.1 u) us ps
  | [], _, .nil => .nil
  | _ :: _, _, .cons h t => .cons h (each_fst t)
theorem fst_each {β : Type} : ∀ {ps : List (V × β)} {us : List Value}, PySem.W.EachIs (fun u x => RelV x.1 u) us ps → Vals (ps.map Prod.fst) us
  | _, _, .nil => .nil
  | _, _, .cons h t => .cons h (fst_each t)
theorem each_in {α β : Type} {R R' : α → β → Prop} : ∀ {us : List α} {ps : List β}, PySem.W.EachIs R us ps → (∀ u x, x ∈ ps → R u x → R' u x) → PySem.W.EachIs R' us ps
  | _, _, .nil, _ => .nil
  | _, _, .cons h t, k => .cons (k _ _ List.mem_cons_self h) (each_in t fun u x hx => k u x (List.mem_cons_of_mem _ hx))
def rSortD (K : PySem.W.Frag) : List V → Hp → VK → Prop := fun vs H Q => ∃ (β : Type) (enc : β → PyData) (a : Addr) (ps : List (V × β)), vs = [.ref a] ∧ SqL K H a (ps.map Prod.fst) ∧ (∀ x ∈ ps, Dp K H x.1 (enc x.2)) ∧
  PySem.W.AllAlike (ps.map fun x => enc x.2) ∧ PySem.W.Sortable (ps.map fun x => enc x.2) ∧ (∀ x ∈ ps, (enc x.2).depth ≤ 60) ∧
  ∀ p, H p = none → Q (.ref p) (upd H p (.lst ((ps.mergeSort (PySem.W.dataLe false fun x => enc x.2)).map Prod.fst)))
theorem cr_sortedD (hu : X.A.units + 65 < cLine) : CallR X (.builtin "sorted") (rSortD X.K) := by
  intro pins s σ H vs us Q I r h
  obtain ⟨β, enc, a, ps, rfl, hs, dp, al, so, dd, fin⟩ := h
  obtain rfl := Vals.ref1 r
  obtain ⟨its, rv, hl, hz⟩ := I.list hs
  rw [List.length_map] at hz
  refine PySem.W.sorted_data (R := fun u (x : V × β) => RelV x.1 u) (enc := fun x => enc x.2) hl.isList (each_fst rv) (each_in (each_fst rv) fun u x hx ru => Dp.reads I _ _ _ (dp x hx) ru) al so hz (fun x hx => ?_) fun out lo eo => ?_
  · have := dd x hx
    omega
  · have old : ∀ b u, s.heap.get? b = some u → (sortedAll s.heap its (List.toArray out)).get? b = some u := fun b u e => sortedAll_old e
    have new : ∃ c, (sortedAll s.heap its (List.toArray out)).get? (s.heap.objs.size + 1) = some (seqObj "list" (List.toArray out) c) := sortedAll_at _ _ _
    obtain ⟨c, new⟩ := new
    refine ⟨.ref _, upd H (s.heap.objs.size + 1) (.lst ((ps.mergeSort (PySem.W.dataLe false fun x => enc x.2)).map Prod.fst)), I.laid (t' := s.toks) old (Nat.le_succ _) ⟨?_, out, c, fst_each eo, new⟩, rfl, fin _ (I.hok.fresh (Nat.le_succ _))⟩
    rw [List.length_map, List.length_mergeSort]
    exact hz
/-- what comes out rises -/
theorem data_up {β : Type} (enc : β → PyData) (l : List β) : (l.mergeSort (PySem.W.dataLe false enc)).Pairwise (fun a b => PySem.W.dataLe false enc a b = true) := PySem.W.sort_pairwise (PySem.W.sortLe_total _ _ _) l
theorem data_perm {β : Type} (enc : β → PyData) (l : List β) : (l.mergeSort (PySem.W.dataLe false enc)).Perm l := List.mergeSort_perm _ _
/-- two texts in a row: the first ones rise -/
theorem le_ss {β : Type} {x y : β → Str} {a b : β} (h : PySem.W.dataLe false (fun b => .tuple [.str (x b), .str (y b)]) a b = true) : (x a).cps.toList ≤ (x b).cps.toList := by
  rw [PySem.W.dataLe_eq] at h
  have h2 : (!PySem.W.dataLt (.tuple [.str (x b), .str (y b)]) (.tuple [.str (x a), .str (y a)])) = true := h
  rw [PySem.W.dataLt_pair (by simp [PySem.W.alike]) (by simp [PySem.W.alike]), PySem.W.dataLt_str, PySem.W.dataLt_str] at h2
  by_cases c : PyData.eqv (PyData.str (x b)) (PyData.str (x a)) = true
  · have e : x b = x a := by simpa [PyData.eqv] using c
    rw [e]
    exact List.le_refl _
  · rw [if_neg c] at h2
    have n : ¬ (x b).cps.toList < (x a).cps.toList := fun z => by rw [decide_eq_true z] at h2; cases h2
    exact List.not_lt.mp n
end
end Fc

namespace Fc
open PySem PySem.Spec L2 PyProof.Rows
variable [LamNames]
/-! ### a comprehension over a list with any target, its row known by what it stands for -/
theorem lcT_list {K : PySem.W.Frag} {a : Addr} {α : Type} {xs : List V} {es : List α} {g : TG} {te : TE} {vs : List Nat} {σ : L2.St} {H1 : Hp} {D : Addr} {Qd : Hp → Prop} (G : α → V → Hp → Prop) (nD : H1 D = none) (hs : SqL K H1 a xs) (hl : es.length = xs.length) (hz : es.length ≤ sizeLine)
    (gk : ∀ e y H H', Same H H' → G e y H → G e y H') (gu : ∀ e y H ys zs, H D = some (.lst ys) → e ∈ es → G e y H → G e y (upd H D (.lst zs)))
    (turn : ∀ (i : Nat) (e : α) (x : V) (H : Hp) (R : V → Hp → Prop) (N : Hp → Prop), es[i]? = some e → xs[i]? = some x → Same H1 H → (∀ y H', Same H H' → G e y H' → R y H') → g x (wipe σ vs) H fun σ2 H2 => wipe σ2 vs = wipe σ vs ∧ tYes σ2 H2 fun b H3 => if b = true then te σ2 H3 R else N H3)
    (hd : ∀ ys H', Al2 (fun e y => G e y H') es ys → Same H1 H' → H' D = some (.lst ys) → Qd H') :
    ∃ W : Nat → Nat → Hp → Prop, (∃ m, W 0 m (upd H1 D (.lst []))) ∧ ∀ i m H, W i m H →
      ((Itl K a).stop i H ∧ Qd H) ∨ ((Itl K a).go i H ∧ ∃ Nx : Hp → Prop, (∀ H', Nx H' → ∃ m', m' < m ∧ W (i + 1) m' H') ∧ ∀ x H', (Itl K a).yld i H x H' → g x (wipe σ vs) H' fun σ2 H2 => wipe σ2 vs = wipe σ vs ∧ tYes σ2 H2 fun b H3 =>
        if b = true then te σ2 H3 fun y H4 => ∃ acc, H4 D = some (.lst acc) ∧ acc.length < sizeLine ∧ Nx (upd H4 D (.lst (acc ++ [y]))) else Nx H3) := by
  refine ⟨fun i m H => m = es.length - i ∧ i ≤ es.length ∧ Same H1 H ∧ ∃ ys, H D = some (.lst ys) ∧ Al2 (fun e y => G e y H) (es.take i) ys, ⟨es.length, rfl, Nat.zero_le _, grow nD, [], upd_same, .nil⟩, ?_⟩
  rintro i m H ⟨rfl, hi, sm, ys, hD, al⟩
  have q := sm.seq hs
  by_cases lt : i < es.length
  · have lx : i < xs.length := by omega
    have he : es[i]? = some es[i] := List.getElem?_eq_getElem lt
    refine .inr ⟨⟨xs, xs[i], q, List.getElem?_eq_getElem lx⟩, fun H' => Same H1 H' ∧ ∃ ys, H' D = some (.lst ys) ∧ Al2 (fun e y => G e y H') (es.take (i + 1)) ys, fun H' p' => ⟨es.length - (i + 1), by omega, rfl, lt, p'⟩, fun x H' y => ?_⟩
    obtain ⟨e, y⟩ := y
    subst e
    refine turn i es[i] x _ _ _ he (y xs q) sm fun z H4 s4 gz => ?_
    have hD4 := s4 _ _ hD
    refine ⟨ys, hD4, ?_, (sm.trans s4).over nD (.lst hD4), _, upd_same, ?_⟩
    · rw [al.length, List.length_take]
      omega
    · rw [List.take_add_one, he, Option.toList_some]
      have al2 : Al2 (fun u v => G u v (upd H4 D (.lst (ys ++ [z])))) (es.take i) ys := (al_mem al).mono fun u v k => gu _ _ _ _ _ hD4 (List.mem_of_mem_take k.2) (gk _ _ _ _ s4 k.1)
      exact Al2.snoc (R := fun u v => G u v (upd H4 D (.lst (ys ++ [z])))) (gu _ _ _ _ _ hD4 (List.getElem_mem lt) gz) al2
  · have e : i = es.length := by omega
    rw [e, List.take_length] at al
    exact .inl ⟨⟨xs, q, by omega⟩, hd ys H al sm hD⟩
end Fc

namespace Fc
open PySem PySem.Spec L2 PyProof.Rows
variable [LamNames]
/-! ### a dict that is walked over, and let go again -/
theorem sm_unlock {H H' : Hp} {d : Addr} {kvs : List (Key × V)} {o : Obj} (e : H d = some (.dK kvs)) (s : Same (upd H d (.frz o (.dK kvs))) H') : Same H (upd H' d (.dK kvs)) := by
  have ed : H' d = some (.frz o (.dK kvs)) := s _ _ upd_same
  refine ⟨fun b u h nt => ?_, fun b ps h => ?_⟩
  · by_cases z : b = d
    · subst z
      rw [upd_same]
      exact e.symm.trans h
    · rw [upd_ne z]
      exact s.get b u (by rw [upd_ne z]; exact h) nt
  · have z : b ≠ d := fun z => by rw [z, e] at h; cases h
    obtain ⟨ps', h1, h2, h3⟩ := s.tab b ps (by rw [upd_ne z]; exact h)
    refine ⟨ps', by rw [upd_ne z]; exact h1, h2, fun q lq nm pos cv hc => ?_⟩
    have nm2 : Named (upd H d (.frz o (.dK kvs))) ps q := fun pos cv hc => by
      obtain ⟨c, e1, e2⟩ := nm pos cv hc
      exact ⟨c, e1, by rw [upd_ne fun y => by rw [y, e] at e2; cases e2]; exact e2⟩
    obtain ⟨c, e1, e2⟩ := h3 q lq nm2 pos cv hc
    exact ⟨c, e1, by rw [upd_ne fun y => by rw [y, ed] at e2; cases e2]; exact e2⟩
/-- whoever did not know d sees nothing of its lock -/
theorem sm_lock {G H : Hp} {d : Addr} {u : HO} (s : Same G H) (n : G d = none) (nc : NC (H d)) : Same G (upd H d u) := s.over n nc
theorem unT {K : PySem.W.Frag} {H : Hp} {d t : Addr} {xs : List V} {kvs : List (Key × V)} {o : Obj} {v : HO} (e : H d = some (.frz o (.dK kvs))) (h : SqT K H t xs) : SqT K (upd H d v) t xs := by
  rcases h with (h | ⟨o2, h⟩) | h
  · refine .inl (.inl ?_)
    rw [upd_ne fun z => by rw [z, e] at h; cases h]
    exact h
  · refine .inl (.inr ⟨o2, ?_⟩)
    rw [upd_ne fun z => by rw [z, e] at h; cases h]
    exact h
  · exact .inr h
/-! ### rows of ints -/
def Pr (K : PySem.W.Frag) (p : Int × Int) (y : V) (H : Hp) : Prop := ∃ t, y = .ref t ∧ SqT K H t [.int p.1, .int p.2]
def Tr (K : PySem.W.Frag) (w : Wd) (y : V) (H : Hp) : Prop := ∃ t, y = .ref t ∧ SqT K H t [.int (w.1 : Int), .int (w.2.1 : Int), .int w.2.2]
def encP (p : Int × Int) : PyData := .tuple [.int p.1, .int p.2]
theorem Pr.keep {K : PySem.W.Frag} {p : Int × Int} {y : V} {H H' : Hp} (h : Pr K p y H) (s : Same H H') : Pr K p y H' := let ⟨t, e, k⟩ := h; ⟨t, e, keepT s k⟩
theorem Tr.keep {K : PySem.W.Frag} {p : Wd} {y : V} {H H' : Hp} (h : Tr K p y H) (s : Same H H') : Tr K p y H' := let ⟨t, e, k⟩ := h; ⟨t, e, keepT s k⟩
theorem Pr.over {K : PySem.W.Frag} {p : Int × Int} {y : V} {H : Hp} {a : Addr} {o : HO} (h : Pr K p y H) (w : Wr H a) : Pr K p y (upd H a o) := let ⟨t, e, k⟩ := h; ⟨t, e, overT w k⟩
theorem Tr.over {K : PySem.W.Frag} {p : Wd} {y : V} {H : Hp} {a : Addr} {o : HO} (h : Tr K p y H) (w : Wr H a) : Tr K p y (upd H a o) := let ⟨t, e, k⟩ := h; ⟨t, e, overT w k⟩
theorem Pr.dp {K : PySem.W.Frag} {p : Int × Int} {y : V} {H : Hp} (h : Pr K p y H) : Dp K H y (encP p) := let ⟨t, e, k⟩ := h; e ▸ .tup k (.cons (.int _) (.cons (.int _) .nil))
/-- sorted pairs of ints -/
theorem sort_pr (ps : List (V × (Int × Int))) : (ps.mergeSort (PySem.W.dataLe false fun x => encP x.2)).map Prod.snd = (ps.map Prod.snd).mergeSort pLe := by
  have e : PySem.W.dataLe false (fun x : V × (Int × Int) => encP x.2) = fun p q => pLe p.2 q.2 := by
    have := PySem.W.dataLe_ii (β := V × (Int × Int)) (fun x => x.2.1) (fun x => x.2.2)
    exact this
  rw [e]
  exact PySem.W.sort_maps Prod.snd fun _ _ _ _ => rfl
theorem pairs_pr {K : PySem.W.Frag} {H : Hp} {ls : List (Int × Int)} {ys : List V} (al : Al2 (fun p y => Pr K p y H) ls ys) : ∃ ps : List (V × (Int × Int)), ps.map Prod.fst = ys ∧ ps.map Prod.snd = ls ∧ ∀ x ∈ ps, Pr K x.2 x.1 H := by
  obtain ⟨qs, q1, q2, q3⟩ := al_pairs al
  refine ⟨qs.map Prod.swap, by rw [← q2, List.map_map]; rfl, by rw [← q1, List.map_map]; rfl, fun x hx => ?_⟩
  obtain ⟨y, hy, rfl⟩ := List.mem_map.mp hx
  exact q3 y hy
theorem sort_ok {ps : List (V × (Int × Int))} : PySem.W.AllAlike (ps.map fun x => encP x.2) ∧ PySem.W.Sortable (ps.map fun x => encP x.2) ∧ ∀ x ∈ ps, (encP x.2).depth ≤ 60 :=
  ⟨PySem.W.AllAlike.of fun b b' => by simp [encP, PySem.W.alike, PySem.W.alikeAll], PySem.W.Sortable.tuples fun b => ⟨_, _, rfl⟩, fun x _ => by simp [encP, PyData.depth, PyData.depthAll]⟩
/-- the dict of lengths -/
def dL (ls : List (Int × Int)) : List (Key × V) := ls.map fun p => (Sum.inl p.2, V.int p.1)
theorem dL_get {ls : List (Int × Int)} (nd : (ls.map (·.2)).Nodup) {p : Int × Int} (h : p ∈ ls) : valV (dL ls) (Sum.inl p.2) = some (V.int p.1) := by
  induction ls with
  | nil => cases h
  | cons x ls ih =>
    rw [List.map_cons] at nd
    obtain ⟨n1, n2⟩ := List.nodup_cons.mp nd
    rcases List.mem_cons.mp h with rfl | h2
    · exact valV_pos rfl
    · have ne : x.2 ≠ p.2 := fun z => n1 (by rw [z]; exact List.mem_map.mpr ⟨p, h2, rfl⟩)
      have := ih n2 h2
      unfold valV at this ⊢
      show Option.map _ (List.find? _ ((Sum.inl x.2, V.int x.1) :: dL ls)) = _
      rw [List.find?_cons_of_neg (by simpa using fun z => ne z)]
      exact this
theorem dL_at {ls : List (Int × Int)} {i : Nat} {k : Key} {v : V} (h : (dL ls)[i]? = some (k, v)) : ∃ p, ls[i]? = some p ∧ k = Sum.inl p.2 ∧ v = V.int p.1 := by
  unfold dL at h
  rw [List.getElem?_map] at h
  obtain ⟨p, hp, e⟩ := Option.map_eq_some_iff.mp h
  cases e
  exact ⟨p, hp, rfl, rfl⟩
end Fc

namespace Fc
open PySem PySem.Spec L2 PyProof.Rows
/-! ### what is read of the head -/
def lsA (S : List Int) (p0 j : Nat) : List (Int × Int) := (List.range j).map fun i => (S.getD (p0 + 2 * i + 1) 0, S.getD (p0 + 2 * i) 0)
theorem lsA_len (S : List Int) (p0 j : Nat) : (lsA S p0 j).length = j := by unfold lsA; rw [List.length_map, List.length_range]
theorem lsA_succ (S : List Int) (p0 j : Nat) : lsA S p0 (j + 1) = lsA S p0 j ++ [(S.getD (p0 + 2 * j + 1) 0, S.getD (p0 + 2 * j) 0)] := by
  unfold lsA
  rw [List.range_succ, List.map_append]
  rfl
theorem lsA_take {S : List Int} {p0 j m : Nat} (h : j ≤ m) : lsA S p0 j = (lsA S p0 m).take j := by
  unfold lsA
  rw [← List.map_take, List.take_range, Nat.min_eq_left h]
structure Pre (S : List Int) (m p0 : Nat) : Prop where
  r : resOf S 0 = .ok (m : Int) p0
  len : p0 + 2 * m ≤ S.length
  rise : ((lsA S p0 m).map (·.2)).Pairwise (· < ·)
theorem Head.pre {S : List Int} {m p : Nat} {ls : List (Int × Int)} (h : Head S m p ls) : Pre S m p ∧ ls = lsA S p m := ⟨⟨h.r, h.len, by have := h.rise; rw [h.isl] at this; exact this⟩, h.isl⟩
theorem Pre.head {S : List Int} {m p : Nat} (h : Pre S m p) (lng : ∀ x ∈ lsA S p m, 1 ≤ x.1 ∧ x.1 ≤ 30) (one : m = 1 → ∀ x ∈ lsA S p m, x.1 = 1) (sum : 1 < m → kraft (lsA S p m) = 2 ^ 30) : Head S m p (lsA S p m) := ⟨h.r, h.len, rfl, h.rise, lng, one, sum⟩
theorem Pre.one {S : List Int} {m m' p p' : Nat} (h : Pre S m p) (k : Pre S m' p') : m = m' ∧ p = p' := by
  have e := h.r.symm.trans k.r
  injection e with e1 e2
  exact ⟨Int.ofNat.inj e1, e2⟩
theorem Pre.up {S : List Int} {m p0 i k : Nat} (h : Pre S m p0) (hi : i < k) (hk : k < m) : S.getD (p0 + 2 * i) 0 < S.getD (p0 + 2 * k) 0 := by
  have r := List.pairwise_iff_getElem.mp h.rise i k (by rw [List.length_map, lsA_len]; omega) (by rw [List.length_map, lsA_len]; omega) hi
  simpa [lsA] using r
theorem putK_new {κ : Type} [DecidableEq κ] {kvs : List (κ × V)} {k : κ} {v : V} (h : ∀ x ∈ kvs, x.1 ≠ k) : putK kvs k v = kvs ++ [(k, v)] := by
  unfold putK
  rw [if_neg]
  intro z
  obtain ⟨x, hx, e⟩ := List.any_eq_true.mp z
  exact h x hx (by simpa using e)
theorem dL_put {ls : List (Int × Int)} {l b : Int} (h : ∀ p ∈ ls, p.2 ≠ b) : putK (dL ls) (Sum.inl b) (V.int l) = dL (ls ++ [(l, b)]) := by
  rw [putK_new]
  · unfold dL
    rw [List.map_append]
    rfl
  · intro x hx z
    unfold dL at hx
    obtain ⟨p, hp, rfl⟩ := List.mem_map.mp hx
    exact h p hp (Sum.inl.inj z)
/-- bytes that rise are few -/
theorem rise_few : ∀ (bs : List Int) (lo hi : Int), bs.Pairwise (· < ·) → (∀ b ∈ bs, lo ≤ b ∧ b < hi) → lo ≤ hi → (bs.length : Int) ≤ hi - lo
  | [], lo, hi, _, _, h => by simp; omega
  | b :: r, lo, hi, p, k, h => by
    obtain ⟨p1, p2⟩ := List.pairwise_cons.mp p
    have kb := k b List.mem_cons_self
    have := rise_few r (b + 1) hi p2 (fun x hx => ⟨by have := p1 x hx; omega, (k x (List.mem_cons_of_mem _ hx)).2⟩) (by omega)
    rw [List.length_cons]
    omega
end Fc

namespace Fc
open PySem PySem.Spec L2 PyProof.Rows GxR GenW
variable [LamNames]
/-- the sum of a number for each key of a dict that is walked over -/
theorem gwN_keys {J : It} {n : Nat} {G0 : Hp → Prop} {Y : Nat → Hp → V → Hp → Prop} (w : Walk J n G0 Y) {te : TE} {vs : List Nat} {σ : L2.St} {H1 : Hp} {j : Nat} {fin : Int → Hp → Prop} (f : Nat → Int) (hG : ∀ H, Same H1 H → G0 H) (hw : ∀ x, wipe ((wipe σ vs).set j (some x)) vs = wipe σ vs)
    (lim : ∀ i, i < n → 0 ≤ f i ∧ f i ≤ 2 ^ 40) (few : n ≤ 100000)
    (item : ∀ (i : Nat) (x : V) (H H' : Hp) (R : VK), i < n → Same H1 H → Y i H x H' → (∀ H4, Same H H4 → R (.int (f i)) H4) → te ((wipe σ vs).set j (some x)) H' R)
    (hd : ∀ H', Same H1 H' → fin (((List.range n).map f).sum) H') :
    ∃ W : Nat → Nat → Int → Hp → Prop, (∃ m, W 0 m 0 H1) ∧ GWalkN J (gName j) tYes te vs σ fin W := by
  have bd : ∀ i, i ≤ n → 0 ≤ ((List.range i).map f).sum ∧ ((List.range i).map f).sum ≤ (i : Int) * 2 ^ 40 := fun i => by
    induction i with
    | zero => intro _; exact ⟨by simp, by simp⟩
    | succ i ih =>
      intro hi
      have h1 := ih (by omega)
      have h2 := lim i (by omega)
      rw [List.range_succ, List.map_append, List.sum_append]
      simp only [List.map_cons, List.map_nil, List.sum_cons, List.sum_nil]
      constructor
      · omega
      · have : ((i + 1 : Nat) : Int) * 2 ^ 40 = (i : Int) * 2 ^ 40 + 2 ^ 40 := by rw [Int.natCast_add, Int.add_mul]; rfl
        omega
  refine ⟨fun i m N H => m = n - i ∧ i ≤ n ∧ Same H1 H ∧ N = ((List.range i).map f).sum, ⟨n, rfl, Nat.zero_le _, Same.refl _, rfl⟩, ?_⟩
  rintro i m N H ⟨rfl, hi, sm, rfl⟩
  by_cases lt : i < n
  · refine .inr ⟨w.goes i H lt (hG H sm), fun N' H' => Same H1 H' ∧ N' = ((List.range (i + 1)).map f).sum, fun N' H' p => ⟨n - (i + 1), by omega, rfl, lt, p.1, p.2⟩, fun x H' yl => ?_⟩
    refine ⟨hw x, ?_⟩
    unfold tYes
    dsimp only
    rw [if_pos rfl]
    have es : ((List.range (i + 1)).map f).sum = ((List.range i).map f).sum + f i := by
      rw [List.range_succ, List.map_append, List.sum_append]
      simp
    refine item i x H H' _ lt sm (w.yields i H x H' lt (hG H sm) yl) fun H4 s4 => ⟨f i, rfl, ?_, ?_, sm.trans s4, es.symm⟩
    · have := lim i lt
      constructor <;> omega
    · have h1 := bd (i + 1) lt
      rw [es] at h1
      have : ((i + 1 : Nat) : Int) * 2 ^ 40 ≤ 100000 * 2 ^ 40 := Int.mul_le_mul_of_nonneg_right (by omega) (by decide)
      have e40 : (100000 : Int) * 2 ^ 40 < 2 ^ 63 := by decide
      constructor
      · omega
      · omega
  · have e : i = n := by omega
    subst e
    exact .inl ⟨w.stops H (hG H sm), hd H sm⟩
end Fc

namespace Fc
open PySem PySem.Spec L2 PyProof.Rows
variable [LamNames]
/-! ### a number's bits as a text -/
def bitsT : Nat → Nat → List Nat
  | 0, _ => []
  | l + 1, n => bitsT l (n / 2) ++ [48 + n % 2]
theorem bitsT_len : ∀ (l n : Nat), (bitsT l n).length = l
  | 0, _ => rfl
  | l + 1, n => by rw [bitsT, List.length_append, bitsT_len l]; rfl
theorem bitsT_front : ∀ (k n : Nat), bitsT (k + 1) n = (48 + n / 2 ^ k % 2) :: bitsT k n
  | 0, n => by simp [bitsT]
  | k + 1, n => by
    rw [bitsT, bitsT_front k (n / 2)]
    have e : n / 2 / 2 ^ k = n / 2 ^ (k + 1) := by rw [Nat.div_div_eq_div_mul, Nat.pow_succ, Nat.mul_comm]
    rw [e, List.cons_append]
    rfl
theorem bitsT_snoc {l n x : Nat} (hx : x ≤ 1) : bitsT (l + 1) (n * 2 + x) = bitsT l n ++ [48 + x] := by
  rw [bitsT]
  have e1 : (n * 2 + x) / 2 = n := by omega
  have e2 : (n * 2 + x) % 2 = x := by omega
  rw [e1, e2]
theorem bitsT_eq : ∀ {l n n' : Nat}, n < 2 ^ l → n' < 2 ^ l → bitsT l n = bitsT l n' → n = n'
  | 0, n, n', h1, h2, _ => by omega
  | l + 1, n, n', h1, h2, e => by
    rw [bitsT, bitsT] at e
    rw [Nat.pow_succ] at h1 h2
    have e1 := List.append_inj e (by rw [bitsT_len, bitsT_len])
    have e2 := bitsT_eq (l := l) (by omega) (by omega) e1.1
    have e3 : 48 + n % 2 = 48 + n' % 2 := by simpa using e1.2
    omega
theorem bitsT_inj {l l' n n' : Nat} (h1 : n < 2 ^ l) (h2 : n' < 2 ^ l') (e : bitsT l n = bitsT l' n') : l = l' ∧ n = n' := by
  have el : l = l' := by
    have := congrArg List.length e
    rw [bitsT_len, bitsT_len] at this
    exact this
  subst el
  exact ⟨rfl, bitsT_eq h1 h2 e⟩
theorem bitsT_get : ∀ {l n j : Nat}, j < l → (bitsT l n)[j]? = some (48 + n / 2 ^ (l - 1 - j) % 2)
  | l + 1, n, 0, _ => by
    rw [bitsT_front]
    simp
  | l + 1, n, j + 1, h => by
    rw [bitsT_front, List.getElem?_cons_succ, bitsT_get (by omega)]
    have e : l - 1 - j = l + 1 - 1 - (j + 1) := by omega
    rw [e]
theorem bitsT_01 {l n c : Nat} (h : c ∈ bitsT l n) : c = 48 ∨ c = 49 := by
  obtain ⟨j, hj⟩ := List.mem_iff_getElem?.mp h
  have lt : j < l := by have := (List.getElem?_eq_some_iff.mp hj).1; rw [bitsT_len] at this; exact this
  rw [bitsT_get lt] at hj
  cases hj
  omega
/-! ### the law's book -/
def dB (W : List Wd) : List (Key × V) := W.map fun w => (Sum.inr (mkS (bitsT w.1 w.2.1)), V.int w.2.2)
theorem dB_get {W : List Wd} (fit : ∀ w ∈ W, w.2.1 < 2 ^ w.1) {l n : Nat} (h : n < 2 ^ l) : valV (dB W) (Sum.inr (mkS (bitsT l n))) = (findW W l n).map V.int := by
  induction W with
  | nil => rfl
  | cons w W ih =>
    have ih := ih fun w hw => fit w (List.mem_cons_of_mem _ hw)
    have hw := fit w List.mem_cons_self
    unfold valV at ih ⊢
    show Option.map _ (List.find? _ ((Sum.inr (mkS (bitsT w.1 w.2.1)), V.int w.2.2) :: dB W)) = _
    unfold findW at ih ⊢
    by_cases c : w.1 = l ∧ w.2.1 = n
    · rw [List.find?_cons_of_pos (by simp [c.1, c.2]), List.find?_cons_of_pos (by rw [decide_eq_true_eq]; exact c)]
      rfl
    · rw [List.find?_cons_of_neg (by
        simp only [decide_eq_true_eq]
        intro z
        exact c (bitsT_inj hw h (mkS_inj (Sum.inr.inj z)))), List.find?_cons_of_neg (by rw [decide_eq_true_eq]; exact c)]
      exact ih
theorem dB_put {W : List Wd} {w : Wd} (fit : ∀ v ∈ W, v.2.1 < 2 ^ v.1) (hw : w.2.1 < 2 ^ w.1) (new : ∀ v ∈ W, ¬ (v.1 = w.1 ∧ v.2.1 = w.2.1)) : putK (dB W) (Sum.inr (mkS (bitsT w.1 w.2.1))) (V.int w.2.2) = dB (W ++ [w]) := by
  rw [putK_new]
  · unfold dB
    rw [List.map_append]
    rfl
  · intro x hx z
    unfold dB at hx
    obtain ⟨v, hv, rfl⟩ := List.mem_map.mp hx
    exact new v hv (bitsT_inj (fit v hv) hw (mkS_inj (Sum.inr.inj z)))
/-! ### bytes as a text of bits, and back -/
def dig (x : Int) : Nat := 48 + x.toNat
def bitsX (S : List Int) : List Nat := (bitsOf S).map dig
theorem bitsX_len (S : List Int) : (bitsX S).length = 8 * S.length := by unfold bitsX; rw [List.length_map, bitsOf_len]
def oneAt (t : List Nat) (q : Nat) : Int := if t[q]? = some 49 then 1 else 0
theorem oneAt_01 (t : List Nat) (q : Nat) : 0 ≤ oneAt t q ∧ oneAt t q ≤ 1 := by unfold oneAt; split <;> omega
def valK (t : List Nat) (a : Nat) : Nat → Int
  | 0 => 0
  | k + 1 => 2 * valK t a k + oneAt t (a + k)
theorem valK_lt (t : List Nat) (a : Nat) : ∀ k, 0 ≤ valK t a k ∧ valK t a k < 2 ^ k
  | 0 => ⟨Int.le_refl _, by show (0 : Int) < 2 ^ 0; decide⟩
  | k + 1 => by
    have h := valK_lt t a k
    have o := oneAt_01 t (a + k)
    rw [valK, Int.pow_succ]
    omega
theorem valK_div (t : List Nat) (a j : Nat) : ∀ d, valK t a (j + d) / 2 ^ d = valK t a j
  | 0 => by simp
  | d + 1 => by
    have ih := valK_div t a j d
    have o := oneAt_01 t (a + (j + d))
    rw [← Nat.add_assoc, valK, Int.pow_succ, Int.mul_comm (2 ^ d) 2, ← Int.ediv_ediv_of_nonneg (by decide)]
    have e : (2 * valK t a (j + d) + oneAt t (a + (j + d))) / 2 = valK t a (j + d) := by omega
    rw [e]
    exact ih
def packB (t : List Nat) : List Int := (List.range ((t.length + 7) / 8)).map fun i => valK t (8 * i) 8
theorem packB_len (t : List Nat) : (packB t).length = (t.length + 7) / 8 := by unfold packB; rw [List.length_map, List.length_range]
theorem packB_byt (t : List Nat) : ∀ x ∈ packB t, 0 ≤ x ∧ x < 256 := fun x hx => by
  unfold packB at hx
  obtain ⟨i, _, rfl⟩ := List.mem_map.mp hx
  exact valK_lt t (8 * i) 8
theorem packB_bit {t : List Nat} {q : Nat} (h : q < 8 * ((t.length + 7) / 8)) : bitAt (packB t) q = oneAt t q := by
  unfold bitAt
  have lt : q / 8 < (t.length + 7) / 8 := by omega
  have e : (packB t).getD (q / 8) 0 = valK t (8 * (q / 8)) 8 := by
    unfold packB
    rw [List.getD_eq_getElem?_getD, List.getElem?_map, List.getElem?_range lt]
    rfl
  rw [e]
  have e8 : (8 : Nat) = (q % 8 + 1) + (7 - q % 8) := by omega
  have e2 : valK t (8 * (q / 8)) 8 / 2 ^ (7 - q % 8) = valK t (8 * (q / 8)) (q % 8 + 1) := by
    have := valK_div t (8 * (q / 8)) (q % 8 + 1) (7 - q % 8)
    rw [← e8] at this
    exact this
  rw [e2, valK]
  have e3 : 8 * (q / 8) + q % 8 = q := by omega
  rw [e3]
  have o := oneAt_01 t q
  omega
/-! ### words that are written are read -/
section
variable {ls : List (Int × Int)}
theorem rd_word (F : Fine10 ls) {w : Wd} (hw : w ∈ wds ls) {B : List Int} {q : Nat} (g : ∀ j, j < w.1 → B[q + j]? = some ((w.2.1 / 2 ^ (w.1 - 1 - j) % 2 : Nat) : Int)) : ∀ d j, j + d = w.1 → Rd1 (wds ls) B (q + j) j (w.2.1 / 2 ^ d) w.2.2 (q + w.1)
  | 0, j, e => by
    have ej : j = w.1 := by omega
    subst ej
    refine .hit ?_
    rw [Nat.pow_zero, Nat.div_one]
    exact find_of F hw
  | d + 1, j, e => by
    have hj : j < w.1 := by omega
    have ed : w.1 - j = d + 1 := by omega
    have ed2 : w.1 - 1 - j = d := by omega
    have n := find_none F hw hj
    rw [ed] at n
    have gj := g j hj
    rw [ed2] at gj
    refine .step n gj ?_
    have ih := rd_word F hw g d (j + 1) (by omega)
    have e1 : w.2.1 / 2 ^ (d + 1) * 2 + (((w.2.1 / 2 ^ d % 2 : Nat) : Int)).toNat = w.2.1 / 2 ^ d := by
      rw [Int.toNat_natCast, Nat.pow_succ, ← Nat.div_div_eq_div_mul]
      omega
    rw [e1]
    exact ih
theorem rd_words (F : Fine10 ls) {B : List Int} : ∀ (vs : List Wd) (q : Nat), (∀ w ∈ vs, w ∈ wds ls) → (∀ (j c : Nat), ((vs.map fun w => bitsT w.1 w.2.1).flatten)[j]? = some c → B[q + j]? = some ((c : Int) - 48)) → RdAll (wds ls) B q vs.length (vs.map (·.2.2)) (q + (vs.map fun w => bitsT w.1 w.2.1).flatten.length)
  | [], q, _, _ => .zero
  | w :: vs, q, h, g => by
    have hw := h w List.mem_cons_self
    rw [List.map_cons, List.flatten_cons] at g
    rw [List.map_cons, List.map_cons, List.flatten_cons]
    rw [List.length_append, bitsT_len, ← Nat.add_assoc]
    have r1 := rd_word F hw (B := B) (q := q) (fun j hj => by
      have := g j _ (by rw [List.getElem?_append_left (by rw [bitsT_len]; exact hj)]; exact bitsT_get hj)
      rw [this]
      congr 1
      omega) w.1 0 (by omega)
    have lt := (wds_fit F w hw).2.2
    rw [Nat.div_eq_of_lt lt, Nat.add_zero] at r1
    refine .more r1 (rd_words F vs (q + w.1) (fun v hv => h v (List.mem_cons_of_mem _ hv)) fun j c hc => ?_)
    have := g (w.1 + j) c (by rw [List.getElem?_append_right (by rw [bitsT_len]; omega), bitsT_len, Nat.add_sub_cancel_left]; exact hc)
    rw [← Nat.add_assoc] at this
    exact this
end
end Fc

namespace Fc
open PySem PySem.Spec L2 PyProof.Rows
/-! ### what is walked over is made by the expression itself -/
def tLockV (t : TE) : TE := fun σ H Q => t σ H fun v H1 => ∃ d u, v = .ref d ∧ H1 d = some u ∧ Mut (some u) ∧ ∀ od, Q v (upd H1 d (.frz od u))
theorem pe_lockV {X : Cx} {e : Expr} {t : TE} (h : PE X e t) : PE X e (tLockV t) := by
  refine ⟨fun pins s σ H Q I hw => ?_⟩
  refine thn (h.run pins s σ H _ I hw) fun v s1 ⟨x, H1, I1, r, d, u, ex, hd, mu, q⟩ => ?_
  obtain ⟨od, I2⟩ := I1.lock hd mu
  exact ⟨x, _, I2, r, q od⟩
end Fc

namespace Fc
open PySem PySem.Spec L2 PyProof.Rows
variable [LamNames]
/-! ### what is written -/
def wB (ls : List (Int × Int)) (b : Int) : Wd := ((wds ls).find? fun w => decide (w.2.2 = b)).getD (0, 0, 0)
def sign (ls : List (Int × Int)) (b : Int) : List Nat := bitsT (wB ls b).1 (wB ls b).2.1
def heads (ls : List (Int × Int)) : List Int := (ls.map fun p => [p.2, p.1]).flatten
def txt (ls : List (Int × Int)) (body : List Int) : List Nat := (body.map (sign ls)).flatten
def written (ls : List (Int × Int)) (body : List Int) : List Int := numB (ls.length : Int) ++ heads ls ++ numB (body.length : Int) ++ packB (txt ls body)
theorem wds_map (ls : List (Int × Int)) : (wds ls).map (fun w => (w.1, w.2.2)) = (ls.mergeSort pLe).map fun p => (p.1.toNat, p.2) := from_map _ 0 0
theorem wds_len (ls : List (Int × Int)) : (wds ls).length = ls.length := by
  have := congrArg List.length (wds_map ls)
  rw [List.length_map, List.length_map, (srt_perm ls).length_eq] at this
  exact this
theorem wds_bytes (ls : List (Int × Int)) : (wds ls).map (·.2.2) = (ls.mergeSort pLe).map (·.2) := by
  have := congrArg (List.map Prod.snd) (wds_map ls)
  rw [List.map_map, List.map_map] at this
  exact this
theorem wds_nodb {ls : List (Int × Int)} (nd : (ls.map (·.2)).Nodup) : ((wds ls).map (·.2.2)).Nodup := by
  rw [wds_bytes]
  exact ((srt_perm ls).map _).nodup_iff.mpr nd
theorem wB_is {ls : List (Int × Int)} {b : Int} (h : b ∈ ls.map (·.2)) : wB ls b ∈ wds ls ∧ (wB ls b).2.2 = b := by
  have h2 : b ∈ (wds ls).map (·.2.2) := by
    rw [wds_bytes]
    exact ((srt_perm ls).map _).mem_iff.mpr h
  obtain ⟨w, hw, ew⟩ := List.mem_map.mp h2
  unfold wB
  cases e : (wds ls).find? fun w => decide (w.2.2 = b) with
  | none =>
    have := List.find?_eq_none.mp e w hw
    exact absurd (decide_eq_true ew) this
  | some v =>
    have h1 := List.mem_of_find?_eq_some e
    have h3 := List.find?_some e
    exact ⟨h1, of_decide_eq_true h3⟩
def dS (W : List Wd) : List (Key × V) := W.map fun w => (Sum.inl w.2.2, T (bitsT w.1 w.2.1))
theorem dS_get {ls : List (Int × Int)} {b : Int} (h : b ∈ ls.map (·.2)) : valV (dS (wds ls)) (Sum.inl b) = some (T (sign ls b)) := by
  have key : ∀ W : List Wd, valV (dS W) (Sum.inl b) = (W.find? fun w => decide (w.2.2 = b)).map fun w => T (bitsT w.1 w.2.1) := fun W => by
    induction W with
    | nil => rfl
    | cons w W ih =>
      unfold valV at ih ⊢
      show Option.map _ (List.find? _ ((Sum.inl w.2.2, T (bitsT w.1 w.2.1)) :: dS W)) = _
      by_cases c : w.2.2 = b
      · rw [List.find?_cons_of_pos (by simp [c]), List.find?_cons_of_pos (by simp [c])]
        rfl
      · rw [List.find?_cons_of_neg (by simpa using c), List.find?_cons_of_neg (by simpa using c)]
        exact ih
  rw [key]
  unfold sign wB
  cases e : (wds ls).find? fun w => decide (w.2.2 = b) with
  | none =>
    have k := wB_is h
    unfold wB at k
    rw [e] at k
    exact absurd k.2 (by
      intro z
      have := List.find?_eq_none.mp e _ k.1
      exact this (decide_eq_true z))
  | some v => rfl
theorem dS_put {W : List Wd} {w : Wd} (new : ∀ v ∈ W, v.2.2 ≠ w.2.2) : putK (dS W) (Sum.inl w.2.2) (T (bitsT w.1 w.2.1)) = dS (W ++ [w]) := by
  rw [putK_new]
  · unfold dS
    rw [List.map_append]
    rfl
  · intro x hx z
    unfold dS at hx
    obtain ⟨v, hv, rfl⟩ := List.mem_map.mp hx
    exact new v hv (Sum.inl.inj z)
theorem heads_snoc (ls : List (Int × Int)) (p : Int × Int) : heads (ls ++ [p]) = heads ls ++ [p.2, p.1] := by
  unfold heads
  rw [List.map_append, List.flatten_append]
  rfl
theorem heads_len (ls : List (Int × Int)) : (heads ls).length = 2 * ls.length := by
  induction ls with
  | nil => rfl
  | cons p ls ih =>
    have : heads (p :: ls) = [p.2, p.1] ++ heads ls := rfl
    rw [this, List.length_append, ih, List.length_cons]
    simp only [List.length_cons, List.length_nil]
    omega
theorem joinL_nil : ∀ ps : List (List Nat), TL.joinL [] ps = ps.flatten
  | [] => rfl
  | [p] => by simp [TL.joinL]
  | p :: q :: ps => by
    have ih := joinL_nil (q :: ps)
    rw [List.flatten_cons, ← ih]
    simp [TL.joinL]
theorem join_none (ps : List (List Nat)) : Txt.join (Str.ofString "") (ps.map mkS) = mkS ps.flatten := by
  apply TL.ext_tl
  rw [TL.join_eq, TL.tl_join, List.map_map]
  have e : (TL.tl ∘ mkS) = id := rfl
  rw [e, List.map_id]
  have e2 : TL.tl (Str.ofString "") = [] := by decide +kernel
  rw [e2, joinL_nil]
  rfl
theorem sign_len {ls : List (Int × Int)} (F : Fine10 ls) {b : Int} (h : b ∈ ls.map (·.2)) : (sign ls b).length ≤ 30 := by
  unfold sign
  rw [bitsT_len]
  exact (wds_fit F _ (wB_is h).1).2.1
theorem txt_len {ls : List (Int × Int)} (F : Fine10 ls) : ∀ {body : List Int}, (∀ b ∈ body, b ∈ ls.map (·.2)) → (txt ls body).length ≤ 30 * body.length
  | [], _ => Nat.le_refl _
  | b :: body, h => by
    have ih := txt_len F (body := body) fun c hc => h c (List.mem_cons_of_mem _ hc)
    have h1 := sign_len F (h b List.mem_cons_self)
    have e : txt ls (b :: body) = sign ls b ++ txt ls body := rfl
    rw [e, List.length_append, List.length_cons]
    omega
end Fc

namespace Fc
open PySem PySem.Spec L2 PyProof.Rows
variable [LamNames]
/-! ### what is written is read -/
structure Good (ls : List (Int × Int)) : Prop where
  len : ls.length ≤ 100
  lng : ∀ p ∈ ls, 1 ≤ p.1 ∧ p.1 ≤ 30
  one : ls.length = 1 → ∀ p ∈ ls, p.1 = 1
  sum : 1 < ls.length → kraft ls = 2 ^ 30
  rise : (ls.map (·.2)).Pairwise (· < ·)
  byt : ∀ p ∈ ls, 0 ≤ p.2 ∧ p.2 < 256
theorem Good.fine {ls : List (Int × Int)} (g : Good ls) : Fine10 ls := by
  refine ⟨g.lng, ?_⟩
  rcases Nat.lt_or_ge 1 ls.length with c | c
  · rw [g.sum c]
    exact Nat.le_refl _
  · match ls, c with
    | [], _ => exact Nat.zero_le _
    | [p], _ =>
      have := g.one rfl p List.mem_cons_self
      unfold kraft
      rw [List.map_cons, this]
      decide
theorem Good.nd {ls : List (Int × Int)} (g : Good ls) : (ls.map (·.2)).Nodup := g.rise.imp fun {a b} h => Int.ne_of_lt h
theorem heads_get : ∀ (ls : List (Int × Int)) (i : Nat) (p : Int × Int), ls[i]? = some p → (heads ls)[2 * i]? = some p.2 ∧ (heads ls)[2 * i + 1]? = some p.1
  | q :: ls, 0, p, h => by
    cases h
    exact ⟨rfl, rfl⟩
  | q :: ls, i + 1, p, h => by
    have ih := heads_get ls i p (by simpa using h)
    have e : heads (q :: ls) = q.2 :: q.1 :: heads ls := rfl
    rw [e]
    have e1 : 2 * (i + 1) = 2 * i + 1 + 1 := by omega
    rw [e1, List.getElem?_cons_succ, List.getElem?_cons_succ, List.getElem?_cons_succ, List.getElem?_cons_succ]
    exact ih
theorem heads_byt {ls : List (Int × Int)} (g : Good ls) : ∀ x ∈ heads ls, 0 ≤ x ∧ x < 256 := fun x hx => by
  unfold heads at hx
  obtain ⟨l, hl, hx⟩ := List.mem_flatten.mp hx
  obtain ⟨p, hp, rfl⟩ := List.mem_map.mp hl
  have h1 := g.byt p hp
  have h2 := g.lng p hp
  have : x = p.2 ∨ x = p.1 := by simpa using hx
  rcases this with rfl | rfl <;> omega
theorem res_one {S : List Int} {k : Nat} {x : Int} (h : S[k]? = some x) (h0 : 0 ≤ x) (h1 : x < 128) : resOf S k = .ok x (k + 1) := by
  unfold resOf
  rw [rd_end (x := x) (by rw [Nat.add_zero]; exact h) (fun z => by omega) h1]
  have : (0 : Int) + x % 128 * 1 = x := by omega
  rw [this]
theorem written_eq {ls : List (Int × Int)} {body : List Int} (g : Good ls) (hb : body.length ≤ 100) : written ls body = (ls.length : Int) :: (heads ls ++ (body.length : Int) :: packB (txt ls body)) := by
  unfold written
  have l1 := g.len
  rw [numB_small (by omega), numB_small (by omega)]
  simp
theorem written_byt {ls : List (Int × Int)} {body : List Int} (g : Good ls) (hb : body.length ≤ 100) : ∀ x ∈ written ls body, 0 ≤ x ∧ x < 256 := fun x hx => by
  rw [written_eq g hb] at hx
  have l1 := g.len
  rcases List.mem_cons.mp hx with rfl | hx
  · omega
  rcases List.mem_append.mp hx with hx | hx
  · exact heads_byt g x hx
  rcases List.mem_cons.mp hx with rfl | hx
  · omega
  exact packB_byt _ x hx
theorem written_len {ls : List (Int × Int)} {body : List Int} (g : Good ls) (hb : body.length ≤ 100) : (written ls body).length = 2 + 2 * ls.length + ((txt ls body).length + 7) / 8 := by
  rw [written_eq g hb, List.length_cons, List.length_append, heads_len, List.length_cons, packB_len]
  omega
theorem written_is {ls : List (Int × Int)} {body : List Int} (g : Good ls) (hb : body.length ≤ 100) (bin : ∀ b ∈ body, b ∈ ls.map (·.2)) : IsW (written ls body) body := by
  have l1 := g.len
  have F := g.fine
  have eS := written_eq g hb
  have lS := written_len g hb
  generalize written ls body = S at eS lS
  have g0 : S[0]? = some (ls.length : Int) := by rw [eS]; rfl
  have gh : ∀ i, i < (heads ls).length → S[1 + i]? = (heads ls)[i]? := fun i hi => by
    rw [eS, Nat.add_comm, List.getElem?_cons_succ, List.getElem?_append_left hi]
  have gn : S[1 + 2 * ls.length]? = some (body.length : Int) := by
    rw [eS, Nat.add_comm, List.getElem?_cons_succ, List.getElem?_append_right (by rw [heads_len]; exact Nat.le_refl _), heads_len, Nat.sub_self]
    rfl
  have gd : S.drop (1 + 2 * ls.length + 1) = packB (txt ls body) := by
    rw [eS, List.drop_succ_cons]
    have : 1 + 2 * ls.length = (heads ls).length + 1 := by rw [heads_len]; omega
    rw [this, List.drop_append, List.drop_eq_nil_of_le (by omega), Nat.add_sub_cancel_left]
    rfl
  have hd : Head S ls.length 1 ls := by
    refine ⟨res_one g0 (by omega) (by omega), by omega, ?_, g.rise, g.lng, g.one, g.sum⟩
    apply List.ext_getElem?
    intro i
    rw [List.getElem?_map]
    rcases Nat.lt_or_ge i ls.length with c | c
    · rw [List.getElem?_range c, List.getElem?_eq_getElem c]
      obtain ⟨h1, h2⟩ := heads_get ls i ls[i] (List.getElem?_eq_getElem c)
      have a1 := gh (2 * i) (by rw [heads_len]; omega)
      have a2 := gh (2 * i + 1) (by rw [heads_len]; omega)
      rw [h1] at a1
      rw [h2, ← Nat.add_assoc] at a2
      show some ls[i] = some (S.getD (1 + 2 * i + 1) 0, S.getD (1 + 2 * i) 0)
      rw [List.getD_eq_getElem?_getD, List.getD_eq_getElem?_getD, a1, a2]
      rfl
    · rw [List.getElem?_eq_none c, List.getElem?_eq_none (by rw [List.length_range]; exact c)]
      rfl
  have lt := packB_len (txt ls body)
  refine ⟨ls.length, 1, ls, body.length, 1 + 2 * ls.length + 1, (txt ls body).length, hd, res_one gn (by omega) (by omega), by omega, ?_, ?_, ?_⟩
  · rw [gd]
    have e1 : (body.map (wB ls)).map (·.2.2) = body := by
      rw [List.map_map]
      conv => rhs; rw [← List.map_id body]
      exact List.map_congr_left fun b hb => (wB_is (bin b hb)).2
    have e2 : ((body.map (wB ls)).map fun w => bitsT w.1 w.2.1).flatten = txt ls body := by
      rw [List.map_map]
      rfl
    have r := rd_words F (B := bitsOf (packB (txt ls body))) (body.map (wB ls)) 0 (fun w hw => by
      obtain ⟨b, hb, rfl⟩ := List.mem_map.mp hw
      exact (wB_is (bin b hb)).1) (fun j c hc => by
      rw [e2] at hc
      have lj := (List.getElem?_eq_some_iff.mp hc).1
      have l8 : j < 8 * (packB (txt ls body)).length := by rw [lt]; omega
      rw [Nat.zero_add, bitsOf_get l8, packB_bit (by rw [← lt]; exact l8)]
      have c01 : c = 48 ∨ c = 49 := by
        have hm : c ∈ txt ls body := List.mem_of_getElem? hc
        unfold txt at hm
        obtain ⟨l, hl, hx⟩ := List.mem_flatten.mp hm
        obtain ⟨b, _, rfl⟩ := List.mem_map.mp hl
        exact bitsT_01 hx
      unfold oneAt
      rw [hc]
      rcases c01 with rfl | rfl <;> rfl)
    rw [e1, e2, List.length_map, Nat.zero_add] at r
    exact r
  · rw [gd, lt]
    omega
  · rw [gd]
    intro i h1 h2
    rw [lt] at h2
    rw [packB_bit h2]
    unfold oneAt
    rw [List.getElem?_eq_none h1]
    rfl
end Fc

namespace Fc
open PySem PySem.Spec L2 PyProof.Rows
variable [LamNames]
/-! ### a dict of ints, by a row of keys and a function -/
def dF (bs : List Int) (f : Int → Int) : List (Key × V) := bs.map fun b => (Sum.inl b, V.int (f b))
theorem dF_len (bs : List Int) (f : Int → Int) : (dF bs f).length = bs.length := by unfold dF; rw [List.length_map]
theorem dF_congr {bs : List Int} {f g : Int → Int} (h : ∀ b ∈ bs, f b = g b) : dF bs f = dF bs g := by
  unfold dF
  exact List.map_congr_left fun b hb => by rw [h b hb]
theorem dF_get (bs : List Int) (f : Int → Int) (b : Int) : valV (dF bs f) (Sum.inl b) = if b ∈ bs then some (V.int (f b)) else none := by
  induction bs with
  | nil => rfl
  | cons c bs ih =>
    unfold valV at ih ⊢
    show Option.map _ (List.find? _ ((Sum.inl c, V.int (f c)) :: dF bs f)) = _
    by_cases e : c = b
    · rw [List.find?_cons_of_pos (by simp [e]), if_pos (by rw [e]; exact List.mem_cons_self), e]
      rfl
    · rw [List.find?_cons_of_neg (by simpa using e), ih]
      by_cases m : b ∈ bs
      · rw [if_pos m, if_pos (List.mem_cons_of_mem _ m)]
      · rw [if_neg m, if_neg fun k => by
          rcases List.mem_cons.mp k with k | k
          · exact e k.symm
          · exact m k]
theorem dF_old {bs : List Int} {f : Int → Int} {b : Int} (h : b ∈ bs) (v : Int) : putK (dF bs f) (Sum.inl b) (V.int v) = dF bs fun x => if x = b then v else f x := by
  unfold putK
  rw [if_pos]
  · unfold dF
    rw [List.map_map]
    refine List.map_congr_left fun x _ => ?_
    by_cases e : x = b
    · simp [e]
    · simp [e]
  · unfold dF
    rw [List.any_eq_true]
    exact ⟨_, List.mem_map.mpr ⟨b, h, rfl⟩, by simp⟩
theorem dF_new {bs : List Int} {f : Int → Int} {b : Int} (h : b ∉ bs) (v : Int) : putK (dF bs f) (Sum.inl b) (V.int v) = dF (bs ++ [b]) fun x => if x = b then v else f x := by
  rw [putK_new]
  · have e : dF bs f = dF bs fun x => if x = b then v else f x := dF_congr fun c hc => by
      have ne : ¬ c = b := fun z => h (by rw [← z]; exact hc)
      rw [if_neg ne]
    rw [e]
    unfold dF
    rw [List.map_append]
    simp
  · intro x hx z
    unfold dF at hx
    obtain ⟨c, hc, rfl⟩ := List.mem_map.mp hx
    exact h (by rw [← Sum.inl.inj z]; exact hc)
/-! ### the two least put together, again and again -/
def iLe (a b : Int) : Bool := decide (a ≤ b)
def huffF : Nat → List Int → Int
  | 0, _ => 0
  | n + 1, a :: b :: r => a + b + huffF n ((r ++ [a + b]).mergeSort iLe)
  | _ + 1, _ => 0
theorem iLe_trans (a b c : Int) : iLe a b = true → iLe b c = true → iLe a c = true := by
  unfold iLe
  rw [decide_eq_true_eq, decide_eq_true_eq, decide_eq_true_eq]
  omega
theorem iLe_total (a b : Int) : (iLe a b || iLe b a) = true := by
  unfold iLe
  rw [Bool.or_eq_true, decide_eq_true_eq, decide_eq_true_eq]
  omega
theorem sorted_eq : ∀ {a b : List Int}, a.Pairwise (· ≤ ·) → b.Pairwise (· ≤ ·) → a.Perm b → a = b
  | [], b, _, _, p => by rw [List.nil_perm.mp p]
  | x :: a, [], _, _, p => by cases p.length_eq
  | x :: a, y :: b, ha, hb, p => by
    obtain ⟨a1, a2⟩ := List.pairwise_cons.mp ha
    obtain ⟨b1, b2⟩ := List.pairwise_cons.mp hb
    have e : x = y := by
      have m1 : x ∈ y :: b := p.mem_iff.mp List.mem_cons_self
      have m2 : y ∈ x :: a := p.mem_iff.mpr List.mem_cons_self
      rcases List.mem_cons.mp m1 with h | h
      · exact h
      · rcases List.mem_cons.mp m2 with k | k
        · exact k.symm
        · have := b1 x h
          have := a1 y k
          omega
    subst e
    rw [sorted_eq a2 b2 p.cons_inv]
theorem iSort_up (l : List Int) : (l.mergeSort iLe).Pairwise (· ≤ ·) := (List.pairwise_mergeSort iLe_trans iLe_total l).imp fun {a b} h => of_decide_eq_true h
theorem iSort_perm (l : List Int) : (l.mergeSort iLe).Perm l := List.mergeSort_perm _ _
theorem iSort_is {a l : List Int} (h : a.Pairwise (· ≤ ·)) (p : a.Perm l) : a = l.mergeSort iLe := sorted_eq h (iSort_up l) (p.trans (iSort_perm l).symm)
abbrev Grp := Int × List Int
/-- 1, 1, 2, 3, 5, ..: what a word's length needs -/
def fb : Nat → Int
  | 0 => 1
  | 1 => 1
  | n + 2 => fb n + fb (n + 1)
theorem fb_pos : ∀ n, 1 ≤ fb n ∧ 1 ≤ fb (n + 1)
  | 0 => ⟨by decide, by decide⟩
  | n + 1 => ⟨(fb_pos n).2, by
    have := fb_pos n
    show 1 ≤ fb n + fb (n + 1)
    omega⟩
theorem fb_up (n : Nat) : fb n ≤ fb (n + 1) := by
  cases n with
  | zero => decide
  | succ n =>
    have := fb_pos n
    show fb (n + 1) ≤ fb n + fb (n + 1)
    omega
theorem fb_mono {n : Nat} : ∀ {m : Nat}, n ≤ m → fb n ≤ fb m
  | 0, h => by
    have : n = 0 := by omega
    rw [this]
    exact Int.le_refl _
  | m + 1, h => by
    rcases Nat.lt_or_ge n (m + 1) with c | c
    · exact Int.le_trans (fb_mono (m := m) (by omega)) (fb_up m)
    · have : n = m + 1 := by omega
      rw [this]
      exact Int.le_refl _
theorem fb_small {n : Nat} (h : fb (n + 1) ≤ 1000) : n ≤ 14 := by
  rcases Nat.lt_or_ge 14 n with c | c
  · have := fb_mono (n := 16) (m := n + 1) (by omega)
    have e : fb 16 = 1597 := by decide
    omega
  · exact c
def kr (g : Int → Nat) (ms : List Int) : Nat := (ms.map fun b => 2 ^ (30 - g b)).sum
structure Hf (bs : List Int) (f : Int → Int) (gs : List Grp) (g : Int → Nat) : Prop where
  per : ((gs.map (·.2)).flatten).Perm bs
  grp : ∀ x ∈ gs, x.2 ≠ [] ∧ kr g x.2 = 2 ^ 30 ∧ ∃ c : Int, (∀ z ∈ gs, c ≤ z.1) ∧ ∀ b ∈ x.2, fb (g b + 1) ≤ x.1 ∧ fb (g b) ≤ c
  up : (gs.map (·.1)).Pairwise (· ≤ ·)
  sm : ∀ x ∈ gs, x.1 = (x.2.map f).sum
  cost : (bs.map fun b => f b * (g b : Int)).sum + huffF gs.length (gs.map (·.1)) = huffF bs.length ((bs.map f).mergeSort iLe)
def upG (g : Int → Nat) (ms : List Int) (b : Int) : Nat := if b ∈ ms then g b + 1 else g b
theorem kr_app (g : Int → Nat) (a b : List Int) : kr g (a ++ b) = kr g a + kr g b := by unfold kr; rw [List.map_append, List.sum_append]
theorem kr_half {g : Int → Nat} {M : List Int} : ∀ {ms : List Int}, (∀ b ∈ ms, b ∈ M ∧ g b + 1 ≤ 30) → 2 * kr (upG g M) ms = kr g ms
  | [], _ => rfl
  | b :: ms, h => by
    have ih := kr_half (ms := ms) fun c hc => h c (List.mem_cons_of_mem _ hc)
    obtain ⟨h1, h2⟩ := h b List.mem_cons_self
    unfold kr at ih ⊢
    rw [List.map_cons, List.sum_cons, List.map_cons, List.sum_cons]
    have e : upG g M b = g b + 1 := by unfold upG; rw [if_pos h1]
    have e2 : 30 - g b = (30 - (g b + 1)) + 1 := by omega
    rw [e, e2, Nat.pow_succ]
    omega
theorem kr_same {g : Int → Nat} {M ms : List Int} (h : ∀ b ∈ ms, b ∉ M) : kr (upG g M) ms = kr g ms := by
  unfold kr
  congr 1
  refine List.map_congr_left fun b hb => ?_
  unfold upG
  rw [if_neg (h b hb)]
theorem sum_perm {l l' : List Int} (p : l.Perm l') : l.sum = l'.sum := by
  induction p with
  | nil => rfl
  | cons x _ ih => rw [List.sum_cons, List.sum_cons, ih]
  | swap x y l => simp only [List.sum_cons]; omega
  | trans _ _ a b => exact a.trans b
/-- all that stands in M has one bit more -/
theorem cost_up {f : Int → Int} {g : Int → Nat} {M : List Int} : ∀ {bs : List Int}, (bs.map fun b => f b * ((upG g M b : Nat) : Int)).sum = (bs.map fun b => f b * (g b : Int)).sum + ((bs.filter fun b => decide (b ∈ M)).map f).sum
  | [] => rfl
  | b :: bs => by
    have ih := cost_up (f := f) (g := g) (M := M) (bs := bs)
    rw [List.map_cons, List.sum_cons, List.map_cons, List.sum_cons, ih]
    unfold upG
    by_cases h : b ∈ M
    · rw [if_pos h, List.filter_cons_of_pos (by simpa using h), List.map_cons, List.sum_cons, Int.natCast_add, Int.mul_add]
      simp only [Int.natCast_one, Int.mul_one]
      omega
    · rw [if_neg h, List.filter_cons_of_neg (by simp [h])]
      omega
theorem mem_flat {gs : List Grp} {x : Grp} (hx : x ∈ gs) {b : Int} (hb : b ∈ x.2) : b ∈ (gs.map (·.2)).flatten := List.mem_flatten.mpr ⟨x.2, List.mem_map.mpr ⟨x, hx, rfl⟩, hb⟩
theorem sum_nn {f : Int → Int} : ∀ {l : List Int}, (∀ b ∈ l, 0 ≤ f b) → 0 ≤ (l.map f).sum
  | [], _ => Int.le_refl _
  | b :: l, h => by
    have := sum_nn (l := l) fun c hc => h c (List.mem_cons_of_mem _ hc)
    have := h b List.mem_cons_self
    rw [List.map_cons, List.sum_cons]
    omega
theorem Hf.deep {bs : List Int} {f : Int → Int} {gs : List Grp} {g : Int → Nat} (h : Hf bs f gs g) (pos : ∀ b ∈ bs, 1 ≤ f b) (tot : (bs.map f).sum ≤ 1000) {x : Grp} (hx : x ∈ gs) {b : Int} (hb : b ∈ x.2) : g b ≤ 14 := by
  obtain ⟨_, _, c, _, k⟩ := h.grp x hx
  obtain ⟨s, t, e⟩ := List.append_of_mem hx
  have p := sum_perm (h.per.map f)
  have q : ∀ b ∈ (gs.map (·.2)).flatten, 0 ≤ f b := fun b hb => by
    have := pos b (h.per.mem_iff.mp hb)
    omega
  rw [e, List.map_append, List.flatten_append, List.map_cons, List.flatten_cons] at p q
  rw [List.map_append, List.sum_append, List.map_append, List.sum_append, ← h.sm x hx] at p
  have q1 := sum_nn (l := (s.map (·.2)).flatten) fun b hb => q b (List.mem_append_left _ hb)
  have q2 := sum_nn (l := (t.map (·.2)).flatten) fun b hb => q b (List.mem_append_right _ (List.mem_append_right _ hb))
  have := (k b hb).1
  exact fb_small (by omega)
theorem Hf.next {bs : List Int} {f : Int → Int} {x y : Grp} {r gs' : List Grp} {g : Int → Nat} (h : Hf bs f (x :: y :: r) g) (nd : bs.Nodup) (pos : ∀ b ∈ bs, 1 ≤ f b) (tot : (bs.map f).sum ≤ 1000)
    (p : gs'.Perm (r ++ [(x.1 + y.1, x.2 ++ y.2)])) (up : (gs'.map (·.1)).Pairwise (· ≤ ·)) : Hf bs f gs' (upG g (x.2 ++ y.2)) := by
  have fl : ((((x :: y :: r).map (·.2)).flatten)).Nodup := h.per.nodup_iff.mpr nd
  rw [List.map_cons, List.map_cons, List.flatten_cons, List.flatten_cons, ← List.append_assoc] at fl
  obtain ⟨f1, f2, f3⟩ := List.nodup_append.mp fl
  have hx := h.grp x List.mem_cons_self
  have hy := h.grp y (List.mem_cons_of_mem _ List.mem_cons_self)
  have mx : x ∈ x :: y :: r := List.mem_cons_self
  have my : y ∈ x :: y :: r := List.mem_cons_of_mem _ List.mem_cons_self
  have dx : ∀ b ∈ x.2, g b ≤ 14 := fun b hb => h.deep pos tot mx hb
  have dy : ∀ b ∈ y.2, g b ≤ 14 := fun b hb => h.deep pos tot my hb
  have up0 := h.up
  rw [List.map_cons, List.map_cons] at up0
  obtain ⟨u1, u2⟩ := List.pairwise_cons.mp up0
  obtain ⟨u3, u4⟩ := List.pairwise_cons.mp u2
  have xy : x.1 ≤ y.1 := u1 _ List.mem_cons_self
  have yr : ∀ z ∈ r, y.1 ≤ z.1 := fun z hz => u3 _ (List.mem_map.mpr ⟨z, hz, rfl⟩)
  obtain ⟨_, _, cx, cx1, cx2⟩ := hx
  obtain ⟨_, _, cy, cy1, cy2⟩ := hy
  have hx := h.grp x mx
  have hy := h.grp y my
  have x1 : 1 ≤ x.1 := by
    obtain ⟨b, hb⟩ := List.exists_mem_of_ne_nil _ hx.1
    have := (cx2 b hb).1
    have := (fb_pos (g b)).2
    omega
  have kx : 2 * kr (upG g (x.2 ++ y.2)) x.2 = 2 ^ 30 := by
    rw [kr_half fun b hb => ⟨List.mem_append_left _ hb, by have := dx b hb; omega⟩]
    exact hx.2.1
  have ky : 2 * kr (upG g (x.2 ++ y.2)) y.2 = 2 ^ 30 := by
    rw [kr_half fun b hb => ⟨List.mem_append_right _ hb, by have := dy b hb; omega⟩]
    exact hy.2.1
  refine ⟨?_, fun z hz => ?_, up, fun z hz => ?_, ?_⟩
  · refine List.Perm.trans ?_ h.per
    refine ((p.map (·.2)).flatten).trans ?_
    rw [List.map_append, List.flatten_append, List.map_cons, List.map_nil, List.flatten_cons, List.flatten_nil, List.append_nil, List.map_cons, List.map_cons, List.flatten_cons, List.flatten_cons]
    have e : x.2 ++ (y.2 ++ (r.map (·.2)).flatten) = (x.2 ++ y.2) ++ (r.map (·.2)).flatten := (List.append_assoc _ _ _).symm
    rw [e]
    exact List.perm_append_comm
  · rcases List.mem_append.mp (p.mem_iff.mp hz) with hr | he
    · have hz2 := h.grp z (List.mem_cons_of_mem _ (List.mem_cons_of_mem _ hr))
      have dis : ∀ b ∈ z.2, b ∉ x.2 ++ y.2 := fun b hb hm => f3 b hm b (mem_flat hr hb) rfl
      obtain ⟨za, zb, c, c1, c2⟩ := hz2
      refine ⟨za, by rw [kr_same dis]; exact zb, c, fun w hw => ?_, fun b hb => ?_⟩
      · rcases List.mem_append.mp (p.mem_iff.mp hw) with hw | hw
        · exact c1 w (List.mem_cons_of_mem _ (List.mem_cons_of_mem _ hw))
        · rw [List.mem_singleton.mp hw]
          show c ≤ x.1 + y.1
          have := c1 y my
          omega
      · unfold upG
        rw [if_neg (dis b hb)]
        exact c2 b hb
    · rw [List.mem_singleton.mp he]
      refine ⟨fun e => hx.1 (List.append_eq_nil_iff.mp e).1, ?_, y.1, fun w hw => ?_, fun b hb => ?_⟩
      · show kr _ (x.2 ++ y.2) = _
        rw [kr_app]
        omega
      · rcases List.mem_append.mp (p.mem_iff.mp hw) with hw | hw
        · exact yr w hw
        · rw [List.mem_singleton.mp hw]
          show y.1 ≤ x.1 + y.1
          omega
      · show fb (upG g (x.2 ++ y.2) b + 1) ≤ x.1 + y.1 ∧ fb (upG g (x.2 ++ y.2) b) ≤ y.1
        have e : upG g (x.2 ++ y.2) b = g b + 1 := by unfold upG; rw [if_pos hb]
        rw [e]
        have e2 : fb (g b + 1 + 1) = fb (g b) + fb (g b + 1) := rfl
        rw [e2]
        rcases List.mem_append.mp hb with k | k
        · have := cx2 b k
          have := cx1 y my
          omega
        · have := cy2 b k
          have := cy1 x mx
          omega
  · rcases List.mem_append.mp (p.mem_iff.mp hz) with hr | he
    · exact h.sm z (List.mem_cons_of_mem _ (List.mem_cons_of_mem _ hr))
    · rw [List.mem_singleton.mp he]
      show x.1 + y.1 = ((x.2 ++ y.2).map f).sum
      rw [List.map_append, List.sum_append, h.sm x List.mem_cons_self, h.sm y (List.mem_cons_of_mem _ List.mem_cons_self)]
  · have c := h.cost
    rw [List.length_cons, List.map_cons, List.map_cons, List.length_cons] at c
    rw [huffF] at c
    have e1 : gs'.map (·.1) = ((r.map (·.1)) ++ [x.1 + y.1]).mergeSort iLe := iSort_is up (by
      have := p.map (·.1)
      rw [List.map_append] at this
      exact this)
    have e2 : gs'.length = r.length + 1 := by rw [p.length_eq, List.length_append]; rfl
    rw [e2, e1, cost_up]
    have e3 : ((bs.filter fun b => decide (b ∈ x.2 ++ y.2)).map f).sum = x.1 + y.1 := by
      have pf : (bs.filter fun b => decide (b ∈ x.2 ++ y.2)).Perm (x.2 ++ y.2) := by
        have pp := (h.per.symm).filter fun b => decide (b ∈ x.2 ++ y.2)
        refine pp.trans ?_
        rw [List.map_cons, List.map_cons, List.flatten_cons, List.flatten_cons, ← List.append_assoc, List.filter_append]
        have a1 : ((x.2 ++ y.2).filter fun b => decide (b ∈ x.2 ++ y.2)) = x.2 ++ y.2 := List.filter_eq_self.mpr fun b hb => decide_eq_true hb
        have a2 : (((r.map (·.2)).flatten).filter fun b => decide (b ∈ x.2 ++ y.2)) = [] := List.filter_eq_nil_iff.mpr fun b hb k => f3 b (of_decide_eq_true k) b hb rfl
        rw [a1, a2, List.append_nil]
      rw [sum_perm (pf.map f), List.map_append, List.sum_append, ← h.sm x List.mem_cons_self, ← h.sm y (List.mem_cons_of_mem _ List.mem_cons_self)]
    rw [e3]
    omega
theorem Hf.begin {bs : List Int} {f : Int → Int} {gs : List Grp} (pos : ∀ b ∈ bs, 1 ≤ f b) (p : gs.Perm (bs.map fun b => (f b, [b]))) (up : (gs.map (·.1)).Pairwise (· ≤ ·)) : Hf bs f gs fun _ => 0 := by
  refine ⟨?_, fun x hx => ?_, up, fun x hx => ?_, ?_⟩
  · refine ((p.map (·.2)).flatten).trans ?_
    rw [List.map_map]
    have : ((bs.map ((fun x : Grp => x.2) ∘ fun b => (f b, [b]))).flatten) = bs := by
      induction bs with
      | nil => rfl
      | cons b bs ih =>
        rw [List.map_cons, List.flatten_cons]
        show [b] ++ _ = _
        have := fun q => @ih q
        clear ih
        have k : ∀ l : List Int, (l.map ((fun x : Grp => x.2) ∘ fun b => (f b, [b]))).flatten = l := fun l => by
          induction l with
          | nil => rfl
          | cons c l ih => rw [List.map_cons, List.flatten_cons, ih]; rfl
        rw [k]
        rfl
    rw [this]
  · obtain ⟨b, hb, rfl⟩ := List.mem_map.mp (p.mem_iff.mp hx)
    refine ⟨by simp, by unfold kr; simp, 1, fun z hz => ?_, fun c hc => ?_⟩
    · obtain ⟨b', hb', rfl⟩ := List.mem_map.mp (p.mem_iff.mp hz)
      exact pos b' hb'
    · exact ⟨pos b hb, by decide⟩
  · obtain ⟨b, hb, rfl⟩ := List.mem_map.mp (p.mem_iff.mp hx)
    simp
  · have k0 : ∀ l : List Int, (l.map fun b => f b * ((0 : Nat) : Int)).sum = 0 := fun l => by
      induction l with
      | nil => rfl
      | cons b l ih => rw [List.map_cons, List.sum_cons, ih]; simp
    have e0 := k0 bs
    have e1 : gs.map (·.1) = (bs.map f).mergeSort iLe := iSort_is up (by
      have := p.map (·.1)
      rw [List.map_map] at this
      exact this)
    have e2 : gs.length = bs.length := by rw [p.length_eq, List.length_map]
    rw [e0, e1, e2]
    omega
structure LenOk (bs : List Int) (f : Int → Int) (g : Int → Nat) : Prop where
  one : bs.length = 1 → ∀ b ∈ bs, g b = 1
  lng : 1 < bs.length → ∀ b ∈ bs, 1 ≤ g b ∧ g b ≤ 14
  sum : 1 < bs.length → kr g bs = 2 ^ 30
  cost : bs.length ≠ 1 → (bs.map fun b => f b * (g b : Int)).sum = huffF bs.length ((bs.map f).mergeSort iLe)
theorem kr_perm {g : Int → Nat} {a b : List Int} (p : a.Perm b) : kr g a = kr g b := by unfold kr; exact List.Perm.sum_nat (p.map _)
theorem Hf.ende {bs : List Int} {f : Int → Int} {gs : List Grp} {g : Int → Nat} (h : Hf bs f gs g) (pos : ∀ b ∈ bs, 1 ≤ f b) (tot : (bs.map f).sum ≤ 1000) (few : gs.length ≤ 1) (n1 : bs.length ≠ 1) : LenOk bs f g := by
  have c := h.cost
  match gs, few, h, c with
  | [], _, h, c =>
    have e : bs = [] := List.perm_nil.mp (h.per.symm)
    subst e
    exact ⟨fun z => by simp at z, fun z => by simp at z, fun z => by simp at z, fun _ => by simpa [huffF] using c⟩
  | [x], _, h, c =>
    have pe : x.2.Perm bs := by
      have := h.per
      simpa using this
    have hx := h.grp x List.mem_cons_self
    have ks : kr g bs = 2 ^ 30 := by rw [← kr_perm pe]; exact hx.2.1
    refine ⟨fun z => absurd z n1, fun big b hb => ⟨?_, ?_⟩, fun _ => ks, fun _ => ?_⟩
    · rcases Nat.eq_zero_or_pos (g b) with z | z
      · exfalso
        obtain ⟨s, t, rfl⟩ := List.append_of_mem hb
        rw [kr_app] at ks
        unfold kr at ks
        rw [List.map_cons, List.sum_cons, z] at ks
        have pos : ∀ l : List Int, l ≠ [] → 0 < (l.map fun b => 2 ^ (30 - g b)).sum := fun l hl => by
          cases l with
          | nil => exact absurd rfl hl
          | cons c l =>
            rw [List.map_cons, List.sum_cons]
            have : 0 < 2 ^ (30 - g c) := Nat.pow_pos (by decide)
            omega
        rw [List.length_append, List.length_cons] at big
        rcases Nat.eq_zero_or_pos s.length with e | e
        · have := pos t (fun k => by rw [k] at big; simp at big; omega)
          omega
        · have := pos s (List.length_pos_iff.mp e)
          omega
      · exact z
    · exact h.deep pos tot List.mem_cons_self (pe.mem_iff.mpr hb)
    · have : huffF [x].length ([x].map (·.1)) = 0 := rfl
      rw [this] at c
      omega
/-! ### groups are sorted by their numbers -/
def encG (x : Grp) : PyData := .tuple [.int x.1, .tuple (x.2.map PyData.int)]
theorem alike_ints : ∀ (a b : List Int), PySem.W.alikeAll (a.map PyData.int) (b.map PyData.int) = true
  | [], _ => by simp [PySem.W.alikeAll]
  | _ :: _, [] => by simp [PySem.W.alikeAll]
  | x :: a, y :: b => by
    rw [List.map_cons, List.map_cons, PySem.W.alikeAll, alike_ints a b]
    simp [PySem.W.alike]
theorem encG_alike (x y : Grp) : PySem.W.alike (encG x) (encG y) = true := by
  unfold encG
  simp [PySem.W.alike, PySem.W.alikeAll, alike_ints]
theorem le_g {β : Type} {k : β → Grp} {a b : β} (h : PySem.W.dataLe false (fun b => encG (k b)) a b = true) : (k a).1 ≤ (k b).1 := by
  rw [PySem.W.dataLe_eq] at h
  have h2 : (!PySem.W.dataLt (encG (k b)) (encG (k a))) = true := h
  unfold encG at h2
  rw [PySem.W.dataLt_pair (by simp [PySem.W.alike]) (by simp [PySem.W.alike, alike_ints]), PySem.W.dataLt_int] at h2
  by_cases c : PyData.eqv (PyData.int (k b).1) (PyData.int (k a).1) = true
  · have e : (k b).1 = (k a).1 := by simpa [PyData.eqv] using c
    omega
  · rw [if_neg c] at h2
    have n : ¬ (k b).1 < (k a).1 := fun z => by rw [decide_eq_true z] at h2; cases h2
    omega
end Fc

namespace Fc
open PySem PySem.Spec L2 PyProof.Rows
variable [LamNames]
/-! ### bits as ints -/
def unD (c : Nat) : Int := (c : Int) - 48
def bitsI (l n : Nat) : List Int := (bitsT l n).map unD
theorem bitsI_len (l n : Nat) : (bitsI l n).length = l := by unfold bitsI; rw [List.length_map, bitsT_len]
theorem bitsI_get {l n j : Nat} (h : j < l) : (bitsI l n)[j]? = some ((n / 2 ^ (l - 1 - j) % 2 : Nat) : Int) := by
  unfold bitsI
  rw [List.getElem?_map, bitsT_get h]
  show some (((48 + n / 2 ^ (l - 1 - j) % 2 : Nat) : Int) - 48) = _
  congr 1
  omega
theorem bitsI_01 {l n : Nat} {x : Int} (h : x ∈ bitsI l n) : x = 0 ∨ x = 1 := by
  unfold bitsI at h
  obtain ⟨c, hc, rfl⟩ := List.mem_map.mp h
  rcases bitsT_01 hc with rfl | rfl
  · exact .inl rfl
  · exact .inr rfl
theorem dig_un : ∀ (l n : Nat), (bitsI l n).map dig = bitsT l n := fun l n => by
  unfold bitsI
  rw [List.map_map]
  conv => rhs; rw [← List.map_id (bitsT l n)]
  refine List.map_congr_left fun c hc => ?_
  rcases bitsT_01 hc with rfl | rfl <;> rfl
/-! ### bits put together -/
def valB : List Int → Int := fun cs => cs.foldl (fun b x => b * 2 + x) 0
theorem valB_snoc (cs : List Int) (x : Int) : valB (cs ++ [x]) = valB cs * 2 + x := by unfold valB; rw [List.foldl_append]; rfl
theorem valB_is {cs : List Int} {a : Nat} {ws : List Int} (h : ∀ k, k < ws.length → ws[k]? = some (oneAt (cs.map dig) (a + k))) : ∀ k, k ≤ ws.length → valB (ws.take k) = valK (cs.map dig) a k
  | 0, _ => rfl
  | k + 1, hk => by
    have ih := valB_is h k (by omega)
    rw [List.take_add_one, h k (by omega), Option.toList_some, valB_snoc, ih, valK]
    omega
theorem one_dig {cs : List Int} (h : ∀ c ∈ cs, c = 0 ∨ c = 1) {q : Nat} : oneAt (cs.map dig) q = cs.getD q 0 := by
  unfold oneAt
  rw [List.getElem?_map, List.getD_eq_getElem?_getD]
  cases e : cs[q]? with
  | none => rfl
  | some c =>
    rcases h c (List.mem_of_getElem? e) with rfl | rfl <;> rfl
/-! ### lengths by bytes that rise -/
def lsU (bs : List Int) (g : Int → Nat) : List (Int × Int) := bs.map fun b => (((g b : Nat) : Int), b)
def lsS (bs : List Int) (g : Int → Nat) : List (Int × Int) := lsU (bs.mergeSort iLe) g
theorem pl_eq : ∀ {a b : List (Int × Int)}, a.Pairwise (fun p q => pLe p q = true) → b.Pairwise (fun p q => pLe p q = true) → a.Perm b → a = b
  | [], b, _, _, p => by rw [List.nil_perm.mp p]
  | x :: a, [], _, _, p => by cases p.length_eq
  | x :: a, y :: b, ha, hb, p => by
    obtain ⟨a1, a2⟩ := List.pairwise_cons.mp ha
    obtain ⟨b1, b2⟩ := List.pairwise_cons.mp hb
    have anti : ∀ u v : Int × Int, pLe u v = true → pLe v u = true → u = v := fun u v h1 h2 => by
      unfold pLe at h1 h2
      rw [decide_eq_true_eq] at h1 h2
      obtain ⟨u1, u2⟩ := u
      obtain ⟨v1, v2⟩ := v
      dsimp only at h1 h2
      have e1 : u1 = v1 := by omega
      have e2 : u2 = v2 := by omega
      rw [e1, e2]
    have e : x = y := by
      have m1 : x ∈ y :: b := p.mem_iff.mp List.mem_cons_self
      have m2 : y ∈ x :: a := p.mem_iff.mpr List.mem_cons_self
      rcases List.mem_cons.mp m1 with h | h
      · exact h
      · rcases List.mem_cons.mp m2 with k | k
        · exact k.symm
        · exact anti x y (a1 y k) (b1 x h)
    subst e
    rw [pl_eq a2 b2 p.cons_inv]
theorem wds_perm {a b : List (Int × Int)} (p : a.Perm b) : wds a = wds b := by
  unfold wds
  rw [pl_eq (List.pairwise_mergeSort pLe_trans pLe_total a) (List.pairwise_mergeSort pLe_trans pLe_total b) ((srt_perm a).trans (p.trans (srt_perm b).symm))]
theorem lsS_perm (bs : List Int) (g : Int → Nat) : (lsS bs g).Perm (lsU bs g) := (iSort_perm bs).map _
theorem lsU_dL (bs : List Int) (g : Int → Nat) : dL (lsU bs g) = dF bs fun b => ((g b : Nat) : Int) := by
  unfold dL lsU dF
  rw [List.map_map]
  rfl
theorem lsU_kr (bs : List Int) (g : Int → Nat) : kraft (lsU bs g) = kr g bs := by
  unfold kraft lsU kr
  rw [List.map_map]
  rfl
theorem lsS_len (bs : List Int) (g : Int → Nat) : (lsS bs g).length = bs.length := by rw [(lsS_perm bs g).length_eq]; unfold lsU; rw [List.length_map]
theorem lsS_snd (bs : List Int) (g : Int → Nat) : (lsS bs g).map (·.2) = bs.mergeSort iLe := by
  unfold lsS lsU
  rw [List.map_map]
  exact List.map_id _
theorem good_len {bs : List Int} {f : Int → Int} {g : Int → Nat} (h : LenOk bs f g) (nd : bs.Nodup) (few : bs.length ≤ 100) (byt : ∀ b ∈ bs, 0 ≤ b ∧ b < 256) : Good (lsS bs g) := by
  have ll := lsS_len bs g
  have mem : ∀ p ∈ lsS bs g, ∃ b ∈ bs, p = (((g b : Nat) : Int), b) := fun p hp => by
    have := (lsS_perm bs g).mem_iff.mp hp
    unfold lsU at this
    obtain ⟨b, hb, rfl⟩ := List.mem_map.mp this
    exact ⟨b, hb, rfl⟩
  refine ⟨by omega, fun p hp => ?_, fun e p hp => ?_, fun e => ?_, ?_, fun p hp => ?_⟩
  · obtain ⟨b, hb, rfl⟩ := mem p hp
    dsimp only
    rcases Nat.lt_or_ge 1 bs.length with c | c
    · have := h.lng c b hb
      omega
    · have l1 : bs.length = 1 := by have := List.length_pos_of_mem hb; omega
      have := h.one l1 b hb
      omega
  · obtain ⟨b, hb, rfl⟩ := mem p hp
    have := h.one (by omega) b hb
    dsimp only
    omega
  · have : kraft (lsS bs g) = kraft (lsU bs g) := by unfold kraft; exact List.Perm.sum_nat ((lsS_perm bs g).map _)
    rw [this, lsU_kr]
    exact h.sum (by omega)
  · rw [lsS_snd]
    have ne := ((iSort_perm bs).nodup_iff.mpr nd)
    exact ((iSort_up bs).and ne).imp fun {a b} k => by
      have h1 := k.1
      have h2 := k.2
      omega
  · obtain ⟨b, hb, rfl⟩ := mem p hp
    exact byt b hb
/-! ### a tuple of a generator expression over a range of steps -/
section
variable {te : TE} {vs : List Nat} {σ : L2.St} {H1 : Hp} {j : Nat} {Q : VK}
theorem gwT_rngC {lo c : Int} {n : Nat} (f : Nat → V) (hz : n ≤ sizeLine) (hw : ∀ x, wipe ((wipe σ vs).set j (some x)) vs = wipe σ vs)
    (item : ∀ (i : Nat) (H : Hp) (R : VK), i < n → Same H1 H → (∀ H', Same H H' → R (f i) H') → te ((wipe σ vs).set j (some (.int (lo + (i : Nat) * c)))) H R) (hd : ∀ H', Same H1 H' → ∀ p, H' p = none → Q (.ref p) (upd H' p (.tup ((List.range n).map f)))) :
    ∃ W : Nat → Nat → List V → Hp → Prop, (∃ m, W 0 m [] H1) ∧ GWalkT (Itc lo c n) (gName j) tYes te vs σ (fun ys H' => ys.length ≤ sizeLine ∧ ∀ p, H' p = none → Q (.ref p) (upd H' p (.tup ys))) W := by
  refine ⟨fun i m ys H => m = n - i ∧ i ≤ n ∧ Same H1 H ∧ ys = (List.range i).map f, ⟨n, rfl, Nat.zero_le _, Same.refl _, rfl⟩, ?_⟩
  rintro i m ys H ⟨rfl, hi, sm, rfl⟩
  by_cases lt : i < n
  · refine .inr ⟨lt, fun ys' H' => Same H1 H' ∧ ys' = (List.range (i + 1)).map f, fun ys' H' p => ⟨n - (i + 1), by omega, rfl, lt, p.1, p.2⟩, fun x H' y => ?_⟩
    obtain ⟨e, rfl⟩ := y
    subst e
    refine ⟨hw _, ?_⟩
    unfold tYes
    dsimp only
    rw [if_pos rfl]
    refine item i _ _ lt sm fun H2 s2 => ⟨by rw [List.length_map, List.length_range]; omega, sm.trans s2, ?_⟩
    rw [List.range_succ, List.map_append]
    rfl
  · have e : i = n := by omega
    subst e
    exact .inl ⟨Nat.le_refl _, by rw [List.length_map, List.length_range]; exact hz, hd H sm⟩
end
/-! ### what the bits cost -/
theorem perm_nd : ∀ {a b : List Int}, a.Nodup → b.Nodup → (∀ k, k ∈ a ↔ k ∈ b) → a.Perm b
  | [], b, _, _, h => by
    have : b = [] := List.eq_nil_iff_forall_not_mem.mpr fun k hk => nomatch (h k).mpr hk
    rw [this]
  | x :: a, b, na, nb, h => by
    obtain ⟨n1, n2⟩ := List.nodup_cons.mp na
    have hx : x ∈ b := (h x).mp List.mem_cons_self
    have ih := perm_nd (a := a) (b := b.erase x) n2 (nb.erase x) fun k => by
      constructor
      · intro hk
        have ne : k ≠ x := fun e => n1 (by rw [← e]; exact hk)
        exact (List.mem_erase_of_ne ne).mpr ((h k).mp (List.mem_cons_of_mem _ hk))
      · intro hk
        have kb := List.mem_of_mem_erase hk
        rcases List.mem_cons.mp ((h k).mpr kb) with e | hk2
        · rw [e] at hk
          exact absurd hk (List.Nodup.not_mem_erase nb)
        · exact hk2
    exact (ih.cons x).trans (List.perm_cons_erase hx).symm
theorem one_sum {g : Int → Nat} {c : Int} : ∀ {bs : List Int}, bs.Nodup → (bs.map fun b => (if c = b then 1 else 0) * g b).sum = if c ∈ bs then g c else 0
  | [], _ => rfl
  | b :: bs, nd => by
    obtain ⟨n1, n2⟩ := List.nodup_cons.mp nd
    rw [List.map_cons, List.sum_cons, one_sum n2]
    by_cases e : c = b
    · subst e
      rw [if_pos rfl, if_neg n1, if_pos List.mem_cons_self]
      omega
    · rw [if_neg e]
      by_cases m : c ∈ bs
      · rw [if_pos m, if_pos (List.mem_cons_of_mem _ m)]
        omega
      · rw [if_neg m, if_neg fun k => by
          rcases List.mem_cons.mp k with k | k
          · exact e k
          · exact m k]
        omega
theorem sum_add {p q : Int → Nat} : ∀ {bs : List Int}, (bs.map fun b => p b + q b).sum = (bs.map p).sum + (bs.map q).sum
  | [] => rfl
  | b :: bs => by
    rw [List.map_cons, List.sum_cons, List.map_cons, List.sum_cons, List.map_cons, List.sum_cons, sum_add]
    omega
theorem sum_count {g : Int → Nat} {bs : List Int} (nd : bs.Nodup) : ∀ {body : List Int}, (∀ b ∈ body, b ∈ bs) → (body.map g).sum = (bs.map fun b => body.count b * g b).sum
  | [], _ => by
    have : (bs.map fun b => ([] : List Int).count b * g b) = bs.map fun _ => 0 := List.map_congr_left fun b _ => by rw [List.count_nil, Nat.zero_mul]
    rw [this]
    have k : ∀ l : List Int, (l.map fun _ => 0).sum = 0 := fun l => by
      induction l with
      | nil => rfl
      | cons b l ih => rw [List.map_cons, List.sum_cons, ih]
    rw [k]
    rfl
  | c :: body, h => by
    have ih := sum_count (g := g) nd (body := body) fun b hb => h b (List.mem_cons_of_mem _ hb)
    have e : (bs.map fun b => (c :: body).count b * g b) = bs.map fun b => body.count b * g b + (if c = b then 1 else 0) * g b := List.map_congr_left fun b _ => by
      rw [List.count_cons, Nat.add_mul]
      by_cases e : c = b
      · simp [e]
      · simp [e]
    rw [e, sum_add, one_sum nd, if_pos (h c List.mem_cons_self), ← ih, List.map_cons, List.sum_cons]
    omega
theorem sum_cast {p : Int → Nat} : ∀ {bs : List Int}, (((bs.map p).sum : Nat) : Int) = (bs.map fun b => ((p b : Nat) : Int)).sum
  | [] => rfl
  | b :: bs => by rw [List.map_cons, List.sum_cons, List.map_cons, List.sum_cons, Int.natCast_add, sum_cast]
theorem txt_sum {bs body : List Int} {g : Int → Nat} (h : ∀ b ∈ body, b ∈ bs) : (txt (lsS bs g) body).length = (body.map g).sum := by
  have key : ∀ b ∈ bs, (wB (lsS bs g) b).1 = g b := fun b hb => by
    have hm : b ∈ (lsS bs g).map (·.2) := by
      rw [lsS_snd]
      exact (iSort_perm bs).mem_iff.mpr hb
    obtain ⟨k1, k2⟩ := wB_is hm
    have : ((wB (lsS bs g) b).1, (wB (lsS bs g) b).2.2) ∈ ((lsS bs g).mergeSort pLe).map fun p => (p.1.toNat, p.2) := by
      rw [← wds_map]
      exact List.mem_map.mpr ⟨_, k1, rfl⟩
    obtain ⟨p, hp, e⟩ := List.mem_map.mp this
    have hp2 := (lsS_perm bs g).mem_iff.mp ((srt_perm _).mem_iff.mp hp)
    unfold lsU at hp2
    obtain ⟨c, _, rfl⟩ := List.mem_map.mp hp2
    have e1 := congrArg Prod.fst e
    have e2 := congrArg Prod.snd e
    dsimp only at e1 e2
    rw [k2] at e2
    subst e2
    rw [← e1]
    omega
  induction body with
  | nil => rfl
  | cons b body ih =>
    have e : txt (lsS bs g) (b :: body) = sign (lsS bs g) b ++ txt (lsS bs g) body := rfl
    have e2 : (sign (lsS bs g) b).length = (wB (lsS bs g) b).1 := by unfold sign; rw [bitsT_len]
    rw [e, List.length_append, e2, key b (h b List.mem_cons_self), ih fun c hc => h c (List.mem_cons_of_mem _ hc), List.map_cons, List.sum_cons]
theorem sum_all {bs body : List Int} (nd : bs.Nodup) (h : ∀ b ∈ body, b ∈ bs) : (bs.map fun b => (body.count b : Int)).sum = (body.length : Int) := by
  have := sum_count (g := fun _ => 1) nd h
  have e : (bs.map fun b => body.count b * 1) = bs.map fun b => body.count b := List.map_congr_left fun b _ => Nat.mul_one _
  have e2 : (body.map fun _ => 1).sum = body.length := by
    clear this h e
    induction body with
    | nil => rfl
    | cons b body ih => rw [List.map_cons, List.sum_cons, List.length_cons, ih]; omega
  rw [e, e2] at this
  rw [this, sum_cast]
end Fc

namespace Fc
open PySem PySem.Spec L2 PyProof.Rows
/-! ### sets of ints -/
/-- the set of the ints ns at a -/
def SetIO (w : World) (a : Addr) (ns : List Int) : HO := .ext fun h => ∃ c, SetR w h a (fun j => decide (j ∈ ns)) c ∧ c ≤ ns.length
section
variable {X : Cx}
def rSetT (K : PySem.W.Frag) (w : World) : List V → Hp → VK → Prop := fun xs H Q => ∃ (p : Addr) (ns : List Int), xs = [.ref p] ∧ SqT K H p (ns.map V.int) ∧ ns.length ≤ 1000 ∧ ∀ a, H a = none → Q (.ref a) (upd H a (SetIO w a ns))
theorem cr_setT (calm : X.calm = true) : CallR X (.type "set") (rSetT X.K X.w) := by
  intro pins s σ H xs us Q I r h
  obtain ⟨p, ns, rfl, hp, few, fin⟩ := h
  obtain rfl := Vals.ref1 r
  obtain ⟨its, rv, pt, hz⟩ := I.tuple hp
  have hi : IntsAre its.toArray.toList ns := ints_of_vals rv
  refine call_set_tupI ns (I.ok.hd calm) (show s.heap.IsTuple p its.toArray from pt) hi (by unfold scanBound; omega) fun h' tk c R1 hcn k => ?_
  have ex : ∃ o, h'.get? s.heap.objs.size = some o := by
    obtain ⟨o, _, _, _, ho, _⟩ := R1
    exact ⟨o, ho⟩
  exact ⟨.ref s.heap.objs.size, upd H s.heap.objs.size (SetIO X.w s.heap.objs.size ns), I.laid (t' := tk) k (Nat.le_refl _) ⟨⟨c, R1, hcn⟩, ex, fun h1 h2 ⟨c', R2, l2⟩ kk => ⟨c', R2.at kk, l2⟩⟩, rfl, fin _ (I.hok.fresh (Nat.le_refl _))⟩
def rSortI (w : World) : List V → Hp → VK → Prop := fun xs H Q => ∃ (a : Addr) (ns : List Int), xs = [.ref a] ∧ H a = some (SetIO w a ns) ∧ (∀ bs : List Int, bs.Nodup → (∀ b ∈ bs, b ∈ ns) → bs.length < 64) ∧ ∀ (ys : List Int) (p : Addr), ys.Pairwise (· < ·) → (∀ k, k ∈ ys ↔ k ∈ ns) → H p = none → Q (.ref p) (upd H p (.lst (ys.map V.int)))
theorem cr_sortI (calm : X.calm = true) : CallR X (.builtin "sorted") (rSortI X.w) := by
  intro pins s σ H xs us Q I r h
  obtain ⟨a, ns, rfl, ha, few, fin⟩ := h
  obtain rfl := Vals.ref1 r
  obtain ⟨c, R, lc⟩ : ∃ c, SetR X.w s.heap a (fun j => decide (j ∈ ns)) c ∧ c ≤ ns.length := (I.hok a _ ha).1
  have c64 : c < 64 := by
    obtain ⟨o, es, ep, t, ho, hex, hd, g, nd, hm, hb, hf, hn, hr, hl⟩ := R
    have := few (es.toList.map keyOf) nd fun b hb => of_decide_eq_true ((hm b).mpr hb)
    rw [List.length_map, Array.length_toList] at this
    omega
  refine sorted_set R (I.ok.hd calm) c64 fun s' p out e ys k g1 o1 hz hg hi up hm hl => ?_
  have hn : H p = none := I.hok.fresh hz
  have ly : (ys.map V.int).length ≤ sizeLine := by rw [List.length_map, sizeLine_eq]; omega
  have J : Inv X pins σ (upd H p (.lst (ys.map V.int))) s' :=
    I.call' (ch := []) o1 (Un.laid k hz hn) (I.hok.laid k hz ⟨ly, out.toList, e, vals_of_ints hi, by rw [Array.toArray_toList]; exact hg⟩) (by rw [g1]; exact I.bare) (fun _ z => nomatch z)
  exact ⟨.ref p, _, J, rfl, fin ys p up (fun j => by rw [hm j, decide_eq_true_eq]) hn⟩
/-- t.count(k), t a tuple of ints -/
def rCntT (K : PySem.W.Frag) : V → List V → Hp → VK → Prop := fun x xs H Q => ∃ (p : Addr) (ns : List Int) (k : Int), x = .ref p ∧ xs = [.int k] ∧ SqT K H p (ns.map V.int) ∧ Q (.int (ns.count k : Nat)) H
theorem mt_tcount : MtR X "tuple.count" (rCntT X.K) := by
  intro pins s σ H x xs v us Q I rx rxs h
  obtain ⟨p, ns, k, rfl, rfl, hs, q⟩ := h
  cases rx
  obtain ⟨u, rfl, ru⟩ := rxs.one
  obtain ⟨t, rfl⟩ := ru
  obtain ⟨its, rv, ⟨⟨cls, dd, data, sl⟩, ho, hc, n, hd⟩, hlen⟩ := I.tuple hs
  simp only at hc hd
  subst hc hd
  have hi := ints_of_vals rv
  refine call_meets PySem.F.slot_tuple_count ⟨_, ho, rfl⟩ PySem.F.entry_tuple_count (PySem.F.args_tuple_count_2 _ _)
    (SeqAt.tuple_countAt p its.toArray n dd sl (.int k t) (eqk k)) ⟨ho, fun y hy => (eqk_gives hi y (by simpa using hy)).at _ _, ?_⟩
  have ec : its.toArray.toList.countP (eqk k) = ns.count k := eqk_count hi
  refine ⟨.int (ns.count k : Nat), H, I.tok _, ⟨s.toks, ?_⟩, q⟩
  show Value.int ((its.toArray.toList.countP (eqk k) : Nat) : Int) s.toks = Value.int ((ns.count k : Nat) : Int) s.toks
  rw [ec]
/-! ### tuples that are known to have no dict -/
def TupD (H : Hp) (p : Addr) (xs : List V) : Prop := ∃ od : Obj, H p = some (.frz od (.tup xs)) ∧ od.dict = none
theorem TupD.sq {K : PySem.W.Frag} {H : Hp} {p : Addr} {xs : List V} (h : TupD H p xs) : SqT K H p xs := let ⟨od, e, _⟩ := h; .inl (.inr ⟨od, e⟩)
theorem TupD.keep [LamNames] {H H' : Hp} {p : Addr} {xs : List V} (h : TupD H p xs) (s : Same H H') : TupD H' p xs := let ⟨od, e, d⟩ := h; ⟨od, s _ _ e, d⟩
theorem call_tupleD : CallR X (.type "tuple") (fun xs H Q => ∃ p ys, xs = [.ref p] ∧ SqL X.K H p ys ∧ ∀ l od, H l = none → od.dict = none → Q (.ref l) (upd H l (.frz od (.tup ys)))) := by
  intro pins s σ H xs us Q I r h
  obtain ⟨p, ys, rfl, hq, q⟩ := h
  obtain ⟨u, rfl, rx⟩ := vals1 r
  cases rx
  obtain ⟨its, r', pl, hz⟩ := I.list hq
  have hlen := r'.length
  refine call_tuple_list pl.isList (fun h' kp => ?_) (by simp only [List.size_toArray] <;> omega)
  have I1 : Inv X pins σ H { s with heap := h' } := I.kept (t' := s.toks) kp
  have I2 : Inv X pins σ (upd H h'.objs.size (.frz { cls := .type "tuple", data := .seq its.toArray } (.tup ys))) { s with heap := h'.push { cls := .type "tuple", data := .seq its.toArray } } :=
    I1.laid (t' := s.toks) (fun b o e => Heap.get?_push_of_some _ e) (Nat.le_refl _) ⟨Heap.get?_push_size _ rfl, hz, its, r', IsTup.new _ _⟩
  exact ⟨.ref h'.objs.size, _, I2, rfl, q _ _ (I1.hok.fresh (Nat.le_refl _)) rfl⟩
def rCatD [LamNames] (K : PySem.W.Frag) : R2 := fun x y H Q => ∃ a b xs ys, x = .ref a ∧ y = .ref b ∧ SqT K H a xs ∧ SqT K H b ys ∧ xs.length + ys.length ≤ sizeLine ∧ ∀ H' p, Same H H' → SqT K H' p (xs ++ ys) → (xs ≠ [] → TupD H a xs → TupD H' p (xs ++ ys)) → Q (.ref p) H'
theorem op_catD [LamNames] : OpR X (binaryOp .Add) (rCatD X.K) := by
  intro pins s σ H x y v u Q I rx ry h
  obtain ⟨a, b, xs, ys, rfl, rfl, ha, hb, hz, q⟩ := h
  by_cases hx : xs = []
  · exact op_catU pins s σ H _ _ v u Q I rx ry ⟨a, b, xs, ys, rfl, rfl, ha, hb, hz, fun H' p s' h' => q H' p s' h' fun n => absurd hx n⟩
  cases rx
  cases ry
  obtain ⟨its, r1, p1, _⟩ := I.tuple ha
  obtain ⟨its2, r2, p2, _⟩ := I.tuple hb
  refine HT.cat_tup p1 p2 (fun z => hx (r1.nil_iff.mp z)) (fun z => ⟨.ref a, H, I, rfl, ?_⟩) (fun z => ?_) (by rw [← r1.length, ← r2.length]; exact hz)
  · have e := r2.nil_iff.mp z
    subst e
    exact q H a (Same.refl H) (by rw [List.append_nil]; exact ha) fun _ d => by rw [List.append_nil]; exact d
  · have n := I.hok.fresh (Nat.le_refl s.heap.objs.size)
    refine ⟨.ref s.heap.objs.size, upd H s.heap.objs.size (.frz _ (.tup (xs ++ ys))), I.laid (t' := s.toks) (fun b ob q => Heap.get?_push_of_some _ q) (Nat.le_refl _) ⟨Heap.get?_push_size _ rfl, by rw [List.length_append]; exact hz, _, r1.append r2, IsTup.new _ _⟩, rfl, q _ _ (grow n) (.inl (.inr ⟨_, upd_same⟩)) fun _ _ => ⟨_, upd_same, rfl⟩⟩
/-- t.count(k), t a tuple without a dict -/
def tTC (K : PySem.W.Frag) (to : TE) (ta : TA) : TE := fun σ H Q => to σ H fun x H1 => ∃ (p : Addr) (ns : List Int), x = .ref p ∧ TupD H1 p (ns.map V.int) ∧ ta σ H1 fun ys H2 => ∃ k : Int, ys = [.int k] ∧ SqT K H2 p (ns.map V.int) ∧ Q (.int (ns.count k : Nat)) H2
theorem pe_tcount {o e : Expr} {to : TE} {ta : TA} {apos cpos : Pos} (ho : PE X o to) (ha : PA X [e] ta)
    (hbase : attributeBase o "count" X.env (eval o X.env) = eval o X.env := by rfl)
    (hfew : ((backTo cpos (starEach [e] X.env)).all (fun x => !x.1) && (backToKw cpos (keywordEach [] X.env)).all (fun x => x.1.isSome)
      && decide ([e].length + ([] : List Keyword).length + (if ([] : List Keyword).isEmpty then 0 else 1) < 30)) = true := by rfl)
    (hline : (apos.endLine == cpos.line) = true := by rfl) (hs : starEach [e] X.env = (false, eval e X.env) :: starEach [] X.env := by rfl) (hplain : (backTo cpos (starEach [] X.env)).any (·.1) = false := by rfl) :
    PE X (.Call (.Attribute o "count" apos) [e] [] cpos) (tTC X.K to ta) := by
  refine ⟨fun pins s σ H Q I h => ?_⟩
  refine wpAny_Call_method_late hbase hfew hline rfl (thn (ho.run pins s σ H _ I h) fun v s1 ⟨x, H1, I1, r1, p, ns, ex, td, q1⟩ => ?_)
  subst ex
  obtain ⟨od, hp, dn⟩ := td
  obtain rfl : v = Value.ref p := r1
  have ob : s1.heap.get? p = some od := (I1.hok p _ hp).1
  have ty : s1.TypeIs (.ref p) "tuple" := by
    obtain ⟨its, rv, ⟨o2, ho2, hc, n, hd⟩, hlen⟩ := I1.tuple (TupD.sq ⟨od, hp, dn⟩)
    exact ⟨o2, ho2, hc⟩
  refine ⟨"tuple", "tuple.count", PySem.F.plainAttrs_tuple, PySem.F.slot_tuple_count, PySem.F.type_tuple_count, ty, fun a e => by cases e; exact ⟨od, ob, dn⟩, ?_⟩
  have hA := ha.run cpos pins s1 σ H1 _ I1 q1
  rw [hs] at hA ⊢
  refine Calls.callWith_builtin (by show (false || (backTo cpos (starEach [] X.env)).any (·.1)) = false; rw [hplain] <;> rfl) (Calls.evalArgs_plain ?_)
  exact thn hA fun us s2 ⟨vs, H2, I2, r2, k, e, hsq, q2⟩ => mt_tcount pins s2 σ H2 (.ref p) vs (.ref p) us Q I2 rfl r2 ⟨p, ns, k, rfl, e, hsq, q2⟩
theorem pe_tcountq {K : PySem.W.Frag} (hK : X.K = K) {o e : Expr} {to : TE} {ta : TA} {apos cpos : Pos} (ho : PE X o to) (ha : PA X [e] ta)
    (hbase : attributeBase o "count" X.env (eval o X.env) = eval o X.env := by rfl)
    (hfew : ((backTo cpos (starEach [e] X.env)).all (fun x => !x.1) && (backToKw cpos (keywordEach [] X.env)).all (fun x => x.1.isSome)
      && decide ([e].length + ([] : List Keyword).length + (if ([] : List Keyword).isEmpty then 0 else 1) < 30)) = true := by rfl)
    (hline : (apos.endLine == cpos.line) = true := by rfl) (hs : starEach [e] X.env = (false, eval e X.env) :: starEach [] X.env := by rfl) (hplain : (backTo cpos (starEach [] X.env)).any (·.1) = false := by rfl) :
    PE X (.Call (.Attribute o "count" apos) [e] [] cpos) (tTC K to ta) := by
  subst hK
  exact pe_tcount ho ha hbase hfew hline hs hplain
end
end Fc

namespace Fc
/-! ### copies of what stood ahead -/
def agr (S : List Int) (q far m : Nat) : Prop := q + m ≤ S.length ∧ ∀ i, i < m → S[q + i]? = S[q + i - far]?
def cop (S : List Int) (q far m : Nat) : Prop := 1 ≤ far ∧ far ≤ q ∧ far ≤ 256 ∧ m ≤ 130 ∧ agr S q far m
theorem agr.le {S : List Int} {q far m m' : Nat} (h : agr S q far m) (l : m' ≤ m) : agr S q far m' := ⟨by have := h.1; omega, fun i hi => h.2 i (by omega)⟩
theorem cop.le {S : List Int} {q far m m' : Nat} (h : cop S q far m) (l : m' ≤ m) : cop S q far m' := ⟨h.1, h.2.1, h.2.2.1, by have := h.2.2.2.1; omega, h.2.2.2.2.le l⟩
theorem cop.next {S : List Int} {q far m : Nat} (h : cop S q far (m + 1)) : cop S (q + 1) far m := by
  obtain ⟨a, b, c, d, e, f⟩ := h
  refine ⟨a, by omega, c, by omega, by omega, fun i hi => ?_⟩
  have := f (i + 1) (by omega)
  rw [show q + 1 + i = q + (i + 1) by omega]
  exact this
def runF (p : Nat → Bool) : Nat → Nat → Nat
  | 0, i => i
  | f + 1, i => if p i = true then runF p f (i + 1) else i
theorem runF_ge (p : Nat → Bool) : ∀ f i, i ≤ runF p f i
  | 0, i => Nat.le_refl _
  | f + 1, i => by
    rw [runF]
    split
    · have := runF_ge p f (i + 1)
      omega
    · exact Nat.le_refl _
theorem runF_le (p : Nat → Bool) : ∀ f i, runF p f i ≤ i + f
  | 0, i => Nat.le_refl _
  | f + 1, i => by
    rw [runF]
    split
    · have := runF_le p f (i + 1)
      omega
    · omega
theorem runF_all (p : Nat → Bool) : ∀ f i j, i ≤ j → j < runF p f i → p j = true
  | 0, i, j, h1, h2 => by
    rw [runF] at h2
    omega
  | f + 1, i, j, h1, h2 => by
    rw [runF] at h2
    split at h2
    · rename_i hp
      by_cases e : j = i
      · rw [e]; exact hp
      · exact runF_all p f (i + 1) j (by omega) h2
    · omega
theorem runF_end (p : Nat → Bool) : ∀ f i, runF p f i = i + f ∨ p (runF p f i) = false
  | 0, i => .inl rfl
  | f + 1, i => by
    rw [runF]
    split
    · rcases runF_end p f (i + 1) with h | h
      · left; omega
      · exact .inr h
    · rename_i hp
      exact .inr (Bool.eq_false_iff.mpr hp)
def eqAt (S : List Int) (q far i : Nat) : Bool := decide (S[q + i]? = S[q + i - far]?)
def runS (S : List Int) (q far : Nat) : Nat := runF (eqAt S q far) (S.length - q) 0
def repF (S : List Int) (q far : Nat) : Nat := min (runS S q far) 130
theorem agr_iff {S : List Int} {q far m : Nat} (hq : q ≤ S.length) : agr S q far m ↔ m ≤ runS S q far := by
  unfold runS
  constructor
  · intro ⟨h1, h2⟩
    rcases runF_end (eqAt S q far) (S.length - q) 0 with h | h
    · omega
    · by_cases l : m ≤ runF (eqAt S q far) (S.length - q) 0
      · exact l
      · have := h2 _ (Nat.lt_of_not_le l)
        unfold eqAt at h
        exact absurd this (of_decide_eq_false h)
  · intro h
    have hl := runF_le (eqAt S q far) (S.length - q) 0
    exact ⟨by omega, fun i hi => of_decide_eq_true (runF_all (eqAt S q far) (S.length - q) 0 i (Nat.zero_le _) (by omega))⟩
theorem cop_iff {S : List Int} {q far m : Nat} (hq : q ≤ S.length) (h1 : 1 ≤ far) (h2 : far ≤ q) (h3 : far ≤ 256) : cop S q far m ↔ m ≤ repF S q far := by
  unfold repF
  constructor
  · intro ⟨_, _, _, a, b⟩
    have := (agr_iff hq).mp b
    omega
  · intro h
    exact ⟨h1, h2, h3, by omega, (agr_iff hq).mpr (by omega)⟩
theorem fmax_ge : ∀ (l : List Nat) (a : Nat), a ≤ l.foldl max a ∧ ∀ x ∈ l, x ≤ l.foldl max a
  | [], a => ⟨Nat.le_refl _, fun x h => nomatch h⟩
  | y :: r, a => by
    have := fmax_ge r (max a y)
    refine ⟨by show a ≤ r.foldl max (max a y); omega, fun x hx => ?_⟩
    rcases List.mem_cons.mp hx with rfl | hx
    · show x ≤ r.foldl max (max a x)
      omega
    · exact this.2 x hx
theorem fmax_at : ∀ (l : List Nat) (a : Nat), l.foldl max a = a ∨ l.foldl max a ∈ l
  | [], a => .inl rfl
  | y :: r, a => by
    show r.foldl max (max a y) = a ∨ r.foldl max (max a y) ∈ y :: r
    rcases fmax_at r (max a y) with h | h
    · rw [h]
      by_cases l : y ≤ a
      · left; omega
      · right
        rw [show max a y = y by omega]
        exact List.mem_cons_self ..
    · exact .inr (List.mem_cons_of_mem _ h)
def reps (S : List Int) (q : Nat) : List Nat := (List.range (min q 256)).map fun j => repF S q (j + 1)
def lonF (S : List Int) (q : Nat) : Nat := (reps S q).foldl max 0
theorem lon_is {S : List Int} {q m : Nat} (hm : m ∈ 0 :: reps S q) (h : ∀ x ∈ 0 :: reps S q, x ≤ m) : m = lonF S q := by
  have g := fmax_ge (reps S q) 0
  have a : lonF S q ≤ m := by
    rcases fmax_at (reps S q) 0 with e | e
    · unfold lonF; omega
    · exact h _ (List.mem_cons_of_mem _ e)
  have b : m ≤ lonF S q := by
    rcases List.mem_cons.mp hm with e | e
    · omega
    · exact g.2 _ e
  omega
theorem lon_le {S : List Int} {q far m : Nat} (hq : q ≤ S.length) (h : cop S q far m) : m ≤ lonF S q := by
  have := (cop_iff hq h.1 h.2.1 h.2.2.1).mp h
  have g := (fmax_ge (reps S q) 0).2 (repF S q far) (List.mem_map.mpr ⟨far - 1, List.mem_range.mpr (by have := h.1; have := h.2.1; have := h.2.2.1; omega), by rw [show far - 1 + 1 = far by have := h.1; omega]⟩)
  unfold lonF
  omega
theorem lon_at {S : List Int} {q : Nat} (hq : q ≤ S.length) : lonF S q = 0 ∨ ∃ far, cop S q far (lonF S q) := by
  rcases fmax_at (reps S q) 0 with e | e
  · exact .inl e
  · right
    obtain ⟨j, hj, e2⟩ := List.mem_map.mp e
    have := List.mem_range.mp hj
    exact ⟨j + 1, (cop_iff hq (by omega) (by omega) (by omega)).mpr (by unfold lonF; omega)⟩
/-- a longest copy as the program tells it: right where it counts -/
structure LonOk (S : List Int) (q m b : Nat) : Prop where
  ok : 3 ≤ m → cop S q b m
  all : ∀ far k, 3 ≤ k → cop S q far k → k ≤ m
theorem LonOk.eq {S : List Int} {q m b : Nat} (hq : q ≤ S.length) (h : LonOk S q m b) (h3 : 3 ≤ m) : m = lonF S q := by
  have a := lon_le hq (h.ok h3)
  rcases lon_at hq with e | ⟨far, e⟩
  · omega
  · have := h.all far _ (by omega) e
    omega
theorem LonOk.few {S : List Int} {q m b : Nat} (hq : q ≤ S.length) (h : LonOk S q m b) (h3 : ¬ 3 ≤ m) : lonF S q < 3 := by
  rcases lon_at hq with e | ⟨far, e⟩
  · omega
  · by_cases l : lonF S q < 3
    · exact l
    · have := h.all far _ (by omega) e
      omega
theorem lon_few {S : List Int} {q : Nat} (hq : q ≤ S.length) : lonF S q ≤ S.length - q ∧ lonF S q ≤ 130 := by
  rcases lon_at hq with e | ⟨far, e⟩
  · omega
  · have := e.2.2.2.1
    have := e.2.2.2.2.1
    omega
/-! ### the least cost -/
def minL : List Nat → Nat
  | [] => 0
  | x :: r => r.foldl min x
theorem fmin_le : ∀ (l : List Nat) (a : Nat), l.foldl min a ≤ a ∧ ∀ x ∈ l, l.foldl min a ≤ x
  | [], a => ⟨Nat.le_refl _, fun x h => nomatch h⟩
  | y :: r, a => by
    have := fmin_le r (min a y)
    refine ⟨by show r.foldl min (min a y) ≤ a; omega, fun x hx => ?_⟩
    rcases List.mem_cons.mp hx with rfl | hx
    · show r.foldl min (min a x) ≤ x
      omega
    · exact this.2 x hx
theorem fmin_at : ∀ (l : List Nat) (a : Nat), l.foldl min a = a ∨ l.foldl min a ∈ l
  | [], a => .inl rfl
  | y :: r, a => by
    show r.foldl min (min a y) = a ∨ r.foldl min (min a y) ∈ y :: r
    rcases fmin_at r (min a y) with h | h
    · rw [h]
      by_cases l : a ≤ y
      · left; omega
      · right
        rw [show min a y = y by omega]
        exact List.mem_cons_self ..
    · exact .inr (List.mem_cons_of_mem _ h)
theorem minL_is {l : List Nat} {m : Nat} (hm : m ∈ l) (h : ∀ x ∈ l, m ≤ x) : m = minL l := by
  cases l with
  | nil => cases hm
  | cons x r =>
    have g := fmin_le r x
    have a : minL (x :: r) ≤ m := by
      show r.foldl min x ≤ m
      rcases List.mem_cons.mp hm with e | e
      · omega
      · exact g.2 _ e
    have b : m ≤ minL (x :: r) := by
      show m ≤ r.foldl min x
      rcases fmin_at r x with e | e
      · rw [e]; exact h _ (List.mem_cons_self ..)
      · exact h _ (List.mem_cons_of_mem _ e)
    omega
theorem minL_mem {l : List Nat} (hl : 0 < l.length) : minL l ∈ l ∧ ∀ x ∈ l, minL l ≤ x := by
  cases l with
  | nil => cases hl
  | cons x r =>
    have g := fmin_le r x
    refine ⟨?_, fun y hy => ?_⟩
    · show r.foldl min x ∈ x :: r
      rcases fmin_at r x with e | e
      · rw [e]; exact List.mem_cons_self ..
      · exact List.mem_cons_of_mem _ e
    · show r.foldl min x ≤ y
      rcases List.mem_cons.mp hy with e | e
      · rw [e]; exact g.1
      · exact g.2 _ e
def rowN (C : List Nat) (k : Nat) : List Nat := (List.range k).map fun j => 2 + j + C.getD j 0
def rowC (C : List Nat) (l : Nat) : List Nat := (List.range (l - 2)).map fun j => 2 + C.getD (j + 2) 0
def stepC (l k : Nat) (C : List Nat) : List Nat := minL (rowN C (min 128 (k + 1)) ++ rowC C l) :: C
def costR (L : Nat → Nat) : Nat → List Nat
  | 0 => [0]
  | k + 1 => stepC (L (k + 1)) k (costR L k)
def cst (L : Nat → Nat) (k : Nat) : Nat := (costR L k).headD 0
theorem costR_len (L : Nat → Nat) : ∀ k, (costR L k).length = k + 1
  | 0 => rfl
  | k + 1 => by
    show (costR L k).length + 1 = _
    rw [costR_len L k]
theorem cost_get (L : Nat → Nat) : ∀ (k j : Nat), j ≤ k → (costR L k).getD j 0 = cst L (k - j)
  | 0, j, h => by
    obtain rfl : j = 0 := by omega
    rfl
  | k + 1, 0, _ => by
    show (costR L (k + 1)).getD 0 0 = (costR L (k + 1)).headD 0
    rfl
  | k + 1, j + 1, h => by
    rw [show k + 1 - (j + 1) = k - j by omega, ← cost_get L k j (by omega)]
    rfl
theorem cst_zero (L : Nat → Nat) : cst L 0 = 0 := rfl
theorem cst_succ (L : Nat → Nat) (k : Nat) : cst L (k + 1) = minL (rowN (costR L k) (min 128 (k + 1)) ++ rowC (costR L k) (L (k + 1))) := rfl
/-- v is a cost of a first deed -/
def WayC (L : Nat → Nat) (k v : Nat) : Prop := (∃ j, j < 128 ∧ j ≤ k ∧ v = 2 + j + cst L (k - j)) ∨ ∃ j, j + 3 ≤ L (k + 1) ∧ v = 2 + cst L (k - (j + 2))
theorem way_mem {L : Nat → Nat} {k v : Nat} (hl : L (k + 1) ≤ k + 1) : v ∈ rowN (costR L k) (min 128 (k + 1)) ++ rowC (costR L k) (L (k + 1)) ↔ WayC L k v := by
  unfold WayC rowN rowC
  rw [List.mem_append, List.mem_map, List.mem_map]
  constructor
  · rintro (⟨j, hj, e⟩ | ⟨j, hj, e⟩)
    · have := List.mem_range.mp hj
      rw [cost_get L k j (by omega)] at e
      exact .inl ⟨j, by omega, by omega, e.symm⟩
    · have := List.mem_range.mp hj
      rw [cost_get L k (j + 2) (by omega)] at e
      exact .inr ⟨j, by omega, e.symm⟩
  · rintro (⟨j, h1, h2, e⟩ | ⟨j, h1, e⟩)
    · exact .inl ⟨j, List.mem_range.mpr (by omega), by rw [cost_get L k j (by omega)]; exact e.symm⟩
    · exact .inr ⟨j, List.mem_range.mpr (by omega), by rw [cost_get L k (j + 2) (by omega)]; exact e.symm⟩
theorem cst_is {L : Nat → Nat} {k v : Nat} (hl : L (k + 1) ≤ k + 1) (hv : WayC L k v) (h : ∀ u, WayC L k u → v ≤ u) : cst L (k + 1) = v := by
  rw [cst_succ]
  exact (minL_is ((way_mem hl).mpr hv) fun x hx => h x ((way_mem hl).mp hx)).symm
theorem cst_way {L : Nat → Nat} {k : Nat} (hl : L (k + 1) ≤ k + 1) : WayC L k (cst L (k + 1)) ∧ ∀ u, WayC L k u → cst L (k + 1) ≤ u := by
  have hp : 0 < (rowN (costR L k) (min 128 (k + 1)) ++ rowC (costR L k) (L (k + 1))).length := by
    unfold rowN
    rw [List.length_append, List.length_map, List.length_range]
    omega
  have := minL_mem hp
  rw [cst_succ]
  exact ⟨(way_mem hl).mp this.1, fun u hu => this.2 u ((way_mem hl).mpr hu)⟩
theorem cst_le {L : Nat → Nat} {n : Nat} (hl : ∀ k, k < n → L (k + 1) ≤ k + 1) : ∀ k, k ≤ n → cst L k ≤ 2 * k
  | 0, _ => Nat.le_refl _
  | k + 1, h => by
    have a := (cst_way (hl k (by omega))).2 (2 + 0 + cst L (k - 0)) (.inl ⟨0, by omega, by omega, rfl⟩)
    have b := cst_le hl k (by omega)
    rw [Nat.sub_zero] at a
    omega
/-- costs tell alike if the longest copies do -/
theorem cost_congr {L M : Nat → Nat} : ∀ (n : Nat), (∀ k, k < n → L (k + 1) - 2 = M (k + 1) - 2) → costR L n = costR M n
  | 0, _ => rfl
  | k + 1, h => by
    have e := cost_congr k fun j hj => h j (by omega)
    show stepC _ k (costR L k) = stepC _ k (costR M k)
    rw [e]
    unfold stepC rowC
    rw [h k (by omega)]
/-- by a formula -/
theorem cst_by {L f : Nat → Nat} {n : Nat} (hl : ∀ k, k < n → L (k + 1) ≤ k + 1) (f0 : f 0 = 0)
    (hf : ∀ k, k < n → ((∃ j, j < 128 ∧ j ≤ k ∧ f (k + 1) = 2 + j + f (k - j)) ∨ ∃ j, j + 3 ≤ L (k + 1) ∧ f (k + 1) = 2 + f (k - (j + 2))) ∧ (∀ j, j < 128 → j ≤ k → f (k + 1) ≤ 2 + j + f (k - j)) ∧ ∀ j, j + 3 ≤ L (k + 1) → f (k + 1) ≤ 2 + f (k - (j + 2))) :
    ∀ k, k ≤ n → cst L k = f k := by
  have go : ∀ m k, k ≤ m → k ≤ n → cst L k = f k := by
    intro m
    induction m with
    | zero =>
      intro k h _
      obtain rfl : k = 0 := by omega
      rw [f0]
      rfl
    | succ m ih =>
      intro k h hn
      cases k with
      | zero => rw [f0]; rfl
      | succ k =>
        obtain ⟨h1, h2, h3⟩ := hf k (by omega)
        refine cst_is (hl k (by omega)) ?_ (fun u hu => ?_)
        · rcases h1 with ⟨j, a, b, e⟩ | ⟨j, a, e⟩
          · exact .inl ⟨j, a, b, by rw [ih (k - j) (by omega) (by omega)]; exact e⟩
          · exact .inr ⟨j, a, by rw [ih (k - (j + 2)) (by omega) (by omega)]; exact e⟩
        · rcases hu with ⟨j, a, b, rfl⟩ | ⟨j, a, rfl⟩
          · rw [ih (k - j) (by omega) (by omega)]
            exact h2 j a b
          · rw [ih (k - (j + 2)) (by omega) (by omega)]
            exact h3 j a
  exact fun k hk => go k k (Nat.le_refl _) hk
/-- no copies -/
theorem cst_new {L : Nat → Nat} {n : Nat} (hn : n ≤ 200) (hl : ∀ k, k < n → L (k + 1) < 3) (hl2 : ∀ k, k < n → L (k + 1) ≤ k + 1) : cst L n = n + (n + 127) / 128 := by
  refine cst_by (f := fun k => k + (k + 127) / 128) (n := n) hl2 rfl (fun k hk => ⟨?_, fun j h1 h2 => ?_, fun j h => ?_⟩) n (Nat.le_refl _)
  · left
    by_cases z : k < 128
    · exact ⟨k, z, Nat.le_refl _, by omega⟩
    · exact ⟨127, by omega, by omega, by omega⟩
  · omega
  · have := hl k hk
    omega
/-- all alike -/
def alikeF (n k : Nat) : Nat := if k = 0 then 0 else if k = n then (if n = 131 then 4 else if n = 132 then 5 else 6) else if k ≤ 2 then k + 1 else if k ≤ 130 then 2 else 4
theorem cst_alike {L : Nat → Nat} {n : Nat} (h1 : 131 ≤ n) (h2 : n ≤ 136) (hl : ∀ k, k + 1 < n → L (k + 1) = min (k + 1) 130) (hn : L n = 0) : cst L n = min (4 + (n - 131)) 6 := by
  have hl2 : ∀ k, k < n → L (k + 1) ≤ k + 1 := fun k hk => by
    by_cases z : k + 1 < n
    · rw [hl k z]; omega
    · rw [show k + 1 = n by omega, hn]; omega
  have e := cst_by (f := alikeF n) hl2 rfl (fun k hk => ⟨?_, fun j a b => ?_, fun j a => ?_⟩) n (Nat.le_refl _)
  · rw [e]
    unfold alikeF
    split
    · omega
    · split
      · split
        · omega
        · split <;> omega
      · omega
  · by_cases z : k + 1 < n
    · rw [hl k z]
      by_cases z2 : k + 1 ≤ 2
      · left
        refine ⟨k, by omega, by omega, ?_⟩
        unfold alikeF
        repeat' split
        all_goals omega
      · right
        by_cases z3 : k + 1 ≤ 130
        · refine ⟨k - 2, by omega, ?_⟩
          unfold alikeF
          repeat' split
          all_goals omega
        · refine ⟨127 - (if k + 1 - 130 ≤ 2 then 3 else 0), by split <;> omega, ?_⟩
          unfold alikeF
          repeat' split
          all_goals omega
    · left
      by_cases z4 : n = 132
      · refine ⟨1, by omega, by omega, ?_⟩
        unfold alikeF
        repeat' split
        all_goals omega
      · refine ⟨0, by omega, by omega, ?_⟩
        unfold alikeF
        repeat' split
        all_goals omega
  · unfold alikeF
    repeat' split
    all_goals omega
  · by_cases z : k + 1 < n
    · rw [hl k z] at a
      unfold alikeF
      repeat' split
      all_goals omega
    · rw [show k + 1 = n by omega, hn] at a
      omega
variable [LamNames]
/-! ### deeds that bring a body -/
def ddF (r B : List Int) : Option (List Int) := deedsF r.length r B
theorem deedsF_fuel : ∀ (f g : Nat) (r B : List Int), r.length ≤ f → r.length ≤ g → deedsF f r B = deedsF g r B
  | f, g, [], B, _, _ => by rw [deedsF_end, deedsF_end]
  | 0, _, _ :: _, _, h, _ => by simp at h
  | _, 0, _ :: _, _, _, h => by simp at h
  | f + 1, g + 1, n :: r, B, h, h' => by
    rw [List.length_cons] at h h'
    rw [deedsF, deedsF]
    split
    · split
      · rfl
      · exact deedsF_fuel f g _ _ (by rw [List.length_drop]; omega) (by rw [List.length_drop]; omega)
    · split
      · rfl
      · split
        · rfl
        · exact deedsF_fuel f g _ _ (by rw [List.length_drop]; omega) (by rw [List.length_drop]; omega)
theorem ddF_new {m : Nat} {X r B : List Int} (h1 : 1 ≤ m) (h2 : m ≤ 128) (hX : X.length = m) : ddF ((((m : Int) - 1) :: X) ++ r) B = ddF r (B ++ X) := by
  unfold ddF
  rw [List.cons_append, List.length_cons, deedsF_lit (by omega), show ((m : Int) - 1 + 1).toNat = m by omega, if_neg (by rw [List.length_append]; omega), List.drop_left' hX, List.take_left' hX]
  exact deedsF_fuel _ _ _ _ (by rw [List.length_append]; omega) (Nat.le_refl _)
theorem ddF_copy {m b : Nat} {r B : List Int} (h1 : 3 ≤ m) (hb : 1 ≤ b) (h2 : b ≤ B.length) : ddF (([((m : Int) - 3 + 128), ((b : Int) - 1)]) ++ r) B = ddF r (copyB m b B) := by
  unfold ddF
  show deedsF (r.length + 1 + 1) ((((m : Int) - 3 + 128)) :: ((b : Int) - 1) :: r) B = _
  rw [deedsF_back (by omega), if_neg (by omega), show ((m : Int) - 3 + 128 - 125).toNat = m by omega, show ((b : Int) - 1 + 1).toNat = b by omega]
  exact deedsF_fuel _ _ _ _ (by omega) (Nat.le_refl _)
theorem copy_take {S : List Int} {q far : Nat} : ∀ {m : Nat}, cop S q far m → copyB m far (S.take q) = S.take (q + m)
  | 0, _ => rfl
  | m + 1, h => by
    rw [copyB_succ, copy_take (h.le (Nat.le_succ m))]
    have h4 := h.2.2.2.2.1
    have f1 := h.1
    have f2 := h.2.1
    have e := h.2.2.2.2.2 m (by omega)
    unfold moreB
    rw [List.length_take, show min (q + m) S.length = q + m by omega, show q + (m + 1) = q + m + 1 by omega, List.take_add_one, e, List.getD_eq_getElem?_getD, List.getElem?_take, if_pos (by omega), List.getElem?_eq_getElem (show q + m - far < S.length by omega)]
    rfl
end Fc

namespace Fc
open PySem PySem.Spec L2 PyProof.Rows
variable [LamNames]
/-! ### dicts whose keys are entries -/
def keyI (b : List Int) : List NestedKey := b.map NestedKey.num
def keyE : Ent → NestedKey
  | .folder t => .tup [.text (Str.ofString "folder"), .text (mkS t)]
  | .file t b => .tup [.text (Str.ofString "file"), .text (mkS t), .tup (keyI b)]
  | .link t g => .tup [.text (Str.ofString "link"), .text (mkS t), .text (mkS g)]
theorem keyI_data : ∀ b : List Int, NestedKey.datas (keyI b) = b.map PyData.int
  | [] => rfl
  | x :: r => congrArg (PyData.int x :: ·) (keyI_data r)
theorem keyI_depth : ∀ b : List Int, NestedKey.depthAll (keyI b) = 0
  | [] => rfl
  | x :: r => by
    show max 0 (NestedKey.depthAll (keyI r)) = 0
    rw [keyI_depth r]
    rfl
theorem keyE_data (e : Ent) : (keyE e).data = dEnt e := by
  cases e with
  | folder t => rfl
  | file t b =>
    show PyData.tuple [sd "file", td t, .tuple (NestedKey.datas (keyI b))] = _
    rw [keyI_data]
    rfl
  | link t g => rfl
theorem keyE_depth (e : Ent) : (keyE e).depth ≤ 8 := by
  cases e with
  | folder t => show max 0 (max 0 0) + 1 ≤ 8; decide
  | file t b =>
    show max 0 (max 0 (max (NestedKey.depthAll (keyI b) + 1) 0)) + 1 ≤ 8
    rw [keyI_depth]
    decide
  | link t g => show max 0 (max 0 (max 0 0)) + 1 ≤ 8; decide
theorem keyE_inj {a b : Ent} (h : keyE a = keyE b) : a = b := by
  have e := congrArg NestedKey.data h
  rw [keyE_data, keyE_data] at e
  have intsE : ∀ {x y : List Int}, x.map PyData.int = y.map PyData.int → x = y := fun {x y} h => (List.map_inj_right fun a b h => PyData.int.inj h).mp h
  have w : Str.ofString "folder" ≠ Str.ofString "file" ∧ Str.ofString "folder" ≠ Str.ofString "link" ∧ Str.ofString "file" ≠ Str.ofString "link" := by decide +kernel
  cases a with
  | folder t => cases b with
    | folder u =>
      have := PyData.tuple.inj e
      simp only [List.cons.injEq, td, PyData.str.injEq] at this
      rw [mkS_inj this.2.1]
    | file u b =>
      have := PyData.tuple.inj e
      simp only [List.cons.injEq] at this
      exact absurd (PyData.str.inj this.1) w.1
    | link u g =>
      have := PyData.tuple.inj e
      simp only [List.cons.injEq] at this
      exact absurd (PyData.str.inj this.1) w.2.1
  | file t c0 => cases b with
    | folder u =>
      have := PyData.tuple.inj e
      simp only [List.cons.injEq] at this
      exact absurd (PyData.str.inj this.1).symm w.1
    | file u c =>
      have := PyData.tuple.inj e
      simp only [List.cons.injEq, td, PyData.str.injEq, PyData.tuple.injEq] at this
      rw [mkS_inj this.2.1, intsE this.2.2.1]
    | link u g =>
      have := PyData.tuple.inj e
      simp only [List.cons.injEq] at this
      exact absurd (PyData.str.inj this.1) w.2.2
  | link t g => cases b with
    | folder u =>
      have := PyData.tuple.inj e
      simp only [List.cons.injEq] at this
      exact absurd (PyData.str.inj this.1).symm w.2.1
    | file u c =>
      have := PyData.tuple.inj e
      simp only [List.cons.injEq] at this
      exact absurd (PyData.str.inj this.1).symm w.2.2
    | link u k =>
      have := PyData.tuple.inj e
      simp only [List.cons.injEq, td, PyData.str.injEq] at this
      rw [mkS_inj this.2.1, mkS_inj this.2.2.1]
/-- keys of a dict, as nested tuples -/
class NKey (κ : Type) [DecidableEq κ] where
  nk : κ → NestedKey
  inj : ∀ {a b : κ}, nk a = nk b → a = b
  dep : ∀ a : κ, (nk a).depth ≤ 8
  fit : κ → Prop
  tups : ∀ a : κ, fit a → tupsOnly (nk a).data = true
open NKey (nk)
instance : NKey Ent where
  nk := keyE
  inj := keyE_inj
  dep := keyE_depth
  fit := fun e => ∀ t b, e = .file t b → b.length ≤ 1000
  tups := fun e h => by rw [keyE_data]; exact (dEnt_ok h).1
instance : NKey (List Int) where
  nk := fun l => .tup (keyI l)
  inj := fun {a b} h => by
    have e : (keyI a) = keyI b := NestedKey.tup.inj h
    unfold keyI at e
    exact (List.map_inj_right fun a b h => NestedKey.num.inj h).mp e
  dep := fun l => by
    show NestedKey.depthAll (keyI l) + 1 ≤ 8
    rw [keyI_depth]
    decide
  fit := fun l => l.length ≤ 100000
  tups := fun l h => by
    show tupsOnly (.tuple (NestedKey.datas (keyI l))) = true
    rw [keyI_data]
    exact (dInts_ok l h).1
theorem nk_ent (e : Ent) : (nk e).data = dEnt e := keyE_data e
theorem nk_ints (l : List Int) : (nk l).data = dInts l := congrArg PyData.tuple (keyI_data l)
section
variable {κ : Type} [DecidableEq κ] [NKey κ]
/-- entries by what they are, where the key's tuple stands, the value -/
abbrev Nkv (κ : Type) := List (κ × Addr × V)
def valN (kvs : Nkv κ) (e : κ) : Option V := (kvs.find? fun x => decide (x.1 = e)).map (·.2.2)
def putN (kvs : Nkv κ) (e : κ) (b : Addr) (v : V) : Nkv κ := if (valN kvs e).isSome then kvs.map fun x => if x.1 = e then (x.1, x.2.1, v) else x else kvs ++ [(e, b, v)]
theorem putN_new {kvs : Nkv κ} {e : κ} (h : valN kvs e = none) (b : Addr) (v : V) : putN kvs e b v = kvs ++ [(e, b, v)] := by
  unfold putN
  rw [h]
  rfl
theorem putN_len (kvs : Nkv κ) (e : κ) (b : Addr) (v : V) : (putN kvs e b v).length ≤ kvs.length + 1 := by
  unfold putN
  split
  · rw [List.length_map]; omega
  · rw [List.length_append]; exact Nat.le_refl _
abbrev KVN : Nkv κ → List (NestedKey × Addr × Value) → Prop := Paired fun p q => nk p.1 = q.1 ∧ p.2.1 = q.2.1 ∧ RelV p.2.2 q.2.2
theorem KVN.val {kvs : Nkv κ} {xs : List (NestedKey × Addr × Value)} (r : KVN kvs xs) (e : κ) : RelO (valN kvs e) ((atKey xs (nk e)).map (·.2)) := by
  induction r with
  | nil => exact True.intro
  | @cons p q ps qs h t ih =>
    unfold valN atKey at ih ⊢
    by_cases z : p.1 = e
    · rw [List.find?_cons_of_pos (by simp [z]), List.find?_cons_of_pos (by rw [← h.1, z]; simp)]
      exact h.2.2
    · rw [List.find?_cons_of_neg (by simp [z]), List.find?_cons_of_neg (by rw [← h.1]; simpa using fun k => z (NKey.inj k))]
      exact ih
theorem KVN.some {kvs : Nkv κ} {xs : List (NestedKey × Addr × Value)} (r : KVN kvs xs) (e : κ) : (atKey xs (nk e)).isSome = (valN kvs e).isSome := by
  have q := (r.val e).isSome_eq
  rw [Option.isSome_map] at q
  exact q.symm
theorem KVN.put {kvs : Nkv κ} {xs : List (NestedKey × Addr × Value)} (r : KVN kvs xs) (e : κ) (b : Addr) {v : V} {u : Value} (rv : RelV v u) : KVN (putN kvs e b v) (storedH xs (nk e) b u) := by
  have rep : ∀ {kvs : Nkv κ} {xs : List (NestedKey × Addr × Value)}, KVN kvs xs → KVN (kvs.map fun x => if x.1 = e then (x.1, x.2.1, v) else x) (xs.map (putAt (nk e) u)) := by
    intro kvs xs r
    induction r with
    | nil => exact .nil
    | @cons p q ps qs h t ih =>
      refine .cons ?_ ih
      unfold putAt
      dsimp only
      by_cases z : p.1 = e
      · rw [if_pos z, if_pos (by rw [← h.1, z])]
        exact ⟨h.1, h.2.1, rv⟩
      · rw [if_neg z, if_neg (by rw [← h.1]; exact fun k => z (NKey.inj k))]
        exact h
  unfold putN storedH
  rw [r.some e]
  split
  · exact rep r
  · exact Paired.snoc r ⟨rfl, rfl, rv⟩
/-- the object of such a dict -/
def DN (P : Program) (w : World) (d : Addr) (kvs : Nkv κ) : HO := .ext fun h => kvs.length ≤ sizeLine ∧ (d == sysModules) = false ∧ ∃ vs, KVN kvs vs ∧ ∃ o es ep, h.get? d = some o ∧ o.ExactDict ∧ o.data = .dict es ep ∧ es.toList = vs.map (entryOfKey (nestedKind P w)) ∧ (vs.map (·.1)).Nodup
theorem dn_new {P : Program} {w : World} {H : Hp} {h : Heap} {d : Addr} {kvs : Nkv κ} (z : kvs.length ≤ sizeLine) (hd : (d == sysModules) = false) {vs : List (NestedKey × Addr × Value)} (r : KVN kvs vs) (hm : h.DictOfH (nestedKind P w) d vs) : ObjOk P w H h d (DN P w d kvs) := by
  obtain ⟨o, es, ep, h1, h2, h3, h4, _, h5⟩ := hm
  refine ⟨⟨z, hd, vs, r, o, es, ep, h1, h2, h3, h4, h5⟩, ⟨o, h1⟩, fun a1 a2 p k => ?_⟩
  obtain ⟨z, hd, vs, r, o, es, ep, h1, h2⟩ := p
  exact ⟨z, hd, vs, r, o, es, ep, k o h1, h2⟩
/-- no code object -/
theorem dn_nc {P : Program} {w : World} {d c : Addr} {kvs : Nkv κ} {q : Str} : DN P w d kvs ≠ LamX.CodeO c q := by
  intro z
  have z := HO.ext.inj z
  have f : ∀ h : Heap, _ = _ := fun h => congrFun z h
  let o : Obj := { cls := .none, data := .fields #[.none, .str q 0] }
  let hp : Heap := (⟨Array.replicate c default, {}⟩ : Heap).push o
  have sz : (⟨Array.replicate c default, {}⟩ : Heap).objs.size = c := Array.size_replicate
  have g : hp.get? c = some o := by
    have := Heap.get?_push_size (⟨Array.replicate c default, {}⟩ : Heap) (o := o) rfl
    rw [sz] at this
    exact this
  by_cases e : d = c
  · have t : ∃ (oc : Obj) (vs : Array Value) (t : Tok), hp.get? c = some oc ∧ oc.data = .fields vs ∧ vs[1]? = some (.str q t) := ⟨o, _, 0, g, rfl, rfl⟩
    rw [← f hp] at t
    obtain ⟨_, _, vs, _, o', es, ep, h1, _, h3, _⟩ := t
    rw [e, g] at h1
    cases h1
    cases h3
  · let hq : Heap := (⟨Array.replicate c default, {}⟩ : Heap).push o
    have t : ∃ (oc : Obj) (vs : Array Value) (t : Tok), hp.get? c = some oc ∧ oc.data = .fields vs ∧ vs[1]? = some (.str q t) := ⟨o, _, 0, g, rfl, rfl⟩
    rw [← f hp] at t
    obtain ⟨_, _, vs, _, o', es, ep, h1, h2, h3, _⟩ := t
    have lt := Heap.lt_size h1
    have l2 : hp.objs.size = c + 1 := by
      show ((Array.replicate c default).push o).size = c + 1
      rw [Array.size_push, Array.size_replicate]
    have dl : d < c := Nat.lt_of_le_of_ne (Nat.le_of_lt_succ (by rw [l2] at lt; exact lt)) e
    have := h2.1
    have e2 : hp.get? d = some (default : Obj) → False := fun k => by
      rw [k] at h1
      cases h1
      cases h3
    refine e2 ?_
    have h1' := Heap.get?_some_iff.mp h1
    have : hp.objs[d]? = some (default : Obj) := by
      show ((Array.replicate c default).push o)[d]? = _
      rw [Array.getElem?_push, if_neg (by rw [Array.size_replicate]; omega), Array.getElem?_replicate, if_pos dl]
    rw [this] at h1'
    have e3 := Option.some.inj h1'.1
    rw [e3]
    exact h1
theorem Same.overN {H H' : Hp} (e : Same H H') {p : Addr} {o : HO} (n : H p = none) (nc : ∀ c q, H' p ≠ Option.some (LamX.CodeO c q)) : Same H (upd H' p o) := ⟨fun b u h nt => by
  rw [upd_ne (ne_of_none h n)]
  exact e.get b u h nt, fun b ps h => by
  obtain ⟨ps', h', t, m⟩ := e.tab b ps h
  exact ⟨ps', by rw [upd_ne (ne_of_none h n)]; exact h', t, fun q hq z pos cv hc => by
    obtain ⟨c, e1, e2⟩ := m q hq z pos cv hc
    refine ⟨c, e1, ?_⟩
    rw [upd_ne (fun k => by rw [k] at e2; exact nc _ _ e2)]
    exact e2⟩⟩
/-- a dict of entries stands here, its keys' tuples too -/
structure IsNk (P : Program) (w : World) (K : PySem.W.Frag) (H : Hp) (D : Addr) (kvs : Nkv κ) : Prop where
  at_ : H D = some (DN P w D kvs)
  key : ∀ x ∈ kvs, Dp K H (.ref x.2.1) (nk x.1).data
theorem IsNk.keep {P : Program} {w : World} {K : PySem.W.Frag} {H H' : Hp} {D : Addr} {kvs : Nkv κ} (h : IsNk P w K H D kvs) (s : Same H H') : IsNk P w K H' D kvs := ⟨s _ _ h.at_, fun x hx => dpKeep s (h.key x hx)⟩
theorem IsNk.nc {P : Program} {w : World} {K : PySem.W.Frag} {H : Hp} {D : Addr} {kvs : Nkv κ} (h : IsNk P w K H D kvs) (c : Addr) (q : Str) : H D ≠ some (LamX.CodeO c q) := fun z => by
  rw [h.at_] at z
  exact dn_nc (Option.some.inj z)
/-- where something of its own kind stands: no tuple -/
def Wx (H : Hp) (p : Addr) : Prop := ∃ φ, H p = some (.ext φ)
theorem IsNk.wx {P : Program} {w : World} {K : PySem.W.Frag} {H : Hp} {D : Addr} {kvs : Nkv κ} (h : IsNk P w K H D kvs) : Wx H D := ⟨_, h.at_⟩
theorem overTx {K : PySem.W.Frag} {H : Hp} {p t : Addr} {xs : List V} {o : HO} (e : Wx H p) (h : SqT K H t xs) : SqT K (upd H p o) t xs := by
  obtain ⟨φ, e⟩ := e
  have ne : ∀ {u : HO}, H t = some u → u ≠ .ext φ → t ≠ p := fun hu n z => by
    rw [z, e] at hu
    exact n (Option.some.inj hu).symm
  rcases h with (h | ⟨o2, h⟩) | h
  · exact .inl (.inl (by rw [upd_ne (ne h nofun)]; exact h))
  · exact .inl (.inr ⟨o2, by rw [upd_ne (ne h nofun)]; exact h⟩)
  · exact .inr h
mutual
theorem dpOverX {K : PySem.W.Frag} {H : Hp} {p : Addr} {o : HO} (e : Wx H p) : ∀ {d : PyData} {v : V}, tupsOnly d = true → Dp K H v d → Dp K (upd H p o) v d
  | .none, _, _, .non => .non
  | .bool _, _, _, .bl b => .bl b
  | .int _, _, _, .int i => .int i
  | .str _, _, _, .str x => .str x
  | .list _, _, ok, _ => by cases ok
  | .tuple ds, _, ok, .tup h hs => .tup (overTx e h) (dpOverAllX e (by rw [tupsOnly, Bool.and_eq_true] at ok; exact ok.2) hs)
theorem dpOverAllX {K : PySem.W.Frag} {H : Hp} {p : Addr} {o : HO} (e : Wx H p) : ∀ {ds : List PyData} {vs : List V}, tupsAll ds = true → DpAll K H vs ds → DpAll K (upd H p o) vs ds
  | [], _, _, .nil => .nil
  | d :: r, _, ok, .cons h hs => .cons (dpOverX e (by rw [tupsAll, Bool.and_eq_true] at ok; exact ok.1) h) (dpOverAllX e (by rw [tupsAll, Bool.and_eq_true] at ok; exact ok.2) hs)
end
section
variable {X : Cx} {pins : List (Addr × Obj)} {σ : L2.St} {H : Hp} {s : Shared} {A : Around} {E : Value → Shared → Prop}
mutual
theorem nested_of (I : Inv X pins σ H s) : ∀ (k : NestedKey) {v : V} {u : Value}, Dp X.K H v k.data → RelV v u → NestedIs s.heap k u
  | .none, _, _, h, r => by
    cases h
    cases r
    exact .none
  | .num i, _, _, h, r => by
    cases h
    obtain ⟨t, rfl⟩ := r
    exact .int i t
  | .text x, _, _, h, r => by
    cases h
    obtain ⟨t, rfl⟩ := r
    exact .text x t
  | .tup ks, v, u, h, r => by
    rw [NestedKey.data] at h
    cases h with
    | tup ht hs =>
      cases r
      obtain ⟨its, rv, ⟨o, h1, h2, n, h3⟩, _⟩ := I.tuple ht
      exact .tup h1 h2 h3 (nested_all I ks hs (by simpa using rv))
theorem nested_all (I : Inv X pins σ H s) : ∀ (ks : List NestedKey) {vs : List V} {us : List Value}, DpAll X.K H vs (NestedKey.datas ks) → Vals vs us → NestedAll s.heap ks us
  | [], _, _, h, r => by
    rw [NestedKey.datas] at h
    cases h
    cases r
    exact .nil
  | k :: ks, _, _, h, r => by
    rw [NestedKey.datas] at h
    cases h with
    | cons h1 h2 =>
      cases r with
      | cons r1 r2 => exact .cons (nested_of I k h1 r1) (nested_all I ks h2 r2)
end
theorem key_ent (I : Inv X pins σ H s) {b : Addr} {e : κ} (h : Dp X.K H (.ref b) (nk e).data) : (nestedKind X.prog X.w).is s.heap (nk e) b := ⟨nested_of I _ (h) rfl, NKey.dep e⟩
theorem dn_at (I : Inv X pins σ H s) {D : Addr} {kvs : Nkv κ} (h : IsNk X.prog X.w X.K H D kvs) : kvs.length ≤ sizeLine ∧ (D == sysModules) = false ∧ ∃ vs, KVN kvs vs ∧ s.heap.DictOfH (nestedKind X.prog X.w) D vs := by
  obtain ⟨⟨z, hd, vs, r, o, es, ep, h1, h2, h3, h4, h5⟩, _⟩ := I.hok D _ h.at_
  refine ⟨z, hd, vs, r, o, es, ep, h1, h2, h3, h4, fun x hx => ?_, h5⟩
  have all : ∀ {l : Nkv κ} {m : List (NestedKey × Addr × Value)}, KVN l m → (∀ x ∈ l, Dp X.K H (.ref x.2.1) (nk x.1).data) → ∀ x ∈ m, (nestedKind X.prog X.w).is s.heap x.1 x.2.1 := by
    intro l m q
    induction q with
    | nil => intro _ x hx; exact nomatch hx
    | @cons p q ps qs hq t ih =>
      intro k x hx
      rcases List.mem_cons.mp hx with e | hx
      · subst e
        rw [← hq.1, ← hq.2.1]
        exact key_ent I (k p List.mem_cons_self)
      · exact ih (fun y hy => k y (List.mem_cons_of_mem _ hy)) x hx
  exact all r h.key x hx
end
/-- what it holds at an entry -/
structure NGet (κ : Type) [DecidableEq κ] [NKey κ] (P : Program) (w : World) (K : PySem.W.Frag) (H : Hp) (D : Addr) (y : V) (o : Option V) : Prop where
  ex : ∃ (kvs : Nkv κ) (b : Addr) (e : κ), IsNk P w K H D kvs ∧ y = .ref b ∧ Dp K H (.ref b) (nk e).data ∧ o = valN kvs e
theorem IsNk.get {P : Program} {w : World} {K : PySem.W.Frag} {H : Hp} {D b : Addr} {kvs : Nkv κ} {e : κ} (h : IsNk P w K H D kvs) (d : Dp K H (.ref b) (nk e).data) : NGet κ P w K H D (.ref b) (valN kvs e) := ⟨kvs, b, e, h, rfl, d, rfl⟩
def tNGet (κ : Type) [DecidableEq κ] [NKey κ] (P : Program) (w : World) (K : PySem.W.Frag) (td ty : TE) : TE := fun σ H Q => td σ H fun x H1 => ty σ H1 fun y H2 => ∃ a v, x = .ref a ∧ NGet κ P w K H2 a y (some v) ∧ Q v H2
def tNIn (κ : Type) [DecidableEq κ] [NKey κ] (P : Program) (w : World) (K : PySem.W.Frag) (ty td : TE) : TE := fun σ H Q => ty σ H fun y H1 => td σ H1 fun x H2 => ∃ a o, x = .ref a ∧ NGet κ P w K H2 a y o ∧ Q (.bl o.isSome) H2
def tNNotIn (κ : Type) [DecidableEq κ] [NKey κ] (P : Program) (w : World) (K : PySem.W.Frag) (ty td : TE) : TE := fun σ H Q => ty σ H fun y H1 => td σ H1 fun x H2 => ∃ a o, x = .ref a ∧ NGet κ P w K H2 a y o ∧ Q (.bl (!o.isSome)) H2
/-- d.get(y, z) -/
def tNGet2 (κ : Type) [DecidableEq κ] [NKey κ] (P : Program) (w : World) (K : PySem.W.Frag) (td ty tx : TE) : TE := fun σ H Q => td σ H fun x H1 => ∃ (a : Addr) (kvs : Nkv κ), x = .ref a ∧ IsNk P w K H1 a kvs ∧ ty σ H1 fun y H2 => tx σ H2 fun z H3 => ∃ o, NGet κ P w K H3 a y o ∧ Q (o.getD z) H3
/-- d.setdefault(y, z) -/
def tNSetd (κ : Type) [DecidableEq κ] [NKey κ] (P : Program) (w : World) (K : PySem.W.Frag) (td ty tx : TE) : TE := fun σ H Q => td σ H fun x H1 => ∃ (a : Addr) (kvs : Nkv κ), x = .ref a ∧ IsNk P w K H1 a kvs ∧ ty σ H1 fun y H2 => tx σ H2 fun z H3 => ∃ (kvs : Nkv κ) (b : Addr) (e : κ), IsNk P w K H3 a kvs ∧ y = .ref b ∧ Dp K H3 (.ref b) (nk e).data ∧ kvs.length < sizeLine ∧
  (∀ v, valN kvs e = some v → Q v H3) ∧ (valN kvs e = none → Q z (upd H3 a (DN P w a (kvs ++ [(e, b, z)]))))
/-- d[y] = z -/
def sNPut (κ : Type) [DecidableEq κ] [NKey κ] (P : Program) (w : World) (K : PySem.W.Frag) (td ty tv : TE) : TS := fun D σ H => tv σ H fun v H1 => td σ H1 fun x H2 => ty σ H2 fun y H3 => ∃ (a : Addr) (kvs : Nkv κ) (b : Addr) (e : κ), x = .ref a ∧ IsNk P w K H3 a kvs ∧ y = .ref b ∧ Dp K H3 (.ref b) (nk e).data ∧ kvs.length < sizeLine ∧ D.nx σ (upd H3 a (DN P w a (putN kvs e b v)))
def tDNewN (κ : Type) [DecidableEq κ] [NKey κ] (P : Program) (w : World) : TE := fun _ H Q => ∀ p, H p = none → Q (.ref p) (upd H p (DN (κ := κ) P w p []))
section
variable {X : Cx} {o i e f value : Expr} {pos pos' apos cpos : Pos} {td ty tx tv : TE}
theorem room_in {A : Around} (hu : A.units + 9 < cLine) : A.in1.units + 8 < cLine := by
  rw [Around.in1_units]
  omega
theorem pe_nget (hu : X.A.units + 9 < cLine) (ho : PE X o td) (hi : PE X i ty) (hs : NoSl i) : PE X (.Subscript o i pos) (tNGet κ X.prog X.w X.K td ty) := by
  refine ⟨fun pins s σ H Q I h => ?_⟩
  refine subD_of PySem.F.slot_dict_getitem.lookup hs (thn (ho.run pins s σ H _ I h) fun u s1 ⟨x, H1, I1, rx, q1⟩ => thn (hi.run pins s1 σ H1 _ I1 q1) fun iv s2 ⟨y, H2, I2, ry, a, v, ex, ⟨kvs, b, k, hn, ey, hd, l⟩, q2⟩ => ?_)
  subst ex ey
  obtain rfl : u = Value.ref a := rx
  obtain rfl : iv = Value.ref b := ry
  obtain ⟨_, _, vs, r, hm⟩ := dn_at I2 hn
  refine ⟨hm.typeIs, ?_⟩
  obtain ⟨w', hw, rw'⟩ := RelO.some_of (v := v) (o := (atKey vs (nk k)).map (·.2)) (by rw [l]; exact r.val k)
  obtain ⟨p, hp, hp2⟩ := Option.map_eq_some_iff.mp hw
  refine wpAny_getItem_heap (room_in hu) (key_ent I2 hd) hm hp ?_
  rw [hp2]
  exact ⟨v, H2, I2.tok _, rw', q2⟩
theorem pc_nin (hu : X.A.units + 9 < cLine) (hi : PE X i ty) (ho : PE X o td) : PC X .In i o (tNIn κ X.prog X.w X.K ty td) := by
  refine ⟨fun pins s σ H Q I h => ?_⟩
  refine thn (hi.run pins s σ H _ I h) fun iv s1 ⟨y, H1, I1, ry, q1⟩ => thn (ho.run pins s1 σ H1 _ I1 q1) fun u s2 ⟨x, H2, I2, rx, a, ov, ex, ⟨kvs, b, k, hn, ey, hd, l⟩, q2⟩ => ?_
  subst ex ey
  obtain rfl : u = Value.ref a := rx
  obtain rfl : iv = Value.ref b := ry
  obtain ⟨_, hs, vs, r, hm⟩ := dn_at I2 hn
  refine wpAny_in_heap (room_in hu) (key_ent I2 hd) hs hm ?_
  rw [r.some k, ← l]
  exact ⟨.bl ov.isSome, H2, I2.tok _, rfl, q2⟩
theorem pc_nnotin (hu : X.A.units + 9 < cLine) (hi : PE X i ty) (ho : PE X o td) : PC X .NotIn i o (tNNotIn κ X.prog X.w X.K ty td) := by
  refine ⟨fun pins s σ H Q I h => ?_⟩
  refine thn (hi.run pins s σ H _ I h) fun iv s1 ⟨y, H1, I1, ry, q1⟩ => thn (ho.run pins s1 σ H1 _ I1 q1) fun u s2 ⟨x, H2, I2, rx, a, ov, ex, ⟨kvs, b, k, hn, ey, hd, l⟩, q2⟩ => ?_
  subst ex ey
  obtain rfl : u = Value.ref a := rx
  obtain rfl : iv = Value.ref b := ry
  obtain ⟨_, hs, vs, r, hm⟩ := dn_at I2 hn
  refine wpAny_notIn_heap (room_in hu) (key_ent I2 hd) hs hm ?_
  rw [r.some k, ← l]
  exact ⟨.bl (!ov.isSome), H2, I2.tok _, rfl, q2⟩
theorem dn_is {X : Cx} {pins : List (Addr × Obj)} {σ : L2.St} {H : Hp} {s : Shared} {a : Addr} {kvs : Nkv κ} (I : Inv X pins σ H s) (h : IsNk X.prog X.w X.K H a kvs) : s.TypeIs (.ref a) "dict" ∧ ∀ b, Value.ref a = .ref b → ∃ ob, s.heap.get? b = some ob ∧ ob.dict = none := by
  obtain ⟨_, _, vs, _, hm⟩ := dn_at I h
  refine ⟨hm.typeIs, fun b q => ?_⟩
  cases q
  obtain ⟨ob, _, _, h1, h2, _⟩ := hm
  exact ⟨ob, h1, h2.2.1⟩
theorem pe_nget2 (hu : X.A.units + 9 < cLine) (ho : PE X o td) (he : PE X e ty) (hf : PE X f tx) (m : M2 X o "get" apos e f cpos) : PE X (.Call (.Attribute o "get" apos) [e, f] [] cpos) (tNGet2 κ X.prog X.w X.K td ty tx) := by
  refine ⟨fun pins s σ H Q I h => ?_⟩
  refine wpAny_Call_method m.base m.few m.line PySem.F.plainAttrs_dict PySem.F.slot_dict_get PySem.F.type_dict_get (thn (ho.run pins s σ H _ I h) fun u s1 ⟨x, H1, I1, rx, a, kv0, ex, hn0, q1⟩ => ?_)
  subst ex
  obtain rfl : u = Value.ref a := rx
  obtain ⟨t1, t2⟩ := dn_is I1 hn0
  refine ⟨t1, t2, ?_⟩
  rw [m.trees]
  refine Calls.callWith_builtin rfl (Calls.evalArgs_plain (Calls.spliced_cons (thn (he.run pins s1 σ H1 _ I1 q1) fun iv s2 ⟨y, H2, I2, ry, q2⟩ =>
    Calls.spliced_cons (thn (hf.run pins s2 σ H2 _ I2 q2) fun fv s3 ⟨z, H3, I3, rz, ov, ⟨kvs, b, k, hn, ey, hd, l⟩, q3⟩ => Calls.spliced_nil ?_))))
  subst ey
  obtain rfl : iv = Value.ref b := ry
  obtain ⟨_, hs, vs, r, hm⟩ := dn_at I3 hn
  refine call_meetsIn PySem.F.slot_dict_get hm.typeIs PySem.F.entry_dict_get (PySem.F.args_dict_get_3 _ _ _) (meetsH_dict_get_default (nestedKind X.prog X.w) a b hs fv) ⟨room_in hu, nk k, vs, key_ent I3 hd, hm, _, H3, I3.tok _, ?_, q3⟩
  rw [l]
  exact (r.val k).getD rz
theorem pe_nsetd (hu : X.A.units + 9 < cLine) (ho : PE X o td) (he : PE X e ty) (hf : PE X f tx) (m : M2 X o "setdefault" apos e f cpos) : PE X (.Call (.Attribute o "setdefault" apos) [e, f] [] cpos) (tNSetd κ X.prog X.w X.K td ty tx) := by
  refine ⟨fun pins s σ H Q I h => ?_⟩
  refine wpAny_Call_method m.base m.few m.line PySem.F.plainAttrs_dict PySem.F.slot_dict_setdefault PySem.F.type_dict_setdefault (thn (ho.run pins s σ H _ I h) fun u s1 ⟨x, H1, I1, rx, a, kv0, ex, hn0, q1⟩ => ?_)
  subst ex
  obtain rfl : u = Value.ref a := rx
  obtain ⟨t1, t2⟩ := dn_is I1 hn0
  refine ⟨t1, t2, ?_⟩
  rw [m.trees]
  refine Calls.callWith_builtin rfl (Calls.evalArgs_plain (Calls.spliced_cons (thn (he.run pins s1 σ H1 _ I1 q1) fun iv s2 ⟨y, H2, I2, ry, q2⟩ =>
    Calls.spliced_cons (thn (hf.run pins s2 σ H2 _ I2 q2) fun fv s3 ⟨z, H3, I3, rz, kvs, b, k, hn, ey, hd, hl, q3, q4⟩ => Calls.spliced_nil ?_))))
  subst ey
  obtain rfl : iv = Value.ref b := ry
  obtain ⟨_, hs, vs, r, hm⟩ := dn_at I3 hn
  have hz : vs.length ≤ sizeLine := by
    have := Paired.length r
    omega
  refine call_setdefault_heap (hsz := hz) (room_in hu) (key_ent I3 hd) hs hm (fun p hp => ?_) fun hnone h' hm' hsb => ?_
  · have q := r.val k
    rw [hp] at q
    cases q0 : valN kvs k with
    | none => rw [q0] at q; exact (show False from q).elim
    | some v0 =>
      rw [q0] at q
      exact ⟨v0, H3, I3.tok _, q, q3 v0 q0⟩
  · have q := r.val k
    rw [hnone] at q
    cases q0 : valN kvs k with
    | some v0 => rw [q0] at q; exact (show False from q).elim
    | none =>
      have he : ∃ q, h'.get? a = some q := let ⟨q, _, _, hq, _⟩ := hm'; ⟨q, hq⟩
      have rp := r.put k b rz
      rw [putN_new q0] at rp
      refine ⟨z, _, d_write I3 (by rw [hn.at_]; exact True.intro) hsb he (dn_new (by rw [List.length_append]; show kvs.length + 1 ≤ _; omega) hs rp hm'), rz, q4 q0⟩
theorem ps_nput (hu : X.A.units + 9 < cLine) (ho : PE X o td) (hi : PE X i ty) (hv : PE X value tv) (hs : swapsWith value (some (.Subscript o i pos')) pos.line X.env = pure false) : PS X (.Assign [.Subscript o i pos'] value pos) (sNPut κ X.prog X.w X.K td ty tv) := by
  refine ⟨fun pins s σ H D I h => ?_⟩
  refine wpAny_Assign_Subscript (thn (hv.run pins s σ H _ I h) fun r s1 ⟨v, H1, I1, rv, q1⟩ => thn (ho.run pins s1 σ H1 _ I1 q1) fun u s2 ⟨x, H2, I2, rx, q2⟩ => thn (hi.run pins s2 σ H2 _ I2 q2) fun iv s3 ⟨y, H3, I3, ry, a, kvs, b, k, ex, hn, ey, hd, hl, q3⟩ => ?_) hs
  subst ex ey
  obtain rfl : u = Value.ref a := rx
  obtain rfl : iv = Value.ref b := ry
  obtain ⟨_, hsm, vs, rk, hm⟩ := dn_at I3 hn
  have hz : vs.length ≤ sizeLine := by
    have := Paired.length rk
    omega
  refine wpAny_setItem_heap (hsz := hz) (room_in hu) (key_ent I3 hd) hm fun h' hm' hsb => ?_
  have he : ∃ q, h'.get? a = some q := let ⟨q, _, _, hq, _⟩ := hm'; ⟨q, hq⟩
  exact ⟨σ, _, d_write I3 (by rw [hn.at_]; exact True.intro) hsb he (dn_new (by have := putN_len kvs k b v; omega) hsm (rk.put k b rv) hm'), q3⟩
theorem pe_dnewN : PE X (.Dict [] [] pos) (tDNewN κ X.prog X.w) := ⟨fun pins s σ H Q I h =>
  wpAny_Dict_empty ⟨.ref s.heap.objs.size, _, I.laid (a := s.heap.objs.size) (o := DN (κ := κ) X.prog X.w s.heap.objs.size []) (t' := s.toks) (fun _ _ q => Heap.get?_push_of_some _ q) (Nat.le_refl _)
    (dn_new (κ := κ) (kvs := []) (Nat.zero_le _) (beq_eq_false_iff_ne.mpr (Ne.symm (Nat.ne_of_lt I.big))) (vs := []) .nil (Heap.DictOfH.new s.heap)), rfl, h _ (I.hok.fresh (Nat.le_refl _))⟩⟩
end
theorem isNk_new {P : Program} {w : World} {K : PySem.W.Frag} {H : Hp} {p : Addr} : IsNk (κ := κ) P w K (upd H p (DN (κ := κ) P w p [])) p [] := ⟨upd_same, fun _ h => nomatch h⟩
theorem isNk_put {P : Program} {w : World} {K : PySem.W.Frag} {H : Hp} {D b : Addr} {kvs : Nkv κ} {e : κ} {v : V} (h : IsNk P w K H D kvs) (d : Dp K H (.ref b) (nk e).data) (sm : ∀ x ∈ kvs, NKey.fit x.1) (se : NKey.fit e) : IsNk P w K (upd H D (DN P w D (putN kvs e b v))) D (putN kvs e b v) := by
  refine ⟨upd_same, fun x hx => ?_⟩
  unfold putN at hx
  split at hx
  · obtain ⟨y, hy, rfl⟩ := List.mem_map.mp hx
    by_cases z : y.1 = e
    · rw [if_pos z]
      exact dpOverX h.wx (NKey.tups _ (sm y hy)) (h.key y hy)
    · rw [if_neg z]
      exact dpOverX h.wx (NKey.tups _ (sm y hy)) (h.key y hy)
  · rcases List.mem_append.mp hx with q | q
    · exact dpOverX h.wx (NKey.tups _ (sm x q)) (h.key x q)
    · have := List.mem_singleton.mp q
      rw [this]
      exact dpOverX h.wx (NKey.tups _ se) d
theorem valN_put (kvs : Nkv κ) (e k : κ) (b : Addr) (v : V) : valN (putN kvs e b v) k = if k = e then some v else valN kvs k := by
  have rep : ∀ kvs : Nkv κ, valN (kvs.map fun x => if x.1 = e then (x.1, x.2.1, v) else x) k = if k = e then (valN kvs e).map (fun _ => v) else valN kvs k := by
    intro kvs
    unfold valN
    induction kvs with
    | nil => by_cases z : k = e <;> simp [z]
    | cons x r ih =>
      rw [List.map_cons]
      by_cases z : x.1 = e
      · rw [if_pos z]
        by_cases y : k = e
        · rw [if_pos y, List.find?_cons_of_pos (by simp [z, y]), List.find?_cons_of_pos (by simp [z])]
          rfl
        · rw [if_neg y, List.find?_cons_of_neg (by simp [z]; exact fun q => y q.symm), List.find?_cons_of_neg (by simp [z]; exact fun q => y q.symm), ih, if_neg y]
      · rw [if_neg z]
        by_cases y : k = e
        · rw [if_pos y, List.find?_cons_of_neg (by simpa [y] using z), ih, if_pos y, List.find?_cons_of_neg (by simpa using z)]
        · rw [if_neg y] at ih ⊢
          by_cases u : x.1 = k
          · rw [List.find?_cons_of_pos (by simpa using u), List.find?_cons_of_pos (by simpa using u)]
          · rw [List.find?_cons_of_neg (by simpa using u), List.find?_cons_of_neg (by simpa using u), ih]
  unfold putN
  cases q : valN kvs e with
  | some w =>
    rw [if_pos (show (Option.some w).isSome = true from rfl), rep, q]
    rfl
  | none =>
    rw [if_neg (by simp)]
    unfold valN at q ⊢
    rw [List.find?_append]
    by_cases y : k = e
    · rw [y, Option.map_eq_none_iff.mp q, if_pos rfl]
      simp
    · rw [if_neg y]
      cases f : List.find? (fun x => decide (x.1 = k)) kvs with
      | some u => simp
      | none =>
        have : ¬ e = k := fun z => y z.symm
        simp [this]
theorem valN_mem {kvs : Nkv κ} {k : κ} {v : V} (h : valN kvs k = some v) : ∃ b, (k, b, v) ∈ kvs := by
  unfold valN at h
  obtain ⟨x, hx, rfl⟩ := Option.map_eq_some_iff.mp h
  have e := List.find?_some hx
  exact ⟨x.2.1, by rw [← of_decide_eq_true e]; exact List.mem_of_find?_eq_some hx⟩
theorem putN_fit {kvs : Nkv κ} {e : κ} {b : Addr} {v : V} (h : ∀ x ∈ kvs, NKey.fit x.1) (he : NKey.fit e) : ∀ x ∈ putN kvs e b v, NKey.fit x.1 := fun x hx => by
  unfold putN at hx
  split at hx
  · obtain ⟨y, hy, rfl⟩ := List.mem_map.mp hx
    by_cases z : y.1 = e
    · rw [if_pos z]; exact h y hy
    · rw [if_neg z]; exact h y hy
  · rcases List.mem_append.mp hx with q | q
    · exact h x q
    · rw [List.mem_singleton.mp q]; exact he
theorem lst_dn {P : Program} {w : World} {d : Addr} {kvs : Nkv κ} {xs : List V} : HO.lst xs ≠ DN P w d kvs := by
  unfold DN
  intro z
  cases z
theorem dk_dn {P : Program} {w : World} {d : Addr} {kvs : Nkv κ} {xs : List (Key × V)} : HO.dK xs ≠ DN P w d kvs := by
  unfold DN
  intro z
  cases z
theorem ins_dn {P : Program} {w : World} {d C dx : Addr} {kvs : Nkv κ} {fs : List (Str × V)} : HO.ins C dx fs ≠ DN P w d kvs := by
  unfold DN
  intro z
  cases z
theorem hu9 {k : Nat} {A : Around} (r : Room k A) : A.units + 9 < cLine := by have := r.un; omega
end
end Fc

namespace Fc
open PySem PySem.Spec L2 PyProof.Rows
variable [LamNames]
/-! ### what pressing by deeds tells, to the byte -/
def thr (S : List Int) (s : Nat) : List Int := (S.drop s).take 3
theorem nat_ext : ∀ {a b : List Nat}, a.Pairwise (· < ·) → b.Pairwise (· < ·) → (∀ x, x ∈ a ↔ x ∈ b) → a = b
  | [], [], _, _, _ => rfl
  | [], y :: b, _, _, h => absurd ((h y).mpr List.mem_cons_self) (by simp)
  | x :: a, [], _, _, h => absurd ((h x).mp List.mem_cons_self) (by simp)
  | x :: a, y :: b, ha, hb, h => by
    obtain ⟨a1, a2⟩ := List.pairwise_cons.mp ha
    obtain ⟨b1, b2⟩ := List.pairwise_cons.mp hb
    have e : x = y := by
      rcases List.mem_cons.mp ((h x).mp List.mem_cons_self) with k | k
      · exact k
      · rcases List.mem_cons.mp ((h y).mpr List.mem_cons_self) with l | l
        · exact l.symm
        · have := b1 x k
          have := a1 y l
          omega
    subst e
    rw [nat_ext a2 b2 fun z => ?_]
    constructor
    · intro k
      have lt := a1 z k
      rcases List.mem_cons.mp ((h z).mp (List.mem_cons_of_mem _ k)) with l | l
      · omega
      · exact l
    · intro k
      have lt := b1 z k
      rcases List.mem_cons.mp ((h z).mpr (List.mem_cons_of_mem _ k)) with l | l
      · omega
      · exact l
/-- the starts that are looked at, at the place i -/
def nearL (S : List Int) (i : Nat) : List Nat := (List.range i).filter fun s => decide (thr S s = thr S i ∧ i - s ≤ 256)
theorem nearL_up (S : List Int) (i : Nat) : (nearL S i).Pairwise (· < ·) := List.Pairwise.sublist List.filter_sublist List.pairwise_lt_range
theorem nearL_mem {S : List Int} {i s : Nat} : s ∈ nearL S i ↔ s < i ∧ thr S s = thr S i ∧ i - s ≤ 256 := by
  unfold nearL
  rw [List.mem_filter, List.mem_range, decide_eq_true_eq]
/-- one start is looked at -/
structure Look1 (S : List Int) (i s : Nat) (x y : Nat × Nat) : Prop where
  le : x.1 ≤ y.1
  no : ¬ (y.1 + 1 ≤ 130 ∧ agr S i (i - s) (y.1 + 1))
  eq : y.1 = x.1 → y.2 = x.2
  ne : y.1 ≠ x.1 → y.2 = i - s ∧ y.1 ≤ 130 ∧ agr S i (i - s) y.1
theorem Look1.one {S : List Int} {i s : Nat} {x y z : Nat × Nat} (a : Look1 S i s x y) (b : Look1 S i s x z) : y = z := by
  have h : ∀ {y z : Nat × Nat}, Look1 S i s x y → Look1 S i s x z → ¬ y.1 < z.1 := fun {y z} a b l => by
    have n : z.1 ≠ x.1 := by
      have := a.le
      omega
    obtain ⟨_, k1, k2⟩ := b.ne n
    exact a.no ⟨by omega, k2.le (by omega)⟩
  have e : y.1 = z.1 := by
    have := h a b
    have := h b a
    omega
  refine Prod.ext e ?_
  by_cases c : y.1 = x.1
  · rw [a.eq c, b.eq (by omega)]
  · rw [(a.ne c).1, (b.ne (by omega)).1]
inductive LookR (S : List Int) (i : Nat) : List Nat → Nat × Nat → Nat × Nat → Prop
  | nil (x) : LookR S i [] x x
  | snoc {l x y s z} : LookR S i l x y → Look1 S i s y z → LookR S i (l ++ [s]) x z
theorem LookR.one {S : List Int} {i : Nat} {l : List Nat} {x y : Nat × Nat} (a : LookR S i l x y) : ∀ {z}, LookR S i l x z → y = z := by
  induction a with
  | nil x =>
    intro z b
    generalize e : ([] : List Nat) = l at b
    cases b with
    | nil => rfl
    | snoc _ _ => simp at e
  | @snoc l x y s z h k ih =>
    intro z' b
    generalize e : l ++ [s] = l2 at b
    cases b with
    | nil => simp at e
    | snoc h2 k2 =>
      obtain ⟨e1, e2⟩ := List.append_inj' e rfl
      subst e1
      have := List.singleton_inj.mp e2
      subst this
      rw [ih h2] at k
      exact k.one k2
def prevT (T : List (Nat × Nat)) (i : Nat) : Nat × Nat := if i = 0 then (0, 0) else T.getD (i - 1) (0, 0)
/-- what longest_copies tells -/
def LonR (S : List Int) (T : List (Nat × Nat)) : Prop := ∀ i x, T[i]? = some x → LookR S i (nearL S i) ((prevT T i).1 - 1, (prevT T i).2) x
theorem LonR.one {S : List Int} {T T' : List (Nat × Nat)} (a : LonR S T) (b : LonR S T') (l : T.length = T'.length) : T = T' := by
  refine List.ext_getElem? fun i => ?_
  induction i using Nat.strongRecOn with
  | ind i ih =>
    by_cases h : i < T.length
    · have e1 := List.getElem?_eq_getElem h
      have e2 := List.getElem?_eq_getElem (l ▸ h : i < T'.length)
      have p : prevT T i = prevT T' i := by
        unfold prevT
        by_cases z : i = 0
        · rw [if_pos z, if_pos z]
        · rw [if_neg z, if_neg z, List.getD_eq_getElem?_getD, List.getD_eq_getElem?_getD, ih (i - 1) (by omega)]
      have k1 := a i _ e1
      have k2 := b i _ e2
      rw [p] at k1
      rw [e1, e2, k1.one k2]
    · rw [List.getElem?_eq_none (by omega), List.getElem?_eq_none (by omega)]
/-- the first of the least -/
structure FMin (k : Nat) (g : Nat → Nat) (j : Nat) : Prop where
  lt : j < k
  le : ∀ i, i < k → g j ≤ g i
  first : ∀ i, i < j → g i ≠ g j
theorem FMin.one {k : Nat} {g : Nat → Nat} {i j : Nat} (a : FMin k g i) (b : FMin k g j) : i = j := by
  have := a.le j b.lt
  have := b.le i a.lt
  rcases Nat.lt_trichotomy i j with h | h | h
  · exact absurd (show g i = g j by omega) (b.first i h)
  · exact h
  · exact absurd (show g j = g i by omega) (a.first j h)
def newG (S : List Int) (q : Nat) (j : Nat) : Nat := 2 + j + cst (fun k => lonF S (S.length - k)) (S.length - (q + 1 + j))
def cpyG (S : List Int) (q : Nat) (k : Nat) : Nat := 2 + cst (fun k => lonF S (S.length - k)) (S.length - (q + 3 + k))
/-- what cheapest_steps tells of a place -/
def StepD (S : List Int) (M : List (Nat × Nat)) (q : Nat) (x : Nat × Nat) : Prop :=
  ∃ j, FMin (min 128 (S.length - q)) (newG S q) j ∧
    ((¬ 3 ≤ (M.getD q (0, 0)).1 ∧ x = (j + 1, 0)) ∨ (3 ≤ (M.getD q (0, 0)).1 ∧ ∃ k, FMin ((M.getD q (0, 0)).1 - 2) (cpyG S q) k ∧ ((cpyG S q k < newG S q j ∧ x = (k + 3, (M.getD q (0, 0)).2)) ∨ (¬ cpyG S q k < newG S q j ∧ x = (j + 1, 0)))))
theorem StepD.one {S : List Int} {M : List (Nat × Nat)} {q : Nat} {x y : Nat × Nat} (a : StepD S M q x) (b : StepD S M q y) : x = y := by
  obtain ⟨j, f, h⟩ := a
  obtain ⟨j', f', h'⟩ := b
  have := f.one f'
  subst this
  rcases h with ⟨h1, rfl⟩ | ⟨h1, k, g, h⟩
  · rcases h' with ⟨_, rfl⟩ | ⟨h2, _⟩
    · rfl
    · exact absurd h2 h1
  · rcases h' with ⟨h2, _⟩ | ⟨_, k', g', h'⟩
    · exact absurd h1 h2
    · have := g.one g'
      subst this
      rcases h with ⟨c, rfl⟩ | ⟨c, rfl⟩
      · rcases h' with ⟨_, rfl⟩ | ⟨d, _⟩
        · rfl
        · exact absurd c d
      · rcases h' with ⟨d, _⟩ | ⟨_, rfl⟩
        · exact absurd d c
        · rfl
def deedB (S : List Int) (q : Nat) (x : Nat × Nat) : List Int := if x.2 = 0 then ((x.1 : Int) - 1) :: (S.drop q).take x.1 else [(x.1 : Int) - 3 + 128, (x.2 : Int) - 1]
/-- the bytes of the deeds from a place on -/
def walkD (S : List Int) (T : List (Nat × Nat)) : Nat → Nat → List Int
  | 0, _ => []
  | f + 1, q => if q < S.length then deedB S q (T.getD q (0, 0)) ++ walkD S T f (q + (T.getD q (0, 0)).1) else []
theorem walkD_end {S : List Int} {T : List (Nat × Nat)} : ∀ (f : Nat) {q : Nat}, S.length ≤ q → walkD S T f q = []
  | 0, _, _ => rfl
  | f + 1, q, h => by rw [walkD, if_neg (by omega)]
/-- more turns than needed tell no more -/
theorem walkD_more {S : List Int} {T : List (Nat × Nat)} (h : ∀ (q : Nat) (x : Nat × Nat), T[q]? = some x → 1 ≤ x.1) (lT : T.length = S.length) : ∀ (f q : Nat), S.length - q ≤ f → walkD S T f q = walkD S T (S.length - q) q
  | 0, q, l => by rw [show S.length - q = 0 by omega]
  | f + 1, q, l => by
    by_cases c : q < S.length
    · obtain ⟨g, eg⟩ : ∃ g, S.length - q = g + 1 := ⟨S.length - q - 1, by omega⟩
      have hx := h q _ (List.getElem?_eq_getElem (lT ▸ c : q < T.length))
      have e : T.getD q (0, 0) = T[q]'(lT ▸ c) := by rw [List.getD_eq_getElem?_getD, List.getElem?_eq_getElem (lT ▸ c : q < T.length)]; rfl
      rw [eg, walkD, walkD, if_pos c, if_pos c, e, walkD_more h lT f _ (by omega), ← walkD_more h lT g _ (by omega)]
    · rw [walkD_end _ (by omega), walkD_end _ (by omega)]
/-- the bytes that pressing by deeds tells -/
def PrR (S D : List Int) : Prop := ∃ M T : List (Nat × Nat), M.length = S.length ∧ LonR S M ∧ T.length = S.length ∧ (∀ (q : Nat) (x : Nat × Nat), T[q]? = some x → StepD S M q x) ∧ D = walkD S T S.length 0
theorem PrR.one {S D D' : List Int} (a : PrR S D) (b : PrR S D') : D = D' := by
  obtain ⟨M, T, l1, r1, l2, s1, rfl⟩ := a
  obtain ⟨M', T', k1, r2, k2, s2, rfl⟩ := b
  have e := r1.one r2 (by omega)
  subst e
  have : T = T' := List.ext_getElem? fun i => by
    by_cases h : i < T.length
    · have e1 := List.getElem?_eq_getElem h
      have e2 := List.getElem?_eq_getElem (show i < T'.length by omega)
      rw [e1, e2, (s1 i _ e1).one (s2 i _ e2)]
    · rw [List.getElem?_eq_none (by omega), List.getElem?_eq_none (by omega)]
  rw [this]
end Fc

namespace Fc
open PySem PySem.Spec L2 PyProof.Rows
variable [LamNames]
/-! ### what pressing by words tells, to the byte -/
def uqStep (a : List Int) (b : Int) : List Int := if b ∈ a then a else a ++ [b]
/-- the unlike ones, as they come first -/
def uq (l : List Int) : List Int := l.foldl uqStep []
theorem uq_snoc (l : List Int) (b : Int) : uq (l ++ [b]) = if b ∈ uq l then uq l else uq l ++ [b] := by
  unfold uq
  rw [List.foldl_append]
  rfl
def sortG (gs : List Grp) : List Grp := gs.mergeSort (PySem.W.dataLe false encG)
theorem sort_gr (ps : List (V × Grp)) : (ps.mergeSort (PySem.W.dataLe false fun x => encG x.2)).map Prod.snd = sortG (ps.map Prod.snd) := by
  have e : PySem.W.dataLe false (fun x : V × Grp => encG x.2) = fun p q => PySem.W.dataLe false encG p.2 q.2 := rfl
  rw [e]
  exact PySem.W.sort_maps Prod.snd fun _ _ _ _ => rfl
/-- groups put together, over and over -/
def hLoop : Nat → List Grp → (Int → Nat) → (Int → Nat)
  | 0, _, g => g
  | _ + 1, [], g => g
  | _ + 1, [_], g => g
  | n + 1, x :: y :: r, g => hLoop n (sortG (r ++ [(x.1 + y.1, x.2 ++ y.2)])) (upG g (x.2 ++ y.2))
theorem sortG_len (gs : List Grp) : (sortG gs).length = gs.length := (List.mergeSort_perm _ _).length_eq
theorem hLoop_few {n : Nat} {gs : List Grp} {g : Int → Nat} (h : gs.length ≤ 1) : hLoop n gs g = g := by
  match n, gs, h with
  | 0, _, _ => rfl
  | _ + 1, [], _ => rfl
  | _ + 1, [_], _ => rfl
def lensOf (bs : List Int) (f : Int → Int) : Int → Nat := if bs.length = 1 then fun _ => 1 else hLoop bs.length (sortG (bs.map fun b => (f b, [b]))) fun _ => 0
end Fc

namespace Fc
open PySem PySem.Spec L2 PyProof.Rows
def topS (i : Nat) : Stmt := PySem.Challenge.pw_filecrate_k13_whole_best_kind.main.body.getD i (.Pass ⟨0, 0, 0, 0⟩)
abbrev sBodyDeeds : Stmt := topS 11
abbrev nBodyDeeds : List Str := ["body", "steps", "told", "at", "many", "back"]
theorem scBodyDeeds : FnScope nBodyDeeds ["body"] (defScope sBodyDeeds) := ⟨rfl, rfl, rfl, by decide +kernel, rfl, by decide +kernel, by decide +kernel⟩
abbrev sDeedBytes : Stmt := topS 12
abbrev nDeedBytes : List Str := ["body", "at", "many", "back"]
theorem scDeedBytes : FnScope nDeedBytes ["body", "at", "many", "back"] (defScope sDeedBytes) := ⟨rfl, rfl, rfl, by decide +kernel, rfl, by decide +kernel, by decide +kernel⟩
abbrev sCheapestSteps : Stmt := topS 13
abbrev nCheapestSteps : List Str := ["body", "copies", "costs", "steps", "at", "longest", "back", "many", "cost"]
theorem scCheapestSteps : FnScope nCheapestSteps ["body"] (defScope sCheapestSteps) := ⟨rfl, rfl, rfl, by decide +kernel, rfl, by decide +kernel, by decide +kernel⟩
abbrev sCheapestNew : Stmt := topS 14
abbrev nCheapestNew : List Str := ["costs", "at", "most", "ways", "cost", "many"]
theorem scCheapestNew : FnScope nCheapestNew ["costs", "at"] (defScope sCheapestNew) := ⟨rfl, rfl, rfl, by decide +kernel, rfl, by decide +kernel, by decide +kernel⟩
abbrev sCheapestCopy : Stmt := topS 15
abbrev nCheapestCopy : List Str := ["costs", "at", "longest", "ways", "cost", "many"]
theorem scCheapestCopy : FnScope nCheapestCopy ["costs", "at", "longest"] (defScope sCheapestCopy) := ⟨rfl, rfl, rfl, by decide +kernel, rfl, by decide +kernel, by decide +kernel⟩
abbrev sLongestCopies : Stmt := topS 16
abbrev nLongestCopies : List Str := ["body", "told", "earlier", "many", "back", "at", "three", "near", "start"]
theorem scLongestCopies : FnScope nLongestCopies ["body"] (defScope sLongestCopies) := ⟨rfl, rfl, rfl, by decide +kernel, rfl, by decide +kernel, by decide +kernel⟩
abbrev sCanCopy : Stmt := topS 17
abbrev nCanCopy : List Str := ["body", "start", "at", "many"]
theorem scCanCopy : FnScope nCanCopy ["body", "start", "at", "many"] (defScope sCanCopy) := ⟨rfl, rfl, rfl, by decide +kernel, rfl, by decide +kernel, by decide +kernel⟩
abbrev sBodyOfDeeds : Stmt := topS 18
abbrev nBodyOfDeeds : List Str := ["some", "body", "at", "behind"]
theorem scBodyOfDeeds : FnScope nBodyOfDeeds ["some"] (defScope sBodyOfDeeds) := ⟨rfl, rfl, rfl, by decide +kernel, rfl, by decide +kernel, by decide +kernel⟩
abbrev sCheckWhole : Stmt := topS 19
abbrev nCheckWhole : List Str := ["some", "behind"]
theorem scCheckWhole : FnScope nCheckWhole ["some", "behind"] (defScope sCheckWhole) := ⟨rfl, rfl, rfl, by decide +kernel, rfl, by decide +kernel, by decide +kernel⟩
abbrev sAddCopies : Stmt := topS 20
abbrev nAddCopies : List Str := ["body", "many", "back", "k"]
theorem scAddCopies : FnScope nAddCopies ["body", "many", "back"] (defScope sAddCopies) := ⟨rfl, rfl, rfl, by decide +kernel, rfl, by decide +kernel, by decide +kernel⟩
abbrev sNumberBytes : Stmt := topS 23
abbrev nNumberBytes : List Str := ["n", "told", "left"]
theorem scNumberBytes : FnScope nNumberBytes ["n"] (defScope sNumberBytes) := ⟨rfl, rfl, rfl, by decide +kernel, rfl, by decide +kernel, by decide +kernel⟩
abbrev sReadNumber : Stmt := topS 24
abbrev nReadNumber : List Str := ["some", "at", "number", "worth", "place", "byte"]
theorem scReadNumber : FnScope nReadNumber ["some", "at"] (defScope sReadNumber) := ⟨rfl, rfl, rfl, by decide +kernel, rfl, by decide +kernel, by decide +kernel⟩
abbrev sReadFixed : Stmt := topS 25
abbrev nReadFixed : List Str := ["some", "at", "many", "number", "place"]
theorem scReadFixed : FnScope nReadFixed ["some", "at", "many"] (defScope sReadFixed) := ⟨rfl, rfl, rfl, by decide +kernel, rfl, by decide +kernel, by decide +kernel⟩
abbrev sByteAt : Stmt := topS 26
abbrev nByteAt : List Str := ["some", "place"]
theorem scByteAt : FnScope nByteAt ["some", "place"] (defScope sByteAt) := ⟨rfl, rfl, rfl, by decide +kernel, rfl, by decide +kernel, by decide +kernel⟩
abbrev sBodyWords : Stmt := topS 29
abbrev nBodyWords : List Str := ["body", "lengths", "bits", "told", "byte", "length", "number"]
theorem scBodyWords : FnScope nBodyWords ["body"] (defScope sBodyWords) := ⟨rfl, rfl, rfl, by decide +kernel, rfl, by decide +kernel, by decide +kernel⟩
abbrev sCounted : Stmt := topS 30
abbrev nCounted : List Str := ["body", "counts", "byte"]
theorem scCounted : FnScope nCounted ["body"] (defScope sCounted) := ⟨rfl, rfl, rfl, by decide +kernel, rfl, by decide +kernel, by decide +kernel⟩
abbrev sWordLengths : Stmt := topS 31
abbrev nWordLengths : List Str := ["counts", "lengths", "groups", "many", "members", "byte"]
theorem scWordLengths : FnScope nWordLengths ["counts"] (defScope sWordLengths) := ⟨rfl, rfl, rfl, by decide +kernel, rfl, by decide +kernel, by decide +kernel⟩
abbrev sWordsOf : Stmt := topS 32
abbrev nWordsOf : List Str := ["lengths", "told", "number", "ahead", "length", "byte"]
theorem scWordsOf : FnScope nWordsOf ["lengths"] (defScope sWordsOf) := ⟨rfl, rfl, rfl, by decide +kernel, rfl, by decide +kernel, by decide +kernel⟩
abbrev sWordBits : Stmt := topS 33
abbrev nWordBits : List Str := ["number", "length", "place"]
theorem scWordBits : FnScope nWordBits ["number", "length"] (defScope sWordBits) := ⟨rfl, rfl, rfl, by decide +kernel, rfl, by decide +kernel, by decide +kernel⟩
abbrev sHeadOf : Stmt := topS 34
abbrev nHeadOf : List Str := ["lengths", "many", "told", "byte"]
theorem scHeadOf : FnScope nHeadOf ["lengths", "many"] (defScope sHeadOf) := ⟨rfl, rfl, rfl, by decide +kernel, rfl, by decide +kernel, by decide +kernel⟩
abbrev sBytesOfBits : Stmt := topS 35
abbrev nBytesOfBits : List Str := ["bits", "whole", "at"]
theorem scBytesOfBits : FnScope nBytesOfBits ["bits"] (defScope sBytesOfBits) := ⟨rfl, rfl, rfl, by decide +kernel, rfl, by decide +kernel, by decide +kernel⟩
abbrev sByteOfBits : Stmt := topS 36
abbrev nByteOfBits : List Str := ["bits", "byte", "bit"]
theorem scByteOfBits : FnScope nByteOfBits ["bits"] (defScope sByteOfBits) := ⟨rfl, rfl, rfl, by decide +kernel, rfl, by decide +kernel, by decide +kernel⟩
abbrev sBodyOfWords : Stmt := topS 37
abbrev nBodyOfWords : List Str := ["some", "words", "body", "place", "lengths", "at", "many", "byte", "length", "number"]
theorem scBodyOfWords : FnScope nBodyOfWords ["some"] (defScope sBodyOfWords) := ⟨rfl, rfl, rfl, by decide +kernel, rfl, by decide +kernel, by decide +kernel⟩
abbrev sReadLengths : Stmt := topS 38
abbrev nReadLengths : List Str := ["some", "lengths", "last", "many", "at", "byte"]
theorem scReadLengths : FnScope nReadLengths ["some"] (defScope sReadLengths) := ⟨rfl, rfl, rfl, by decide +kernel, rfl, by decide +kernel, by decide +kernel⟩
abbrev sReadHeadNumber : Stmt := topS 39
abbrev nReadHeadNumber : List Str := ["some", "at"]
theorem scReadHeadNumber : FnScope nReadHeadNumber ["some", "at"] (defScope sReadHeadNumber) := ⟨rfl, rfl, rfl, by decide +kernel, rfl, by decide +kernel, by decide +kernel⟩
abbrev sReadHeadByte : Stmt := topS 40
abbrev nReadHeadByte : List Str := ["some", "at"]
theorem scReadHeadByte : FnScope nReadHeadByte ["some", "at"] (defScope sReadHeadByte) := ⟨rfl, rfl, rfl, by decide +kernel, rfl, by decide +kernel, by decide +kernel⟩
abbrev sCheckLengths : Stmt := topS 41
abbrev nCheckLengths : List Str := ["lengths", "byte", "shares"]
theorem scCheckLengths : FnScope nCheckLengths ["lengths"] (defScope sCheckLengths) := ⟨rfl, rfl, rfl, by decide +kernel, rfl, by decide +kernel, by decide +kernel⟩
abbrev sReadWord : Stmt := topS 42
abbrev nReadWord : List Str := ["words", "some", "place", "length", "number"]
theorem scReadWord : FnScope nReadWord ["words", "some", "place"] (defScope sReadWord) := ⟨rfl, rfl, rfl, by decide +kernel, rfl, by decide +kernel, by decide +kernel⟩
abbrev sBitAt : Stmt := topS 43
abbrev nBitAt : List Str := ["some", "place", "at", "behind"]
theorem scBitAt : FnScope nBitAt ["some", "place"] (defScope sBitAt) := ⟨rfl, rfl, rfl, by decide +kernel, rfl, by decide +kernel, by decide +kernel⟩
abbrev sCheckRest : Stmt := topS 44
abbrev nCheckRest : List Str := ["some", "place", "rest"]
theorem scCheckRest : FnScope nCheckRest ["some", "place"] (defScope sCheckRest) := ⟨rfl, rfl, rfl, by decide +kernel, rfl, by decide +kernel, by decide +kernel⟩
abbrev sPressed : Stmt := topS 47
abbrev nPressed : List Str := ["kind", "body"]
theorem scPressed : FnScope nPressed ["kind", "body"] (defScope sPressed) := ⟨rfl, rfl, rfl, by decide +kernel, rfl, by decide +kernel, by decide +kernel⟩
abbrev sUnpressed : Stmt := topS 48
abbrev nUnpressed : List Str := ["kind", "some"]
theorem scUnpressed : FnScope nUnpressed ["kind", "some"] (defScope sUnpressed) := ⟨rfl, rfl, rfl, by decide +kernel, rfl, by decide +kernel, by decide +kernel⟩
abbrev sBestKind : Stmt := topS 49
abbrev nBestKind : List Str := ["body"]
theorem scBestKind : FnScope nBestKind ["body"] (defScope sBestKind) := ⟨rfl, rfl, rfl, by decide +kernel, rfl, by decide +kernel, by decide +kernel⟩
abbrev sBestPressed : Stmt := topS 50
abbrev nBestPressed : List Str := ["body", "ways", "many", "kind", "some"]
theorem scBestPressed : FnScope nBestPressed ["body"] (defScope sBestPressed) := ⟨rfl, rfl, rfl, by decide +kernel, rfl, by decide +kernel, by decide +kernel⟩
abbrev sLawD : Stmt := topS 52
abbrev nLawD : List Str := ["_law_cell", "_law_place", "_law_many", "_law_number"]
theorem scLawD : FnScope nLawD ["_law_cell", "_law_place", "_law_many"] (defScope sLawD) := ⟨rfl, rfl, rfl, by decide +kernel, rfl, by decide +kernel, by decide +kernel⟩
abbrev sLawSame : Stmt := topS 53
abbrev nLawSame : List Str := ["_law_told", "_law_due", "_law_one", "_law_other"]
theorem scLawSame : FnScope nLawSame ["_law_told", "_law_due"] (defScope sLawSame) := ⟨rfl, rfl, rfl, by decide +kernel, rfl, by decide +kernel, by decide +kernel⟩
abbrev sLawFew : Stmt := topS 54
abbrev nLawFew : List Str := ["_law_script", "_law_begin", "_law_end", "_law_cell", "_law_wide", "_law_one"]
theorem scLawFew : FnScope nLawFew ["_law_script", "_law_begin", "_law_end"] (defScope sLawFew) := ⟨rfl, rfl, rfl, by decide +kernel, rfl, by decide +kernel, by decide +kernel⟩
abbrev sLaw : Stmt := topS 55
abbrev nLaw : List Str := ["_law_script", "_law_body", "_law_many", "_law_kind", "_law_some", "_law_one"]
theorem scLaw : FnScope nLaw ["_law_script"] (defScope sLaw) := ⟨rfl, rfl, rfl, by decide +kernel, rfl, by decide +kernel, by decide +kernel⟩
structure Env (K : PySem.W.Frag) (mg : Str → Option Value) : Prop where
  b_all : mg "all" = none
  b_bool : mg "bool" = none
  b_divmod : mg "divmod" = none
  b_int : mg "int" = none
  b_isinstance : mg "isinstance" = none
  b_len : mg "len" = none
  b_max : mg "max" = none
  b_min : mg "min" = none
  b_range : mg "range" = none
  b_sorted : mg "sorted" = none
  b_str : mg "str" = none
  b_sum : mg "sum" = none
  b_tuple : mg "tuple" = none
  b_zip : mg "zip" = none
  g_FIRST_COPY : ∃ t, mg "FIRST_COPY" = some (.int 128 t)
  g_KINDS : ∃ a, mg "KINDS" = some (.ref a) ∧ ∀ H, SqT K H a [.int 0, .int 1, .int 2]
  g_LEAST_COPIED : ∃ t, mg "LEAST_COPIED" = some (.int 3 t)
  g_LONGEST_WORD : ∃ t, mg "LONGEST_WORD" = some (.int 30 t)
  g_MOST_BACK : ∃ t, mg "MOST_BACK" = some (.int 256 t)
  g_MOST_BYTES : ∃ t, mg "MOST_BYTES" = some (.int 6 t)
  g_MOST_COPIED : ∃ t, mg "MOST_COPIED" = some (.int 130 t)
  g_MOST_NEW : ∃ t, mg "MOST_NEW" = some (.int 128 t)
  g_MOST_OF_BODY : ∃ t, mg "MOST_OF_BODY" = some (.int 1000 t)
structure Excs (K : PySem.W.Frag) (mg : Str → Option Value) (e_Cut e_BadForm : Addr) : Prop where
  Cut : Exc K mg "Cut" e_Cut
  BadForm : Exc K mg "BadForm" e_BadForm
  p_Cut_Cut : PySem.W.exmOne K (.ref e_Cut) (.ref e_Cut) = some true
  p_Cut_BadForm : PySem.W.exmOne K (.ref e_Cut) (.ref e_BadForm) = some false
  p_BadForm_Cut : PySem.W.exmOne K (.ref e_BadForm) (.ref e_Cut) = some false
  p_BadForm_BadForm : PySem.W.exmOne K (.ref e_BadForm) (.ref e_BadForm) = some true

section
variable [LamNames] {P : Program} {w : World} {mg : Str → Option Value} {K : PySem.W.Frag} {base : Heap} {e_Cut e_BadForm : Addr}
/-! ### can_copy -/
theorem take_agr {S : List Int} {s q m : Nat} (hs : s ≤ q) (hm : q + m ≤ S.length) : (S.drop s).take m = (S.drop q).take m ↔ agr S q (q - s) m := by
  unfold agr
  constructor
  · intro h
    refine ⟨hm, fun i hi => ?_⟩
    have := congrArg (fun l => l[i]?) h
    simp only [List.getElem?_take, List.getElem?_drop, if_pos hi] at this
    rw [show q + i - (q - s) = s + i by omega]
    exact this.symm
  · intro ⟨_, h⟩
    apply List.ext_getElem?
    intro i
    rw [List.getElem?_take, List.getElem?_take]
    by_cases hi : i < m
    · rw [if_pos hi, if_pos hi, List.getElem?_drop, List.getElem?_drop, h i hi, show q + i - (q - s) = s + i by omega]
    · rw [if_neg hi, if_neg hi]
def spCan (K : PySem.W.Frag) : Sp := fun vs H Q _ => ∃ (p : Addr) (S : List Int) (s q m : Nat), vs = [.ref p, .int (s : Int), .int (q : Int), .int (m : Int)] ∧ SqT K H p (S.map V.int) ∧ s < q ∧ 1 ≤ m ∧ ∀ b H', Same H H' → (b = true ↔ m ≤ 130 ∧ agr S q (q - s) m) → Q (.bl b) H'
theorem ok_can {f : Addr} {fd : FuncData} (Ev : Env K mg) (F : Fun K "can_copy" "can_copy" sCanCopy f fd) : FnOk P w K mg base CX0 1 f fd ["body", "start", "at", "many"] (spCan K) := by
  refine F.ok scCanCopy (fun vs H Q E h => ?_) (fun cdv A outer s H vs Q E hr h => ?_)
  · obtain ⟨p, S, s, q, m, rfl, _⟩ := h; rfl
  · obtain ⟨p, S, st, pl, m, rfl, hp, lt, m1, q⟩ := h
    refine ⟨_, (pss_cons (ps_if (PW.pt (pw_or (pt_cmpR op_gt (pv 3) (pe_globI (by rfl) Ev.g_MOST_COPIED) (nomark _)) (pw_or1 (pt_cmpR op_gt (pe_op op_add (pv 2) (pv 3)) (pe_callB call_len_seq (by rfl) Ev.b_len PySem.boot_len (pa_cons (pv 0) pa_nil)) (nomark _)))))
        (pss_one (ps_ret pe_bl))
        pss_nil)
      (pss_cons (ps_if (pt_cmpR op_ne (pe_ix ix_tup (pv 0) (pe_op op_sub (pe_op op_add (pv 1) (pv 3)) pe_int) (fun _ _ => rfl)) (pe_ix ix_tup (pv 0) (pe_op op_sub (pe_op op_add (pv 2) (pv 3)) pe_int) (fun _ _ => rfl)) (nomark _))
        (pss_one (ps_ret pe_bl))
        pss_nil)
      (pss_one (ps_ret (pe_cmpR (op_eqD hr.units) (pe_slice sl_tupU (pv 0) (po_some (pv 1)) (po_some (pe_op op_add (pv 1) (pv 3)))) (pe_slice sl_tupU (pv 0) (po_some (pv 2)) (po_some (pe_op op_add (pv 2) (pv 3)))) (nomark _)))))), ?_⟩
    have no : ¬ (m ≤ 130 ∧ agr S pl (pl - st) m) → Q (.bl false) H := fun n => q false H (Same.refl _) ⟨(fun z => nomatch z), fun z => absurd z n⟩
    refine ⟨_, rfl, _, _, rfl, rfl, _, rfl, ite2 (fun z => iteT ?_) (fun z => ?_)⟩
    · have z' := of_decide_eq_true z
      exact no fun ⟨a, _⟩ => by omega
    have z' : ¬ (130 : Int) < (m : Int) := fun y => z (decide_eq_true y)
    refine ⟨_, rfl, _, rfl, _, _, rfl, rfl, _, rfl, p, _, rfl, .inr hp, _, _, rfl, rfl, _, rfl, ite2 (fun y => ?_) (fun y => ?_)⟩
    · have y' := of_decide_eq_true y
      rw [List.length_map] at y'
      exact no fun ⟨_, a⟩ => by have := a.1; omega
    have y' : ¬ (((S.map V.int).length : Int) < (pl : Int) + (m : Int)) := fun x => y (decide_eq_true x)
    rw [List.length_map] at y'
    have l1 : st + m - 1 < S.length := by omega
    have l2 : pl + m - 1 < S.length := by omega
    have g1 : (S.map V.int)[st + m - 1]? = some (.int S[st + m - 1]) := by rw [List.getElem?_map, List.getElem?_eq_getElem l1]; rfl
    have g2 : (S.map V.int)[pl + m - 1]? = some (.int S[pl + m - 1]) := by rw [List.getElem?_map, List.getElem?_eq_getElem l2]; rfl
    refine ⟨_, rfl, _, rfl, _, rfl, _, _, rfl, rfl, _, _, rfl, rfl, p, _, _, _, rfl, rfl, hp, at_of (show (st : Int) + (m : Int) - 1 = ((st + m - 1 : Nat) : Int) by omega) g1, _, rfl, _, rfl, _, rfl, _, _, rfl, rfl, _, _, rfl, rfl, p, _, _, _, rfl, rfl, hp, at_of (show (pl : Int) + (m : Int) - 1 = ((pl + m - 1 : Nat) : Int) by omega) g2, rfl, _, rfl, ite2 (fun x => ?_) (fun x => ?_)⟩
    · have ne : S[st + m - 1] ≠ S[pl + m - 1] := fun e => by
        rw [e, decide_eq_true rfl] at x
        cases x
      exact no fun ⟨_, a⟩ => ne (by
        have := a.2 (m - 1) (by omega)
        rw [show pl + (m - 1) = pl + m - 1 by omega, show pl + m - 1 - (pl - st) = st + m - 1 by omega, List.getElem?_eq_getElem l2, List.getElem?_eq_getElem l1] at this
        exact (Option.some.inj this).symm)
    · refine ⟨_, rfl, _, rfl, (st : Int), rfl, _, rfl, _, rfl, _, _, rfl, rfl, ((st + m : Nat) : Int), congrArg V.int (by omega), p, _, rfl, hp, fun H1 t1 s1 h1 => ⟨_, rfl, _, rfl, (pl : Int), rfl, _, rfl, _, rfl, _, _, rfl, rfl, ((pl + m : Nat) : Int), congrArg V.int (by omega), p, _, rfl, keepT s1 hp, fun H2 t2 s2 h2 => ?_⟩⟩
      rw [cut_mid, show st + m - st = m by omega] at h1
      rw [cut_mid, show pl + m - pl = m by omega] at h2
      refine ⟨_, _, dp_ints (keepT s2 h1), dp_ints h2, shape_ints _, shape_ints _, ?_⟩
      rw [eqv_tup]
      refine q _ _ (s1.trans s2) ?_
      rw [decide_eq_true_eq, take_agr (by omega) (by omega)]
      exact ⟨fun a => ⟨by omega, a⟩, fun a => a.2⟩

/-! ### longest_copies -/
/-- what earlier tells of the first i places -/
def Near (S : List Int) (d : Addr) (i : Nat) (H : Hp) (k : List Int) : Option V → Prop
  | none => ∀ s, s < i → thr S s ≠ k
  | some v => ∃ l xs, v = .ref l ∧ l ≠ d ∧ H l = some (.lst (nV xs)) ∧ xs.length ≤ i ∧ (∀ x ∈ xs, x < i ∧ thr S x = k) ∧ xs.Pairwise (· < ·) ∧ ∀ s, s < i → thr S s = k → s ∈ xs ∨ s + 256 < i
def EOk (S : List Int) (d : Addr) (i : Nat) (H : Hp) (kvs : Nkv (List Int)) : Prop := ∀ k : List Int, Near S d i H k (valN kvs k)
theorem thr_eq {S : List Int} {q far m : Nat} (h : cop S q far m) (h3 : 3 ≤ m) : thr S (q - far) = thr S q := by
  have f1 := h.1
  have f2 := h.2.1
  have l := h.2.2.2.2.1
  have := (take_agr (S := S) (s := q - far) (q := q) (m := 3) (by omega) (by omega)).mpr (by
    rw [show q - (q - far) = far by omega]
    exact h.2.2.2.2.le h3)
  exact this
def spLon (K : PySem.W.Frag) : Sp := fun vs H Q _ => ∃ (p : Addr) (S : List Int), vs = [.ref p] ∧ SqT K H p (S.map V.int) ∧ S.length ≤ 1000 ∧ ∀ H' d ts (T : List (Nat × Nat)), Same H H' → H' d = some (.lst ts) → Ps K H' T ts → T.length = S.length → (∀ j x, T[j]? = some x → LonOk S j x.1 x.2) → LonR S T → Q (.ref d) H'
structure LonI (P : Program) (w : World) (K : PySem.W.Frag) (S : List Int) (H : Hp) (p d e : Addr) (i : Nat) (m b : Nat) (T : List (Nat × Nat)) (ts : List V) (kvs : Nkv (List Int)) (H' : Hp) : Prop where
  sm : Same H H'
  hd : H' d = some (.lst ts)
  ps : Ps K H' T ts
  lT : T.length = i
  ok : ∀ j x, T[j]? = some x → LonOk S j x.1 x.2
  he : IsNk P w K H' e kvs
  fit : ∀ x ∈ kvs, NKey.fit x.1
  lr : LonR S T
  pv : (m, b) = prevT T i
  lk : kvs.length ≤ i
  ek : EOk S d i H' kvs
  mb : m = 0 ∨ (1 ≤ i ∧ cop S (i - 1) b m)
theorem ok_lon {f : Addr} {fd : FuncData} (Ev : Env K mg) (CCanCopy : Cal P w K mg base "can_copy" 1 ["body", "start", "at", "many"] (spCan K)) (F : Fun K "longest_copies" "longest_copies" sLongestCopies f fd) : FnOk P w K mg base CX0 2 f fd ["body"] (spLon K) := by
  refine F.ok scLongestCopies (fun vs H Q E h => ?_) (fun cdv A outer s H vs Q E hr h => ?_)
  · obtain ⟨p, S, rfl, _⟩ := h; rfl
  · obtain ⟨p, S, rfl, hp, few, q⟩ := h
    refine ⟨_, (pss_cons (ps_set (i := 1) scLongestCopies.nd rfl (.inl rfl) (pe_lst pa_nil))
      (pss_cons (ps_set (i := 2) scLongestCopies.nd rfl (.inl rfl) (pe_dnewN (κ := (List Int))))
      (pss_cons (ps_set (i := 3) scLongestCopies.nd rfl (.inl rfl) pe_int)
      (pss_cons (ps_set (i := 4) scLongestCopies.nd rfl (.inl rfl) pe_int)
      (pss_cons (ps_for PassesOwn.never rfl (pi_range1 (by rfl) Ev.b_range (pa_cons (pe_callB call_len_seq (by rfl) Ev.b_len PySem.boot_len (pa_cons (pv 0) pa_nil)) pa_nil)) (pg_name (i := 5) scLongestCopies.nd rfl (.inr rfl))
        (pss_cons (ps_set (i := 3) scLongestCopies.nd rfl (.inl rfl) (pe_callB (call_max2 rfl) (by rfl) Ev.b_max (by decide +kernel) (pa_cons pe_int (pa_cons (pe_op op_sub (pv 3) pe_int) pa_nil))))
        (pss_cons (ps_set (i := 6) scLongestCopies.nd rfl (.inl rfl) (pe_slice sl_tupU (pv 0) (po_some (pv 5)) (po_some (pe_op op_add (pv 5) (pe_globI (by rfl) Ev.g_LEAST_COPIED)))))
        (pss_cons (ps_setLc (i := 7) (own := [("start", 8)]) (g := gName 8) (by rfl) scLongestCopies.nd rfl rfl (sw_true rfl rfl rfl (by decide +kernel)) (pi_list (pe_nget2 (κ := (List Int)) (hu9 hr) (pv 2) (pv 6) (pe_lst pa_nil) ⟨rfl, rfl, rfl, rfl⟩)) (blkOk_by (own := [("start", 8)]) (N := nLongestCopies) (sc := defScope sLongestCopies) (by decide +kernel)) (fun _ _ _ _ _ => (pg_name (i := 8) scLongestCopies.nd rfl (.inl rfl))) (fun _ _ _ _ _ => pts_one (pt_cmpR op_le (pe_op op_sub (pv 5) (pv 8)) (pe_globI (by rfl) Ev.g_MOST_BACK) (nomark _))) (fun _ _ _ _ _ => (pv 8)))
        (pss_cons (ps_for PassesOwn.never rfl (pi_list (pv 7)) (pg_name (i := 8) scLongestCopies.nd rfl (.inl rfl))
          (pss_one (ps_while PassesOwn.never (pt_val (pe_c CCanCopy (hr.mono (by omega)) (pa_cons (pv 0) (pa_cons (pv 8) (pa_cons (pv 5) (pa_cons (pe_op op_add (pv 3) pe_int) pa_nil))))))
            (pss_cons (ps_aug (i := 3) scLongestCopies.nd rfl (.inl rfl) pe_int ip_add)
            (pss_one (ps_set (i := 4) scLongestCopies.nd rfl (.inl rfl) (pe_op op_sub (pv 5) (pv 8))))))))
        (pss_cons (ps_expr (pe_bm PySem.F.plainAttrs_list PySem.F.slot_list_append PySem.F.type_list_append mt_append (pv 1) (pa_cons (pe_tupU (pa_cons (pv 3) (pa_cons (pv 4) pa_nil))) pa_nil)))
        (pss_one (ps_nput (κ := (List Int)) (hu9 hr) (pv 2) (pv 6) (pe_op op_cat (pv 7) (pe_lst (pa_cons (pv 5) pa_nil))) rfl))))))))
      (pss_one (ps_ret (pv 1)))))))), ?_⟩
    have sz : ∀ n : Nat, n ≤ 5000 → n ≤ sizeLine := fun n h => by rw [sizeLine_eq]; omega
    refine ⟨Nat.zero_le _, fun d nd e ne => ?_⟩
    have s1 : Same H (upd H d (.lst [])) := grow nd
    have s2 : Same H (upd (upd H d (.lst [])) e (DN (κ := List Int) P w e [])) := s1.trans (grow ne)
    have nde : e ≠ d := fun z => by rw [z, upd_same] at ne; cases ne
    have neH : H e = none := by rw [upd_ne nde] at ne; exact ne
    have hd0 : (upd (upd H d (.lst [])) e (DN (κ := List Int) P w e [])) d = some (.lst []) := by rw [upd_ne (Ne.symm nde), upd_same]
    have he0 : (upd (upd H d (.lst [])) e (DN (κ := List Int) P w e [])) e = some (DN (κ := List Int) P w e []) := upd_same
    refine ⟨_, rfl, p, _, rfl, .inr (keepT s2 hp), _, rfl, by rw [List.length_map]; omega, by rw [List.length_map]; omega, for_range (lo := 0) (fun i σ H' => ∃ (m b : Nat) (T : List (Nat × Nat)) (ts : List V) (kvs : Nkv (List Int)) (y5 y6 y7 y8 : Option V), σ = [some (.ref p), some (.ref d), some (.ref e), some (.int (m : Int)), some (.int (b : Int)), y5, y6, y7, y8] ∧ LonI P w K S H p d e i m b T ts kvs H') ⟨0, 0, [], [], [], none, none, none, none, rfl, ⟨s2, hd0, .nil, rfl, (fun j x z => by cases z), isNk_new, (fun x hx => nomatch hx), (fun j x z => by cases z), rfl, Nat.le_refl _, (fun k s hs => absurd hs (by omega)), .inl rfl⟩⟩ (fun i σ H' hi p' => ?_) (fun σ H' p' => ?_)⟩
    · obtain ⟨m, b, T, ts, kvs, y5, y6, y7, y8, rfl, inv⟩ := p'
      have li : i < S.length := by
        rw [List.length_map] at hi
        omega
      have e0 : (0 : Int) + (i : Int) = (i : Int) := by omega
      rw [e0]
      refine ⟨_, rfl, _, _, rfl, rfl, _, _, rfl, ?_⟩
      have em : (if (m : Int) - 1 > 0 then (m : Int) - 1 else 0) = ((m - 1 : Nat) : Int) := by
        split <;> omega
      dsimp only
      rw [em]
      have mb : m - 1 = 0 ∨ cop S i b (m - 1) := by
        rcases inv.mb with z | ⟨i1, c⟩
        · left; omega
        · by_cases z : m ≤ 1
          · left; omega
          · right
            have c' : cop S (i - 1) b (m - 1 + 1) := by rw [show m - 1 + 1 = m by omega]; exact c
            have := c'.next
            rw [show i - 1 + 1 = i by omega] at this
            exact this
      have epv := inv.pv
      obtain ⟨m0, em0⟩ : ∃ m0, m0 = m - 1 := ⟨_, rfl⟩
      rw [← em0] at mb em ⊢
      have hp' := keepT inv.sm hp
      refine ⟨_, rfl, _, rfl, (i : Int), rfl, _, rfl, _, _, rfl, rfl, ((i + 3 : Nat) : Int), congrArg V.int (by omega), p, _, rfl, hp', fun H1 t3 g1 h1 => ?_⟩
      rw [cut_mid, show i + 3 - i = 3 by omega] at h1
      have h1k : Dp K H1 (.ref t3) (NKey.nk (thr S i)).data := by rw [nk_ints]; exact dpTup h1
      have he1 := inv.he.keep g1
      have hd1 := g1 _ _ inv.hd
      refine ⟨_, rfl, e, _, rfl, he1, _, rfl, Nat.zero_le _, fun l0 n0 => ⟨_, (he1.keep (grow n0)).get (dpKeep (grow n0) h1k), ?_⟩⟩
      have g2 : Same H' (upd H1 l0 (.lst [])) := g1.trans (grow n0)
      have hl0 : (upd H1 l0 (.lst [])) l0 = some (.lst []) := upd_same
      have h2k := dpKeep (grow n0 (o := .lst [])) h1k
      have nl0 : H' l0 = none := g1.free n0
      generalize upd H1 l0 (.lst []) = H2 at g2 hl0 h2k
      -- the starts that are told
      have hx : ∃ l xs, ((valN kvs (thr S i)).getD (.ref l0)) = .ref l ∧ l ≠ d ∧ H2 l = some (.lst (nV xs)) ∧ xs.length ≤ i ∧ (∀ x ∈ xs, x < i ∧ thr S x = thr S i) ∧ xs.Pairwise (· < ·) ∧ ∀ s, s < i → thr S s = thr S i → s ∈ xs ∨ s + 256 < i := by
        have ek := inv.ek (thr S i)
        cases ev : valN kvs (thr S i) with
        | none =>
          rw [ev] at ek
          exact ⟨l0, [], rfl, (fun z => by rw [z, inv.hd] at nl0; cases nl0), hl0, Nat.zero_le _, (fun x h => nomatch h), .nil, fun s hs e => absurd e (ek s hs)⟩
        | some v =>
          rw [ev] at ek
          obtain ⟨l, xs, rfl, k1, k2, k3⟩ := ek
          exact ⟨l, xs, rfl, k1, g2 _ _ k2, k3⟩
      obtain ⟨l, xs, el, nld, hl, lx, bx, ux, cx⟩ := hx
      rw [el]
      refine ⟨l, rfl, ⟨_, SqL.of hl⟩, fun D nD => ?_⟩
      refine lcR_list (es := xs) (fun x : Nat => decide ((i : Int) - (x : Int) ≤ 256)) (fun x y _ => y = .int (x : Int)) nD (SqL.of hl) (nV_len xs).symm (sz _ (by omega)) (fun _ => rfl) (fun _ _ _ _ _ k => k) (fun _ _ _ _ _ _ _ k => k) (fun j x v H3 R hx hv s3 r => ?_) (fun j x v H3 R hx hv _ s3 r => ?_) (fun ys H3 al s3 hD => ?_)
      · obtain ⟨n, hn, rfl⟩ := nV_get hv
        have en : n = x := Option.some.inj (hn.symm.trans hx)
        subst en
        exact ⟨_, rfl, _, rfl, _, _, rfl, rfl, _, _, rfl, rfl, _, rfl, r _ (Same.refl _)⟩
      · obtain ⟨n, hn, rfl⟩ := nV_get hv
        have en : n = x := Option.some.inj (hn.symm.trans hx)
        subst en
        exact ⟨_, rfl, r _ _ (Same.refl _) rfl⟩
      obtain ⟨near, enr⟩ : ∃ near, near = xs.filter fun x : Nat => decide ((i : Int) - (x : Int) ≤ 256) := ⟨_, rfl⟩
      have eys : ys = nV near := by rw [enr]; exact al.eq_map
      rw [eys] at hD
      have lnr : near.length ≤ i := by
        rw [enr]
        exact Nat.le_trans (List.length_filter_le _ _) lx
      have bnr : ∀ x ∈ near, x < i ∧ i - x ≤ 256 := fun x hx => by
        rw [enr] at hx
        obtain ⟨a1, a2⟩ := List.mem_filter.mp hx
        have := of_decide_eq_true a2
        exact ⟨(bx x a1).1, by omega⟩
      have cnr : ∀ s, s < i → thr S s = thr S i → i - s ≤ 256 → s ∈ near := fun s hs e h => by
        rcases cx s hs e with z | z
        · rw [enr]
          exact List.mem_filter.mpr ⟨z, decide_eq_true (by omega)⟩
        · omega
      have enl : near = nearL S i := nat_ext (by rw [enr]; exact ux.sublist List.filter_sublist) (nearL_up S i) fun x => by
        rw [nearL_mem]
        constructor
        · intro hx
          have k := bnr x hx
          rw [enr] at hx
          exact ⟨k.1, (bx x (List.mem_filter.mp hx).1).2, k.2⟩
        · exact fun k => cnr x k.1 k.2.1 k.2.2
      have g3 : Same H' H3 := g2.trans s3
      have hD' : H' D = none := g2.free nD
      refine ⟨_, rfl, D, rfl, ⟨_, SqL.of hD⟩, for_list (xs := nV near) (fun j σ H4 => ∃ (m' b' : Nat) (y8 : Option V), σ = [some (.ref p), some (.ref d), some (.ref e), some (.int (m' : Int)), some (.int (b' : Int)), some (.int (i : Int)), some (.ref t3), some (.ref D), y8] ∧ Same H3 H4 ∧ (m' = 0 ∨ cop S i b' m') ∧ (∀ s ∈ near.take j, ¬ (m' + 1 ≤ 130 ∧ agr S i (i - s) (m' + 1))) ∧ LookR S i (near.take j) (m0, b) (m', b')) ⟨m0, b, _, rfl, Same.refl _, mb, (fun s hs => by cases hs), .nil _⟩ (fun j σ H4 _ p' => ?_) (fun j x σ H4 hj p' => ?_) (fun σ H4 p' => ?_)⟩
      · obtain ⟨_, _, _, _, e4, _⟩ := p'
        exact e4.seq (SqL.of hD)
      · obtain ⟨m', b', y8, rfl, g4, c4, k4, r4⟩ := p'
        obtain ⟨st, hst, rfl⟩ := nV_get hj
        have bst := bnr st (List.mem_of_getElem? hst)
        refine ⟨fun μ σ H5 => ∃ (m2 b2 : Nat), σ = [some (.ref p), some (.ref d), some (.ref e), some (.int (m2 : Int)), some (.int (b2 : Int)), some (.int (i : Int)), some (.ref t3), some (.ref D), some (.int (st : Int))] ∧ μ = 131 - m2 ∧ Same H3 H5 ∧ (m2 = 0 ∨ cop S i b2 m2) ∧ m' ≤ m2 ∧ (m2 = m' → b2 = b') ∧ (m2 ≠ m' → b2 = i - st ∧ m2 ≤ 130 ∧ agr S i (i - st) m2), ⟨_, m', b', rfl, rfl, g4, c4, Nat.le_refl _, (fun _ => rfl), fun n => absurd rfl n⟩, fun μ σ H5 hW => ?_⟩
        obtain ⟨m2, b2, rfl, rfl, g5, c5, le5, q5, r5⟩ := hW
        refine ⟨_, rfl, _, rfl, _, rfl, _, rfl, _, _, rfl, rfl, p, S, st, i, m2 + 1, congrArg (fun z => [V.ref p, V.int (st : Int), V.int (i : Int), V.int z]) (by omega), keepT (g3.trans g5) hp', bst.1, by omega, fun bb H6 g6 hb => ⟨bb, rfl, ite2 (fun z => ?_) (fun z => ?_)⟩⟩
        · obtain ⟨z1, z2⟩ := hb.mp z
          refine ⟨fun σ' H'' => ∃ m', m' < 131 - m2 ∧ _, fun σ' H'' h => h, ?_⟩
          refine ⟨_, rfl, _, _, rfl, rfl, _, rfl, _, rfl, _, _, rfl, rfl, 131 - (m2 + 1), by omega, m2 + 1, i - st, ?_, rfl, g5.trans g6, .inr ⟨by omega, by omega, by omega, z1, z2⟩, by omega, (fun e => absurd e (by omega)), fun _ => ⟨rfl, z1, z2⟩⟩
          show [_, _, _, some (V.int ((m2 : Int) + 1)), some (V.int ((i : Int) - (st : Int))), _, _, _, _] = _
          rw [show (m2 : Int) + 1 = ((m2 + 1 : Nat) : Int) by omega, show (i : Int) - (st : Int) = ((i - st : Nat) : Int) by omega]
        · have nz : ¬ (m2 + 1 ≤ 130 ∧ agr S i (i - st) (m2 + 1)) := fun y => z (hb.mpr y)
          refine ⟨m2, b2, _, rfl, g5.trans g6, c5, fun s hs => ?_, ?_⟩
          · rw [List.take_add_one, hst, Option.toList_some] at hs
            rcases List.mem_append.mp hs with hs | hs
            · exact fun y => k4 s hs ⟨by omega, y.2.le (by omega)⟩
            · rw [List.mem_singleton.mp hs]
              exact nz
          · rw [List.take_add_one, hst, Option.toList_some]
            exact .snoc r4 ⟨le5, nz, q5, r5⟩
      obtain ⟨m', b', y8, rfl, g4, c4, k4, r4⟩ := p'
      rw [nV_len, List.take_length] at k4 r4
      have g4' : Same H' H4 := g3.trans g4
      have hd4 := g4' _ _ inv.hd
      refine ⟨_, rfl, .inl ⟨rfl, _, SqL.of hd4⟩, _, rfl, _, rfl, sz _ (by simp), fun H5 t5 g5 h5 => ?_⟩
      have hd5 := g5 _ _ hd4
      have lts : ts.length = i := by rw [inv.ps.length, inv.lT]
      refine ⟨d, _, _, rfl, rfl, hd5, (by have := sz (ts.length + 1) (by omega); omega), ?_⟩
      -- the list of starts, anew
      have hD5 := g5 _ _ (g4 _ _ hD)
      have nDd : D ≠ d := fun z => by rw [z, inv.hd] at hD'; cases hD'
      obtain ⟨H6, e6⟩ : ∃ H6, H6 = upd H5 d (.lst (ts ++ [.ref t5])) := ⟨_, rfl⟩
      rw [← e6]
      have hD6 : H6 D = some (.lst (nV near)) := by rw [e6, upd_ne nDd]; exact hD5
      refine ⟨_, rfl, _, rfl, sz _ (by simp), fun l1 n1 => ⟨D, l1, _, _, rfl, rfl, (grow n1) _ _ hD6, upd_same, sz _ (by rw [nV_len]; show near.length + 1 ≤ _; omega), fun l2 n2 => ?_⟩⟩
      have g7 : Same H6 (upd (upd H6 l1 (.lst [.int (i : Int)])) l2 (.lst (nV near ++ [.int (i : Int)]))) := (grow n1).trans (grow n2)
      have hl7 : (upd (upd H6 l1 (.lst [.int (i : Int)])) l2 (.lst (nV near ++ [.int (i : Int)]))) l2 = some (.lst (nV near ++ [.int (i : Int)])) := upd_same
      have nl2 : H6 l2 = none := (grow n1).free n2
      generalize upd (upd H6 l1 (.lst [.int (i : Int)])) l2 (.lst (nV near ++ [.int (i : Int)])) = H7 at g7 hl7
      have g45 : Same H' H5 := g4'.trans g5
      have ned : e ≠ d := nde
      have he5 := inv.he.keep g45
      have he6 : IsNk P w K H6 e kvs := ⟨by rw [e6, upd_ne ned]; exact he5.at_, fun x hx => by rw [e6]; exact dpOver (.lst hd5) (NKey.tups _ (inv.fit x hx)) (he5.key x hx)⟩
      have fthr : NKey.fit (thr S i) := by
        show (thr S i).length ≤ 100000
        unfold thr
        rw [List.length_take]
        omega
      have h36 : Dp K H6 (.ref t3) (NKey.nk (thr S i)).data := by rw [e6]; exact dpOver (.lst hd5) (NKey.tups _ fthr) (dpKeep (s3.trans (g4.trans g5)) h2k)
      have lkz : kvs.length < sizeLine := by
        have := sz (kvs.length + 1) (by have := inv.lk; omega)
        omega
      have he7 := he6.keep g7
      refine ⟨_, rfl, _, rfl, e, kvs, t3, thr S i, rfl, he7, rfl, dpKeep g7 h36, lkz, ?_⟩
      have hd6 : H6 d = some (.lst (ts ++ [.ref t5])) := by rw [e6]; exact upd_same
      have hd7 := g7 _ _ hd6
      have el2 : nV near ++ [V.int (i : Int)] = nV (near ++ [i]) := by rw [nV_app]; rfl
      rw [el2] at hl7
      have nl2d : l2 ≠ d := fun z => by rw [z, hd6] at nl2; cases nl2
      refine ⟨m', b', T ++ [(m', b')], ts ++ [.ref t5], _, _, _, _, _, rfl, ⟨?_, ?_, ?_, ?_, ?_, isNk_put he7 (dpKeep g7 h36) inv.fit fthr, putN_fit inv.fit fthr, ?_, ?_, ?_, fun k => ?_, ?_⟩⟩
      · refine Same.overN (Same.trans ?_ g7) neH he7.nc
        rw [e6]
        exact (inv.sm.trans g45).over nd (Wo.nc hd5 trivial)
      · rw [upd_ne (Ne.symm ned)]
        exact hd7
      · have a5 : Ps K H5 T ts := inv.ps.mono fun _ _ k => k.keep g45
        have a6 : Ps K H6 (T ++ [(m', b')]) (ts ++ [.ref t5]) := by
          rw [e6]
          have one : IsP K (m', b') (.ref t5) (upd H5 d (.lst (ts ++ [.ref t5]))) := ⟨t5, rfl, keepT_wo h5 hd5 trivial⟩
          exact Al2.snoc (R := fun x v => IsP K x v (upd H5 d (.lst (ts ++ [.ref t5])))) one (a5.mono fun _ _ k => k.put hd5 trivial)
        exact a6.mono fun _ _ ⟨t, e1, k⟩ => ⟨t, e1, overTx he7.wx (keepT g7 k)⟩
      · rw [List.length_append, inv.lT]; rfl
      · intro j x hx
        by_cases lj : j < T.length
        · rw [List.getElem?_append_left lj] at hx
          exact inv.ok j x hx
        · have ej : j = i := by
            have := (List.getElem?_eq_some_iff.mp hx).1
            rw [List.length_append, inv.lT] at this
            have l1 := inv.lT
            simp at this
            omega
          rw [ej, List.getElem?_append_right (by rw [inv.lT]; exact Nat.le_refl _), inv.lT, Nat.sub_self] at hx
          cases hx
          rw [ej]
          refine ⟨fun h3 => c4.resolve_left (by dsimp only at h3; omega), fun far k k3 ck => ?_⟩
          have f1 := ck.1
          have f2 := ck.2.1
          have f3 := ck.2.2.1
          have f4 := ck.2.2.2.1
          have mem := cnr (i - far) (by omega) (thr_eq ck k3) (by omega)
          have no := k4 _ mem
          rw [show i - (i - far) = far by omega] at no
          by_cases le : k ≤ m'
          · exact le
          · exact absurd ⟨by omega, ck.2.2.2.2.le (by omega)⟩ no
      · intro j x hx
        have pT : ∀ j, j ≤ i → prevT (T ++ [(m', b')]) j = prevT T j := fun j hj => by
          unfold prevT
          by_cases z : j = 0
          · rw [if_pos z, if_pos z]
          · rw [if_neg z, if_neg z, List.getD_eq_getElem?_getD, List.getD_eq_getElem?_getD, List.getElem?_append_left (by rw [inv.lT]; omega)]
        by_cases lj : j < T.length
        · rw [List.getElem?_append_left lj] at hx
          rw [pT j (by have := inv.lT; omega)]
          exact inv.lr j x hx
        · have ej : j = i := by
            have := (List.getElem?_eq_some_iff.mp hx).1
            rw [List.length_append, inv.lT] at this
            have l1 := inv.lT
            simp at this
            omega
          rw [ej, List.getElem?_append_right (by rw [inv.lT]; exact Nat.le_refl _), inv.lT, Nat.sub_self] at hx
          cases hx
          rw [ej, pT i (Nat.le_refl _), ← epv, ← enl]
          rw [em0] at r4
          exact r4
      · unfold prevT
        rw [if_neg (by omega), Nat.add_sub_cancel, List.getD_eq_getElem?_getD, List.getElem?_append_right (by rw [inv.lT]; exact Nat.le_refl _), inv.lT, Nat.sub_self]
        rfl
      · have := putN_len kvs (thr S i) t3 (.ref l2)
        have := inv.lk
        omega
      · rw [valN_put]
        by_cases ek : k = thr S i
        · rw [if_pos ek]
          refine ⟨l2, near ++ [i], rfl, nl2d, ?_, ?_, fun x hx => ?_, ?_, fun s hs e => ?_⟩
          · rw [upd_ne (fun z => by rw [z, he7.at_] at hl7; exact lst_dn (Option.some.inj hl7).symm)]
            exact hl7
          · rw [List.length_append]; simp; omega
          · rcases List.mem_append.mp hx with hx | hx
            · have := (bnr x hx).1
              rw [enl] at hx
              exact ⟨by omega, by rw [ek]; exact (nearL_mem.mp hx).2.1⟩
            · rw [List.mem_singleton.mp hx]
              exact ⟨by omega, ek.symm⟩
          · refine List.pairwise_append.mpr ⟨by rw [enl]; exact nearL_up S i, List.pairwise_singleton _ _, fun x hx y hy => ?_⟩
            rw [List.mem_singleton.mp hy]
            exact (bnr x hx).1
          · rw [ek] at e
            by_cases es : s = i
            · left; rw [es]; simp
            · by_cases w : i - s ≤ 256
              · exact .inl (List.mem_append_left _ (cnr s (by omega) e w))
              · right; omega
        · rw [if_neg ek]
          have old := inv.ek k
          cases ev : valN kvs k with
          | none =>
            rw [ev] at old
            intro s hs e
            by_cases es : s = i
            · rw [es] at e
              exact ek e.symm
            · exact old s (by omega) e
          | some v =>
            rw [ev] at old
            obtain ⟨l, xs, rfl, k1, k2, k3, k5, k7, k6⟩ := old
            have kl : H6 l = some (.lst (nV xs)) := by rw [e6, upd_ne k1]; exact g45 _ _ k2
            refine ⟨l, xs, rfl, k1, upd_at (g7 _ _ kl) he7.at_ lst_dn, by omega, (fun x hx => by have := k5 x hx; exact ⟨by omega, this.2⟩), k7, fun s hs e => ?_⟩
            by_cases es : s = i
            · rw [es] at e
              exact absurd e.symm ek
            · rcases k6 s (by omega) e with z | z
              · exact .inl z
              · right; omega
      · rcases c4 with z | z
        · exact .inl z
        · exact .inr ⟨by omega, by rw [show i + 1 - 1 = i by omega]; exact z⟩
    · obtain ⟨m, b, T, ts, kvs, y5, y6, y7, y8, rfl, inv⟩ := p'
      have en : (((S.map V.int).length : Int)).toNat = S.length := by rw [List.length_map]; omega
      rw [en] at inv
      exact ⟨_, rfl, q _ _ _ T inv.sm inv.hd inv.ps inv.lT inv.ok inv.lr⟩

/-! ### the cheapest first deed -/
theorem first_of {ns : List Int} {m : Int} (h : m ∈ ns) : ∃ j : Nat, ns[j]? = some m ∧ ∀ i : Nat, i < j → ns[i]? ≠ some m := by
  induction ns with
  | nil => cases h
  | cons x r ih =>
    by_cases e : x = m
    · exact ⟨0, by rw [e]; rfl, fun i hi => by omega⟩
    · obtain ⟨j, h1, h2⟩ := ih ((List.mem_cons.mp h).resolve_left (Ne.symm e))
      refine ⟨j + 1, h1, fun i hi => ?_⟩
      cases i with
      | zero => intro z; exact e (Option.some.inj z)
      | succ i => exact h2 i (by omega)
def rowI (g : Nat → Nat) (k : Nat) : List Int := (List.range k).map fun j => ((g j : Nat) : Int)
theorem rowI_len (g : Nat → Nat) (k : Nat) : (rowI g k).length = k := by rw [rowI, List.length_map, List.length_range]
theorem rowI_get {g : Nat → Nat} {k j : Nat} {x : Int} (h : (rowI g k)[j]? = some x) : j < k ∧ x = ((g j : Nat) : Int) := by
  have l : j < k := by
    have := (List.getElem?_eq_some_iff.mp h).1
    rwa [rowI_len] at this
  rw [rowI, List.getElem?_map, List.getElem?_range l] at h
  exact ⟨l, (Option.some.inj h).symm⟩
theorem rowI_min {g : Nat → Nat} {k : Nat} {m : Int} (hm : m ∈ rowI g k) (h : ∀ y ∈ rowI g k, m ≤ y) : ∃ j, j < k ∧ m = ((g j : Nat) : Int) ∧ (∀ i, i < k → g j ≤ g i) ∧ (rowI g k)[j]? = some m ∧ ∀ i, i < j → (rowI g k)[i]? ≠ some m := by
  obtain ⟨j, h1, h2⟩ := first_of hm
  obtain ⟨l, e⟩ := rowI_get h1
  refine ⟨j, l, e, fun i hi => ?_, h1, h2⟩
  have := h _ (List.mem_map.mpr ⟨i, List.mem_range.mpr hi, rfl⟩)
  omega
theorem rowI_first {g : Nat → Nat} {k j : Nat} (hj : j < k) (h : ∀ i, i < j → (rowI g k)[i]? ≠ some ((g j : Nat) : Int)) : ∀ i, i < j → g i ≠ g j := fun i hi e => h i hi (by
  rw [rowI, List.getElem?_map, List.getElem?_range (by omega)]
  show some ((g i : Nat) : Int) = _
  rw [e])
theorem flat_ints : ∀ ns : List Int, (ns.map V.int).all flatV = true
  | [] => rfl
  | n :: r => by rw [List.map_cons, List.all_cons, flat_ints r]; rfl
theorem ahead_ints {ns : List Int} {j : Nat} {m : Int} (h : ∀ i, i < j → ns[i]? ≠ some m) (i : Nat) (z : V) (hi : i < j) (hz : (ns.map V.int)[i]? = some z) : eqV z (.int m) = false := by
  obtain ⟨n, hn, rfl⟩ := got hz
  show (n == m) = false
  rw [beq_eq_false_iff_ne]
  intro e
  rw [e] at hn
  exact h i hi hn
theorem eqV_int (m : Int) : eqV (.int m) (.int m) = true := by
  show (m == m) = true
  rw [beq_self_eq_true]
theorem nV_at {A : List Nat} {i : Nat} (h : i < A.length) : (nV A)[i]? = some (.int ((A.getD i 0 : Nat) : Int)) := by
  unfold nV
  rw [List.getElem?_map, List.getElem?_eq_getElem h, List.getD_eq_getElem?_getD, List.getElem?_eq_getElem h]
  rfl
def spNew (K : PySem.W.Frag) : Sp := fun vs H Q _ => ∃ (c : Addr) (A : List Nat) (n q : Nat), vs = [.ref c, .int (q : Int)] ∧ H c = some (.lst (nV A)) ∧ A.length = n + 1 ∧ q < n ∧ n ≤ 1000 ∧ ∀ H' t j, Same H H' → j < 128 → q + 1 + j ≤ n → (∀ i, i < 128 → q + 1 + i ≤ n → 2 + j + A.getD (q + 1 + j) 0 ≤ 2 + i + A.getD (q + 1 + i) 0) → (∀ i, i < j → 2 + i + A.getD (q + 1 + i) 0 ≠ 2 + j + A.getD (q + 1 + j) 0) → SqT K H' t [.int ((2 + j + A.getD (q + 1 + j) 0 : Nat) : Int), .int ((j + 1 : Nat) : Int)] → Q (.ref t) H'
theorem ok_new {f : Addr} {fd : FuncData} (Ev : Env K mg) (F : Fun K "cheapest_new" "cheapest_new" sCheapestNew f fd) : FnOk P w K mg base CX0 1 f fd ["costs", "at"] (spNew K) := by
  refine F.ok scCheapestNew (fun vs H Q E h => ?_) (fun cdv A outer s H vs Q E hr h => ?_)
  · obtain ⟨c, A, n, q, rfl, _⟩ := h; rfl
  · obtain ⟨c, C, n, pl, rfl, hc, lC, hq, few, q⟩ := h
    refine ⟨_, (pss_cons (ps_set (i := 2) scCheapestNew.nd rfl (.inl rfl) (pe_callB (call_min2 rfl) (by rfl) Ev.b_min (by decide +kernel) (pa_cons (pe_globI (by rfl) Ev.g_MOST_NEW) (pa_cons (pe_op op_sub (pe_op op_sub (pe_callB call_len_seq (by rfl) Ev.b_len PySem.boot_len (pa_cons (pv 0) pa_nil)) pe_int) (pv 1)) pa_nil))))
      (pss_cons (ps_setLc (i := 3) (own := [("many", 5)]) (g := gName 5) (tt := tYes) (by rfl) scCheapestNew.nd rfl rfl (sw_true rfl rfl rfl (by decide +kernel)) (pi_range2 (by rfl) Ev.b_range (pa_cons pe_int (pa_cons (pe_op op_add (pv 2) pe_int) pa_nil))) (blkOk_by (own := [("many", 5)]) (N := nCheapestNew) (sc := defScope sCheapestNew) (by decide +kernel)) (fun _ _ _ _ _ => (pg_name (i := 5) scCheapestNew.nd rfl (.inl rfl))) (fun _ _ _ _ _ => pts_nil) (fun _ _ _ _ _ => (pe_op op_add (pe_op op_add pe_int (pv 5)) (pe_ix (ix_listq (K := K) rfl) (pv 0) (pe_op op_add (pv 1) (pv 5)) (fun _ _ => rfl)))))
      (pss_cons (ps_set (i := 4) scCheapestNew.nd rfl (.inl rfl) (pe_callB (cr_min rfl) (by rfl) Ev.b_min (by decide +kernel) (pa_cons (pv 3) pa_nil)))
      (pss_one (ps_ret (pe_tupU (pa_cons (pv 4) (pa_cons (pe_op op_add (pe_bm PySem.F.plainAttrs_list PySem.F.slot_list_index PySem.F.type_list_index mt_index (pv 3) (pa_cons (pv 4) pa_nil)) pe_int) pa_nil)))))))), ?_⟩
    have sz : ∀ n : Nat, n ≤ 5000 → n ≤ sizeLine := fun n h => by rw [sizeLine_eq]; omega
    refine ⟨_, rfl, c, _, rfl, .inl (SqL.of hc), _, _, rfl, rfl, _, rfl, _, _, rfl, rfl, _, _, rfl, ?_⟩
    obtain ⟨k, ek⟩ : ∃ k, k = min 128 (n - pl) := ⟨_, rfl⟩
    have e1 : (if ((nV C).length : Int) - 1 - (pl : Int) < 128 then ((nV C).length : Int) - 1 - (pl : Int) else 128) = (k : Int) := by
      rw [nV_len, lC]
      split <;> omega
    dsimp only
    rw [e1]
    refine ⟨_, rfl, _, _, rfl, rfl, _, _, rfl, ⟨by omega, by omega, by omega, by omega⟩, fun D nD => ?_⟩
    have e2 : ((k : Int) + 1 - 1).toNat = k := by omega
    rw [e2]
    refine lc_rng (lo := 1) (n := k) (ys := (rowI (fun j => 2 + j + C.getD (pl + 1 + j) 0) k).map V.int) nD (by rw [List.length_map, rowI_len]) (sz _ (by omega)) (fun _ => rfl) (fun j y H2 R hj hy s2 r => ?_) (fun H2 s2 hD => ?_)
    · obtain ⟨x, hx, rfl⟩ := got hy
      obtain ⟨_, rfl⟩ := rowI_get hx
      have g := nV_at (A := C) (i := pl + 1 + j) (by omega)
      refine ⟨_, rfl, _, _, rfl, rfl, _, rfl, _, rfl, _, rfl, _, _, rfl, rfl, c, _, _, _, rfl, rfl, SqL.of (s2 _ _ hc), at_of (show (pl : Int) + (1 + (j : Int)) = ((pl + 1 + j : Nat) : Int) by omega) g, _, _, rfl, rfl, ?_⟩
      have e : (1 : Int) + (1 + (j : Int)) + ((C.getD (pl + 1 + j) 0 : Nat) : Int) = ((2 + j + C.getD (pl + 1 + j) 0 : Nat) : Int) := by omega
      dsimp only
      rw [e]
      exact r _ (Same.refl _)
    · refine ⟨_, rfl, D, _, rfl, SqL.of hD, by rw [rowI_len]; omega, fun m hm hall => ?_⟩
      obtain ⟨j, hj, rfl, hmin, g1, g2⟩ := rowI_min hm hall
      refine ⟨_, rfl, _, rfl, .inl ⟨rfl, _, SqL.of hD⟩, _, rfl, D, _, _, j, _, rfl, rfl, SqL.of hD, rfl, flat_ints _, by rw [List.getElem?_map, g1]; rfl, eqV_int _, ahead_ints g2, _, _, rfl, rfl, sz _ (by simp), fun H3 t s3 h3 => ?_⟩
      refine q _ t j (s2.trans s3) (by omega) (by omega) (fun i i1 i2 => hmin i (by omega)) (rowI_first hj g2) ?_
      rw [show ((j + 1 : Nat) : Int) = (j : Int) + 1 by omega]
      exact h3
def spCpy (K : PySem.W.Frag) : Sp := fun vs H Q _ => ∃ (c : Addr) (A : List Nat) (n q l : Nat), vs = [.ref c, .int (q : Int), .int (l : Int)] ∧ H c = some (.lst (nV A)) ∧ A.length = n + 1 ∧ 3 ≤ l ∧ q + l ≤ n ∧ n ≤ 1000 ∧ ∀ H' t j, Same H H' → j + 3 ≤ l → (∀ i, i + 3 ≤ l → 2 + A.getD (q + 3 + j) 0 ≤ 2 + A.getD (q + 3 + i) 0) → (∀ i, i < j → 2 + A.getD (q + 3 + i) 0 ≠ 2 + A.getD (q + 3 + j) 0) → SqT K H' t [.int ((2 + A.getD (q + 3 + j) 0 : Nat) : Int), .int ((j + 3 : Nat) : Int)] → Q (.ref t) H'
theorem ok_cpy {f : Addr} {fd : FuncData} (Ev : Env K mg) (F : Fun K "cheapest_copy" "cheapest_copy" sCheapestCopy f fd) : FnOk P w K mg base CX0 1 f fd ["costs", "at", "longest"] (spCpy K) := by
  refine F.ok scCheapestCopy (fun vs H Q E h => ?_) (fun cdv A outer s H vs Q E hr h => ?_)
  · obtain ⟨c, A, n, q, l, rfl, _⟩ := h; rfl
  · obtain ⟨c, C, n, pl, l, rfl, hc, lC, l3, hq, few, q⟩ := h
    refine ⟨_, (pss_cons (ps_setLc (i := 3) (own := [("many", 5)]) (g := gName 5) (tt := tYes) (by rfl) scCheapestCopy.nd rfl rfl (sw_true rfl rfl rfl (by decide +kernel)) (pi_range2 (by rfl) Ev.b_range (pa_cons (pe_globI (by rfl) Ev.g_LEAST_COPIED) (pa_cons (pe_op op_add (pv 2) pe_int) pa_nil))) (blkOk_by (own := [("many", 5)]) (N := nCheapestCopy) (sc := defScope sCheapestCopy) (by decide +kernel)) (fun _ _ _ _ _ => (pg_name (i := 5) scCheapestCopy.nd rfl (.inl rfl))) (fun _ _ _ _ _ => pts_nil) (fun _ _ _ _ _ => (pe_op op_add pe_int (pe_ix (ix_listq (K := K) rfl) (pv 0) (pe_op op_add (pv 1) (pv 5)) (fun _ _ => rfl)))))
      (pss_cons (ps_set (i := 4) scCheapestCopy.nd rfl (.inl rfl) (pe_callB (cr_min rfl) (by rfl) Ev.b_min (by decide +kernel) (pa_cons (pv 3) pa_nil)))
      (pss_one (ps_ret (pe_tupU (pa_cons (pv 4) (pa_cons (pe_op op_add (pe_bm PySem.F.plainAttrs_list PySem.F.slot_list_index PySem.F.type_list_index mt_index (pv 3) (pa_cons (pv 4) pa_nil)) (pe_globI (by rfl) Ev.g_LEAST_COPIED)) pa_nil))))))), ?_⟩
    have sz : ∀ n : Nat, n ≤ 5000 → n ≤ sizeLine := fun n h => by rw [sizeLine_eq]; omega
    refine ⟨_, rfl, _, _, rfl, rfl, _, _, rfl, ⟨by omega, by omega, by omega, by omega⟩, fun D nD => ?_⟩
    obtain ⟨k, ek⟩ : ∃ k, k = l - 2 := ⟨_, rfl⟩
    have e2 : ((l : Int) + 1 - 3).toNat = k := by omega
    rw [e2]
    refine lc_rng (lo := 3) (n := k) (ys := (rowI (fun j => 2 + C.getD (pl + 3 + j) 0) k).map V.int) nD (by rw [List.length_map, rowI_len]) (sz _ (by omega)) (fun _ => rfl) (fun j y H2 R hj hy s2 r => ?_) (fun H2 s2 hD => ?_)
    · obtain ⟨x, hx, rfl⟩ := got hy
      obtain ⟨_, rfl⟩ := rowI_get hx
      have g := nV_at (A := C) (i := pl + 3 + j) (by omega)
      refine ⟨_, rfl, _, rfl, _, rfl, _, _, rfl, rfl, c, _, _, _, rfl, rfl, SqL.of (s2 _ _ hc), at_of (show (pl : Int) + (3 + (j : Int)) = ((pl + 3 + j : Nat) : Int) by omega) g, _, _, rfl, rfl, ?_⟩
      have e : (2 : Int) + ((C.getD (pl + 3 + j) 0 : Nat) : Int) = ((2 + C.getD (pl + 3 + j) 0 : Nat) : Int) := by omega
      dsimp only
      rw [e]
      exact r _ (Same.refl _)
    · refine ⟨_, rfl, D, _, rfl, SqL.of hD, by rw [rowI_len]; omega, fun m hm hall => ?_⟩
      obtain ⟨j, hj, rfl, hmin, g1, g2⟩ := rowI_min hm hall
      refine ⟨_, rfl, _, rfl, .inl ⟨rfl, _, SqL.of hD⟩, _, rfl, D, _, _, j, _, rfl, rfl, SqL.of hD, rfl, flat_ints _, by rw [List.getElem?_map, g1]; rfl, eqV_int _, ahead_ints g2, _, _, rfl, rfl, sz _ (by simp), fun H3 t s3 h3 => ?_⟩
      refine q _ t j (s2.trans s3) (by omega) (fun i i1 => hmin i (by omega)) (rowI_first hj g2) ?_
      rw [show ((j + 3 : Nat) : Int) = (j : Int) + 3 by omega]
      exact h3

/-! ### cheapest_steps -/
def lonL (S : List Int) (k : Nat) : Nat := lonF S (S.length - k)
def StepOk (S : List Int) (q : Nat) (x : Nat × Nat) : Prop :=
  (x.2 = 0 ∧ 1 ≤ x.1 ∧ x.1 ≤ 128 ∧ q + x.1 ≤ S.length ∧ cst (lonL S) (S.length - q) = 1 + x.1 + cst (lonL S) (S.length - (q + x.1))) ∨
  (3 ≤ x.1 ∧ cop S q x.2 x.1 ∧ cst (lonL S) (S.length - q) = 2 + cst (lonL S) (S.length - (q + x.1)))
theorem lonL_le {S : List Int} (k : Nat) (h : k < S.length) : lonL S (k + 1) ≤ k + 1 := by
  unfold lonL
  have := (lon_few (S := S) (q := S.length - (k + 1)) (by omega)).1
  omega
def spSteps (K : PySem.W.Frag) : Sp := fun vs H Q _ => ∃ (p : Addr) (S : List Int), vs = [.ref p] ∧ SqT K H p (S.map V.int) ∧ S.length ≤ 1000 ∧ ∀ H' d ts (M T : List (Nat × Nat)), Same H H' → H' d = some (.lst ts) → Ps K H' T ts → T.length = S.length → M.length = S.length → LonR S M → (∀ j x, T[j]? = some x → StepOk S j x ∧ StepD S M j x) → Q (.ref d) H'
theorem rep_one {α : Type} (x : α) : ∀ n : Nat, (List.replicate n [x]).flatten = List.replicate n x
  | 0 => rfl
  | n + 1 => by rw [List.replicate_succ, List.flatten_cons, rep_one x n, List.replicate_succ]; rfl
theorem ps_rep {K : PySem.W.Frag} {H : Hp} {x : Nat × Nat} {v : V} (h : IsP K x v H) : ∀ n : Nat, Ps K H (List.replicate n x) (List.replicate n v)
  | 0 => .nil
  | n + 1 => .cons h (ps_rep h n)
theorem Al2.setAt {α β : Type} {R : α → β → Prop} {x : α} {y : β} (h : R x y) : ∀ {xs : List α} {ys : List β} (j : Nat), Al2 R xs ys → Al2 R (xs.set j x) (ys.set j y)
  | _, _, _, .nil => .nil
  | _ :: _, _ :: _, 0, .cons _ t => .cons h t
  | _ :: _, _ :: _, j + 1, .cons a t => .cons a (Al2.setAt h j t)
theorem nV_set (A : List Nat) (j v : Nat) : (nV A).set j (.int (v : Int)) = nV (A.set j v) := by
  unfold nV
  rw [List.map_set]
structure StI (M : List (Nat × Nat)) (K : PySem.W.Frag) (S : List Int) (H : Hp) (c st : Addr) (i : Nat) (A : List Nat) (T : List (Nat × Nat)) (ts : List V) (H' : Hp) : Prop where
  sm : Same H H'
  hc : H' c = some (.lst (nV A))
  hs : H' st = some (.lst ts)
  ne : c ≠ st
  lA : A.length = S.length + 1
  lT : T.length = S.length
  ps : Ps K H' T ts
  ca : ∀ j, S.length ≤ j + i → j ≤ S.length → A.getD j 0 = cst (lonL S) (S.length - j)
  ok : ∀ j x, S.length ≤ j + i → T[j]? = some x → StepOk S j x ∧ StepD S M j x
theorem getD_set_self {A : List Nat} {j v : Nat} (h : j < A.length) : (A.set j v).getD j 0 = v := by
  rw [List.getD_eq_getElem?_getD, List.getElem?_set_self h]
  rfl
theorem getD_set_ne {A : List Nat} {j k v : Nat} (h : j ≠ k) : (A.set j v).getD k 0 = A.getD k 0 := by
  rw [List.getD_eq_getElem?_getD, List.getElem?_set_ne h, ← List.getD_eq_getElem?_getD]
/-- one place more -/
theorem StI.next {M : List (Nat × Nat)} {K : PySem.W.Frag} {S : List Int} {H : Hp} {c st : Addr} {i q v : Nat} {A : List Nat} {T : List (Nat × Nat)} {ts : List V} {x : Nat × Nat} {t : Addr} {H' H2 : Hp} (h : StI M K S H c st i A T ts H') (eq : q + i + 1 = S.length)
    (sm : Same H H2) (hc : H2 c = some (.lst (nV (A.set q v)))) (hs : H2 st = some (.lst (ts.set q (.ref t)))) (pt : Ps K H2 (T.set q x) (ts.set q (.ref t))) (hv : v = cst (lonL S) (i + 1)) (hx : StepOk S q x ∧ StepD S M q x) : StI M K S H c st (i + 1) (A.set q v) (T.set q x) (ts.set q (.ref t)) H2 where
  sm := sm
  hc := hc
  hs := hs
  ne := h.ne
  lA := by rw [List.length_set]; exact h.lA
  lT := by rw [List.length_set]; exact h.lT
  ps := pt
  ca := fun j h1 h2 => by
    by_cases e : q = j
    · rw [← e, getD_set_self (by rw [h.lA]; omega), hv, show S.length - q = i + 1 by omega]
    · rw [getD_set_ne e]
      exact h.ca j (by omega) h2
  ok := fun j y h1 hy => by
    by_cases e : q = j
    · rw [← e, List.getElem?_set_self (by rw [h.lT]; omega)] at hy
      cases hy
      rw [← e]
      exact hx
    · rw [List.getElem?_set_ne e] at hy
      exact h.ok j y (by omega) hy
theorem ok_steps {f : Addr} {fd : FuncData} (Ev : Env K mg) (CLongestCopies : Cal P w K mg base "longest_copies" 2 ["body"] (spLon K)) (CCheapestNew : Cal P w K mg base "cheapest_new" 1 ["costs", "at"] (spNew K)) (CCheapestCopy : Cal P w K mg base "cheapest_copy" 1 ["costs", "at", "longest"] (spCpy K)) (F : Fun K "cheapest_steps" "cheapest_steps" sCheapestSteps f fd) : FnOk P w K mg base CX0 3 f fd ["body"] (spSteps K) := by
  refine F.ok scCheapestSteps (fun vs H Q E h => ?_) (fun cdv A outer s H vs Q E hr h => ?_)
  · obtain ⟨p, S, rfl, _⟩ := h; rfl
  · obtain ⟨p, S, rfl, hp, few, q⟩ := h
    refine ⟨_, (pss_cons (ps_set (i := 1) scCheapestSteps.nd rfl (.inl rfl) (pe_c CLongestCopies (hr.mono (by omega)) (pa_cons (pv 0) pa_nil)))
      (pss_cons (ps_set (i := 2) scCheapestSteps.nd rfl (.inl rfl) (pe_op op_rep (pe_lst (pa_cons pe_int pa_nil)) (pe_op op_add (pe_callB call_len_seq (by rfl) Ev.b_len PySem.boot_len (pa_cons (pv 0) pa_nil)) pe_int)))
      (pss_cons (ps_set (i := 3) scCheapestSteps.nd rfl (.inl rfl) (pe_op op_rep (pe_lst (pa_cons (pe_tupU (pa_cons pe_int (pa_cons pe_int pa_nil))) pa_nil)) (pe_callB call_len_seq (by rfl) Ev.b_len PySem.boot_len (pa_cons (pv 0) pa_nil))))
      (pss_cons (ps_for PassesOwn.never rfl (pi_range3 (by rfl) Ev.b_range (pa_cons (pe_op op_sub (pe_callB call_len_seq (by rfl) Ev.b_len PySem.boot_len (pa_cons (pv 0) pa_nil)) pe_int) (pa_cons (pe_un un_neg pe_int) (pa_cons (pe_un un_neg pe_int) pa_nil)))) (pg_name (i := 4) scCheapestSteps.nd rfl (.inl rfl))
        (pss_cons (ps_asg (pe_ix ix_list (pv 1) (pv 4) (fun _ _ => rfl)) (pg_tup (by rfl) (pgs_cons (pg_name (i := 5) scCheapestSteps.nd rfl (.inl rfl)) (pgs_cons (pg_name (i := 6) scCheapestSteps.nd rfl (.inl rfl)) pgs_nil))))
        (pss_cons (ps_asg (pe_c CCheapestNew (hr.mono (by omega)) (pa_cons (pv 2) (pa_cons (pv 4) pa_nil))) (pg_tup (by rfl) (pgs_cons (pg_sub (pv 2) (pv 4) set_list) (pgs_cons (pg_name (i := 7) scCheapestSteps.nd rfl (.inl rfl)) pgs_nil))))
        (pss_cons (ps_asg (pe_tupU (pa_cons (pv 7) (pa_cons pe_int pa_nil))) (pg_sub (pv 3) (pv 4) set_list))
        (pss_one (ps_if (pt_cmpR op_ge (pv 5) (pe_globI (by rfl) Ev.g_LEAST_COPIED) (nomark _))
          (pss_cons (ps_asg (pe_c CCheapestCopy (hr.mono (by omega)) (pa_cons (pv 2) (pa_cons (pv 4) (pa_cons (pv 5) pa_nil)))) (pg_tup (by rfl) (pgs_cons (pg_name (i := 8) scCheapestSteps.nd rfl (.inl rfl)) (pgs_cons (pg_name (i := 7) scCheapestSteps.nd rfl (.inl rfl)) pgs_nil))))
          (pss_one (ps_if (pt_cmpR op_lt (pv 8) (pe_ix ix_list (pv 2) (pv 4) (fun _ _ => rfl)) (nomark _))
            (pss_cons (ps_asg (pv 8) (pg_sub (pv 2) (pv 4) set_list))
            (pss_one (ps_asg (pe_tupU (pa_cons (pv 7) (pa_cons (pv 6) pa_nil))) (pg_sub (pv 3) (pv 4) set_list))))
            pss_nil)))
          pss_nil))))))
      (pss_one (ps_ret (pv 3))))))), ?_⟩
    have sz : ∀ n : Nat, n ≤ 5000 → n ≤ sizeLine := fun n h => by rw [sizeLine_eq]; omega
    refine ⟨_, rfl, p, S, rfl, hp, few, fun H1 d cs M s1 hd1 pc lM okM rM => ?_⟩
    have hp1 := keepT s1 hp
    refine ⟨sz _ (by simp), fun l1 n1 => ?_⟩
    refine ⟨_, rfl, p, _, rfl, .inr (keepT (grow n1) hp1), _, _, rfl, rfl, l1, _, _, rfl, rfl, upd_same, by rw [List.length_map]; omega, by rw [List.length_map]; omega, by rw [List.length_map]; refine sz _ ?_; simp; omega, fun c nc => ?_⟩
    have s2 : Same H1 (upd (upd H1 l1 (.lst [.int 0])) c (.lst (List.replicate (((S.map V.int).length : Int) + 1).toNat [V.int 0]).flatten)) := (grow n1).trans (grow nc)
    have hc2 : (upd (upd H1 l1 (.lst [.int 0])) c (.lst (List.replicate (((S.map V.int).length : Int) + 1).toNat [V.int 0]).flatten)) c = some (.lst (nV (List.replicate (S.length + 1) 0))) := by
      rw [upd_same, rep_one, List.length_map, show ((S.length : Int) + 1).toNat = S.length + 1 by omega]
      unfold nV
      rw [List.map_replicate]
      rfl
    have nc1 : H1 c = none := (grow n1).free nc
    generalize upd (upd H1 l1 (.lst [.int 0])) c (.lst (List.replicate (((S.map V.int).length : Int) + 1).toNat [V.int 0]).flatten) = H2 at s2 hc2
    refine ⟨sz _ (by simp), fun H3 t3 s3 h3 => ⟨sz _ (by simp), fun l4 n4 => ?_⟩⟩
    have hp3 := keepT (s2.trans s3) hp1
    refine ⟨_, rfl, p, _, rfl, .inr (keepT (grow n4) hp3), l4, _, _, rfl, rfl, upd_same, by rw [List.length_map]; omega, by rw [List.length_map]; omega, by rw [List.length_map]; refine sz _ ?_; simp; omega, fun st nst => ?_⟩
    have nst3 : H3 st = none := (grow n4).free nst
    have s5 : Same H3 (upd (upd H3 l4 (.lst [.ref t3])) st (.lst (List.replicate ((S.map V.int).length : Int).toNat [V.ref t3]).flatten)) := (grow n4).trans (grow nst)
    have hs5 : (upd (upd H3 l4 (.lst [.ref t3])) st (.lst (List.replicate ((S.map V.int).length : Int).toNat [V.ref t3]).flatten)) st = some (.lst (List.replicate S.length (.ref t3))) := by
      rw [upd_same, rep_one, List.length_map, show (S.length : Int).toNat = S.length by omega]
    generalize upd (upd H3 l4 (.lst [.ref t3])) st (.lst (List.replicate ((S.map V.int).length : Int).toNat [V.ref t3]).flatten) = H5 at s5 hs5
    have z5 : Same H1 H5 := s2.trans (s3.trans s5)
    have hc5 := s5 _ _ (s3 _ _ hc2)
    have pt5 : Ps K H5 (List.replicate S.length (0, 0)) (List.replicate S.length (.ref t3)) := ps_rep ⟨t3, rfl, keepT s5 h3⟩ _
    have necs : c ≠ st := fun z => by
      have := s3 _ _ hc2
      rw [z, nst3] at this
      cases this
    have ncH : H c = none := s1.free nc1
    have nstH : H st = none := (s1.trans (s2.trans s3)).free nst3
    have nst1 : H1 st = none := (s2.trans s3).free nst3
    have ndc : d ≠ c := fun z => by rw [z, nc1] at hd1; cases hd1
    have nds : d ≠ st := fun z => by rw [z, nst1] at hd1; cases hd1
    refine ⟨_, rfl, p, _, rfl, .inr (keepT z5 hp1), _, _, rfl, rfl, _, rfl, _, rfl, (S.length : Int) - 1, -1, -1, S.length, by rw [List.length_map], ?_, ?_⟩
    · have := RgC.neg (i := (S.length : Int) - 1) (j := -1) (by omega) (by omega) (by omega) (by omega)
      rw [show ((S.length : Int) - 1 - -1).toNat = S.length by omega] at this
      exact this
    refine for_rangeC (fun i σ H' => ∃ (C : List Nat) (T : List (Nat × Nat)) (ts : List V) (y4 y5 y6 y7 y8 : Option V), σ = [some (.ref p), some (.ref d), some (.ref c), some (.ref st), y4, y5, y6, y7, y8] ∧ StI M K S H c st i C T ts H' ∧ Ps K H' M cs ∧ H' d = some (.lst cs)) ⟨_, _, _, none, none, none, none, none, rfl, ⟨s1.trans z5, hc5, hs5, necs, by simp, by simp, pt5, fun j h1 h2 => ?_, fun j x h1 hx => ?_⟩, pc.mono fun _ _ k => k.keep z5, z5 _ _ hd1⟩ (fun i σ H' hi p' => ?_) (fun σ H' p' => ?_)
    · obtain rfl : j = S.length := by omega
      rw [Nat.sub_self, List.getD_eq_getElem?_getD, List.getElem?_replicate]
      split <;> rfl
    · have := (List.getElem?_eq_some_iff.mp hx).1
      simp at this
      omega
    · obtain ⟨C, T, ts, y4, y5, y6, y7, y8, rfl, inv, pM, hdM⟩ := p'
      obtain ⟨pl, epl⟩ : ∃ pl, pl + i + 1 = S.length := ⟨S.length - 1 - i, by omega⟩
      have e0 : (S.length : Int) - 1 + (i : Nat) * (-1 : Int) = (pl : Int) := by omega
      rw [e0]
      have lcs : cs.length = S.length := by rw [pM.length, lM]
      obtain ⟨x, hx, ⟨tx, ex, htx⟩⟩ := pM.get (i := pl) (y := cs[pl]'(by omega)) (List.getElem?_eq_getElem (by omega))
      have gx : cs[pl]? = some (.ref tx) := by rw [List.getElem?_eq_getElem (by omega), ex]
      have okx := okM pl x hx
      have lpl : pl < S.length := by omega
      refine ⟨_, rfl, _, rfl, d, _, _, _, rfl, rfl, SqL.of hdM, atI_nat gx, tx, [_, _], rfl, htx, rfl, _, [_], rfl, _, [], rfl, rfl, ?_⟩
      refine ⟨_, rfl, _, rfl, c, C, S.length, pl, rfl, inv.hc, inv.lA, lpl, few, fun H6 t6 j s6 j1 j2 jmin jfst h6 => ?_⟩
      have hc6 := s6 _ _ inv.hc
      have hs6 := s6 _ _ inv.hs
      obtain ⟨v, ev⟩ : ∃ v, v = 2 + j + C.getD (pl + 1 + j) 0 := ⟨_, rfl⟩
      rw [← ev] at h6
      refine ⟨t6, [_, _], rfl, h6, rfl, _, [_], rfl, _, rfl, _, rfl, c, _, (pl : Int), pl, rfl, rfl, hc6, ixNn (by rw [nV_len, inv.lA]; omega), _, [], rfl, rfl, ?_⟩
      rw [nV_set]
      obtain ⟨H7, e7⟩ : ∃ H7, H7 = upd H6 c (.lst (nV (C.set pl v))) := ⟨_, rfl⟩
      rw [← e7]
      have hc7 : H7 c = some (.lst (nV (C.set pl v))) := by rw [e7]; exact upd_same
      have hs7 : H7 st = some (.lst ts) := by rw [e7, upd_ne (Ne.symm inv.ne)]; exact hs6
      have sm7 : Same H H7 := by rw [e7]; exact (inv.sm.trans s6).over ncH (Wo.nc hc6 trivial)
      have ps7 : Ps K H7 T ts := by rw [e7]; exact inv.ps.mono fun _ _ k => (k.keep s6).put hc6 trivial
      have pM7 : Ps K H7 M cs := by rw [e7]; exact pM.mono fun _ _ k => (k.keep s6).put hc6 trivial
      have hd7 : H7 d = some (.lst cs) := by rw [e7, upd_ne ndc]; exact s6 _ _ hdM
      refine ⟨_, rfl, sz _ (by simp), fun H8 t8 s8 h8 => ?_⟩
      have hs8 := s8 _ _ hs7
      have hc8 := s8 _ _ hc7
      refine ⟨_, rfl, _, rfl, st, _, (pl : Int), pl, rfl, rfl, hs8, ixNn (by rw [inv.ps.length, inv.lT]; omega), ?_⟩
      obtain ⟨H9, e9⟩ : ∃ H9, H9 = upd H8 st (.lst (ts.set pl (.ref t8))) := ⟨_, rfl⟩
      rw [← e9]
      have hs9 : H9 st = some (.lst (ts.set pl (.ref t8))) := by rw [e9]; exact upd_same
      have hc9 : H9 c = some (.lst (nV (C.set pl v))) := by rw [e9, upd_ne inv.ne]; exact hc8
      have sm9 : Same H H9 := by rw [e9]; exact (sm7.trans s8).over nstH (Wo.nc hs8 trivial)
      have one8 : IsP K (j + 1, 0) (.ref t8) H8 := ⟨t8, rfl, h8⟩
      have ps9 : Ps K H9 (T.set pl (j + 1, 0)) (ts.set pl (.ref t8)) := by
        rw [e9]
        exact (Al2.setAt (R := fun x v => IsP K x v H8) one8 pl (ps7.mono fun _ _ k => k.keep s8)).mono fun _ _ k => k.put hs8 trivial
      have pM9 : Ps K H9 M cs := by rw [e9]; exact pM7.mono fun _ _ k => (k.keep s8).put hs8 trivial
      have hd9 : H9 d = some (.lst cs) := by rw [e9, upd_ne nds]; exact s8 _ _ hd7
      -- costs of what is behind
      have cg : ∀ m, m ≤ i → C.getD (pl + 1 + m) 0 = cst (lonL S) (i - m) := fun m hm => by
        rw [inv.ca (pl + 1 + m) (by omega) (by omega), show S.length - (pl + 1 + m) = i - m by omega]
      have wayN : WayC (lonL S) i v := .inl ⟨j, j1, by omega, by rw [ev, cg j (by omega)]⟩
      have minN : ∀ m, m < 128 → m ≤ i → v ≤ 2 + m + cst (lonL S) (i - m) := fun m h1 h2 => by
        have := jmin m h1 (by omega)
        rw [cg m h2] at this
        omega
      have nG : ∀ m, m ≤ i → 2 + m + C.getD (pl + 1 + m) 0 = newG S pl m := fun m hm => by
        unfold newG
        rw [cg m hm, show S.length - (pl + 1 + m) = i - m by omega]
        rfl
      have fN : FMin (min 128 (S.length - pl)) (newG S pl) j := ⟨by omega, fun m hm => by
        rw [← nG m (by omega), ← nG j (by omega)]
        exact jmin m (by omega) (by omega), fun m hm => by
        rw [← nG m (by omega), ← nG j (by omega)]
        exact jfst m hm⟩
      have eM : M.getD pl (0, 0) = x := by rw [List.getD_eq_getElem?_getD, hx]; rfl
      have evG : v = newG S pl j := by rw [ev, nG j (by omega)]
      have eL : lonL S (i + 1) = lonF S pl := by unfold lonL; rw [show S.length - (i + 1) = pl by omega]
      have hl := lonL_le (S := S) i (by omega)
      have stN : cst (lonL S) (i + 1) = v → StepOk S pl (j + 1, 0) := fun e => .inl ⟨rfl, by omega, by dsimp only; omega, by dsimp only; omega, by
        dsimp only
        rw [show S.length - pl = i + 1 by omega, e, ev, cg j (by omega), show S.length - (pl + (j + 1)) = i - j by omega]
        omega⟩
      refine ⟨_, rfl, _, _, rfl, rfl, _, rfl, ite2 (fun z => ?_) (fun z => ?_)⟩
      · have x3 : 3 ≤ x.1 := by
          have := of_decide_eq_true z
          omega
        have ex1 := okx.eq (by omega) x3
        have cx := okx.ok x3
        have cl := cx.2.2.2.2.1
        refine ⟨_, rfl, _, rfl, _, rfl, c, _, S.length, pl, x.1, rfl, hc9, by rw [List.length_set]; exact inv.lA, x3, cl, few, fun HA tA k sA k1 kmin kfst hA => ?_⟩
        have cg2 : ∀ m, m + 3 ≤ x.1 → (C.set pl v).getD (pl + 3 + m) 0 = cst (lonL S) (i - (m + 2)) := fun m hm => by
          rw [getD_set_ne (by omega), show pl + 3 + m = pl + 1 + (m + 2) by omega, cg (m + 2) (by omega)]
        have cG : ∀ m, m + 3 ≤ x.1 → 2 + (C.set pl v).getD (pl + 3 + m) 0 = cpyG S pl m := fun m hm => by
          unfold cpyG
          rw [cg2 m hm, show S.length - (pl + 3 + m) = i - (m + 2) by omega]
          rfl
        have fC : FMin (x.1 - 2) (cpyG S pl) k := ⟨by omega, fun m hm => by
          rw [← cG m (by omega), ← cG k k1]
          exact kmin m (by omega), fun m hm => by
          rw [← cG m (by omega), ← cG k k1]
          exact kfst m hm⟩
        obtain ⟨u, eu⟩ : ∃ u, u = 2 + (C.set pl v).getD (pl + 3 + k) 0 := ⟨_, rfl⟩
        have euG : u = cpyG S pl k := by rw [eu, cG k k1]
        rw [← eu] at hA
        refine ⟨tA, [_, _], rfl, hA, rfl, _, [_], rfl, _, [], rfl, rfl, ?_⟩
        have hcA := sA _ _ hc9
        have hsA := sA _ _ hs9
        have gv : (nV (C.set pl v))[pl]? = some (.int (v : Int)) := by
          rw [nV_at (by rw [List.length_set, inv.lA]; omega), getD_set_self (by rw [inv.lA]; omega)]
        have wayC : WayC (lonL S) i u := .inr ⟨k, by rw [eL]; omega, by rw [eu, cg2 k k1]⟩
        have minC : ∀ m, m + 3 ≤ lonL S (i + 1) → u ≤ 2 + cst (lonL S) (i - (m + 2)) := fun m h => by
          rw [eL] at h
          have := kmin m (by omega)
          rw [cg2 m (by omega)] at this
          omega
        refine ⟨_, rfl, _, rfl, _, rfl, c, _, _, _, rfl, rfl, SqL.of hcA, atI_nat gv, _, _, rfl, rfl, _, rfl, ite2 (fun y => ?_) (fun y => ?_)⟩
        · have lt : u < v := by
            have := of_decide_eq_true y
            omega
          have ec : cst (lonL S) (i + 1) = u := cst_is hl wayC fun a ha => by
            rcases ha with ⟨m, h1, h2, rfl⟩ | ⟨m, h1, rfl⟩
            · have := minN m h1 h2
              omega
            · exact minC m h1
          refine ⟨_, rfl, _, rfl, _, rfl, c, _, (pl : Int), pl, rfl, rfl, hcA, ixNn (by rw [nV_len, List.length_set, inv.lA]; omega), ?_⟩
          rw [nV_set, List.set_set]
          obtain ⟨HB, eB⟩ : ∃ HB, HB = upd HA c (.lst (nV (C.set pl u))) := ⟨_, rfl⟩
          rw [← eB]
          have hcB : HB c = some (.lst (nV (C.set pl u))) := by rw [eB]; exact upd_same
          have hsB : HB st = some (.lst (ts.set pl (.ref t8))) := by rw [eB, upd_ne (Ne.symm inv.ne)]; exact hsA
          have smB : Same H HB := by rw [eB]; exact (sm9.trans sA).over ncH (Wo.nc hcA trivial)
          have psB : Ps K HB (T.set pl (j + 1, 0)) (ts.set pl (.ref t8)) := by rw [eB]; exact ps9.mono fun _ _ k => (k.keep sA).put hcA trivial
          have pMB : Ps K HB M cs := by rw [eB]; exact pM9.mono fun _ _ k => (k.keep sA).put hcA trivial
          have hdB : HB d = some (.lst cs) := by rw [eB, upd_ne ndc]; exact sA _ _ hd9
          refine ⟨_, rfl, _, rfl, sz _ (by simp), fun HC tC sC hC => ?_⟩
          have hsC := sC _ _ hsB
          have hcC := sC _ _ hcB
          refine ⟨_, rfl, _, rfl, st, _, (pl : Int), pl, rfl, rfl, hsC, ixNn (by rw [List.length_set, inv.ps.length, inv.lT]; omega), ?_⟩
          rw [List.set_set]
          have oneC : IsP K (k + 3, x.2) (.ref tC) HC := ⟨tC, rfl, hC⟩
          have psC := Al2.setAt (R := fun x v => IsP K x v HC) oneC pl (psB.mono fun _ _ k => k.keep sC)
          rw [List.set_set, List.set_set] at psC
          refine ⟨C.set pl u, T.set pl (k + 3, x.2), ts.set pl (.ref tC), _, _, _, _, _, rfl, inv.next epl ?_ ?_ upd_same (psC.mono fun _ _ k => k.put hsC trivial) ec.symm ⟨.inr ⟨by dsimp only; omega, cx.le (by dsimp only; omega), ?_⟩, j, fN, .inr ⟨by rw [eM]; exact x3, k, by rw [eM]; exact fC, .inl ⟨by omega, by rw [eM]⟩⟩⟩, pMB.mono fun _ _ k => (k.keep sC).put hsC trivial, ?_⟩
          · exact (smB.trans sC).over nstH (Wo.nc hsC trivial)
          · rw [upd_ne inv.ne]; exact hcC
          · dsimp only
            rw [show S.length - pl = i + 1 by omega, ec, eu, cg2 k k1, show S.length - (pl + (k + 3)) = i - (k + 2) by omega]
          · rw [upd_ne nds]; exact sC _ _ hdB
        · have ge : v ≤ u := by
            have : ¬ (u : Int) < (v : Int) := fun x => y (decide_eq_true x)
            omega
          have ec : cst (lonL S) (i + 1) = v := cst_is hl wayN fun a ha => by
            rcases ha with ⟨m, h1, h2, rfl⟩ | ⟨m, h1, rfl⟩
            · exact minN m h1 h2
            · have := minC m h1
              omega
          exact ⟨C.set pl v, T.set pl (j + 1, 0), ts.set pl (.ref t8), _, _, _, _, _, rfl, inv.next epl (sm9.trans sA) hcA hsA (ps9.mono fun _ _ k => k.keep sA) ec.symm ⟨stN ec, j, fN, .inr ⟨by rw [eM]; exact x3, k, by rw [eM]; exact fC, .inr ⟨by omega, rfl⟩⟩⟩, pM9.mono fun _ _ k => k.keep sA, sA _ _ hd9⟩
      · have x3 : ¬ 3 ≤ x.1 := fun y => z (decide_eq_true (by omega))
        have fw := okx.few (by omega) x3
        have ec : cst (lonL S) (i + 1) = v := cst_is hl wayN fun a ha => by
          rcases ha with ⟨m, h1, h2, rfl⟩ | ⟨m, h1, rfl⟩
          · exact minN m h1 h2
          · rw [eL] at h1
            omega
        exact ⟨C.set pl v, T.set pl (j + 1, 0), ts.set pl (.ref t8), _, _, _, _, _, rfl, inv.next epl sm9 hc9 hs9 ps9 ec.symm ⟨stN ec, j, fN, .inl ⟨by rw [eM]; exact x3, rfl⟩⟩, pM9, hd9⟩
    · obtain ⟨C, T, ts, y4, y5, y6, y7, y8, rfl, inv, pM, hdM⟩ := p'
      exact ⟨_, rfl, q _ _ _ M T inv.sm inv.hs inv.ps inv.lT lM rM fun j x hx => inv.ok j x (by omega) hx⟩

/-! ### body_deeds, pressed -/
def spDeed (K : PySem.W.Frag) : Sp := fun vs H Q _ => ∃ (p : Addr) (S : List Int) (q m b : Nat), vs = [.ref p, .int (q : Int), .int (m : Int), .int (b : Int)] ∧ SqT K H p (S.map V.int) ∧ S.length ≤ 1000 ∧
  (b = 0 → Tups K H ((((m : Int) - 1) :: (S.drop q).take m).map V.int) Q) ∧ (b ≠ 0 → Tups K H (([(m : Int) - 3 + 128, (b : Int) - 1] : List Int).map V.int) Q)
theorem ok_deed {f : Addr} {fd : FuncData} (Ev : Env K mg) (F : Fun K "deed_bytes" "deed_bytes" sDeedBytes f fd) : FnOk P w K mg base CX0 1 f fd ["body", "at", "many", "back"] (spDeed K) := by
  refine F.ok scDeedBytes (fun vs H Q E h => ?_) (fun cdv A outer s H vs Q E hr h => ?_)
  · obtain ⟨p, S, q, m, b, rfl, _⟩ := h; rfl
  · obtain ⟨p, S, pl, m, b, rfl, hp, few, q1, q2⟩ := h
    refine ⟨_, (pss_cons (ps_if (pt_cmpR op_eq (pv 3) pe_int (nomark _))
        (pss_one (ps_ret (pe_op op_catU (pe_tupU (pa_cons (pe_op op_sub (pv 2) pe_int) pa_nil)) (pe_slice sl_tupU (pv 0) (po_some (pv 1)) (po_some (pe_op op_add (pv 1) (pv 2)))))))
        pss_nil)
      (pss_one (ps_ret (pe_tupU (pa_cons (pe_op op_add (pe_op op_sub (pv 2) (pe_globI (by rfl) Ev.g_LEAST_COPIED)) (pe_globI (by rfl) Ev.g_FIRST_COPY)) (pa_cons (pe_op op_sub (pv 3) pe_int) pa_nil)))))), ?_⟩
    have sz : ∀ n : Nat, n ≤ 5000 → n ≤ sizeLine := fun n h => by rw [sizeLine_eq]; omega
    refine ⟨_, rfl, rfl, _, rfl, ite2 (fun z => ?_) (fun z => ?_)⟩
    · have eb : b = 0 := by
        have := V.int.inj (of_decide_eq_true z)
        omega
      refine ⟨_, rfl, _, _, rfl, rfl, sz _ (by simp), fun H1 t1 s1 h1 => ⟨_, rfl, _, rfl, (pl : Int), rfl, _, rfl, _, rfl, _, _, rfl, rfl, ((pl + m : Nat) : Int), congrArg V.int (by omega), p, _, rfl, keepT s1 hp, fun H2 t2 s2 h2 => ?_⟩⟩
      rw [cut_mid, show pl + m - pl = m by omega] at h2
      refine ⟨t1, t2, _, _, rfl, rfl, keepT s2 h1, h2, sz _ ?_, fun H3 t3 s3 h3 => q1 eb _ _ (s1.trans (s2.trans s3)) h3⟩
      rw [List.length_map, List.length_take, List.length_drop]
      simp
      omega
    · have nb : b ≠ 0 := fun e => z (decide_eq_true (by rw [e]; rfl))
      exact ⟨_, rfl, _, _, rfl, rfl, _, _, rfl, rfl, _, rfl, _, _, rfl, rfl, sz _ (by simp), fun H1 t1 s1 h1 => q2 nb _ _ s1 h1⟩
def spBD (K : PySem.W.Frag) : Sp := fun vs H Q _ => ∃ (p : Addr) (S : List Int), vs = [.ref p] ∧ SqT K H p (S.map V.int) ∧ Byt S ∧ S.length ≤ 1000 ∧ ∀ D : List Int, Byt D → ddF D [] = some S → D.length = cst (lonL S) S.length → PrR S D → Tups K H (D.map V.int) Q
theorem take_more (S : List Int) (q m : Nat) : S.take q ++ (S.drop q).take m = S.take (q + m) := by rw [List.take_add]
theorem ok_bd {f : Addr} {fd : FuncData} (Ev : Env K mg) (CCheapestSteps : Cal P w K mg base "cheapest_steps" 3 ["body"] (spSteps K)) (CDeedBytes : Cal P w K mg base "deed_bytes" 1 ["body", "at", "many", "back"] (spDeed K)) (F : Fun K "body_deeds" "body_deeds" sBodyDeeds f fd) : FnOk P w K mg base CX0 4 f fd ["body"] (spBD K) := by
  refine F.ok scBodyDeeds (fun vs H Q E h => ?_) (fun cdv A outer s H vs Q E hr h => ?_)
  · obtain ⟨p, S, rfl, _⟩ := h; rfl
  · obtain ⟨p, S, rfl, hp, hb, few, q⟩ := h
    refine ⟨_, (pss_cons (ps_set (i := 1) scBodyDeeds.nd rfl (.inl rfl) (pe_c CCheapestSteps (hr.mono (by omega)) (pa_cons (pv 0) pa_nil)))
      (pss_cons (ps_set (i := 2) scBodyDeeds.nd rfl (.inl rfl) (pe_lst pa_nil))
      (pss_cons (ps_set (i := 3) scBodyDeeds.nd rfl (.inl rfl) pe_int)
      (pss_cons (ps_while PassesOwn.never (pt_cmpR op_lt (pv 3) (pe_callB call_len_seq (by rfl) Ev.b_len PySem.boot_len (pa_cons (pv 0) pa_nil)) (nomark _))
        (pss_cons (ps_asg (pe_ix ix_list (pv 1) (pv 3) (fun _ _ => rfl)) (pg_tup (by rfl) (pgs_cons (pg_name (i := 4) scBodyDeeds.nd rfl (.inl rfl)) (pgs_cons (pg_name (i := 5) scBodyDeeds.nd rfl (.inl rfl)) pgs_nil))))
        (pss_cons (ps_expr (pe_bm PySem.F.plainAttrs_list PySem.F.slot_list_extend PySem.F.type_list_extend mt_extendT (pv 2) (pa_cons (pe_c CDeedBytes (hr.mono (by omega)) (pa_cons (pv 0) (pa_cons (pv 3) (pa_cons (pv 4) (pa_cons (pv 5) pa_nil))))) pa_nil)))
        (pss_one (ps_aug (i := 3) scBodyDeeds.nd rfl (.inl rfl) (pv 4) ip_add)))))
      (pss_one (ps_ret (pe_callTy call_tupleU (by rfl) Ev.b_tuple (by decide +kernel) (pa_cons (pv 2) pa_nil)))))))), ?_⟩
    have sz : ∀ n : Nat, n ≤ 5000 → n ≤ sizeLine := fun n h => by rw [sizeLine_eq]; omega
    refine ⟨_, rfl, p, S, rfl, hp, few, fun H1 d ts M T s1 hd1 pT lT lM rM okT => ?_⟩
    refine ⟨Nat.zero_le _, fun l nl => ?_⟩
    have s2 : Same H1 (upd H1 l (.lst [])) := grow nl
    have hl2 : (upd H1 l (.lst [])) l = some (.lst []) := upd_same
    have hd2 := s2 _ _ hd1
    have nlH : H l = none := s1.free nl
    have nld : d ≠ l := fun z => by rw [z, nl] at hd1; cases hd1
    have pT2 : Ps K (upd H1 l (.lst [])) T ts := pT.mono fun _ _ k => k.keep s2
    generalize upd H1 l (.lst []) = H2 at s2 hl2 hd2 pT2
    obtain ⟨n, en⟩ : ∃ n, n = S.length := ⟨_, rfl⟩
    have ctot : cst (lonL S) S.length ≤ 2 * S.length := cst_le (n := S.length) (fun k hk => lonL_le k hk) _ (Nat.le_refl _)
    refine ⟨fun μ σ H' => ∃ (pl : Nat) (D : List Int) (y4 y5 : Option V), σ = [some (.ref p), some (.ref d), some (.ref l), some (.int (pl : Int)), y4, y5] ∧ μ = S.length - pl ∧ pl ≤ S.length ∧ Same H H' ∧ H' l = some (.lst (D.map V.int)) ∧ H' d = some (.lst ts) ∧ Ps K H' T ts ∧ Byt D ∧ D.length + cst (lonL S) (S.length - pl) = cst (lonL S) S.length ∧ (∀ r, ddF (D ++ r) [] = ddF r (S.take pl)) ∧ D ++ walkD S T (S.length - pl) pl = walkD S T S.length 0, ⟨_, 0, [], none, none, rfl, rfl, Nat.zero_le _, s1.trans s2, hl2, hd2, pT2, Byt.nil, by simp, (fun r => rfl), rfl⟩, fun μ σ H' hW => ?_⟩
    obtain ⟨pl, D, y4, y5, rfl, rfl, lpl, sm, hl, hd, pT', bD, lD, rD, wD⟩ := hW
    have hp' := keepT sm hp
    refine ⟨_, rfl, _, rfl, p, _, rfl, .inr hp', _, _, rfl, rfl, _, rfl, ite2 (fun z => ?_) (fun z => ?_)⟩
    · have lt : pl < S.length := by
        have := of_decide_eq_true z
        rw [List.length_map] at this
        omega
      refine ⟨fun σ' H'' => ∃ m', m' < S.length - pl ∧ _, fun σ' H'' h => h, ?_⟩
      have lts : ts.length = S.length := by rw [pT'.length, lT]
      obtain ⟨x, hx, ⟨tx, ex, htx⟩⟩ := pT'.get (i := pl) (y := ts[pl]'(by omega)) (List.getElem?_eq_getElem (by omega))
      have gx : ts[pl]? = some (.ref tx) := by rw [List.getElem?_eq_getElem (by omega), ex]
      have okx := (okT pl x hx).1
      have tdx : T.getD pl (0, 0) = x := by rw [List.getD_eq_getElem?_getD, hx]; rfl
      have t1 : ∀ (q : Nat) (x : Nat × Nat), T[q]? = some x → 1 ≤ x.1 := fun q x h => by
        rcases (okT q x h).1 with c | c
        · exact c.2.1
        · have := c.1
          omega
      refine ⟨_, rfl, _, rfl, d, _, _, _, rfl, rfl, SqL.of hd, atI_nat gx, tx, [_, _], rfl, htx, rfl, _, [_], rfl, _, [], rfl, rfl, ?_⟩
      -- the deed's bytes, whichever
      have fin : ∀ (X : List Int) (H3 : Hp) (t3 : Addr), Same H' H3 → SqT K H3 t3 (X.map V.int) → Byt X → pl < pl + x.1 → pl + x.1 ≤ S.length → D.length + X.length + cst (lonL S) (S.length - (pl + x.1)) = cst (lonL S) S.length → (∀ r, ddF (X ++ r) (S.take pl) = ddF r (S.take (pl + x.1))) → X = deedB S pl x →
          ∃ l0 b0 xs zs, V.ref l = V.ref l0 ∧ [V.ref t3] = [V.ref b0] ∧ H3 l0 = some (.lst xs) ∧ SqT K H3 b0 zs ∧ xs.length + zs.length ≤ sizeLine ∧ ∃ m', m' < S.length - pl ∧ ∃ (pl' : Nat) (D' : List Int) (y4 y5 : Option V), [some (.ref p), some (.ref d), some (.ref l), some (.int ((pl : Int) + (x.1 : Int))), some (V.int (x.1 : Int)), some (V.int (x.2 : Int))] = [some (.ref p), some (.ref d), some (.ref l), some (.int (pl' : Int)), y4, y5] ∧ m' = S.length - pl' ∧ pl' ≤ S.length ∧ Same H (upd H3 l0 (.lst (xs ++ zs))) ∧ (upd H3 l0 (.lst (xs ++ zs))) l = some (.lst (D'.map V.int)) ∧ (upd H3 l0 (.lst (xs ++ zs))) d = some (.lst ts) ∧ Ps K (upd H3 l0 (.lst (xs ++ zs))) T ts ∧ Byt D' ∧ D'.length + cst (lonL S) (S.length - pl') = cst (lonL S) S.length ∧ (∀ r, ddF (D' ++ r) [] = ddF r (S.take pl')) ∧ D' ++ walkD S T (S.length - pl') pl' = walkD S T S.length 0 := by
        intro X H3 t3 s3 h3 bX l1 l2 lX rX eX
        have hl3 := s3 _ _ hl
        refine ⟨l, t3, _, _, rfl, rfl, hl3, h3, sz _ (by rw [List.length_map, List.length_map]; omega), S.length - (pl + x.1), by omega, pl + x.1, D ++ X, _, _, by rw [Int.natCast_add], rfl, l2, (sm.trans s3).over nlH (Wo.nc hl3 trivial), by rw [upd_same, List.map_append], ?_, ?_, bD.app bX, by rw [List.length_append]; exact lX, fun r => ?_, ?_⟩
        · rw [upd_ne nld]; exact s3 _ _ hd
        · exact pT'.mono fun _ _ k => (k.keep s3).put hl3 trivial
        · rw [List.append_assoc, rD, rX]
        · obtain ⟨g, eg⟩ : ∃ g, S.length - pl = g + 1 := ⟨S.length - pl - 1, by omega⟩
          rw [← wD, eg, walkD, if_pos lt, tdx, ← eX, List.append_assoc, ← walkD_more t1 lT g (pl + x.1) (by omega)]
      refine ⟨_, rfl, .inl ⟨rfl, _, SqL.of hl⟩, _, rfl, _, rfl, _, rfl, _, rfl, p, S, pl, x.1, x.2, rfl, hp', few, fun e0 => ?_, fun e0 => ?_⟩
      · intro H3 t3 s3 h3
        rcases okx with ⟨_, x1, x2, x4, x5⟩ | ⟨_, c, _⟩
        · obtain ⟨l0, b0, xs, zs, a1, a2, a3, a4, a5, m', a6, a7⟩ := fin _ H3 t3 s3 h3 (by
            intro y hy
            rcases List.mem_cons.mp hy with rfl | hy
            · omega
            · exact hb y (List.mem_of_mem_drop (List.mem_of_mem_take hy))) (by omega) x4 (by rw [List.length_cons, List.length_take, List.length_drop]; omega) (fun r => by
            rw [ddF_new x1 x2 (by rw [List.length_take, List.length_drop]; omega), take_more]) (by unfold deedB; rw [if_pos e0])
          exact ⟨l0, b0, xs, zs, a1, a2, a3, a4, a5, _, rfl, _, rfl, _, _, rfl, rfl, m', a6, a7⟩
        · have := c.1
          omega
      · intro H3 t3 s3 h3
        rcases okx with ⟨c, _⟩ | ⟨x1, c, x5⟩
        · exact absurd c e0
        · have c1 := c.1
          have c2 := c.2.1
          have c3 := c.2.2.1
          have c4 := c.2.2.2.1
          have c5 := c.2.2.2.2.1
          obtain ⟨l0, b0, xs, zs, a1, a2, a3, a4, a5, m', a6, a7⟩ := fin _ H3 t3 s3 h3 (by
            intro y hy
            simp only [List.mem_cons, List.not_mem_nil, or_false] at hy
            rcases hy with rfl | rfl <;> omega) (by omega) c5 (by simp only [List.length_cons, List.length_nil]; omega) (fun r => by
            rw [ddF_copy x1 c1 (by rw [List.length_take]; omega), copy_take c]) (by unfold deedB; rw [if_neg e0])
          exact ⟨l0, b0, xs, zs, a1, a2, a3, a4, a5, _, rfl, _, rfl, _, _, rfl, rfl, m', a6, a7⟩
    · have ek : pl = S.length := by
        have : ¬ (pl : Int) < ((S.map V.int).length : Int) := fun y => z (decide_eq_true y)
        rw [List.length_map] at this
        omega
      subst ek
      rw [Nat.sub_self, cst_zero] at lD
      refine ⟨_, rfl, l, _, rfl, SqL.of hl, fun H3 t3 s3 h3 => q D bD ?_ (by omega) ⟨M, T, lM, rM, lT, fun q x h => (okT q x h).2, ?_⟩ _ _ (sm.trans s3) h3⟩
      · have := rD []
        rw [List.append_nil, List.take_length] at this
        rw [this]
        unfold ddF
        rw [deedsF_end, if_pos few]
      · rw [← wD, Nat.sub_self]
        exact (List.append_nil D).symm

/-! ### the program's deeds -/
theorem deedsF_long : ∀ (f : Nat) (r B : List Int), 1000 < B.length → deedsF f r B = none
  | f, [], B, h => by rw [deedsF_end, if_neg (by omega)]
  | 0, _ :: _, _, _ => rfl
  | f + 1, n :: r, B, h => by
    rw [deedsF]
    split
    · split
      · rfl
      · exact deedsF_long f _ _ (by rw [List.length_append]; omega)
    · split
      · rfl
      · split
        · rfl
        · exact deedsF_long f _ _ (by rw [copyB_len]; omega)
def spWhole (K : PySem.W.Frag) (cB : Addr) : Sp := fun vs H Q E => ∃ (p : Addr) (S : List Int) (n : Int), vs = [.ref p, .int n] ∧ SqT K H p (S.map V.int) ∧ (n ≤ S.length → Q .non H) ∧ ((S.length : Int) < n → E (.ref cB) none H)
theorem ok_whole {f : Addr} {fd : FuncData} (Ev : Env K mg) (Ex : Excs K mg e_Cut e_BadForm) (F : Fun K "check_whole" "check_whole" sCheckWhole f fd) : FnOk P w K mg base (L2.CX P w) 1 f fd ["some", "behind"] (spWhole K e_BadForm) := by
  refine F.okX scCheckWhole (fun vs H Q E h => ?_) (fun cdv A outer s H vs Q E hr h => ?_)
  · obtain ⟨p, S, n, rfl, _⟩ := h; rfl
  · obtain ⟨p, S, n, rfl, hp, hq, he⟩ := h
    refine ⟨_, (pss_one (ps_if (pt_cmpR op_gt (pv 1) (pe_callB call_len_seq (by rfl) Ev.b_len PySem.boot_len (pa_cons (pv 0) pa_nil)) (nomark _))
        (pss_one (ps_raiseC (W := fun cls d _ H => E cls d H) rfl (takes_of rfl rfl rfl rfl) Ex.BadForm))
        pss_nil)), ?_⟩
    refine ⟨_, rfl, _, rfl, p, _, rfl, .inr hp, _, _, rfl, rfl, _, rfl, ite2 (fun z => ?_) (fun z => ?_)⟩
    · have z' := of_decide_eq_true z
      rw [List.length_map] at z'
      exact he z'
    · have z' : ¬ ((S.map V.int).length : Int) < n := fun y => z (decide_eq_true y)
      rw [List.length_map] at z'
      exact hq (by omega)
def spCopies (K : PySem.W.Frag) (cB : Addr) : Sp := fun vs H Q E => ∃ (b : Addr) (B : List Int) (many back : Nat), vs = [.ref b, .int (many : Int), .int (back : Int)] ∧ H b = some (.lst (B.map V.int)) ∧ 1 ≤ back ∧ many ≤ 1000 ∧ B.length ≤ 2000 ∧ (B.length < back → E (.ref cB) none H) ∧ (back ≤ B.length → ∀ H', But b H H' → H' b = some (.lst ((copyB many back B).map V.int)) → Q .non H')
theorem ok_copies {f : Addr} {fd : FuncData} (Ev : Env K mg) (Ex : Excs K mg e_Cut e_BadForm) (F : Fun K "add_copies" "add_copies" sAddCopies f fd) : FnOk P w K mg base (L2.CX P w) 1 f fd ["body", "many", "back"] (spCopies K e_BadForm) := by
  refine F.okX scAddCopies (fun vs H Q E h => ?_) (fun cdv A outer s H vs Q E hr h => ?_)
  · obtain ⟨b, B, many, back, rfl, _⟩ := h; rfl
  · obtain ⟨b, B, many, back, rfl, hb, b1, m1, lB, he, hq⟩ := h
    refine ⟨_, (pss_cons (ps_if (pt_cmpR op_gt (pv 2) (pe_callB call_len_seq (by rfl) Ev.b_len PySem.boot_len (pa_cons (pv 0) pa_nil)) (nomark _))
        (pss_one (ps_raiseC (W := fun cls d _ H => E cls d H) rfl (takes_of rfl rfl rfl rfl) Ex.BadForm))
        pss_nil)
      (pss_one (ps_for (passes_of rfl) rfl (pi_range1 (by rfl) Ev.b_range (pa_cons (pv 1) pa_nil)) (pg_name (i := 3) scAddCopies.nd rfl (.inl rfl))
        (pss_one (ps_expr (pe_bm PySem.F.plainAttrs_list PySem.F.slot_list_append PySem.F.type_list_append mt_append (pv 0) (pa_cons (pe_ix ix_list (pv 0) (pe_op op_sub (pe_callB call_len_seq (by rfl) Ev.b_len PySem.boot_len (pa_cons (pv 0) pa_nil)) (pv 2)) (fun _ _ => rfl)) pa_nil))))))), ?_⟩
    refine ⟨_, rfl, _, rfl, b, _, rfl, .inl (SqL.of hb), _, _, rfl, rfl, _, rfl, ite2 (fun z => ?_) (fun z => ?_)⟩
    · have z' := of_decide_eq_true z
      rw [List.length_map] at z'
      exact he (by omega)
    have z' : ¬ ((B.map V.int).length : Int) < (back : Int) := fun y => z (decide_eq_true y)
    rw [List.length_map] at z'
    have le : back ≤ B.length := by omega
    have mx : (many : Int).toNat = many := by omega
    refine ⟨_, rfl, _, rfl, by omega, by omega, for_range (lo := 0) (fun i σ Hx => ∃ y3, σ = [some (.ref b), some (.int (many : Int)), some (.int (back : Int)), y3] ∧ But b H Hx ∧ Hx b = some (.lst ((copyB i back B).map V.int))) ⟨none, rfl, But.refl b H, hb⟩ (fun i σ Hx hi p' => ?_) (fun σ Hx p' => ?_)⟩
    · obtain ⟨y3, rfl, sx, hx⟩ := p'
      have lc : (copyB i back B).length = B.length + i := copyB_len ..
      have ltf : (copyB i back B).length - back < (copyB i back B).length := by omega
      have gi : ((copyB i back B).map V.int)[(copyB i back B).length - back]? = some (.int ((copyB i back B).getD ((copyB i back B).length - back) 0)) := by
        rw [List.getElem?_map, List.getD_eq_getElem?_getD, List.getElem?_eq_getElem ltf]
        rfl
      have ei : (((copyB i back B).map V.int).length : Int) - (back : Int) = (((copyB i back B).length - back : Nat) : Int) := by
        rw [List.length_map]
        omega
      refine ⟨_, rfl, .inl ⟨rfl, _, SqL.of hx⟩, _, rfl, _, rfl, b, _, rfl, .inl (SqL.of hx), _, rfl, _, _, rfl, rfl, b, _, _, _, rfl, rfl, SqL.of hx, at_of ei gi, b, _, _, rfl, rfl, hx, ?_, _, rfl, sx.set, ?_⟩
      · rw [List.length_map, lc, sizeLine_eq]
        omega
      · rw [upd_same, copyB_succ, moreB, List.map_append]
        rfl
    · obtain ⟨y3, rfl, sx, hx⟩ := p'
      exact hq le _ sx hx
def spDeedsP (K : PySem.W.Frag) (cB : Addr) : Sp := fun vs H Q E => ∃ (p : Addr) (S : List Int), vs = [.ref p] ∧ SqT K H p (S.map V.int) ∧ Byt S ∧ S.length ≤ 20000 ∧ OutU K cB H Q E (backF S)
def wDeeds (K : PySem.W.Frag) (H : Hp) (p : Addr) (S : List Int) (m : Nat) (σ : L2.St) (H' : Hp) : Prop :=
  ∃ (k : Nat) (B : List Int) (b : Addr) (y3 : Option V), σ = [some (.ref p), some (.ref b), some (.int (k : Int)), y3] ∧ m = S.length - k ∧ k ≤ S.length ∧ Same H H' ∧ H b = none ∧ H' b = some (.lst (B.map V.int)) ∧ B.length ≤ 1000 ∧ ∃ f, S.length - k ≤ f ∧ deedsF f (S.drop k) B = backF S
theorem ok_deedsP {f : Addr} {fd : FuncData} (Ev : Env K mg) (Ex : Excs K mg e_Cut e_BadForm) (CCheckWhole : CalX P w K mg base "check_whole" 1 ["some", "behind"] (spWhole K e_BadForm)) (CAddCopies : CalX P w K mg base "add_copies" 1 ["body", "many", "back"] (spCopies K e_BadForm)) (F : Fun K "body_of_deeds" "body_of_deeds" sBodyOfDeeds f fd) : FnOk P w K mg base (L2.CX P w) 2 f fd ["some"] (spDeedsP K e_BadForm) := by
  refine F.okX scBodyOfDeeds (fun vs H Q E h => ?_) (fun cdv A outer s H vs Q E hr h => ?_)
  · obtain ⟨p, S, rfl, _⟩ := h; rfl
  · obtain ⟨p, S, rfl, hp, hb, few, out⟩ := h
    refine ⟨_, (pss_cons (ps_set (i := 1) scBodyOfDeeds.nd rfl (.inl rfl) (pe_lst pa_nil))
      (pss_cons (ps_set (i := 2) scBodyOfDeeds.nd rfl (.inl rfl) pe_int)
      (pss_cons (ps_while (passes_of rfl) (pt_cmpR op_lt (pv 2) (pe_callB call_len_seq (by rfl) Ev.b_len PySem.boot_len (pa_cons (pv 0) pa_nil)) (nomark _))
        (pss_cons (ps_if (pt_cmpR op_lt (pe_ix ix_tup (pv 0) (pv 2) (fun _ _ => rfl)) (pe_globI (by rfl) Ev.g_FIRST_COPY) (nomark _))
          (pss_cons (ps_set (i := 3) scBodyOfDeeds.nd rfl (.inl rfl) (pe_op op_add (pe_op op_add (pv 2) (pe_ix ix_tup (pv 0) (pv 2) (fun _ _ => rfl))) pe_int))
          (pss_cons (ps_expr (pe_cx (E := E) CCheckWhole (hr.mono (by omega)) (takes_of rfl rfl rfl rfl) (pa_cons (pv 0) (pa_cons (pv 3) pa_nil))))
          (pss_one (ps_expr (pe_bm PySem.F.plainAttrs_list PySem.F.slot_list_extend PySem.F.type_list_extend mt_extendT (pv 1) (pa_cons (pe_slice sl_tupU (pv 0) (po_some (pe_op op_add (pv 2) pe_int)) (po_some (pv 3))) pa_nil))))))
          (pss_cons (ps_set (i := 3) scBodyOfDeeds.nd rfl (.inl rfl) (pe_op op_add (pv 2) pe_int))
          (pss_cons (ps_expr (pe_cx (E := E) CCheckWhole (hr.mono (by omega)) (takes_of rfl rfl rfl rfl) (pa_cons (pv 0) (pa_cons (pv 3) pa_nil))))
          (pss_one (ps_expr (pe_cx (E := E) CAddCopies (hr.mono (by omega)) (takes_of rfl rfl rfl rfl) (pa_cons (pv 1) (pa_cons (pe_op op_add (pe_op op_sub (pe_ix ix_tup (pv 0) (pv 2) (fun _ _ => rfl)) (pe_globI (by rfl) Ev.g_FIRST_COPY)) (pe_globI (by rfl) Ev.g_LEAST_COPIED)) (pa_cons (pe_op op_add (pe_ix ix_tup (pv 0) (pe_op op_add (pv 2) pe_int) (fun _ _ => rfl)) pe_int) pa_nil)))))))))
        (pss_cons (ps_if (pt_cmpR op_gt (pe_callB call_len_seq (by rfl) Ev.b_len PySem.boot_len (pa_cons (pv 1) pa_nil)) (pe_globI (by rfl) Ev.g_MOST_OF_BODY) (nomark _))
          (pss_one (ps_raiseC (W := fun cls d _ H => E cls d H) rfl (takes_of rfl rfl rfl rfl) Ex.BadForm))
          pss_nil)
        (pss_one (ps_set (i := 2) scBodyOfDeeds.nd rfl (.inl rfl) (pv 3))))))
      (pss_one (ps_ret (pe_callTy call_tupleU (by rfl) Ev.b_tuple (by decide +kernel) (pa_cons (pv 1) pa_nil))))))), ?_⟩
    have size : ∀ n : Nat, n ≤ 5000 → n ≤ sizeLine := fun n h => by rw [sizeLine_eq]; omega
    refine ⟨Nat.zero_le _, fun b nb => ?_⟩
    refine ⟨wDeeds K H p S, ⟨_, 0, [], b, none, rfl, rfl, Nat.zero_le _, grow nb, nb, upd_same, Nat.zero_le _, S.length, Nat.le_refl _, rfl⟩, fun m σ H' hW => ?_⟩
    obtain ⟨k, B, b, y3, rfl, rfl, lk, sm, nb, h', lB, g, lg, eg⟩ := hW
    have hp' := keepT sm hp
    refine ⟨_, rfl, _, rfl, p, _, rfl, .inr hp', _, _, rfl, rfl, _, rfl, ite2 (fun z => ?_) (fun z => ?_)⟩
    · have lt : k < S.length := by
        have := of_decide_eq_true z
        rw [List.length_map] at this
        omega
      obtain ⟨g', rfl⟩ : ∃ g', g = g' + 1 := ⟨g - 1, by omega⟩
      obtain ⟨n, en⟩ : ∃ n, n = S[k] := ⟨_, rfl⟩
      have bn := hb S[k] (List.getElem_mem lt)
      rw [← en] at bn
      have gk : (S.map V.int)[k]? = some (.int n) := by rw [List.getElem?_map, List.getElem?_eq_getElem lt, en]; rfl
      rw [List.drop_eq_getElem_cons lt, ← en] at eg
      have lr : (S.drop (k + 1)).length = S.length - (k + 1) := List.length_drop ..
      refine ⟨fun σ' H'' => ∃ m', m' < S.length - k ∧ wDeeds K H p S m' σ' H'', fun σ' H'' h => h, ?_⟩
      -- what stands behind the if
      refine seq_by (t := tIfS _ _ _) (fun σ' Hx => ∃ (k' : Nat) (B' : List Int), σ' = [some (.ref p), some (.ref b), some (.int (k : Int)), some (.int (k' : Int))] ∧ k < k' ∧ k' ≤ S.length ∧ B'.length ≤ 2000 ∧ Same H Hx ∧ Hx b = some (.lst (B'.map V.int)) ∧ deedsF g' (S.drop k') B' = backF S) (fun σ' Hx pp => ?_) (fun go => ?_)
      · obtain ⟨k', B', rfl, lk', lk2, lB', sx, hx, ed⟩ := pp
        refine ⟨_, rfl, b, _, rfl, .inl (SqL.of hx), _, _, rfl, rfl, _, rfl, ite2 (fun y => ?_) (fun y => ?_)⟩
        · have y' := of_decide_eq_true y
          rw [List.length_map] at y'
          rw [deedsF_long _ _ _ (by omega)] at ed
          rw [← ed] at out
          exact out _ sx
        · have y' : ¬ (1000 : Int) < ((B'.map V.int).length : Int) := fun v => y (decide_eq_true v)
          rw [List.length_map] at y'
          exact ⟨_, rfl, S.length - k', by omega, k', B', b, _, rfl, rfl, lk2, sx, nb, hx, by omega, g', by omega, ed⟩
      refine ⟨_, rfl, _, rfl, p, _, _, _, rfl, rfl, hp', atI_nat gk, _, _, rfl, rfl, _, rfl, ite2 (fun y => ?_) (fun y => ?_)⟩
      · have small : n ≤ 127 := by
          have : n < 128 := of_decide_eq_true y
          omega
        rw [deedsF_lit small] at eg
        have e2 : (k : Int) + n + 2 = ((k + 1 + (n + 1).toNat : Nat) : Int) := by omega
        refine ⟨_, rfl, _, rfl, _, rfl, p, _, _, _, rfl, rfl, hp', atI_nat gk, _, _, rfl, rfl, _, _, rfl, rfl, ?_⟩
        refine ⟨_, rfl, _, rfl, p, S, _, rfl, hp', fun x' => ?_, fun x' => ?_⟩
        · rw [if_neg (by rw [lr]; omega)] at eg
          refine ⟨_, rfl, .inl ⟨rfl, _, SqL.of h'⟩, _, rfl, _, rfl, _, _, rfl, rfl, _, rfl, _, rfl, _, rfl, p, _, rfl, hp', fun Ha ta sa ha => ?_⟩
          rw [show (k : Int) + 1 = ((k + 1 : Nat) : Int) by omega, e2, cut_mid, Nat.add_sub_cancel_left] at ha
          have lt2 : ((S.drop (k + 1)).take (n + 1).toNat).length ≤ 128 := by
            rw [List.length_take]
            omega
          have hba := sa _ _ h'
          refine ⟨b, ta, _, _, rfl, rfl, hba, ha, ?_, ?_⟩
          · refine size _ ?_
            rw [List.length_map, List.length_map]
            omega
          refine go _ _ ⟨k + 1 + (n + 1).toNat, B ++ (S.drop (k + 1)).take (n + 1).toNat, (by show [_, _, _, some (V.int ((k : Int) + n + 2))] = _; rw [e2]), by omega, by omega, (by rw [List.length_append]; omega), keep_lst (sm.trans sa) nb, ?_, ?_⟩
          · rw [upd_same, List.map_append]
          · rw [← eg, List.drop_drop]
        · rw [if_pos (by rw [lr]; omega)] at eg
          rw [← eg] at out
          exact out _ sm
      · have big : ¬ n ≤ 127 := fun v => y (decide_eq_true (show n < 128 by omega))
        refine ⟨_, rfl, _, _, rfl, rfl, ?_⟩
        refine ⟨_, rfl, _, rfl, p, S, _, rfl, hp', fun x' => ?_, fun x' => ?_⟩
        · have lt1 : k + 1 < S.length := by omega
          obtain ⟨d, ed⟩ : ∃ d, d = S[k + 1] := ⟨_, rfl⟩
          have bd := hb S[k + 1] (List.getElem_mem lt1)
          rw [← ed] at bd
          have gd : (S.map V.int)[k + 1]? = some (.int d) := by rw [List.getElem?_map, List.getElem?_eq_getElem lt1, ed]; rfl
          rw [List.drop_eq_getElem_cons lt1, ← ed, deedsF_back big] at eg
          have e1 : (k : Int) + 1 = ((k + 1 : Nat) : Int) := by omega
          have em : n - 128 + 3 = (((n - 125).toNat : Nat) : Int) := by omega
          have eb : d + 1 = (((d + 1).toNat : Nat) : Int) := by omega
          refine ⟨_, rfl, _, rfl, _, rfl, p, _, _, _, rfl, rfl, hp', atI_nat gk, _, _, rfl, rfl, _, _, rfl, rfl, _, rfl, _, rfl, _, _, rfl, rfl, p, _, _, _, rfl, rfl, hp', at_of e1 gd, _, _, rfl, rfl, ?_⟩
          refine ⟨b, B, (n - 125).toNat, (d + 1).toNat, ?_, h', by omega, by omega, by omega, fun v => ?_, fun v Hx bx hx => ?_⟩
          · show [V.ref b, V.int (n - 128 + 3), V.int (d + 1)] = _
            rw [em, ← eb]
          · rw [if_pos (by omega)] at eg
            rw [← eg] at out
            exact out _ sm
          · rw [if_neg (by omega)] at eg
            exact go _ _ ⟨k + 2, _, (by show [_, _, _, some (V.int ((k : Int) + 2))] = _; rw [show (k : Int) + 2 = ((k + 2 : Nat) : Int) by omega]), by omega, by omega, (by rw [copyB_len]; omega), But.same sm nb (NC.lst h') bx, hx, eg⟩
        · have nil : S.drop (k + 1) = [] := List.drop_of_length_le (by omega)
          rw [nil, deedsF_cut big] at eg
          rw [← eg] at out
          exact out _ sm
    · have ek : k = S.length := by
        have : ¬ (k : Int) < ((S.map V.int).length : Int) := fun y => z (decide_eq_true y)
        rw [List.length_map] at this
        omega
      have nil : S.drop k = [] := List.drop_of_length_le (by omega)
      rw [nil, deedsF_end, if_pos lB] at eg
      rw [← eg] at out
      exact ⟨_, rfl, b, _, rfl, SqL.of h', fun Hx tx sx hx => out _ _ (sm.trans sx) hx⟩

/-! ### bytes read, or an error without a context -/
def Out (K : PySem.W.Frag) (cC cB : Addr) (H : Hp) (Q : VK) (E : XK) : Res → Prop
  | .cut => E (.ref cC) none H
  | .bad => E (.ref cB) none H
  | .ok n p => Tups K H [.int n, .int (p : Int)] Q
def spByteX (K : PySem.W.Frag) (cC : Addr) : Sp := fun vs H Q E => ∃ (p : Addr) (S : List Int) (k : Nat), vs = [.ref p, .int (k : Int)] ∧ SqT K H p (S.map V.int) ∧ (∀ x, S[k]? = some x → Q (.int x) H) ∧ (S[k]? = none → E (.ref cC) none H)
theorem ok_byteX {f : Addr} {fd : FuncData} (Ev : Env K mg) (Ex : Excs K mg e_Cut e_BadForm) (F : Fun K "byte_at" "byte_at" sByteAt f fd) : FnOk P w K mg base (L2N.CX P w) 1 f fd ["some", "place"] (spByteX K e_Cut) := by
  refine funOkN F scByteAt (fun vs H Q E h => ?_) (fun cdv A outer s H vs Q E hr h => ?_)
  · obtain ⟨p, S, k, rfl, _⟩ := h; rfl
  · obtain ⟨p, S, k, rfl, hp, hq, he⟩ := h
    refine ⟨_, (pss_cons (ps_if (PW.pt (pw_or (pt_cmpR op_lt (pv 1) pe_int (nomark _)) (pw_or1 (pt_cmpR op_ge (pv 1) (pe_callB call_len_seq (by rfl) Ev.b_len PySem.boot_len (pa_cons (pv 0) pa_nil)) (nomark _)))))
        (pss_one (ps_raiseCN (W := fun cls d _ H => E cls d H) rfl (L2N.takes_of rfl rfl rfl rfl) Ex.Cut))
        pss_nil)
      (pss_one (ps_ret (pe_ix ix_tup (pv 0) (pv 1) (fun _ _ => rfl))))), ?_⟩
    refine ⟨_, rfl, _, _, rfl, rfl, _, rfl, ite2 (fun z => ?_) (fun _ => ?_)⟩
    · have := of_decide_eq_true z
      omega
    refine ⟨_, rfl, _, rfl, p, _, rfl, .inr hp, _, _, rfl, rfl, _, rfl, ite2 (fun z => ?_) (fun z => ?_)⟩
    · have := of_decide_eq_true z
      rw [List.length_map] at this
      exact he (List.getElem?_eq_none (by omega))
    have lk : k < S.length := by
      have : ¬ ((S.map V.int).length : Int) ≤ (k : Int) := fun y => z (decide_eq_true y)
      rw [List.length_map] at this
      omega
    have gk : (S.map V.int)[k]? = some (.int S[k]) := by rw [List.getElem?_map, List.getElem?_eq_getElem lk]; rfl
    exact ⟨_, rfl, _, rfl, p, _, _, _, rfl, rfl, hp, atI_nat gk, hq _ (List.getElem?_eq_getElem lk)⟩
def fixOf (S : List Int) (k m : Nat) : Res := if k + m ≤ S.length then .ok (val256 ((S.drop k).take m)) (k + m) else .cut
def spReadX (K : PySem.W.Frag) (cC cB : Addr) : Sp := fun vs H Q E => ∃ (p : Addr) (S : List Int) (k : Nat), vs = [.ref p, .int (k : Int)] ∧ SqT K H p (S.map V.int) ∧ Byt S ∧ Out K cC cB H Q E (resOf S k)
def wReadX (H : Hp) (p : Addr) (S : List Int) (at_ : Nat) (m : Nat) (σ : L2.St) (H' : Hp) : Prop :=
  ∃ (k : Nat) (num worth x : Int), σ = [some (.ref p), some (.int (at_ : Int)), some (.int num), some (.int worth), some (.int ((at_ + k : Nat) : Int)), some (.int x)] ∧ H' = H ∧ m = 6 - k ∧ k ≤ 5 ∧ S[at_ + k]? = some x ∧ rd S at_ (6 - k) k num worth = resOf S at_
theorem ok_readX {f : Addr} {fd : FuncData} (Ev : Env K mg) (Ex : Excs K mg e_Cut e_BadForm) (CByteAt : CalN P w K mg base "byte_at" 1 ["some", "place"] (spByteX K e_Cut)) (F : Fun K "read_number" "read_number" sReadNumber f fd) : FnOk P w K mg base (L2N.CX P w) 2 f fd ["some", "at"] (spReadX K e_Cut e_BadForm) := by
  refine funOkN F scReadNumber (fun vs H Q E h => ?_) (fun cdv A outer s H vs Q E hr h => ?_)
  · obtain ⟨p, S, k, rfl, _⟩ := h; rfl
  · obtain ⟨p, S, at_, rfl, hp, hb, out⟩ := h
    refine ⟨_, (pss_cons (ps_set (i := 2) scReadNumber.nd rfl (.inl rfl) pe_int)
      (pss_cons (ps_set (i := 3) scReadNumber.nd rfl (.inl rfl) pe_int)
      (pss_cons (ps_set (i := 4) scReadNumber.nd rfl (.inl rfl) (pv 1))
      (pss_cons (ps_set (i := 5) scReadNumber.nd rfl (.inl rfl) (pe_cxN (E := E) CByteAt (hr.mono (by omega)) (L2N.takes_of rfl rfl rfl rfl) (pa_cons (pv 0) (pa_cons (pv 4) pa_nil))))
      (pss_cons (ps_while (passes_of rfl) (pt_cmpR op_gt (pv 5) pe_int (nomark _))
        (pss_cons (ps_if (pt_cmpR op_eq (pe_op op_add (pe_op op_sub (pv 4) (pv 1)) pe_int) (pe_globI (by rfl) Ev.g_MOST_BYTES) (nomark _))
          (pss_one (ps_raiseCN (W := fun cls d _ H => E cls d H) rfl (L2N.takes_of rfl rfl rfl rfl) Ex.BadForm))
          pss_nil)
        (pss_cons (ps_aug (i := 2) scReadNumber.nd rfl (.inl rfl) (pe_op op_mul (pe_op op_sub (pv 5) pe_int) (pv 3)) ip_add)
        (pss_cons (ps_set (i := 3) scReadNumber.nd rfl (.inl rfl) (pe_op op_mul (pv 3) pe_int))
        (pss_cons (ps_aug (i := 4) scReadNumber.nd rfl (.inl rfl) pe_int ip_add)
        (pss_one (ps_set (i := 5) scReadNumber.nd rfl (.inl rfl) (pe_cxN (E := E) CByteAt (hr.mono (by omega)) (L2N.takes_of rfl rfl rfl rfl) (pa_cons (pv 0) (pa_cons (pv 4) pa_nil))))))))))
      (pss_cons (ps_if (PW.pt (pw_and (pt_cmpR op_eq (pv 5) pe_int (nomark _)) (pw_and1 (pt_cmpR op_gt (pv 4) (pv 1) (nomark _)))))
        (pss_one (ps_raiseCN (W := fun cls d _ H => E cls d H) rfl (L2N.takes_of rfl rfl rfl rfl) Ex.BadForm))
        pss_nil)
      (pss_one (ps_ret (pe_tupU (pa_cons (pe_op op_add (pv 2) (pe_op op_mul (pv 5) (pv 3))) (pa_cons (pe_op op_add (pv 4) pe_int) pa_nil))))))))))), ?_⟩
    refine ⟨_, rfl, ?_⟩
    refine ⟨_, rfl, _, rfl, p, S, at_, rfl, hp, fun x hx => ?_, fun hn => ?_⟩
    case refine_2 =>
      have e : resOf S at_ = .cut := rd_cut hn
      rw [e] at out
      exact out
    refine ⟨wReadX H p S at_, ⟨_, 0, 0, 1, x, rfl, rfl, rfl, by decide, hx, rfl⟩, fun m σ H' hW => ?_⟩
    obtain ⟨k, num, worth, x, rfl, rfl, rfl, k5, gx, er⟩ := hW
    have bx := hb x (List.mem_of_getElem? gx)
    obtain ⟨f0, ef⟩ : ∃ f0, 6 - k = f0 + 1 := ⟨5 - k, by omega⟩
    refine ⟨_, rfl, _, _, rfl, rfl, _, rfl, ite2 (fun z => ?_) (fun z => ?_)⟩
    · have big : ¬ x < 128 := by
        have z' : 127 < x := of_decide_eq_true z
        omega
      rw [ef, rd_on gx big] at er
      refine ⟨fun σ' H'' => ∃ m', m' < 6 - k ∧ wReadX H' p S at_ m' σ' H'', fun σ' H'' h => h, ?_⟩
      refine ⟨_, rfl, _, rfl, _, _, rfl, rfl, _, _, rfl, rfl, rfl, _, rfl, ite2 (fun y => ?_) (fun y => ?_)⟩
      · have h5 : k = 5 := by
          have := V.int.inj (of_decide_eq_true y)
          omega
        have f00 : f0 = 0 := by omega
        rw [f00, rd] at er
        rw [← er] at out
        exact out
      have k4 : k ≤ 4 := by
        have : ¬ (((at_ + k : Nat) : Int) - (at_ : Int) + 1 = 6) := fun q => y (decide_eq_true (congrArg V.int q))
        omega
      obtain ⟨f1, ef1⟩ : ∃ f1, f0 = f1 + 1 := ⟨f0 - 1, by omega⟩
      refine ⟨_, rfl, _, rfl, _, _, rfl, rfl, _, rfl, _, _, rfl, rfl, .inl ⟨by omega, by omega⟩, _, _, rfl, rfl, ?_⟩
      refine ⟨_, rfl, _, _, rfl, rfl, .inr ⟨by decide, by decide⟩, ?_⟩
      refine ⟨_, rfl, _, _, rfl, rfl, ?_⟩
      have ep : ((at_ + k : Nat) : Int) + 1 = ((at_ + (k + 1) : Nat) : Int) := by omega
      have en : num + (x - 128) * worth = num + x % 128 * worth := by
        rw [show x - 128 = x % 128 by omega]
      refine ⟨_, rfl, _, rfl, p, S, at_ + (k + 1), (by show [V.ref p, V.int (((at_ + k : Nat) : Int) + 1)] = _; rw [ep]), hp, fun x' hx' => ?_, fun hn => ?_⟩
      · refine ⟨6 - (k + 1), by omega, k + 1, num + x % 128 * worth, worth * 128, x', (by show [_, _, some (V.int (num + (x - 128) * worth)), _, some (V.int (((at_ + k : Nat) : Int) + 1)), _] = _; rw [ep, en]), rfl, rfl, by omega, hx', ?_⟩
        rw [show 6 - (k + 1) = f0 by omega]
        exact er
      · rw [ef1, rd_cut hn] at er
        rw [← er] at out
        exact out
    · have small : x < 128 := by
        have z' : ¬ 127 < x := fun y => z (decide_eq_true y)
        omega
      have fin : ¬ (x = 0 ∧ 0 < k) → Tups K H' [.int (num + x * worth), .int (((at_ + k : Nat) : Int) + 1)] Q := by
        intro nz
        rw [ef, rd_end gx nz small] at er
        rw [← er] at out
        have e1 : x % 128 = x := by omega
        have e2 : ((at_ + k + 1 : Nat) : Int) = ((at_ + k : Nat) : Int) + 1 := by omega
        show Tups K H' _ Q
        rw [← e2]
        have o2 : Tups K H' [.int (num + x % 128 * worth), .int ((at_ + k + 1 : Nat) : Int)] Q := out
        rw [e1] at o2
        exact o2
      have last : (¬ (x = 0 ∧ 0 < k)) → ∀ (D : Ends), D.rt = Q → tRet (tTupU K (tCons (tOp (rI0 fun i j => .int (i + j)) (tVar 2) (tOp (rI CMul fun i j => .int (i * j)) (tVar 5) (tVar 3))) (tCons (tOp (rI0 fun i j => .int (i + j)) (tVar 4) (tC (.int 1))) tNil))) D [some (.ref p), some (.int (at_ : Int)), some (.int num), some (.int worth), some (.int ((at_ + k : Nat) : Int)), some (.int x)] H' := by
        intro nz D eD
        show tTupU K _ _ H' D.rt
        rw [eD]
        exact ⟨_, rfl, _, rfl, _, rfl, _, _, rfl, rfl, .inl ⟨by omega, by omega⟩, _, _, rfl, rfl, _, rfl, _, _, rfl, rfl, (show 2 ≤ sizeLine by rw [sizeLine_eq]; decide), fin nz⟩
      refine ⟨_, rfl, rfl, _, rfl, ite2 (fun y => ?_) (fun y => iteF ?_)⟩
      · have y0 : x = 0 := V.int.inj (of_decide_eq_true y)
        refine ⟨_, rfl, _, rfl, _, _, rfl, rfl, _, rfl, ite2 (fun v => ?_) (fun v => ?_)⟩
        · have k0 : 0 < k := by
            have := of_decide_eq_true v
            omega
          rw [ef, rd_zero gx ⟨y0, k0⟩] at er
          rw [← er] at out
          exact out
        · exact last (fun q => v (decide_eq_true (by omega))) _ rfl
      · exact last (fun q => y (decide_eq_true (congrArg V.int q.1))) _ rfl
def spReadFX (K : PySem.W.Frag) (cC : Addr) : Sp := fun vs H Q E => ∃ (p : Addr) (S : List Int) (k m : Nat), vs = [.ref p, .int (k : Int), .int (m : Int)] ∧ SqT K H p (S.map V.int) ∧ k ≤ 1000 ∧ 1 ≤ m ∧ m ≤ 1000 ∧ Out K cC cC H Q E (fixOf S k m)
theorem ok_readFX {f : Addr} {fd : FuncData} (Ev : Env K mg) (Ex : Excs K mg e_Cut e_BadForm) (CByteAt : CalN P w K mg base "byte_at" 1 ["some", "place"] (spByteX K e_Cut)) (F : Fun K "read_fixed" "read_fixed" sReadFixed f fd) : FnOk P w K mg base (L2N.CX P w) 2 f fd ["some", "at", "many"] (spReadFX K e_Cut) := by
  refine funOkN F scReadFixed (fun vs H Q E h => ?_) (fun cdv A outer s H vs Q E hr h => ?_)
  · obtain ⟨p, S, k, m, rfl, _⟩ := h; rfl
  · obtain ⟨p, S, k, m, rfl, hp, k1, m0, m1, out⟩ := h
    refine ⟨_, (pss_cons (ps_set (i := 3) scReadFixed.nd rfl (.inl rfl) pe_int)
      (pss_cons (ps_for (passes_of rfl) rfl (pi_range2 (by rfl) Ev.b_range (pa_cons (pv 1) (pa_cons (pe_op op_add (pv 1) (pv 2)) pa_nil))) (pg_name (i := 4) scReadFixed.nd rfl (.inl rfl))
        (pss_one (ps_set (i := 3) scReadFixed.nd rfl (.inl rfl) (pe_op op_add (pe_op op_mul (pv 3) pe_int) (pe_cxN (E := E) CByteAt (hr.mono (by omega)) (L2N.takes_of rfl rfl rfl rfl) (pa_cons (pv 0) (pa_cons (pv 4) pa_nil)))))))
      (pss_one (ps_ret (pe_tupU (pa_cons (pv 3) (pa_cons (pe_op op_add (pv 1) (pv 2)) pa_nil))))))), ?_⟩
    refine ⟨_, rfl, _, rfl, _, rfl, _, _, rfl, rfl, _, _, rfl, ⟨by omega, by omega, by omega, by omega⟩, for_range (lo := (k : Int)) (fun i σ H' => ∃ y, σ = [some (.ref p), some (.int (k : Int)), some (.int (m : Int)), some (.int (val256 ((S.drop k).take i))), y] ∧ H' = H ∧ (0 < i → k + i ≤ S.length)) ⟨none, rfl, rfl, fun z => absurd z (by decide)⟩ (fun i σ H' hi p' => ?_) (fun σ H' p' => ?_)⟩
    · obtain ⟨y, rfl, rfl, _⟩ := p'
      have im : i < m := by omega
      have ep : (k : Int) + (i : Int) = ((k + i : Nat) : Int) := by omega
      rw [ep]
      refine ⟨_, rfl, _, _, rfl, rfl, .inr ⟨by decide, by decide⟩, _, rfl, _, rfl, p, S, k + i, rfl, hp, fun x hx => ?_, fun hn => ?_⟩
      · have lx : k + i < S.length := (List.getElem?_eq_some_iff.mp hx).1
        have gi : (S.drop k)[i]? = some x := by rw [List.getElem?_drop]; exact hx
        refine ⟨_, _, rfl, rfl, some (.int ((k + i : Nat) : Int)), ?_, rfl, fun _ => by omega⟩
        rw [val_take gi]
        rfl
      · have lx : S.length ≤ k + i := List.getElem?_eq_none_iff.mp hn
        have e : fixOf S k m = .cut := by
          unfold fixOf
          rw [if_neg (by omega)]
        rw [e] at out
        exact out
    · obtain ⟨y, rfl, rfl, lim⟩ := p'
      have en : ((k : Int) + (m : Int) - (k : Int)).toNat = m := by omega
      rw [en] at lim ⊢
      by_cases c : k + m ≤ S.length
      · have e : fixOf S k m = .ok (val256 ((S.drop k).take m)) (k + m) := by
          unfold fixOf
          rw [if_pos c]
        rw [e] at out
        refine ⟨_, rfl, _, rfl, _, rfl, _, _, rfl, rfl, (show 2 ≤ sizeLine by rw [sizeLine_eq]; decide), ?_⟩
        have o2 : Tups K H' [.int (val256 ((S.drop k).take m)), .int ((k + m : Nat) : Int)] Q := out
        rw [Int.natCast_add] at o2
        exact o2
      · exact absurd (lim m0) c

/-! ### bits, and what the head tells -/
theorem hu2 {k : Nat} {A : Around} (r : Room k A) : A.units + 2 < cLine := by have := r.un; omega
def spBit (K : PySem.W.Frag) (cB : Addr) : Sp := fun vs H Q E => ∃ (p : Addr) (S : List Int) (q : Nat), vs = [.ref p, .int (q : Int)] ∧ SqT K H p (S.map V.int) ∧ q ≤ 100000 ∧ ∀ H', Same H H' → (q < 8 * S.length → Q (.int (bitAt S q)) H') ∧ (¬ q < 8 * S.length → E (.ref cB) none H')
theorem ok_bit {f : Addr} {fd : FuncData} (Ev : Env K mg) (Ex : Excs K mg e_Cut e_BadForm) (F : Fun K "bit_at" "bit_at" sBitAt f fd) : FnOk P w K mg base (L2.CX P w) 1 f fd ["some", "place"] (spBit K e_BadForm) := by
  refine F.okX scBitAt (fun vs H Q E h => ?_) (fun cdv A outer s H vs Q E hr h => ?_)
  · obtain ⟨p, S, q, rfl, _⟩ := h; rfl
  · obtain ⟨p, S, q, rfl, hp, few, out⟩ := h
    refine ⟨_, (pss_cons (ps_asg (pe_callB call_divmodU (by rfl) Ev.b_divmod (by decide +kernel) (pa_cons (pv 1) (pa_cons pe_int pa_nil))) (pg_tup (by rfl) (pgs_cons (pg_name (i := 2) scBitAt.nd rfl (.inl rfl)) (pgs_cons (pg_name (i := 3) scBitAt.nd rfl (.inl rfl)) pgs_nil))))
      (pss_cons (ps_if (pt_cmpR op_ge (pv 2) (pe_callB call_len_seq (by rfl) Ev.b_len PySem.boot_len (pa_cons (pv 0) pa_nil)) (nomark _))
        (pss_one (ps_raiseC (W := fun cls d _ H => E cls d H) rfl (takes_of rfl rfl rfl rfl) Ex.BadForm))
        pss_nil)
      (pss_one (ps_ret (pe_op op_andM (pe_op op_shr (pe_ix ix_tup (pv 0) (pv 2) (fun _ _ => rfl)) (pe_op op_sub pe_int (pv 3))) pe_int))))), ?_⟩
    refine ⟨_, rfl, (q : Int), 8, rfl, ⟨by decide, by decide⟩, fun H1 t1 s1 h1 => ⟨t1, _, rfl, h1, rfl, _, _, rfl, _, _, rfl, rfl, ?_⟩⟩
    have e1 : (q : Int) / 8 = ((q / 8 : Nat) : Int) := by omega
    have e2 : (q : Int) % 8 = ((q % 8 : Nat) : Int) := by omega
    obtain ⟨o1, o2⟩ := out H1 s1
    refine ⟨_, rfl, _, rfl, p, _, rfl, .inr (keepT s1 hp), _, _, rfl, rfl, _, rfl, ite2 (fun z => ?_) (fun z => ?_)⟩
    · have z' := of_decide_eq_true z
      rw [List.length_map, e1] at z'
      exact o2 (by omega)
    · have lt : q / 8 < S.length := by
        have z' : ¬ ((S.map V.int).length : Int) ≤ (q : Int) / 8 := fun y => z (decide_eq_true y)
        rw [List.length_map, e1] at z'
        omega
      have gk : (S.map V.int)[q / 8]? = some (.int (S.getD (q / 8) 0)) := by
        rw [List.getElem?_map, List.getElem?_eq_getElem lt, List.getD_eq_getElem?_getD, List.getElem?_eq_getElem lt]
        rfl
      have o3 := o1 (by omega)
      have e3 : (7 - (q : Int) % 8).toNat = 7 - q % 8 := by omega
      refine ⟨_, rfl, _, rfl, p, _, _, _, rfl, rfl, keepT s1 hp, at_of e1 gk, _, rfl, _, _, rfl, rfl, _, _, rfl, rfl, (show (0 : Int) ≤ 7 - (q : Int) % 8 by omega), _, 1, rfl, rfl, ?_⟩
      rw [e3]
      exact o3
def spRest (K : PySem.W.Frag) (cB : Addr) : Sp := fun vs H Q E => ∃ (p : Addr) (S : List Int) (q : Nat), vs = [.ref p, .int (q : Int)] ∧ SqT K H p (S.map V.int) ∧ S.length ≤ 1000 ∧ q ≤ 8 * S.length ∧ ((8 * S.length ≤ q + 7 ∧ ∀ i, q ≤ i → i < 8 * S.length → bitAt S i = 0) → ∀ H', Same H H' → Q .non H') ∧ (¬ (8 * S.length ≤ q + 7 ∧ ∀ i, q ≤ i → i < 8 * S.length → bitAt S i = 0) → ∀ H', Same H H' → E (.ref cB) none H')
theorem ok_rest {f : Addr} {fd : FuncData} (Ev : Env K mg) (Ex : Excs K mg e_Cut e_BadForm) (CBitAt : CalX P w K mg base "bit_at" 1 ["some", "place"] (spBit K e_BadForm)) (F : Fun K "check_rest" "check_rest" sCheckRest f fd) : FnOk P w K mg base (L2.CX P w) 2 f fd ["some", "place"] (spRest K e_BadForm) := by
  refine F.okX scCheckRest (fun vs H Q E h => ?_) (fun cdv A outer s H vs Q E hr h => ?_)
  · obtain ⟨p, S, q, rfl, _⟩ := h; rfl
  · obtain ⟨p, S, q, rfl, hp, few, qle, qy, qn⟩ := h
    refine ⟨_, (pss_cons (ps_if (pt_cmpR op_gt (pe_op op_sub (pe_op op_mul (pe_callB call_len_seq (by rfl) Ev.b_len PySem.boot_len (pa_cons (pv 0) pa_nil)) pe_int) (pv 1)) pe_int (nomark _))
        (pss_one (ps_raiseC (W := fun cls d _ H => E cls d H) rfl (takes_of rfl rfl rfl rfl) Ex.BadForm))
        pss_nil)
      (pss_one (ps_for (passes_of rfl) rfl (pi_range2 (by rfl) Ev.b_range (pa_cons (pv 1) (pa_cons (pe_op op_mul (pe_callB call_len_seq (by rfl) Ev.b_len PySem.boot_len (pa_cons (pv 0) pa_nil)) pe_int) pa_nil))) (pg_name (i := 2) scCheckRest.nd rfl (.inl rfl))
        (pss_one (ps_if (pt_cmpR op_eq (pe_cx (E := E) CBitAt (hr.mono (by omega)) (takes_of rfl rfl rfl rfl) (pa_cons (pv 0) (pa_cons (pv 2) pa_nil))) pe_int (nomark _))
          (pss_one (ps_raiseC (W := fun cls d _ H => E cls d H) rfl (takes_of rfl rfl rfl rfl) Ex.BadForm))
          pss_nil))))), ?_⟩
    refine ⟨_, rfl, p, _, rfl, .inr hp, _, _, rfl, rfl, .inr ⟨by decide, by decide⟩, _, rfl, _, _, rfl, rfl, _, _, rfl, rfl, _, rfl, ite2 (fun z => ?_) (fun z => ?_)⟩
    · have z' := of_decide_eq_true z
      rw [List.length_map] at z'
      exact qn (fun k => by have := k.1; omega) _ (Same.refl _)
    have le7 : 8 * S.length ≤ q + 7 := by
      have z' : ¬ (7 : Int) < ((S.map V.int).length : Int) * 8 - (q : Int) := fun y => z (decide_eq_true y)
      rw [List.length_map] at z'
      omega
    refine ⟨_, rfl, _, rfl, p, _, rfl, .inr hp, _, _, rfl, rfl, .inr ⟨by decide, by decide⟩, _, _, rfl, ⟨by omega, by omega, by rw [List.length_map]; omega, by rw [List.length_map]; omega⟩, for_range (lo := (q : Int)) (fun i σ H' => ∃ y : Option V, σ = [some (.ref p), some (.int (q : Int)), y] ∧ Same H H' ∧ ∀ k, k < i → bitAt S (q + k) = 0) ⟨none, rfl, Same.refl _, fun k z => absurd z (Nat.not_lt_zero _)⟩ (fun i σ H' hi k => ?_) (fun σ H' k => ?_)⟩
    · obtain ⟨y, rfl, s1, all⟩ := k
      rw [List.length_map] at hi
      have ep : (q : Int) + (i : Int) = ((q + i : Nat) : Int) := by omega
      rw [ep]
      refine ⟨_, rfl, _, rfl, p, S, q + i, rfl, keepT s1 hp, by omega, fun H2 s2 => ⟨fun lt => ⟨rfl, _, rfl, ite2 (fun z2 => ?_) (fun z2 => ?_)⟩, fun n => absurd (show q + i < 8 * S.length by omega) n⟩⟩
      · have z3 : bitAt S (q + i) = 1 := V.int.inj (of_decide_eq_true z2)
        refine qn (fun k => ?_) _ (s1.trans s2)
        have := k.2 (q + i) (by omega) lt
        omega
      · have z3 : ¬ bitAt S (q + i) = 1 := fun y => z2 (decide_eq_true (congrArg V.int y))
        have b01 := bitAt_01 S (q + i)
        refine ⟨_, rfl, s1.trans s2, fun k hk => ?_⟩
        rcases Nat.lt_or_ge k i with c | c
        · exact all k c
        · have : k = i := by omega
          rw [this]
          omega
    · obtain ⟨y, rfl, s1, all⟩ := k
      refine qy ⟨le7, fun i h1 h2 => ?_⟩ _ s1
      have := all (i - q) (by rw [List.length_map]; omega)
      rw [show q + (i - q) = i by omega] at this
      exact this
def OutH (K : PySem.W.Frag) (cB : Addr) (H : Hp) (Q : VK) (E : XK) : Res → Prop
  | .cut => E (.ref cB) none H
  | .bad => E (.ref cB) none H
  | .ok n p => Tups K H [.int n, .int (p : Int)] Q
def spHN (K : PySem.W.Frag) (cB : Addr) : Sp := fun vs H Q E => ∃ (p : Addr) (S : List Int) (k : Nat), vs = [.ref p, .int (k : Int)] ∧ SqT K H p (S.map V.int) ∧ Byt S ∧ OutH K cB H Q E (resOf S k)
def spHB (K : PySem.W.Frag) (cB : Addr) : Sp := fun vs H Q E => ∃ (p : Addr) (S : List Int) (k : Nat), vs = [.ref p, .int (k : Int)] ∧ SqT K H p (S.map V.int) ∧ k ≤ 1000 ∧ (∀ x, S[k]? = some x → Tups K H [.int x, .int ((k + 1 : Nat) : Int)] Q) ∧ (S[k]? = none → E (.ref cB) none H)
theorem ok_hn {f : Addr} {fd : FuncData} (Ev : Env K mg) (Ex : Excs K mg e_Cut e_BadForm) (CReadNumber : CalN P w K mg base "read_number" 2 ["some", "at"] (spReadX K e_Cut e_BadForm)) (F : Fun K "read_head_number" "read_head_number" sReadHeadNumber f fd) : FnOk P w K mg base (L2.CX P w) 3 f fd ["some", "at"] (spHN K e_BadForm) := by
  refine F.okX scReadHeadNumber (fun vs H Q E h => ?_) (fun cdv A outer s H vs Q E hr h => ?_)
  · obtain ⟨p, S, k, rfl, _⟩ := h; rfl
  · obtain ⟨p, S, k, rfl, hp, hby, out⟩ := h
    refine ⟨_, (pss_one (ps_tryX (Wout := fun cls d _ H => E cls d H) rfl rfl (test_nameC ⟨rfl, by decide, .inl Ex.Cut.g⟩) (fun hd => L2H.passesAt_of rfl hd) (takes_of rfl rfl rfl rfl)
        (fun W pn xe tk po => (pss_one (ps_ret (pe_csN CReadNumber (hr.mono (by omega)) tk (pa_cons (pv 0) (pa_cons (pv 1) pa_nil))))))
        (fun a oe pn tk hot => (pss_one (ps_raiseF hot tk Ex.BadForm))))), ?_⟩
    refine ⟨_, rfl, _, rfl, p, S, k, rfl, hp, hby, ?_⟩
    cases r : resOf S k with
    | cut =>
      rw [r] at out
      exact ⟨true, any_one Ex.p_Cut_Cut, fun _ => out, fun z => nomatch z⟩
    | bad =>
      rw [r] at out
      exact ⟨false, any_one Ex.p_BadForm_Cut, (fun z => nomatch z), fun _ => out⟩
    | ok n p1 =>
      rw [r] at out
      exact out
theorem ok_hb {f : Addr} {fd : FuncData} (Ev : Env K mg) (Ex : Excs K mg e_Cut e_BadForm) (CReadFixed : CalN P w K mg base "read_fixed" 2 ["some", "at", "many"] (spReadFX K e_Cut)) (F : Fun K "read_head_byte" "read_head_byte" sReadHeadByte f fd) : FnOk P w K mg base (L2.CX P w) 3 f fd ["some", "at"] (spHB K e_BadForm) := by
  refine F.okX scReadHeadByte (fun vs H Q E h => ?_) (fun cdv A outer s H vs Q E hr h => ?_)
  · obtain ⟨p, S, k, rfl, _⟩ := h; rfl
  · obtain ⟨p, S, k, rfl, hp, le, qy, qn⟩ := h
    refine ⟨_, (pss_one (ps_tryX (Wout := fun cls d _ H => E cls d H) rfl rfl (test_nameC ⟨rfl, by decide, .inl Ex.Cut.g⟩) (fun hd => L2H.passesAt_of rfl hd) (takes_of rfl rfl rfl rfl)
        (fun W pn xe tk po => (pss_one (ps_ret (pe_csN CReadFixed (hr.mono (by omega)) tk (pa_cons (pv 0) (pa_cons (pv 1) (pa_cons pe_int pa_nil)))))))
        (fun a oe pn tk hot => (pss_one (ps_raiseF hot tk Ex.BadForm))))), ?_⟩
    refine ⟨_, rfl, _, rfl, p, S, k, 1, rfl, hp, le, by decide, by decide, ?_⟩
    unfold fixOf
    by_cases c : k + 1 ≤ S.length
    · rw [if_pos c]
      have gx : S[k]? = some S[k] := List.getElem?_eq_getElem (by omega)
      have e : val256 ((S.drop k).take 1) = S[k] := by
        rw [List.drop_eq_getElem_cons (by omega)]
        show val256 [S[k]] = S[k]
        simp [val256]
      show Tups K H [.int (val256 ((S.drop k).take 1)), .int ((k + 1 : Nat) : Int)] Q
      rw [e]
      exact qy _ gx
    · rw [if_neg c]
      exact ⟨true, any_one Ex.p_Cut_Cut, fun _ => qn (List.getElem?_eq_none (by omega)), fun z => nomatch z⟩

/-! ### the words of lengths -/
def spWO (K : PySem.W.Frag) : Sp := fun vs H Q _ => ∃ (D : Addr) (ls : List (Int × Int)), vs = [.ref D] ∧ H D = some (.dK (dL ls)) ∧ (ls.map (·.2)).Nodup ∧ Fine10 ls ∧ ls.length ≤ 1000 ∧ ∀ H' p ws, Same H H' → H' p = some (.lst ws) → Al2 (fun w y => Tr K w y H') (wds ls) ws → Q (.ref p) H'
theorem ok_wo {f : Addr} {fd : FuncData} (Ev : Env K mg) (F : Fun K "words_of" "words_of" sWordsOf f fd) : FnOk P w K mg base CX0 1 f fd ["lengths"] (spWO K) := by
  refine F.ok scWordsOf (fun vs H Q E h => ?_) (fun cdv A outer s H vs Q E hr h => ?_)
  · obtain ⟨D, ls, rfl, _⟩ := h; rfl
  · obtain ⟨D, ls, rfl, hD, nd, fn, few, q⟩ := h
    refine ⟨_, (pss_cons (ps_set (i := 1) scWordsOf.nd rfl (.inl rfl) (pe_lst pa_nil))
      (pss_cons (ps_set (i := 2) scWordsOf.nd rfl (.inl rfl) pe_int)
      (pss_cons (ps_set (i := 3) scWordsOf.nd rfl (.inl rfl) pe_int)
      (pss_cons (ps_for PassesOwn.never rfl (pi_list (pe_callB (cr_sortedD (hu65 hr)) (by rfl) Ev.b_sorted (by decide +kernel) (pa_cons (pe_lock (pe_lc (own := [("byte", 5)]) (g := gName 5) (tt := tYes) (by rfl) scWordsOf.nd (pi_keys (pv 0)) (blkOk_by (own := [("byte", 5)]) (N := nWordsOf) (sc := defScope sWordsOf) (by decide +kernel)) (fun _ _ _ _ _ => (pg_name (i := 5) scWordsOf.nd rfl (.inl rfl))) (fun _ _ _ _ _ => pts_nil) (fun _ _ _ _ _ => (pe_tupUq (K := K) rfl (pa_cons (pe_dget (hu1 hr) (pv 0) (pv 5) (fun _ _ => rfl)) (pa_cons (pv 5) pa_nil)))))) pa_nil))) (pg_tup (by rfl) (pgs_cons (pg_name (i := 4) scWordsOf.nd rfl (.inl rfl)) (pgs_cons (pg_name (i := 5) scWordsOf.nd rfl (.inl rfl)) pgs_nil)))
        (pss_cons (ps_if (pt_truth (pv 1) (by intro _; rfl))
          (pss_one (ps_set (i := 2) scWordsOf.nd rfl (.inl rfl) (pe_op op_shl (pe_op op_add (pv 2) pe_int) (pe_op op_sub (pv 4) (pv 3)))))
          pss_nil)
        (pss_cons (ps_expr (pe_bm PySem.F.plainAttrs_list PySem.F.slot_list_append PySem.F.type_list_append mt_append (pv 1) (pa_cons (pe_tupU (pa_cons (pv 4) (pa_cons (pv 2) (pa_cons (pv 5) pa_nil)))) pa_nil)))
        (pss_one (ps_set (i := 3) scWordsOf.nd rfl (.inl rfl) (pv 4))))))
      (pss_one (ps_ret (pv 1))))))), ?_⟩
    have two : (2 : Nat) ≤ sizeLine := by rw [sizeLine_eq]; decide
    have three : (3 : Nat) ≤ sizeLine := by rw [sizeLine_eq]; decide
    refine ⟨Nat.zero_le _, fun p1 n1 => ?_⟩
    have hD1 : (upd H p1 (.lst [])) D = some (.dK (dL ls)) := grow n1 _ _ hD
    have ne1 : D ≠ p1 := fun z => by rw [z, n1] at hD; cases hD
    refine ⟨D, .dK (dL ls), hD1, trivial, fun od => ⟨_, rfl, D, od, rfl, .inl ⟨dL ls, upd_same, fun DD nDD => ?_⟩⟩⟩
    have lkv : (dL ls).length = ls.length := by unfold dL; rw [List.length_map]
    refine lcW (es := ls) (G := fun p y H => Pr K p y H) (walk_keys (d := D) (o := od) (kvs := dL ls)) lkv.symm nDD (by rw [lkv, sizeLine_eq]; omega) (fun H s => s _ _ upd_same) (fun p y H H' s h => h.keep s) (fun p y H us vs hD h => h.over (.lst hD)) (fun i p x H2 H2' R hi hp s2 y r Z => ?_) (fun ys H2 al s2 h2 => ?_)
    · obtain ⟨rfl, k, v, hk, rfl⟩ := y
      obtain ⟨p', hp', rfl, rfl⟩ := dL_at hk
      rw [hp] at hp'
      cases hp'
      refine ⟨rfl, ?_⟩
      unfold tYes
      dsimp only
      rw [if_pos rfl]
      exact ⟨_, rfl, _, rfl, D, _, rfl, .inl ⟨dL ls, Sum.inl p.2, .inr ⟨od, s2 _ _ upd_same⟩, rfl, (dL_get nd (List.mem_of_getElem? hp)).symm⟩, _, rfl, two, fun H3 t3 s3 h3 => r _ _ s3 ⟨t3, rfl, h3⟩⟩
    · have e2 : H2 D = some (.frz od (.dK (dL ls))) := s2 _ _ upd_same
      refine ⟨e2, ?_⟩
      have s12 : Same (upd H p1 (.lst [])) (upd H2 D (.dK (dL ls))) := sm_unlock hD1 s2
      have nDD2 : DD ≠ D := fun z => by rw [z, upd_same] at nDD; cases nDD
      have al2 : Al2 (fun p y => Pr K p y (upd H2 D (.dK (dL ls)))) ls ys := al.mono fun p y ⟨t, e, k⟩ => ⟨t, e, unT e2 k⟩
      have h22 : (upd H2 D (.dK (dL ls))) DD = some (.lst ys) := by rw [upd_ne nDD2]; exact h2
      generalize upd H2 D (.dK (dL ls)) = H3 at s12 al2 h22 ⊢
      obtain ⟨ps, e3, e4, pk⟩ := pairs_pr al2
      obtain ⟨o1, o2, o3⟩ := sort_ok (ps := ps)
      refine ⟨Int × Int, encP, DD, ps, rfl, by rw [e3]; exact SqL.of h22, fun x hx => (pk x hx).dp, o1, o2, o3, fun p4 n4 => ?_⟩
      have es : (ps.mergeSort (PySem.W.dataLe false fun x => encP x.2)).map Prod.snd = ls.mergeSort pLe := by rw [sort_pr, e4]
      have pm := data_perm (fun x : V × (Int × Int) => encP x.2) ps
      have lps : ps.length = ls.length := by rw [← e4, List.length_map]
      generalize ps.mergeSort (PySem.W.dataLe false fun x => encP x.2) = zs at es pm
      have h31 : H3 p1 = some (.lst []) := s12 _ _ upd_same
      have np : p4 ≠ p1 := fun z => by rw [z, h31] at n4; cases n4
      have lzs : zs.length = ls.length := by rw [pm.length_eq, lps]
      refine ⟨p4, rfl, ⟨_, SqL.of upd_same⟩, for_list (xs := zs.map Prod.fst) (fun i σ H' => ∃ (ws : List V) (done : List Wd) (N prev : Nat) (num ah : Int) (y4 y5 : Option V), σ = [some (.ref D), some (.ref p1), some (.int num), some (.int ah), y4, y5] ∧ Same H H' ∧ H' p1 = some (.lst ws) ∧ H' p4 = some (.lst (zs.map Prod.fst)) ∧ (∀ x ∈ zs, Pr K x.2 x.1 H') ∧ Al2 (fun w y => Tr K w y H') done ws ∧ done.length = i ∧ wds ls = done ++ wordsFrom N prev ((zs.map Prod.snd).drop i) ∧ (ws = [] → N = 0 ∧ prev = 0 ∧ num = 0 ∧ ah = 0) ∧ (ws ≠ [] → (N : Int) = num + 1 ∧ (prev : Int) = ah) ∧ ∀ p ∈ (zs.map Prod.snd).drop i, prev ≤ p.1.toNat)
        ⟨[], [], 0, 0, 0, 0, none, none, rfl, (grow n1).trans (s12.trans (grow n4)), ?_, upd_same, fun x hx => (pk x (pm.mem_iff.mp hx)).keep (grow n4), .nil, rfl, ?_, fun _ => ⟨rfl, rfl, rfl, rfl⟩, fun z => absurd rfl z, fun _ _ => Nat.zero_le _⟩ (fun i σ H' _ k => ?_) (fun i x σ H4 hx k => ?_) (fun σ H4 k => ?_)⟩
      · exact grow n4 _ _ h31
      · rw [List.nil_append, List.drop_zero, es]
        rfl
      · obtain ⟨_, _, _, _, _, _, _, _, _, _, _, hp, _⟩ := k
        exact SqL.of hp
      · obtain ⟨ws, done, N, prev, num, ah, y4, y5, rfl, s4, h41, h44, pr4, al4, ld, ew, em, ne, pvs⟩ := k
        obtain ⟨z, hz, rfl⟩ : ∃ z, zs[i]? = some z ∧ x = z.1 := by
          rw [List.getElem?_map] at hx
          obtain ⟨z, h1, h2⟩ := Option.map_eq_some_iff.mp hx
          exact ⟨z, h1, h2.symm⟩
        have mz : z ∈ zs := List.mem_of_getElem? hz
        obtain ⟨t5, e5, h5⟩ := pr4 z mz
        obtain ⟨zv, l, b⟩ := z
        dsimp only at e5 h5 ⊢
        subst e5
        have ml : (l, b) ∈ ls := by
          have : (l, b) ∈ ls.mergeSort pLe := by rw [← es]; exact List.mem_map.mpr ⟨_, mz, rfl⟩
          exact (srt_perm ls).mem_iff.mp this
        have l30 := fn.lng _ ml
        dsimp only at l30
        have ed : (zs.map Prod.snd).drop i = (l, b) :: (zs.map Prod.snd).drop (i + 1) := by
          have hi : i < (zs.map Prod.snd).length := by rw [List.length_map]; exact (List.getElem?_eq_some_iff.mp hz).1
          rw [List.drop_eq_getElem_cons hi]
          congr 1
          have := (List.getElem?_eq_some_iff.mp hz).2
          rw [List.getElem_map, this]
        rw [ed, wordsFrom] at ew
        have mw : (l.toNat, N * 2 ^ (l.toNat - prev), b) ∈ wds ls := by rw [ew]; exact List.mem_append_right _ List.mem_cons_self
        obtain ⟨w1, w2, w3⟩ := wds_fit fn _ mw
        dsimp only at w1 w2 w3
        have pv : prev ≤ l.toNat := pvs (l, b) (by rw [ed]; exact List.mem_cons_self)
        have upz : ∀ p ∈ (zs.map Prod.snd).drop (i + 1), l.toNat ≤ p.1.toNat := by
          have pw := (srt_up ls).sublist (List.drop_sublist i (ls.mergeSort pLe))
          rw [← es, ed] at pw
          exact (List.pairwise_cons.mp pw).1
        have lws : ws.length = i := by rw [al4.length, ld]
        have iz : i < zs.length := (List.getElem?_eq_some_iff.mp hz).1
        have pw30 : 2 ^ l.toNat ≤ 2 ^ 30 := Nat.pow_le_pow_right (by decide) w2
        refine ⟨t5, _, rfl, h5, rfl, _, _, rfl, _, _, rfl, rfl, ?_⟩
        refine seq_by (t := tIfS _ _ _) (fun σ H' => σ = [some (.ref D), some (.ref p1), some (.int ((N * 2 ^ (l.toNat - prev) : Nat) : Int)), some (.int ah), some (.int l), some (.int b)] ∧ H' = H4) (fun σ H5 k => ?_) (fun nx => ?_)
        · obtain ⟨rfl, rfl⟩ := k
          refine ⟨_, rfl, .inl ⟨rfl, _, SqL.of h41⟩, _, rfl, _, rfl, _, rfl, three, fun H6 q6 s6 h6 => ⟨p1, ws, _, rfl, rfl, s6 _ _ h41, by rw [sizeLine_eq]; omega, ?_⟩⟩
          have w6 : Wr H6 p1 := Wr.lst (s6 _ _ h41)
          refine ⟨_, rfl, ws ++ [.ref q6], done ++ [(l.toNat, N * 2 ^ (l.toNat - prev), b)], N * 2 ^ (l.toNat - prev) + 1, l.toNat, _, _, _, _, rfl, keep_new (s4.trans s6) n1, upd_same, ?_, fun x hx => ((pr4 x hx).keep s6).over w6, ?_, by rw [List.length_append, ld]; rfl, ?_, fun z => absurd z (by simp), fun _ => ⟨by omega, by omega⟩, upz⟩
          · rw [upd_ne np]
            exact s6 _ _ h44
          · refine Al2.snoc (R := fun w y => Tr K w y (upd H6 p1 (.lst (ws ++ [.ref q6])))) ⟨q6, rfl, ?_⟩ (al4.mono fun w y k => (k.keep s6).over w6)
            have el : ((l.toNat : Nat) : Int) = l := by omega
            dsimp only
            rw [el]
            exact overT w6 h6
          · rw [ew, List.append_assoc]
            rfl
        · refine ⟨_, rfl, _, .inl ⟨_, SqL.of h41, rfl⟩, ?_⟩
          cases ws with
          | nil =>
            obtain ⟨a1, a2, a3, a4⟩ := em rfl
            refine iteF (nx _ _ ⟨?_, rfl⟩)
            rw [a1, a3, Nat.zero_mul]
            rfl
          | cons y0 ys0 =>
            obtain ⟨a1, a2⟩ := ne (by simp)
            refine iteT ⟨_, rfl, _, _, rfl, rfl, _, rfl, _, rfl, _, _, rfl, rfl, _, _, rfl, rfl, ⟨by omega, by omega, ?_⟩, ?_⟩
            · rw [← a1]
              have : N ≤ N * 2 ^ (l.toNat - prev) := Nat.le_mul_of_pos_right _ (Nat.pow_pos (by decide))
              have : ((N : Nat) : Int).natAbs = N := by omega
              rw [this]
              have : (2 : Nat) ^ 30 ≤ 2 ^ 64 := by decide
              omega
            · refine nx _ _ ⟨?_, rfl⟩
              have e9 : (l - ah).toNat = l.toNat - prev := by omega
              have e10 : V.int ((num + 1) * 2 ^ (l - ah).toNat) = V.int ((N * 2 ^ (l.toNat - prev) : Nat) : Int) := by
                rw [e9, ← a1, Int.natCast_mul, Int.natCast_pow]
                rfl
              show [_, _, some (V.int ((num + 1) * 2 ^ (l - ah).toNat)), _, _, _] = _
              rw [e10]
      · obtain ⟨ws, done, N, prev, num, ah, y4, y5, rfl, s4, h41, h44, pr4, al4, ld, ew, em, ne, pvs⟩ := k
        have e6 : (zs.map Prod.snd).drop (zs.map Prod.fst).length = [] := List.drop_eq_nil_of_le (by rw [List.length_map, List.length_map]; exact Nat.le_refl _)
        rw [e6] at ew
        have e7 : wds ls = done := by rw [ew]; exact List.append_nil _
        refine ⟨_, rfl, q _ _ ws s4 h41 ?_⟩
        rw [e7]
        exact al4
/-! ### a word read -/
def dW (W : List Wd) : List (List Key × V) := W.map fun w => ([Sum.inl (w.1 : Int), Sum.inl (w.2.1 : Int)], V.int w.2.2)
theorem dW_get (W : List Wd) (l n : Nat) : valV (dW W) [Sum.inl (l : Int), Sum.inl (n : Int)] = (findW W l n).map V.int := by
  induction W with
  | nil => rfl
  | cons w W ih =>
    unfold valV at ih ⊢
    show Option.map _ (List.find? _ (([Sum.inl (w.1 : Int), Sum.inl (w.2.1 : Int)], V.int w.2.2) :: dW W)) = _
    unfold findW at ih ⊢
    by_cases c : w.1 = l ∧ w.2.1 = n
    · rw [List.find?_cons_of_pos (by simp [c.1, c.2]), List.find?_cons_of_pos (by rw [decide_eq_true_eq]; exact c)]
      rfl
    · rw [List.find?_cons_of_neg (by
        simp only [decide_eq_true_eq]
        intro z
        simp only [List.cons.injEq, Sum.inl.injEq, and_true] at z
        exact c ⟨by omega, by omega⟩), List.find?_cons_of_neg (by rw [decide_eq_true_eq]; exact c)]
      exact ih
def spRW (K : PySem.W.Frag) (cB : Addr) : Sp := fun vs H Q E => ∃ (D p : Addr) (W : List Wd) (S : List Int) (p1 q : Nat), vs = [.ref D, .ref p, .int ((8 * p1 + q : Nat) : Int)] ∧ H D = some (.dT (dW W)) ∧ SqT K H p (S.map V.int) ∧ S.length ≤ 1000 ∧ p1 ≤ S.length ∧ q ≤ 8 * (S.length - p1) ∧ (∀ w ∈ W, w.1 ≤ 30) ∧
  (∀ b q', Rd1 W (bitsOf (S.drop p1)) q 0 0 b q' → ∀ H' t, Same H H' → SqT K H' t [.int b, .int ((8 * p1 + q' : Nat) : Int)] → Q (.ref t) H') ∧ ((∀ b q', ¬ Rd1 W (bitsOf (S.drop p1)) q 0 0 b q') → ∀ H', Same H H' → E (.ref cB) none H')
def wRW (H : Hp) (D p : Addr) (W : List Wd) (B : List Int) (pl q : Nat) (m : Nat) (σ : L2.St) (H' : Hp) : Prop :=
  ∃ (l n : Nat), σ = [some (.ref D), some (.ref p), some (.int (pl : Int)), some (.int (l : Int)), some (.int (n : Int))] ∧ Same H H' ∧ m = 30 - l ∧ l ≤ 30 ∧ n < 2 ^ l ∧ q + l ≤ B.length ∧ ∀ b q', Rd1 W B q 0 0 b q' ↔ Rd1 W B (q + l) l n b q'
theorem ok_rw {f : Addr} {fd : FuncData} (Ev : Env K mg) (Ex : Excs K mg e_Cut e_BadForm) (CBitAt : CalX P w K mg base "bit_at" 1 ["some", "place"] (spBit K e_BadForm)) (F : Fun K "read_word" "read_word" sReadWord f fd) : FnOk P w K mg base (L2.CX P w) 2 f fd ["words", "some", "place"] (spRW K e_BadForm) := by
  refine F.okX scReadWord (fun vs H Q E h => ?_) (fun cdv A outer s H vs Q E hr h => ?_)
  · obtain ⟨D, p, W, S, p1, q, rfl, _⟩ := h; rfl
  · obtain ⟨D, p, W, S, p1, q, rfl, hD, hp, few, p1l, ql, w30, qy, qn⟩ := h
    refine ⟨_, (pss_cons (ps_set (i := 3) scReadWord.nd rfl (.inl rfl) pe_int)
      (pss_cons (ps_set (i := 4) scReadWord.nd rfl (.inl rfl) pe_int)
      (pss_cons (ps_while (passes_of rfl) (pt_cmp (pc_dnotin (hu1 hr) (pe_tup (pa_cons (pv 3) (pa_cons (pv 4) pa_nil))) (pv 0)))
        (pss_cons (ps_if (pt_cmpR op_eq (pv 3) (pe_globI (by rfl) Ev.g_LONGEST_WORD) (nomark _))
          (pss_one (ps_raiseC (W := fun cls d _ H => E cls d H) rfl (takes_of rfl rfl rfl rfl) Ex.BadForm))
          pss_nil)
        (pss_cons (ps_set (i := 4) scReadWord.nd rfl (.inl rfl) (pe_op op_add (pe_op op_mul (pv 4) pe_int) (pe_cx (E := E) CBitAt (hr.mono (by omega)) (takes_of rfl rfl rfl rfl) (pa_cons (pv 1) (pa_cons (pe_op op_add (pv 2) (pv 3)) pa_nil)))))
        (pss_one (ps_aug (i := 3) scReadWord.nd rfl (.inl rfl) pe_int ip_add)))))
      (pss_one (ps_ret (pe_tupU (pa_cons (pe_dget (hu1 hr) (pv 0) (pe_tup (pa_cons (pv 3) (pa_cons (pv 4) pa_nil))) (fun _ _ => rfl)) (pa_cons (pe_op op_add (pv 2) (pv 3)) pa_nil)))))))), ?_⟩
    have two : (2 : Nat) ≤ sizeLine := by rw [sizeLine_eq]; decide
    have lB : (bitsOf (S.drop p1)).length = 8 * (S.length - p1) := by rw [bitsOf_len, List.length_drop]
    refine ⟨wRW H D p W (bitsOf (S.drop p1)) (8 * p1 + q) q, ⟨_, 0, 0, rfl, Same.refl _, rfl, by decide, by decide, by omega, fun b q' => Iff.rfl⟩, fun m σ H' hW => ?_⟩
    obtain ⟨l, n, rfl, s1, rfl, l30, nl, ql2, same⟩ := hW
    refine ⟨_, rfl, _, rfl, two, fun t1 n1 => ?_⟩
    have s2 : Same H (upd H' t1 (.tup [.int (l : Int), .int (n : Int)])) := s1.trans (grow n1)
    have g2 := DGet.t (k := [Sum.inl (l : Int), Sum.inl (n : Int)]) (s2 _ _ hD) (upd_same : (upd H' t1 (.tup [.int (l : Int), .int (n : Int)])) t1 = _)
    rw [dW_get] at g2
    refine ⟨_, rfl, D, _, rfl, g2, _, rfl, ?_⟩
    cases e : findW W l n with
    | some b =>
      rw [e] at g2
      refine iteF ?_
      refine ⟨_, rfl, _, rfl, _, rfl, two, fun t3 n3 => ?_⟩
      have s3 := s2.trans (grow (o := .tup [.int (l : Int), .int (n : Int)]) n3)
      have g3 := DGet.t (k := [Sum.inl (l : Int), Sum.inl (n : Int)]) (s3 _ _ hD) upd_same
      rw [dW_get, e] at g3
      have ep : ((8 * p1 + q : Nat) : Int) + (l : Int) = ((8 * p1 + (q + l) : Nat) : Int) := by omega
      refine ⟨D, .int b, rfl, g3, _, rfl, _, rfl, _, _, rfl, rfl, two, fun H4 t4 s4 h4 => ?_⟩
      dsimp only at h4
      rw [ep] at h4
      exact qy b (q + l) ((same b (q + l)).2 (.hit e)) _ _ (s3.trans s4) h4
    | none =>
      refine iteT ?_
      refine ⟨fun σ' H'' => ∃ m', m' < 30 - l ∧ wRW H D p W (bitsOf (S.drop p1)) (8 * p1 + q) q m' σ' H'', fun σ' H'' h => h, ?_⟩
      refine ⟨_, rfl, rfl, _, rfl, ite2 (fun y => ?_) (fun y => ?_)⟩
      · have y30 : l = 30 := by
          have := V.int.inj (of_decide_eq_true y)
          omega
        refine qn (fun b q' k => ?_) _ s2
        have k2 := (same b q').1 k
        cases k2 with
        | hit z => rw [e] at z; cases z
        | step _ _ k3 =>
          obtain ⟨w, hw, lw⟩ := k3.long
          have := w30 w hw
          omega
      · have l29 : l < 30 := by
          have : ¬ (l : Int) = 30 := fun z => y (decide_eq_true (congrArg V.int z))
          omega
        have ep : ((8 * p1 + q : Nat) : Int) + (l : Int) = ((8 * p1 + (q + l) : Nat) : Int) := by omega
        refine ⟨_, rfl, _, _, rfl, rfl, .inr ⟨by decide, by decide⟩, _, rfl, _, rfl, _, rfl, _, _, rfl, rfl, p, S, 8 * p1 + (q + l), (by show [V.ref p, V.int (((8 * p1 + q : Nat) : Int) + (l : Int))] = _; rw [ep]), keepT s2 hp, by omega, fun H3 s3 => ⟨fun lt => ?_, fun nlt => ?_⟩⟩
        · have b01 := bitAt_01 S (8 * p1 + (q + l))
          have gb : (bitsOf (S.drop p1))[q + l]? = some (bitAt S (8 * p1 + (q + l))) := by
            rw [bitsOf_get (by rw [List.length_drop]; omega), bitAt_drop]
          refine ⟨_, _, rfl, rfl, _, rfl, _, _, rfl, rfl, 30 - (l + 1), by omega, l + 1, n * 2 + (bitAt S (8 * p1 + (q + l))).toNat, ?_, s2.trans s3, rfl, l29, ?_, by omega, fun b q' => ?_⟩
          · show [_, _, _, some (V.int ((l : Int) + 1)), some (V.int ((n : Int) * 2 + bitAt S (8 * p1 + (q + l))))] = _
            have e1 : (l : Int) + 1 = ((l + 1 : Nat) : Int) := by omega
            have e2 : (n : Int) * 2 + bitAt S (8 * p1 + (q + l)) = ((n * 2 + (bitAt S (8 * p1 + (q + l))).toNat : Nat) : Int) := by omega
            rw [e1, e2]
          · rw [Nat.pow_succ]
            omega
          · rw [same b q']
            constructor
            · intro k
              cases k with
              | hit z => rw [e] at z; cases z
              | step _ x k3 =>
                rw [gb] at x
                cases x
                exact k3
            · intro k
              exact .step e gb k
        · refine qn (fun b q' k => ?_) _ (s2.trans s3)
          have k2 := (same b q').1 k
          cases k2 with
          | hit z => rw [e] at z; cases z
          | step _ x _ =>
            have := (List.getElem?_eq_some_iff.mp x).1
            omega

/-! ### the head read -/
def spRL (K : PySem.W.Frag) (cB : Addr) : Sp := fun vs H Q E => ∃ (p : Addr) (S : List Int), vs = [.ref p] ∧ SqT K H p (S.map V.int) ∧ Byt S ∧ S.length ≤ 900 ∧
  (∀ m p0, Pre S m p0 → ∀ H' t D, Same H H' → H D = none → H' D = some (.dK (dL (lsA S p0 m))) → SqT K H' t [.ref D, .int ((p0 + 2 * m : Nat) : Int)] → Q (.ref t) H') ∧ ((∀ m p0, ¬ Pre S m p0) → ∀ H', Same H H' → E (.ref cB) none H')
def wRL (H : Hp) (p D : Addr) (S : List Int) (many p0 : Nat) (m : Nat) (σ : L2.St) (H' : Hp) : Prop :=
  ∃ (j : Nat) (last : Int) (y5 : Option V), σ = [some (.ref p), some (.ref D), some (.int last), some (.int (many : Int)), some (.int ((p0 + 2 * j : Nat) : Int)), y5] ∧ Same H H' ∧ H D = none ∧ H' D = some (.dK (dL (lsA S p0 j))) ∧ m = 300 - j ∧ j ≤ many ∧ p0 + 2 * j ≤ S.length ∧ ((lsA S p0 j).map (·.2)).Pairwise (· < ·) ∧ (∀ x ∈ lsA S p0 j, x.2 ≤ last) ∧ -1 ≤ last ∧ (∀ j', j = j' + 1 → last = S.getD (p0 + 2 * j') 0) ∧ (j = 0 → last = -1)
theorem sm_none {H H' : Hp} {d : Addr} (s : Same H H') (n : H' d = none) : H d = none := by
  cases e : H d with
  | none => rfl
  | some o =>
    rcases nt_or o with k | ⟨ps, rfl⟩
    · have := s.get d o e k
      rw [n] at this
      cases this
    · obtain ⟨ps', h, _⟩ := s.tab d ps e
      rw [n] at h
      cases h
theorem getD_at {S : List Int} {k : Nat} {x : Int} (h : S[k]? = some x) : S.getD k 0 = x := by rw [List.getD_eq_getElem?_getD, h]; rfl
theorem ok_rl {f : Addr} {fd : FuncData} (Ev : Env K mg) (Ex : Excs K mg e_Cut e_BadForm) (CReadHeadNumber : CalX P w K mg base "read_head_number" 3 ["some", "at"] (spHN K e_BadForm)) (CReadHeadByte : CalX P w K mg base "read_head_byte" 3 ["some", "at"] (spHB K e_BadForm)) (F : Fun K "read_lengths" "read_lengths" sReadLengths f fd) : FnOk P w K mg base (L2.CX P w) 4 f fd ["some"] (spRL K e_BadForm) := by
  refine F.okX scReadLengths (fun vs H Q E h => ?_) (fun cdv A outer s H vs Q E hr h => ?_)
  · obtain ⟨p, S, rfl, _⟩ := h; rfl
  · obtain ⟨p, S, rfl, hp, hby, few, qy, qn⟩ := h
    refine ⟨_, (pss_cons (ps_asg (pe_cx (E := E) CReadHeadNumber (hr.mono (by omega)) (takes_of rfl rfl rfl rfl) (pa_cons (pv 0) (pa_cons pe_int pa_nil))) (pg_tup (by rfl) (pgs_cons (pg_name (i := 3) scReadLengths.nd rfl (.inl rfl)) (pgs_cons (pg_name (i := 4) scReadLengths.nd rfl (.inl rfl)) pgs_nil))))
      (pss_cons (ps_set (i := 1) scReadLengths.nd rfl (.inl rfl) pe_dnewK)
      (pss_cons (ps_set (i := 2) scReadLengths.nd rfl (.inl rfl) (pe_un un_neg pe_int))
      (pss_cons (ps_while (passes_of rfl) (pt_cmpR op_lt (pe_callB call_lenD (by rfl) Ev.b_len PySem.boot_len (pa_cons (pv 1) pa_nil)) (pv 3) (nomark _))
        (pss_cons (ps_asg (pe_cx (E := E) CReadHeadByte (hr.mono (by omega)) (takes_of rfl rfl rfl rfl) (pa_cons (pv 0) (pa_cons (pv 4) pa_nil))) (pg_tup (by rfl) (pgs_cons (pg_name (i := 5) scReadLengths.nd rfl (.inl rfl)) (pgs_cons (pg_name (i := 4) scReadLengths.nd rfl (.inl rfl)) pgs_nil))))
        (pss_cons (ps_if (pt_cmpR op_le (pv 5) (pv 2) (nomark _))
          (pss_one (ps_raiseC (W := fun cls d _ H => E cls d H) rfl (takes_of rfl rfl rfl rfl) Ex.BadForm))
          pss_nil)
        (pss_cons (ps_asg (pe_cx (E := E) CReadHeadByte (hr.mono (by omega)) (takes_of rfl rfl rfl rfl) (pa_cons (pv 0) (pa_cons (pv 4) pa_nil))) (pg_tup (by rfl) (pgs_cons (pg_sub (pv 1) (pv 5) (set_dict (hu1 hr))) (pgs_cons (pg_name (i := 4) scReadLengths.nd rfl (.inl rfl)) pgs_nil))))
        (pss_one (ps_set (i := 2) scReadLengths.nd rfl (.inl rfl) (pv 5)))))))
      (pss_one (ps_ret (pe_tupU (pa_cons (pv 1) (pa_cons (pv 4) pa_nil))))))))), ?_⟩
    have two : (2 : Nat) ≤ sizeLine := by rw [sizeLine_eq]; decide
    refine ⟨_, rfl, p, S, 0, rfl, hp, hby, ?_⟩
    cases r : resOf S 0 with
    | cut => exact qn (fun m p0 k => by have := k.r; rw [r] at this; cases this) _ (Same.refl _)
    | bad => exact qn (fun m p0 k => by have := k.r; rw [r] at this; cases this) _ (Same.refl _)
    | ok n0 p0 => ?_
    obtain ⟨lp0, up0, n00⟩ := res_lt r
    obtain ⟨many, rfl⟩ := Int.eq_ofNat_of_zero_le n00
    have same : ∀ {m' p'}, Pre S m' p' → m' = many ∧ p' = p0 := fun {m' p'} k => by
      have e := k.r
      rw [r] at e
      injection e with e1 e2
      exact ⟨(Int.ofNat.inj e1).symm, e2.symm⟩
    refine fun H1 t1 s1 h1 => ⟨t1, _, rfl, h1, rfl, _, _, rfl, _, _, rfl, rfl, ?_⟩
    refine fun D nD => ?_
    refine ⟨_, rfl, ?_⟩
    refine ⟨wRL H p D S many p0, ⟨_, 0, -1, none, rfl, s1.trans (grow nD), sm_none s1 nD, upd_same, rfl, Nat.zero_le _, by omega, .nil, (fun x hx => nomatch hx), by decide, (fun j' z => by omega), fun _ => rfl⟩, fun m σ H' hW => ?_⟩
    obtain ⟨j, last, y5, rfl, s2, nD0, hD, rfl, jm, jl, ris, top, lo, lst, l0⟩ := hW
    have lkv : (dL (lsA S p0 j)).length = j := by unfold dL; rw [List.length_map, lsA_len]
    have bys : ∀ i, i < j → 0 ≤ S.getD (p0 + 2 * i) 0 ∧ S.getD (p0 + 2 * i) 0 < 256 := fun i hi => by
      have lt : p0 + 2 * i < S.length := by omega
      rw [getD_at (List.getElem?_eq_getElem lt)]
      exact hby _ (List.getElem_mem lt)
    have j256 : j ≤ 256 := by
      have := rise_few _ 0 256 ris (fun b hb => by
        obtain ⟨x, hx, rfl⟩ := List.mem_map.mp hb
        unfold lsA at hx
        obtain ⟨i, hi, rfl⟩ := List.mem_map.mp hx
        exact bys i (List.mem_range.mp hi)) (by decide)
      rw [List.length_map, lsA_len] at this
      omega
    refine ⟨_, rfl, D, _, rfl, hD, _, rfl, _, _, rfl, rfl, _, rfl, ?_⟩
    rw [lkv]
    refine ite2 (fun z => ?_) (fun z => ?_)
    · have jlt : j < many := by
        have := of_decide_eq_true z
        omega
      refine ⟨fun σ' H'' => ∃ m', m' < 300 - j ∧ wRL H p D S many p0 m' σ' H'', fun σ' H'' h => h, ?_⟩
      refine ⟨_, rfl, _, rfl, p, S, p0 + 2 * j, rfl, keepT s2 hp, by omega, fun x hx => ?_, fun hn => ?_⟩
      case refine_2 =>
        refine qn (fun m' p' k => ?_) _ s2
        obtain ⟨rfl, rfl⟩ := same k
        have := k.len
        have := List.getElem?_eq_none_iff.mp hn
        omega
      have ex := getD_at hx
      have bx := hby x (List.mem_of_getElem? hx)
      refine fun H3 t3 s3 h3 => ⟨t3, _, rfl, h3, rfl, _, _, rfl, _, _, rfl, rfl, ?_⟩
      have s23 := s2.trans s3
      refine ⟨_, rfl, _, rfl, _, _, rfl, rfl, _, rfl, ite2 (fun y => ?_) (fun y => ?_)⟩
      · have y' : x ≤ last := of_decide_eq_true y
        refine qn (fun m' p' k => ?_) _ s23
        obtain ⟨rfl, rfl⟩ := same k
        cases j with
        | zero =>
          have := l0 rfl
          omega
        | succ j' =>
          have := k.up (i := j') (k := j' + 1) (by omega) jlt
          have := lst j' rfl
          omega
      have y' : last < x := by
        have : ¬ x ≤ last := fun v => y (decide_eq_true v)
        omega
      refine ⟨_, rfl, _, rfl, p, S, p0 + 2 * j + 1, rfl, keepT s23 hp, by omega, fun l hl => ?_, fun hn => ?_⟩
      case refine_2 =>
        refine qn (fun m' p' k => ?_) _ s23
        obtain ⟨rfl, rfl⟩ := same k
        have := k.len
        have := List.getElem?_eq_none_iff.mp hn
        omega
      have el := getD_at hl
      have lt2 : p0 + 2 * j + 1 < S.length := (List.getElem?_eq_some_iff.mp hl).1
      refine fun H4 t4 s4 h4 => ⟨t4, _, rfl, h4, rfl, _, _, rfl, ?_⟩
      have hD4 : H4 D = some (.dK (dL (lsA S p0 j))) := s4 _ _ (s3 _ _ hD)
      have new : ∀ q ∈ lsA S p0 j, q.2 ≠ x := fun q hq z => by
        have := top q hq
        omega
      have eP : putK (dL (lsA S p0 j)) (Sum.inl x) (V.int l) = dL (lsA S p0 (j + 1)) := by rw [dL_put new, lsA_succ, ex, el]
      have g := DPut.k (k := Sum.inl x) (v := V.int l) hD4 (by rw [lkv, sizeLine_eq]; omega)
      rw [eP] at g
      refine ⟨_, rfl, _, rfl, D, _, rfl, g, _, _, rfl, rfl, ?_⟩
      refine ⟨_, rfl, 300 - (j + 1), by omega, j + 1, x, some (.int x), ?_, keep_new (s23.trans s4) nD0, nD0, upd_same, rfl, jlt, by omega, ?_, fun q hq => ?_, by omega, fun j' e => ?_, fun z => by omega⟩
      · have e9 : ((p0 + 2 * j + 1 + 1 : Nat) : Int) = ((p0 + 2 * (j + 1) : Nat) : Int) := by omega
        rw [← e9]
        rfl
      · rw [lsA_succ, List.map_append, List.pairwise_append]
        refine ⟨ris, List.pairwise_singleton _ _, fun a ha b hb => ?_⟩
        obtain ⟨q, hq, rfl⟩ := List.mem_map.mp ha
        have e1 : b = x := by
          rw [List.map_cons, List.map_nil, List.mem_singleton] at hb
          rw [hb]
          exact ex
        have := top q hq
        rw [e1]
        omega
      · rw [lsA_succ] at hq
        rcases List.mem_append.mp hq with k | k
        · have := top q k
          omega
        · rw [List.mem_singleton.mp k]
          show S.getD (p0 + 2 * j) 0 ≤ x
          omega
      · have : j' = j := by omega
        rw [this, ex]
    · have je : j = many := by
        have : ¬ (j : Int) < (many : Int) := fun v => z (decide_eq_true v)
        omega
      subst je
      exact ⟨_, rfl, _, rfl, two, fun H5 t5 s5 h5 => qy j p0 ⟨r, jl, ris⟩ _ _ D (s2.trans s5) nD0 (s5 _ _ hD) h5⟩
/-! ### the lengths checked -/
def Sound (ls : List (Int × Int)) : Prop := (∀ p ∈ ls, 1 ≤ p.1 ∧ p.1 ≤ 30) ∧ (ls.length = 1 → ∀ p ∈ ls, p.1 = 1) ∧ (1 < ls.length → kraft ls = 2 ^ 30)
/-- all but d stays -/
def ButD (d : Addr) (H H' : Hp) : Prop := ∀ G, Same G H → G d = none → Same G H'
def spCL (K : PySem.W.Frag) (tbs : List Addr) (cB : Addr) : Sp := fun vs H Q E => ∃ (D : Addr) (ls : List (Int × Int)), vs = [.ref D] ∧ H D = some (.dK (dL ls)) ∧ (ls.map (·.2)).Nodup ∧ (∀ p ∈ ls, 0 ≤ p.1 ∧ p.1 < 256) ∧ ls.length ≤ 300 ∧ Tabs tbs H ∧ (Sound ls → ∀ H', Same H H' → Q .non H') ∧ (¬ Sound ls → ∀ H', ButD D H H' → E (.ref cB) none H')
theorem kraft_sum : ∀ (ls : List (Int × Int)), (∀ p ∈ ls, 0 ≤ p.1 ∧ p.1 ≤ 30) → ((List.range ls.length).map fun i => (2 : Int) ^ (30 - (ls.getD i (1, 0)).1).toNat).sum = ((kraft ls : Nat) : Int)
  | [], _ => rfl
  | p :: ls, h => by
    have h1 := h p List.mem_cons_self
    have ih := kraft_sum ls fun q hq => h q (List.mem_cons_of_mem _ hq)
    rw [List.length_cons, List.range_succ_eq_map, List.map_cons, List.map_map, List.sum_cons]
    have e1 : ((fun i => (2 : Int) ^ (30 - ((p :: ls).getD i (1, 0)).1).toNat) ∘ Nat.succ) = fun i => (2 : Int) ^ (30 - (ls.getD i (1, 0)).1).toNat := rfl
    rw [e1, ih]
    unfold kraft
    rw [List.map_cons, List.sum_cons, Int.natCast_add, Int.natCast_pow]
    have e2 : (30 - p.1).toNat = 30 - p.1.toNat := by omega
    show (2 : Int) ^ (30 - p.1).toNat + _ = _
    rw [e2]
    rfl
theorem ok_cl {f : Addr} {fd : FuncData} {c pp : Addr} {tb : List Addr} (Ev : Env K mg) (TB : GxR.TabB base mg c pp) (hpp : pp ∈ tb) (Ex : Excs K mg e_Cut e_BadForm) (F : FunC K "check_lengths" "check_lengths" sCheckLengths f fd c) : FnOk P w K mg base (L2.CX P w) 3 f fd ["lengths"] (spCL K tb e_BadForm) := by
  refine F.okX scCheckLengths (fun vs H Q E h => ?_) (fun A outer s H vs Q E hr h => ?_)
  · obtain ⟨D, ls, rfl, _⟩ := h; rfl
  · obtain ⟨D, ls, rfl, hD, nd, byt, few, tabs, qy, qn⟩ := h
    refine ⟨_, (pss_cons (ps_lock (ps_for (passes_of rfl) rfl (pi_keys (pv 0)) (pg_name (i := 1) scCheckLengths.nd rfl (.inl rfl))
        (pss_one (ps_if (PW.pt (pw_or (pt_cmpR op_lt (pe_dget (hu1 hr) (pv 0) (pv 1) (fun _ _ => rfl)) pe_int (nomark _)) (pw_or1 (pt_cmpR op_gt (pe_dget (hu1 hr) (pv 0) (pv 1) (fun _ _ => rfl)) (pe_globI (by rfl) Ev.g_LONGEST_WORD) (nomark _)))))
          (pss_one (ps_raiseC (W := fun cls d _ H => E cls d H) rfl (takes_of rfl rfl rfl rfl) Ex.BadForm))
          pss_nil))))
      (pss_cons (ps_if (PW.pt (pw_and (pt_cmpR op_eq (pe_callB call_lenD (by rfl) Ev.b_len PySem.boot_len (pa_cons (pv 0) pa_nil)) pe_int (nomark _)) (pw_and1 (pt_cmpR op_ne (pe_callB (cr_maxVals rfl) (by rfl) Ev.b_max (by decide +kernel) (pa_cons (pe_bm0 PySem.F.plainAttrs_dict PySem.F.slot_dict_values PySem.F.type_dict_values mt_values (pv 0)) pa_nil)) pe_int (nomark _)))))
        (pss_one (ps_raiseC (W := fun cls d _ H => E cls d H) rfl (takes_of rfl rfl rfl rfl) Ex.BadForm))
        pss_nil)
      (pss_cons (ps_set (i := 2) scCheckLengths.nd rfl (.inl rfl) (pe_lock (pe_sumG (own := [("byte", 1)]) (g := gName 1) (tt := tYes) (k := 0) (hr.mono (by omega)) (by rfl) Ev.b_sum (by decide +kernel) TB rfl scCheckLengths.nd (blkOk_by (own := [("byte", 1)]) (N := nCheckLengths) (sc := defScope sCheckLengths) (by decide +kernel)) ⟨rfl, by decide, rfl⟩ (pi_keys (pv 0)) (fun _ _ _ _ _ _ _ => (pg_name (i := 1) scCheckLengths.nd rfl (.inl rfl))) (fun _ _ _ _ _ _ _ hr => pts_nil) (fun _ _ _ _ _ _ _ hr => (pe_op op_shl pe_int (pe_op op_sub (pe_globI (by rfl) Ev.g_LONGEST_WORD) (pe_dget (hu1 hr) (pv 0) (pv 1) (fun _ _ => rfl))))) (by intro _; rfl))))
      (pss_one (ps_if (PW.pt (pw_and (pt_cmpR op_gt (pe_callB call_lenD (by rfl) Ev.b_len PySem.boot_len (pa_cons (pv 0) pa_nil)) pe_int (nomark _)) (pw_and1 (pt_cmpR op_ne (pv 2) (pe_op op_shl pe_int (pe_globI (by rfl) Ev.g_LONGEST_WORD)) (nomark _)))))
        (pss_one (ps_raiseC (W := fun cls d _ H => E cls d H) rfl (takes_of rfl rfl rfl rfl) Ex.BadForm))
        pss_nil))))), ?_⟩
    refine ⟨D, .dK (dL ls), hD, trivial, fun od => ?_⟩
    have lkv : (dL ls).length = ls.length := by unfold dL; rw [List.length_map]
    have bL : ButD D H (upd H D (.frz od (.dK (dL ls)))) := fun G s n => sm_lock s n (NC.of hD trivial)
    refine ⟨_, rfl, D, od, rfl, .inl ⟨dL ls, upd_same, for_it (walk_keys (d := D) (o := od) (kvs := dL ls)) (fun i σ H' => ∃ y1, σ = [some (.ref D), y1, none] ∧ H' = upd H D (.frz od (.dK (dL ls))) ∧ ∀ k, k < i → ∀ p, ls[k]? = some p → 1 ≤ p.1 ∧ p.1 ≤ 30) ⟨none, rfl, rfl, fun k hk => by omega⟩ (fun i σ H' hi k => ?_) (fun i x σ H1 H2 hi k y => ?_) (fun σ H1 k => ?_)⟩⟩
    · obtain ⟨_, _, rfl, _⟩ := k
      exact upd_same
    · obtain ⟨y1, rfl, rfl, al⟩ := k
      obtain ⟨rfl, k, v, hk, rfl⟩ := y
      obtain ⟨p, hp, rfl, rfl⟩ := dL_at hk
      have g : ∃ kvs k, ((upd H D (.frz od (.dK (dL ls)))) D = some (.dK kvs) ∨ ∃ o, (upd H D (.frz od (.dK (dL ls)))) D = some (.frz o (.dK kvs))) ∧ kV (Sum.inl p.2) = kV k ∧ some (V.int p.1) = valV kvs k := ⟨dL ls, Sum.inl p.2, .inr ⟨od, upd_same⟩, rfl, (dL_get nd (List.mem_of_getElem? hp)).symm⟩
      have ns : ¬ (1 ≤ p.1 ∧ p.1 ≤ 30) → ¬ Sound ls := fun n s => n (s.1 p (List.mem_of_getElem? hp))
      refine ⟨_, rfl, _, rfl, D, _, rfl, .inl g, _, _, rfl, rfl, _, rfl, ite2 (fun z => ?_) (fun z => ?_)⟩
      · exact qn (ns fun k => by have := of_decide_eq_true z; omega) _ bL
      refine ⟨_, rfl, _, rfl, D, _, rfl, .inl g, _, _, rfl, rfl, _, rfl, ite2 (fun z2 => ?_) (fun z2 => ?_)⟩
      · exact qn (ns fun k => by have := of_decide_eq_true z2; omega) _ bL
      refine ⟨_, rfl, rfl, fun k hk q hq => ?_⟩
      by_cases c : k = i
      · subst c
        rw [hp] at hq
        cases hq
        have n1 : ¬ p.1 < 1 := fun v => z (decide_eq_true v)
        have n2 : ¬ 30 < p.1 := fun v => z2 (decide_eq_true v)
        omega
      · exact al k (by omega) q hq
    · obtain ⟨y1, rfl, rfl, al⟩ := k
      have lng : ∀ p ∈ ls, 1 ≤ p.1 ∧ p.1 ≤ 30 := fun p hp => by
        obtain ⟨k, hk⟩ := List.mem_iff_getElem?.mp hp
        exact al k (by rw [lkv]; exact (List.getElem?_eq_some_iff.mp hk).1) p hk
      refine ⟨upd_same, ?_⟩
      have s1 : Same H (upd (upd H D (.frz od (.dK (dL ls)))) D (.dK (dL ls))) := sm_unlock hD (Same.refl _)
      have d1 : (upd (upd H D (.frz od (.dK (dL ls)))) D (.dK (dL ls))) D = some (.dK (dL ls)) := upd_same
      generalize upd (upd H D (.frz od (.dK (dL ls)))) D (.dK (dL ls)) = H1 at s1 d1 ⊢
      have tabs1 : Tabs tb H1 := tabs.keep s1
      dsimp only
      refine seq_by (t := tIfS _ _ _) (fun σ H' => σ = [some (.ref D), y1, none] ∧ Same H H' ∧ H' D = some (.dK (dL ls)) ∧ (ls.length = 1 → ∀ p ∈ ls, p.1 = 1)) (fun σ H2 k => ?_) (fun nx => ?_)
      · obtain ⟨rfl, s2, d2, one⟩ := k
        refine ⟨D, .dK (dL ls), d2, trivial, fun od2 => ⟨_, rfl, D, od2, rfl, .inl ⟨dL ls, upd_same, ?_⟩⟩⟩
        have tl : TabN (upd H2 D (.frz od2 (.dK (dL ls)))) pp := by
          obtain ⟨⟨qs, h, ok⟩, n⟩ := (tabs.keep s2) pp hpp
          exact ⟨⟨qs, by rw [upd_ne (fun z => by rw [z, d2] at h; cases h)]; exact h, ok⟩, n⟩
        refine ⟨tl.g, fun H3 t3 => ?_⟩
        have sT := same_tab tl t3
        refine gwN_keys (walk_keys (d := D) (o := od2) (kvs := dL ls)) (fun i => (2 : Int) ^ (30 - (ls.getD i (1, 0)).1).toNat) (fun H4 s4 => (sT.trans s4) _ _ upd_same) (fun x => rfl) (fun i hi => ?_) (by omega) (fun i x H4 H5 R hi s4 y r => ?_) (fun H4 s4 => ?_)
        · constructor
          · exact Int.pow_nonneg (by decide)
          · have : (2 : Int) ^ (30 - (ls.getD i (1, 0)).1).toNat ≤ 2 ^ 40 := by
              have := Nat.pow_le_pow_right (n := 2) (by decide) (show (30 - (ls.getD i (1, 0)).1).toNat ≤ 40 by
                rw [lkv] at hi
                rw [List.getD_eq_getElem?_getD, List.getElem?_eq_getElem hi]
                have := byt _ (List.getElem_mem hi)
                show (30 - (ls[i]).1).toNat ≤ 40
                omega)
              exact_mod_cast this
            exact this
        · obtain ⟨rfl, k, v, hk, rfl⟩ := y
          obtain ⟨p, hp, rfl, rfl⟩ := dL_at hk
          have mp := List.mem_of_getElem? hp
          have lp := lng p mp
          have eg : (ls.getD i (1, 0)) = p := by rw [List.getD_eq_getElem?_getD, hp]; rfl
          refine ⟨_, rfl, _, rfl, D, _, rfl, .inl ⟨dL ls, Sum.inl p.2, .inr ⟨od2, (sT.trans s4) _ _ upd_same⟩, rfl, (dL_get nd mp).symm⟩, _, _, rfl, rfl, _, _, rfl, rfl, ⟨by omega, by omega, by decide⟩, ?_⟩
          have := r _ (Same.refl _)
          rw [eg] at this
          show R (V.int (1 * 2 ^ (30 - p.1).toNat)) _
          rw [Int.one_mul]
          exact this
        · have ek : ((List.range (dL ls).length).map fun i => (2 : Int) ^ (30 - (ls.getD i (1, 0)).1).toNat).sum = ((kraft ls : Nat) : Int) := by
            rw [lkv]
            exact kraft_sum ls fun p hp => by have := lng p hp; omega
          have sU := sT.trans s4
          refine ⟨sU _ _ upd_same, ?_⟩
          have s5 : Same H (upd H4 D (.dK (dL ls))) := s2.trans (sm_unlock d2 sU)
          have d5 : (upd H4 D (.dK (dL ls))) D = some (.dK (dL ls)) := upd_same
          generalize upd H4 D (.dK (dL ls)) = H5 at s5 d5 ⊢
          rw [ek]
          refine ⟨_, rfl, D, _, rfl, d5, _, _, rfl, rfl, _, rfl, ?_⟩
          refine ite2 (fun z => ?_) (fun z => ?_)
          · have many : 1 < ls.length := by
              have := of_decide_eq_true z
              omega
            refine ⟨_, rfl, _, _, rfl, rfl, ⟨by decide, by decide, by decide⟩, rfl, _, rfl, ite2 (fun y => ?_) (fun y => ?_)⟩
            · refine qn (fun sd => ?_) _ fun G s n => s.trans s5
              have := sd.2.2 many
              rw [this] at y
              exact absurd y (by decide)
            · refine qy ⟨lng, one, fun _ => ?_⟩ _ s5
              have y1 : V.int ((kraft ls : Nat) : Int) = V.int (1 * 2 ^ (30 : Int).toNat) := by
                by_cases c : V.int ((kraft ls : Nat) : Int) = V.int (1 * 2 ^ (30 : Int).toNat)
                · exact c
                · exact absurd (by show (!decide (V.int ((kraft ls : Nat) : Int) = V.int (1 * 2 ^ (30 : Int).toNat))) = true; rw [decide_eq_false c]; rfl) y
              have := V.int.inj y1
              have e30 : (1 : Int) * 2 ^ (30 : Int).toNat = ((2 ^ 30 : Nat) : Int) := by decide
              rw [e30] at this
              exact Int.ofNat.inj this
          · exact qy ⟨lng, one, fun m => absurd (decide_eq_true (by omega)) z⟩ _ s5
      · refine ⟨_, rfl, D, _, rfl, d1, rfl, _, rfl, ?_⟩
        refine ite2 (fun z => ?_) (fun z => ?_)
        · have l1 : ls.length = 1 := by
            have := V.int.inj (of_decide_eq_true z)
            omega
          obtain ⟨p, rfl⟩ := List.length_eq_one_iff.mp l1
          refine ⟨_, rfl, .inr (.inr (.inl ⟨rfl, .inl ⟨_, d1⟩⟩)), D, _, rfl, rfl, d1, fun v nv => ⟨v, D, _, [p.1], rfl, upd_same, grow nv _ _ d1, rfl, by simp, fun m hm _ => ?_⟩⟩
          obtain rfl := List.mem_singleton.mp hm
          refine ⟨rfl, _, rfl, ite2 (fun y => ?_) (fun y => ?_)⟩
          · refine qn (fun sd => ?_) _ fun G s n => s.trans (s1.trans (grow nv))
            have := sd.2.1 rfl p List.mem_cons_self
            rw [this] at y
            exact absurd y (by decide)
          · refine nx _ _ ⟨rfl, s1.trans (grow nv), grow nv _ _ d1, fun _ q hq => ?_⟩
            obtain rfl := List.mem_singleton.mp hq
            by_cases c : q.1 = 1
            · exact c
            · exact absurd (by rw [decide_eq_false fun z => c (V.int.inj z)]; rfl) y
        · exact nx _ _ ⟨rfl, s1, d1, fun l1 => absurd (decide_eq_true (congrArg V.int (by omega))) z⟩

/-! ### a pressed body read -/
def spBW (K : PySem.W.Frag) (tbs : List Addr) (cB : Addr) : Sp := fun vs H Q E => ∃ (p : Addr) (S : List Int), vs = [.ref p] ∧ SqT K H p (S.map V.int) ∧ Byt S ∧ S.length ≤ 900 ∧ Tabs tbs H ∧
  (∀ body, IsW S body → ∀ H' t, Same H H' → SqT K H' t (body.map V.int) → Q (.ref t) H') ∧ ((∀ body, ¬ IsW S body) → ∀ H', Same H H' → E (.ref cB) none H')
theorem dcT_words {K : PySem.W.Frag} {a : Addr} {xs : List V} {es : List Wd} {g : TG} {tk tv : TE} {vs : List Nat} {σ : L2.St} {H1 : Hp} {D : Addr} {Qd : Hp → Prop} (nD : H1 D = none) (hs : SqL K H1 a xs) (al : Al2 (fun w y => Tr K w y H1) es xs) (hz : es.length ≤ sizeLine) (nod : es.Pairwise fun v w => ¬ (v.1 = w.1 ∧ v.2.1 = w.2.1))
    (turn : ∀ (e : Wd) (x : V) (H : Hp) (R : V → V → Hp → Prop), Tr K e x H → (∀ b H', Same H H' → H' b = some (.tup [.int (e.1 : Int), .int (e.2.1 : Int)]) → R (.ref b) (.int e.2.2) H') → g x (wipe σ vs) H fun σ2 H2 => wipe σ2 vs = wipe σ vs ∧ tk σ2 H2 fun y H4 => tv σ2 H4 fun z H5 => R y z H5)
    (hd : ∀ H', Same H1 H' → H' D = some (.dT (dW es)) → Qd H') :
    ∃ W : Nat → Nat → Hp → Prop, (∃ m, W 0 m (upd H1 D (.dT []))) ∧ ∀ i m H, W i m H →
      ((Itl K a).stop i H ∧ Qd H) ∨ ((Itl K a).go i H ∧ ∃ Nx : Hp → Prop, (∀ H', Nx H' → ∃ m', m' < m ∧ W (i + 1) m' H') ∧ ∀ x H', (Itl K a).yld i H x H' → g x (wipe σ vs) H' fun σ2 H2 => wipe σ2 vs = wipe σ vs ∧
        tk σ2 H2 fun y H4 => tv σ2 H4 fun z H5 => ∃ kvs ks b, y = .ref b ∧ H5 b = some (.tup (List.map kV ks)) ∧ H5 D = some (.dT kvs) ∧ kvs.length < sizeLine ∧ Nx (upd H5 D (.dT (putK kvs ks z)))) := by
  have hl := al.length
  refine ⟨fun i m H => m = es.length - i ∧ i ≤ es.length ∧ Same H1 H ∧ H D = some (.dT (dW (es.take i))), ⟨es.length, rfl, Nat.zero_le _, grow nD, upd_same⟩, ?_⟩
  rintro i m H ⟨rfl, hi, sm, hD⟩
  have q := sm.seq hs
  by_cases lt : i < es.length
  · have lx : i < xs.length := by omega
    have he : es[i]? = some es[i] := List.getElem?_eq_getElem lt
    refine .inr ⟨⟨xs, xs[i], q, List.getElem?_eq_getElem lx⟩, fun H' => Same H1 H' ∧ H' D = some (.dT (dW (es.take (i + 1)))), fun H' p' => ⟨es.length - (i + 1), by omega, rfl, lt, p'⟩, fun x H' y => ?_⟩
    obtain ⟨e, y⟩ := y
    subst e
    have tr : Tr K es[i] x H1 := by
      obtain ⟨e', h1, h2⟩ := al.get (y xs q)
      rw [he] at h1
      cases h1
      exact h2
    refine turn es[i] x _ (fun y z H5 => ∃ kvs ks b, y = .ref b ∧ H5 b = some (.tup (List.map kV ks)) ∧ H5 D = some (.dT kvs) ∧ kvs.length < sizeLine ∧ (Same H1 (upd H5 D (.dT (putK kvs ks z))) ∧ (upd H5 D (.dT (putK kvs ks z))) D = some (.dT (dW (es.take (i + 1)))))) (tr.keep sm) fun b H4 s4 h4 => ?_
    have hD4 := s4 _ _ hD
    refine ⟨_, [Sum.inl (es[i].1 : Int), Sum.inl (es[i].2.1 : Int)], b, rfl, h4, hD4, ?_, (sm.trans s4).over nD (NC.of hD4 trivial), ?_⟩
    · unfold dW
      rw [List.length_map, List.length_take]
      omega
    · rw [upd_same, putK_new fun kv hkv z => ?_]
      · rw [List.take_add_one, he, Option.toList_some]
        unfold dW
        rw [List.map_append]
        rfl
      · unfold dW at hkv
        obtain ⟨v, hv, rfl⟩ := List.mem_map.mp hkv
        obtain ⟨k, hk, ek⟩ := List.getElem_of_mem hv
        rw [List.getElem_take] at ek
        have hk2 : k < i := by rw [List.length_take] at hk; omega
        have := List.pairwise_iff_getElem.mp nod k i (by omega) lt hk2
        rw [ek] at this
        simp only [List.cons.injEq, Sum.inl.injEq, and_true] at z
        exact this ⟨by omega, by omega⟩
  · have e : i = es.length := by omega
    rw [e, List.take_length] at hD
    exact .inl ⟨⟨xs, q, by omega⟩, hd H sm hD⟩
def wBW (H : Hp) (p Dw Bl D : Addr) (W : List Wd) (B : List Int) (p1 M : Nat) (m : Nat) (σ : L2.St) (H' : Hp) : Prop :=
  ∃ (j q : Nat) (a : List Int) (y7 : Option V), σ = [some (.ref p), some (.ref Dw), some (.ref Bl), some (.int ((8 * p1 + q : Nat) : Int)), some (.ref D), some (.int (p1 : Int)), some (.int (M : Int)), y7, none, none] ∧ Same H H' ∧ H Bl = none ∧ H' Dw = some (.dT (dW W)) ∧ Dw ≠ Bl ∧ H' Bl = some (.lst (a.map V.int)) ∧ m = M - j ∧ j ≤ M ∧ RdAll W B 0 j a q ∧ q ≤ B.length
theorem ok_bw {f : Addr} {fd : FuncData} {tb : List Addr} (Ev : Env K mg) (Ex : Excs K mg e_Cut e_BadForm) (CReadLengths : CalX P w K mg base "read_lengths" 4 ["some"] (spRL K e_BadForm)) (CCheckLengths : CalX P w K mg base "check_lengths" 3 ["lengths"] (spCL K tb e_BadForm)) (CReadHeadNumber : CalX P w K mg base "read_head_number" 3 ["some", "at"] (spHN K e_BadForm)) (CWordsOf : Cal P w K mg base "words_of" 1 ["lengths"] (spWO K)) (CReadWord : CalX P w K mg base "read_word" 2 ["words", "some", "place"] (spRW K e_BadForm)) (CCheckRest : CalX P w K mg base "check_rest" 2 ["some", "place"] (spRest K e_BadForm)) (F : Fun K "body_of_words" "body_of_words" sBodyOfWords f fd) : FnOk P w K mg base (L2.CX P w) 5 f fd ["some"] (spBW K tb e_BadForm) := by
  refine F.okX scBodyOfWords (fun vs H Q E h => ?_) (fun cdv A outer s H vs Q E hr h => ?_)
  · obtain ⟨p, S, rfl, _⟩ := h; rfl
  · obtain ⟨p, S, rfl, hp, hby, few, tabs, qy, qn⟩ := h
    refine ⟨_, (pss_cons (ps_asg (pe_cx (E := E) CReadLengths (hr.mono (by omega)) (takes_of rfl rfl rfl rfl) (pa_cons (pv 0) pa_nil)) (pg_tup (by rfl) (pgs_cons (pg_name (i := 4) scBodyOfWords.nd rfl (.inl rfl)) (pgs_cons (pg_name (i := 5) scBodyOfWords.nd rfl (.inl rfl)) pgs_nil))))
      (pss_cons (ps_expr (pe_cx (E := E) CCheckLengths (hr.mono (by omega)) (takes_of rfl rfl rfl rfl) (pa_cons (pv 4) pa_nil)))
      (pss_cons (ps_asg (pe_cx (E := E) CReadHeadNumber (hr.mono (by omega)) (takes_of rfl rfl rfl rfl) (pa_cons (pv 0) (pa_cons (pv 5) pa_nil))) (pg_tup (by rfl) (pgs_cons (pg_name (i := 6) scBodyOfWords.nd rfl (.inl rfl)) (pgs_cons (pg_name (i := 5) scBodyOfWords.nd rfl (.inl rfl)) pgs_nil))))
      (pss_cons (ps_if (pt_cmpR op_gt (pv 6) (pe_globI (by rfl) Ev.g_MOST_OF_BODY) (nomark _))
        (pss_one (ps_raiseC (W := fun cls d _ H => E cls d H) rfl (takes_of rfl rfl rfl rfl) Ex.BadForm))
        pss_nil)
      (pss_cons (ps_setDcT (i := 1) (own := [("length", 8), ("number", 9), ("byte", 7)]) (g := gTup K 3 (gCons (gName 8) (gCons (gName 9) (gCons (gName 7) (gNil))))) (by rfl) (hu2 hr) scBodyOfWords.nd rfl rfl (sw_trueD rfl rfl rfl (by decide +kernel)) (pi_list (pe_c CWordsOf (hr.mono (by omega)) (pa_cons (pv 4) pa_nil))) (blkOk_by (own := [("length", 8), ("number", 9), ("byte", 7)]) (N := nBodyOfWords) (sc := defScope sBodyOfWords) (by decide +kernel)) (fun _ _ _ _ _ => (pg_tup (by rfl) (pgs_cons (pg_name (i := 8) scBodyOfWords.nd rfl (.inl rfl)) (pgs_cons (pg_name (i := 9) scBodyOfWords.nd rfl (.inl rfl)) (pgs_cons (pg_name (i := 7) scBodyOfWords.nd rfl (.inl rfl)) pgs_nil))))) (fun _ _ _ _ _ => (pe_tup (pa_cons (pv 8) (pa_cons (pv 9) pa_nil)))) (fun _ _ _ _ _ => (pv 7)))
      (pss_cons (ps_set (i := 2) scBodyOfWords.nd rfl (.inl rfl) (pe_lst pa_nil))
      (pss_cons (ps_set (i := 3) scBodyOfWords.nd rfl (.inl rfl) (pe_op op_mul (pv 5) pe_int))
      (pss_cons (ps_while (passes_of rfl) (pt_cmpR op_lt (pe_callB call_len_seq (by rfl) Ev.b_len PySem.boot_len (pa_cons (pv 2) pa_nil)) (pv 6) (nomark _))
        (pss_cons (ps_asg (pe_cx (E := E) CReadWord (hr.mono (by omega)) (takes_of rfl rfl rfl rfl) (pa_cons (pv 1) (pa_cons (pv 0) (pa_cons (pv 3) pa_nil)))) (pg_tup (by rfl) (pgs_cons (pg_name (i := 7) scBodyOfWords.nd rfl (.inl rfl)) (pgs_cons (pg_name (i := 3) scBodyOfWords.nd rfl (.inl rfl)) pgs_nil))))
        (pss_one (ps_expr (pe_bm PySem.F.plainAttrs_list PySem.F.slot_list_append PySem.F.type_list_append mt_append (pv 2) (pa_cons (pv 7) pa_nil))))))
      (pss_cons (ps_expr (pe_cx (E := E) CCheckRest (hr.mono (by omega)) (takes_of rfl rfl rfl rfl) (pa_cons (pv 0) (pa_cons (pv 3) pa_nil))))
      (pss_one (ps_ret (pe_callTy call_tupleU (by rfl) Ev.b_tuple (by decide +kernel) (pa_cons (pv 2) pa_nil))))))))))))), ?_⟩
    have two : (2 : Nat) ≤ sizeLine := by rw [sizeLine_eq]; decide
    refine ⟨_, rfl, p, S, rfl, hp, hby, few, fun m p0 pre H1 t1 D s1 nD hD h1 => ?_, fun no H1 s1 => qn (fun body ⟨m, p0, ls, M, p1, q, k⟩ => no m p0 k.hd.pre.1) _ s1⟩
    refine ⟨t1, _, rfl, h1, rfl, _, _, rfl, _, _, rfl, rfl, ?_⟩
    have bys : ∀ i, i < m → (0 ≤ S.getD (p0 + 2 * i) 0 ∧ S.getD (p0 + 2 * i) 0 < 256) ∧ (0 ≤ S.getD (p0 + 2 * i + 1) 0 ∧ S.getD (p0 + 2 * i + 1) 0 < 256) := fun i hi => by
      have pl := pre.len
      have lt : p0 + 2 * i < S.length := by omega
      have lt2 : p0 + 2 * i + 1 < S.length := by omega
      rw [getD_at (List.getElem?_eq_getElem lt), getD_at (List.getElem?_eq_getElem lt2)]
      exact ⟨hby _ (List.getElem_mem lt), hby _ (List.getElem_mem lt2)⟩
    have mls : ∀ x ∈ lsA S p0 m, ∃ i, i < m ∧ x = (S.getD (p0 + 2 * i + 1) 0, S.getD (p0 + 2 * i) 0) := fun x hx => by
      unfold lsA at hx
      obtain ⟨i, hi, rfl⟩ := List.mem_map.mp hx
      exact ⟨i, List.mem_range.mp hi, rfl⟩
    have m256 : m ≤ 256 := by
      have := rise_few _ 0 256 pre.rise (fun b hb => by
        obtain ⟨x, hx, rfl⟩ := List.mem_map.mp hb
        obtain ⟨i, hi, rfl⟩ := mls x hx
        exact (bys i hi).1) (by decide)
      rw [List.length_map, lsA_len] at this
      omega
    have ndp : ((lsA S p0 m).map (·.2)).Nodup := pre.rise.imp fun {a b} h => Int.ne_of_lt h
    refine ⟨_, rfl, D, lsA S p0 m, rfl, hD, ndp, (fun x hx => by
      obtain ⟨i, hi, rfl⟩ := mls x hx
      exact (bys i hi).2), by rw [lsA_len]; omega, tabs.keep s1, fun snd H2 s2 => ?_, fun nsnd H2 b2 => qn (fun body ⟨m', p0', ls, M, p1, q, k⟩ => ?_) _ (b2 H s1 nD)⟩
    case refine_2 =>
      obtain ⟨k1, k2⟩ := k.hd.pre
      obtain ⟨rfl, rfl⟩ := pre.one k1
      refine nsnd ⟨?_, fun l1 => ?_, fun l1 => ?_⟩
      · rw [← k2]; exact k.hd.lng
      · rw [lsA_len] at l1
        rw [← k2]
        exact k.hd.one l1
      · rw [lsA_len] at l1
        rw [← k2]
        exact k.hd.sum l1
    have hd : Head S m p0 (lsA S p0 m) := pre.head snd.1 (fun e => snd.2.1 (by rw [lsA_len]; exact e)) (fun e => snd.2.2 (by rw [lsA_len]; exact e))
    have isW : ∀ {body : List Int}, IsW S body → ∃ M p1 q, IsWd S body m p0 (lsA S p0 m) M p1 q := fun {body} ⟨m', p0', ls, M, p1, q, k⟩ => by
      obtain ⟨rfl, rfl, rfl⟩ := hd.one2 k.hd
      exact ⟨M, p1, q, k⟩
    have hfn := hd.fine
    have lls : (lsA S p0 m).length = m := lsA_len _ _ _
    generalize lsA S p0 m = ls at hD ndp snd hd isW hfn lls
    have s12 := s1.trans s2
    refine ⟨_, rfl, _, rfl, p, S, p0 + 2 * m, rfl, keepT s12 hp, hby, ?_⟩
    cases r : resOf S (p0 + 2 * m) with
    | cut => exact qn (fun body k => by obtain ⟨M, p1, q, k⟩ := isW k; have := k.r; rw [r] at this; cases this) _ s12
    | bad => exact qn (fun body k => by obtain ⟨M, p1, q, k⟩ := isW k; have := k.r; rw [r] at this; cases this) _ s12
    | ok n0 p1 => ?_
    obtain ⟨lp1, up1, n00⟩ := res_lt r
    obtain ⟨M, rfl⟩ := Int.eq_ofNat_of_zero_le n00
    have isM : ∀ {body : List Int}, IsW S body → ∃ q, IsWd S body m p0 ls M p1 q := fun {body} k => by
      obtain ⟨M', p1', q, k⟩ := isW k
      have e := k.r
      rw [r] at e
      injection e with e1 e2
      have e1 := Int.ofNat.inj e1
      subst e1 e2
      exact ⟨q, k⟩
    refine fun H3 t3 s3 h3 => ⟨t3, _, rfl, h3, rfl, _, _, rfl, _, _, rfl, rfl, ?_⟩
    have s13 := s12.trans s3
    refine ⟨_, rfl, _, _, rfl, rfl, _, rfl, ite2 (fun z => ?_) (fun z => ?_)⟩
    · have z' : (1000 : Int) < (M : Int) := of_decide_eq_true z
      refine qn (fun body k => ?_) _ s13
      obtain ⟨q, k⟩ := isM k
      have := k.few
      omega
    have M1000 : M ≤ 1000 := by
      have : ¬ (1000 : Int) < (M : Int) := fun y => z (decide_eq_true y)
      omega
    refine ⟨_, rfl, D, ls, rfl, s3 _ _ (s2 _ _ hD), ndp, hfn, by omega, fun H4 pL ws s4 h4 al4 => ⟨pL, rfl, ⟨_, SqL.of h4⟩, fun Dw nDw => ?_⟩⟩
    have s14 := s13.trans s4
    have lwd : (wds ls).length = m := by
      unfold wds
      have := congrArg List.length (from_map (ls.mergeSort pLe) 0 0)
      rw [List.length_map, List.length_map, (srt_perm ls).length_eq] at this
      omega
    refine dcT_words nDw (SqL.of h4) al4 (by rw [lwd, sizeLine_eq]; omega) (wds_nod hfn) (fun e x H5 R tr r5 => ?_) (fun H5 s5 h5 => ?_)
    · obtain ⟨t5, rfl, h5⟩ := tr
      exact ⟨t5, _, rfl, h5, rfl, _, _, rfl, _, _, rfl, _, _, rfl, rfl, rfl, _, rfl, _, rfl, two, fun t6 n6 => ⟨_, rfl, r5 t6 _ (grow n6) upd_same⟩⟩
    have s15 := s14.trans s5
    refine ⟨Nat.zero_le _, fun Bl nBl => ?_⟩
    refine ⟨_, rfl, _, _, rfl, rfl, .inr ⟨by decide, by decide⟩, ?_⟩
    have neB : Dw ≠ Bl := fun z => by rw [z, nBl] at h5; cases h5
    have lB : (bitsOf (S.drop p1)).length = 8 * (S.length - p1) := by rw [bitsOf_len, List.length_drop]
    refine ⟨wBW H p Dw Bl D (wds ls) (bitsOf (S.drop p1)) p1 M, ⟨_, 0, 0, [], none, ?_, s15.trans (grow nBl), sm_none s15 nBl, ?_, neB, upd_same, rfl, Nat.zero_le _, .zero, Nat.zero_le _⟩, fun mm σ H' hW => ?_⟩
    · have e9 : (p1 : Int) * 8 = ((8 * p1 + 0 : Nat) : Int) := by omega
      show [_, _, _, some (V.int ((p1 : Int) * 8)), _, _, _, _, _, _] = _
      rw [e9]
    · rw [upd_ne neB]
      exact h5
    obtain ⟨j, q, a, y7, rfl, s6, nB6, hDw, _, hBl, rfl, jM, rd, ql⟩ := hW
    have la := rd.len
    refine ⟨_, rfl, Bl, _, rfl, .inl (SqL.of hBl), _, rfl, _, _, rfl, rfl, _, rfl, ?_⟩
    rw [List.length_map, la]
    refine ite2 (fun z => ?_) (fun z => ?_)
    · have jlt : j < M := by
        have := of_decide_eq_true z
        omega
      refine ⟨fun σ' H'' => ∃ m', m' < M - j ∧ wBW H p Dw Bl D (wds ls) (bitsOf (S.drop p1)) p1 M m' σ' H'', fun σ' H'' h => h, ?_⟩
      refine ⟨_, rfl, _, rfl, _, rfl, Dw, p, wds ls, S, p1, q, rfl, hDw, keepT s6 hp, by omega, up1, by omega, fun w hw => (wds_fit hfn w hw).2.1, fun b q' k H7 t7 s7 h7 => ?_, fun no H7 s7 => qn (fun body k => ?_) _ (s6.trans s7)⟩
      · refine ⟨t7, _, rfl, h7, rfl, _, _, rfl, _, _, rfl, rfl, ?_⟩
        have hB7 := s7 _ _ hBl
        refine ⟨_, rfl, .inl ⟨rfl, _, SqL.of hB7⟩, _, rfl, Bl, _, _, rfl, rfl, hB7, by rw [List.length_map, la, sizeLine_eq]; omega, ?_⟩
        refine ⟨M - (j + 1), by omega, j + 1, q', a ++ [b], some (.int b), rfl, keep_new (s6.trans s7) nB6, nB6, ?_, neB, ?_, rfl, jlt, rd.snoc k, (k.le ql).2⟩
        · rw [upd_ne neB]
          exact s7 _ _ hDw
        · rw [upd_same, List.map_append]
          rfl
      · obtain ⟨q2, k⟩ := isM k
        exact rd.stop jlt no k.all
    · have je : j = M := by
        have : ¬ (j : Int) < (M : Int) := fun y => z (decide_eq_true y)
        omega
      subst je
      have eR : (8 * S.length ≤ 8 * p1 + q + 7 ∧ ∀ i, 8 * p1 + q ≤ i → i < 8 * S.length → bitAt S i = 0) ↔ (8 * (S.drop p1).length ≤ q + 7 ∧ ∀ i, q ≤ i → i < 8 * (S.drop p1).length → bitAt (S.drop p1) i = 0) := by
        rw [List.length_drop]
        constructor
        · rintro ⟨a1, a2⟩
          refine ⟨by omega, fun i h1 h2 => ?_⟩
          rw [bitAt_drop]
          exact a2 _ (by omega) (by omega)
        · rintro ⟨a1, a2⟩
          refine ⟨by omega, fun i h1 h2 => ?_⟩
          have := a2 (i - 8 * p1) (by omega) (by omega)
          rw [bitAt_drop] at this
          have e : 8 * p1 + (i - 8 * p1) = i := by omega
          rw [e] at this
          exact this
      refine ⟨_, rfl, _, rfl, p, S, 8 * p1 + q, rfl, keepT s6 hp, by omega, by omega, fun ok H7 s7 => ?_, fun no H7 s7 => qn (fun body k => ?_) _ (s6.trans s7)⟩
      · have ok2 := eR.mp ok
        have W : IsW S a := ⟨m, p0, ls, j, p1, q, hd, r, M1000, rd, ok2.1, ok2.2⟩
        exact ⟨_, rfl, Bl, _, rfl, SqL.of (s7 _ _ hBl), fun H8 t8 s8 h8 => qy a W _ _ ((s6.trans s7).trans s8) h8⟩
      · obtain ⟨q2, k⟩ := isM k
        obtain ⟨rfl, rfl⟩ := rd.one k.all
        exact no (eR.mpr ⟨k.rest, k.zero⟩)

/-! ### number_bytes -/
def spNumber (K : PySem.W.Frag) : Sp := fun vs H Q _ => ∃ n : Int, vs = [.int n] ∧ 0 ≤ n ∧ n < 4398046511104 ∧ Tups K H ((numB n).map V.int) Q
def wNum (H : Hp) (n : Int) (p : Addr) (m : Nat) (σ : L2.St) (H' : Hp) : Prop := ∃ (acc : List Int) (left : Int), σ = [some (.int n), some (.ref p), some (.int left)] ∧ m = left.toNat ∧ Same H H' ∧ H' p = some (.lst (acc.map V.int)) ∧ 0 ≤ left ∧ acc ++ numB left = numB n
theorem ok_number {f : Addr} {fd : FuncData} (Ev : Env K mg) (F : Fun K "number_bytes" "number_bytes" sNumberBytes f fd) : FnOk P w K mg base CX0 1 f fd ["n"] (spNumber K) := by
  refine F.ok scNumberBytes (fun vs H Q E h => ?_) (fun cdv A outer s H vs Q E hr h => ?_)
  · obtain ⟨n, rfl, _⟩ := h; rfl
  · obtain ⟨n, rfl, n0, n1, q⟩ := h
    have few := numB_few n0 n1
    refine ⟨_, (pss_cons (ps_set (i := 1) scNumberBytes.nd rfl (.inl rfl) (pe_lst pa_nil))
      (pss_cons (ps_set (i := 2) scNumberBytes.nd rfl (.inl rfl) (pv 0))
      (pss_cons (ps_while PassesOwn.never (pt_cmpR op_gt (pv 2) pe_int (nomark _))
        (pss_cons (ps_expr (pe_bm PySem.F.plainAttrs_list PySem.F.slot_list_append PySem.F.type_list_append mt_append (pv 1) (pa_cons (pe_op op_add (pe_op op_mod (pv 2) pe_int) pe_int) pa_nil)))
        (pss_one (ps_set (i := 2) scNumberBytes.nd rfl (.inl rfl) (pe_op op_fdiv (pv 2) pe_int)))))
      (pss_cons (ps_expr (pe_bm PySem.F.plainAttrs_list PySem.F.slot_list_append PySem.F.type_list_append mt_append (pv 1) (pa_cons (pv 2) pa_nil)))
      (pss_one (ps_ret (pe_callTy call_tupleU (by rfl) Ev.b_tuple (by decide +kernel) (pa_cons (pv 1) pa_nil)))))))), ?_⟩
    refine ⟨Nat.zero_le _, fun p np => ?_⟩
    refine ⟨_, rfl, ?_⟩
    refine ⟨wNum H n p, ⟨_, [], n, rfl, rfl, grow np, upd_same, n0, rfl⟩, fun m σ H' hW => ?_⟩
    obtain ⟨acc, left, rfl, rfl, sm, hp, l0, ea⟩ := hW
    have la : acc.length + (numB left).length ≤ 6 := by
      rw [← List.length_append, ea]
      exact few
    refine ⟨_, rfl, _, _, rfl, rfl, _, rfl, ite2 (fun z => ?_) (fun z => ?_)⟩
    · have big : 127 < left := of_decide_eq_true z
      refine ⟨fun σ' H'' => ∃ m', m' < left.toNat ∧ wNum H n p m' σ' H'', fun σ' H'' h => h, ?_⟩
      refine ⟨_, rfl, .inl ⟨rfl, _, SqL.of hp⟩, _, rfl, _, 128, rfl, rfl, (show (0 : Int) < 128 by decide), _, _, rfl, rfl, p, _, _, rfl, rfl, hp, ?_, ?_⟩
      · exact small1000 (by rw [List.length_map]; omega)
      refine ⟨_, rfl, _, 128, rfl, rfl, ⟨by decide, by decide⟩, (left / 128).toNat, by omega, acc ++ [left % 128 + 128], left / 128, rfl, rfl, keep_lst sm np, ?_, by omega, ?_⟩
      · rw [upd_same, List.map_append]
        rfl
      · rw [← ea, numB_big big, List.append_assoc]
        rfl
    · have small : ¬ 127 < left := fun k => z (decide_eq_true k)
      refine ⟨_, rfl, .inl ⟨rfl, _, SqL.of hp⟩, _, rfl, p, _, _, rfl, rfl, hp, ?_, ?_⟩
      · exact small1000 (by rw [List.length_map]; omega)
      rw [numB_small small] at ea
      have h5 : SqL K (upd H' p (.lst (acc.map V.int ++ [V.int left]))) p ((numB n).map V.int) := by
        rw [← ea, List.map_append]
        exact SqL.of upd_same
      exact ⟨_, rfl, p, _, rfl, h5, fun H3 t s3 h3 => q _ _ ((keep_lst sm np).trans s3) h3⟩
/-! ### byte_at, read_number -/

/-! ### bytes counted -/
def spCnt (K : PySem.W.Frag) : Sp := fun vs H Q _ => ∃ (p : Addr) (body : List Int), vs = [.ref p] ∧ SqT K H p (body.map V.int) ∧ body.length ≤ 1000 ∧ ∀ H' D bs, Same H H' → H D = none → bs.Nodup → (∀ b, b ∈ bs ↔ b ∈ body) → H' D = some (.dK (dF bs fun b => (body.count b : Int))) → bs = uq body → Q (.ref D) H'
theorem few_of {bs body : List Int} (nd : bs.Nodup) (h : ∀ b ∈ bs, b ∈ body) : bs.length ≤ body.length := by
  induction bs generalizing body with
  | nil => exact Nat.zero_le _
  | cons b bs ih =>
    obtain ⟨n1, n2⟩ := List.nodup_cons.mp nd
    have hb := h b List.mem_cons_self
    have := ih (body := body.erase b) n2 fun c hc => (List.mem_erase_of_ne fun e => n1 (by rw [← e]; exact hc)).mpr (h c (List.mem_cons_of_mem _ hc))
    rw [List.length_erase_of_mem hb] at this
    have : 0 < body.length := List.length_pos_of_mem hb
    rw [List.length_cons]
    omega
theorem ok_cnt {f : Addr} {fd : FuncData} (Ev : Env K mg) (F : Fun K "counted" "counted" sCounted f fd) : FnOk P w K mg base CX0 1 f fd ["body"] (spCnt K) := by
  refine F.ok scCounted (fun vs H Q E h => ?_) (fun cdv A outer s H vs Q E hr h => ?_)
  · obtain ⟨p, body, rfl, _⟩ := h; rfl
  · obtain ⟨p, body, rfl, hp, few, q⟩ := h
    refine ⟨_, (pss_cons (ps_set (i := 1) scCounted.nd rfl (.inl rfl) pe_dnewK)
      (pss_cons (ps_for PassesOwn.never rfl (pi_tup (pv 0)) (pg_name (i := 2) scCounted.nd rfl (.inl rfl))
        (pss_one (ps_dput (hu1 hr) (pv 1) (pv 2) (pe_op op_add (pe_dget2 (hu1 hr) (pv 1) (pv 2) pe_int ⟨rfl, rfl, rfl, rfl⟩) pe_int) rfl)))
      (pss_one (ps_ret (pv 1))))), ?_⟩
    refine fun D nD => ?_
    refine ⟨_, rfl, p, rfl, ⟨_, keepT (grow nD) hp⟩, for_tup (xs := body.map V.int) (fun i σ H' => ∃ (bs : List Int) (y2 : Option V), σ = [some (.ref p), some (.ref D), y2] ∧ Same H H' ∧ bs.Nodup ∧ (∀ b, b ∈ bs ↔ b ∈ body.take i) ∧ H' D = some (.dK (dF bs fun b => ((body.take i).count b : Int))) ∧ bs = uq (body.take i)) ⟨[], none, rfl, grow nD, .nil, (fun b => by simp), upd_same, rfl⟩ (fun i σ H' _ k => ?_) (fun i x σ H' hx k => ?_) (fun σ H' k => ?_)⟩
    · obtain ⟨_, _, _, s1, _⟩ := k
      exact keepT s1 hp
    · obtain ⟨bs, y2, rfl, s1, nd, mem, hD, eU⟩ := k
      obtain ⟨b, hb, rfl⟩ := got hx
      have et : body.take (i + 1) = body.take i ++ [b] := by rw [List.take_add_one, hb]; rfl
      have lb := few_of nd fun c hc => (mem c).mp hc
      rw [List.length_take] at lb
      have gt : DGet H' D (.int b) (if b ∈ bs then some (V.int ((body.take i).count b : Int)) else none) := .inl ⟨_, Sum.inl b, .inl hD, rfl, (dF_get bs (fun b => ((body.take i).count b : Int)) b).symm⟩
      have ev : (Option.getD (if b ∈ bs then some (V.int ((body.take i).count b : Int)) else none) (V.int 0)) = V.int ((body.take i).count b : Int) := by
        by_cases m : b ∈ bs
        · rw [if_pos m]; rfl
        · rw [if_neg m]
          have : (body.take i).count b = 0 := List.count_eq_zero.mpr fun k => m ((mem b).mpr k)
          rw [this]
          rfl
      have g := DPut.k (k := Sum.inl b) (v := V.int (((body.take i).count b : Int) + 1)) hD (by rw [dF_len, sizeLine_eq]; omega)
      have fin : ∀ c, (if c = b then ((body.take i).count b : Int) + 1 else ((body.take i).count c : Int)) = ((body.take (i + 1)).count c : Int) := fun c => by
        rw [et, List.count_append]
        by_cases e : c = b
        · rw [if_pos e, e]
          simp
        · rw [if_neg e, List.count_singleton]
          have : ¬ b = c := fun z => e z.symm
          simp [this]
      refine ⟨_, rfl, D, rfl, .inl ⟨_, .inl hD⟩, _, rfl, _, gt, _, 1, ev, rfl, ?_⟩
      refine ⟨_, rfl, _, rfl, D, _, rfl, g, ?_⟩
      by_cases m : b ∈ bs
      · refine ⟨bs, _, rfl, keep_new s1 nD, nd, fun c => ?_, ?_, by rw [et, uq_snoc, ← eU, if_pos m]⟩
        · rw [et, mem c, List.mem_append, List.mem_singleton]
          constructor
          · exact .inl
          · rintro (k | rfl)
            · exact k
            · exact (mem c).mp m
        · rw [upd_same, dF_old m, dF_congr fun c _ => fin c]
      · refine ⟨bs ++ [b], _, rfl, keep_new s1 nD, List.nodup_append.mpr ⟨nd, by simp, fun c hc d hd e => m (by rw [← List.mem_singleton.mp hd, ← e]; exact hc)⟩, fun c => ?_, ?_, by rw [et, uq_snoc, ← eU, if_neg m]⟩
        · rw [et, List.mem_append, List.mem_append, mem c]
        · rw [upd_same, dF_new m, dF_congr fun c _ => fin c]
    · obtain ⟨bs, y2, rfl, s1, nd, mem, hD, eU⟩ := k
      rw [List.length_map, List.take_length] at mem hD eU
      exact ⟨_, rfl, q _ D bs s1 nD nd mem hD eU⟩
/-! ### lengths of words -/
theorem dc_keys {D D2 : Addr} {od : Obj} {bs : List Int} {f : Int → Int} {c : Int} {j : Nat} {vs : List Nat} {σ : L2.St} {H1 : Hp} {Qd : Hp → Prop} (nD : H1 D2 = none) (hD : H1 D = some (.frz od (.dK (dF bs f)))) (nd : bs.Nodup) (few : bs.length ≤ 1000) (hw : ∀ x, wipe ((wipe σ vs).set j (some x)) vs = wipe σ vs) (hj : ∀ x, ((wipe σ vs).set j (some x))[j]? = some (some x))
    (hd : ∀ H', Same H1 H' → H' D2 = some (.dK (dF bs fun _ => c)) → Qd H') :
    ∃ W : Nat → Nat → Hp → Prop, (∃ m, W 0 m (upd H1 D2 (.dK []))) ∧ ∀ i m H, W i m H →
      ((Itk D od (dF bs f)).stop i H ∧ Qd H) ∨ ((Itk D od (dF bs f)).go i H ∧ ∃ Nx : Hp → Prop, (∀ H', Nx H' → ∃ m', m' < m ∧ W (i + 1) m' H') ∧ ∀ x H', (Itk D od (dF bs f)).yld i H x H' → gName j x (wipe σ vs) H' fun σ2 H2 => wipe σ2 vs = wipe σ vs ∧ tYes σ2 H2 fun b H3 =>
        if b = true then tVar j σ2 H3 fun y H4 => tC (V.int c) σ2 H4 fun z H5 => ∃ kvs k, y = kV k ∧ H5 D2 = some (.dK kvs) ∧ kvs.length < sizeLine ∧ Nx (upd H5 D2 (.dK (putK kvs k z))) else Nx H3) := by
  have w := walk_keys (d := D) (o := od) (kvs := dF bs f)
  have ln := dF_len bs f
  refine ⟨fun i m H => m = bs.length - i ∧ i ≤ bs.length ∧ Same H1 H ∧ H D2 = some (.dK (dF (bs.take i) fun _ => c)), ⟨bs.length, rfl, Nat.zero_le _, grow nD, upd_same⟩, ?_⟩
  rintro i m H ⟨rfl, hi, sm, hD2⟩
  have hG := sm _ _ hD
  by_cases lt : i < bs.length
  · refine .inr ⟨w.goes i H (by rw [ln]; exact lt) hG, fun H' => Same H1 H' ∧ H' D2 = some (.dK (dF (bs.take (i + 1)) fun _ => c)), fun H' p' => ⟨bs.length - (i + 1), by omega, rfl, lt, p'⟩, fun x H' y => ?_⟩
    obtain ⟨rfl, k, v, hk, rfl⟩ := w.yields i H x H' (by rw [ln]; exact lt) hG y
    have ek : k = Sum.inl bs[i] := by
      unfold dF at hk
      rw [List.getElem?_map, List.getElem?_eq_getElem lt] at hk
      cases hk
      rfl
    subst ek
    refine ⟨hw _, ?_⟩
    unfold tYes
    dsimp only
    rw [if_pos rfl]
    refine ⟨_, hj _, _, Sum.inl bs[i], rfl, hD2, by rw [dF_len, List.length_take, sizeLine_eq]; omega, sm.over nD (NC.of hD2 trivial), ?_⟩
    have ni : bs[i] ∉ bs.take i := fun hm => by
      obtain ⟨k, hk, ek⟩ := List.getElem_of_mem hm
      rw [List.getElem_take] at ek
      rw [List.length_take] at hk
      have := List.pairwise_iff_getElem.mp nd k i (by omega) lt (by omega)
      exact this ek
    rw [upd_same, dF_new ni, List.take_add_one, List.getElem?_eq_getElem lt, Option.toList_some, dF_congr fun b _ => show (if b = bs[i] then c else c) = c by split <;> rfl]
  · have e : i = bs.length := by omega
    rw [e, List.take_length] at hD2
    rw [e, ← ln]
    exact .inl ⟨w.stops H hG, hd H sm hD2⟩
theorem upd_self {H : Hp} {L : Addr} {o : HO} (h : H L = some o) : upd H L o = H := funext fun a => by
  by_cases e : a = L
  · rw [e, upd_same, h]
  · rw [upd_ne e]
theorem upd_two {H : Hp} {L : Addr} {o o' : HO} : upd (upd H L o) L o' = upd H L o' := funext fun a => by
  by_cases e : a = L
  · rw [e, upd_same, upd_same]
  · rw [upd_ne e, upd_ne e, upd_ne e]
def GrpV (K : PySem.W.Frag) (x : Grp) (y : V) (H : Hp) : Prop := ∃ t u, y = .ref t ∧ SqT K H t [.int x.1, .ref u] ∧ SqT K H u (x.2.map V.int)
theorem GrpV.keep {K : PySem.W.Frag} {p : Grp} {y : V} {H H' : Hp} (h : GrpV K p y H) (s : Same H H') : GrpV K p y H' := let ⟨t, u, e, k, l⟩ := h; ⟨t, u, e, keepT s k, keepT s l⟩
theorem GrpV.over {K : PySem.W.Frag} {p : Grp} {y : V} {H : Hp} {a : Addr} {o : HO} (h : GrpV K p y H) (w : Wr H a) : GrpV K p y (upd H a o) := let ⟨t, u, e, k, l⟩ := h; ⟨t, u, e, overT w k, overT w l⟩
theorem GrpV.dp {K : PySem.W.Frag} {p : Grp} {y : V} {H : Hp} (h : GrpV K p y H) : Dp K H y (encG p) := let ⟨t, u, e, k, l⟩ := h; e ▸ .tup k (.cons (.int _) (.cons (dpTup l) .nil))
theorem pairs_g {K : PySem.W.Frag} {H : Hp} {gs : List Grp} {ys : List V} (al : Al2 (fun p y => GrpV K p y H) gs ys) : ∃ ps : List (V × Grp), ps.map Prod.fst = ys ∧ ps.map Prod.snd = gs ∧ ∀ x ∈ ps, GrpV K x.2 x.1 H := by
  obtain ⟨qs, q1, q2, q3⟩ := al_pairs al
  refine ⟨qs.map Prod.swap, by rw [← q2, List.map_map]; rfl, by rw [← q1, List.map_map]; rfl, fun x hx => ?_⟩
  obtain ⟨y, hy, rfl⟩ := List.mem_map.mp hx
  exact q3 y hy
theorem sort_g {ps : List (V × Grp)} : PySem.W.AllAlike (ps.map fun x => encG x.2) ∧ PySem.W.Sortable (ps.map fun x => encG x.2) ∧ ∀ x ∈ ps, (encG x.2).depth ≤ 60 :=
  ⟨PySem.W.AllAlike.of fun b b' => encG_alike _ _, PySem.W.Sortable.tuples fun b => ⟨_, _, rfl⟩, fun x _ => by
    have : (dInts x.2.2).depth ≤ 1 := by
      have k : ∀ l : List Int, PyData.depthAll (l.map PyData.int) = 0 := fun l => by
        induction l with
        | nil => rfl
        | cons b l ih => rw [List.map_cons, PyData.depthAll, ih]; rfl
      rw [PyData.depth, k]
      exact Nat.le_refl _
    unfold encG
    simp only [PyData.depth, PyData.depthAll]
    have e : (PyData.tuple (x.2.2.map PyData.int)).depth ≤ 1 := this
    simp only [PyData.depth] at e
    omega⟩
/-- what comes out of sorted: the groups, their numbers rise -/
theorem sorted_g {K : PySem.W.Frag} {H : Hp} {ps : List (V × Grp)} (pk : ∀ x ∈ ps, GrpV K x.2 x.1 H) : ∃ gs, gs.Perm (ps.map Prod.snd) ∧ (gs.map (·.1)).Pairwise (· ≤ ·) ∧ gs = sortG (ps.map Prod.snd) ∧ Al2 (fun p y => GrpV K p y H) gs ((ps.mergeSort (PySem.W.dataLe false fun x => encG x.2)).map Prod.fst) := by
  have pm := data_perm (fun x : V × Grp => encG x.2) ps
  have up := data_up (fun x : V × Grp => encG x.2) ps
  refine ⟨(ps.mergeSort (PySem.W.dataLe false fun x => encG x.2)).map Prod.snd, pm.map _, ?_, sort_gr ps, ?_⟩
  · rw [List.map_map, List.pairwise_map]
    exact up.imp fun {a b} h => le_g (k := fun x : V × Grp => x.2) h
  · have h : ∀ q ∈ (ps.mergeSort (PySem.W.dataLe false fun x => encG x.2)).map Prod.swap, GrpV K q.1 q.2 H := fun q hq => by
      obtain ⟨x, hx, rfl⟩ := List.mem_map.mp hq
      exact pk x (pm.mem_iff.mp hx)
    have := al_of (R := fun p y => GrpV K p y H) h
    rw [List.map_map, List.map_map] at this
    exact this
theorem flat_len : ∀ {gs : List Grp}, (∀ x ∈ gs, x.2 ≠ []) → gs.length ≤ ((gs.map (·.2)).flatten).length
  | [], _ => Nat.zero_le _
  | x :: gs, h => by
    have ih := flat_len (gs := gs) fun y hy => h y (List.mem_cons_of_mem _ hy)
    have := List.length_pos_iff.mpr (h x List.mem_cons_self)
    rw [List.map_cons, List.flatten_cons, List.length_append, List.length_cons]
    omega
theorem Hf.few {bs : List Int} {f : Int → Int} {gs : List Grp} {g : Int → Nat} (h : Hf bs f gs g) : gs.length ≤ bs.length := by
  rw [← h.per.length_eq]
  exact flat_len fun x hx => (h.grp x hx).1
def spWL (K : PySem.W.Frag) : Sp := fun vs H Q _ => ∃ (D : Addr) (bs : List Int) (f : Int → Int), vs = [.ref D] ∧ H D = some (.dK (dF bs f)) ∧ bs.Nodup ∧ bs.length ≤ 100 ∧ (∀ b ∈ bs, 1 ≤ f b) ∧ (bs.map f).sum ≤ 1000 ∧ ∀ H' D' g, Same H H' → H D' = none → H' D' = some (.dK (dF bs fun b => ((g b : Nat) : Int))) → LenOk bs f g → g = lensOf bs f → Q (.ref D') H'
def wWL (K : PySem.W.Frag) (H : Hp) (D L : Addr) (bs : List Int) (f : Int → Int) (m : Nat) (σ : L2.St) (H' : Hp) : Prop :=
  ∃ (Gl : Addr) (gs : List Grp) (ys : List V) (g : Int → Nat) (y3 y4 y5 : Option V), σ = [some (.ref D), some (.ref L), some (.ref Gl), y3, y4, y5] ∧ Same H H' ∧ H L = none ∧ H' L = some (.dK (dF bs fun b => ((g b : Nat) : Int))) ∧ H' Gl = some (.lst ys) ∧ Al2 (fun p y => GrpV K p y H') gs ys ∧ Hf bs f gs g ∧ m = gs.length ∧ bs.length ≠ 1 ∧ hLoop gs.length gs g = lensOf bs f
theorem ok_wl {f : Addr} {fd : FuncData} (Ev : Env K mg) (F : Fun K "word_lengths" "word_lengths" sWordLengths f fd) : FnOk P w K mg base CX0 1 f fd ["counts"] (spWL K) := by
  refine F.ok scWordLengths (fun vs H Q E h => ?_) (fun cdv A outer s H vs Q E hr h => ?_)
  · obtain ⟨D, bs, f, rfl, _⟩ := h; rfl
  · obtain ⟨D, bs, f, rfl, hD, nd, few, pos, tot, q⟩ := h
    refine ⟨_, (pss_cons (ps_if (pt_cmpR op_eq (pe_callB call_lenD (by rfl) Ev.b_len PySem.boot_len (pa_cons (pv 0) pa_nil)) pe_int (nomark _))
        (pss_one (ps_ret (pe_lock (pe_dc (own := [("byte", 5)]) (g := gName 5) (tt := tYes) (by rfl) scWordLengths.nd (pi_keys (pv 0)) (blkOk_by (own := [("byte", 5)]) (N := nWordLengths) (sc := defScope sWordLengths) (by decide +kernel)) (fun _ _ _ _ _ => (pg_name (i := 5) scWordLengths.nd rfl (.inl rfl))) (fun _ _ _ _ _ => pts_nil) (fun _ _ _ _ _ => (pv 5)) (fun _ _ _ _ _ => pe_int)))))
        pss_nil)
      (pss_cons (ps_lock (ps_setDc (i := 1) (own := [("byte", 5)]) (g := gName 5) (tt := tYes) (by rfl) scWordLengths.nd rfl rfl (sw_trueD rfl rfl rfl (by decide +kernel)) (pi_keys (pv 0)) (blkOk_by (own := [("byte", 5)]) (N := nWordLengths) (sc := defScope sWordLengths) (by decide +kernel)) (fun _ _ _ _ _ => (pg_name (i := 5) scWordLengths.nd rfl (.inl rfl))) (fun _ _ _ _ _ => pts_nil) (fun _ _ _ _ _ => (pv 5)) (fun _ _ _ _ _ => pe_int)))
      (pss_cons (ps_set (i := 2) scWordLengths.nd rfl (.inl rfl) (pe_callB (cr_sortedD (hu65 hr)) (by rfl) Ev.b_sorted (by decide +kernel) (pa_cons (pe_lock (pe_lc (own := [("byte", 5)]) (g := gName 5) (tt := tYes) (by rfl) scWordLengths.nd (pi_keys (pv 0)) (blkOk_by (own := [("byte", 5)]) (N := nWordLengths) (sc := defScope sWordLengths) (by decide +kernel)) (fun _ _ _ _ _ => (pg_name (i := 5) scWordLengths.nd rfl (.inl rfl))) (fun _ _ _ _ _ => pts_nil) (fun _ _ _ _ _ => (pe_tupUq (K := K) rfl (pa_cons (pe_dget (hu1 hr) (pv 0) (pv 5) (fun _ _ => rfl)) (pa_cons (pe_tupUq (K := K) rfl (pa_cons (pv 5) pa_nil)) pa_nil)))))) pa_nil)))
      (pss_cons (ps_while PassesOwn.never (pt_cmpR op_gt (pe_callB call_len_seq (by rfl) Ev.b_len PySem.boot_len (pa_cons (pv 2) pa_nil)) pe_int (nomark _))
        (pss_cons (ps_set (i := 3) scWordLengths.nd rfl (.inl rfl) (pe_op op_add (pe_ix ix_tup (pe_ix ix_list (pv 2) pe_int (fun _ _ => rfl)) pe_int (fun _ _ => rfl)) (pe_ix ix_tup (pe_ix ix_list (pv 2) pe_int (fun _ _ => rfl)) pe_int (fun _ _ => rfl))))
        (pss_cons (ps_set (i := 4) scWordLengths.nd rfl (.inl rfl) (pe_op op_catU (pe_ix ix_tup (pe_ix ix_list (pv 2) pe_int (fun _ _ => rfl)) pe_int (fun _ _ => rfl)) (pe_ix ix_tup (pe_ix ix_list (pv 2) pe_int (fun _ _ => rfl)) pe_int (fun _ _ => rfl))))
        (pss_cons (ps_for PassesOwn.never rfl (pi_tup (pv 4)) (pg_name (i := 5) scWordLengths.nd rfl (.inl rfl))
          (pss_one (ps_daug (hu1 hr) (pv 1) (pv 5) pe_int ip_add (fun _ _ _ => rfl))))
        (pss_one (ps_set (i := 2) scWordLengths.nd rfl (.inl rfl) (pe_callB (cr_sortedD (hu65 hr)) (by rfl) Ev.b_sorted (by decide +kernel) (pa_cons (pe_op op_cat (pe_slice sl_list (pv 2) (po_some pe_int) po_none) (pe_lst (pa_cons (pe_tupU (pa_cons (pv 3) (pa_cons (pv 4) pa_nil))) pa_nil))) pa_nil))))))))
      (pss_one (ps_ret (pv 1))))))), ?_⟩
    have one : (1 : Nat) ≤ sizeLine := by rw [sizeLine_eq]; decide
    have two : (2 : Nat) ≤ sizeLine := by rw [sizeLine_eq]; decide
    have ln := dF_len bs f
    refine ⟨_, rfl, D, _, rfl, hD, rfl, _, rfl, ?_⟩
    rw [ln]
    refine ite2 (fun z => ?_) (fun z => ?_)
    · have l1 : bs.length = 1 := by
        have := V.int.inj (of_decide_eq_true z)
        omega
      refine ⟨D, .dK (dF bs f), hD, trivial, fun od => ⟨_, rfl, D, od, rfl, .inl ⟨dF bs f, upd_same, fun D2 nD2 => ?_⟩⟩⟩
      have ne : D2 ≠ D := fun e => by rw [e, upd_same] at nD2; cases nD2
      refine dc_keys nD2 upd_same nd (by omega) (fun _ => rfl) (fun _ => rfl) fun H2 s2 h2 => ?_
      refine ⟨s2 _ _ upd_same, q _ D2 (fun _ => 1) (sm_unlock hD s2) (by rw [upd_ne ne] at nD2; exact nD2) ?_ ?_ (by unfold lensOf; rw [if_pos l1])⟩
      · rw [upd_ne ne]
        exact h2
      · exact ⟨fun _ b _ => rfl, fun k => by omega, fun k => by omega, fun k => absurd l1 k⟩
    have l1 : bs.length ≠ 1 := fun e => z (decide_eq_true (by rw [e]; rfl))
    refine ⟨D, .dK (dF bs f), hD, trivial, fun od => ⟨_, rfl, D, od, rfl, .inl ⟨dF bs f, upd_same, fun L nL => ?_⟩⟩⟩
    have neL : L ≠ D := fun e => by rw [e, upd_same] at nL; cases nL
    refine dc_keys nL upd_same nd (by omega) (fun _ => rfl) (fun _ => rfl) fun H2 s2 h2 => ?_
    refine ⟨s2 _ _ upd_same, ?_⟩
    have nL0 : H L = none := by rw [upd_ne neL] at nL; exact nL
    have z2 : Same H (upd H2 D (.dK (dF bs f))) := sm_unlock hD s2
    have hL2 : (upd H2 D (.dK (dF bs f))) L = some (.dK (dF bs fun _ => (0 : Int))) := by rw [upd_ne neL]; exact h2
    generalize upd H2 D (.dK (dF bs f)) = H3 at z2 hL2
    have hD3 := z2 _ _ hD
    -- the groups at the begin
    refine ⟨D, .dK (dF bs f), hD3, trivial, fun od2 => ⟨_, rfl, D, od2, rfl, .inl ⟨dF bs f, upd_same, fun DD nDD => ?_⟩⟩⟩
    refine lcW (es := bs) (G := fun b y H => GrpV K (f b, [b]) y H) (walk_keys (d := D) (o := od2) (kvs := dF bs f)) ln.symm nDD (by rw [ln, sizeLine_eq]; omega) (fun H s => s _ _ upd_same) (fun p y H H' s h => h.keep s) (fun p y H us vs hD h => h.over (.lst hD)) (fun i b x H4 H4' R hi hp s4 y r Z => ?_) (fun ys H4 al4 s4 h4 => ?_)
    · obtain ⟨rfl, k, v, hk, rfl⟩ := y
      have ek : k = Sum.inl b := by
        unfold dF at hk
        rw [List.getElem?_map, hp] at hk
        cases hk
        rfl
      subst ek
      refine ⟨rfl, ?_⟩
      unfold tYes
      dsimp only
      rw [if_pos rfl]
      have gv : (some (V.int (f b))) = valV (dF bs f) (Sum.inl b) := by rw [dF_get, if_pos (List.mem_of_getElem? hp)]
      exact ⟨_, rfl, _, rfl, D, _, rfl, .inl ⟨dF bs f, Sum.inl b, .inr ⟨od2, s4 _ _ upd_same⟩, rfl, gv⟩, _, rfl, one, fun H5 t5 s5 h5 => ⟨two, fun H6 t6 s6 h6 => r _ _ (s5.trans s6) ⟨t6, t5, rfl, h6, keepT s6 h5⟩⟩⟩
    refine ⟨s4 _ _ upd_same, ?_⟩
    have e4 : H4 D = some (.frz od2 (.dK (dF bs f))) := s4 _ _ upd_same
    have z4 : Same H3 (upd H4 D (.dK (dF bs f))) := sm_unlock hD3 s4
    have neDD : DD ≠ D := fun e => by rw [e, upd_same] at nDD; cases nDD
    have h44 : (upd H4 D (.dK (dF bs f))) DD = some (.lst ys) := by rw [upd_ne neDD]; exact h4
    have al5 : Al2 (fun p y => GrpV K p y (upd H4 D (.dK (dF bs f)))) (bs.map fun b => (f b, [b])) ys := al_map (al4.mono fun b y ⟨t, u, e, k, l⟩ => ⟨t, u, e, unT e4 k, unT e4 l⟩)
    generalize upd H4 D (.dK (dF bs f)) = H5 at z4 h44 al5
    obtain ⟨ps, e3, e5, pk⟩ := pairs_g al5
    obtain ⟨o1, o2, o3⟩ := sort_g (ps := ps)
    refine ⟨Grp, encG, DD, ps, rfl, by rw [e3]; exact SqL.of h44, fun x hx => (pk x hx).dp, o1, o2, o3, fun p6 n6 => ?_⟩
    obtain ⟨gs0, g1, g2, g4, g3⟩ := sorted_g pk
    rw [e5] at g1 g4
    have lg0 : gs0.length = bs.length := by rw [g1.length_eq, List.length_map]
    have hb := Hf.begin pos g1 g2
    have z5 := z2.trans z4
    generalize (ps.mergeSort (PySem.W.dataLe false fun x => encG x.2)).map Prod.fst = ws at g3
    refine ⟨wWL K H D L bs f, ⟨_, p6, gs0, ws, fun _ => 0, none, none, none, rfl, z5.trans (grow n6), nL0, grow n6 _ _ (z4 _ _ hL2), upd_same, g3.mono fun p y k => k.keep (grow n6), hb, rfl, l1, by unfold lensOf; rw [if_neg l1, lg0, g4]⟩, fun m σ H' hW => ?_⟩
    obtain ⟨Gl, gs, ys, g, y3, y4, y5, rfl, s7, _, hL7, hG7, al7, hf, rfl, _, eHL⟩ := hW
    have lal := al7.length
    refine ⟨_, rfl, Gl, _, rfl, .inl (SqL.of hG7), _, _, rfl, rfl, _, rfl, ?_⟩
    refine ite2 (fun y => ?_) (fun y => ?_)
    · have big : 1 < gs.length := by
        have := of_decide_eq_true y
        omega
      refine ⟨fun σ' H'' => ∃ m', m' < gs.length ∧ wWL K H D L bs f m' σ' H'', fun σ' H'' h => h, ?_⟩
      obtain ⟨gx, gy, r, rfl⟩ : ∃ x y r, gs = x :: y :: r := by
        match gs, big with
        | x :: y :: r, _ => exact ⟨x, y, r, rfl⟩
      cases al7 with
      | cons k1 al71 =>
      cases al71 with
      | cons k2 al8 =>
      rename_i vr
      obtain ⟨t1, u1, e1, ht1, hu1⟩ := k1
      obtain ⟨t2, u2, e2, ht2, hu2⟩ := k2
      subst e1 e2
      have hx := hf.grp gx List.mem_cons_self
      have hy := hf.grp gy (List.mem_cons_of_mem _ List.mem_cons_self)
      have per := hf.per
      rw [List.map_cons, List.map_cons, List.flatten_cons, List.flatten_cons, ← List.append_assoc] at per
      have pl : gx.2.length + gy.2.length ≤ bs.length := by
        have := per.length_eq
        rw [List.length_append, List.length_append] at this
        omega
      have msn : (gx.2 ++ gy.2).Nodup := (List.nodup_append.mp (per.nodup_iff.mpr nd)).1
      have msb : ∀ b ∈ gx.2 ++ gy.2, b ∈ bs := fun b hb => per.mem_iff.mp (List.mem_append_left _ hb)
      refine ⟨_, rfl, Gl, _, 0, _, rfl, rfl, SqL.of hG7, at_of (j := 0) rfl rfl, t1, _, 0, _, rfl, rfl, ht1, at_of (j := 0) rfl rfl, _, rfl, Gl, _, 1, _, rfl, rfl, SqL.of hG7, at_of (j := 1) rfl rfl, t2, _, 0, _, rfl, rfl, ht2, at_of (j := 0) rfl rfl, _, _, rfl, rfl, ?_⟩
      refine ⟨_, rfl, Gl, _, 0, _, rfl, rfl, SqL.of hG7, at_of (j := 0) rfl rfl, t1, _, 1, _, rfl, rfl, ht1, at_of (j := 1) rfl rfl, _, rfl, Gl, _, 1, _, rfl, rfl, SqL.of hG7, at_of (j := 1) rfl rfl, t2, _, 1, _, rfl, rfl, ht2, at_of (j := 1) rfl rfl, u1, u2, _, _, rfl, rfl, hu1, hu2, by rw [List.length_map, List.length_map, sizeLine_eq]; omega, fun H8 t8 s8 h8 => ?_⟩
      rw [← List.map_append] at h8
      have hnext : ∀ gs', gs'.Perm (r ++ [(gx.1 + gy.1, gx.2 ++ gy.2)]) → (gs'.map (·.1)).Pairwise (· ≤ ·) → Hf bs f gs' (upG g (gx.2 ++ gy.2)) := fun gs' p up => hf.next nd pos tot p up
      rw [List.length_cons, hLoop] at eHL
      generalize gx.2 ++ gy.2 = ms at h8 msn msb hnext eHL
      generalize emn : gx.1 + gy.1 = mn at hnext eHL
      have hL8 := s8 _ _ hL7
      have hG8 := s8 _ _ hG7
      have al9 : Al2 (fun p y => GrpV K p y H8) r vr := al8.mono fun p y k => k.keep s8
      have z8 := s7.trans s8
      have neG : Gl ≠ L := fun e => by rw [e, hL8] at hG8; cases hG8
      refine ⟨_, rfl, t8, rfl, ⟨_, h8⟩, for_tup (xs := ms.map V.int) (fun i σ Hc => ∃ y5, σ = [some (.ref D), some (.ref L), some (.ref Gl), some (.int mn), some (.ref t8), y5] ∧ Hc = upd H8 L (.dK (dF bs fun b => ((upG g (ms.take i) b : Nat) : Int)))) ⟨y5, by rw [← emn]; rfl, ?_⟩ (fun i σ Hc _ k => ?_) (fun i v σ Hc hv k => ?_) (fun σ Hc k => ?_)⟩
      · have e0 : (dF bs fun b => ((upG g (ms.take 0) b : Nat) : Int)) = dF bs fun b => ((g b : Nat) : Int) := dF_congr fun b _ => by simp [upG]
        rw [e0]
        exact (upd_self hL8).symm
      · obtain ⟨_, _, rfl⟩ := k
        exact overT (Wr.dK hL8) h8
      · obtain ⟨y5', rfl, rfl⟩ := k
        obtain ⟨b, hb, rfl⟩ := got hv
        have hbb := msb b (List.mem_of_getElem? hb)
        have gv : some (V.int ((upG g (ms.take i) b : Nat) : Int)) = valV (dF bs fun b => ((upG g (ms.take i) b : Nat) : Int)) (Sum.inl b) := by rw [dF_get, if_pos hbb]
        have gp := DPut.k (k := Sum.inl b) (v := V.int (((upG g (ms.take i) b : Nat) : Int) + 1)) (upd_same : (upd H8 L (.dK (dF bs fun b => ((upG g (ms.take i) b : Nat) : Int)))) L = _) (by rw [dF_len, sizeLine_eq]; omega)
        have hi : i < ms.length := (List.getElem?_eq_some_iff.mp hb).1
        have eb : ms[i] = b := (List.getElem?_eq_some_iff.mp hb).2
        have nb : b ∉ ms.take i := fun hm => by
          obtain ⟨k, hk, ek⟩ := List.getElem_of_mem hm
          rw [List.getElem_take] at ek
          rw [List.length_take] at hk
          have := List.pairwise_iff_getElem.mp msn k i (by omega) hi (by omega)
          exact this (by rw [ek, eb])
        have et : ms.take (i + 1) = ms.take i ++ [b] := by rw [List.take_add_one, hb]; rfl
        have ef : (dF bs fun c => if c = b then ((upG g (ms.take i) b : Nat) : Int) + 1 else ((upG g (ms.take i) c : Nat) : Int)) = dF bs fun c => ((upG g (ms.take (i + 1)) c : Nat) : Int) := dF_congr fun c _ => by
          rw [et]
          unfold upG
          by_cases e : c = b
          · rw [if_pos e, if_neg nb, if_pos (by rw [e]; simp), e]
            omega
          · rw [if_neg e]
            by_cases m : c ∈ ms.take i
            · rw [if_pos m, if_pos (List.mem_append_left _ m)]
            · rw [if_neg m, if_neg fun k => by
                rcases List.mem_append.mp k with k | k
                · exact m k
                · exact e (List.mem_singleton.mp k)]
        rw [dF_old hbb, ef] at gp
        exact ⟨_, rfl, _, rfl, L, _, rfl, .inl ⟨_, Sum.inl b, .inl upd_same, rfl, gv⟩, _, 1, rfl, rfl, _, gp, _, rfl, upd_two⟩
      · obtain ⟨y5', rfl, rfl⟩ := k
        rw [List.length_map, List.take_length]
        have w8 : Wr H8 L := Wr.dK hL8
        have z9 : Same H (upd H8 L (.dK (dF bs fun b => ((upG g ms b : Nat) : Int)))) := keep_new z8 nL0
        have hL9 : (upd H8 L (.dK (dF bs fun b => ((upG g ms b : Nat) : Int)))) L = some (.dK (dF bs fun b => ((upG g ms b : Nat) : Int))) := upd_same
        have hG9 : (upd H8 L (.dK (dF bs fun b => ((upG g ms b : Nat) : Int)))) Gl = some (.lst (V.ref t1 :: V.ref t2 :: vr)) := by rw [upd_ne neG]; exact hG8
        have al10 : Al2 (fun p y => GrpV K p y (upd H8 L (.dK (dF bs fun b => ((upG g ms b : Nat) : Int))))) r vr := al9.mono fun p y k => k.over w8
        have h9 := overT (o := .dK (dF bs fun b => ((upG g ms b : Nat) : Int))) w8 h8
        generalize upd H8 L (.dK (dF bs fun b => ((upG g ms b : Nat) : Int))) = H9 at z9 hL9 hG9 al10 h9
        refine ⟨_, rfl, 2, rfl, Gl, _, rfl, SqL.of hG9, fun pc nc => ?_⟩
        have ec : cutV (V.ref t1 :: V.ref t2 :: vr) (some 2) none = vr := by
          unfold cutV
          have e1 : HT.sIx (V.ref t1 :: V.ref t2 :: vr).length 0 (some 2) = 2 := by
            have := HT.sIx_nat (V.ref t1 :: V.ref t2 :: vr).length 0 2
            rw [show ((2 : Nat) : Int) = 2 from rfl] at this
            rw [this, List.length_cons, List.length_cons]
            omega
          rw [e1, HT.sIx_none]
          show List.take _ vr = vr
          exact List.take_of_length_le (by rw [List.length_cons, List.length_cons]; omega)
        rw [ec]
        have gc := grow (o := .lst vr) nc
        refine ⟨_, rfl, _, rfl, two, fun H10 t10 s10 h10 => ⟨one, fun L11 n11 => ?_⟩⟩
        have g11 := grow (o := .lst [V.ref t10]) n11
        refine ⟨pc, L11, vr, _, rfl, rfl, g11 _ _ (s10 _ _ upd_same), upd_same, ?_, fun p12 n12 => ?_⟩
        · have l1 := al10.length
          have l2 := hf.few
          rw [List.length_cons, List.length_cons] at l2
          rw [sizeLine_eq]
          simp only [List.length_cons, List.length_nil]
          omega
        have g12 := grow (o := .lst (vr ++ [V.ref t10])) n12
        have s12 := gc.trans (s10.trans (g11.trans g12))
        have al12 : Al2 (fun p y => GrpV K p y (upd (upd H10 L11 (.lst [V.ref t10])) p12 (.lst (vr ++ [V.ref t10])))) (r ++ [(mn, ms)]) (vr ++ [V.ref t10]) := Al2.snoc (R := fun p y => GrpV K p y (upd (upd H10 L11 (.lst [V.ref t10])) p12 (.lst (vr ++ [V.ref t10])))) (x := (mn, ms)) ⟨t10, t8, rfl, keepT (g11.trans g12) h10, keepT s12 h9⟩ (al10.mono fun p y k => k.keep s12)
        have hp12 : (upd (upd H10 L11 (.lst [V.ref t10])) p12 (.lst (vr ++ [V.ref t10]))) p12 = some (.lst (vr ++ [V.ref t10])) := upd_same
        have z12 := z9.trans s12
        have hL12 := s12 _ _ hL9
        generalize upd (upd H10 L11 (.lst [V.ref t10])) p12 (.lst (vr ++ [V.ref t10])) = H12 at al12 hp12 z12 hL12
        obtain ⟨ps, e3, e5, pk⟩ := pairs_g al12
        obtain ⟨o1, o2, o3⟩ := sort_g (ps := ps)
        refine ⟨Grp, encG, p12, ps, rfl, by rw [e3]; exact SqL.of hp12, fun x hx => (pk x hx).dp, o1, o2, o3, fun p13 n13 => ?_⟩
        obtain ⟨gs1, g1, g2, g4, g3⟩ := sorted_g pk
        rw [e5] at g1 g4
        have hb := hnext gs1 g1 g2
        generalize (ps.mergeSort (PySem.W.dataLe false fun x => encG x.2)).map Prod.fst = ws at g3
        have lg : gs1.length = r.length + 1 := by rw [g1.length_eq, List.length_append]; rfl
        refine ⟨gs1.length, by rw [lg, List.length_cons, List.length_cons]; omega, p13, gs1, ws, upG g ms, _, _, _, rfl, z12.trans (grow n13), nL0, grow n13 _ _ hL12, upd_same, g3.mono fun p y k => k.keep (grow n13), hb, rfl, l1, by rw [← g4] at eHL; rw [lg]; exact eHL⟩
    · have small : gs.length ≤ 1 := by
        have : ¬ (1 : Int) < (ys.length : Int) := fun k => y (decide_eq_true k)
        omega
      exact ⟨_, rfl, q _ L g s7 nL0 hL7 (hf.ende pos tot small l1) (by rw [← eHL, hLoop_few small])⟩

/-! ### the bits of a word -/
def spWBt (K : PySem.W.Frag) : Sp := fun vs H Q _ => ∃ (n l : Nat), vs = [.int (n : Int), .int (l : Int)] ∧ l ≤ 100 ∧ ∀ H' p, Same H H' → H' p = some (.lst ((bitsI l n).map V.int)) → Q (.ref p) H'
theorem ok_wbt {f : Addr} {fd : FuncData} (Ev : Env K mg) (F : Fun K "word_bits" "word_bits" sWordBits f fd) : FnOk P w K mg base CX0 1 f fd ["number", "length"] (spWBt K) := by
  refine F.ok scWordBits (fun vs H Q E h => ?_) (fun cdv A outer s H vs Q E hr h => ?_)
  · obtain ⟨n, l, rfl, _⟩ := h; rfl
  · obtain ⟨n, l, rfl, l1, q⟩ := h
    refine ⟨_, (pss_one (ps_ret (pe_lc (own := [("place", 2)]) (g := gName 2) (tt := tYes) (by rfl) scWordBits.nd (pi_range3 (by rfl) Ev.b_range (pa_cons (pe_op op_sub (pv 1) pe_int) (pa_cons (pe_un un_neg pe_int) (pa_cons (pe_un un_neg pe_int) pa_nil)))) (blkOk_by (own := [("place", 2)]) (N := nWordBits) (sc := defScope sWordBits) (by decide +kernel)) (fun _ _ _ _ _ => (pg_name (i := 2) scWordBits.nd rfl (.inl rfl))) (fun _ _ _ _ _ => pts_nil) (fun _ _ _ _ _ => (pe_op op_andM (pe_op op_shr (pv 0) (pv 2)) pe_int))))), ?_⟩
    have el : ((l : Int) - 1 - -1).toNat = l := by omega
    have rg := RgC.neg (i := (l : Int) - 1) (j := -1) (by omega) (by omega) (by omega) (by omega)
    rw [el] at rg
    refine ⟨_, rfl, _, _, rfl, rfl, _, rfl, _, rfl, _, _, _, _, rfl, rg, fun D nD => ?_⟩
    refine lcWn (es := bitsI l n) (G := fun e y H => y = V.int e) (walk_rangeC (lo := (l : Int) - 1) (c := -1) (n := l)) (bitsI_len l n) nD (by rw [sizeLine_eq]; omega) (fun _ _ => trivial) (fun _ => rfl) (fun e y H H' _ k => k) (fun e y H us vs _ k => k) (fun i e H2 R hi he s2 r => ?_) (fun ys H2 al s2 h2 => ?_)
    · rw [bitsI_get hi] at he
      cases he
      have e1 : ((l : Int) - 1 + (i : Nat) * -1).toNat = l - 1 - i := by omega
      have e2 : (n : Int) / 2 ^ ((l : Int) - 1 + (i : Nat) * -1).toNat % 2 ^ 1 = ((n / 2 ^ (l - 1 - i) % 2 : Nat) : Int) := by
        rw [e1, Int.natCast_emod, Int.natCast_ediv, Int.natCast_pow]
        rfl
      refine ⟨_, rfl, _, rfl, _, _, rfl, rfl, (show (0 : Int) ≤ (l : Int) - 1 + (i : Nat) * -1 by omega), _, 1, rfl, rfl, ?_⟩
      rw [e2]
      exact r _ _ (Same.refl _) rfl
    · have ey : ys = (bitsI l n).map V.int := al.eq_map
      rw [ey] at h2
      exact q _ _ s2 h2
/-! ### bytes of bits -/
def spBoB (K : PySem.W.Frag) : Sp := fun vs H Q _ => ∃ (p : Addr) (ws : List Int), vs = [.ref p] ∧ SqL K H p (ws.map V.int) ∧ Q (.int (valB ws)) H
theorem ok_bob {f : Addr} {fd : FuncData} (Ev : Env K mg) (F : Fun K "byte_of_bits" "byte_of_bits" sByteOfBits f fd) : FnOk P w K mg base CX0 1 f fd ["bits"] (spBoB K) := by
  refine F.ok scByteOfBits (fun vs H Q E h => ?_) (fun cdv A outer s H vs Q E hr h => ?_)
  · obtain ⟨p, ws, rfl, _⟩ := h; rfl
  · obtain ⟨p, ws, rfl, hp, q⟩ := h
    refine ⟨_, (pss_cons (ps_set (i := 1) scByteOfBits.nd rfl (.inl rfl) pe_int)
      (pss_cons (ps_for PassesOwn.never rfl (pi_list (pv 0)) (pg_name (i := 2) scByteOfBits.nd rfl (.inl rfl))
        (pss_one (ps_set (i := 1) scByteOfBits.nd rfl (.inl rfl) (pe_op op_add (pe_op op_mul (pv 1) pe_int) (pv 2)))))
      (pss_one (ps_ret (pv 1))))), ?_⟩
    refine ⟨_, rfl, p, rfl, ⟨_, hp⟩, for_list (xs := ws.map V.int) (fun i σ H' => ∃ y2, σ = [some (.ref p), some (.int (valB (ws.take i))), y2] ∧ H' = H) ⟨none, rfl, rfl⟩ (fun i σ H' _ k => ?_) (fun i x σ H' hx k => ?_) (fun σ H' k => ?_)⟩
    · obtain ⟨_, _, rfl⟩ := k
      exact hp
    · obtain ⟨y2, rfl, rfl⟩ := k
      obtain ⟨b, hb, rfl⟩ := got hx
      refine ⟨_, rfl, _, 2, rfl, rfl, .inr ⟨by decide, by decide⟩, _, rfl, _, _, rfl, rfl, some (.int b), ?_, rfl⟩
      rw [List.take_add_one, hb, Option.toList_some, valB_snoc]
      rfl
    · obtain ⟨y2, rfl, rfl⟩ := k
      rw [List.length_map, List.take_length]
      exact ⟨_, rfl, q⟩
theorem rg8n {n : Nat} (h : n ≤ 3010) : Builtin.Range.small 0 (n : Int) 8 = true := by
  have f : ∀ i : Int, 0 ≤ i → i ≤ 10000 → Builtin.Range.rangeFitsLong i = true := fun i h0 h1 => by
    unfold Builtin.Range.rangeFitsLong
    rw [decide_eq_true (show -(2 ^ 63) ≤ i by omega), decide_eq_true (show i < 2 ^ 63 by omega)]
    rfl
  unfold Builtin.Range.small
  rw [rangeSize_pos (by decide) (by omega), f 0 (by decide) (by decide), f _ (by omega) (by omega), f 8 (by decide) (by decide), f _ (by omega) (by omega), if_pos (by decide), f _ (by omega) (by omega), Bool.or_true]
  rfl
theorem rep_oneI (k : Nat) : (List.replicate k [V.int 0]).flatten = (List.replicate k (0 : Int)).map V.int := by
  induction k with
  | zero => rfl
  | succ k ih => rw [List.replicate_succ, List.replicate_succ, List.flatten_cons, ih]; rfl
def spBsB (K : PySem.W.Frag) (tbs : List Addr) : Sp := fun vs H Q _ => ∃ (p : Addr) (cs : List Int), vs = [.ref p] ∧ H p = some (.lst (cs.map V.int)) ∧ (∀ c ∈ cs, c = 0 ∨ c = 1) ∧ cs.length ≤ 3000 ∧ Tabs tbs H ∧ Tups K H ((packB (cs.map dig)).map V.int) Q
theorem ok_bsb {f : Addr} {fd : FuncData} {c pp : Addr} {tb : List Addr} (Ev : Env K mg) (TB : GxR.TabB base mg c pp) (hpp : pp ∈ tb) (CByteOfBits : Cal P w K mg base "byte_of_bits" 1 ["bits"] (spBoB K)) (F : FunC K "bytes_of_bits" "bytes_of_bits" sBytesOfBits f fd c) : FnOk P w K mg base CX0 4 f fd ["bits"] (spBsB K tb) := by
  refine F.ok scBytesOfBits (fun vs H Q E h => ?_) (fun A outer s H vs Q E hr h => ?_)
  · obtain ⟨p, cs, rfl, _⟩ := h; rfl
  · obtain ⟨p, cs, rfl, hp, c01, few, tabs, q⟩ := h
    refine ⟨_, (pss_cons (ps_set (i := 1) scBytesOfBits.nd rfl (.inr rfl) (pe_op op_cat (pv 0) (pe_op op_rep (pe_lst (pa_cons pe_int pa_nil)) (pe_op op_mod (pe_un un_neg (pe_callB call_len_seq (by rfl) Ev.b_len PySem.boot_len (pa_cons (pv 0) pa_nil))) pe_int))))
      (pss_one (ps_ret (pe_tupG (own := [("at", 2)]) (g := gName 2) (tt := tYes) (k := 1) (hr.mono (by omega)) (by rfl) Ev.b_tuple (by decide +kernel) TB rfl scBytesOfBits.nd (blkOk_by (own := [("at", 2)]) (N := nBytesOfBits) (sc := defScope sBytesOfBits) (by decide +kernel)) ⟨rfl, by decide, rfl⟩ (pi_range3 (by rfl) Ev.b_range (pa_cons pe_int (pa_cons (pe_callB call_len_seq (by rfl) Ev.b_len PySem.boot_len (pa_cons (pv 1) pa_nil)) (pa_cons pe_int pa_nil)))) (fun _ _ _ _ _ _ _ => (pg_name (i := 2) scBytesOfBits.nd rfl (.inl rfl))) (fun _ _ _ _ _ _ _ hr => pts_nil) (fun _ _ _ _ _ _ _ hr => (pe_c CByteOfBits (hr.mono (by omega)) (pa_cons (pe_slice (sl_listq (K := K) rfl) (pv 1) (po_some (pv 2)) (po_some (pe_op op_add (pv 2) pe_int))) pa_nil))) (by intro _; rfl))))), ?_⟩
    have one : (1 : Nat) ≤ sizeLine := by rw [sizeLine_eq]; decide
    obtain ⟨k, hk⟩ : ∃ k : Nat, (-(cs.length : Int)) % 8 = (k : Int) := ⟨((-(cs.length : Int)) % 8).toNat, by omega⟩
    have k8 : k < 8 := by omega
    have lw : (cs ++ List.replicate k (0 : Int)).length = 8 * ((cs.length + 7) / 8) := by
      rw [List.length_append, List.length_replicate]
      omega
    refine ⟨_, rfl, one, fun L0 n0 => ?_⟩
    have g0 := grow (o := .lst [V.int 0]) n0
    refine ⟨_, rfl, p, _, rfl, .inl (SqL.of (g0 _ _ hp)), _, rfl, _, 8, rfl, rfl, (show (0 : Int) < 8 by decide), L0, (k : Int), _, rfl, ?_, upd_same, by omega, by omega, by rw [sizeLine_eq]; simp; omega, fun p1 n1 => ?_⟩
    · rw [List.length_map]
      exact congrArg V.int hk
    rw [Int.toNat_natCast, rep_oneI]
    have g1 := grow (o := .lst ((List.replicate k (0 : Int)).map V.int)) n1
    refine ⟨p, p1, _, _, rfl, rfl, g1 _ _ (g0 _ _ hp), upd_same, by rw [List.length_map, List.length_map, List.length_replicate, sizeLine_eq]; omega, fun p2 n2 => ?_⟩
    rw [← List.map_append]
    have g2 := grow (o := .lst ((cs ++ List.replicate k (0 : Int)).map V.int)) n2
    have z2 := g0.trans (g1.trans g2)
    have wat : ∀ j, j < (cs ++ List.replicate k (0 : Int)).length → (cs ++ List.replicate k (0 : Int))[j]? = some (oneAt (cs.map dig) j) := fun j hj => by
      rw [one_dig c01]
      rcases Nat.lt_or_ge j cs.length with c | c
      · rw [List.getElem?_append_left c, List.getD_eq_getElem?_getD, List.getElem?_eq_getElem c]
        rfl
      · rw [List.getElem?_append_right c, List.getD_eq_getElem?_getD, List.getElem?_eq_none c, List.getElem?_replicate, if_pos (by rw [List.length_append, List.length_replicate] at hj; omega)]
        rfl
    generalize cs ++ List.replicate k (0 : Int) = wh at lw wat z2 g2
    have rg : RgC 0 ((wh.map V.int).length : Int) 8 ((cs.length + 7) / 8) := by
      rw [List.length_map]
      refine ⟨by decide, by decide, rg8n (by omega), ?_⟩
      rw [rangeSize_pos (by decide) (by omega), lw]
      omega
    have hp2 : (upd (upd (upd H L0 (.lst [V.int 0])) p1 (.lst ((List.replicate k (0 : Int)).map V.int))) p2 (.lst (wh.map V.int))) p2 = some (.lst (wh.map V.int)) := upd_same
    generalize upd (upd (upd H L0 (.lst [V.int 0])) p1 (.lst ((List.replicate k (0 : Int)).map V.int))) p2 (.lst (wh.map V.int)) = H2 at z2 hp2
    have tl := (tabs.keep z2) pp hpp
    refine ⟨_, rfl, p2, _, rfl, .inl (SqL.of hp2), _, _, _, _, rfl, rg, tl.g, fun H3 t3 => ?_⟩
    have s3 := same_tab tl t3
    refine gwT_rngC (fun i => V.int (valK (cs.map dig) (8 * i) 8)) (by rw [sizeLine_eq]; omega) (fun _ => rfl) (fun i H4 R hi s4 r => ?_) (fun H4 s4 p5 n5 => ?_)
    · have e0 : (0 : Int) + (i : Nat) * 8 = ((8 * i : Nat) : Int) := by omega
      have e8 : ((8 * i : Nat) : Int) + 8 = ((8 * i + 8 : Nat) : Int) := by omega
      rw [e0]
      refine ⟨_, rfl, _, rfl, _, rfl, _, rfl, _, _, rfl, rfl, _, rfl, p2, _, rfl, SqL.of (s4 _ _ (s3 _ _ hp2)), fun p5 n5 => ?_⟩
      have ec : cutV (wh.map V.int) (some ((8 * i : Nat) : Int)) (some (((8 * i : Nat) : Int) + 8)) = ((wh.drop (8 * i)).take 8).map V.int := by
        rw [e8, cut_mid]
        congr 2
        omega
      dsimp only at n5 ⊢
      rw [ec]
      have l8 : ((wh.drop (8 * i)).take 8).length = 8 := by rw [List.length_take, List.length_drop]; omega
      have ev : valB ((wh.drop (8 * i)).take 8) = valK (cs.map dig) (8 * i) 8 := by
        have := valB_is (cs := cs) (a := 8 * i) (ws := (wh.drop (8 * i)).take 8) (fun k hk => by
          rw [List.getElem?_take, if_pos (by omega), List.getElem?_drop]
          exact wat _ (by omega)) 8 (by omega)
        have e9 : List.take 8 (List.take 8 (wh.drop (8 * i))) = List.take 8 (wh.drop (8 * i)) := List.take_of_length_le (by omega)
        rw [e9] at this
        exact this
      refine ⟨p5, (wh.drop (8 * i)).take 8, rfl, SqL.of upd_same, ?_⟩
      rw [ev]
      exact r _ (grow n5)
    · refine q _ _ (z2.trans (s3.trans (s4.trans (grow n5)))) (SqT.of ?_)
      rw [upd_same]
      unfold packB
      rw [List.map_map, List.length_map]
      rfl
/-! ### the head -/
def spHd (K : PySem.W.Frag) : Sp := fun vs H Q _ => ∃ (D : Addr) (bs : List Int) (g : Int → Nat) (many : Nat), vs = [.ref D, .int (many : Int)] ∧ H D = some (.dK (dF bs fun b => ((g b : Nat) : Int))) ∧ bs.length ≤ 63 ∧ many ≤ 1000 ∧ Tups K H ((numB (bs.length : Int) ++ heads (lsS bs g) ++ numB (many : Int)).map V.int) Q
theorem ok_hd {f : Addr} {fd : FuncData} (Ev : Env K mg) (CNumberBytes : Cal P w K mg base "number_bytes" 1 ["n"] (spNumber K)) (F : Fun K "head_of" "head_of" sHeadOf f fd) : FnOk P w K mg base CX0 2 f fd ["lengths", "many"] (spHd K) := by
  refine F.ok scHeadOf (fun vs H Q E h => ?_) (fun cdv A outer s H vs Q E hr h => ?_)
  · obtain ⟨D, bs, g, many, rfl, _⟩ := h; rfl
  · obtain ⟨D, bs, g, many, rfl, hD, few, fewm, q⟩ := h
    refine ⟨_, (pss_cons (ps_set (i := 2) scHeadOf.nd rfl (.inl rfl) (pe_c CNumberBytes (hr.mono (by omega)) (pa_cons (pe_callB call_lenD (by rfl) Ev.b_len PySem.boot_len (pa_cons (pv 0) pa_nil)) pa_nil)))
      (pss_cons (ps_for PassesOwn.never rfl (pi_list (pe_callB (call_sortedDI rfl) (by rfl) Ev.b_sorted (by decide +kernel) (pa_cons (pv 0) pa_nil))) (pg_name (i := 3) scHeadOf.nd rfl (.inl rfl))
        (pss_one (ps_set (i := 2) scHeadOf.nd rfl (.inl rfl) (pe_op op_catU (pv 2) (pe_tupU (pa_cons (pv 3) (pa_cons (pe_dget (hu1 hr) (pv 0) (pv 3) (fun _ _ => rfl)) pa_nil)))))))
      (pss_one (ps_ret (pe_op op_catU (pv 2) (pe_c CNumberBytes (hr.mono (by omega)) (pa_cons (pv 1) pa_nil))))))), ?_⟩
    have two : (2 : Nat) ≤ sizeLine := by rw [sizeLine_eq]; decide
    refine ⟨_, rfl, D, _, rfl, hD, _, rfl, by omega, by rw [dF_len]; omega, fun H1 t1 s1 h1 => ?_⟩
    rw [dF_len] at h1
    have nl : (numB (bs.length : Int)).length ≤ 6 := numB_few (by omega) (by omega)
    have nl2 : (numB (many : Int)).length ≤ 6 := numB_few (by omega) (by omega)
    refine ⟨_, rfl, D, _, bs, rfl, .inl (s1 _ _ hD), by unfold dF; rw [List.map_map]; rfl, by omega, fun ys p2 per up n2 => ?_⟩
    have ey : ys = bs.mergeSort iLe := iSort_is up per
    have ly : ys.length = bs.length := per.length_eq
    have eS : lsS bs g = ys.map fun b => (((g b : Nat) : Int), b) := by rw [ey]; rfl
    have s2 := s1.trans (grow (o := .lst (ys.map V.int)) n2)
    refine ⟨p2, rfl, ⟨_, SqL.of upd_same⟩, for_list (xs := ys.map V.int) (fun i σ H' => ∃ (t : Addr) (y3 : Option V), σ = [some (.ref D), some (.int (many : Int)), some (.ref t), y3] ∧ Same H H' ∧ H' p2 = some (.lst (ys.map V.int)) ∧ SqT K H' t ((numB (bs.length : Int) ++ heads ((lsS bs g).take i)).map V.int)) ⟨t1, none, rfl, s2, upd_same, ?_⟩ (fun i σ H' _ k => ?_) (fun i x σ H' hx k => ?_) (fun σ H' k => ?_)⟩
    · rw [List.take_zero, show heads [] = [] from rfl, List.append_nil]
      exact keepT (grow n2) h1
    · obtain ⟨_, _, _, _, k, _⟩ := k
      exact SqL.of k
    · obtain ⟨t, y3, rfl, s3, hp3, ht⟩ := k
      obtain ⟨b, hb, rfl⟩ := got hx
      have hbb : b ∈ bs := per.mem_iff.mp (List.mem_of_getElem? hb)
      have gv : some (V.int ((g b : Nat) : Int)) = valV (dF bs fun b => ((g b : Nat) : Int)) (Sum.inl b) := by rw [dF_get, if_pos hbb]
      have hi : i < ys.length := (List.getElem?_eq_some_iff.mp hb).1
      have eg : (lsS bs g)[i]? = some (((g b : Nat) : Int), b) := by rw [eS, List.getElem?_map, hb]; rfl
      refine ⟨_, rfl, _, rfl, _, rfl, _, rfl, D, _, rfl, .inl ⟨_, Sum.inl b, .inl (s3 _ _ hD), rfl, gv⟩, two, fun H4 t4 s4 h4 => ?_⟩
      refine ⟨t, t4, _, _, rfl, rfl, keepT s4 ht, h4, ?_, fun H5 t5 s5 h5 => ⟨t5, _, rfl, s3.trans (s4.trans s5), s5 _ _ (s4 _ _ hp3), ?_⟩⟩
      · rw [List.length_map, List.length_append, heads_len, List.length_take, sizeLine_eq]
        simp only [List.length_cons, List.length_nil]
        omega
      · rw [List.take_add_one, eg, Option.toList_some, heads_snoc, ← List.append_assoc, List.map_append]
        exact h5
    · obtain ⟨t, y3, rfl, s3, hp3, ht⟩ := k
      have lS := lsS_len bs g
      have et : (lsS bs g).take (ys.map V.int).length = lsS bs g := List.take_of_length_le (by rw [List.length_map]; omega)
      rw [et] at ht
      refine ⟨_, rfl, _, rfl, _, rfl, by omega, by omega, fun H4 t4 s4 h4 => ?_⟩
      refine ⟨t, t4, _, _, rfl, rfl, keepT s4 ht, h4, ?_, fun H5 t5 s5 h5 => q _ _ (s3.trans (s4.trans s5)) ?_⟩
      · rw [List.length_map, List.length_map, List.length_append, heads_len, sizeLine_eq]
        omega
      · rw [List.map_append]
        exact h5
/-! ### a body pressed by words -/
def WdV (w : Wd) (kv : Key × V) (H : Hp) : Prop := kv.1 = Sum.inl w.2.2 ∧ ∃ p, kv.2 = V.ref p ∧ H p = some (.lst ((bitsI w.1 w.2.1).map V.int))
theorem wdv_get {H : Hp} {b : Int} : ∀ {W : List Wd} {kvs : List (Key × V)}, Al2 (fun w kv => WdV w kv H) W kvs → ∀ {w : Wd}, (W.find? fun w => decide (w.2.2 = b)) = some w → ∃ p, valV kvs (Sum.inl b) = some (V.ref p) ∧ H p = some (.lst ((bitsI w.1 w.2.1).map V.int))
  | _, _, .nil, w, h => nomatch h
  | v :: W, kv :: kvs, .cons h t, w, e => by
    obtain ⟨h1, p, h2, h3⟩ := h
    by_cases c : v.2.2 = b
    · rw [List.find?_cons_of_pos (by simpa using c)] at e
      cases e
      exact ⟨p, by rw [valV_pos (by rw [h1, c]), h2], h3⟩
    · rw [List.find?_cons_of_neg (by simpa using c)] at e
      obtain ⟨p', k1, k2⟩ := wdv_get t e
      exact ⟨p', by rw [valV_neg fun z => c (by rw [h1] at z; exact Sum.inl.inj z), k1], k2⟩
theorem wdv_new {W : List Wd} {H : Hp} {kvs : List (Key × V)} {i : Nat} (nod : (W.map (·.2.2)).Nodup) (lt : i < W.length) (al : Al2 (fun w kv => WdV w kv H) (W.take i) kvs) {kv : Key × V} (hkv : kv ∈ kvs) (z : kv.1 = Sum.inl W[i].2.2) : False := by
  obtain ⟨w, hw, h1, _⟩ := al.mem hkv
  obtain ⟨k, hk, ek⟩ := List.getElem_of_mem hw
  rw [List.getElem_take] at ek
  rw [List.length_take] at hk
  have := List.pairwise_iff_getElem.mp nod k i (by rw [List.length_map]; omega) (by rw [List.length_map]; omega) (by omega)
  rw [List.getElem_map, List.getElem_map, ek] at this
  rw [h1] at z
  exact this (Sum.inl.inj z)
def bitsB (ls : List (Int × Int)) (body : List Int) : List Int := (body.map fun b => bitsI (wB ls b).1 (wB ls b).2.1).flatten
theorem bitsB_snoc (ls : List (Int × Int)) (body : List Int) (b : Int) : bitsB ls (body ++ [b]) = bitsB ls body ++ bitsI (wB ls b).1 (wB ls b).2.1 := by
  unfold bitsB
  rw [List.map_append, List.flatten_append]
  simp
theorem bitsB_txt (ls : List (Int × Int)) (body : List Int) : (bitsB ls body).map dig = txt ls body := by
  unfold bitsB txt
  rw [List.map_flatten, List.map_map]
  congr 1
  exact List.map_congr_left fun b _ => dig_un _ _
theorem bitsB_01 {ls : List (Int × Int)} {body : List Int} : ∀ c ∈ bitsB ls body, c = 0 ∨ c = 1 := fun c hc => by
  unfold bitsB at hc
  obtain ⟨l, hl, hx⟩ := List.mem_flatten.mp hc
  obtain ⟨b, _, rfl⟩ := List.mem_map.mp hl
  exact bitsI_01 hx
theorem bitsB_len {ls : List (Int × Int)} (F : Fine10 ls) {body : List Int} (h : ∀ b ∈ body, b ∈ ls.map (·.2)) : (bitsB ls body).length ≤ 30 * body.length := by
  have := txt_len F h
  rw [← bitsB_txt, List.length_map] at this
  exact this
def spBWs (K : PySem.W.Frag) (tbs : List Addr) : Sp := fun vs H Q _ => ∃ (p : Addr) (body : List Int), vs = [.ref p] ∧ SqT K H p (body.map V.int) ∧ Byt body ∧ body.length ≤ 100 ∧ (∀ bs : List Int, bs.Nodup → (∀ b ∈ bs, b ∈ body) → bs.length ≤ 63) ∧ Tabs tbs H ∧
  ∀ (bs : List Int) (g : Int → Nat), bs.Nodup → (∀ b, b ∈ bs ↔ b ∈ body) → LenOk bs (fun b => (body.count b : Int)) g → bs = uq body → g = lensOf bs (fun b => (body.count b : Int)) → Tups K H ((written (lsS bs g) body).map V.int) Q
theorem ok_bws {f : Addr} {fd : FuncData} {tb : List Addr} (Ev : Env K mg) (CCounted : Cal P w K mg base "counted" 1 ["body"] (spCnt K)) (CWordLengths : Cal P w K mg base "word_lengths" 1 ["counts"] (spWL K)) (CWordsOf : Cal P w K mg base "words_of" 1 ["lengths"] (spWO K)) (CWordBits : Cal P w K mg base "word_bits" 1 ["number", "length"] (spWBt K)) (CHeadOf : Cal P w K mg base "head_of" 2 ["lengths", "many"] (spHd K)) (CBytesOfBits : Cal P w K mg base "bytes_of_bits" 4 ["bits"] (spBsB K tb)) (F : Fun K "body_words" "body_words" sBodyWords f fd) : FnOk P w K mg base CX0 5 f fd ["body"] (spBWs K tb) := by
  refine F.ok scBodyWords (fun vs H Q E h => ?_) (fun cdv A outer s H vs Q E hr h => ?_)
  · obtain ⟨p, body, rfl, _⟩ := h; rfl
  · obtain ⟨p, body, rfl, hp, hby, few, few63, tabs, q⟩ := h
    refine ⟨_, (pss_cons (ps_set (i := 1) scBodyWords.nd rfl (.inl rfl) (pe_c CWordLengths (hr.mono (by omega)) (pa_cons (pe_c CCounted (hr.mono (by omega)) (pa_cons (pv 0) pa_nil)) pa_nil)))
      (pss_cons (ps_setDc (i := 2) (own := [("length", 5), ("number", 6), ("byte", 4)]) (g := gTup K 3 (gCons (gName 5) (gCons (gName 6) (gCons (gName 4) (gNil))))) (tt := tYes) (by rfl) scBodyWords.nd rfl rfl (sw_trueD rfl rfl rfl (by decide +kernel)) (pi_list (pe_c CWordsOf (hr.mono (by omega)) (pa_cons (pv 1) pa_nil))) (blkOk_by (own := [("length", 5), ("number", 6), ("byte", 4)]) (N := nBodyWords) (sc := defScope sBodyWords) (by decide +kernel)) (fun _ _ _ _ _ => (pg_tup (by rfl) (pgs_cons (pg_name (i := 5) scBodyWords.nd rfl (.inl rfl)) (pgs_cons (pg_name (i := 6) scBodyWords.nd rfl (.inl rfl)) (pgs_cons (pg_name (i := 4) scBodyWords.nd rfl (.inl rfl)) pgs_nil))))) (fun _ _ _ _ _ => pts_nil) (fun _ _ _ _ _ => (pv 4)) (fun _ _ _ _ _ => (pe_c CWordBits (hr.mono (by omega)) (pa_cons (pv 6) (pa_cons (pv 5) pa_nil)))))
      (pss_cons (ps_set (i := 3) scBodyWords.nd rfl (.inl rfl) (pe_lst pa_nil))
      (pss_cons (ps_for PassesOwn.never rfl (pi_tup (pv 0)) (pg_name (i := 4) scBodyWords.nd rfl (.inl rfl))
        (pss_one (ps_expr (pe_bm PySem.F.plainAttrs_list PySem.F.slot_list_extend PySem.F.type_list_extend mt_extend (pv 3) (pa_cons (pe_dget (hu1 hr) (pv 2) (pv 4) (fun _ _ => rfl)) pa_nil)))))
      (pss_one (ps_ret (pe_op op_catU (pe_c CHeadOf (hr.mono (by omega)) (pa_cons (pv 1) (pa_cons (pe_callB call_len_seq (by rfl) Ev.b_len PySem.boot_len (pa_cons (pv 0) pa_nil)) pa_nil))) (pe_c CBytesOfBits (hr.mono (by omega)) (pa_cons (pv 3) pa_nil))))))))), ?_⟩
    refine ⟨_, rfl, p, body, rfl, hp, by omega, fun H1 D bs s1 nD nd mem hD eU => ?_⟩
    have l30 : bs.length ≤ 63 := few63 bs nd fun b hb => (mem b).mp hb
    have pos : ∀ b ∈ bs, (1 : Int) ≤ (body.count b : Int) := fun b hb => by
      have := List.count_pos_iff.mpr ((mem b).mp hb)
      omega
    have tot : (bs.map fun b => (body.count b : Int)).sum ≤ 1000 := by
      rw [sum_all nd fun b hb => (mem b).mpr hb]
      omega
    refine ⟨D, bs, _, rfl, hD, nd, by omega, pos, tot, fun H2 L g s2 nL hL ok eG => ?_⟩
    have fin := q bs g nd mem ok eU eG
    have gd := good_len ok nd (by omega) fun b hb => hby b ((mem b).mp hb)
    have fnS := gd.fine
    have fnU : Fine10 (lsU bs g) := by
      refine ⟨fun p hp => fnS.lng p ((lsS_perm bs g).mem_iff.mpr hp), ?_⟩
      have : kraft (lsU bs g) = kraft (lsS bs g) := by unfold kraft; exact List.Perm.sum_nat ((lsS_perm bs g).symm.map _)
      rw [this]
      exact fnS.kr
    have ew : wds (lsU bs g) = wds (lsS bs g) := wds_perm (lsS_perm bs g).symm
    have ndU : ((lsU bs g).map (·.2)).Nodup := by
      have : (lsU bs g).map (·.2) = bs := by unfold lsU; rw [List.map_map]; exact List.map_id _
      rw [this]
      exact nd
    have z2 := s1.trans s2
    refine ⟨_, rfl, L, lsU bs g, rfl, by rw [lsU_dL]; exact hL, ndU, fnU, by unfold lsU; rw [List.length_map]; omega, fun H3 p3 ws s3 h3 al3 => ⟨p3, rfl, ⟨_, SqL.of h3⟩, fun D4 nD4 => ?_⟩⟩
    rw [ew] at al3
    have z3 := z2.trans s3
    have WV := wds_fit fnS
    have nodb := wds_nodb gd.nd
    have lW : (wds (lsS bs g)).length = bs.length := by rw [wds_len, lsS_len]
    have lal := al3.length
    refine ⟨fun i m H' => m = (wds (lsS bs g)).length - i ∧ i ≤ (wds (lsS bs g)).length ∧ Same H3 H' ∧ ∃ kvs, H' D4 = some (.dK kvs) ∧ Al2 (fun w kv => WdV w kv H') ((wds (lsS bs g)).take i) kvs, ⟨_, rfl, Nat.zero_le _, grow nD4, [], upd_same, .nil⟩, ?_⟩
    rintro i m H4 ⟨rfl, hi, s4, kvs, hD4, al4⟩
    have h34 := s4 _ _ h3
    have lkv := al4.length
    rw [List.length_take] at lkv
    by_cases lt : i < (wds (lsS bs g)).length
    · have lx : i < ws.length := by omega
      have he : (wds (lsS bs g))[i]? = some (wds (lsS bs g))[i] := List.getElem?_eq_getElem lt
      refine .inr ⟨⟨ws, ws[i], SqL.of h34, List.getElem?_eq_getElem lx⟩, fun H' => Same H3 H' ∧ ∃ kvs, H' D4 = some (.dK kvs) ∧ Al2 (fun w kv => WdV w kv H') ((wds (lsS bs g)).take (i + 1)) kvs, fun H' p' => ⟨_, by omega, rfl, lt, p'⟩, fun x H' y => ?_⟩
      obtain ⟨e, y⟩ := y
      subst e
      obtain ⟨w0, e0, t5, rfl, h5⟩ := al3.get (y ws (SqL.of h34))
      rw [he] at e0
      cases e0
      have fw := WV _ (List.getElem_mem lt)
      refine ⟨t5, _, rfl, keepT s4 h5, rfl, _, _, rfl, _, _, rfl, _, _, rfl, rfl, rfl, ?_⟩
      unfold tYes
      dsimp only
      rw [if_pos rfl]
      refine ⟨_, rfl, _, rfl, _, rfl, _, _, rfl, by omega, fun H6 p6 s6 h6 => ?_⟩
      have hD6 := s6 _ _ hD4
      have ne6 : p6 ≠ D4 := fun z => by rw [z, hD6] at h6; cases h6
      refine ⟨kvs, Sum.inl (wds (lsS bs g))[i].2.2, rfl, hD6, by rw [sizeLine_eq]; omega, (s4.trans s6).over nD4 (NC.of hD6 trivial), _, upd_same, ?_⟩
      have mono : ∀ w kv, WdV w kv H' → WdV w kv (upd H6 D4 (.dK (putK kvs (Sum.inl (wds (lsS bs g))[i].2.2) (V.ref p6)))) := fun w kv ⟨a, q, b, c⟩ => by
        have c6 := s6 _ _ c
        exact ⟨a, q, b, by rw [upd_ne fun z => by rw [z, hD6] at c6; cases c6]; exact c6⟩
      rw [putK_new fun kv hkv z => ?_]
      · rw [List.take_add_one, he, Option.toList_some]
        rw [putK_new fun kv hkv z => ?_] at mono
        · exact Al2.snoc (R := fun w kv => WdV w kv (upd H6 D4 (.dK (kvs ++ [(Sum.inl (wds (lsS bs g))[i].2.2, V.ref p6)])))) ⟨rfl, p6, rfl, by rw [upd_ne ne6]; exact h6⟩ (al4.mono mono)
        · exact wdv_new nodb lt al4 hkv z
      · exact wdv_new nodb lt al4 hkv z
    have e : i = (wds (lsS bs g)).length := by omega
    rw [e, List.take_length] at al4
    refine .inl ⟨⟨ws, SqL.of h34, by omega⟩, ?_⟩
    -- the bits of all bytes
    refine ⟨Nat.zero_le _, fun Tl nT => ?_⟩
    have z4 := z3.trans s4
    have gT := grow (o := .lst []) nT
    refine ⟨_, rfl, p, rfl, ⟨_, keepT (z4.trans gT) hp⟩, for_tup (xs := body.map V.int) (fun i σ H' => ∃ (y4 : Option V), σ = [some (.ref p), some (.ref L), some (.ref D4), some (.ref Tl), y4, none, none] ∧ Same H4 H' ∧ H' Tl = some (.lst ((bitsB (lsS bs g) (body.take i)).map V.int))) ⟨none, rfl, gT, upd_same⟩ (fun i σ H' _ k => ?_) (fun i x σ H' hx k => ?_) (fun σ H' k => ?_)⟩
    · obtain ⟨_, _, s5, _⟩ := k
      exact keepT (z4.trans s5) hp
    · obtain ⟨y4, rfl, s5, hT⟩ := k
      obtain ⟨b, hb, rfl⟩ := got hx
      have hbb : b ∈ (lsS bs g).map (·.2) := by
        rw [lsS_snd]
        exact (iSort_perm bs).mem_iff.mpr ((mem b).mpr (List.mem_of_getElem? hb))
      obtain ⟨wf, ewf⟩ : ∃ w, ((wds (lsS bs g)).find? fun w => decide (w.2.2 = b)) = some w := by
        cases e9 : (wds (lsS bs g)).find? fun w => decide (w.2.2 = b) with
        | some w => exact ⟨w, rfl⟩
        | none =>
          exfalso
          have k := wB_is hbb
          have := List.find?_eq_none.mp e9 _ k.1
          exact this (decide_eq_true k.2)
      have ewB : wB (lsS bs g) b = wf := by unfold wB; rw [ewf]; rfl
      obtain ⟨pw, vp, hpw⟩ := wdv_get al4 ewf
      have lwf : (bitsI wf.1 wf.2.1).length ≤ 30 := by
        rw [bitsI_len]
        exact (WV wf (List.mem_of_find?_eq_some ewf)).2.1
      have lbb : (bitsB (lsS bs g) (body.take i)).length ≤ 30 * i := by
        refine Nat.le_trans (bitsB_len fnS fun c hc => ?_) (Nat.mul_le_mul_left 30 (by rw [List.length_take]; omega))
        rw [lsS_snd]
        exact (iSort_perm bs).mem_iff.mpr ((mem c).mpr (List.mem_of_mem_take hc))
      have hi : i < body.length := (List.getElem?_eq_some_iff.mp hb).1
      refine ⟨_, rfl, .inl ⟨rfl, _, SqL.of hT⟩, _, rfl, _, rfl, D4, _, rfl, .inl ⟨kvs, Sum.inl b, .inl (s5 _ _ hD4), rfl, vp.symm⟩, Tl, pw, _, _, rfl, rfl, hT, s5 _ _ hpw, by rw [List.length_map, List.length_map, sizeLine_eq]; omega, ?_⟩
      refine ⟨some (.int b), rfl, keep_new s5 nT, ?_⟩
      rw [upd_same, List.take_add_one, hb, Option.toList_some, bitsB_snoc, ewB, List.map_append]
    · obtain ⟨y4, rfl, s5, hT⟩ := k
      rw [List.length_map, List.take_length] at hT
      have z5 := z4.trans s5
      have hL5 := s5 _ _ (s4 _ _ (s3 _ _ hL))
      have bin : ∀ c ∈ body, c ∈ (lsS bs g).map (·.2) := fun c hc => by
        rw [lsS_snd]
        exact (iSort_perm bs).mem_iff.mpr ((mem c).mpr hc)
      have lbb := bitsB_len fnS bin
      have nl : (numB (bs.length : Int)).length ≤ 6 := numB_few (by omega) (by omega)
      have nl2 : (numB (body.length : Int)).length ≤ 6 := numB_few (by omega) (by omega)
      refine ⟨_, rfl, _, rfl, p, _, rfl, .inr (keepT z5 hp), L, bs, g, body.length, by rw [List.length_map]; rfl, hL5, l30, by omega, fun H8 t8 s8 h8 => ?_⟩
      refine ⟨_, rfl, Tl, bitsB (lsS bs g) body, rfl, s8 _ _ hT, bitsB_01, by omega, tabs.keep (z5.trans s8), fun H9 t9 s9 h9 => ?_⟩
      rw [bitsB_txt] at h9
      refine ⟨t8, t9, _, _, rfl, rfl, keepT s9 h8, h9, ?_, fun H10 t10 s10 h10 => fin _ _ (z5.trans (s8.trans (s9.trans s10))) ?_⟩
      · have lt2 : (txt (lsS bs g) body).length = (bitsB (lsS bs g) body).length := by rw [← bitsB_txt, List.length_map]
        have lS := lsS_len bs g
        simp only [List.length_map, List.length_append, heads_len, packB_len]
        rw [sizeLine_eq]
        omega
      · unfold written
        rw [lsS_len, List.map_append]
        exact h10

/-! ### unpressed, of all kinds -/
open Classical in
/-- the body that bytes of a kind tell -/
noncomputable def unpA (k : Int) (S : List Int) : Option (List Int) :=
  if k = 0 then (if S.length ≤ 1000 then some S else none) else if k = 1 then backF S else if k = 2 then (if h : ∃ B, IsW S B then some h.choose else none) else none
theorem unpA_two {S B : List Int} (h : IsW S B) : unpA 2 S = some B := by
  unfold unpA
  rw [if_neg (by decide), if_neg (by decide), if_pos rfl, dif_pos ⟨B, h⟩]
  congr 1
  exact (Classical.choose_spec (⟨B, h⟩ : ∃ B, IsW S B)).one h
theorem unpA_no {S : List Int} (h : ∀ B, ¬ IsW S B) : unpA 2 S = none := by
  unfold unpA
  rw [if_neg (by decide), if_neg (by decide), if_pos rfl, dif_neg (fun ⟨B, k⟩ => h B k)]
def spUnpA (K : PySem.W.Frag) (tbs : List Addr) (cB : Addr) : Sp := fun vs H Q E => ∃ (k : Int) (p : Addr) (S : List Int), vs = [.int k, .ref p] ∧ SqT K H p (S.map V.int) ∧ Byt S ∧ S.length ≤ 900 ∧ Tabs tbs H ∧
  (∀ body, unpA k S = some body → ∀ H' t, Same H H' → SqT K H' t (body.map V.int) → Q (.ref t) H') ∧ (unpA k S = none → ∀ H', Same H H' → E (.ref cB) none H')
theorem ok_unpA {f : Addr} {fd : FuncData} {tb : List Addr} (Ev : Env K mg) (Ex : Excs K mg e_Cut e_BadForm) (CBodyOfDeeds : CalX P w K mg base "body_of_deeds" 2 ["some"] (spDeedsP K e_BadForm)) (CBodyOfWords : CalX P w K mg base "body_of_words" 5 ["some"] (spBW K tb e_BadForm)) (F : Fun K "unpressed" "unpressed" sUnpressed f fd) : FnOk P w K mg base (L2.CX P w) 6 f fd ["kind", "some"] (spUnpA K tb e_BadForm) := by
  refine F.okX scUnpressed (fun vs H Q E h => ?_) (fun cdv A outer s H vs Q E hr h => ?_)
  · obtain ⟨k, p, S, rfl, _⟩ := h; rfl
  · obtain ⟨k, p, S, rfl, hp, hby, few, tabs, qy, qn⟩ := h
    refine ⟨_, (pss_cons (ps_if (pt_cmpR op_notIn_seq (pv 0) (pe_globT (by rfl) Ev.g_KINDS) (by rfl))
        (pss_one (ps_raiseC (W := fun cls d _ H => E cls d H) rfl (takes_of rfl rfl rfl rfl) Ex.BadForm))
        pss_nil)
      (pss_cons (ps_if (pt_cmpR op_eq (pv 0) pe_int (nomark _))
        (pss_one (ps_ret (pe_cx (E := E) CBodyOfDeeds (hr.mono (by omega)) (takes_of rfl rfl rfl rfl) (pa_cons (pv 1) pa_nil))))
        pss_nil)
      (pss_cons (ps_if (pt_cmpR op_eq (pv 0) pe_int (nomark _))
        (pss_one (ps_ret (pe_cx (E := E) CBodyOfWords (hr.mono (by omega)) (takes_of rfl rfl rfl rfl) (pa_cons (pv 1) pa_nil))))
        pss_nil)
      (pss_cons (ps_if (pt_cmpR op_gt (pe_callB call_len_seq (by rfl) Ev.b_len PySem.boot_len (pa_cons (pv 1) pa_nil)) (pe_globI (by rfl) Ev.g_MOST_OF_BODY) (nomark _))
        (pss_one (ps_raiseC (W := fun cls d _ H => E cls d H) rfl (takes_of rfl rfl rfl rfl) Ex.BadForm))
        pss_nil)
      (pss_one (ps_ret (pv 1))))))), ?_⟩
    by_cases k3 : k = 0 ∨ k = 1 ∨ k = 2
    · refine ⟨_, rfl, fun a ha => ⟨a, _, rfl, .inr (ha _), by rcases k3 with rfl | rfl | rfl <;> rfl, by rcases k3 with rfl | rfl | rfl <;> rfl, _, rfl, ?_⟩⟩
      rcases k3 with rfl | rfl | rfl
      · refine iteF ?_
        refine ⟨_, rfl, rfl, _, rfl, iteF ?_⟩
        refine ⟨_, rfl, rfl, _, rfl, iteF ?_⟩
        refine ⟨_, rfl, p, _, rfl, .inr hp, _, _, rfl, rfl, _, rfl, ite2 (fun y => ?_) (fun y => ?_)⟩
        · have y' := of_decide_eq_true y
          rw [List.length_map] at y'
          omega
        · have e : unpA 0 S = some S := by
            unfold unpA
            rw [if_pos rfl, if_pos (by omega)]
          exact ⟨_, rfl, qy _ e _ _ (Same.refl _) hp⟩
      · refine iteF ?_
        refine ⟨_, rfl, rfl, _, rfl, iteT ?_⟩
        have e : unpA 1 S = backF S := by
          unfold unpA
          rw [if_neg (by decide), if_pos rfl]
        refine ⟨_, rfl, p, S, rfl, hp, hby, by omega, ?_⟩
        rw [← e]
        cases u : unpA 1 S with
        | some b => exact fun H' t s ht => qy b u H' t s ht
        | none => exact fun H' s => qn u H' s
      · refine iteF ?_
        refine ⟨_, rfl, rfl, _, rfl, iteF ?_⟩
        refine ⟨_, rfl, rfl, _, rfl, iteT ?_⟩
        exact ⟨_, rfl, p, S, rfl, hp, hby, few, tabs, fun body h => qy body (unpA_two h), fun h => qn (unpA_no h)⟩
    · have e : unpA k S = none := by
        unfold unpA
        rw [if_neg (fun z => k3 (.inl z)), if_neg (fun z => k3 (.inr (.inl z))), if_neg (fun z => k3 (.inr (.inr z)))]
      refine ⟨_, rfl, fun a ha => ⟨a, _, rfl, .inr (ha _), rfl, rfl, _, rfl, ite2 (fun _ => qn e _ (Same.refl _)) (fun z => ?_)⟩⟩
      have e0 : ¬ k = 0 := fun z => k3 (.inl z)
      have e1 : ¬ k = 1 := fun z => k3 (.inr (.inl z))
      have e2 : ¬ k = 2 := fun z => k3 (.inr (.inr z))
      refine absurd ?_ z
      simp [inV, eqV, e0, e1, e2]
      omega

/-! ### pressed, of all kinds -/
theorem mem_uq : ∀ (l : List Int) (b : Int), b ∈ uq l ↔ b ∈ l := fun l b => by
  have k : ∀ (l a : List Int), b ∈ l.foldl uqStep a ↔ b ∈ a ∨ b ∈ l := by
    intro l
    induction l with
    | nil => intro a; simp
    | cons x r ih =>
      intro a
      rw [List.foldl_cons, ih]
      unfold uqStep
      by_cases h : x ∈ a
      · rw [if_pos h, List.mem_cons]
        constructor
        · rintro (k | k)
          · exact .inl k
          · exact .inr (.inr k)
        · rintro (k | rfl | k)
          · exact .inl k
          · exact .inl h
          · exact .inr k
      · rw [if_neg h, List.mem_append, List.mem_singleton, List.mem_cons, or_assoc]
  unfold uq
  rw [k]
  simp
def wordsB (body : List Int) : List Int := written (lsS (uq body) (lensOf (uq body) fun b => (body.count b : Int))) body
/-- these are the bytes of this kind -/
def PrA (k : Int) (S D : List Int) : Prop := (k = 0 ∧ D = S) ∨ (k = 1 ∧ PrR S D ∧ D.length = cst (lonL S) S.length) ∨ (k = 2 ∧ D = wordsB S)
theorem PrA.one {k : Int} {S D D' : List Int} (a : PrA k S D) (b : PrA k S D') : D = D' := by
  rcases a with ⟨rfl, a⟩ | ⟨rfl, a, _⟩ | ⟨rfl, a⟩
  · rcases b with ⟨_, b⟩ | ⟨z, _⟩ | ⟨z, _⟩
    · rw [a, b]
    · cases z
    · cases z
  · rcases b with ⟨z, _⟩ | ⟨_, b, _⟩ | ⟨z, _⟩
    · cases z
    · exact a.one b
    · cases z
  · rcases b with ⟨z, _⟩ | ⟨z, _⟩ | ⟨_, b⟩
    · cases z
    · cases z
    · rw [a, b]
def spPrA (K : PySem.W.Frag) (tbs : List Addr) : Sp := fun vs H Q _ => ∃ (k : Int) (p : Addr) (S : List Int), vs = [.int k, .ref p] ∧ 0 ≤ k ∧ k ≤ 2 ∧ SqT K H p (S.map V.int) ∧ Byt S ∧ S.length ≤ 63 ∧ Tabs tbs H ∧
  ∀ D : List Int, PrA k S D → Byt D → D.length ≤ 900 → unpA k D = some S → Tups K H (D.map V.int) Q
theorem ok_prA {f : Addr} {fd : FuncData} {tb : List Addr} (Ev : Env K mg) (CBodyDeeds : Cal P w K mg base "body_deeds" 4 ["body"] (spBD K)) (CBodyWords : Cal P w K mg base "body_words" 5 ["body"] (spBWs K tb)) (F : Fun K "pressed" "pressed" sPressed f fd) : FnOk P w K mg base CX0 6 f fd ["kind", "body"] (spPrA K tb) := by
  refine F.ok scPressed (fun vs H Q E h => ?_) (fun cdv A outer s H vs Q E hr h => ?_)
  · obtain ⟨k, p, S, rfl, _⟩ := h; rfl
  · obtain ⟨k, p, S, rfl, k0, k2, hp, hby, few, tabs, q⟩ := h
    refine ⟨_, (pss_cons (ps_if (pt_cmpR op_eq (pv 0) pe_int (nomark _))
        (pss_one (ps_ret (pv 1)))
        pss_nil)
      (pss_cons (ps_if (pt_cmpR op_eq (pv 0) pe_int (nomark _))
        (pss_one (ps_ret (pe_c CBodyDeeds (hr.mono (by omega)) (pa_cons (pv 1) pa_nil))))
        pss_nil)
      (pss_one (ps_ret (pe_c CBodyWords (hr.mono (by omega)) (pa_cons (pv 1) pa_nil)))))), ?_⟩
    have few63 : ∀ bs : List Int, bs.Nodup → (∀ b ∈ bs, b ∈ S) → bs.length ≤ 63 := fun bs nd h => Nat.le_trans (few_of nd h) few
    rcases (show k = 0 ∨ k = 1 ∨ k = 2 by omega) with rfl | rfl | rfl
    · refine ⟨_, rfl, rfl, _, rfl, iteT ?_⟩
      refine ⟨_, rfl, q S (.inl ⟨rfl, rfl⟩) hby (by omega) ?_ _ _ (Same.refl _) hp⟩
      unfold unpA
      rw [if_pos rfl, if_pos (by omega)]
    · refine ⟨_, rfl, rfl, _, rfl, iteF ?_⟩
      refine ⟨_, rfl, rfl, _, rfl, iteT ?_⟩
      refine ⟨_, rfl, p, S, rfl, hp, hby, by omega, fun D bD e lD pr => ?_⟩
      have c := cst_le (L := lonL S) (n := S.length) (fun k hk => lonL_le k hk) _ (Nat.le_refl _)
      refine q D (.inr (.inl ⟨rfl, pr, lD⟩)) bD (by omega) ?_
      unfold unpA
      rw [if_neg (by decide), if_pos rfl]
      exact e
    · refine ⟨_, rfl, rfl, _, rfl, iteF ?_⟩
      refine ⟨_, rfl, rfl, _, rfl, iteF ?_⟩
      refine ⟨_, rfl, p, S, rfl, hp, hby, by omega, few63, tabs, fun bs g nd mem ok eU eG => ?_⟩
      have bin : ∀ b ∈ S, b ∈ (lsS bs g).map (·.2) := fun c hc => by
        rw [lsS_snd]
        exact (iSort_perm bs).mem_iff.mpr ((mem c).mpr hc)
      have l63 := few63 bs nd fun b hb => (mem b).mp hb
      have gd := good_len ok nd (by omega) fun b hb => hby b ((mem b).mp hb)
      have W := written_is gd (by omega) bin
      have wb := written_byt gd (body := S) (by omega)
      have wl := written_len gd (body := S) (by omega)
      have tl := txt_len gd.fine bin
      rw [lsS_len] at wl
      exact q _ (.inr (.inr ⟨rfl, by rw [eG, eU]; rfl⟩)) wb (by omega) (unpA_two W)
/-! ### the best kind -/
structure Best (S : List Int) (k : Nat) (D : List Int) (n0 n1 n2 : Nat) : Prop where
  pr : PrA k S D
  is : (k = 0 ∧ D.length = n0 ∧ n0 ≤ n1 ∧ n0 ≤ n2) ∨ (k = 1 ∧ D.length = n1 ∧ n1 < n0 ∧ n1 ≤ n2) ∨ (k = 2 ∧ D.length = n2 ∧ n2 < n0 ∧ n2 < n1)
/-- the bytes of all kinds, and how many -/
def Kinds (S D0 D1 D2 : List Int) : Prop := PrA 0 S D0 ∧ PrA 1 S D1 ∧ PrA 2 S D2
/-- the best kind and its bytes -/
def BestA (S : List Int) (k : Nat) (D : List Int) : Prop := ∃ D0 D1 D2, Kinds S D0 D1 D2 ∧ Best S k D D0.length D1.length D2.length
theorem BestA.one {S : List Int} {k k' : Nat} {D D' : List Int} (a : BestA S k D) (b : BestA S k' D') : k = k' ∧ D = D' := by
  obtain ⟨A0, A1, A2, ⟨a0, a1, a2⟩, pa, ia⟩ := a
  obtain ⟨B0, B1, B2, ⟨b0, b1, b2⟩, pb, ib⟩ := b
  obtain rfl := a0.one b0
  obtain rfl := a1.one b1
  obtain rfl := a2.one b2
  have e : k = k' := by omega
  subst e
  exact ⟨rfl, pa.one pb⟩
def spBest (K : PySem.W.Frag) (tbs : List Addr) : Sp := fun vs H Q _ => ∃ (p : Addr) (S : List Int), vs = [.ref p] ∧ SqT K H p (S.map V.int) ∧ Byt S ∧ S.length ≤ 63 ∧ Tabs tbs H ∧
  ∀ (k : Nat) (D : List Int), k ≤ 2 → BestA S k D → Byt D → D.length ≤ 900 → unpA k D = some S → ∀ H' t u, Same H H' → SqT K H' u (D.map V.int) → SqT K H' t [.int k, .ref u] → Q (.ref t) H'
theorem min3 {n0 n1 n2 : Int} {m : Int} (hm : m ∈ [n0, n1, n2]) (h : ∀ y ∈ [n0, n1, n2], m ≤ y) : ∃ j, j < 3 ∧ [n0, n1, n2][j]? = some m ∧ (∀ i, i < j → [n0, n1, n2][i]? ≠ some m) ∧ ((j = 0 ∧ m = n0 ∧ n0 ≤ n1 ∧ n0 ≤ n2) ∨ (j = 1 ∧ m = n1 ∧ n1 < n0 ∧ n1 ≤ n2) ∨ (j = 2 ∧ m = n2 ∧ n2 < n0 ∧ n2 < n1)) := by
  have h0 := h n0 (by simp)
  have h1 := h n1 (by simp)
  have h2 := h n2 (by simp)
  by_cases e0 : m = n0
  · exact ⟨0, by decide, by rw [e0]; rfl, fun i hi => by omega, .inl ⟨rfl, e0, by omega, by omega⟩⟩
  · by_cases e1 : m = n1
    · refine ⟨1, by decide, by rw [e1]; rfl, fun i hi => ?_, .inr (.inl ⟨rfl, e1, by omega, by omega⟩)⟩
      obtain rfl : i = 0 := by omega
      exact fun z => e0 (Option.some.inj z).symm
    · have e2 : m = n2 := by
        simp only [List.mem_cons, List.not_mem_nil, or_false] at hm
        omega
      refine ⟨2, by decide, by rw [e2]; rfl, fun i hi => ?_, .inr (.inr ⟨rfl, e2, by omega, by omega⟩)⟩
      rcases (show i = 0 ∨ i = 1 by omega) with rfl | rfl
      · exact fun z => e0 (Option.some.inj z).symm
      · exact fun z => e1 (Option.some.inj z).symm
theorem ok_best {f : Addr} {fd : FuncData} {tb : List Addr} (Ev : Env K mg) (CPressed : Cal P w K mg base "pressed" 6 ["kind", "body"] (spPrA K tb)) (F : Fun K "best_pressed" "best_pressed" sBestPressed f fd) : FnOk P w K mg base CX0 7 f fd ["body"] (spBest K tb) := by
  refine F.ok scBestPressed (fun vs H Q E h => ?_) (fun cdv A outer s H vs Q E hr h => ?_)
  · obtain ⟨p, S, rfl, _⟩ := h; rfl
  · obtain ⟨p, S, rfl, hp, hby, few, tabs, q⟩ := h
    refine ⟨_, (pss_cons (ps_setLc (i := 1) (own := [("kind", 3)]) (g := gName 3) (tt := tYes) (by rfl) scBestPressed.nd rfl rfl (sw_true rfl rfl rfl (by decide +kernel)) (pi_tup (pe_globT (by rfl) Ev.g_KINDS)) (blkOk_by (own := [("kind", 3)]) (N := nBestPressed) (sc := defScope sBestPressed) (by decide +kernel)) (fun _ _ _ _ _ => (pg_name (i := 3) scBestPressed.nd rfl (.inl rfl))) (fun _ _ _ _ _ => pts_nil) (fun _ _ _ _ _ => (pe_c CPressed (hr.mono (by omega)) (pa_cons (pv 3) (pa_cons (pv 0) pa_nil)))))
      (pss_cons (ps_setLc (i := 2) (own := [("some", 4)]) (g := gName 4) (tt := tYes) (by rfl) scBestPressed.nd rfl rfl (sw_true rfl rfl rfl (by decide +kernel)) (pi_list (pv 1)) (blkOk_by (own := [("some", 4)]) (N := nBestPressed) (sc := defScope sBestPressed) (by decide +kernel)) (fun _ _ _ _ _ => (pg_name (i := 4) scBestPressed.nd rfl (.inl rfl))) (fun _ _ _ _ _ => pts_nil) (fun _ _ _ _ _ => (pe_callB (call_len_seqq (K := K) rfl) (by rfl) Ev.b_len PySem.boot_len (pa_cons (pv 4) pa_nil))))
      (pss_cons (ps_set (i := 3) scBestPressed.nd rfl (.inl rfl) (pe_bm PySem.F.plainAttrs_list PySem.F.slot_list_index PySem.F.type_list_index mt_index (pv 2) (pa_cons (pe_callB (cr_min rfl) (by rfl) Ev.b_min (by decide +kernel) (pa_cons (pv 2) pa_nil)) pa_nil)))
      (pss_one (ps_ret (pe_tupU (pa_cons (pv 3) (pa_cons (pe_ix ix_list (pv 1) (pv 3) (fun _ _ => rfl)) pa_nil)))))))), ?_⟩
    have sz : ∀ n : Nat, n ≤ 5000 → n ≤ sizeLine := fun n h => by rw [sizeLine_eq]; omega
    refine fun a ha => ⟨a, rfl, ⟨_, ha _⟩, fun D1 nD => ?_⟩
    refine lcR_tup (es := [(0 : Int), 1, 2]) (tt := tYes) (fun _ => true) (fun k y H => ∃ D, PrA k S D ∧ Byt D ∧ D.length ≤ 900 ∧ unpA k D = some S ∧ IsB K D y H) nD (ha _) rfl (sz _ (by simp)) (fun _ => rfl) (fun e y H H' s' ⟨D, a, b, c, d, g⟩ => ⟨D, a, b, c, d, g.keep s'⟩) (fun e y H us vs' hD _ ⟨D, a, b, c, d, g⟩ => ⟨D, a, b, c, d, g.put hD⟩) (fun j x v H3 R hx hv s3 r => r _ (Same.refl _)) (fun j x v H3 R hx hv _ s3 r => ?_) (fun ys H3 al s3 hD => ?_)
    · have hv' : v = .int x ∧ 0 ≤ x ∧ x ≤ 2 := by
        match j, hx, hv with
        | 0, hx, hv => cases hx; cases hv; exact ⟨rfl, by decide, by decide⟩
        | 1, hx, hv => cases hx; cases hv; exact ⟨rfl, by decide, by decide⟩
        | 2, hx, hv => cases hx; cases hv; exact ⟨rfl, by decide, by decide⟩
      obtain ⟨rfl, x0, x2⟩ := hv'
      exact ⟨_, rfl, _, rfl, x, p, S, rfl, x0, x2, keepT s3 hp, hby, few, tabs.keep s3, fun D pr bD lD un H4 t4 s4 h4 => r _ _ s4 ⟨D, pr, bD, lD, un, t4, rfl, h4⟩⟩
    rw [List.filter_eq_self.mpr (fun _ _ => rfl)] at al
    cases al with
    | cons a0 al1 =>
    cases al1 with
    | cons a1 al2 =>
    cases al2 with
    | cons a2 al3 =>
    cases al3
    obtain ⟨D0, pr0, bD0, lD0, un0, t0, rfl, ht0⟩ := a0
    obtain ⟨D1', pr1, bD1, lD1, un1, t1, rfl, ht1⟩ := a1
    obtain ⟨D2, pr2, bD2, lD2, un2, t2, rfl, ht2⟩ := a2
    -- how many
    refine ⟨_, rfl, D1, rfl, ⟨_, SqL.of hD⟩, fun Dm nM => ?_⟩
    refine lcR_list (es := [((D0.length : Nat) : Int), (D1'.length : Int), (D2.length : Int)]) (tt := tYes) (fun _ => true) (fun n y _ => y = .int n) nM (SqL.of hD) rfl (sz _ (by simp)) (fun _ => rfl) (fun _ _ _ _ _ k => k) (fun _ _ _ _ _ _ _ k => k) (fun j x v H4 R hx hv s4 r => r _ (Same.refl _)) (fun j x v H4 R hx hv _ s4 r => ?_) (fun ys H4 al4 s4 hM => ?_)
    · have hv' : ∃ (t : Addr) (D : List Int), v = .ref t ∧ SqT K H3 t (D.map V.int) ∧ x = (D.length : Int) := by
        match j, hx, hv with
        | 0, hx, hv => cases hx; cases hv; exact ⟨_, _, rfl, ht0, rfl⟩
        | 1, hx, hv => cases hx; cases hv; exact ⟨_, _, rfl, ht1, rfl⟩
        | 2, hx, hv => cases hx; cases hv; exact ⟨_, _, rfl, ht2, rfl⟩
      obtain ⟨t, D, rfl, ht, rfl⟩ := hv'
      refine ⟨_, rfl, t, _, rfl, .inr (keepT s4 ht), r _ _ (Same.refl _) ?_⟩
      rw [List.length_map]
    rw [List.filter_eq_self.mpr (fun _ _ => rfl)] at al4
    have eM : ys = ([((D0.length : Nat) : Int), (D1'.length : Int), (D2.length : Int)] : List Int).map V.int := al4.eq_map
    rw [eM] at hM
    obtain ⟨ns, ens⟩ : ∃ ns, ns = [((D0.length : Nat) : Int), (D1'.length : Int), (D2.length : Int)] := ⟨_, rfl⟩
    rw [← ens] at hM
    refine ⟨_, rfl, .inl ⟨rfl, _, SqL.of hM⟩, _, rfl, Dm, ns, rfl, SqL.of hM, by rw [ens]; show 0 < 3; decide, fun m hm hall => ?_⟩
    rw [ens] at hm hall
    obtain ⟨j, hj, g1, g2, g3⟩ := min3 hm hall
    rw [← ens] at g1 g2
    refine ⟨Dm, _, _, j, _, rfl, rfl, SqL.of hM, rfl, flat_ints _, by rw [List.getElem?_map, g1]; rfl, eqV_int _, ahead_ints g2, ?_⟩
    have best : ∃ D t, BestA S j D ∧ Byt D ∧ D.length ≤ 900 ∧ unpA j D = some S ∧ SqT K H3 t (D.map V.int) ∧ [V.ref t0, V.ref t1, V.ref t2][j]? = some (.ref t) := by
      rcases g3 with ⟨rfl, e, a, b⟩ | ⟨rfl, e, a, b⟩ | ⟨rfl, e, a, b⟩
      · exact ⟨D0, t0, ⟨D0, D1', D2, ⟨pr0, pr1, pr2⟩, pr0, .inl ⟨rfl, rfl, by omega, by omega⟩⟩, bD0, lD0, un0, ht0, rfl⟩
      · exact ⟨D1', t1, ⟨D0, D1', D2, ⟨pr0, pr1, pr2⟩, pr1, .inr (.inl ⟨rfl, rfl, by omega, by omega⟩)⟩, bD1, lD1, un1, ht1, rfl⟩
      · exact ⟨D2, t2, ⟨D0, D1', D2, ⟨pr0, pr1, pr2⟩, pr2, .inr (.inr ⟨rfl, rfl, by omega, by omega⟩)⟩, bD2, lD2, un2, ht2, rfl⟩
    obtain ⟨Db, tb', bst, bDb, lDb, unb, htb, gtb⟩ := best
    exact ⟨_, rfl, _, rfl, _, rfl, D1, _, _, _, rfl, rfl, SqL.of (s4 _ _ hD), atI_nat gtb, sz _ (by simp), fun H5 t5 s5 h5 => q j Db (by omega) bst bDb lDb unb _ t5 tb' ((s3.trans s4).trans s5) (keepT (s4.trans s5) htb) h5⟩

/-! ### a draw -/
def spD : Sp := fun vs H Q _ => ∃ c p m : Int, vs = [.int c, .int p, .int m] ∧ 0 ≤ p ∧ p < 100000 ∧ 0 < m ∧ ∀ d : Int, 0 ≤ d → d < m → Q (.int d) H
theorem ok_d {f : Addr} {fd : FuncData} (Ev : Env K mg) (F : Fun K "_law_d" "_law_d" sLawD f fd) : FnOk P w K mg base CX0 1 f fd ["_law_cell", "_law_place", "_law_many"] spD := by
  refine F.ok scLawD (fun vs H Q E h => ?_) (fun cdv A outer s H vs Q E hr h => ?_)
  · obtain ⟨c, p, m, rfl, _⟩ := h; rfl
  · obtain ⟨c, p, m, rfl, p0, p1, hm, q⟩ := h
    refine ⟨_, (pss_cons (ps_set (i := 3) scLawD.nd rfl (.inl rfl) (pe_op op_mod (pe_op op_add (pv 0) (pe_op op_mul pe_int (pv 1))) pe_int))
      (pss_cons (ps_set (i := 3) scLawD.nd rfl (.inl rfl) (pe_op op_mod (pe_op op_mul (pe_op op_mod (pe_op op_mul (pv 3) (pv 3)) pe_int) pe_int) pe_int))
      (pss_one (ps_ret (pe_op op_mod (pe_op op_fdiv (pv 3) pe_int) (pv 2)))))), ?_⟩
    refine ⟨_, rfl, _, rfl, _, _, rfl, rfl, .inl ⟨by decide, by decide⟩, _, _, rfl, rfl, _, 4294967291, rfl, rfl, (show (0 : Int) < 4294967291 by decide), ?_⟩
    have b := Int.emod_lt_of_pos (c + 104729 * p) (show (0 : Int) < 4294967291 by decide)
    have b' := Int.emod_nonneg (c + 104729 * p) (show (4294967291 : Int) ≠ 0 by decide)
    refine ⟨_, rfl, _, rfl, _, _, rfl, rfl, .inl ⟨by omega, by omega⟩, _, 4294967279, rfl, rfl, (show (0 : Int) < 4294967279 by decide), _, 48271, rfl, rfl, .inr ⟨by decide, by decide⟩, _, 4294967291, rfl, rfl, (show (0 : Int) < 4294967291 by decide), ?_⟩
    refine ⟨_, rfl, _, 64, rfl, rfl, ⟨by decide, by decide⟩, _, rfl, _, _, rfl, rfl, hm, q _ (Int.emod_nonneg _ (Int.ne_of_gt hm)) (Int.emod_lt_of_pos _ hm)⟩

/-! ### two things that are the same -/
def spSameD (K : PySem.W.Frag) (n : Nat) : Sp := fun vs H Q _ => ∃ (u v : V) (d : PyData), vs = [u, v] ∧ Dp K H u d ∧ Dp K H v d ∧ tupsOnly d = true ∧ PyData.depth d ≤ n ∧ ∀ H', Same H H' → Q (.bl true) H'
theorem ok_sameD {f : Addr} {fd : FuncData} (Ev : Env K mg) (F : Fun K "_law_same" "_law_same" sLawSame f fd) (mS : mg "_law_same" = some (.ref f)) (bS : Binds K fd ["_law_told", "_law_due"] []) : ∀ n : Nat, FnOk P w K mg base CX0 (n + 1) f fd ["_law_told", "_law_due"] (spSameD K n) := by
  have flat : ∀ (u v : V) (d : PyData) (H : Hp), Dp K H u d → Dp K H v d → (∀ ds, d ≠ .tuple ds) → tupsOnly d = true → (u = .non ∧ v = .non) ∨ (∃ b, u = .bl b ∧ v = .bl b) ∨ (∃ i, u = .int i ∧ v = .int i) ∨ (∃ x, u = .str x ∧ v = .str x) := by
    intro u v d H hu hv nt ok
    cases d with
    | none => cases hu; cases hv; exact .inl ⟨rfl, rfl⟩
    | bool b => cases hu; cases hv; exact .inr (.inl ⟨b, rfl, rfl⟩)
    | int i => cases hu; cases hv; exact .inr (.inr (.inl ⟨i, rfl, rfl⟩))
    | str x => cases hu; cases hv; exact .inr (.inr (.inr ⟨x, rfl, rfl⟩))
    | list ds => cases ok
    | tuple ds => exact absurd rfl (nt ds)
    | dict kvs => cases ok
  intro n
  induction n with
  | zero =>
    refine F.ok scLawSame (fun vs H Q E h => ?_) (fun cdv A outer s H vs Q E hr h => ?_)
    · obtain ⟨u, v, d, rfl, _⟩ := h; rfl
    · obtain ⟨u, v, d, rfl, hu, hv, ok, dp, q⟩ := h
      refine ⟨_, (pss_cons (ps_if (pt_cmpR op_isN (pv 1) pe_non (nomark _))
        (pss_one (ps_ret (pe_cmpR op_isN (pv 0) pe_non (nomark _))))
        pss_nil)
      (pss_cons (ps_if (pt_val (pe_callB call_isi (by rfl) Ev.b_isinstance (by decide +kernel) (pa_cons (pv 1) (pa_cons (pe_btype (n := "bool") (by rfl) Ev.b_bool (by decide +kernel)) pa_nil))))
        (pss_one (ps_ret (pe_and (pe_callB call_isi (by rfl) Ev.b_isinstance (by decide +kernel) (pa_cons (pv 0) (pa_cons (pe_btype (n := "bool") (by rfl) Ev.b_bool (by decide +kernel)) pa_nil))) (pe_one (pe_cmpR op_eq (pv 0) (pv 1) (nomark _))))))
        pss_nil)
      (pss_cons (ps_if (pt_val (pe_callB call_isi (by rfl) Ev.b_isinstance (by decide +kernel) (pa_cons (pv 1) (pa_cons (pe_btype (n := "tuple") (by rfl) Ev.b_tuple (by decide +kernel)) pa_nil))))
        pss_never
        pss_nil)
      (pss_cons (ps_if (pt_val (pe_callB call_isi (by rfl) Ev.b_isinstance (by decide +kernel) (pa_cons (pv 1) (pa_cons (pe_btype (n := "str") (by rfl) Ev.b_str (by decide +kernel)) pa_nil))))
        (pss_one (ps_ret (pe_and (pe_callB call_isi (by rfl) Ev.b_isinstance (by decide +kernel) (pa_cons (pv 0) (pa_cons (pe_btype (n := "str") (by rfl) Ev.b_str (by decide +kernel)) pa_nil))) (pe_one (pe_cmpR op_eq (pv 0) (pv 1) (nomark _))))))
        pss_nil)
      (pss_one (ps_ret (pe_and (pe_callB call_isi (by rfl) Ev.b_isinstance (by decide +kernel) (pa_cons (pv 0) (pa_cons (pe_btype (n := "int") (by rfl) Ev.b_int (by decide +kernel)) pa_nil))) (pe_and (pe_not (pe_callB call_isi (by rfl) Ev.b_isinstance (by decide +kernel) (pa_cons (pv 0) (pa_cons (pe_btype (n := "bool") (by rfl) Ev.b_bool (by decide +kernel)) pa_nil)))) (pe_one (pe_cmpR op_eq (pv 0) (pv 1) (nomark _))))))))))), ?_⟩
      have nt : ∀ ds, d ≠ .tuple ds := fun ds z => by
        rw [z, PyData.depth] at dp
        omega
      · have _u := nt
        rcases flat u v d H hu hv nt ok with ⟨rfl, rfl⟩ | ⟨b, rfl, rfl⟩ | ⟨i, rfl, rfl⟩ | ⟨x, rfl, rfl⟩
        · refine ⟨_, rfl, rfl, _, rfl, iteT ?_⟩
          exact ⟨_, rfl, rfl, q _ (Same.refl _)⟩
        · refine ⟨_, rfl, rfl, _, rfl, iteF ?_⟩
          refine ⟨.bl b, rfl, _, _, _, _, true, rfl, .ty "bool", .base (.bl _), k_bb, true, rfl, iteT ?_⟩
          refine ⟨.bl b, rfl, _, _, _, _, true, rfl, .ty "bool", .base (.bl _), k_bb, true, rfl, iteT ?_⟩
          refine ⟨.bl b, rfl, .bl b, rfl, rfl, ?_⟩
          rw [decide_eq_true rfl]
          exact q _ (Same.refl _)
        · refine ⟨_, rfl, rfl, _, rfl, iteF ?_⟩
          refine ⟨.int i, rfl, _, _, _, _, false, rfl, .ty "bool", .base (.int _), k_ib, false, rfl, iteF ?_⟩
          refine ⟨.int i, rfl, _, _, _, _, false, rfl, .ty "tuple", .base (.int _), k_it, false, rfl, iteF ?_⟩
          refine ⟨.int i, rfl, _, _, _, _, false, rfl, .ty "str", .base (.int _), k_is', false, rfl, iteF ?_⟩
          refine ⟨.int i, rfl, _, _, _, _, true, rfl, .ty "int", .base (.int _), k_ii, true, rfl, iteT ?_⟩
          refine ⟨.int i, rfl, _, _, _, _, false, rfl, .ty "bool", .base (.int _), k_ib, false, rfl, true, rfl, iteT ?_⟩
          refine ⟨.int i, rfl, .int i, rfl, rfl, ?_⟩
          rw [decide_eq_true rfl]
          exact q _ (Same.refl _)
        · refine ⟨_, rfl, rfl, _, rfl, iteF ?_⟩
          refine ⟨.str x, rfl, _, _, _, _, false, rfl, .ty "bool", .base (.str _), k_sb, false, rfl, iteF ?_⟩
          refine ⟨.str x, rfl, _, _, _, _, false, rfl, .ty "tuple", .base (.str _), k_st, false, rfl, iteF ?_⟩
          refine ⟨.str x, rfl, _, _, _, _, true, rfl, .ty "str", .base (.str _), k_ss, true, rfl, iteT ?_⟩
          refine ⟨.str x, rfl, _, _, _, _, true, rfl, .ty "str", .base (.str _), k_ss, true, rfl, iteT ?_⟩
          refine ⟨.str x, rfl, .str x, rfl, rfl, ?_⟩
          rw [decide_eq_true rfl]
          exact q _ (Same.refl _)

  | succ n ih =>
    have CLawSame : Cal P w K mg base "_law_same" (n + 1) ["_law_told", "_law_due"] (spSameD K n) := ⟨f, fd, ih, mS, F.kp, bS⟩
    refine F.ok scLawSame (fun vs H Q E h => ?_) (fun cdv A outer s H vs Q E hr h => ?_)
    · obtain ⟨u, v, d, rfl, _⟩ := h; rfl
    · obtain ⟨u, v, d, rfl, hu, hv, ok, dp, q⟩ := h
      refine ⟨_, (pss_cons (ps_if (pt_cmpR op_isN (pv 1) pe_non (nomark _))
        (pss_one (ps_ret (pe_cmpR op_isN (pv 0) pe_non (nomark _))))
        pss_nil)
      (pss_cons (ps_if (pt_val (pe_callB call_isi (by rfl) Ev.b_isinstance (by decide +kernel) (pa_cons (pv 1) (pa_cons (pe_btype (n := "bool") (by rfl) Ev.b_bool (by decide +kernel)) pa_nil))))
        (pss_one (ps_ret (pe_and (pe_callB call_isi (by rfl) Ev.b_isinstance (by decide +kernel) (pa_cons (pv 0) (pa_cons (pe_btype (n := "bool") (by rfl) Ev.b_bool (by decide +kernel)) pa_nil))) (pe_one (pe_cmpR op_eq (pv 0) (pv 1) (nomark _))))))
        pss_nil)
      (pss_cons (ps_if (pt_val (pe_callB call_isi (by rfl) Ev.b_isinstance (by decide +kernel) (pa_cons (pv 1) (pa_cons (pe_btype (n := "tuple") (by rfl) Ev.b_tuple (by decide +kernel)) pa_nil))))
        (pss_cons (ps_if (PW.pt (pw_or (pt_not (pt_val (pe_callB call_isi (by rfl) Ev.b_isinstance (by decide +kernel) (pa_cons (pv 0) (pa_cons (pe_btype (n := "tuple") (by rfl) Ev.b_tuple (by decide +kernel)) pa_nil))))) (pw_or1 (pt_cmpR op_ne (pe_callB call_len_seq (by rfl) Ev.b_len PySem.boot_len (pa_cons (pv 0) pa_nil)) (pe_callB call_len_seq (by rfl) Ev.b_len PySem.boot_len (pa_cons (pv 1) pa_nil)) (nomark _)))))
          (pss_one (ps_ret pe_bl))
          pss_nil)
        (pss_one (ps_ret (pe_callB (cr_all rfl) (by rfl) Ev.b_all (by decide +kernel) (pa_cons (pe_lc (own := [("_law_one", 2), ("_law_other", 3)]) (g := gTup K 2 (gCons (gName 2) (gCons (gName 3) (gNil)))) (tt := tYes) (by rfl) scLawSame.nd (RZ.pi_zipA (by rfl) Ev.b_zip (pa_cons (pv 0) (pa_cons (pv 1) pa_nil))) (blkOk_by (own := [("_law_one", 2), ("_law_other", 3)]) (N := nLawSame) (sc := defScope sLawSame) (by decide +kernel)) (fun _ _ _ _ _ => (pg_tup (by rfl) (pgs_cons (pg_name (i := 2) scLawSame.nd rfl (.inl rfl)) (pgs_cons (pg_name (i := 3) scLawSame.nd rfl (.inl rfl)) pgs_nil)))) (fun _ _ _ _ _ => pts_nil) (fun _ _ _ _ _ => (pe_c CLawSame (hr.mono (by omega)) (pa_cons (pv 2) (pa_cons (pv 3) pa_nil))))) pa_nil)))))
        pss_nil)
      (pss_cons (ps_if (pt_val (pe_callB call_isi (by rfl) Ev.b_isinstance (by decide +kernel) (pa_cons (pv 1) (pa_cons (pe_btype (n := "str") (by rfl) Ev.b_str (by decide +kernel)) pa_nil))))
        (pss_one (ps_ret (pe_and (pe_callB call_isi (by rfl) Ev.b_isinstance (by decide +kernel) (pa_cons (pv 0) (pa_cons (pe_btype (n := "str") (by rfl) Ev.b_str (by decide +kernel)) pa_nil))) (pe_one (pe_cmpR op_eq (pv 0) (pv 1) (nomark _))))))
        pss_nil)
      (pss_one (ps_ret (pe_and (pe_callB call_isi (by rfl) Ev.b_isinstance (by decide +kernel) (pa_cons (pv 0) (pa_cons (pe_btype (n := "int") (by rfl) Ev.b_int (by decide +kernel)) pa_nil))) (pe_and (pe_not (pe_callB call_isi (by rfl) Ev.b_isinstance (by decide +kernel) (pa_cons (pv 0) (pa_cons (pe_btype (n := "bool") (by rfl) Ev.b_bool (by decide +kernel)) pa_nil)))) (pe_one (pe_cmpR op_eq (pv 0) (pv 1) (nomark _))))))))))), ?_⟩
      by_cases tt : ∃ ds, d = .tuple ds
      · obtain ⟨ds, rfl⟩ := tt
        cases hu with
        | @tup p xs _ hp hxs =>
        cases hv with
        | @tup r ys _ hq hys =>
        rw [tupsOnly, Bool.and_eq_true] at ok
        have few : ds.length ≤ 100000 := of_decide_eq_true ok.1
        have lx := dpLen hxs
        have ly := dpLen hys
        refine ⟨_, rfl, rfl, _, rfl, iteF ?_⟩
        refine ⟨.ref r, rfl, _, _, _, _, false, rfl, .ty "bool", ty_tup hq, k_tb, false, rfl, iteF ?_⟩
        refine ⟨.ref r, rfl, _, _, _, _, true, rfl, .ty "tuple", ty_tup hq, k_tt, true, rfl, iteT ?_⟩
        refine ⟨.ref p, rfl, _, _, _, _, true, rfl, .ty "tuple", ty_tup hp, k_tt, true, rfl, iteF ?_⟩
        refine ⟨_, rfl, p, _, rfl, .inr hp, _, rfl, r, _, rfl, .inr hq, rfl, _, rfl, iteNS (by rw [lx, ly]) ?_⟩
        refine ⟨_, rfl, _, rfl, p, r, _, _, rfl, .inr ⟨hp, hq, fun D nD => ?_⟩⟩
        have lz : ((List.replicate ds.length true).map V.bl).length = xs.length := by rw [List.length_map, List.length_replicate, lx]
        refine lc_zip (xs := xs) (ys := ys) (zs := (List.replicate ds.length true).map V.bl) nD hp hq (by omega) lz ?_ (fun _ _ => rfl) (fun i x y z H2 R hx hy hz sm R1 => ?_) (fun H2 sm h2 => ?_)
        · rw [lx, sizeLine_eq]
          omega
        · obtain ⟨d1, e1, k1⟩ := dpGet hxs hx
          obtain ⟨d2, e2, k2⟩ := dpGet hys hy
          have ed : d1 = d2 := Option.some.inj (e1.symm.trans e2)
          subst ed
          have ez : z = .bl true := by
            rw [List.getElem?_map] at hz
            cases e : (List.replicate ds.length true)[i]? with
            | none => rw [e] at hz; cases hz
            | some b =>
              rw [e] at hz
              have eb : b = true := List.eq_of_mem_replicate (List.mem_of_getElem? e)
              rw [eb] at hz
              exact (Option.some.inj hz).symm
          subst ez
          have dd := depth_get e1
          rw [PyData.depth] at dp
          exact ⟨_, rfl, _, rfl, x, y, d1, rfl, dpKeep sm k1, dpKeep sm k2, tupsAll_get ok.2 e1, by omega, fun H' e => R1 _ e⟩
        · refine ⟨D, List.replicate ds.length true, rfl, SqL.of h2, ?_⟩
          have e : (List.replicate ds.length true).all id = true := by
            rw [List.all_eq_true]
            intro b hb
            rw [List.eq_of_mem_replicate hb]
            rfl
          rw [e]
          exact q _ sm
      · have nt : ∀ ds, d ≠ .tuple ds := fun ds z => tt ⟨ds, z⟩
        rcases flat u v d H hu hv nt ok with ⟨rfl, rfl⟩ | ⟨b, rfl, rfl⟩ | ⟨i, rfl, rfl⟩ | ⟨x, rfl, rfl⟩
        · refine ⟨_, rfl, rfl, _, rfl, iteT ?_⟩
          exact ⟨_, rfl, rfl, q _ (Same.refl _)⟩
        · refine ⟨_, rfl, rfl, _, rfl, iteF ?_⟩
          refine ⟨.bl b, rfl, _, _, _, _, true, rfl, .ty "bool", .base (.bl _), k_bb, true, rfl, iteT ?_⟩
          refine ⟨.bl b, rfl, _, _, _, _, true, rfl, .ty "bool", .base (.bl _), k_bb, true, rfl, iteT ?_⟩
          refine ⟨.bl b, rfl, .bl b, rfl, rfl, ?_⟩
          rw [decide_eq_true rfl]
          exact q _ (Same.refl _)
        · refine ⟨_, rfl, rfl, _, rfl, iteF ?_⟩
          refine ⟨.int i, rfl, _, _, _, _, false, rfl, .ty "bool", .base (.int _), k_ib, false, rfl, iteF ?_⟩
          refine ⟨.int i, rfl, _, _, _, _, false, rfl, .ty "tuple", .base (.int _), k_it, false, rfl, iteF ?_⟩
          refine ⟨.int i, rfl, _, _, _, _, false, rfl, .ty "str", .base (.int _), k_is', false, rfl, iteF ?_⟩
          refine ⟨.int i, rfl, _, _, _, _, true, rfl, .ty "int", .base (.int _), k_ii, true, rfl, iteT ?_⟩
          refine ⟨.int i, rfl, _, _, _, _, false, rfl, .ty "bool", .base (.int _), k_ib, false, rfl, true, rfl, iteT ?_⟩
          refine ⟨.int i, rfl, .int i, rfl, rfl, ?_⟩
          rw [decide_eq_true rfl]
          exact q _ (Same.refl _)
        · refine ⟨_, rfl, rfl, _, rfl, iteF ?_⟩
          refine ⟨.str x, rfl, _, _, _, _, false, rfl, .ty "bool", .base (.str _), k_sb, false, rfl, iteF ?_⟩
          refine ⟨.str x, rfl, _, _, _, _, false, rfl, .ty "tuple", .base (.str _), k_st, false, rfl, iteF ?_⟩
          refine ⟨.str x, rfl, _, _, _, _, true, rfl, .ty "str", .base (.str _), k_ss, true, rfl, iteT ?_⟩
          refine ⟨.str x, rfl, _, _, _, _, true, rfl, .ty "str", .base (.str _), k_ss, true, rfl, iteT ?_⟩
          refine ⟨.str x, rfl, .str x, rfl, rfl, ?_⟩
          rw [decide_eq_true rfl]
          exact q _ (Same.refl _)


/-! ### the law's bytes -/
def spFew (K : PySem.W.Frag) : Sp := fun vs H Q _ => ∃ (a : Addr) (ns : List Int) (b e : Nat), vs = [.ref a, .int (b : Int), .int (e : Int)] ∧ SqL K H a (ns.map V.int) ∧ ns.length ≤ 63 ∧ ∀ bs : List Int, (∀ x ∈ bs, 0 ≤ x ∧ x < 256) → bs.length = min (e - b) (ns.length - b) → Tups K H (bs.map V.int) Q
theorem ok_few {f : Addr} {fd : FuncData} (Ev : Env K mg) (CLawD : Cal P w K mg base "_law_d" 1 ["_law_cell", "_law_place", "_law_many"] spD) (F : Fun K "_law_few" "_law_few" sLawFew f fd) : FnOk P w K mg base CX0 2 f fd ["_law_script", "_law_begin", "_law_end"] (spFew K) := by
  refine F.ok scLawFew (fun vs H Q E h => ?_) (fun cdv A outer s H vs Q E hr h => ?_)
  · obtain ⟨a, ns, b, e, rfl, _⟩ := h; rfl
  · obtain ⟨a, ns, b, e, rfl, hS, hz, q⟩ := h
    refine ⟨_, (pss_cons (ps_set (i := 3) scLawFew.nd rfl (.inr rfl) pe_int)
      (pss_cons (ps_if (pt_truth (pv 0) (by intro _; rfl))
        (pss_one (ps_set (i := 3) scLawFew.nd rfl (.inr rfl) (pe_ix ix_list (pv 0) pe_int (fun _ _ => rfl))))
        pss_nil)
      (pss_cons (ps_set (i := 4) scLawFew.nd rfl (.inr rfl) (pe_ix ix_list (pe_lst (pa_cons pe_int (pa_cons pe_int (pa_cons pe_int (pa_cons pe_int pa_nil))))) (pe_c CLawD (hr.mono (by omega)) (pa_cons (pv 3) (pa_cons pe_int (pa_cons pe_int pa_nil)))) (fun _ _ => rfl)))
      (pss_one (ps_ret (pe_callTy call_tupleU (by rfl) Ev.b_tuple (by decide +kernel) (pa_cons (pe_lc (own := [("_law_one", 5)]) (g := gName 5) (tt := tYes) (by rfl) scLawFew.nd (pi_list (pe_slice sl_list (pv 0) (po_some (pv 1)) (po_some (pv 2)))) (blkOk_by (own := [("_law_one", 5)]) (N := nLawFew) (sc := defScope sLawFew) (by decide +kernel)) (fun _ _ _ _ _ => (pg_name (i := 5) scLawFew.nd rfl (.inl rfl))) (fun _ _ _ _ _ => pts_nil) (fun _ _ _ _ _ => (pe_op op_mod (pe_op op_add (pe_op op_mod (pv 5) (pv 4)) (pe_op op_fdiv (pv 3) pe_int)) pe_int))) pa_nil))))))), ?_⟩
    refine seq_c (v := .int 0) (i := 3) ?_
    dsimp only
    refine seq_by (t := tIfS _ _ _) (fun σ H' => H' = H ∧ ∃ c : Int, σ = [some (.ref a), some (.int (b : Int)), some (.int (e : Int)), some (.int c), none, none]) (fun σ H' p => ?_) (fun go => ?_)
    · obtain ⟨rfl, c, rfl⟩ := p
      refine ⟨(show 4 ≤ sizeLine by rw [sizeLine_eq]; decide), fun pl nl => ?_⟩
      refine ⟨_, rfl, _, _, _, rfl, by decide, by decide, by decide, fun d d0 d1 => ?_⟩
      have hw : ∃ wd : Int, atI [V.int 2, .int 3, .int 5, .int 256] d = some (.int wd) ∧ 0 < wd := by
        have : d = 0 ∨ d = 1 ∨ d = 2 ∨ d = 3 := by omega
        rcases this with rfl | rfl | rfl | rfl
        · exact ⟨2, rfl, by decide⟩
        · exact ⟨3, rfl, by decide⟩
        · exact ⟨5, rfl, by decide⟩
        · exact ⟨256, rfl, by decide⟩
      obtain ⟨wd, aw, pw⟩ := hw
      refine ⟨pl, _, _, _, rfl, rfl, SqL.of upd_same, aw, ?_⟩
      have s1 : Same H' (upd H' pl (.lst [V.int 2, .int 3, .int 5, .int 256])) := grow nl
      generalize upd H' pl (.lst [V.int 2, .int 3, .int 5, .int 256]) = H1 at s1
      refine ⟨_, rfl, _, rfl, (b : Int), rfl, _, rfl, (e : Int), rfl, a, _, rfl, s1.seq hS, fun p np => ⟨p, rfl, ⟨_, SqL.of upd_same⟩, fun D nD => ?_⟩⟩
      rw [cut_mid] at nD ⊢
      obtain ⟨bs, ebs⟩ : ∃ bs : List Int, bs = ((ns.drop b).take (e - b)).map fun n => (n % wd + c / 4) % 256 := ⟨_, rfl⟩
      have hbs : ∀ x ∈ bs, 0 ≤ x ∧ x < 256 := by
        intro x hx
        rw [ebs] at hx
        obtain ⟨y, _, rfl⟩ := List.mem_map.mp hx
        omega
      have lbs : bs.length = ((ns.drop b).take (e - b)).length := by rw [ebs, List.length_map]
      have lbs2 : bs.length = min (e - b) (ns.length - b) := by rw [lbs, List.length_take, List.length_drop]
      refine lc_row (xs := ((ns.drop b).take (e - b)).map V.int) (ys := bs.map V.int) nD (SqL.of upd_same) ?_ ?_ (fun _ => rfl) (fun i x y H2 R hx hy sm r => ?_) (fun H2 sm h2 => ?_)
      · rw [List.length_map, List.length_map, lbs]
      · rw [List.length_map, List.length_take, List.length_drop]
        exact Nat.le_of_lt (small1000 (by omega))
      · obtain ⟨n, hn, rfl⟩ := got hx
        have ey : y = .int ((n % wd + c / 4) % 256) := by
          rw [ebs, List.getElem?_map, List.getElem?_map, hn] at hy
          exact (Option.some.inj hy).symm
        subst ey
        exact ⟨_, rfl, _, rfl, _, _, rfl, rfl, pw, _, rfl, _, 4, rfl, rfl, ⟨by decide, by decide⟩, _, _, rfl, rfl, _, 256, rfl, rfl, (show (0 : Int) < 256 by decide), r _ (Same.refl _)⟩
      · exact ⟨D, _, rfl, SqL.of h2, fun H3 t s3 h3 => q bs hbs lbs2 _ _ (s1.trans (((grow np).trans sm).trans s3)) h3⟩
    · refine ⟨_, rfl, _, .inl ⟨_, hS, rfl⟩, ite2 (fun z => ?_) (fun _ => go _ _ ⟨rfl, 0, rfl⟩)⟩
      have hns : 0 < ns.length := by
        cases ns with
        | nil => cases z
        | cons x r => exact Nat.zero_lt_succ _
      have g0 : (ns.map V.int)[0]? = some (.int ns[0]) := by rw [List.getElem?_map, List.getElem?_eq_getElem hns]; rfl
      exact ⟨_, rfl, a, _, 0, _, rfl, rfl, hS, at_of (j := 0) rfl g0, go _ _ ⟨rfl, _, rfl⟩⟩

/-! ### best_kind -/
def spBK (K : PySem.W.Frag) (tbs : List Addr) : Sp := fun vs H Q _ => ∃ (p : Addr) (S : List Int), vs = [.ref p] ∧ SqT K H p (S.map V.int) ∧ Byt S ∧ S.length ≤ 63 ∧ Tabs tbs H ∧
  ∀ (k : Nat) (D : List Int), k ≤ 2 → BestA S k D → ∀ H', Same H H' → Q (.int k) H'
theorem ok_bk {f : Addr} {fd : FuncData} {tb : List Addr} (Ev : Env K mg) (CBestPressed : Cal P w K mg base "best_pressed" 7 ["body"] (spBest K tb)) (F : Fun K "best_kind" "best_kind" sBestKind f fd) : FnOk P w K mg base CX0 8 f fd ["body"] (spBK K tb) := by
  refine F.ok scBestKind (fun vs H Q E h => ?_) (fun cdv A outer s H vs Q E hr h => ?_)
  · obtain ⟨p, S, rfl, _⟩ := h; rfl
  · obtain ⟨p, S, rfl, hp, hby, few, tabs, q⟩ := h
    refine ⟨_, (pss_one (ps_ret (pe_ix ix_tup (pe_c CBestPressed (hr.mono (by omega)) (pa_cons (pv 0) pa_nil)) pe_int (fun _ _ => rfl)))), ?_⟩
    exact ⟨_, rfl, p, S, rfl, hp, hby, few, tabs, fun k D k2 b _ _ _ H1 t u s1 _ ht => ⟨t, _, 0, _, rfl, rfl, ht, at_of (j := 0) rfl rfl, q k D k2 b _ s1⟩⟩
/-! ### the law of the best kind -/
theorem rp_map (k : Nat) (l : List Int) : (List.replicate k (l.map V.int)).flatten = ((List.replicate k l).flatten).map V.int := by
  rw [List.map_flatten, List.map_replicate]
theorem rp_len (k : Nat) (l : List Int) : ((List.replicate k l).flatten).length = k * l.length := by
  induction k with
  | zero => simp
  | succ k ih => rw [List.replicate_succ, List.flatten_cons, List.length_append, ih, Nat.succ_mul]; omega
theorem rp_mem {k : Nat} {l : List Int} {x : Int} (h : x ∈ (List.replicate k l).flatten) : x ∈ l := by
  obtain ⟨m, hm, hx⟩ := List.mem_flatten.mp h
  rw [List.eq_of_mem_replicate hm] at hx
  exact hx
def spLaw (K : PySem.W.Frag) (tbs : List Addr) : Sp := fun vs H Q _ => ∃ (a : Addr) (ns : List Int), vs = [.ref a] ∧ SqL K H a (ns.map V.int) ∧ ns.length ≤ 63 ∧ Tabs tbs H ∧ ∀ H', Q (.bl true) H'
theorem ok_law {f : Addr} {fd : FuncData} {tb : List Addr} (Ev : Env K mg) (CLawSame : Cal P w K mg base "_law_same" 3 ["_law_told", "_law_due"] (spSameD K 2)) (CLawFew : Cal P w K mg base "_law_few" 2 ["_law_script", "_law_begin", "_law_end"] (spFew K)) (CPressed : Cal P w K mg base "pressed" 6 ["kind", "body"] (spPrA K tb)) (CUnpressed : CalX P w K mg base "unpressed" 6 ["kind", "some"] (spUnpA K tb e_BadForm)) (CBestKind : Cal P w K mg base "best_kind" 8 ["body"] (spBK K tb)) (F : Fun K "law" "law" sLaw f fd) : FnOk P w K mg base CX0 9 f fd ["_law_script"] (spLaw K tb) := by
  refine F.ok scLaw (fun vs H Q E h => ?_) (fun cdv A outer s H vs Q E hr h => ?_)
  · obtain ⟨a, ns, rfl, _⟩ := h; rfl
  · obtain ⟨a, ns, rfl, hS, hz, tabs, q⟩ := h
    refine ⟨_, (pss_cons (ps_set (i := 1) scLaw.nd rfl (.inr rfl) (pe_c CLawFew (hr.mono (by omega)) (pa_cons (pv 0) (pa_cons pe_int (pa_cons pe_int pa_nil)))))
      (pss_cons (ps_if (PW.pt (pw_and (pt_truth (pv 0) (by intro _; rfl)) (pw_and1 (pt_cmpR op_eq (pe_op op_mod (pe_op op_fdiv (pe_ix ix_list (pv 0) pe_int (fun _ _ => rfl)) pe_int) pe_int) pe_int (nomark _)))))
        (pss_one (ps_set (i := 1) scLaw.nd rfl (.inr rfl) (pe_op op_catU (pv 1) (pe_callTy call_tupleU (by rfl) Ev.b_tuple (by decide +kernel) (pa_cons (pe_lc (own := [("_law_one", 5)]) (g := gName 5) (tt := tYes) (by rfl) scLaw.nd (pi_list (pe_slice sl_list (pv 0) (po_some pe_int) (po_some pe_int))) (blkOk_by (own := [("_law_one", 5)]) (N := nLaw) (sc := defScope sLaw) (by decide +kernel)) (fun _ _ _ _ _ => (pg_name (i := 5) scLaw.nd rfl (.inl rfl))) (fun _ _ _ _ _ => pts_nil) (fun _ _ _ _ _ => (pe_ix (ix_tupq (K := K) rfl) (pv 1) (pe_op op_mod (pv 5) (pe_callB (call_len_seqq (K := K) rfl) (by rfl) Ev.b_len PySem.boot_len (pa_cons (pv 1) pa_nil))) (fun _ _ => rfl)))) pa_nil)))))
        pss_nil)
      (pss_cons (ps_if (PW.pt (pw_and (pt_truth (pv 0) (by intro _; rfl)) (pw_and1 (pt_cmpR op_eq (pe_op op_mod (pe_op op_fdiv (pe_ix ix_list (pv 0) pe_int (fun _ _ => rfl)) pe_int) pe_int) pe_int (nomark _)))))
        (pss_one (ps_set (i := 1) scLaw.nd rfl (.inr rfl) (pe_op op_catU (pv 1) (pe_op op_repV (pe_slice sl_tupU (pv 1) po_none (po_some pe_int)) pe_int))))
        pss_nil)
      (pss_cons (ps_set (i := 2) scLaw.nd rfl (.inl rfl) (pe_lst pa_nil))
      (pss_cons (ps_for PassesOwn.never rfl (pi_range1 (by rfl) Ev.b_range (pa_cons pe_int pa_nil)) (pg_name (i := 3) scLaw.nd rfl (.inl rfl))
        (pss_cons (ps_set (i := 4) scLaw.nd rfl (.inl rfl) (pe_c CPressed (hr.mono (by omega)) (pa_cons (pv 3) (pa_cons (pv 1) pa_nil))))
        (pss_cons (ps_expr (pe_bm PySem.F.plainAttrs_list PySem.F.slot_list_append PySem.F.type_list_append mt_append (pv 2) (pa_cons (pe_callB call_len_seq (by rfl) Ev.b_len PySem.boot_len (pa_cons (pv 4) pa_nil)) pa_nil)))
        (pss_one (ps_if (PW.pt (pw_or (pt_not (pt_val (pe_c CLawSame (hr.mono (by omega)) (pa_cons (pe_cn CUnpressed (hr.mono (by omega)) (pa_cons (pv 3) (pa_cons (pv 4) pa_nil))) (pa_cons (pv 1) pa_nil))))) (pw_or1 (pt_not (pt_val (pe_c CLawSame (hr.mono (by omega)) (pa_cons (pe_c CPressed (hr.mono (by omega)) (pa_cons (pv 3) (pa_cons (pv 1) pa_nil))) (pa_cons (pv 4) pa_nil))))))))
          (pss_one (ps_ret pe_bl))
          pss_nil)))))
      (pss_cons (ps_if (pt_not (pt_val (pe_c CLawSame (hr.mono (by omega)) (pa_cons (pe_c CPressed (hr.mono (by omega)) (pa_cons pe_int (pa_cons (pv 1) pa_nil))) (pa_cons (pv 1) pa_nil)))))
        (pss_one (ps_ret pe_bl))
        pss_nil)
      (pss_one (ps_ret (pe_c CLawSame (hr.mono (by omega)) (pa_cons (pe_c CBestKind (hr.mono (by omega)) (pa_cons (pv 1) pa_nil)) (pa_cons (pe_bm PySem.F.plainAttrs_list PySem.F.slot_list_index PySem.F.type_list_index mt_index (pv 2) (pa_cons (pe_callB (cr_min rfl) (by rfl) Ev.b_min (by decide +kernel) (pa_cons (pv 2) pa_nil)) pa_nil)) pa_nil))))))))))), ?_⟩
    have sz : ∀ n : Nat, n ≤ 5000 → n ≤ sizeLine := fun n h => by rw [sizeLine_eq]; omega
    refine ⟨_, rfl, a, ns, 1, 20, rfl, hS, hz, fun b0 hb0 lb0 H1 p1 s1 h1 => ?_⟩
    have lb19 : b0.length ≤ 19 := by omega
    dsimp only [gName]
    -- the first addition
    refine seq_by (t := tIfS _ _ _) (fun σ H' => ∃ (p : Addr) (S : List Int), σ = [some (.ref a), some (.ref p), none, none, none, none] ∧ Same H H' ∧ SqT K H' p (S.map V.int) ∧ S.length ≤ 35 ∧ Byt S) (fun σ H2 k => ?_) (fun go => ?_)
    · obtain ⟨p, S, rfl, s2, hp, lS, bS⟩ := k
      -- the second one
      refine seq_by (t := tIfS _ _ _) (fun σ H' => ∃ (p : Addr) (S : List Int), σ = [some (.ref a), some (.ref p), none, none, none, none] ∧ Same H H' ∧ SqT K H' p (S.map V.int) ∧ S.length ≤ 63 ∧ Byt S) (fun σ H3 k => ?_) (fun go => ?_)
      · obtain ⟨p, S, rfl, s3, hp, lS, bS⟩ := k
        have dS := dInts_ok S (by omega)
        refine ⟨Nat.zero_le _, fun L nL => ?_⟩
        have z4 := s3.trans (grow (o := .lst []) nL)
        have hpp := keepT (grow (o := .lst []) nL) hp
        have hLL : (upd H3 L (.lst [])) L = some (.lst []) := upd_same
        generalize upd H3 L (.lst []) = H4 at z4 hpp hLL
        refine ⟨_, rfl, by decide, by decide, for_range (lo := 0) (fun i σ H' => ∃ (ls : List Int) (y3 y4 : Option V), σ = [some (.ref a), some (.ref p), some (.ref L), y3, y4, none] ∧ Same H H' ∧ SqT K H' p (S.map V.int) ∧ H' L = some (.lst (ls.map V.int)) ∧ ls.length = i ∧ ∀ (j : Nat) (D : List Int), j < i → PrA (j : Int) S D → ls[j]? = some (D.length : Int)) ⟨[], none, none, rfl, z4, hpp, hLL, rfl, fun j D h => absurd h (Nat.not_lt_zero _)⟩ (fun i σ H' hi k => ?_) (fun σ H' k => ?_)⟩
        · obtain ⟨ls, y3, y4, rfl, s5, hp5, hL5, lls, all⟩ := k
          have nLH : H L = none := (s3.trans (Same.refl _)).free nL
          refine ⟨_, rfl, _, rfl, (0 : Int) + (i : Int), p, S, rfl, by omega, by omega, hp5, bS, lS, tabs.keep s5, fun D pr bD lD un H6 t6 s6 h6 => ?_⟩
          have hL6 := s6 _ _ hL5
          refine ⟨_, rfl, .inl ⟨rfl, _, SqL.of hL6⟩, _, rfl, t6, _, rfl, .inr h6, L, _, _, rfl, rfl, hL6, sz _ (by rw [List.length_map]; omega), ?_⟩
          have hpL : SqT K (upd H6 L (.lst (ls.map V.int ++ [.int ((D.map V.int).length : Int)]))) p (S.map V.int) := keepT_lst (keepT s6 hp5) hL6
          have htL : SqT K (upd H6 L (.lst (ls.map V.int ++ [.int ((D.map V.int).length : Int)]))) t6 (D.map V.int) := keepT_lst h6 hL6
          have hLL7 : (upd H6 L (.lst (ls.map V.int ++ [.int ((D.map V.int).length : Int)]))) L = some (.lst ((ls ++ [(D.length : Int)]).map V.int)) := by
            rw [upd_same, List.map_append, List.length_map]
            rfl
          have s7 : Same H (upd H6 L (.lst (ls.map V.int ++ [.int ((D.map V.int).length : Int)]))) := keep_lst (s5.trans s6) nLH
          generalize upd H6 L (.lst (ls.map V.int ++ [.int ((D.map V.int).length : Int)])) = H7 at hpL htL hLL7 s7
          have dD := dInts_ok D (by omega)
          have ei : (0 : Int) + (i : Int) = (i : Int) := by omega
          refine ⟨_, rfl, _, rfl, (0 : Int) + (i : Int), t6, D, rfl, htL, bD, lD, tabs.keep s7, fun B un2 H8 t8 s8 h8 => ?_, fun no => absurd (un.symm.trans no) (by simp)⟩
          rw [un] at un2
          cases un2
          refine ⟨_, rfl, _, _, dInts S, rfl, dpTup h8, dpTup (keepT s8 hpL), dS.1, Nat.le_trans dS.2 (by decide), fun H9 s9 => ⟨_, rfl, iteF ?_⟩⟩
          have s79 := s8.trans s9
          refine ⟨_, rfl, _, rfl, (0 : Int) + (i : Int), p, S, rfl, by omega, by omega, keepT s79 hpL, bS, lS, tabs.keep (s7.trans s79), fun D' pr' _ _ _ H10 t10 s10 h10 => ?_⟩
          obtain rfl := pr.one pr'
          refine ⟨_, rfl, _, _, dInts D, rfl, dpTup h10, dpTup (keepT (s79.trans s10) htL), dD.1, Nat.le_trans dD.2 (by decide), fun H11 s11 => ⟨_, rfl, iteF ?_⟩⟩
          have s711 := s79.trans (s10.trans s11)
          refine ⟨ls ++ [(D.length : Int)], _, _, rfl, s7.trans s711, keepT s711 hpL, s711 _ _ hLL7, by rw [List.length_append, lls]; rfl, fun j D2 hj pr2 => ?_⟩
          rcases Nat.lt_or_ge j i with c | c
          · rw [List.getElem?_append_left (by omega)]
            exact all j D2 c pr2
          · obtain rfl : j = i := by omega
            rw [ei] at pr
            obtain rfl := pr.one pr2
            rw [List.getElem?_append_right (by omega), lls, Nat.sub_self]
            rfl
        · obtain ⟨ls, y3, y4, rfl, s5, hp5, hL5, lls, all⟩ := k
          rw [show (3 : Int).toNat = 3 from rfl] at lls all
          refine ⟨_, rfl, 0, p, S, rfl, by decide, by decide, hp5, bS, lS, tabs.keep s5, fun D0 pr0 bD0 lD0 un0 H6 t6 s6 h6 => ?_⟩
          have e0 : D0 = S := by
            rcases pr0 with ⟨_, e⟩ | ⟨z, _⟩ | ⟨z, _⟩
            · exact e
            · cases z
            · cases z
          subst e0
          refine ⟨_, rfl, _, _, dInts D0, rfl, dpTup h6, dpTup (keepT s6 hp5), dS.1, Nat.le_trans dS.2 (by decide), fun H7 s7 => ⟨_, rfl, iteF ?_⟩⟩
          have s57 := s6.trans s7
          refine ⟨_, rfl, p, D0, rfl, keepT s57 hp5, bS, lS, tabs.keep (s5.trans s57), fun k D k2 bst H8 s8 => ?_⟩
          have hL8 := s8 _ _ (s57 _ _ hL5)
          refine ⟨_, rfl, .inl ⟨rfl, _, SqL.of hL8⟩, _, rfl, L, ls, rfl, SqL.of hL8, by omega, fun m hm hall => ?_⟩
          obtain ⟨A0, A1, A2, ⟨a0, a1, a2⟩, pa, ia⟩ := bst
          have els : ls = [(A0.length : Int), (A1.length : Int), (A2.length : Int)] := by
            refine List.ext_getElem? fun j => ?_
            match j with
            | 0 => exact all 0 A0 (by decide) a0
            | 1 => exact all 1 A1 (by decide) a1
            | 2 => exact all 2 A2 (by decide) a2
            | n + 3 => rw [List.getElem?_eq_none (by omega)]; rfl
          rw [els] at hm hall
          obtain ⟨j, hj, g1, g2, g3⟩ := min3 hm hall
          rw [← els] at g1 g2
          have ej : j = k := by
            rcases ia with ⟨rfl, e, c1, c2⟩ | ⟨rfl, e, c1, c2⟩ | ⟨rfl, e, c1, c2⟩ <;> omega
          subst ej
          exact ⟨L, _, _, j, _, rfl, rfl, SqL.of hL8, rfl, flat_ints _, by rw [List.getElem?_map, g1]; rfl, eqV_int _, ahead_ints g2, _, _, PyData.int (j : Int), rfl, .int _, .int _, rfl, Nat.zero_le _, fun H9 s9 => q _⟩
      · refine ⟨_, rfl, _, .inl ⟨_, s2.seq hS, rfl⟩, ite2 (fun z => ?_) (fun _ => go _ _ ⟨p, S, rfl, s2, hp, by omega, bS⟩)⟩
        have hns : 0 < ns.length := by
          cases ns with
          | nil => cases z
          | cons x r => exact Nat.zero_lt_succ _
        have g0 : (ns.map V.int)[0]? = some (.int ns[0]) := by rw [List.getElem?_map, List.getElem?_eq_getElem hns]; rfl
        refine ⟨_, rfl, a, _, 0, _, rfl, rfl, s2.seq hS, at_of (j := 0) rfl g0, _, 4, rfl, rfl, ⟨by decide, by decide⟩, _, 3, rfl, rfl, (show (0 : Int) < 3 by decide), rfl, _, rfl, ite2 (fun _ => ?_) (fun _ => go _ _ ⟨p, S, rfl, s2, hp, by omega, bS⟩)⟩
        have e1 : cutV (S.map V.int) none (some 4) = (S.take 4).map V.int := cut_to S 4
        have k1 : (S.take 4).length ≤ 4 := by rw [List.length_take]; omega
        refine ⟨_, rfl, _, rfl, _, rfl, p, _, rfl, hp, fun A1 t1 r1 j1 => ?_⟩
        rw [e1] at j1
        refine ⟨t1, 3, _, rfl, rfl, j1, by decide, by decide, by rw [List.length_map]; omega, fun A2 t2 r2 j2 => ?_⟩
        rw [rp_map] at j2
        have L1 := rp_len 3 (S.take 4)
        have R1 : ∀ x ∈ (List.replicate (3 : Int).toNat (S.take 4)).flatten, x ∈ S := fun x h => List.mem_of_mem_take (rp_mem h)
        rw [show (3 : Int).toNat = 3 from rfl] at j2 R1
        generalize (List.replicate 3 (S.take 4)).flatten = w1 at j2 L1 R1
        refine ⟨p, t2, _, _, rfl, rfl, keepT (r1.trans r2) hp, j2, sz _ (by rw [List.length_map, List.length_map]; omega), fun A3 t3 r3 j3 => ?_⟩
        rw [← List.map_append] at j3
        exact go _ _ ⟨t3, S ++ w1, rfl, s2.trans (r1.trans (r2.trans r3)), j3, by rw [List.length_append]; omega, fun x hx => (List.mem_append.mp hx).elim (bS x) fun h => bS x (R1 x h)⟩
    · refine ⟨_, rfl, _, .inl ⟨_, s1.seq hS, rfl⟩, ite2 (fun z => ?_) (fun _ => go _ _ ⟨p1, b0, rfl, s1, h1, by omega, hb0⟩)⟩
      have hns : 0 < ns.length := by
        cases ns with
        | nil => cases z
        | cons x r => exact Nat.zero_lt_succ _
      have g0 : (ns.map V.int)[0]? = some (.int ns[0]) := by rw [List.getElem?_map, List.getElem?_eq_getElem hns]; rfl
      refine ⟨_, rfl, a, _, 0, _, rfl, rfl, s1.seq hS, at_of (j := 0) rfl g0, _, 4, rfl, rfl, ⟨by decide, by decide⟩, _, 3, rfl, rfl, (show (0 : Int) < 3 by decide), rfl, _, rfl, ite2 (fun _ => ?_) (fun _ => go _ _ ⟨p1, b0, rfl, s1, h1, by omega, hb0⟩)⟩
      refine ⟨_, rfl, _, rfl, 3, rfl, 19, rfl, a, _, rfl, s1.seq hS, fun pc nc => ⟨pc, rfl, ⟨_, SqL.of upd_same⟩, fun D nD => ?_⟩⟩
      have ec : cutV (ns.map V.int) (some 3) (some 19) = ((ns.drop 3).take 16).map V.int := cut_mid ns 3 19
      rw [ec] at nD ⊢
      have sc := s1.trans (grow (o := .lst (((ns.drop 3).take 16).map V.int)) nc)
      have hc : (upd H1 pc (.lst (((ns.drop 3).take 16).map V.int))) pc = some (.lst (((ns.drop 3).take 16).map V.int)) := upd_same
      have h1c := keepT (grow (o := .lst (((ns.drop 3).take 16).map V.int)) nc) h1
      generalize upd H1 pc (.lst (((ns.drop 3).take 16).map V.int)) = H2 at sc hc nD h1c
      obtain ⟨cs, ecs⟩ : ∃ cs, cs = (ns.drop 3).take 16 := ⟨_, rfl⟩
      have lcs : cs.length ≤ 16 := by rw [ecs, List.length_take]; omega
      have pos : ∀ c ∈ cs, 0 < b0.length := fun c hc => by
        have : 0 < cs.length := List.length_pos_of_mem hc
        rw [ecs, List.length_take, List.length_drop] at this
        omega
      rw [← ecs] at hc
      obtain ⟨zs, ezs⟩ : ∃ zs : List Int, zs = cs.map fun c => b0.getD (c % (b0.length : Int)).toNat 0 := ⟨_, rfl⟩
      refine lc_row (xs := cs.map V.int) (ys := zs.map V.int) nD (SqL.of hc) (by rw [ezs, List.length_map, List.length_map, List.length_map]) (sz _ (by rw [List.length_map]; omega)) (fun _ => rfl) (fun i x y H3 R hx hy s3 r => ?_) (fun H3 s3 hD => ?_)
      · obtain ⟨c, hcc, rfl⟩ := got hx
        rw [ezs, List.getElem?_map, List.getElem?_map, hcc] at hy
        cases hy
        have p0 := pos c (List.mem_of_getElem? hcc)
        have m0 : 0 ≤ c % (b0.length : Int) := Int.emod_nonneg _ (by omega)
        have m1 : c % (b0.length : Int) < (b0.length : Int) := Int.emod_lt_of_pos _ (by omega)
        have gk : (b0.map V.int)[(c % (b0.length : Int)).toNat]? = some (.int (b0.getD (c % (b0.length : Int)).toNat 0)) := by
          have lt : (c % (b0.length : Int)).toNat < b0.length := by omega
          rw [List.getElem?_map, List.getElem?_eq_getElem lt, List.getD_eq_getElem?_getD, List.getElem?_eq_getElem lt]
          rfl
        have h3 := keepT s3 h1c
        refine ⟨_, rfl, _, rfl, _, rfl, p1, _, rfl, .inr h3, _, _, rfl, rfl, ?_, p1, _, _, _, rfl, rfl, h3, at_of (j := (c % (b0.length : Int)).toNat) ?_ gk, r _ (Same.refl _)⟩
        · show (0 : Int) < ((b0.map V.int).length : Int)
          rw [List.length_map]
          omega
        · show c % ((b0.map V.int).length : Int) = _
          rw [List.length_map]
          omega
      · refine ⟨D, _, rfl, SqL.of hD, fun H4 t4 s4 h4 => ⟨p1, t4, _, _, rfl, rfl, keepT (s3.trans s4) h1c, h4, sz _ (by rw [List.length_map, List.length_map, ezs, List.length_map]; omega), fun H5 t5 s5 h5 => ?_⟩⟩
        rw [← List.map_append] at h5
        refine go _ _ ⟨t5, b0 ++ zs, rfl, sc.trans (s3.trans (s4.trans s5)), h5, by rw [List.length_append, ezs, List.length_map]; omega, fun x hx => ?_⟩
        rcases List.mem_append.mp hx with h | h
        · exact hb0 x h
        · rw [ezs] at h
          obtain ⟨c, hc, rfl⟩ := List.mem_map.mp h
          have p0 := pos c hc
          have m1 : c % (b0.length : Int) < (b0.length : Int) := Int.emod_lt_of_pos _ (by omega)
          have m0 : 0 ≤ c % (b0.length : Int) := Int.emod_nonneg _ (by omega)
          have lt : (c % (b0.length : Int)).toNat < b0.length := by omega
          rw [List.getD_eq_getElem?_getD, List.getElem?_eq_getElem lt]
          exact hb0 _ (List.getElem_mem lt)

end
def hD0 : He.DefD := ⟨("can_copy", none), "can_copy", "can_copy", defArgs sCanCopy, defBody sCanCopy, defScope sCanCopy, [], []⟩
def hD1 : He.DefD := ⟨("longest_copies", none), "longest_copies", "longest_copies", defArgs sLongestCopies, defBody sLongestCopies, defScope sLongestCopies, [], []⟩
def hD2 : He.DefD := ⟨("cheapest_new", none), "cheapest_new", "cheapest_new", defArgs sCheapestNew, defBody sCheapestNew, defScope sCheapestNew, [], []⟩
def hD3 : He.DefD := ⟨("cheapest_copy", none), "cheapest_copy", "cheapest_copy", defArgs sCheapestCopy, defBody sCheapestCopy, defScope sCheapestCopy, [], []⟩
def hD4 : He.DefD := ⟨("cheapest_steps", none), "cheapest_steps", "cheapest_steps", defArgs sCheapestSteps, defBody sCheapestSteps, defScope sCheapestSteps, [], []⟩
def hD5 : He.DefD := ⟨("deed_bytes", none), "deed_bytes", "deed_bytes", defArgs sDeedBytes, defBody sDeedBytes, defScope sDeedBytes, [], []⟩
def hD6 : He.DefD := ⟨("body_deeds", none), "body_deeds", "body_deeds", defArgs sBodyDeeds, defBody sBodyDeeds, defScope sBodyDeeds, [], []⟩
def hD7 : He.DefD := ⟨("check_whole", none), "check_whole", "check_whole", defArgs sCheckWhole, defBody sCheckWhole, defScope sCheckWhole, [], []⟩
def hD8 : He.DefD := ⟨("add_copies", none), "add_copies", "add_copies", defArgs sAddCopies, defBody sAddCopies, defScope sAddCopies, [], []⟩
def hD9 : He.DefD := ⟨("body_of_deeds", none), "body_of_deeds", "body_of_deeds", defArgs sBodyOfDeeds, defBody sBodyOfDeeds, defScope sBodyOfDeeds, [], []⟩
def hD10 : He.DefD := ⟨("byte_at", none), "byte_at", "byte_at", defArgs sByteAt, defBody sByteAt, defScope sByteAt, [], []⟩
def hD11 : He.DefD := ⟨("read_number", none), "read_number", "read_number", defArgs sReadNumber, defBody sReadNumber, defScope sReadNumber, [], []⟩
def hD12 : He.DefD := ⟨("read_fixed", none), "read_fixed", "read_fixed", defArgs sReadFixed, defBody sReadFixed, defScope sReadFixed, [], []⟩
def hD13 : He.DefD := ⟨("bit_at", none), "bit_at", "bit_at", defArgs sBitAt, defBody sBitAt, defScope sBitAt, [], []⟩
def hD14 : He.DefD := ⟨("check_rest", none), "check_rest", "check_rest", defArgs sCheckRest, defBody sCheckRest, defScope sCheckRest, [], []⟩
def hD15 : He.DefD := ⟨("read_head_number", none), "read_head_number", "read_head_number", defArgs sReadHeadNumber, defBody sReadHeadNumber, defScope sReadHeadNumber, [], []⟩
def hD16 : He.DefD := ⟨("read_head_byte", none), "read_head_byte", "read_head_byte", defArgs sReadHeadByte, defBody sReadHeadByte, defScope sReadHeadByte, [], []⟩
def hD17 : He.DefD := ⟨("words_of", none), "words_of", "words_of", defArgs sWordsOf, defBody sWordsOf, defScope sWordsOf, [], []⟩
def hD18 : He.DefD := ⟨("check_lengths", none), "check_lengths", "check_lengths", defArgs sCheckLengths, defBody sCheckLengths, defScope sCheckLengths, [], []⟩
def hD19 : He.DefD := ⟨("read_lengths", none), "read_lengths", "read_lengths", defArgs sReadLengths, defBody sReadLengths, defScope sReadLengths, [], []⟩
def hD20 : He.DefD := ⟨("read_word", none), "read_word", "read_word", defArgs sReadWord, defBody sReadWord, defScope sReadWord, [], []⟩
def hD21 : He.DefD := ⟨("body_of_words", none), "body_of_words", "body_of_words", defArgs sBodyOfWords, defBody sBodyOfWords, defScope sBodyOfWords, [], []⟩
def hD22 : He.DefD := ⟨("unpressed", none), "unpressed", "unpressed", defArgs sUnpressed, defBody sUnpressed, defScope sUnpressed, [], []⟩
def hD23 : He.DefD := ⟨("number_bytes", none), "number_bytes", "number_bytes", defArgs sNumberBytes, defBody sNumberBytes, defScope sNumberBytes, [], []⟩
def hD24 : He.DefD := ⟨("counted", none), "counted", "counted", defArgs sCounted, defBody sCounted, defScope sCounted, [], []⟩
def hD25 : He.DefD := ⟨("word_lengths", none), "word_lengths", "word_lengths", defArgs sWordLengths, defBody sWordLengths, defScope sWordLengths, [], []⟩
def hD26 : He.DefD := ⟨("word_bits", none), "word_bits", "word_bits", defArgs sWordBits, defBody sWordBits, defScope sWordBits, [], []⟩
def hD27 : He.DefD := ⟨("head_of", none), "head_of", "head_of", defArgs sHeadOf, defBody sHeadOf, defScope sHeadOf, [], []⟩
def hD28 : He.DefD := ⟨("byte_of_bits", none), "byte_of_bits", "byte_of_bits", defArgs sByteOfBits, defBody sByteOfBits, defScope sByteOfBits, [], []⟩
def hD29 : He.DefD := ⟨("bytes_of_bits", none), "bytes_of_bits", "bytes_of_bits", defArgs sBytesOfBits, defBody sBytesOfBits, defScope sBytesOfBits, [], []⟩
def hD30 : He.DefD := ⟨("body_words", none), "body_words", "body_words", defArgs sBodyWords, defBody sBodyWords, defScope sBodyWords, [], []⟩
def hD31 : He.DefD := ⟨("pressed", none), "pressed", "pressed", defArgs sPressed, defBody sPressed, defScope sPressed, [], []⟩
def hD32 : He.DefD := ⟨("best_pressed", none), "best_pressed", "best_pressed", defArgs sBestPressed, defBody sBestPressed, defScope sBestPressed, [], []⟩
def hD33 : He.DefD := ⟨("best_kind", none), "best_kind", "best_kind", defArgs sBestKind, defBody sBestKind, defScope sBestKind, [], []⟩
def hD34 : He.DefD := ⟨("_law_d", none), "_law_d", "_law_d", defArgs sLawD, defBody sLawD, defScope sLawD, [], []⟩
def hD35 : He.DefD := ⟨("_law_same", none), "_law_same", "_law_same", defArgs sLawSame, defBody sLawSame, defScope sLawSame, [], []⟩
def hD36 : He.DefD := ⟨("_law_few", none), "_law_few", "_law_few", defArgs sLawFew, defBody sLawFew, defScope sLawFew, [], []⟩
def hD37 : He.DefD := ⟨("law", none), "law", "law", defArgs sLaw, defBody sLaw, defScope sLaw, [], []⟩
def hFn : List He.DefD := [hD0, hD1, hD2, hD3, hD4, hD5, hD6, hD7, hD8, hD9, hD10, hD11, hD12, hD13, hD14, hD15, hD16, hD17, hD18, hD19, hD20, hD21, hD22, hD23, hD24, hD25, hD26, hD27, hD28, hD29, hD30, hD31, hD32, hD33, hD34, hD35, hD36, hD37]
def hFa : List He.Fa := ([.glo "can_copy", .glo "longest_copies", .glo "cheapest_new", .glo "cheapest_copy", .glo "cheapest_steps", .glo "deed_bytes", .glo "body_deeds", .glo "check_whole", .glo "add_copies", .glo "body_of_deeds", .glo "byte_at", .glo "read_number", .glo "read_fixed", .glo "bit_at", .glo "check_rest", .glo "read_head_number", .glo "read_head_byte", .glo "words_of", .glo "check_lengths", .glo "read_lengths", .glo "read_word", .glo "body_of_words", .glo "unpressed", .glo "number_bytes", .glo "counted", .glo "word_lengths", .glo "word_bits", .glo "head_of", .glo "byte_of_bits", .glo "bytes_of_bits"] : List He.Fa) ++ ([.glo "body_words", .glo "pressed", .glo "best_pressed", .glo "best_kind", .glo "_law_d", .glo "_law_same", .glo "_law_few", .glo "law", .free "all", .free "bool", .free "divmod", .free "int", .free "isinstance", .free "len", .free "max", .free "min", .free "range", .free "sorted", .free "str", .free "sum", .free "tuple", .free "zip", .int "FIRST_COPY" 128, .glo "KINDS", .int "LEAST_COPIED" 3, .int "LONGEST_WORD" 30, .int "MOST_BACK" 256, .int "MOST_BYTES" 6, .int "MOST_COPIED" 130, .int "MOST_NEW" 128] : List He.Fa) ++ ([.int "MOST_OF_BODY" 1000, .exc "Cut", .glo "Cut", .exc "BadForm", .glo "BadForm", .exm "Cut" "Cut" true, .exm "Cut" "BadForm" false, .exm "BadForm" "Cut" false, .exm "BadForm" "BadForm" true] : List He.Fa)
def hTf : List He.Defn := [("check_lengths", none), ("bytes_of_bits", none)]
def hEx (K : PySem.W.Frag) : Bool := (He.tupB K "KINDS" [.int 0, .int 1, .int 2] && (PySem.W.isClsIn K (He.ga K "Cut") && (PySem.W.isClsIn K (He.ga K "BadForm") && true)))
theorem all_mk {l : PySem.W.OpenLaw} {w : World} {K : PySem.W.Frag} {h : Heap} {mg : Str → Option Value} {fa : Addr} (X : K.In h) (G : h.Ns mainGlobals mg) (hfa : mg "law" = some (.ref fa)) (c : He.SaysX hFa hFn [] hTf hEx w h K) :
    LamX.LawAtS l w K CX0 9 63 "_law_script" mg fa h := by
  letI : LamNames := ⟨fun _ => none⟩
  have cd : He.SaysD hFa hFn K := c.t.d
  have e := hfa.symm.trans (He.glo_ok X G (cd.fact 37 (f := .glo "law") rfl))
  cases e
  have Ev : Env K mg := ⟨He.free_ok X G (cd.fact 38 (f := .free "all") rfl), He.free_ok X G (cd.fact 39 (f := .free "bool") rfl), He.free_ok X G (cd.fact 40 (f := .free "divmod") rfl), He.free_ok X G (cd.fact 41 (f := .free "int") rfl), He.free_ok X G (cd.fact 42 (f := .free "isinstance") rfl), He.free_ok X G (cd.fact 43 (f := .free "len") rfl), He.free_ok X G (cd.fact 44 (f := .free "max") rfl), He.free_ok X G (cd.fact 45 (f := .free "min") rfl), He.free_ok X G (cd.fact 46 (f := .free "range") rfl), He.free_ok X G (cd.fact 47 (f := .free "sorted") rfl), He.free_ok X G (cd.fact 48 (f := .free "str") rfl), He.free_ok X G (cd.fact 49 (f := .free "sum") rfl), He.free_ok X G (cd.fact 50 (f := .free "tuple") rfl), He.free_ok X G (cd.fact 51 (f := .free "zip") rfl), He.int_ok X G (cd.fact 52 (f := .int "FIRST_COPY" 128) rfl), ⟨_, He.glo_ok X G (cd.fact 53 (f := .glo "KINDS") rfl), fun H => He.tupB_ok (x := "KINDS") (vs := [.int 0, .int 1, .int 2]) (He.ba c.more).1 H⟩, He.int_ok X G (cd.fact 54 (f := .int "LEAST_COPIED" 3) rfl), He.int_ok X G (cd.fact 55 (f := .int "LONGEST_WORD" 30) rfl), He.int_ok X G (cd.fact 56 (f := .int "MOST_BACK" 256) rfl), He.int_ok X G (cd.fact 57 (f := .int "MOST_BYTES" 6) rfl), He.int_ok X G (cd.fact 58 (f := .int "MOST_COPIED" 130) rfl), He.int_ok X G (cd.fact 59 (f := .int "MOST_NEW" 128) rfl), He.int_ok X G (cd.fact 60 (f := .int "MOST_OF_BODY" 1000) rfl)⟩
  have X_Cut : Exc K mg "Cut" (He.ga K "Cut") := ⟨He.glo_ok X G (cd.fact 62 (f := .glo "Cut") rfl), (He.exc_ok (cd.fact 61 (f := .exc "Cut") rfl)).1, (He.exc_ok (cd.fact 61 (f := .exc "Cut") rfl)).2.1, (He.exc_ok (cd.fact 61 (f := .exc "Cut") rfl)).2.2.1, (He.exc_ok (cd.fact 61 (f := .exc "Cut") rfl)).2.2.2, (He.ba (He.ba c.more).2).1⟩
  have X_BadForm : Exc K mg "BadForm" (He.ga K "BadForm") := ⟨He.glo_ok X G (cd.fact 64 (f := .glo "BadForm") rfl), (He.exc_ok (cd.fact 63 (f := .exc "BadForm") rfl)).1, (He.exc_ok (cd.fact 63 (f := .exc "BadForm") rfl)).2.1, (He.exc_ok (cd.fact 63 (f := .exc "BadForm") rfl)).2.2.1, (He.exc_ok (cd.fact 63 (f := .exc "BadForm") rfl)).2.2.2, (He.ba (He.ba (He.ba c.more).2).2).1⟩
  have Ex : Excs K mg (He.ga K "Cut") (He.ga K "BadForm") := ⟨X_Cut, X_BadForm, He.exm_ok (cd.fact 65 (f := .exm "Cut" "Cut" true) rfl), He.exm_ok (cd.fact 66 (f := .exm "Cut" "BadForm" false) rfl), He.exm_ok (cd.fact 67 (f := .exm "BadForm" "Cut" false) rfl), He.exm_ok (cd.fact 68 (f := .exm "BadForm" "BadForm" true) rfl)⟩
  obtain ⟨fd0, D0⟩ := cd.def_ 0 (d := hD0) rfl
  have F0 := fun_ofD (x := "can_copy") (st := sCanCopy) D0
  obtain ⟨fd1, D1⟩ := cd.def_ 1 (d := hD1) rfl
  have F1 := fun_ofD (x := "longest_copies") (st := sLongestCopies) D1
  obtain ⟨fd2, D2⟩ := cd.def_ 2 (d := hD2) rfl
  have F2 := fun_ofD (x := "cheapest_new") (st := sCheapestNew) D2
  obtain ⟨fd3, D3⟩ := cd.def_ 3 (d := hD3) rfl
  have F3 := fun_ofD (x := "cheapest_copy") (st := sCheapestCopy) D3
  obtain ⟨fd4, D4⟩ := cd.def_ 4 (d := hD4) rfl
  have F4 := fun_ofD (x := "cheapest_steps") (st := sCheapestSteps) D4
  obtain ⟨fd5, D5⟩ := cd.def_ 5 (d := hD5) rfl
  have F5 := fun_ofD (x := "deed_bytes") (st := sDeedBytes) D5
  obtain ⟨fd6, D6⟩ := cd.def_ 6 (d := hD6) rfl
  have F6 := fun_ofD (x := "body_deeds") (st := sBodyDeeds) D6
  obtain ⟨fd7, D7⟩ := cd.def_ 7 (d := hD7) rfl
  have F7 := fun_ofD (x := "check_whole") (st := sCheckWhole) D7
  obtain ⟨fd8, D8⟩ := cd.def_ 8 (d := hD8) rfl
  have F8 := fun_ofD (x := "add_copies") (st := sAddCopies) D8
  obtain ⟨fd9, D9⟩ := cd.def_ 9 (d := hD9) rfl
  have F9 := fun_ofD (x := "body_of_deeds") (st := sBodyOfDeeds) D9
  obtain ⟨fd10, D10⟩ := cd.def_ 10 (d := hD10) rfl
  have F10 := fun_ofD (x := "byte_at") (st := sByteAt) D10
  obtain ⟨fd11, D11⟩ := cd.def_ 11 (d := hD11) rfl
  have F11 := fun_ofD (x := "read_number") (st := sReadNumber) D11
  obtain ⟨fd12, D12⟩ := cd.def_ 12 (d := hD12) rfl
  have F12 := fun_ofD (x := "read_fixed") (st := sReadFixed) D12
  obtain ⟨fd13, D13⟩ := cd.def_ 13 (d := hD13) rfl
  have F13 := fun_ofD (x := "bit_at") (st := sBitAt) D13
  obtain ⟨fd14, D14⟩ := cd.def_ 14 (d := hD14) rfl
  have F14 := fun_ofD (x := "check_rest") (st := sCheckRest) D14
  obtain ⟨fd15, D15⟩ := cd.def_ 15 (d := hD15) rfl
  have F15 := fun_ofD (x := "read_head_number") (st := sReadHeadNumber) D15
  obtain ⟨fd16, D16⟩ := cd.def_ 16 (d := hD16) rfl
  have F16 := fun_ofD (x := "read_head_byte") (st := sReadHeadByte) D16
  obtain ⟨fd17, D17⟩ := cd.def_ 17 (d := hD17) rfl
  have F17 := fun_ofD (x := "words_of") (st := sWordsOf) D17
  obtain ⟨fd18, D18⟩ := cd.def_ 18 (d := hD18) rfl
  have F18 := funC_ofD (x := "check_lengths") (st := sCheckLengths) D18
  obtain ⟨fd19, D19⟩ := cd.def_ 19 (d := hD19) rfl
  have F19 := fun_ofD (x := "read_lengths") (st := sReadLengths) D19
  obtain ⟨fd20, D20⟩ := cd.def_ 20 (d := hD20) rfl
  have F20 := fun_ofD (x := "read_word") (st := sReadWord) D20
  obtain ⟨fd21, D21⟩ := cd.def_ 21 (d := hD21) rfl
  have F21 := fun_ofD (x := "body_of_words") (st := sBodyOfWords) D21
  obtain ⟨fd22, D22⟩ := cd.def_ 22 (d := hD22) rfl
  have F22 := fun_ofD (x := "unpressed") (st := sUnpressed) D22
  obtain ⟨fd23, D23⟩ := cd.def_ 23 (d := hD23) rfl
  have F23 := fun_ofD (x := "number_bytes") (st := sNumberBytes) D23
  obtain ⟨fd24, D24⟩ := cd.def_ 24 (d := hD24) rfl
  have F24 := fun_ofD (x := "counted") (st := sCounted) D24
  obtain ⟨fd25, D25⟩ := cd.def_ 25 (d := hD25) rfl
  have F25 := fun_ofD (x := "word_lengths") (st := sWordLengths) D25
  obtain ⟨fd26, D26⟩ := cd.def_ 26 (d := hD26) rfl
  have F26 := fun_ofD (x := "word_bits") (st := sWordBits) D26
  obtain ⟨fd27, D27⟩ := cd.def_ 27 (d := hD27) rfl
  have F27 := fun_ofD (x := "head_of") (st := sHeadOf) D27
  obtain ⟨fd28, D28⟩ := cd.def_ 28 (d := hD28) rfl
  have F28 := fun_ofD (x := "byte_of_bits") (st := sByteOfBits) D28
  obtain ⟨fd29, D29⟩ := cd.def_ 29 (d := hD29) rfl
  have F29 := funC_ofD (x := "bytes_of_bits") (st := sBytesOfBits) D29
  obtain ⟨fd30, D30⟩ := cd.def_ 30 (d := hD30) rfl
  have F30 := fun_ofD (x := "body_words") (st := sBodyWords) D30
  obtain ⟨fd31, D31⟩ := cd.def_ 31 (d := hD31) rfl
  have F31 := fun_ofD (x := "pressed") (st := sPressed) D31
  obtain ⟨fd32, D32⟩ := cd.def_ 32 (d := hD32) rfl
  have F32 := fun_ofD (x := "best_pressed") (st := sBestPressed) D32
  obtain ⟨fd33, D33⟩ := cd.def_ 33 (d := hD33) rfl
  have F33 := fun_ofD (x := "best_kind") (st := sBestKind) D33
  obtain ⟨fd34, D34⟩ := cd.def_ 34 (d := hD34) rfl
  have F34 := fun_ofD (x := "_law_d") (st := sLawD) D34
  obtain ⟨fd35, D35⟩ := cd.def_ 35 (d := hD35) rfl
  have F35 := fun_ofD (x := "_law_same") (st := sLawSame) D35
  obtain ⟨fd36, D36⟩ := cd.def_ 36 (d := hD36) rfl
  have F36 := fun_ofD (x := "_law_few") (st := sLawFew) D36
  obtain ⟨fd37, D37⟩ := cd.def_ 37 (d := hD37) rfl
  have F37 := fun_ofD (x := "law") (st := sLaw) D37
  refine ⟨fd37, [(He.cT K ("check_lengths", none)), (He.cT K ("bytes_of_bits", none))], spLaw K [(He.cT K ("check_lengths", none)).2, (He.cT K ("bytes_of_bits", none)).2], List.forall_mem_cons.mpr ⟨c.empty _ (show (("check_lengths", none) : He.Defn) ∈ hTf by simp [hTf]), List.forall_mem_cons.mpr ⟨c.empty _ (show (("bytes_of_bits", none) : He.Defn) ∈ hTf by simp [hTf]), (fun _ z => nomatch z)⟩⟩, List.forall_mem_cons.mpr ⟨c.out _ (show (("check_lengths", none) : He.Defn) ∈ hTf by simp [hTf]), List.forall_mem_cons.mpr ⟨c.out _ (show (("bytes_of_bits", none) : He.Defn) ∈ hTf by simp [hTf]), (fun _ z => nomatch z)⟩⟩, List.forall_mem_cons.mpr ⟨PySem.W.codeHd_of_K X (c.hd _ (show (("check_lengths", none) : He.Defn) ∈ hTf by simp [hTf])), List.forall_mem_cons.mpr ⟨PySem.W.codeHd_of_K X (c.hd _ (show (("bytes_of_bits", none) : He.Defn) ∈ hTf by simp [hTf])), (fun _ z => nomatch z)⟩⟩, fun s v => ?_, fun H a ns hl _ hH hS => ⟨a, ns, rfl, hS, hl, List.forall_mem_cons.mpr ⟨tab_empty (hH (He.cT K ("check_lengths", none)) (by simp)) rfl, List.forall_mem_cons.mpr ⟨tab_empty (hH (He.cT K ("bytes_of_bits", none)) (by simp)) rfl, (fun _ z => nomatch z)⟩⟩, fun _ => rfl⟩, fun base _ _ TBs => ?_⟩
  · exact (FunD.bindsA (ps := ["_law_script"]) D37 fun _ _ _ _ _ _ us hl => match us, hl with | [_], _ => rfl) s [v] rfl
  have TB18 := tabB_of (TBs (He.cT K ("check_lengths", none)) (by simp))
  have TB29 := tabB_of (TBs (He.cT K ("bytes_of_bits", none)) (by simp))
  have C_0 : Cal l.prog w K mg base "can_copy" 1 ["body", "start", "at", "many"] (spCan K) := ⟨_, _, ok_can Ev  F0, He.glo_ok X G (cd.fact 0 (f := .glo "can_copy") rfl), F0.kp, F0.binds fun _ _ _ _ _ _ us hl => match us, hl with | [_, _, _, _], _ => rfl⟩
  have C_1 : Cal l.prog w K mg base "longest_copies" 2 ["body"] (spLon K) := ⟨_, _, ok_lon Ev C_0 F1, He.glo_ok X G (cd.fact 1 (f := .glo "longest_copies") rfl), F1.kp, F1.binds fun _ _ _ _ _ _ us hl => match us, hl with | [_], _ => rfl⟩
  have C_2 : Cal l.prog w K mg base "cheapest_new" 1 ["costs", "at"] (spNew K) := ⟨_, _, ok_new Ev  F2, He.glo_ok X G (cd.fact 2 (f := .glo "cheapest_new") rfl), F2.kp, F2.binds fun _ _ _ _ _ _ us hl => match us, hl with | [_, _], _ => rfl⟩
  have C_3 : Cal l.prog w K mg base "cheapest_copy" 1 ["costs", "at", "longest"] (spCpy K) := ⟨_, _, ok_cpy Ev  F3, He.glo_ok X G (cd.fact 3 (f := .glo "cheapest_copy") rfl), F3.kp, F3.binds fun _ _ _ _ _ _ us hl => match us, hl with | [_, _, _], _ => rfl⟩
  have C_4 : Cal l.prog w K mg base "cheapest_steps" 3 ["body"] (spSteps K) := ⟨_, _, ok_steps Ev C_1 C_2 C_3 F4, He.glo_ok X G (cd.fact 4 (f := .glo "cheapest_steps") rfl), F4.kp, F4.binds fun _ _ _ _ _ _ us hl => match us, hl with | [_], _ => rfl⟩
  have C_5 : Cal l.prog w K mg base "deed_bytes" 1 ["body", "at", "many", "back"] (spDeed K) := ⟨_, _, ok_deed Ev  F5, He.glo_ok X G (cd.fact 5 (f := .glo "deed_bytes") rfl), F5.kp, F5.binds fun _ _ _ _ _ _ us hl => match us, hl with | [_, _, _, _], _ => rfl⟩
  have C_6 : Cal l.prog w K mg base "body_deeds" 4 ["body"] (spBD K) := ⟨_, _, ok_bd Ev C_4 C_5 F6, He.glo_ok X G (cd.fact 6 (f := .glo "body_deeds") rfl), F6.kp, F6.binds fun _ _ _ _ _ _ us hl => match us, hl with | [_], _ => rfl⟩
  have C_7 : CalX l.prog w K mg base "check_whole" 1 ["some", "behind"] (spWhole K (He.ga K "BadForm")) := ⟨_, _, ok_whole Ev Ex  F7, He.glo_ok X G (cd.fact 7 (f := .glo "check_whole") rfl), F7.kp, F7.binds fun _ _ _ _ _ _ us hl => match us, hl with | [_, _], _ => rfl⟩
  have C_8 : CalX l.prog w K mg base "add_copies" 1 ["body", "many", "back"] (spCopies K (He.ga K "BadForm")) := ⟨_, _, ok_copies Ev Ex  F8, He.glo_ok X G (cd.fact 8 (f := .glo "add_copies") rfl), F8.kp, F8.binds fun _ _ _ _ _ _ us hl => match us, hl with | [_, _, _], _ => rfl⟩
  have C_9 : CalX l.prog w K mg base "body_of_deeds" 2 ["some"] (spDeedsP K (He.ga K "BadForm")) := ⟨_, _, ok_deedsP Ev Ex C_7 C_8 F9, He.glo_ok X G (cd.fact 9 (f := .glo "body_of_deeds") rfl), F9.kp, F9.binds fun _ _ _ _ _ _ us hl => match us, hl with | [_], _ => rfl⟩
  have C_10 : CalN l.prog w K mg base "byte_at" 1 ["some", "place"] (spByteX K (He.ga K "Cut")) := ⟨_, _, ok_byteX Ev Ex  F10, He.glo_ok X G (cd.fact 10 (f := .glo "byte_at") rfl), F10.kp, F10.binds fun _ _ _ _ _ _ us hl => match us, hl with | [_, _], _ => rfl⟩
  have C_11 : CalN l.prog w K mg base "read_number" 2 ["some", "at"] (spReadX K (He.ga K "Cut") (He.ga K "BadForm")) := ⟨_, _, ok_readX Ev Ex C_10 F11, He.glo_ok X G (cd.fact 11 (f := .glo "read_number") rfl), F11.kp, F11.binds fun _ _ _ _ _ _ us hl => match us, hl with | [_, _], _ => rfl⟩
  have C_12 : CalN l.prog w K mg base "read_fixed" 2 ["some", "at", "many"] (spReadFX K (He.ga K "Cut")) := ⟨_, _, ok_readFX Ev Ex C_10 F12, He.glo_ok X G (cd.fact 12 (f := .glo "read_fixed") rfl), F12.kp, F12.binds fun _ _ _ _ _ _ us hl => match us, hl with | [_, _, _], _ => rfl⟩
  have C_13 : CalX l.prog w K mg base "bit_at" 1 ["some", "place"] (spBit K (He.ga K "BadForm")) := ⟨_, _, ok_bit Ev Ex  F13, He.glo_ok X G (cd.fact 13 (f := .glo "bit_at") rfl), F13.kp, F13.binds fun _ _ _ _ _ _ us hl => match us, hl with | [_, _], _ => rfl⟩
  have C_14 : CalX l.prog w K mg base "check_rest" 2 ["some", "place"] (spRest K (He.ga K "BadForm")) := ⟨_, _, ok_rest Ev Ex C_13 F14, He.glo_ok X G (cd.fact 14 (f := .glo "check_rest") rfl), F14.kp, F14.binds fun _ _ _ _ _ _ us hl => match us, hl with | [_, _], _ => rfl⟩
  have C_15 : CalX l.prog w K mg base "read_head_number" 3 ["some", "at"] (spHN K (He.ga K "BadForm")) := ⟨_, _, ok_hn Ev Ex C_11 F15, He.glo_ok X G (cd.fact 15 (f := .glo "read_head_number") rfl), F15.kp, F15.binds fun _ _ _ _ _ _ us hl => match us, hl with | [_, _], _ => rfl⟩
  have C_16 : CalX l.prog w K mg base "read_head_byte" 3 ["some", "at"] (spHB K (He.ga K "BadForm")) := ⟨_, _, ok_hb Ev Ex C_12 F16, He.glo_ok X G (cd.fact 16 (f := .glo "read_head_byte") rfl), F16.kp, F16.binds fun _ _ _ _ _ _ us hl => match us, hl with | [_, _], _ => rfl⟩
  have C_17 : Cal l.prog w K mg base "words_of" 1 ["lengths"] (spWO K) := ⟨_, _, ok_wo Ev  F17, He.glo_ok X G (cd.fact 17 (f := .glo "words_of") rfl), F17.kp, F17.binds fun _ _ _ _ _ _ us hl => match us, hl with | [_], _ => rfl⟩
  have C_18 : CalX l.prog w K mg base "check_lengths" 3 ["lengths"] (spCL K [(He.cT K ("check_lengths", none)).2, (He.cT K ("bytes_of_bits", none)).2] (He.ga K "BadForm")) := ⟨_, _, ok_cl Ev TB18 (by simp) Ex  F18, He.glo_ok X G (cd.fact 18 (f := .glo "check_lengths") rfl), F18.to.kp, F18.to.binds fun _ _ _ _ _ _ us hl => match us, hl with | [_], _ => rfl⟩
  have C_19 : CalX l.prog w K mg base "read_lengths" 4 ["some"] (spRL K (He.ga K "BadForm")) := ⟨_, _, ok_rl Ev Ex C_15 C_16 F19, He.glo_ok X G (cd.fact 19 (f := .glo "read_lengths") rfl), F19.kp, F19.binds fun _ _ _ _ _ _ us hl => match us, hl with | [_], _ => rfl⟩
  have C_20 : CalX l.prog w K mg base "read_word" 2 ["words", "some", "place"] (spRW K (He.ga K "BadForm")) := ⟨_, _, ok_rw Ev Ex C_13 F20, He.glo_ok X G (cd.fact 20 (f := .glo "read_word") rfl), F20.kp, F20.binds fun _ _ _ _ _ _ us hl => match us, hl with | [_, _, _], _ => rfl⟩
  have C_21 : CalX l.prog w K mg base "body_of_words" 5 ["some"] (spBW K [(He.cT K ("check_lengths", none)).2, (He.cT K ("bytes_of_bits", none)).2] (He.ga K "BadForm")) := ⟨_, _, ok_bw Ev Ex C_19 C_18 C_15 C_17 C_20 C_14 F21, He.glo_ok X G (cd.fact 21 (f := .glo "body_of_words") rfl), F21.kp, F21.binds fun _ _ _ _ _ _ us hl => match us, hl with | [_], _ => rfl⟩
  have C_22 : CalX l.prog w K mg base "unpressed" 6 ["kind", "some"] (spUnpA K [(He.cT K ("check_lengths", none)).2, (He.cT K ("bytes_of_bits", none)).2] (He.ga K "BadForm")) := ⟨_, _, ok_unpA Ev Ex C_9 C_21 F22, He.glo_ok X G (cd.fact 22 (f := .glo "unpressed") rfl), F22.kp, F22.binds fun _ _ _ _ _ _ us hl => match us, hl with | [_, _], _ => rfl⟩
  have C_23 : Cal l.prog w K mg base "number_bytes" 1 ["n"] (spNumber K) := ⟨_, _, ok_number Ev  F23, He.glo_ok X G (cd.fact 23 (f := .glo "number_bytes") rfl), F23.kp, F23.binds fun _ _ _ _ _ _ us hl => match us, hl with | [_], _ => rfl⟩
  have C_24 : Cal l.prog w K mg base "counted" 1 ["body"] (spCnt K) := ⟨_, _, ok_cnt Ev  F24, He.glo_ok X G (cd.fact 24 (f := .glo "counted") rfl), F24.kp, F24.binds fun _ _ _ _ _ _ us hl => match us, hl with | [_], _ => rfl⟩
  have C_25 : Cal l.prog w K mg base "word_lengths" 1 ["counts"] (spWL K) := ⟨_, _, ok_wl Ev  F25, He.glo_ok X G (cd.fact 25 (f := .glo "word_lengths") rfl), F25.kp, F25.binds fun _ _ _ _ _ _ us hl => match us, hl with | [_], _ => rfl⟩
  have C_26 : Cal l.prog w K mg base "word_bits" 1 ["number", "length"] (spWBt K) := ⟨_, _, ok_wbt Ev  F26, He.glo_ok X G (cd.fact 26 (f := .glo "word_bits") rfl), F26.kp, F26.binds fun _ _ _ _ _ _ us hl => match us, hl with | [_, _], _ => rfl⟩
  have C_27 : Cal l.prog w K mg base "head_of" 2 ["lengths", "many"] (spHd K) := ⟨_, _, ok_hd Ev C_23 F27, He.glo_ok X G (cd.fact 27 (f := .glo "head_of") rfl), F27.kp, F27.binds fun _ _ _ _ _ _ us hl => match us, hl with | [_, _], _ => rfl⟩
  have C_28 : Cal l.prog w K mg base "byte_of_bits" 1 ["bits"] (spBoB K) := ⟨_, _, ok_bob Ev  F28, He.glo_ok X G (cd.fact 28 (f := .glo "byte_of_bits") rfl), F28.kp, F28.binds fun _ _ _ _ _ _ us hl => match us, hl with | [_], _ => rfl⟩
  have C_29 : Cal l.prog w K mg base "bytes_of_bits" 4 ["bits"] (spBsB K [(He.cT K ("check_lengths", none)).2, (He.cT K ("bytes_of_bits", none)).2]) := ⟨_, _, ok_bsb Ev TB29 (by simp) C_28 F29, He.glo_ok X G (cd.fact 29 (f := .glo "bytes_of_bits") rfl), F29.to.kp, F29.to.binds fun _ _ _ _ _ _ us hl => match us, hl with | [_], _ => rfl⟩
  have C_30 : Cal l.prog w K mg base "body_words" 5 ["body"] (spBWs K [(He.cT K ("check_lengths", none)).2, (He.cT K ("bytes_of_bits", none)).2]) := ⟨_, _, ok_bws Ev C_24 C_25 C_17 C_26 C_27 C_29 F30, He.glo_ok X G (cd.fact 30 (f := .glo "body_words") rfl), F30.kp, F30.binds fun _ _ _ _ _ _ us hl => match us, hl with | [_], _ => rfl⟩
  have C_31 : Cal l.prog w K mg base "pressed" 6 ["kind", "body"] (spPrA K [(He.cT K ("check_lengths", none)).2, (He.cT K ("bytes_of_bits", none)).2]) := ⟨_, _, ok_prA Ev C_6 C_30 F31, He.glo_ok X G (cd.fact 31 (f := .glo "pressed") rfl), F31.kp, F31.binds fun _ _ _ _ _ _ us hl => match us, hl with | [_, _], _ => rfl⟩
  have C_32 : Cal l.prog w K mg base "best_pressed" 7 ["body"] (spBest K [(He.cT K ("check_lengths", none)).2, (He.cT K ("bytes_of_bits", none)).2]) := ⟨_, _, ok_best Ev C_31 F32, He.glo_ok X G (cd.fact 32 (f := .glo "best_pressed") rfl), F32.kp, F32.binds fun _ _ _ _ _ _ us hl => match us, hl with | [_], _ => rfl⟩
  have C_33 : Cal l.prog w K mg base "best_kind" 8 ["body"] (spBK K [(He.cT K ("check_lengths", none)).2, (He.cT K ("bytes_of_bits", none)).2]) := ⟨_, _, ok_bk Ev C_32 F33, He.glo_ok X G (cd.fact 33 (f := .glo "best_kind") rfl), F33.kp, F33.binds fun _ _ _ _ _ _ us hl => match us, hl with | [_], _ => rfl⟩
  have C_34 : Cal l.prog w K mg base "_law_d" 1 ["_law_cell", "_law_place", "_law_many"] spD := ⟨_, _, ok_d Ev  F34, He.glo_ok X G (cd.fact 34 (f := .glo "_law_d") rfl), F34.kp, F34.binds fun _ _ _ _ _ _ us hl => match us, hl with | [_, _, _], _ => rfl⟩
  have C_35 : Cal l.prog w K mg base "_law_same" 3 ["_law_told", "_law_due"] (spSameD K 2) := ⟨_, _, ok_sameD Ev F35 (He.glo_ok X G (cd.fact 35 (f := .glo "_law_same") rfl)) (F35.binds fun _ _ _ _ _ _ us hl => match us, hl with | [_, _], _ => rfl) 2, He.glo_ok X G (cd.fact 35 (f := .glo "_law_same") rfl), F35.kp, F35.binds fun _ _ _ _ _ _ us hl => match us, hl with | [_, _], _ => rfl⟩
  have C_36 : Cal l.prog w K mg base "_law_few" 2 ["_law_script", "_law_begin", "_law_end"] (spFew K) := ⟨_, _, ok_few Ev C_34 F36, He.glo_ok X G (cd.fact 36 (f := .glo "_law_few") rfl), F36.kp, F36.binds fun _ _ _ _ _ _ us hl => match us, hl with | [_, _, _], _ => rfl⟩
  exact ok_law Ev C_35 C_36 C_31 C_22 C_33 F37
abbrev hR : PySem.W.OpenRow := PySem.W.OpenLaw.row PySem.Challenge.rw_filecrate_k13_whole_best_kind
def hLoose : List Str := (["MOST_OF_BODY", "CrateError", "Cut", "BadForm", "MOST_NEW", "LEAST_COPIED", "MOST_COPIED", "MOST_BACK", "FIRST_COPY", "body_deeds", "deed_bytes", "cheapest_steps", "cheapest_new", "cheapest_copy", "longest_copies", "can_copy", "body_of_deeds", "check_whole", "add_copies", "MOST_BYTES", "number_bytes", "read_number", "read_fixed", "byte_at", "LONGEST_WORD", "body_words", "counted", "word_lengths", "words_of", "word_bits"] : List Str) ++ (["head_of", "bytes_of_bits", "byte_of_bits", "body_of_words", "read_lengths", "read_head_number", "read_head_byte", "check_lengths", "read_word", "bit_at", "check_rest", "KINDS", "pressed", "unpressed", "best_kind", "best_pressed", "_law_d", "_law_same", "_law_few"] : List Str)
abbrev hk : PySem.W.Hook := He.hookX 5 hFa hFn [] hTf hEx
def hOb (s : PySem.W.SharedT) : He.AlX := He.obsX 5 hFa hFn [] hTf hEx (HandSHeadRun.getT s)
theorem hOb_eq (s : PySem.W.SharedT) : hOb s = hk.obs s.abs := He.obsX_eq (HandSHeadRun.getT_eq s)
set_option maxHeartbeats 0 in
theorem hRun (w : World) : HandSHeadRun.RunEq hR (PySem.W.view hR.prog [55]) hk hOb 3000 hLoose w := by
  intro os
  kernel_rfl
end Fc
open PySem PySem.W PySem.Calls PyProof.Rows
set_option maxHeartbeats 0 in
theorem PySem.Challenge.cw_filecrate_k13_whole_best_kind_holds : PySem.Challenge.rw_filecrate_k13_whole_best_kind.Holds := by
  w_on; o_law
  refine HandSHeadRun.head_any (r := PySem.W.OpenLaw.row PySem.Challenge.rw_filecrate_k13_whole_best_kind) (q := view (PySem.W.OpenLaw.row PySem.Challenge.rw_filecrate_k13_whole_best_kind).prog [55]) (H := Fc.hk) (ob := Fc.hOb) (M := 3000) (loose := Fc.hLoose) (d := HandSHeadRun.topDef (PySem.W.OpenLaw.row PySem.Challenge.rw_filecrate_k13_whole_best_kind).prog 55) (kwd := []) Fc.hOb_eq
    (by kernel_rfl) (fun s => by kernel_rfl) Fc.hRun (by kernel_rfl) (by kernel_rfl) (by kernel_rfl) (by rfl) (by first | assumption | decide +kernel) (by decide +kernel) ⟨rfl, rfl, rfl, rfl, rfl, by decide +kernel⟩ ?hw ?hc
  case hw => w_witness2
  case hc =>
    refine LamX.walk_ofTsE (l := PySem.Challenge.rw_filecrate_k13_whole_best_kind) (n := 63) (k := 9) (x := "_law_script") (CX := fun _ => L2.CX0) rfl (by decide) (by kernel_rfl) ⟨rfl, by decide, by decide⟩ ?F (fun _ _ _ _ _ h => h)
    intro w mg fa h Y G hmg0
    obtain ⟨K, KX, c⟩ := Y
    have hmg : mg ("law" : PySem.Str) = some (.ref fa) := by
      have e : (HandSHeadRun.topDef (PySem.W.OpenLaw.row PySem.Challenge.rw_filecrate_k13_whole_best_kind).prog 55).name = ("law" : PySem.Str) := by kernel_rfl
      rw [← e]
      exact hmg0
    exact ⟨K, KX, Fc.all_mk KX G hmg c⟩
