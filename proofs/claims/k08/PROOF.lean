import PyProof.Rows.All
import Wide.All
import OpenK.AllK
import Wide.FinOn
import HandS.ForMost
import HandS.IsInst
import HandS.TupAny
import HandS.TupMul
import HandS.Zip
import HandS.Style
import HandS.ForExc
import HandS.TryMany
import PySem.Challenge.RW_filecrate_k08_whole_deeds_read
set_option Elab.async false
set_option linter.all false
set_option maxRecDepth 100000
set_option maxHeartbeats 4000000
namespace Fc
open PySem PySem.Spec PyProof.Rows L2

/-! ### heaps that only grow -/
theorem grow {H : Hp} {p : Addr} {o : HO} (n : H p = none) : Same H (upd H p o) := by
  intro b u e
  have hb : b ≠ p := ne_of_none e n
  rw [upd_ne hb, e]
theorem keepT {K : PySem.W.Frag} {H H' : Hp} {a : Addr} {xs : List V} (e : Same H H') (h : SqT K H a xs) : SqT K H' a xs := by
  rcases h with (h | ⟨o, h⟩) | h
  · left; left; exact e a _ h
  · left; right; exact ⟨o, e a _ h⟩
  · right; exact h
/-- behind it a tuple of these, and all that stood -/
def Tups (K : PySem.W.Frag) (H : Hp) (xs : List V) (Q : VK) : Prop := ∀ H' p, Same H H' → SqT K H' p xs → Q (.ref p) H'
theorem Tups.new {K : PySem.W.Frag} {H : Hp} {xs : List V} {Q : VK} (h : Tups K H xs Q) {p : Addr} (n : H p = none) : Q (.ref p) (upd H p (.tup xs)) := h _ _ (grow n) (SqT.of upd_same)
theorem Tups.old {K : PySem.W.Frag} {H : Hp} {xs ys : List V} {Q : VK} (h : Tups K H xs Q) {p : Addr} (e : SqT K H p ys) (eq : ys = xs) : Q (.ref p) H := by
  subst eq
  exact h _ _ (Same.refl H) e
theorem PEweak {X : Cx} {e : Expr} {t u : TE} (h : PE X e t) (w : ∀ σ H Q, u σ H Q → t σ H Q) : PE X e u := ⟨fun pins s σ H Q I q => h.run pins s σ H Q I (w σ H Q q)⟩
def upA (t : TA) : TA := fun σ H Q => ∃ R, t σ H R ∧ ∀ vs H', R vs H' → Q vs H'
theorem PAup {X : Cx} {es : List Expr} {t : TA} (h : PA X es t) : PA X es (upA t) := ⟨fun ps pins s σ H Q I q => by
  obtain ⟨R, q1, q2⟩ := q
  refine thn (h.run ps pins s σ H R I q1) fun us s' ⟨vs, H', I', r, k⟩ => ⟨vs, H', I', r, q2 _ _ k⟩⟩

/-! ### rules whose reading says Tups -/
section
variable {X : Cx}
def rCatU (K : PySem.W.Frag) : R2 := fun x y H Q => ∃ a b xs ys, x = .ref a ∧ y = .ref b ∧ SqT K H a xs ∧ SqT K H b ys ∧ xs.length + ys.length ≤ sizeLine ∧ Tups K H (xs ++ ys) Q
theorem op_catU : OpR X (binaryOp .Add) (rCatU X.K) := by
  intro pins s σ H x y v u Q I rx ry h
  obtain ⟨a, b, xs, ys, rfl, rfl, ha, hb, hz, q⟩ := h
  refine op_catA pins s σ H _ _ v u Q I rx ry ⟨a, b, xs, ys, rfl, rfl, ha, hb, hz, fun e => ?_, fun _ e => ?_, fun _ _ p n => q.new n⟩
  · subst e; exact q.old hb rfl
  · subst e; exact q.old ha (List.append_nil xs).symm
def rSlU (K : PySem.W.Frag) : V → Option Int → Option Int → Hp → VK → Prop := fun x lo hi H Q => ∃ a xs, x = .ref a ∧ SqT K H a xs ∧ Tups K H (cutV xs lo hi) Q
theorem sl_tupU : SlR X (rSlU X.K) := by
  intro pins s σ H x v vl vu lo hi sl Q I rx hs pl pu h
  obtain ⟨a, xs, rfl, hx, q⟩ := h
  refine sl_tupA pins s σ H _ v vl vu lo hi sl Q I rx hs pl pu ⟨a, xs, rfl, hx, fun e => q.old hx ?_, fun _ p n => q.new n⟩
  unfold cutV
  rw [e.1, e.2, List.drop_zero, Nat.sub_zero, List.take_length]
def tTupU (K : PySem.W.Frag) (t : TA) : TE := fun σ H Q => t σ H fun xs H1 => xs.length ≤ sizeLine ∧ Tups K H1 xs Q
theorem pe_tupU {es : List Expr} {x1 : Nat} {pos : Pos} {t : TA} (h : PA X es t) : PE X (.Tuple es x1 pos) (tTupU X.K t) :=
  PEweak (pe_tup (PAup h)) fun σ H Q q => ⟨_, q, fun vs H' k => ⟨k.1, fun p n => k.2.new n⟩⟩
theorem call_divmodU : CallR X (.builtin "divmod") (fun xs H Q => ∃ i j, xs = [.int i, .int j] ∧ CDiv i j ∧ Tups X.K H [.int (i / j), .int (i % j)] Q) := by
  intro pins s σ H xs us Q I r h
  obtain ⟨i, j, e, c, q⟩ := h
  exact call_divmod pins s σ H xs us Q I r ⟨i, j, e, c, fun p n => q.new n⟩
theorem call_tupleU : CallR X (.type "tuple") (fun xs H Q => ∃ p ys, xs = [.ref p] ∧ SqL X.K H p ys ∧ Tups X.K H ys Q) := by
  intro pins s σ H xs us Q I r h
  obtain ⟨p, ys, e, hp, q⟩ := h
  exact call_tuple_of pins s σ H xs us Q I r ⟨p, ys, e, .inl ⟨hp, fun l n => q.new n⟩⟩
theorem pe_globI {x : Str} {n : Int} {pos : Pos} (hg : Gl X x) (h : ∃ t, X.mg x = some (.int n t)) (hd : (x == ("__debug__" : Str)) = false := by decide) : PE X (.Name x pos) (tC (.int n)) := by
  obtain ⟨t, e⟩ := h
  exact pe_glob hg e ⟨t, rfl⟩ hd
def tGT (K : PySem.W.Frag) (xs : List V) : TE := fun _ H Q => ∀ a, (∀ H', SqT K H' a xs) → Q (.ref a) H
theorem pe_globT {x : Str} {xs : List V} {pos : Pos} (hg : Gl X x) (h : ∃ a, X.mg x = some (.ref a) ∧ ∀ H', SqT X.K H' a xs) (hd : (x == ("__debug__" : Str)) = false := by decide) : PE X (.Name x pos) (tGT X.K xs) := by
  obtain ⟨a, e, q⟩ := h
  exact PEweak (pe_glob (v := .ref a) hg e rfl hd) fun σ H Q k => k a q
theorem pe_btype {x : Str} {n : String} {pos : Pos} (hg : Gl X x) (hm : X.mg x = none) (hv : bootBuiltins x = some (.type n)) (hn : x ≠ "__name__" := by decide) (hd : (x == ("__debug__" : Str)) = false := by decide) : PE X (.Name x pos) (tC (.ty n)) := pe_bltn hg hm hv rfl hn hd
end

/-! ### a def that is called -/
structure Cal (P : Program) (w : World) (K : PySem.W.Frag) (mg : Str → Option Value) (base : Heap) (x : Str) (k : Nat) (ps : List Str) (sp : Sp) : Prop where
  ex : ∃ f fd, FnOk P w K mg base CX0 k f fd ps sp ∧ mg x = some (.ref f) ∧ PySem.W.keepIn K (.ref f) = true ∧ Binds K fd ps []
theorem pe_c {X : Cx} {x : Str} {k : Nat} {ps : List Str} {sp : Sp} {p pos : Pos} {e : Expr} {es : List Expr} {t : TA} (C : Cal X.prog X.w X.K X.mg X.base x k ps sp) (hr : Room k X.A) (ha : PA X (e :: es) t) (hg : Gl X x := by rfl) (hdb : (x == ("__debug__" : Str)) = false := by decide)
    (he : starEach (e :: es) X.env = (false, eval e X.env) :: starEach es X.env := by rfl) (hpl : (backTo pos (starEach es X.env)).any (·.1) = false := by rfl) : PE X (.Call (.Name x p) (e :: es) [] pos) (tCall sp [] E0 t) := by
  obtain ⟨f, fd, F, m, kp, b⟩ := C.ex
  exact pe_call F hr hg m kp b .nil pass0 ha hdb he hpl

/-! ### joining ways -/
theorem seq_by {t u : TS} {D : Ends} {σ : L2.St} {H : Hp} (P : L2.St → Hp → Prop) (h2 : ∀ σ H, P σ H → u D σ H) (h1 : (∀ σ H, P σ H → u D σ H) → t { D with nx := u D } σ H) : tSeq t u D σ H := h1 h2

theorem seq_c {v : V} {i : Nat} {u : TS} {D : Ends} {σ : L2.St} {H : Hp} (h : u D (σ.set i (some v)) H) : tSeq (tAsg (tC v) (gName i)) u D σ H := h

theorem if_by {c : TT} {a b : TS} {D : Ends} {σ : L2.St} {H : Hp} (PY : Prop) (hX : a D σ H) (hY : PY → b D σ H) (hc : (∀ k : Bool, (k = false → PY) → if k = true then a D σ H else b D σ H) → c σ H fun k H1 => if k = true then a D σ H1 else b D σ H1) : tIfS c a b D σ H := hc (fun k h => by
  cases k with
  | true => rw [if_pos rfl]; exact hX
  | false => rw [if_neg Bool.false_ne_true]; exact hY (h rfl))

theorem if_by2 {c : TT} {a b : TS} {D : Ends} {σ : L2.St} {H : Hp} (PX PY : Prop) (hX : PX → a D σ H) (hY : PY → b D σ H) (hc : (∀ k : Bool, (k = true → PX) → (k = false → PY) → if k = true then a D σ H else b D σ H) → c σ H fun k H1 => if k = true then a D σ H1 else b D σ H1) : tIfS c a b D σ H := hc (fun k hx h => by
  cases k with
  | true => rw [if_pos rfl]; exact hX (hx rfl)
  | false => rw [if_neg Bool.false_ne_true]; exact hY (h rfl))

theorem seq_if2 {c : TT} {a b u : TS} {D : Ends} {σ : L2.St} {H : Hp} (PX PY : Prop) (hX : PX → a { D with nx := u D } σ H) (hY : PY → b { D with nx := u D } σ H) (hc : (∀ k : Bool, (k = true → PX) → (k = false → PY) → if k = true then a { D with nx := u D } σ H else b { D with nx := u D } σ H) → c σ H fun k H1 => if k = true then a { D with nx := u D } σ H1 else b { D with nx := u D } σ H1) : tSeq (tIfS c a b) u D σ H := if_by2 PX PY hX hY hc

/-! ### isinstance -/
theorem k_ii {K : PySem.W.Frag} : PySem.W.kitOne K (.type "int") (.type "int") = some true := kit_ty (by decide +kernel)
theorem k_ib {K : PySem.W.Frag} : PySem.W.kitOne K (.type "int") (.type "bool") = some false := kit_ty (by decide +kernel)
theorem k_it {K : PySem.W.Frag} : PySem.W.kitOne K (.type "int") (.type "tuple") = some false := kit_ty (by decide +kernel)
theorem k_is' {K : PySem.W.Frag} : PySem.W.kitOne K (.type "int") (.type "str") = some false := kit_ty (by decide +kernel)
theorem k_tb {K : PySem.W.Frag} : PySem.W.kitOne K (.type "tuple") (.type "bool") = some false := kit_ty (by decide +kernel)
theorem k_tt {K : PySem.W.Frag} : PySem.W.kitOne K (.type "tuple") (.type "tuple") = some true := kit_ty (by decide +kernel)
theorem k_bb {K : PySem.W.Frag} : PySem.W.kitOne K (.type "bool") (.type "bool") = some true := kit_ty (by decide +kernel)
theorem k_sb {K : PySem.W.Frag} : PySem.W.kitOne K (.type "str") (.type "bool") = some false := kit_ty (by decide +kernel)
theorem k_st {K : PySem.W.Frag} : PySem.W.kitOne K (.type "str") (.type "tuple") = some false := kit_ty (by decide +kernel)
theorem k_ss {K : PySem.W.Frag} : PySem.W.kitOne K (.type "str") (.type "str") = some true := kit_ty (by decide +kernel)
theorem ty_tup {K : PySem.W.Frag} {H : Hp} {a : Addr} {xs : List V} (h : SqT K H a xs) : TyX K H (.ref a) (.type "tuple") := by
  rcases h with (h | ⟨o, h⟩) | ⟨o, its, n, h, c, _⟩
  · exact .base (.tup h)
  · exact .fTuple h
  · exact .kTuple h c

/-! ### cuts of whole numbers -/
theorem cut_to (ns : List Int) (k : Nat) : cutV (ns.map V.int) none (some (k : Int)) = (ns.take k).map V.int := by
  unfold cutV
  rw [HT.sIx_none, HT.sIx_nat, List.drop_zero, Nat.sub_zero, List.length_map, List.map_take]
  by_cases h : k ≤ ns.length
  · rw [Nat.min_eq_left h]
  · have h' : ns.length ≤ k := by omega
    rw [Nat.min_eq_right h', List.take_of_length_le (by rw [List.length_map]; omega), List.take_of_length_le (by rw [List.length_map]; omega)]
theorem cut_from (ns : List Int) (k : Nat) : cutV (ns.map V.int) (some (k : Int)) none = (ns.drop k).map V.int := by
  unfold cutV
  rw [HT.sIx_none, HT.sIx_nat, List.length_map, List.map_drop]
  by_cases h : k ≤ ns.length
  · rw [Nat.min_eq_left h]
    exact List.take_of_length_le (by rw [List.length_drop, List.length_map]; omega)
  · have h' : ns.length ≤ k := by omega
    rw [Nat.min_eq_right h', List.drop_of_length_le (by rw [List.length_map]; omega), List.drop_of_length_le (by rw [List.length_map]; omega), List.take_nil]
theorem cut_mid (ns : List Int) (i j : Nat) : cutV (ns.map V.int) (some (i : Int)) (some (j : Int)) = ((ns.drop i).take (j - i)).map V.int := by
  unfold cutV
  rw [HT.sIx_nat, HT.sIx_nat, List.length_map, List.map_take, List.map_drop]
  by_cases h : i ≤ ns.length
  · rw [Nat.min_eq_left h]
    by_cases g : j ≤ ns.length
    · rw [Nat.min_eq_left g]
    · have g' : ns.length ≤ j := by omega
      rw [Nat.min_eq_right g', List.take_of_length_le (by rw [List.length_drop, List.length_map]; omega), List.take_of_length_le (by rw [List.length_drop, List.length_map]; omega)]
  · have h' : ns.length ≤ i := by omega
    rw [Nat.min_eq_right h', List.drop_of_length_le (by rw [List.length_map]; omega), List.drop_of_length_le (by rw [List.length_map]; omega), List.take_nil, List.take_nil]

/-! ### a comprehension whose items are told by a row -/
theorem lc_row {K : PySem.W.Frag} {a : Addr} {xs ys : List V} {te : TE} {vs : List Nat} {σ : L2.St} {H1 : Hp} {D : Addr} {j : Nat} {Qd : Hp → Prop} (nD : H1 D = none) (hs : SqL K H1 a xs) (hy : ys.length = xs.length) (hz : xs.length ≤ sizeLine)
    (hw : ∀ x, wipe ((wipe σ vs).set j (some x)) vs = wipe σ vs)
    (turn : ∀ (i : Nat) (x y : V) (H : Hp) (R : V → Hp → Prop), xs[i]? = some x → ys[i]? = some y → Same H1 H → (∀ H', Same H H' → R y H') → te ((wipe σ vs).set j (some x)) H R) (hd : ∀ H', Same H1 H' → H' D = some (.lst ys) → Qd H') :
    ∃ W : Nat → Nat → Hp → Prop, (∃ m, W 0 m (upd H1 D (.lst []))) ∧ ∀ i m H, W i m H →
      ((Itl K a).stop i H ∧ Qd H) ∨ ((Itl K a).go i H ∧ ∃ Nx : Hp → Prop, (∀ H', Nx H' → ∃ m', m' < m ∧ W (i + 1) m' H') ∧ ∀ x H', (Itl K a).yld i H x H' → gName j x (wipe σ vs) H' fun σ2 H2 => wipe σ2 vs = wipe σ vs ∧ tYes σ2 H2 fun b H3 =>
        if b = true then te σ2 H3 fun y H4 => ∃ acc, H4 D = some (.lst acc) ∧ acc.length < sizeLine ∧ Nx (upd H4 D (.lst (acc ++ [y]))) else Nx H3) := by
  refine lc_list (xs := xs) (fun i H => Same H1 H ∧ H D = some (.lst (ys.take i))) ⟨grow nD, upd_same⟩ (fun i H _ p => p.1.seq hs) (fun i x H hx p => ?_) (fun H p => hd H p.1 ?_)
  · have hi : i < xs.length := (List.getElem?_eq_some_iff.mp hx).1
    have hiy : i < ys.length := by omega
    refine ⟨hw x, ?_⟩
    unfold tYes
    dsimp only
    rw [if_pos rfl]
    refine turn i x ys[i] H _ hx (List.getElem?_eq_getElem hiy) p.1 fun H' sm => ⟨ys.take i, sm _ _ p.2, ?_, ?_, ?_⟩
    · rw [List.length_take]; omega
    · intro b o e
      have hb : b ≠ D := ne_of_none e nD
      rw [upd_ne hb]
      exact sm _ _ (p.1 _ _ e)
    · rw [upd_same, List.take_add_one, List.getElem?_eq_getElem hiy]
      rfl
  · have := p.2
    rw [← hy, List.take_length] at this
    exact this
theorem lc_rng {lo : Int} {n : Nat} {ys : List V} {te : TE} {vs : List Nat} {σ : L2.St} {H1 : Hp} {D : Addr} {j : Nat} {Qd : Hp → Prop} (nD : H1 D = none) (hy : ys.length = n) (hz : n ≤ sizeLine)
    (hw : ∀ x, wipe ((wipe σ vs).set j (some x)) vs = wipe σ vs)
    (turn : ∀ (i : Nat) (y : V) (H : Hp) (R : V → Hp → Prop), i < n → ys[i]? = some y → Same H1 H → (∀ H', Same H H' → R y H') → te ((wipe σ vs).set j (some (.int (lo + i)))) H R) (hd : ∀ H', Same H1 H' → H' D = some (.lst ys) → Qd H') :
    ∃ W : Nat → Nat → Hp → Prop, (∃ m, W 0 m (upd H1 D (.lst []))) ∧ ∀ i m H, W i m H →
      ((Itr lo n).stop i H ∧ Qd H) ∨ ((Itr lo n).go i H ∧ ∃ Nx : Hp → Prop, (∀ H', Nx H' → ∃ m', m' < m ∧ W (i + 1) m' H') ∧ ∀ x H', (Itr lo n).yld i H x H' → gName j x (wipe σ vs) H' fun σ2 H2 => wipe σ2 vs = wipe σ vs ∧ tYes σ2 H2 fun b H3 =>
        if b = true then te σ2 H3 fun y H4 => ∃ acc, H4 D = some (.lst acc) ∧ acc.length < sizeLine ∧ Nx (upd H4 D (.lst (acc ++ [y]))) else Nx H3) := by
  refine lc_range (fun i H => Same H1 H ∧ H D = some (.lst (ys.take i))) ⟨grow nD, upd_same⟩ (fun i H hi p => ?_) (fun H p => hd H p.1 ?_)
  · have hiy : i < ys.length := by omega
    refine ⟨hw _, ?_⟩
    unfold tYes
    dsimp only
    rw [if_pos rfl]
    refine turn i ys[i] H _ hi (List.getElem?_eq_getElem hiy) p.1 fun H' sm => ⟨ys.take i, sm _ _ p.2, ?_, ?_, ?_⟩
    · rw [List.length_take]; omega
    · intro b o e
      have hb : b ≠ D := ne_of_none e nD
      rw [upd_ne hb]
      exact sm _ _ (p.1 _ _ e)
    · rw [upd_same, List.take_add_one, List.getElem?_eq_getElem hiy]
      rfl
  · have := p.2
    rw [← hy, List.take_length] at this
    exact this
end Fc

namespace Fc
open PySem PySem.Spec L2 PyProof.Rows
/-! ### [e for x, y in zip(t, u)] over tuples, its items told by a row -/
theorem lc_zip {K : PySem.W.Frag} {a b : Addr} {xs ys zs : List V} {te : TE} {vs : List Nat} {σ : L2.St} {H1 : Hp} {D : Addr} {j k : Nat} {Qd : Hp → Prop} (nD : H1 D = none) (ha : SqT K H1 a xs) (hb : SqT K H1 b ys) (hy : ys.length = xs.length) (hzl : zs.length = xs.length) (hz : xs.length ≤ sizeLine)
    (hw : ∀ x y, wipe (((wipe σ vs).set j (some x)).set k (some y)) vs = wipe σ vs)
    (turn : ∀ (i : Nat) (x y z : V) (H : Hp) (R : V → Hp → Prop), xs[i]? = some x → ys[i]? = some y → zs[i]? = some z → Same H1 H → (∀ H', Same H H' → R z H') → te (((wipe σ vs).set j (some x)).set k (some y)) H R) (hd : ∀ H', Same H1 H' → H' D = some (.lst zs) → Qd H') :
    ∃ W : Nat → Nat → Hp → Prop, (∃ m, W 0 m (upd H1 D (.lst []))) ∧ ∀ i m H, W i m H →
      ((RZ.ItzT K a b).stop i H ∧ Qd H) ∨ ((RZ.ItzT K a b).go i H ∧ ∃ Nx : Hp → Prop, (∀ H', Nx H' → ∃ m', m' < m ∧ W (i + 1) m' H') ∧ ∀ x H', (RZ.ItzT K a b).yld i H x H' → gTup K 2 (gCons (gName j) (gCons (gName k) gNil)) x (wipe σ vs) H' fun σ2 H2 => wipe σ2 vs = wipe σ vs ∧ tYes σ2 H2 fun b H3 =>
        if b = true then te σ2 H3 fun y H4 => ∃ acc, H4 D = some (.lst acc) ∧ acc.length < sizeLine ∧ Nx (upd H4 D (.lst (acc ++ [y]))) else Nx H3) := by
  refine ⟨fun i m H => m = xs.length - i ∧ i ≤ xs.length ∧ Same H1 H ∧ H D = some (.lst (zs.take i)), ⟨xs.length, rfl, Nat.zero_le _, grow nD, upd_same⟩, ?_⟩
  rintro i m H ⟨rfl, hi, sm, hD⟩
  have qa := keepT sm ha
  have qb := keepT sm hb
  by_cases lt : i < xs.length
  · have ly : i < ys.length := by omega
    have lz : i < zs.length := by omega
    refine .inr ⟨⟨xs, ys, xs[i], ys[i], qa, qb, List.getElem?_eq_getElem lt, List.getElem?_eq_getElem ly⟩, fun H' => Same H1 H' ∧ H' D = some (.lst (zs.take (i + 1))), fun H' p => ⟨xs.length - (i + 1), by omega, rfl, lt, p.1, p.2⟩, fun v H' yl => ?_⟩
    obtain ⟨T, x, y, rfl, nT, rfl, fx, fy⟩ := yl
    have ex : xs[i]? = some x := fx xs qa
    have ey : ys[i]? = some y := fy ys qb
    refine ⟨T, [x, y], rfl, SqT.of upd_same, rfl, x, [y], rfl, y, [], rfl, rfl, hw x y, ?_⟩
    unfold tYes
    dsimp only
    rw [if_pos rfl]
    have sT : Same H (upd H T (.tup [x, y])) := grow nT
    refine turn i x y zs[i] _ _ ex ey (List.getElem?_eq_getElem lz) (sm.trans sT) fun H' e => ⟨zs.take i, e _ _ (sT _ _ hD), ?_, ?_, ?_⟩
    · rw [List.length_take]; omega
    · intro c o h
      have hc : c ≠ D := ne_of_none h nD
      rw [upd_ne hc]
      exact e _ _ (sT _ _ (sm _ _ h))
    · rw [upd_same, List.take_add_one, List.getElem?_eq_getElem lz]
      rfl
  · have e : i = xs.length := by omega
    subst e
    refine .inl ⟨⟨xs, ys, qa, qb, .inl (Nat.le_refl _)⟩, hd H sm ?_⟩
    rw [hD, ← hzl, List.take_length]
end Fc

namespace Fc
open PySem PySem.Spec L2 PyProof.Rows
/-! ### lists that a def made itself -/
theorem keepT_lst {K : PySem.W.Frag} {H : Hp} {p t : Addr} {xs ys zs : List V} (h : SqT K H t xs) (e : H p = some (.lst ys)) : SqT K (upd H p (.lst zs)) t xs := by
  rcases h with (h | ⟨o, h⟩) | h
  · refine .inl (.inl ?_)
    rw [upd_ne (fun z => by rw [z, e] at h; cases h)]
    exact h
  · refine .inl (.inr ⟨o, ?_⟩)
    rw [upd_ne (fun z => by rw [z, e] at h; cases h)]
    exact h
  · exact .inr h
theorem keep_lst {H H' : Hp} {p : Addr} {zs : List V} (e : Same H H') (n : H p = none) : Same H (upd H' p (.lst zs)) := by
  intro b o h
  rw [upd_ne (ne_of_none h n)]
  exact e b o h
theorem got {ns : List Int} {i : Nat} {x : V} (h : (ns.map V.int)[i]? = some x) : ∃ n, ns[i]? = some n ∧ x = .int n := by
  rw [List.getElem?_map] at h
  cases e : ns[i]? with
  | none => rw [e] at h; cases h
  | some n =>
    rw [e] at h
    exact ⟨n, rfl, (Option.some.inj h).symm⟩
theorem drop_head {S : List Int} {k : Nat} {x : Int} {r : List Int} (h : S.drop k = x :: r) : S[k]? = some x := by
  have := congrArg (·[0]?) h
  simpa [List.getElem?_drop] using this
theorem drop_more {S : List Int} {k : Nat} {x : Int} {r : List Int} (h : S.drop k = x :: r) : S.drop (k + 1) = r := by
  have := congrArg (·.drop 1) h
  simpa [List.drop_drop] using this
/-! ### the bytes of a number -/
def numB (n : Int) : List Int := if 127 < n then (n % 128 + 128) :: numB (n / 128) else [n]
termination_by n.toNat
decreasing_by omega
theorem numB_big {n : Int} (h : 127 < n) : numB n = (n % 128 + 128) :: numB (n / 128) := by
  conv => lhs; rw [numB]
  rw [if_pos h]
theorem numB_small {n : Int} (h : ¬ 127 < n) : numB n = [n] := by
  rw [numB, if_neg h]
theorem numB_len : ∀ (k : Nat) (n : Int), 0 ≤ n → n < 128 ^ (k + 1) → (numB n).length ≤ k + 1
  | 0, n, h0, h1 => by
    have : n < 128 := h1
    rw [numB_small (by omega)]
    simp
  | k + 1, n, h0, h1 => by
    by_cases z : 127 < n
    · rw [numB_big z, List.length_cons]
      have e : (128 : Int) ^ (k + 1 + 1) = 128 ^ (k + 1) * 128 := Int.pow_succ _ _
      have := numB_len k (n / 128) (by omega) (by
        rw [e] at h1
        exact Int.ediv_lt_of_lt_mul (by decide) h1)
      omega
    · rw [numB_small z]
      simp
theorem numB_few {n : Int} (h0 : 0 ≤ n) (h1 : n < 4398046511104) : (numB n).length ≤ 6 := numB_len 5 n h0 (by
  have : (128 : Int) ^ (5 + 1) = 4398046511104 := by decide
  rw [this]
  exact h1)
/-! ### fixed bytes -/
def low : Nat → Int → List Int
  | 0, _ => []
  | k + 1, n => n % 256 :: low k (n / 256)
def sh : Nat → Int → Int
  | 0, n => n
  | k + 1, n => sh k (n / 256)
theorem low_len : ∀ (k : Nat) (n : Int), (low k n).length = k
  | 0, _ => rfl
  | k + 1, n => by rw [low, List.length_cons, low_len]
theorem low_more : ∀ (k : Nat) (n : Int), low (k + 1) n = low k n ++ [sh k n % 256]
  | 0, n => rfl
  | k + 1, n => by
    rw [low, low_more k (n / 256)]
    rfl
theorem sh_more : ∀ (k : Nat) (n : Int), sh (k + 1) n = sh k n / 256
  | 0, n => rfl
  | k + 1, n => by
    show sh (k + 1) (n / 256) = sh k (n / 256) / 256
    rw [sh_more k (n / 256)]
def val256 (l : List Int) : Int := l.foldl (fun x b => x * 256 + b) 0
theorem val_low : ∀ (k : Nat) (n : Int), 0 ≤ n → n < 256 ^ k → val256 (low k n).reverse = n
  | 0, n, h0, h1 => by
    have : n < 1 := h1
    show (0 : Int) = n
    omega
  | k + 1, n, h0, h1 => by
    have e : (256 : Int) ^ (k + 1) = 256 ^ k * 256 := Int.pow_succ _ _
    have ih := val_low k (n / 256) (by omega) (by
      rw [e] at h1
      exact Int.ediv_lt_of_lt_mul (by decide) h1)
    rw [low, List.reverse_cons]
    unfold val256 at ih ⊢
    rw [List.foldl_append, ih]
    show n / 256 * 256 + n % 256 = n
    omega
theorem val_take {l : List Int} {i : Nat} {x : Int} (h : l[i]? = some x) : val256 (l.take (i + 1)) = val256 (l.take i) * 256 + x := by
  unfold val256
  rw [List.take_add_one, h, Option.toList_some, List.foldl_append]
  rfl
end Fc

namespace Fc
open PySem PySem.Spec L2 PyProof.Rows
/-! ### t * k of any small k -/
theorem mul_self (l : Addr) (its : Array Value) (n : Nat) (dd : Option Addr) (sl : Array (Option Value)) (k : Int) (u : Tok) (c0 : (decide (k < -(2 ^ 63)) || decide (k ≥ 2 ^ 63)) = false) (c1 : (its.isEmpty || k == 1) = true) :
    Meets (Builtin.«tuple.__mul__» ⟨[.ref l, .int k u], []⟩) (fun _ R s => s.heap.get? l = some { cls := .type "tuple", dict := dd, data := .seq its n, slots := sl } ∧ R (.ok (.ret (Value.ref l))) s) :=
  .of_wp fun prog w A R s h => by
    obtain ⟨hp, g, d, tk, os⟩ := s
    obtain ⟨hl, h⟩ := h
    have f1 := AutoSeq1.idx_int
    wp_walk using wpAny_loadPart' hl
    repeat (first
      | (refine wpAny_ite_false (decide_eq_false (by rw [c0]; exact Bool.false_ne_true)) ?_; wp_walk using wpAny_loadPart' hl)
      | (refine wpAny_ite_true (decide_eq_true c1) ?_; wp_walk using wpAny_loadPart' hl))
    exact ⟨_, rfl, h⟩
theorem mul_none (l : Addr) (its : Array Value) (n : Nat) (dd : Option Addr) (sl : Array (Option Value)) (k : Int) (u : Tok) (c0 : (decide (k < -(2 ^ 63)) || decide (k ≥ 2 ^ 63)) = false) (c1 : (its.isEmpty || k == 1) = false) (c2 : (decide (k ≤ 0) || its.isEmpty) = true) :
    Meets (Builtin.«tuple.__mul__» ⟨[.ref l, .int k u], []⟩) (fun _ R s => s.heap.get? l = some { cls := .type "tuple", dict := dd, data := .seq its n, slots := sl } ∧
      R (.ok (.ret (Value.ref s.heap.objs.size))) { s with heap := s.heap.push { cls := Value.type "tuple", data := Data.seq #[] }, toks := s.toks }) :=
  .of_wp fun prog w A R s h => by
    obtain ⟨hp, g, d, tk, os⟩ := s
    obtain ⟨hl, h⟩ := h
    have f1 := AutoSeq1.idx_int
    wp_walk using wpAny_loadPart' hl
    repeat (first
      | (refine wpAny_ite_false (decide_eq_false (by rw [c0]; exact Bool.false_ne_true)) ?_; wp_walk using wpAny_loadPart' hl)
      | (refine wpAny_ite_false (decide_eq_false (by rw [c1]; exact Bool.false_ne_true)) ?_; wp_walk using wpAny_loadPart' hl)
      | (refine wpAny_ite_true (decide_eq_true c2) ?_; wp_walk using wpAny_loadPart' hl))
    exact ⟨_, rfl, h⟩
def rRepU (K : PySem.W.Frag) : R2 := fun x y H Q => ∃ l k xs, x = .ref l ∧ y = .int k ∧ SqT K H l xs ∧ 0 ≤ k ∧ k ≤ 1000 ∧ xs.length ≤ 1000 ∧ Tups K H (List.replicate k.toNat xs).flatten Q
section
variable {X : Cx}
theorem op_repU : OpR X (binaryOp .Mult) (rRepU X.K) := by
  intro pins s σ H x y v u Q I rx ry h
  obtain ⟨l, k, xs, rfl, rfl, hT, k0, k1, few, q⟩ := h
  by_cases hn : xs = [] ∨ k < 2
  · cases rx
    obtain ⟨t, rfl⟩ := ry
    obtain ⟨its, r, ⟨⟨cls, dd, data, sl⟩, ho, hc, n, hd⟩, hs⟩ := I.tuple hT
    simp only at hc hd
    subst hc hd
    have hle : its.length = xs.length := r.length.symm
    have c0 : (decide (k < -(2 ^ 63)) || decide (k ≥ 2 ^ 63)) = false := by
      rw [decide_eq_false (by omega), decide_eq_false (by omega)] <;> rfl
    by_cases he : xs = [] ∨ k = 1
    · have c1 : (its.toArray.isEmpty || k == 1) = true := by
        rcases he with e | e
        · have : its = [] := by
            rw [e] at hle
            exact List.eq_nil_of_length_eq_zero hle
          rw [this]
          rfl
        · rw [e]
          simp
      have ex : xs = (List.replicate k.toNat xs).flatten := by
        rcases he with e | e
        · rw [e]
          simp
        · rw [e]
          simp
      refine wpAny_binaryOp_repeat_ref (T := "tuple") (U := "int") (by decide) ⟨_, ho, rfl⟩ (fun s' => typeIs_int s' k t) noFill_tuple_mul F.fills_int_mul F.slot_int_rmul repeat_tuple F.slot_int_index.lookup
        (call_meets F.slot_int_rmul (typeIs_int s k t) F.entry_int_rmul (F.args_int_rmul_2 _ _) (int_rmul_tuple k t l its.toArray n dd sl)
          ⟨ho, rfl, ⟨_, ho, rfl⟩, call_meets F.slot_tuple_mul ⟨_, ho, rfl⟩ F.entry_tuple_mul (F.args_tuple_mul_2 _ _) (mul_self l its.toArray n dd sl k t c0 c1) ⟨ho, ?_⟩⟩)
      exact ⟨.ref l, H, I, rfl, q.old hT ex⟩
    · have hx : xs ≠ [] := fun e => he (.inl e)
      have h1 : k ≠ 1 := fun e => he (.inr e)
      have h0 : k = 0 := by
        rcases hn with e | e
        · exact absurd e hx
        · omega
      have hi : its.toArray.isEmpty = false := by
        cases its with
        | nil =>
          exact absurd (List.eq_nil_of_length_eq_zero hle.symm) hx
        | cons a b => rfl
      have c1 : (its.toArray.isEmpty || k == 1) = false := by
        rw [hi, h0]
        rfl
      have c2 : (decide (k ≤ 0) || its.toArray.isEmpty) = true := by
        rw [h0]
        rfl
      have ex : (List.replicate k.toNat xs).flatten = [] := by
        rw [h0]
        rfl
      rw [ex] at q
      refine wpAny_binaryOp_repeat_ref (T := "tuple") (U := "int") (by decide) ⟨_, ho, rfl⟩ (fun s' => typeIs_int s' k t) noFill_tuple_mul F.fills_int_mul F.slot_int_rmul repeat_tuple F.slot_int_index.lookup
        (call_meets F.slot_int_rmul (typeIs_int s k t) F.entry_int_rmul (F.args_int_rmul_2 _ _) (int_rmul_tuple k t l its.toArray n dd sl)
          ⟨ho, rfl, ⟨_, ho, rfl⟩, call_meets F.slot_tuple_mul ⟨_, ho, rfl⟩ F.entry_tuple_mul (F.args_tuple_mul_2 _ _) (mul_none l its.toArray n dd sl k t c0 c1 c2) ⟨ho, ?_⟩⟩)
      refine ⟨.ref s.heap.objs.size, _, I.laid (t' := s.toks) (o := .tup []) (fun b ob z => Heap.get?_push_of_some _ z) (Nat.le_refl _) ?_, rfl, q.new (I.hok.fresh (Nat.le_refl _))⟩
      exact ⟨Nat.zero_le _, [], .nil, IsTup.new _ _⟩
  · exact op_repT pins s σ H _ _ v u Q I rx ry ⟨l, k, xs, rfl, rfl, hT, fun e => hn (.inl e), by omega, k1, few, fun p z => q.new z⟩
/-- as rRepU, for more -/
def rRepV (K : PySem.W.Frag) : R2 := fun x y H Q => ∃ l k xs, x = .ref l ∧ y = .int k ∧ SqT K H l xs ∧ 0 ≤ k ∧ k ≤ 1000000 ∧ (xs.length : Int) * k ≤ 1000000 ∧ Tups K H (List.replicate k.toNat xs).flatten Q
theorem op_repV : OpR X (binaryOp .Mult) (rRepV X.K) := by
  intro pins s σ H x y v u Q I rx ry h
  obtain ⟨l, k, xs, rfl, rfl, hT, k0, k1, few, q⟩ := h
  by_cases sm : k ≤ 1000 ∧ xs.length ≤ 1000
  · exact op_repU pins s σ H _ _ v u Q I rx ry ⟨l, k, xs, rfl, rfl, hT, k0, sm.1, sm.2, q⟩
  · by_cases hn : xs = [] ∨ k < 2
    · rcases hn with e | e
      · subst e
        cases rx
        obtain ⟨t, rfl⟩ := ry
        obtain ⟨its, r, ⟨⟨cls, dd, data, sl⟩, ho, hc, n, hd⟩, hs⟩ := I.tuple hT
        simp only at hc hd
        subst hc hd
        have e0 : its = [] := List.eq_nil_of_length_eq_zero r.length.symm
        have c0 : (decide (k < -(2 ^ 63)) || decide (k ≥ 2 ^ 63)) = false := by
          rw [decide_eq_false (by omega), decide_eq_false (by omega)] <;> rfl
        have c1 : (its.toArray.isEmpty || k == 1) = true := by rw [e0]; rfl
        refine wpAny_binaryOp_repeat_ref (T := "tuple") (U := "int") (by decide) ⟨_, ho, rfl⟩ (fun s' => typeIs_int s' k t) noFill_tuple_mul F.fills_int_mul F.slot_int_rmul repeat_tuple F.slot_int_index.lookup
          (call_meets F.slot_int_rmul (typeIs_int s k t) F.entry_int_rmul (F.args_int_rmul_2 _ _) (int_rmul_tuple k t l its.toArray n dd sl)
            ⟨ho, rfl, ⟨_, ho, rfl⟩, call_meets F.slot_tuple_mul ⟨_, ho, rfl⟩ F.entry_tuple_mul (F.args_tuple_mul_2 _ _) (mul_self l its.toArray n dd sl k t c0 c1) ⟨ho, ?_⟩⟩)
        exact ⟨.ref l, H, I, rfl, q.old hT (by simp)⟩
      · have lx : 1000 < xs.length := by omega
        have hk : k = 0 ∨ k = 1 := by omega
        cases rx
        obtain ⟨t, rfl⟩ := ry
        obtain ⟨its, r, ⟨⟨cls, dd, data, sl⟩, ho, hc, n, hd⟩, hs⟩ := I.tuple hT
        simp only at hc hd
        subst hc hd
        have hle : its.length = xs.length := r.length.symm
        have c0 : (decide (k < -(2 ^ 63)) || decide (k ≥ 2 ^ 63)) = false := by
          rw [decide_eq_false (by omega), decide_eq_false (by omega)] <;> rfl
        have hi : its.toArray.isEmpty = false := by
          cases its with
          | nil =>
            have : xs.length = 0 := hle.symm
            omega
          | cons a b => rfl
        rcases hk with rfl | rfl
        · refine wpAny_binaryOp_repeat_ref (T := "tuple") (U := "int") (by decide) ⟨_, ho, rfl⟩ (fun s' => typeIs_int s' 0 t) noFill_tuple_mul F.fills_int_mul F.slot_int_rmul repeat_tuple F.slot_int_index.lookup
            (call_meets F.slot_int_rmul (typeIs_int s 0 t) F.entry_int_rmul (F.args_int_rmul_2 _ _) (int_rmul_tuple 0 t l its.toArray n dd sl)
              ⟨ho, rfl, ⟨_, ho, rfl⟩, call_meets F.slot_tuple_mul ⟨_, ho, rfl⟩ F.entry_tuple_mul (F.args_tuple_mul_2 _ _) (mul_none l its.toArray n dd sl 0 t c0 (by rw [hi]; rfl) rfl) ⟨ho, ?_⟩⟩)
          refine ⟨.ref s.heap.objs.size, _, I.laid (t' := s.toks) (o := .tup []) (fun b ob z => Heap.get?_push_of_some _ z) (Nat.le_refl _) ?_, rfl, Tups.new (xs := []) q (I.hok.fresh (Nat.le_refl _))⟩
          exact ⟨Nat.zero_le _, [], .nil, IsTup.new _ _⟩
        · refine wpAny_binaryOp_repeat_ref (T := "tuple") (U := "int") (by decide) ⟨_, ho, rfl⟩ (fun s' => typeIs_int s' 1 t) noFill_tuple_mul F.fills_int_mul F.slot_int_rmul repeat_tuple F.slot_int_index.lookup
            (call_meets F.slot_int_rmul (typeIs_int s 1 t) F.entry_int_rmul (F.args_int_rmul_2 _ _) (int_rmul_tuple 1 t l its.toArray n dd sl)
              ⟨ho, rfl, ⟨_, ho, rfl⟩, call_meets F.slot_tuple_mul ⟨_, ho, rfl⟩ F.entry_tuple_mul (F.args_tuple_mul_2 _ _) (mul_self l its.toArray n dd sl 1 t c0 (by rw [hi]; rfl)) ⟨ho, ?_⟩⟩)
          exact ⟨.ref l, H, I, rfl, q.old hT (by simp)⟩
    · have k2 : 2 ≤ k := by omega
      have hx : xs ≠ [] := fun e => hn (.inl e)
      cases rx
      obtain ⟨t, rfl⟩ := ry
      obtain ⟨its, r, ⟨⟨cls, dd, data, sl⟩, ho, hc, n, hd⟩, hs⟩ := I.tuple hT
      simp only at hc hd
      subst hc hd
      have hle : its.length = xs.length := r.length.symm
      have hi : its.toArray.isEmpty = false := by
        cases its with
        | nil => exact absurd (List.eq_nil_of_length_eq_zero hle.symm) hx
        | cons a b => rfl
      have hsz0 : its.toArray.size = xs.length := by rw [List.size_toArray, hle]
      have flenN : k.toNat * xs.length ≤ 1000000 := by
        have e : ((k.toNat * xs.length : Nat) : Int) = (xs.length : Int) * k := by
          rw [Int.natCast_mul, Int.toNat_of_nonneg k0, Int.mul_comm]
        omega
      have hm : ((its.toArray.size : Nat) : Int) * k ≤ 1000000 := by rw [hsz0]; exact few
      have flen : (List.replicate k.toNat its).flatten.length ≤ sizeLine := by
        rw [PyProof.Rows.lm_len_rep_flat, hle, sizeLine_eq]
        omega
      have c0 : (decide (k < -(2 ^ 63)) || decide (k ≥ 2 ^ 63)) = false := by
        rw [decide_eq_false (by omega), decide_eq_false (by omega)] <;> rfl
      have c1 : (its.toArray.isEmpty || k == 1) = false := by
        rw [hi, Bool.false_or]
        exact beq_eq_false_iff_ne.mpr (by omega)
      have c2 : (decide (k ≤ 0) || its.toArray.isEmpty) = false := by
        rw [hi, Bool.or_false]
        exact decide_eq_false (by omega)
      have c4 : Builtin.Tuple.tupleTooMany (((its.toArray.size : Nat) : Int) * k) = false := by
        unfold Builtin.Tuple.tupleTooMany
        rw [sizeLine_eq]
        exact decide_eq_false (by omega)
      refine wpAny_binaryOp_repeat_ref (T := "tuple") (U := "int") (by decide) ⟨_, ho, rfl⟩ (fun s' => typeIs_int s' k t) noFill_tuple_mul F.fills_int_mul F.slot_int_rmul repeat_tuple F.slot_int_index.lookup
        (call_meets F.slot_int_rmul (typeIs_int s k t) F.entry_int_rmul (F.args_int_rmul_2 _ _) (int_rmul_tuple k t l its.toArray n dd sl)
          ⟨ho, rfl, ⟨_, ho, rfl⟩, call_meets F.slot_tuple_mul ⟨_, ho, rfl⟩ F.entry_tuple_mul (F.args_tuple_mul_2 _ _) (tuple_mulW l its.toArray n dd sl k t c0 c1 c2 (by omega) c4 (by rw [size_rep, List.size_toArray]; exact flen)) ⟨ho, ?_⟩⟩)
      rw [size_rep]
      refine ⟨.ref s.heap.objs.size, _, I.laid (t' := s.toks) (o := .tup (List.replicate k.toNat xs).flatten) (fun b ob z => Heap.get?_push_of_some _ z) (Nat.le_refl _) ?_, rfl, q.new (I.hok.fresh (Nat.le_refl _))⟩
      refine ⟨?_, _, r.rep k.toNat, IsTup.new _ _⟩
      rw [PyProof.Rows.lm_len_rep_flat, sizeLine_eq]
      omega
end
end Fc

namespace Fc
open PySem PySem.Spec L2 PyProof.Rows
/-! ### own errors, and defs that raise them -/
abbrev veMro : List Value := [.type "ValueError", .type "Exception", .type "BaseException", .type "object"]
structure Exc (K : PySem.W.Frag) (mg : Str → Option Value) (x : Str) (C : Addr) : Prop where
  g : mg x = some (.ref C)
  x : PySem.W.excIn K C veMro "ValueError.__new__" = true
  k : PySem.W.keepIn K (.ref C) = true
  s : PySem.W.subIn K (.ref C) (.type "BaseException") = some true
  t : PySem.W.typeIn K (.ref C) = some (.type "type")
  i : PySem.W.isClsIn K C = true
theorem caught {K : PySem.W.Frag} {mg : Str → Option Value} {x : Str} {B C : Addr} {b : Bool} (e : Exc K mg x C) (h : PySem.W.subIn K (.ref B) (.ref C) = some b) : PySem.W.exmOne K (.ref B) (.ref C) = some b := by
  unfold PySem.W.exmOne
  rw [if_pos (by rw [e.s]; rfl)]
  show (if ((PySem.W.clsIn K C).isSome && PySem.W.typeIn K (.ref C) == some (.type "type")) = true then PySem.W.subIn K (.ref B) (.ref C) else none) = some b
  rw [if_pos (by rw [show (PySem.W.clsIn K C).isSome = true from e.i, e.t]; rfl), h]
section
variable {X : Cx}
theorem ps_raiseC {W : WX} {x m : Str} {C : Addr} {j : Nat} {p p2 p3 pos : Pos} (hc : X.calm = true) (tk : Takes X W) (e : Exc X.K X.mg x C) (hg : Gl X x := by rfl) (hdb : (x == ("__debug__" : Str)) = false := by decide) :
    PS X (.Raise (some (.Call (.Name x p) [.Constant (.str m) j p2] [] p3)) none pos) (fun _ σ H => W (.ref C) none σ H) :=
  ps_raise hc tk (pmk_own PySem.F.excBase_ValueError e.x e.g e.k (raises_own e.s e.t) hg hdb)
end
/-- as Cal, of a def that may raise -/
structure CalX (P : Program) (w : World) (K : PySem.W.Frag) (mg : Str → Option Value) (base : Heap) (x : Str) (k : Nat) (ps : List Str) (sp : Sp) : Prop where
  ex : ∃ f fd, FnOk P w K mg base (L2.CX P w) k f fd ps sp ∧ mg x = some (.ref f) ∧ PySem.W.keepIn K (.ref f) = true ∧ Binds K fd ps []
section
variable {X : Cx} {x : Str} {k : Nat} {ps : List Str} {sp : Sp} {p pos : Pos} {e : Expr} {es : List Expr} {t : TA}
theorem pe_cx {E : XK} (C : CalX X.prog X.w X.K X.mg X.base x k ps sp) (hr : Room k X.A) (tk : Takes X (fun cls d _ H => E cls d H)) (ha : PA X (e :: es) t) (hg : Gl X x := by rfl) (hdb : (x == ("__debug__" : Str)) = false := by decide)
    (he : starEach (e :: es) X.env = (false, eval e X.env) :: starEach es X.env := by rfl) (hpl : (backTo pos (starEach es X.env)).any (·.1) = false := by rfl) : PE X (.Call (.Name x p) (e :: es) [] pos) (tCall sp [] E t) := by
  obtain ⟨f, fd, F, m, kp, b⟩ := C.ex
  exact pe_call F hr hg m kp b .nil (passes_call tk fun _ _ _ _ h => h) ha hdb he hpl
theorem pe_cn (C : CalX X.prog X.w X.K X.mg X.base x k ps sp) (hr : Room k X.A) (ha : PA X (e :: es) t) (hg : Gl X x := by rfl) (hdb : (x == ("__debug__" : Str)) = false := by decide)
    (he : starEach (e :: es) X.env = (false, eval e X.env) :: starEach es X.env := by rfl) (hpl : (backTo pos (starEach es X.env)).any (·.1) = false := by rfl) : PE X (.Call (.Name x p) (e :: es) [] pos) (tCall sp [] E0 t) := by
  obtain ⟨f, fd, F, m, kp, b⟩ := C.ex
  exact pe_call F hr hg m kp b .nil passL ha hdb he hpl
theorem pe_cs {W : WX} (C : CalX X.prog X.w X.K X.mg X.base x k ps sp) (hr : Room k X.A) (tk : Takes X W) (ha : PA X (e :: es) t) (hg : Gl X x := by rfl) (hdb : (x == ("__debug__" : Str)) = false := by decide)
    (he : starEach (e :: es) X.env = (false, eval e X.env) :: starEach es X.env := by rfl) (hpl : (backTo pos (starEach es X.env)).any (·.1) = false := by rfl) : PE X (.Call (.Name x p) (e :: es) [] pos) (tCallS sp (WE W) t) := by
  obtain ⟨f, fd, F, m, kp, b⟩ := C.ex
  exact pe_callS F hr hg m kp b (fun σ => passAt tk σ) ha hdb he hpl
end
end Fc

namespace Fc
open PySem PySem.Spec L2 PyProof.Rows
/-! ### data of tuples, in heaps that grow -/
mutual
theorem dpKeep {K : PySem.W.Frag} {H H' : Hp} (e : Same H H') : ∀ {d : PyData} {v : V}, Dp K H v d → Dp K H' v d
  | .none, _, .non => .non
  | .bool _, _, .bl b => .bl b
  | .int _, _, .int i => .int i
  | .str _, _, .str x => .str x
  | .list _, _, .lst h hs => .lst (e.seq h) (dpKeepAll e hs)
  | .tuple _, _, .tup h hs => .tup (keepT e h) (dpKeepAll e hs)
theorem dpKeepAll {K : PySem.W.Frag} {H H' : Hp} (e : Same H H') : ∀ {ds : List PyData} {vs : List V}, DpAll K H vs ds → DpAll K H' vs ds
  | [], _, .nil => .nil
  | _ :: _, _, .cons h hs => .cons (dpKeep e h) (dpKeepAll e hs)
end
mutual
def tupsOnly : PyData → Bool
  | .none | .bool _ | .int _ | .str _ => true
  | .tuple ds => decide (ds.length ≤ 100000) && tupsAll ds
  | .list _ | .dict _ => false
def tupsAll : List PyData → Bool
  | [] => true
  | d :: r => tupsOnly d && tupsAll r
end
theorem tupsAll_get : ∀ {ds : List PyData} {i : Nat} {d : PyData}, tupsAll ds = true → ds[i]? = some d → tupsOnly d = true
  | [], _, _, _, h => by cases h
  | x :: r, 0, d, h, e => by
    rw [tupsAll, Bool.and_eq_true] at h
    cases e
    exact h.1
  | x :: r, i + 1, d, h, e => by
    rw [tupsAll, Bool.and_eq_true] at h
    exact tupsAll_get h.2 e
theorem depth_get : ∀ {ds : List PyData} {i : Nat} {d : PyData}, ds[i]? = some d → PyData.depth d ≤ PyData.depthAll ds
  | [], _, _, h => by cases h
  | x :: r, 0, d, e => by
    cases e
    rw [PyData.depthAll]
    exact Nat.le_max_left _ _
  | x :: r, i + 1, d, e => by
    rw [PyData.depthAll]
    exact Nat.le_trans (depth_get (ds := r) e) (Nat.le_max_right _ _)
theorem dpLen {K : PySem.W.Frag} {H : Hp} : ∀ {vs : List V} {ds : List PyData}, DpAll K H vs ds → vs.length = ds.length
  | _, _, .nil => rfl
  | _, _, .cons _ hs => congrArg (· + 1) (dpLen hs)
theorem dpGet {K : PySem.W.Frag} {H : Hp} : ∀ {vs : List V} {ds : List PyData} {i : Nat} {v : V}, DpAll K H vs ds → vs[i]? = some v → ∃ d, ds[i]? = some d ∧ Dp K H v d
  | _, _, _, _, .nil, h => by cases h
  | _, _, 0, _, .cons h hs, e => by
    cases e
    exact ⟨_, rfl, h⟩
  | _, _, i + 1, _, .cons h hs, e => dpGet (i := i) hs e
theorem dpInts {K : PySem.W.Frag} {H : Hp} : ∀ (A : List Int), DpAll K H (A.map V.int) (A.map PyData.int)
  | [] => .nil
  | a :: r => .cons (.int a) (dpInts r)
theorem tupsAll_ints : ∀ (A : List Int), tupsAll (A.map PyData.int) = true
  | [] => rfl
  | a :: r => by rw [List.map_cons, tupsAll, tupsAll_ints r]; rfl
theorem depthAll_ints : ∀ (A : List Int), PyData.depthAll (A.map PyData.int) = 0
  | [] => rfl
  | a :: r => by rw [List.map_cons, PyData.depthAll, depthAll_ints r]; rfl
/-- a tuple of whole numbers, as data -/
abbrev dInts (A : List Int) : PyData := .tuple (A.map PyData.int)
theorem dpTup {K : PySem.W.Frag} {H : Hp} {p : Addr} {A : List Int} (h : SqT K H p (A.map V.int)) : Dp K H (.ref p) (dInts A) := .tup h (dpInts A)
theorem dInts_ok (A : List Int) (h : A.length ≤ 100000) : tupsOnly (dInts A) = true ∧ PyData.depth (dInts A) ≤ 1 := ⟨by
  rw [tupsOnly, tupsAll_ints, decide_eq_true (by rw [List.length_map]; exact h)]
  rfl, by
  show PyData.depthAll (A.map PyData.int) + 1 ≤ 1
  rw [depthAll_ints]
  exact Nat.le_refl 1⟩
end Fc

namespace Fc
open PySem PySem.Spec L2 PyProof.Rows
/-! ### rows of deeds -/
def Byt (S : List Int) : Prop := ∀ x ∈ S, 0 ≤ x ∧ x < 256
theorem Byt.nil : Byt [] := fun x hx => by cases hx
theorem Byt.app {A B : List Int} (a : Byt A) (b : Byt B) : Byt (A ++ B) := fun x hx => by
  rcases List.mem_append.mp hx with h | h
  · exact a x h
  · exact b x h
theorem Byt.take {A : List Int} (a : Byt A) (k : Nat) : Byt (A.take k) := fun x hx => a x (List.mem_of_mem_take hx)
theorem Byt.drop {A : List Int} (a : Byt A) (k : Nat) : Byt (A.drop k) := fun x hx => a x (List.mem_of_mem_drop hx)
theorem Byt.one {x : Int} (h : 0 ≤ x ∧ x < 256) : Byt [x] := fun y hy => by
  rw [List.mem_singleton.mp hy]
  exact h
theorem Byt.rep {A : List Int} (a : Byt A) (k : Nat) : Byt (List.replicate k A).flatten := fun x hx => by
  obtain ⟨l, hl, hx'⟩ := List.mem_flatten.mp hx
  rw [(List.mem_replicate.mp hl).2] at hx'
  exact a x hx'
def moreB (far : Nat) (B : List Int) : List Int := B ++ [B.getD (B.length - far) 0]
def copyB : Nat → Nat → List Int → List Int
  | 0, _, B => B
  | k + 1, far, B => copyB k far (moreB far B)
theorem copyB_succ : ∀ (k far : Nat) (B : List Int), copyB (k + 1) far B = moreB far (copyB k far B)
  | 0, _, _ => rfl
  | k + 1, far, B => by
    show copyB (k + 1) far (moreB far B) = moreB far (copyB k far (moreB far B))
    exact copyB_succ k far (moreB far B)
theorem copyB_len : ∀ (k far : Nat) (B : List Int), (copyB k far B).length = B.length + k
  | 0, _, _ => rfl
  | k + 1, far, B => by
    show (copyB k far (moreB far B)).length = _
    rw [copyB_len k far, moreB, List.length_append]
    show B.length + 1 + k = B.length + (k + 1)
    omega
theorem moreB_byt {far : Nat} {B : List Int} (b : Byt B) (h : 0 < far) (h2 : far ≤ B.length) : Byt (moreB far B) := by
  refine b.app (Byt.one ?_)
  have lt : B.length - far < B.length := by omega
  rw [List.getD_eq_getElem?_getD, List.getElem?_eq_getElem lt]
  exact b _ (List.getElem_mem lt)
theorem copyB_byt {far : Nat} (h : 0 < far) : ∀ (k : Nat) {B : List Int}, Byt B → far ≤ B.length → Byt (copyB k far B)
  | 0, _, b, _ => b
  | k + 1, B, b, h2 => copyB_byt h k (moreB_byt b h h2) (by
    rw [moreB, List.length_append]
    omega)
def deedsF : Nat → List Int → List Int → Option (List Int)
  | _, [], B => if B.length ≤ 1000 then some B else none
  | 0, _ :: _, _ => none
  | f + 1, n :: r, B => if n ≤ 127 then (if r.length < (n + 1).toNat then none else deedsF f (r.drop (n + 1).toNat) (B ++ r.take (n + 1).toNat))
    else if r = [] then none else if (B.length : Int) ≤ r.headD 0 then none else deedsF f (r.drop 1) (copyB (n - 125).toNat (r.headD 0 + 1).toNat B)
def backF (S : List Int) : Option (List Int) := deedsF S.length S []
theorem deedsF_end {f : Nat} {B : List Int} : deedsF f [] B = if B.length ≤ 1000 then some B else none := by
  cases f <;> rfl
theorem deedsF_lit {f : Nat} {n : Int} {r B : List Int} (h : n ≤ 127) : deedsF (f + 1) (n :: r) B = if r.length < (n + 1).toNat then none else deedsF f (r.drop (n + 1).toNat) (B ++ r.take (n + 1).toNat) := by
  rw [deedsF, if_pos h]
theorem deedsF_back {f : Nat} {n d : Int} {r B : List Int} (h : ¬ n ≤ 127) : deedsF (f + 1) (n :: d :: r) B = if (B.length : Int) ≤ d then none else deedsF f r (copyB (n - 125).toNat (d + 1).toNat B) := by
  rw [deedsF, if_neg h, if_neg (List.cons_ne_nil d r)]
  rfl
theorem deedsF_cut {f : Nat} {n : Int} {B : List Int} (h : ¬ n ≤ 127) : deedsF (f + 1) [n] B = none := by
  rw [deedsF, if_neg h, if_pos rfl]
/-- a body, or None -/
def ShowsO (K : PySem.W.Frag) (H : Hp) (v : V) : Option (List Int) → Prop
  | none => v = .non
  | some B => ∃ t, v = .ref t ∧ SqT K H t (B.map V.int)
def unpF (k : Nat) (S : List Int) : Option (List Int) := if k = 0 then (if S.length ≤ 1000 then some S else none) else backF S
/-- a body, or a text -/
def ShowsR (K : PySem.W.Frag) (H : Hp) (v : V) : Option (List Int) → Prop
  | none => v = .str "refused"
  | some B => ∃ t, v = .ref t ∧ SqT K H t (B.map V.int)
/-- a def that tells a body or raises -/
def OutU (K : PySem.W.Frag) (cB : Addr) (H : Hp) (Q : VK) (E : XK) : Option (List Int) → Prop
  | none => ∀ H', Same H H' → E (.ref cB) none H'
  | some B => Tups K H (B.map V.int) Q
def spUnp (K : PySem.W.Frag) (cB : Addr) : Sp := fun vs H Q E => ∃ (k : Nat) (p : Addr) (S : List Int), vs = [.int (k : Int), .ref p] ∧ k ≤ 1 ∧ SqT K H p (S.map V.int) ∧ Byt S ∧ S.length ≤ 20000 ∧ OutU K cB H Q E (unpF k S)
theorem copy_alike (x : Int) : ∀ (k m : Nat), 0 < m → copyB k 1 (List.replicate m x) = List.replicate (m + k) x
  | 0, m, _ => rfl
  | k + 1, m, h => by
    show copyB k 1 (moreB 1 (List.replicate m x)) = _
    have e : moreB 1 (List.replicate m x) = List.replicate (m + 1) x := by
      unfold moreB
      rw [List.length_replicate, List.getD_eq_getElem?_getD, List.getElem?_replicate, if_pos (by omega), List.replicate_succ']
      rfl
    rw [e, copy_alike x k (m + 1) (by omega), show m + 1 + k = m + (k + 1) by omega]
theorem far_all (x : Int) : ∀ (n f m : Nat), 0 < m → n ≤ f → deedsF f (List.replicate n ([255, 0] : List Int)).flatten (List.replicate m x) = if m + 130 * n ≤ 1000 then some (List.replicate (m + 130 * n) x) else none
  | 0, f, m, _, _ => by
    show deedsF f [] _ = _
    rw [deedsF_end, List.length_replicate]
    rfl
  | n + 1, f, m, h, hf => by
    obtain ⟨g, rfl⟩ : ∃ g, f = g + 1 := ⟨f - 1, by omega⟩
    rw [List.replicate_succ, List.flatten_cons]
    show deedsF (g + 1) (255 :: 0 :: (List.replicate n ([255, 0] : List Int)).flatten) _ = _
    rw [deedsF_back (by decide), List.length_replicate, if_neg (by omega)]
    show deedsF g _ (copyB 130 1 (List.replicate m x)) = _
    rw [copy_alike x 130 m h, far_all x n g (m + 130) (by omega) (by omega), show m + 130 + 130 * n = m + 130 * (n + 1) by omega]
theorem far_begin (x : Int) (n : Nat) : backF ([0, x] ++ (List.replicate n ([255, 0] : List Int)).flatten) = if 1 + 130 * n ≤ 1000 then some (List.replicate (1 + 130 * n) x) else none := by
  unfold backF
  show deedsF ((x :: (List.replicate n ([255, 0] : List Int)).flatten).length + 1) (0 :: x :: (List.replicate n ([255, 0] : List Int)).flatten) [] = _
  rw [deedsF_lit (by decide), if_neg (by rw [List.length_cons]; show ¬ _ < 1; omega)]
  show deedsF _ (List.replicate n ([255, 0] : List Int)).flatten (List.replicate 1 x) = _
  rw [far_all x n _ 1 (by decide)]
  rw [List.length_cons, PyProof.Rows.lm_len_rep_flat]
  show n ≤ n * 2 + 1
  omega
end Fc

namespace Fc
open PySem PySem.Spec L2 PyProof.Rows
/-! ### a list that grows by a tuple -/
theorem ext_any (l : Addr) (its : Array Value) (n : Nat) (b : Addr) (o : Obj) (its2 : Array Value) (n2 : Nat) (hc : o.cls = .type "tuple") (hd : o.data = .seq its2 n2) (hs0 : ¬(!its.isEmpty && Builtin.List.listTooLong (its.size + its2.size)) = true) (hs1 : its.size ≤ sizeLine) (hs2 : its.size + its2.size ≤ sizeLine + 1) :
    Meets (Builtin.«list.extend» ⟨[.ref l, .ref b], []⟩) (fun _ R s => s.heap.get? l = some { cls := .type "list", dict := none, data := .seq its n, slots := #[] } ∧ s.heap.get? b = some o ∧ R (.ok (.ret Value.none)) { s with heap := s.heap.update l (Obj.mapSeq fun x => x ++ its2), toks := s.toks }) := by
  refine .of_wp fun prog w A R s h => ?_
  obtain ⟨cls, dict, data, slots⟩ := o
  dsimp only at hc hd
  subst hc hd
  obtain ⟨hp, g, d, tk, os⟩ := s
  obtain ⟨hl, hb, h⟩ := h
  have f1 := PySem.AutoSeq1.sub_tuple_tuple
  have f2 := PySem.AutoSeq1.sub_list_list
  have f3 := PySem.AutoSeq1.sub_tuple_list
  have f4 := PySem.AutoSeq1.sub_list_tuple
  have f5 := PySem.AutoSeq1.idx_int
  have hz' : (its ++ its2).size ≤ sizeLine + 1 := by
    rw [Array.size_append]
    exact hs2
  wp_walk using (wpAny_updateSeq hl rfl (hz := hs1) (_hz' := hz')), wpAny_loadPart' hl, wpAny_loadPart' hb
  exact ⟨_, rfl, h⟩
section
variable {X : Cx}
def rExtT (K : PySem.W.Frag) : V → List V → Hp → VK → Prop := fun x vs H Q => ∃ l b xs zs, x = .ref l ∧ vs = [.ref b] ∧ H l = some (.lst xs) ∧ SqT K H b zs ∧ xs.length + zs.length ≤ sizeLine ∧ Q .non (upd H l (.lst (xs ++ zs)))
theorem mt_extendT : MtM X "list.extend" (rExtT X.K) := by
  intro pins s σ H x vs v us Q I rx rv h
  obtain ⟨l, b, xs, zs, rfl, rfl, hH, hB, hz, q⟩ := h
  cases rx
  obtain ⟨u, rfl, ru⟩ := rv.one
  cases ru
  obtain ⟨z, its, n, r, hl, e⟩ := I.lstM hH
  obtain ⟨its2, r2, ⟨o, e2, hc, n2, hd⟩, z2⟩ := I.tuple hB
  have l2 := r2.length
  have hsz : its.toArray.size + its2.toArray.size ≤ sizeLine := by rw [List.size_toArray, List.size_toArray]; omega
  have hlong : ¬ (!its.toArray.isEmpty && Builtin.List.listTooLong (its.toArray.size + its2.toArray.size)) = true := by
    rw [notLongL hsz, Bool.and_false]
    exact Bool.false_ne_true
  refine call_meets F.slot_list_extend ⟨_, e, rfl⟩ F.entry_list_extend (F.args_list_extend_2 _ _)
    (ext_any l its.toArray n b o its2.toArray n2 hc hd hlong (by rw [List.size_toArray]; omega) (by omega)) ⟨e, e2, ?_⟩
  refine ⟨.non, _, I.lset (its' := its ++ its2) hH e (by simp) (r.append r2) ?_, rfl, q⟩
  rw [List.length_append]
  omega
end
/-! ### all but one object -/
def But (b : Addr) (H H' : Hp) : Prop := ∀ a o, a ≠ b → H a = some o → H' a = some o
theorem But.refl (b : Addr) (H : Hp) : But b H H := fun _ _ _ h => h
theorem But.trans {b : Addr} {H H' H'' : Hp} (h : But b H H') (h2 : But b H' H'') : But b H H'' := fun a o n e => h2 a o n (h a o n e)
theorem But.of {b : Addr} {H H' : Hp} (h : Same H H') : But b H H' := fun a o _ e => h a o e
theorem But.set {b : Addr} {H H' : Hp} {o : HO} (h : But b H H') : But b H (upd H' b o) := fun a o' n e => by
  rw [upd_ne n]
  exact h a o' n e
/-- what is new behind a heap may change -/
theorem But.same {b : Addr} {H H1 H2 : Hp} (s : Same H H1) (n : H b = none) (h : But b H1 H2) : Same H H2 := fun a o e => h a o (ne_of_none e n) (s a o e)
theorem But.tup {K : PySem.W.Frag} {b t : Addr} {H H' : Hp} {xs ys : List V} (h : But b H H') (e : H b = some (.lst ys)) (ht : SqT K H t xs) : SqT K H' t xs := by
  rcases ht with (ht | ⟨o, ht⟩) | ht
  · left; left
    exact h t _ (fun z => by subst z; rw [e] at ht; cases ht) ht
  · left; right
    exact ⟨o, h t _ (fun z => by subst z; rw [e] at ht; cases ht) ht⟩
  · right; exact ht
end Fc

namespace Fc
open PySem PySem.Spec L2 PyProof.Rows
def topS (i : Nat) : Stmt := PySem.Challenge.pw_filecrate_k08_whole_deeds_read.main.body.getD i (.Pass ⟨0, 0, 0, 0⟩)
abbrev sBodyOfDeeds : Stmt := topS 8
abbrev nBodyOfDeeds : List Str := ["some", "body", "at", "behind"]
theorem scBodyOfDeeds : FnScope nBodyOfDeeds ["some"] (defScope sBodyOfDeeds) := ⟨rfl, rfl, rfl, by decide +kernel, rfl, by decide +kernel, by decide +kernel⟩
abbrev sCheckWhole : Stmt := topS 9
abbrev nCheckWhole : List Str := ["some", "behind"]
theorem scCheckWhole : FnScope nCheckWhole ["some", "behind"] (defScope sCheckWhole) := ⟨rfl, rfl, rfl, by decide +kernel, rfl, by decide +kernel, by decide +kernel⟩
abbrev sAddCopies : Stmt := topS 10
abbrev nAddCopies : List Str := ["body", "many", "back", "k"]
theorem scAddCopies : FnScope nAddCopies ["body", "many", "back"] (defScope sAddCopies) := ⟨rfl, rfl, rfl, by decide +kernel, rfl, by decide +kernel, by decide +kernel⟩
abbrev sUnpressed : Stmt := topS 29
abbrev nUnpressed : List Str := ["kind", "some"]
theorem scUnpressed : FnScope nUnpressed ["kind", "some"] (defScope sUnpressed) := ⟨rfl, rfl, rfl, by decide +kernel, rfl, by decide +kernel, by decide +kernel⟩
abbrev sLawD : Stmt := topS 31
abbrev nLawD : List Str := ["_law_cell", "_law_place", "_law_many", "_law_number"]
theorem scLawD : FnScope nLawD ["_law_cell", "_law_place", "_law_many"] (defScope sLawD) := ⟨rfl, rfl, rfl, by decide +kernel, rfl, by decide +kernel, by decide +kernel⟩
abbrev sLawSame : Stmt := topS 32
abbrev nLawSame : List Str := ["_law_told_here", "_law_due", "_law_one", "_law_other"]
theorem scLawSame : FnScope nLawSame ["_law_told_here", "_law_due"] (defScope sLawSame) := ⟨rfl, rfl, rfl, by decide +kernel, rfl, by decide +kernel, by decide +kernel⟩
abbrev sLawMix : Stmt := topS 33
abbrev nLawMix : List Str := ["_law_cell", "_law_prime", "_law_many"]
theorem scLawMix : FnScope nLawMix ["_law_cell", "_law_prime", "_law_many"] (defScope sLawMix) := ⟨rfl, rfl, rfl, by decide +kernel, rfl, by decide +kernel, by decide +kernel⟩
abbrev sLawBack : Stmt := topS 34
abbrev nLawBack : List Str := ["_law_some", "_law_body", "_law_at", "_law_many", "_law_far", "_law_k"]
theorem scLawBack : FnScope nLawBack ["_law_some"] (defScope sLawBack) := ⟨rfl, rfl, rfl, by decide +kernel, rfl, by decide +kernel, by decide +kernel⟩
abbrev sLawTold : Stmt := topS 35
abbrev nLawTold : List Str := ["_law_kind", "_law_some", "_law_found"]
theorem scLawTold : FnScope nLawTold ["_law_kind", "_law_some"] (defScope sLawTold) := ⟨rfl, rfl, rfl, by decide +kernel, rfl, by decide +kernel, by decide +kernel⟩
abbrev sLawDeeds : Stmt := topS 36
abbrev nLawDeeds : List Str := ["_law_script", "_law_some", "_law_made", "_law_cell", "_law_many", "_law_plain", "_law_far", "_law_k"]
theorem scLawDeeds : FnScope nLawDeeds ["_law_script"] (defScope sLawDeeds) := ⟨rfl, rfl, rfl, by decide +kernel, rfl, by decide +kernel, by decide +kernel⟩
abbrev sLawOr : Stmt := topS 37
abbrev nLawOr : List Str := ["_law_due"]
theorem scLawOr : FnScope nLawOr ["_law_due"] (defScope sLawOr) := ⟨rfl, rfl, rfl, by decide +kernel, rfl, by decide +kernel, by decide +kernel⟩
abbrev sLaw : Stmt := topS 38
abbrev nLaw : List Str := ["_law_script", "_law_some", "_law_raw", "_law_things", "_law_thing", "_law_at", "_law_one"]
theorem scLaw : FnScope nLaw ["_law_script"] (defScope sLaw) := ⟨rfl, rfl, rfl, by decide +kernel, rfl, by decide +kernel, by decide +kernel⟩
structure Env (K : PySem.W.Frag) (mg : Str → Option Value) : Prop where
  b_all : mg "all" = none
  b_bool : mg "bool" = none
  b_int : mg "int" = none
  b_isinstance : mg "isinstance" = none
  b_len : mg "len" = none
  b_min : mg "min" = none
  b_range : mg "range" = none
  b_str : mg "str" = none
  b_tuple : mg "tuple" = none
  b_zip : mg "zip" = none
  g_FIRST_COPY : ∃ t, mg "FIRST_COPY" = some (.int 128 t)
  g_KINDS : ∃ a, mg "KINDS" = some (.ref a) ∧ ∀ H, SqT K H a [.int 0, .int 1, .int 2]
  g_LEAST_COPIED : ∃ t, mg "LEAST_COPIED" = some (.int 3 t)
  g_MOST_OF_BODY : ∃ t, mg "MOST_OF_BODY" = some (.int 1000 t)
structure Excs (K : PySem.W.Frag) (mg : Str → Option Value) (e_BadForm : Addr) : Prop where
  BadForm : Exc K mg "BadForm" e_BadForm
  p_BadForm_BadForm : PySem.W.exmOne K (.ref e_BadForm) (.ref e_BadForm) = some true

section
variable {P : Program} {w : World} {mg : Str → Option Value} {K : PySem.W.Frag} {base : Heap} {e_BadForm : Addr}
/-! ### a draw -/
def spD : Sp := fun vs H Q _ => ∃ c p m : Int, vs = [.int c, .int p, .int m] ∧ 0 ≤ p ∧ p < 100000 ∧ 0 < m ∧ ∀ d : Int, 0 ≤ d → d < m → Q (.int d) H
theorem ok_d {f : Addr} {fd : FuncData} (Ev : Env K mg) (F : Fun K "_law_d" "_law_d" sLawD f fd) : FnOk P w K mg base CX0 1 f fd ["_law_cell", "_law_place", "_law_many"] spD := by
  refine F.ok scLawD (fun vs H Q E h => ?_) (fun cdv A outer s H vs Q E hr h => ?_)
  · obtain ⟨c, p, m, rfl, _⟩ := h; rfl
  · obtain ⟨c, p, m, rfl, p0, p1, hm, q⟩ := h
    refine ⟨_, (pss_cons (ps_set (i := 3) scLawD.nd rfl (.inl rfl) (pe_op op_mod (pe_op op_add (pv 0) (pe_op op_mul pe_int (pv 1))) pe_int))
      (pss_cons (ps_set (i := 3) scLawD.nd rfl (.inl rfl) (pe_op op_mod (pe_op op_mul (pe_op op_mod (pe_op op_mul (pv 3) (pv 3)) pe_int) pe_int) pe_int))
      (pss_one (ps_ret (pe_op op_mod (pe_op op_fdiv (pv 3) pe_int) (pv 2)))))), ?_⟩
    refine ⟨_, rfl, _, rfl, _, _, rfl, rfl, .inl ⟨by decide, by decide⟩, _, _, rfl, rfl, _, 4294967291, rfl, rfl, (show (0 : Int) < 4294967291 by decide), ?_⟩
    have b := Int.emod_lt_of_pos (c + 104729 * p) (show (0 : Int) < 4294967291 by decide)
    have b' := Int.emod_nonneg (c + 104729 * p) (show (4294967291 : Int) ≠ 0 by decide)
    refine ⟨_, rfl, _, rfl, _, _, rfl, rfl, .inl ⟨by omega, by omega⟩, _, 4294967279, rfl, rfl, (show (0 : Int) < 4294967279 by decide), _, 48271, rfl, rfl, .inr ⟨by decide, by decide⟩, _, 4294967291, rfl, rfl, (show (0 : Int) < 4294967291 by decide), ?_⟩
    refine ⟨_, rfl, _, 64, rfl, rfl, ⟨by decide, by decide⟩, _, rfl, _, _, rfl, rfl, hm, q _ (Int.emod_nonneg _ (Int.ne_of_gt hm)) (Int.emod_lt_of_pos _ hm)⟩

/-! ### two things that are the same -/
def spSameD (K : PySem.W.Frag) (n : Nat) : Sp := fun vs H Q _ => ∃ (u v : V) (d : PyData), vs = [u, v] ∧ Dp K H u d ∧ Dp K H v d ∧ tupsOnly d = true ∧ PyData.depth d ≤ n ∧ ∀ H', Same H H' → Q (.bl true) H'
theorem ok_sameD {f : Addr} {fd : FuncData} (Ev : Env K mg) (F : Fun K "_law_same" "_law_same" sLawSame f fd) (mS : mg "_law_same" = some (.ref f)) (bS : Binds K fd ["_law_told_here", "_law_due"] []) : ∀ n : Nat, FnOk P w K mg base CX0 (n + 1) f fd ["_law_told_here", "_law_due"] (spSameD K n) := by
  have flat : ∀ (u v : V) (d : PyData) (H : Hp), Dp K H u d → Dp K H v d → (∀ ds, d ≠ .tuple ds) → tupsOnly d = true → (u = .non ∧ v = .non) ∨ (∃ b, u = .bl b ∧ v = .bl b) ∨ (∃ i, u = .int i ∧ v = .int i) ∨ (∃ x, u = .str x ∧ v = .str x) := by
    intro u v d H hu hv nt ok
    cases d with
    | none => cases hu; cases hv; exact .inl ⟨rfl, rfl⟩
    | bool b => cases hu; cases hv; exact .inr (.inl ⟨b, rfl, rfl⟩)
    | int i => cases hu; cases hv; exact .inr (.inr (.inl ⟨i, rfl, rfl⟩))
    | str x => cases hu; cases hv; exact .inr (.inr (.inr ⟨x, rfl, rfl⟩))
    | list ds => cases ok
    | tuple ds => exact absurd rfl (nt ds)
    | dict kvs => cases ok
  intro n
  induction n with
  | zero =>
    refine F.ok scLawSame (fun vs H Q E h => ?_) (fun cdv A outer s H vs Q E hr h => ?_)
    · obtain ⟨u, v, d, rfl, _⟩ := h; rfl
    · obtain ⟨u, v, d, rfl, hu, hv, ok, dp, q⟩ := h
      refine ⟨_, (pss_cons (ps_if (pt_cmpR op_isN (pv 1) pe_non (nomark _))
        (pss_one (ps_ret (pe_cmpR op_isN (pv 0) pe_non (nomark _))))
        pss_nil)
      (pss_cons (ps_if (pt_val (pe_callB call_isi (by rfl) Ev.b_isinstance (by decide +kernel) (pa_cons (pv 1) (pa_cons (pe_btype (n := "bool") (by rfl) Ev.b_bool (by decide +kernel)) pa_nil))))
        (pss_one (ps_ret (pe_and (pe_callB call_isi (by rfl) Ev.b_isinstance (by decide +kernel) (pa_cons (pv 0) (pa_cons (pe_btype (n := "bool") (by rfl) Ev.b_bool (by decide +kernel)) pa_nil))) (pe_one (pe_cmpR op_eq (pv 0) (pv 1) (nomark _))))))
        pss_nil)
      (pss_cons (ps_if (pt_val (pe_callB call_isi (by rfl) Ev.b_isinstance (by decide +kernel) (pa_cons (pv 1) (pa_cons (pe_btype (n := "tuple") (by rfl) Ev.b_tuple (by decide +kernel)) pa_nil))))
        pss_never
        pss_nil)
      (pss_cons (ps_if (pt_val (pe_callB call_isi (by rfl) Ev.b_isinstance (by decide +kernel) (pa_cons (pv 1) (pa_cons (pe_btype (n := "str") (by rfl) Ev.b_str (by decide +kernel)) pa_nil))))
        (pss_one (ps_ret (pe_and (pe_callB call_isi (by rfl) Ev.b_isinstance (by decide +kernel) (pa_cons (pv 0) (pa_cons (pe_btype (n := "str") (by rfl) Ev.b_str (by decide +kernel)) pa_nil))) (pe_one (pe_cmpR op_eq (pv 0) (pv 1) (nomark _))))))
        pss_nil)
      (pss_one (ps_ret (pe_and (pe_callB call_isi (by rfl) Ev.b_isinstance (by decide +kernel) (pa_cons (pv 0) (pa_cons (pe_btype (n := "int") (by rfl) Ev.b_int (by decide +kernel)) pa_nil))) (pe_and (pe_not (pe_callB call_isi (by rfl) Ev.b_isinstance (by decide +kernel) (pa_cons (pv 0) (pa_cons (pe_btype (n := "bool") (by rfl) Ev.b_bool (by decide +kernel)) pa_nil)))) (pe_one (pe_cmpR op_eq (pv 0) (pv 1) (nomark _))))))))))), ?_⟩
      have nt : ∀ ds, d ≠ .tuple ds := fun ds z => by
        rw [z, PyData.depth] at dp
        omega
      · have _u := nt
        rcases flat u v d H hu hv nt ok with ⟨rfl, rfl⟩ | ⟨b, rfl, rfl⟩ | ⟨i, rfl, rfl⟩ | ⟨x, rfl, rfl⟩
        · refine ⟨_, rfl, rfl, _, rfl, iteT ?_⟩
          exact ⟨_, rfl, rfl, q _ (Same.refl _)⟩
        · refine ⟨_, rfl, rfl, _, rfl, iteF ?_⟩
          refine ⟨.bl b, rfl, _, _, _, _, true, rfl, .ty "bool", .base (.bl _), k_bb, true, rfl, iteT ?_⟩
          refine ⟨.bl b, rfl, _, _, _, _, true, rfl, .ty "bool", .base (.bl _), k_bb, true, rfl, iteT ?_⟩
          refine ⟨.bl b, rfl, .bl b, rfl, rfl, ?_⟩
          rw [decide_eq_true rfl]
          exact q _ (Same.refl _)
        · refine ⟨_, rfl, rfl, _, rfl, iteF ?_⟩
          refine ⟨.int i, rfl, _, _, _, _, false, rfl, .ty "bool", .base (.int _), k_ib, false, rfl, iteF ?_⟩
          refine ⟨.int i, rfl, _, _, _, _, false, rfl, .ty "tuple", .base (.int _), k_it, false, rfl, iteF ?_⟩
          refine ⟨.int i, rfl, _, _, _, _, false, rfl, .ty "str", .base (.int _), k_is', false, rfl, iteF ?_⟩
          refine ⟨.int i, rfl, _, _, _, _, true, rfl, .ty "int", .base (.int _), k_ii, true, rfl, iteT ?_⟩
          refine ⟨.int i, rfl, _, _, _, _, false, rfl, .ty "bool", .base (.int _), k_ib, false, rfl, true, rfl, iteT ?_⟩
          refine ⟨.int i, rfl, .int i, rfl, rfl, ?_⟩
          rw [decide_eq_true rfl]
          exact q _ (Same.refl _)
        · refine ⟨_, rfl, rfl, _, rfl, iteF ?_⟩
          refine ⟨.str x, rfl, _, _, _, _, false, rfl, .ty "bool", .base (.str _), k_sb, false, rfl, iteF ?_⟩
          refine ⟨.str x, rfl, _, _, _, _, false, rfl, .ty "tuple", .base (.str _), k_st, false, rfl, iteF ?_⟩
          refine ⟨.str x, rfl, _, _, _, _, true, rfl, .ty "str", .base (.str _), k_ss, true, rfl, iteT ?_⟩
          refine ⟨.str x, rfl, _, _, _, _, true, rfl, .ty "str", .base (.str _), k_ss, true, rfl, iteT ?_⟩
          refine ⟨.str x, rfl, .str x, rfl, rfl, ?_⟩
          rw [decide_eq_true rfl]
          exact q _ (Same.refl _)

  | succ n ih =>
    have CLawSame : Cal P w K mg base "_law_same" (n + 1) ["_law_told_here", "_law_due"] (spSameD K n) := ⟨f, fd, ih, mS, F.kp, bS⟩
    refine F.ok scLawSame (fun vs H Q E h => ?_) (fun cdv A outer s H vs Q E hr h => ?_)
    · obtain ⟨u, v, d, rfl, _⟩ := h; rfl
    · obtain ⟨u, v, d, rfl, hu, hv, ok, dp, q⟩ := h
      refine ⟨_, (pss_cons (ps_if (pt_cmpR op_isN (pv 1) pe_non (nomark _))
        (pss_one (ps_ret (pe_cmpR op_isN (pv 0) pe_non (nomark _))))
        pss_nil)
      (pss_cons (ps_if (pt_val (pe_callB call_isi (by rfl) Ev.b_isinstance (by decide +kernel) (pa_cons (pv 1) (pa_cons (pe_btype (n := "bool") (by rfl) Ev.b_bool (by decide +kernel)) pa_nil))))
        (pss_one (ps_ret (pe_and (pe_callB call_isi (by rfl) Ev.b_isinstance (by decide +kernel) (pa_cons (pv 0) (pa_cons (pe_btype (n := "bool") (by rfl) Ev.b_bool (by decide +kernel)) pa_nil))) (pe_one (pe_cmpR op_eq (pv 0) (pv 1) (nomark _))))))
        pss_nil)
      (pss_cons (ps_if (pt_val (pe_callB call_isi (by rfl) Ev.b_isinstance (by decide +kernel) (pa_cons (pv 1) (pa_cons (pe_btype (n := "tuple") (by rfl) Ev.b_tuple (by decide +kernel)) pa_nil))))
        (pss_cons (ps_if (PW.pt (pw_or (pt_not (pt_val (pe_callB call_isi (by rfl) Ev.b_isinstance (by decide +kernel) (pa_cons (pv 0) (pa_cons (pe_btype (n := "tuple") (by rfl) Ev.b_tuple (by decide +kernel)) pa_nil))))) (pw_or1 (pt_cmpR op_ne (pe_callB call_len_seq (by rfl) Ev.b_len PySem.boot_len (pa_cons (pv 0) pa_nil)) (pe_callB call_len_seq (by rfl) Ev.b_len PySem.boot_len (pa_cons (pv 1) pa_nil)) (nomark _)))))
          (pss_one (ps_ret pe_bl))
          pss_nil)
        (pss_one (ps_ret (pe_callB (cr_all rfl) (by rfl) Ev.b_all (by decide +kernel) (pa_cons (pe_lc (own := [("_law_one", 2), ("_law_other", 3)]) (g := gTup K 2 (gCons (gName 2) (gCons (gName 3) (gNil)))) (tt := tYes) (by rfl) scLawSame.nd (RZ.pi_zipA (by rfl) Ev.b_zip (pa_cons (pv 0) (pa_cons (pv 1) pa_nil))) (blkOk_by (own := [("_law_one", 2), ("_law_other", 3)]) (N := nLawSame) (sc := defScope sLawSame) (by decide +kernel)) (fun _ _ _ _ _ => (pg_tup (by rfl) (pgs_cons (pg_name (i := 2) scLawSame.nd rfl (.inl rfl)) (pgs_cons (pg_name (i := 3) scLawSame.nd rfl (.inl rfl)) pgs_nil)))) (fun _ _ _ _ _ => pts_nil) (fun _ _ _ _ _ => (pe_c CLawSame (hr.mono (by omega)) (pa_cons (pv 2) (pa_cons (pv 3) pa_nil))))) pa_nil)))))
        pss_nil)
      (pss_cons (ps_if (pt_val (pe_callB call_isi (by rfl) Ev.b_isinstance (by decide +kernel) (pa_cons (pv 1) (pa_cons (pe_btype (n := "str") (by rfl) Ev.b_str (by decide +kernel)) pa_nil))))
        (pss_one (ps_ret (pe_and (pe_callB call_isi (by rfl) Ev.b_isinstance (by decide +kernel) (pa_cons (pv 0) (pa_cons (pe_btype (n := "str") (by rfl) Ev.b_str (by decide +kernel)) pa_nil))) (pe_one (pe_cmpR op_eq (pv 0) (pv 1) (nomark _))))))
        pss_nil)
      (pss_one (ps_ret (pe_and (pe_callB call_isi (by rfl) Ev.b_isinstance (by decide +kernel) (pa_cons (pv 0) (pa_cons (pe_btype (n := "int") (by rfl) Ev.b_int (by decide +kernel)) pa_nil))) (pe_and (pe_not (pe_callB call_isi (by rfl) Ev.b_isinstance (by decide +kernel) (pa_cons (pv 0) (pa_cons (pe_btype (n := "bool") (by rfl) Ev.b_bool (by decide +kernel)) pa_nil)))) (pe_one (pe_cmpR op_eq (pv 0) (pv 1) (nomark _))))))))))), ?_⟩
      by_cases tt : ∃ ds, d = .tuple ds
      · obtain ⟨ds, rfl⟩ := tt
        cases hu with
        | @tup p xs _ hp hxs =>
        cases hv with
        | @tup r ys _ hq hys =>
        rw [tupsOnly, Bool.and_eq_true] at ok
        have few : ds.length ≤ 100000 := of_decide_eq_true ok.1
        have lx := dpLen hxs
        have ly := dpLen hys
        refine ⟨_, rfl, rfl, _, rfl, iteF ?_⟩
        refine ⟨.ref r, rfl, _, _, _, _, false, rfl, .ty "bool", ty_tup hq, k_tb, false, rfl, iteF ?_⟩
        refine ⟨.ref r, rfl, _, _, _, _, true, rfl, .ty "tuple", ty_tup hq, k_tt, true, rfl, iteT ?_⟩
        refine ⟨.ref p, rfl, _, _, _, _, true, rfl, .ty "tuple", ty_tup hp, k_tt, true, rfl, iteF ?_⟩
        refine ⟨_, rfl, p, _, rfl, .inr hp, _, rfl, r, _, rfl, .inr hq, rfl, _, rfl, iteNS (by rw [lx, ly]) ?_⟩
        refine ⟨_, rfl, _, rfl, p, r, _, _, rfl, .inr ⟨hp, hq, fun D nD => ?_⟩⟩
        have lz : ((List.replicate ds.length true).map V.bl).length = xs.length := by rw [List.length_map, List.length_replicate, lx]
        refine lc_zip (xs := xs) (ys := ys) (zs := (List.replicate ds.length true).map V.bl) nD hp hq (by omega) lz ?_ (fun _ _ => rfl) (fun i x y z H2 R hx hy hz sm R1 => ?_) (fun H2 sm h2 => ?_)
        · rw [lx, sizeLine_eq]
          omega
        · obtain ⟨d1, e1, k1⟩ := dpGet hxs hx
          obtain ⟨d2, e2, k2⟩ := dpGet hys hy
          have ed : d1 = d2 := Option.some.inj (e1.symm.trans e2)
          subst ed
          have ez : z = .bl true := by
            rw [List.getElem?_map] at hz
            cases e : (List.replicate ds.length true)[i]? with
            | none => rw [e] at hz; cases hz
            | some b =>
              rw [e] at hz
              have eb : b = true := List.eq_of_mem_replicate (List.mem_of_getElem? e)
              rw [eb] at hz
              exact (Option.some.inj hz).symm
          subst ez
          have dd := depth_get e1
          rw [PyData.depth] at dp
          exact ⟨_, rfl, _, rfl, x, y, d1, rfl, dpKeep sm k1, dpKeep sm k2, tupsAll_get ok.2 e1, by omega, fun H' e => R1 _ e⟩
        · refine ⟨D, List.replicate ds.length true, rfl, SqL.of h2, ?_⟩
          have e : (List.replicate ds.length true).all id = true := by
            rw [List.all_eq_true]
            intro b hb
            rw [List.eq_of_mem_replicate hb]
            rfl
          rw [e]
          exact q _ sm
      · have nt : ∀ ds, d ≠ .tuple ds := fun ds z => tt ⟨ds, z⟩
        rcases flat u v d H hu hv nt ok with ⟨rfl, rfl⟩ | ⟨b, rfl, rfl⟩ | ⟨i, rfl, rfl⟩ | ⟨x, rfl, rfl⟩
        · refine ⟨_, rfl, rfl, _, rfl, iteT ?_⟩
          exact ⟨_, rfl, rfl, q _ (Same.refl _)⟩
        · refine ⟨_, rfl, rfl, _, rfl, iteF ?_⟩
          refine ⟨.bl b, rfl, _, _, _, _, true, rfl, .ty "bool", .base (.bl _), k_bb, true, rfl, iteT ?_⟩
          refine ⟨.bl b, rfl, _, _, _, _, true, rfl, .ty "bool", .base (.bl _), k_bb, true, rfl, iteT ?_⟩
          refine ⟨.bl b, rfl, .bl b, rfl, rfl, ?_⟩
          rw [decide_eq_true rfl]
          exact q _ (Same.refl _)
        · refine ⟨_, rfl, rfl, _, rfl, iteF ?_⟩
          refine ⟨.int i, rfl, _, _, _, _, false, rfl, .ty "bool", .base (.int _), k_ib, false, rfl, iteF ?_⟩
          refine ⟨.int i, rfl, _, _, _, _, false, rfl, .ty "tuple", .base (.int _), k_it, false, rfl, iteF ?_⟩
          refine ⟨.int i, rfl, _, _, _, _, false, rfl, .ty "str", .base (.int _), k_is', false, rfl, iteF ?_⟩
          refine ⟨.int i, rfl, _, _, _, _, true, rfl, .ty "int", .base (.int _), k_ii, true, rfl, iteT ?_⟩
          refine ⟨.int i, rfl, _, _, _, _, false, rfl, .ty "bool", .base (.int _), k_ib, false, rfl, true, rfl, iteT ?_⟩
          refine ⟨.int i, rfl, .int i, rfl, rfl, ?_⟩
          rw [decide_eq_true rfl]
          exact q _ (Same.refl _)
        · refine ⟨_, rfl, rfl, _, rfl, iteF ?_⟩
          refine ⟨.str x, rfl, _, _, _, _, false, rfl, .ty "bool", .base (.str _), k_sb, false, rfl, iteF ?_⟩
          refine ⟨.str x, rfl, _, _, _, _, false, rfl, .ty "tuple", .base (.str _), k_st, false, rfl, iteF ?_⟩
          refine ⟨.str x, rfl, _, _, _, _, true, rfl, .ty "str", .base (.str _), k_ss, true, rfl, iteT ?_⟩
          refine ⟨.str x, rfl, _, _, _, _, true, rfl, .ty "str", .base (.str _), k_ss, true, rfl, iteT ?_⟩
          refine ⟨.str x, rfl, .str x, rfl, rfl, ?_⟩
          rw [decide_eq_true rfl]
          exact q _ (Same.refl _)


/-! ### the body, by hand -/
def spBack (K : PySem.W.Frag) : Sp := fun vs H Q _ => ∃ (p : Addr) (S : List Int), vs = [.ref p] ∧ SqT K H p (S.map V.int) ∧ Byt S ∧ S.length ≤ 20000 ∧ ∀ H' v, Same H H' → ShowsO K H' v (backF S) → Q v H'
def wBack (K : PySem.W.Frag) (H : Hp) (p : Addr) (S : List Int) (m : Nat) (σ : L2.St) (H' : Hp) : Prop :=
  ∃ (k : Nat) (B : List Int) (t : Addr) (y3 y4 y5 : Option V), σ = [some (.ref p), some (.ref t), some (.int (k : Int)), y3, y4, y5] ∧ m = S.length - k ∧ k ≤ S.length ∧ Same H H' ∧ SqT K H' t (B.map V.int) ∧ B.length ≤ 130 * k ∧ ∃ f, S.length - k ≤ f ∧ deedsF f (S.drop k) B = backF S
theorem ok_back {f : Addr} {fd : FuncData} (Ev : Env K mg) (F : Fun K "_law_back" "_law_back" sLawBack f fd) : FnOk P w K mg base CX0 1 f fd ["_law_some"] (spBack K) := by
  refine F.ok scLawBack (fun vs H Q E h => ?_) (fun cdv A outer s H vs Q E hr h => ?_)
  · obtain ⟨p, S, rfl, _⟩ := h; rfl
  · obtain ⟨p, S, rfl, hp, hb, few, q⟩ := h
    refine ⟨_, (pss_cons (ps_set (i := 1) scLawBack.nd rfl (.inl rfl) (pe_tupU pa_nil))
      (pss_cons (ps_set (i := 2) scLawBack.nd rfl (.inl rfl) pe_int)
      (pss_cons (ps_while PassesOwn.never (pt_cmpR op_lt (pv 2) (pe_callB call_len_seq (by rfl) Ev.b_len PySem.boot_len (pa_cons (pv 0) pa_nil)) (nomark _))
        (pss_cons (ps_set (i := 3) scLawBack.nd rfl (.inl rfl) (pe_op op_add (pe_ix ix_tup (pv 0) (pv 2) (fun _ _ => rfl)) pe_int))
        (pss_one (ps_if (pt_cmpR op_le (pv 3) pe_int (nomark _))
          (pss_cons (ps_if (pt_cmpR op_lt (pe_callB call_len_seq (by rfl) Ev.b_len PySem.boot_len (pa_cons (pv 0) pa_nil)) (pe_op op_add (pe_op op_add (pv 2) pe_int) (pv 3)) (nomark _))
            (pss_one (ps_ret pe_non))
            pss_nil)
          (pss_cons (ps_set (i := 1) scLawBack.nd rfl (.inl rfl) (pe_op op_catU (pv 1) (pe_slice sl_tupU (pv 0) (po_some (pe_op op_add (pv 2) pe_int)) (po_some (pe_op op_add (pe_op op_add (pv 2) pe_int) (pv 3))))))
          (pss_one (ps_set (i := 2) scLawBack.nd rfl (.inl rfl) (pe_op op_add (pe_op op_add (pv 2) pe_int) (pv 3))))))
          (pss_cons (ps_if (PW.pt (pw_or (pt_cmpR op_lt (pe_callB call_len_seq (by rfl) Ev.b_len PySem.boot_len (pa_cons (pv 0) pa_nil)) (pe_op op_add (pv 2) pe_int) (nomark _)) (pw_or1 (pt_cmpR op_ge (pe_ix ix_tup (pv 0) (pe_op op_add (pv 2) pe_int) (fun _ _ => rfl)) (pe_callB call_len_seq (by rfl) Ev.b_len PySem.boot_len (pa_cons (pv 1) pa_nil)) (nomark _)))))
            (pss_one (ps_ret pe_non))
            pss_nil)
          (pss_cons (ps_set (i := 4) scLawBack.nd rfl (.inl rfl) (pe_op op_add (pe_ix ix_tup (pv 0) (pe_op op_add (pv 2) pe_int) (fun _ _ => rfl)) pe_int))
          (pss_cons (ps_for PassesOwn.never rfl (pi_range1 (by rfl) Ev.b_range (pa_cons (pe_op op_sub (pv 3) pe_int) pa_nil)) (pg_name (i := 5) scLawBack.nd rfl (.inl rfl))
            (pss_one (ps_set (i := 1) scLawBack.nd rfl (.inl rfl) (pe_op op_catU (pv 1) (pe_tupU (pa_cons (pe_ix ix_tup (pv 1) (pe_op op_sub (pe_callB call_len_seq (by rfl) Ev.b_len PySem.boot_len (pa_cons (pv 1) pa_nil)) (pv 4)) (fun _ _ => rfl)) pa_nil))))))
          (pss_one (ps_set (i := 2) scLawBack.nd rfl (.inl rfl) (pe_op op_add (pv 2) pe_int))))))))))
      (pss_cons (ps_if (pt_cmpR op_gt (pe_callB call_len_seq (by rfl) Ev.b_len PySem.boot_len (pa_cons (pv 1) pa_nil)) pe_int (nomark _))
        (pss_one (ps_ret pe_non))
        pss_nil)
      (pss_one (ps_ret (pv 1))))))), ?_⟩
    refine ⟨Nat.zero_le _, fun H1 t1 s1 h1 => ?_⟩
    refine ⟨wBack K H p S, ⟨_, 0, [], t1, none, none, none, rfl, rfl, Nat.zero_le _, s1, h1, Nat.zero_le _, S.length, Nat.le_refl _, rfl⟩, fun m σ H' hW => ?_⟩
    obtain ⟨k, B, t, y3, y4, y5, rfl, rfl, lk, sm, ht, lB, g, lg, eg⟩ := hW
    have hp' := keepT sm hp
    have size : ∀ n : Nat, n ≤ 130 * 20000 + 1000 → n ≤ sizeLine := fun n h => by rw [sizeLine_eq]; omega
    refine ⟨_, rfl, _, rfl, p, _, rfl, .inr hp', _, _, rfl, rfl, _, rfl, ite2 (fun z => ?_) (fun z => ?_)⟩
    · have lt : k < S.length := by
        have := of_decide_eq_true z
        rw [List.length_map] at this
        omega
      obtain ⟨g', rfl⟩ : ∃ g', g = g' + 1 := ⟨g - 1, by omega⟩
      obtain ⟨n, en⟩ : ∃ n, n = S[k] := ⟨_, rfl⟩
      have bn := hb S[k] (List.getElem_mem lt)
      rw [← en] at bn
      have gk : (S.map V.int)[k]? = some (.int n) := by rw [List.getElem?_map, List.getElem?_eq_getElem lt, en]; rfl
      rw [List.drop_eq_getElem_cons lt, ← en] at eg
      have lr : (S.drop (k + 1)).length = S.length - (k + 1) := List.length_drop ..
      refine ⟨fun σ' H'' => ∃ m', m' < S.length - k ∧ wBack K H p S m' σ' H'', fun σ' H'' h => h, ?_⟩
      refine ⟨_, rfl, _, rfl, p, _, _, _, rfl, rfl, hp', atI_nat gk, _, _, rfl, rfl, ?_⟩
      refine ⟨_, rfl, _, _, rfl, rfl, _, rfl, ite2 (fun y => ?_) (fun y => ?_)⟩
      · have small : n ≤ 127 := by
          have : n + 1 ≤ 128 := of_decide_eq_true y
          omega
        rw [deedsF_lit small] at eg
        refine ⟨_, rfl, p, _, rfl, .inr hp', _, rfl, _, _, rfl, rfl, _, rfl, _, _, rfl, rfl, _, _, rfl, rfl, _, rfl, ite2 (fun x => ?_) (fun x => ?_)⟩
        · have x' : ((S.map V.int).length : Int) < (k : Int) + 1 + (n + 1) := of_decide_eq_true x
          rw [List.length_map] at x'
          rw [if_pos (by rw [lr]; omega)] at eg
          refine q _ _ sm ?_
          rw [← eg]
          rfl
        have x' : ¬ ((S.map V.int).length : Int) < (k : Int) + 1 + (n + 1) := fun v => x (decide_eq_true v)
        rw [List.length_map] at x'
        rw [if_neg (by rw [lr]; omega)] at eg
        refine ⟨_, rfl, _, rfl, _, rfl, _, _, rfl, rfl, _, rfl, _, rfl, _, _, rfl, rfl, _, rfl, _, _, rfl, rfl, _, rfl, p, _, rfl, hp', fun Ha ta sa ha => ?_⟩
        have e1 : (k : Int) + 1 = ((k + 1 : Nat) : Int) := by omega
        have e2 : (k : Int) + 1 + (n + 1) = ((k + 1 + (n + 1).toNat : Nat) : Int) := by omega
        rw [e1, show ((k + 1 : Nat) : Int) + (n + 1) = ((k + 1 + (n + 1).toNat : Nat) : Int) by omega, cut_mid, Nat.add_sub_cancel_left] at ha
        have lt2 : ((S.drop (k + 1)).take (n + 1).toNat).length ≤ 128 := by
          rw [List.length_take]
          omega
        refine ⟨t, ta, _, _, rfl, rfl, keepT sa ht, ha, ?_, fun Hb tb sb hbb => ?_⟩
        · refine size _ ?_
          rw [List.length_map, List.length_map]
          omega
        rw [← List.map_append] at hbb
        refine ⟨_, rfl, _, _, rfl, rfl, _, rfl, _, _, rfl, rfl, S.length - (k + 1 + (n + 1).toNat), by omega, k + 1 + (n + 1).toNat, B ++ (S.drop (k + 1)).take (n + 1).toNat, tb, some (.int (n + 1)), y4, y5, ?_, rfl, by omega, sm.trans (sa.trans sb), hbb, ?_, g', by omega, ?_⟩
        · show [_, _, some (V.int ((k : Int) + 1 + (n + 1))), _, _, _] = _
          rw [e2]
        · rw [List.length_append]
          omega
        · rw [← eg, List.drop_drop]
      · have big : ¬ n ≤ 127 := fun v => y (decide_eq_true (show n + 1 ≤ 128 by omega))
        refine ⟨_, rfl, p, _, rfl, .inr hp', _, rfl, _, _, rfl, rfl, _, _, rfl, rfl, _, rfl, ite2 (fun x => iteT ?_) (fun x => ?_)⟩
        · have x' : ((S.map V.int).length : Int) < (k : Int) + 2 := of_decide_eq_true x
          rw [List.length_map] at x'
          have nil : S.drop (k + 1) = [] := List.drop_of_length_le (by omega)
          rw [nil, deedsF_cut big] at eg
          refine q _ _ sm ?_
          rw [← eg]
          rfl
        have x' : ¬ ((S.map V.int).length : Int) < (k : Int) + 2 := fun v => x (decide_eq_true v)
        rw [List.length_map] at x'
        have lt1 : k + 1 < S.length := by omega
        obtain ⟨d, ed⟩ : ∃ d, d = S[k + 1] := ⟨_, rfl⟩
        have bd := hb S[k + 1] (List.getElem_mem lt1)
        rw [← ed] at bd
        have gd : (S.map V.int)[k + 1]? = some (.int d) := by rw [List.getElem?_map, List.getElem?_eq_getElem lt1, ed]; rfl
        rw [List.drop_eq_getElem_cons lt1, ← ed, deedsF_back big] at eg
        have e1 : (k : Int) + 1 = ((k + 1 : Nat) : Int) := by omega
        refine ⟨_, rfl, _, rfl, _, _, rfl, rfl, p, _, _, _, rfl, rfl, hp', at_of e1 gd, _, rfl, t, _, rfl, .inr ht, _, _, rfl, rfl, _, rfl, ite2 (fun v => ?_) (fun v => ?_)⟩
        · have v' : ((B.map V.int).length : Int) ≤ d := of_decide_eq_true v
          rw [List.length_map] at v'
          rw [if_pos v'] at eg
          refine q _ _ sm ?_
          rw [← eg]
          rfl
        have v' : ¬ ((B.map V.int).length : Int) ≤ d := fun z => v (decide_eq_true z)
        rw [List.length_map] at v'
        rw [if_neg v'] at eg
        refine ⟨_, rfl, _, rfl, _, _, rfl, rfl, p, _, _, _, rfl, rfl, hp', at_of e1 gd, _, _, rfl, rfl, ?_⟩
        obtain ⟨far, ef⟩ : ∃ far : Nat, far = (d + 1).toNat := ⟨_, rfl⟩
        have efI : d + 1 = (far : Int) := by omega
        rw [← ef] at eg
        refine ⟨_, rfl, _, _, rfl, rfl, _, rfl, by omega, by omega, for_range (lo := 0) (fun i σ Hx => ∃ (tx : Addr) (y5 : Option V), σ = [some (.ref p), some (.ref tx), some (.int (k : Int)), some (.int (n + 1)), some (.int (d + 1)), y5] ∧ Same H' Hx ∧ SqT K Hx tx ((copyB i far B).map V.int)) ⟨t, _, rfl, Same.refl _, ht⟩ (fun i σ Hx hi p' => ?_) (fun σ Hx p' => ?_)⟩
        · obtain ⟨tx, y5, rfl, sx, htx⟩ := p'
          have i130 : i < 130 := by omega
          have lc : (copyB i far B).length = B.length + i := copyB_len ..
          have ltf : (copyB i far B).length - far < (copyB i far B).length := by omega
          have gi : ((copyB i far B).map V.int)[(copyB i far B).length - far]? = some (.int ((copyB i far B).getD ((copyB i far B).length - far) 0)) := by
            rw [List.getElem?_map, List.getD_eq_getElem?_getD, List.getElem?_eq_getElem ltf]
            rfl
          have ei : (((copyB i far B).map V.int).length : Int) - (d + 1) = (((copyB i far B).length - far : Nat) : Int) := by
            rw [List.length_map, efI]
            omega
          refine ⟨_, rfl, _, rfl, _, rfl, tx, _, rfl, .inr htx, _, rfl, _, _, rfl, rfl, tx, _, _, _, rfl, rfl, htx, at_of ei gi, (show 1 ≤ sizeLine by rw [sizeLine_eq]; decide), fun Hy ty sy hy => ?_⟩
          refine ⟨tx, ty, _, _, rfl, rfl, keepT sy htx, hy, ?_, fun Hz tz sz hz => ?_⟩
          · refine size _ ?_
            rw [List.length_map, lc]
            simp only [List.length_cons, List.length_nil]
            omega
          refine ⟨tz, _, rfl, sx.trans (sy.trans sz), ?_⟩
          rw [copyB_succ, moreB, List.map_append]
          exact hz
        · obtain ⟨tx, y5, rfl, sx, htx⟩ := p'
          have en2 : (n + 1 - 126).toNat = (n - 125).toNat := by omega
          rw [en2] at htx
          refine ⟨_, rfl, _, _, rfl, rfl, S.length - (k + 2), by omega, k + 2, copyB (n - 125).toNat far B, tx, some (.int (n + 1)), some (.int (d + 1)), y5, ?_, rfl, by omega, sm.trans sx, htx, ?_, g', by omega, eg⟩
          · show [_, _, some (V.int ((k : Int) + 2)), _, _, _] = _
            rw [show (k : Int) + 2 = ((k + 2 : Nat) : Int) by omega]
          · rw [copyB_len]
            omega
    · have ek : k = S.length := by
        have : ¬ (k : Int) < ((S.map V.int).length : Int) := fun y => z (decide_eq_true y)
        rw [List.length_map] at this
        omega
      have nil : S.drop k = [] := List.drop_of_length_le (by omega)
      rw [nil, deedsF_end] at eg
      refine ⟨_, rfl, t, _, rfl, .inr ht, _, _, rfl, rfl, _, rfl, ite2 (fun y => ?_) (fun y => ?_)⟩
      · have y' : (1000 : Int) < ((B.map V.int).length : Int) := of_decide_eq_true y
        rw [List.length_map] at y'
        rw [if_neg (by omega)] at eg
        refine q _ _ sm ?_
        rw [← eg]
        rfl
      · have y' : ¬ (1000 : Int) < ((B.map V.int).length : Int) := fun v => y (decide_eq_true v)
        rw [List.length_map] at y'
        rw [if_pos (by omega)] at eg
        refine ⟨_, rfl, q _ _ sm ?_⟩
        rw [← eg]
        exact ⟨t, rfl, ht⟩

/-! ### rows of deeds, by cells -/
def spMix : Sp := fun vs H Q _ => ∃ c p m : Int, vs = [.int c, .int p, .int m] ∧ 0 < p ∧ 0 < m ∧ ∀ d : Int, 0 ≤ d → d < m → Q (.int d) H
theorem ok_mix {f : Addr} {fd : FuncData} (Ev : Env K mg) (F : Fun K "_law_mix" "_law_mix" sLawMix f fd) : FnOk P w K mg base CX0 1 f fd ["_law_cell", "_law_prime", "_law_many"] spMix := by
  refine F.ok scLawMix (fun vs H Q E h => ?_) (fun cdv A outer s H vs Q E hr h => ?_)
  · obtain ⟨c, p, m, rfl, _⟩ := h; rfl
  · obtain ⟨c, p, m, rfl, hp, hm, q⟩ := h
    refine ⟨_, (pss_one (ps_ret (pe_op op_mod (pe_op op_mod (pe_op op_mul (pv 0) pe_int) (pv 1)) (pv 2)))), ?_⟩
    exact ⟨_, rfl, _, _, rfl, rfl, .inr ⟨by decide, by decide⟩, _, rfl, _, _, rfl, rfl, hp, _, rfl, _, _, rfl, rfl, hm, q _ (Int.emod_nonneg _ (Int.ne_of_gt hm)) (Int.emod_lt_of_pos _ hm)⟩
def spDeeds (K : PySem.W.Frag) : Sp := fun vs H Q _ => ∃ (a : Addr) (ns : List Int), vs = [.ref a] ∧ SqL K H a (ns.map V.int) ∧ ns.length ≤ 63 ∧ ∀ S : List Int, Byt S → S.length ≤ 200 → Tups K H (S.map V.int) Q
theorem ok_deeds {f : Addr} {fd : FuncData} (Ev : Env K mg) (CLawD : Cal P w K mg base "_law_d" 1 ["_law_cell", "_law_place", "_law_many"] spD) (CLawMix : Cal P w K mg base "_law_mix" 1 ["_law_cell", "_law_prime", "_law_many"] spMix) (F : Fun K "_law_deeds" "_law_deeds" sLawDeeds f fd) : FnOk P w K mg base CX0 2 f fd ["_law_script"] (spDeeds K) := by
  refine F.ok scLawDeeds (fun vs H Q E h => ?_) (fun cdv A outer s H vs Q E hr h => ?_)
  · obtain ⟨a, ns, rfl, _⟩ := h; rfl
  · obtain ⟨a, ns, rfl, hS, hlen, q⟩ := h
    refine ⟨_, (pss_cons (ps_set (i := 1) scLawDeeds.nd rfl (.inl rfl) (pe_tupU pa_nil))
      (pss_cons (ps_set (i := 2) scLawDeeds.nd rfl (.inl rfl) pe_int)
      (pss_cons (ps_for PassesOwn.never rfl (pi_list (pe_slice sl_list (pv 0) (po_some pe_int) (po_some pe_int))) (pg_name (i := 3) scLawDeeds.nd rfl (.inr rfl))
        (pss_one (ps_if (PW.pt (pw_or (pt_cmpR op_eq (pe_c CLawD (hr.mono (by omega)) (pa_cons (pv 3) (pa_cons pe_int (pa_cons pe_int pa_nil)))) pe_int (nomark _)) (pw_or1 (pt_cmpR op_eq (pv 2) pe_int (nomark _)))))
          (pss_cons (ps_set (i := 4) scLawDeeds.nd rfl (.inl rfl) (pe_op op_add (pe_c CLawD (hr.mono (by omega)) (pa_cons (pv 3) (pa_cons pe_int (pa_cons pe_int pa_nil)))) pe_int))
          (pss_cons (ps_setLc (i := 5) (own := [("_law_k", 7)]) (g := gName 7) (tt := tYes) (by rfl) scLawDeeds.nd rfl rfl (sw_true rfl rfl rfl (by decide +kernel)) (pi_range1 (by rfl) Ev.b_range (pa_cons (pv 4) pa_nil)) (blkOk_by (own := [("_law_k", 7)]) (N := nLawDeeds) (sc := defScope sLawDeeds) (by decide +kernel)) (fun _ _ _ _ _ => (pg_name (i := 7) scLawDeeds.nd rfl (.inl rfl))) (fun _ _ _ _ _ => pts_nil) (fun _ _ _ _ _ => (pe_op op_mod (pe_op op_add (pe_op op_fdiv (pv 3) pe_int) (pe_op op_mul (pv 7) (pv 7))) pe_int)))
          (pss_cons (ps_set (i := 1) scLawDeeds.nd rfl (.inl rfl) (pe_op op_catU (pe_op op_catU (pv 1) (pe_tupU (pa_cons (pe_op op_sub (pv 4) pe_int) pa_nil))) (pe_callTy call_tupleU (by rfl) Ev.b_tuple (by decide +kernel) (pa_cons (pv 5) pa_nil))))
          (pss_one (ps_set (i := 2) scLawDeeds.nd rfl (.inl rfl) (pe_op op_add (pv 2) (pv 4)))))))
          (pss_cons (ps_set (i := 4) scLawDeeds.nd rfl (.inl rfl) (pe_op op_add (pe_c CLawMix (hr.mono (by omega)) (pa_cons (pv 3) (pa_cons pe_int (pa_cons pe_int pa_nil)))) pe_int))
          (pss_cons (ps_if (pt_cmpR op_eq (pe_c CLawD (hr.mono (by omega)) (pa_cons (pv 3) (pa_cons pe_int (pa_cons pe_int pa_nil)))) pe_int (nomark _))
            (pss_one (ps_set (i := 4) scLawDeeds.nd rfl (.inl rfl) (pe_op op_add (pe_c CLawMix (hr.mono (by omega)) (pa_cons (pv 3) (pa_cons pe_int (pa_cons pe_int pa_nil)))) pe_int)))
            pss_nil)
          (pss_cons (ps_set (i := 6) scLawDeeds.nd rfl (.inl rfl) (pe_op op_add (pe_c CLawMix (hr.mono (by omega)) (pa_cons (pv 3) (pa_cons pe_int (pa_cons (pe_callB (call_min2 rfl) (by rfl) Ev.b_min (by decide +kernel) (pa_cons (pv 2) (pa_cons pe_int pa_nil))) pa_nil)))) pe_int))
          (pss_cons (ps_if (pt_cmpR op_eq (pe_c CLawD (hr.mono (by omega)) (pa_cons (pv 3) (pa_cons pe_int (pa_cons pe_int pa_nil)))) pe_int (nomark _))
            (pss_one (ps_set (i := 6) scLawDeeds.nd rfl (.inl rfl) (pe_callB (call_min2 rfl) (by rfl) Ev.b_min (by decide +kernel) (pa_cons (pe_op op_add (pv 2) (pe_c CLawD (hr.mono (by omega)) (pa_cons (pv 3) (pa_cons pe_int (pa_cons pe_int pa_nil))))) (pa_cons pe_int pa_nil)))))
            pss_nil)
          (pss_cons (ps_set (i := 1) scLawDeeds.nd rfl (.inl rfl) (pe_op op_catU (pv 1) (pe_tupU (pa_cons (pe_op op_add (pv 4) pe_int) (pa_cons (pe_op op_sub (pv 6) pe_int) pa_nil)))))
          (pss_one (ps_set (i := 2) scLawDeeds.nd rfl (.inl rfl) (pe_op op_add (pv 2) (pv 4))))))))))))
      (pss_one (ps_ret (pv 1)))))), ?_⟩
    have c220 : cutV (ns.map V.int) (some 2) (some 20) = ((ns.drop 2).take 18).map V.int := cut_mid ns 2 20
    refine ⟨Nat.zero_le _, fun H1 t1 s1 h1 => ?_⟩
    refine ⟨_, rfl, 2, rfl, 20, rfl, a, _, rfl, s1.seq hS, fun p2 n2 => ?_⟩
    rw [c220]
    have s2 : Same H1 (upd H1 p2 (.lst (((ns.drop 2).take 18).map V.int))) := grow n2
    have h2 : SqL K (upd H1 p2 (.lst (((ns.drop 2).take 18).map V.int))) p2 (((ns.drop 2).take 18).map V.int) := SqL.of upd_same
    have h1' := keepT s2 h1
    have s12 := s1.trans s2
    generalize upd H1 p2 (.lst (((ns.drop 2).take 18).map V.int)) = H2 at s2 h2 h1' s12
    refine ⟨p2, rfl, ⟨_, h2⟩, for_list (xs := ((ns.drop 2).take 18).map V.int) (fun i σ H' => ∃ (t : Addr) (S : List Int) (made : Int) (y3 y4 y5 y6 y7 : Option V), σ = [some (.ref a), some (.ref t), some (.int made), y3, y4, y5, y6, y7] ∧ Same H2 H' ∧ SqT K H' t (S.map V.int) ∧ Byt S ∧ S.length ≤ 6 * i ∧ 0 ≤ made) ⟨t1, [], 0, none, none, none, none, none, rfl, Same.refl _, h1', Byt.nil, Nat.zero_le _, by decide⟩ (fun i σ H' _ p => ?_) (fun i x σ H5 hx p => ?_) (fun σ H5 p => ?_)⟩
    · obtain ⟨_, _, _, _, _, _, _, _, _, e, _⟩ := p
      exact e.seq h2
    · obtain ⟨t, S, made, y3, y4, y5, y6, y7, rfl, sm5, ht, hb, lS, md⟩ := p
      obtain ⟨c, hc, rfl⟩ := got hx
      have li : i < 18 := by
        have := (List.getElem?_eq_some_iff.mp hc).1
        rw [List.length_take] at this
        omega
      have one : (1 : Nat) ≤ sizeLine := by rw [sizeLine_eq]; decide
      refine if_by (made ≠ 0) ?_ (fun nz => ?_) (fun go => ⟨_, rfl, c, 1, 2, rfl, by decide, by decide, by decide, fun d d0 d1 => ⟨rfl, _, rfl, ite2 (fun _ => go true fun z => nomatch z) (fun _ => ⟨_, rfl, rfl, _, rfl, go _ fun z e => by rw [e] at z; cases z⟩)⟩⟩)
      · -- bytes as they stand
        refine ⟨_, rfl, c, 2, 5, rfl, by decide, by decide, by decide, fun d2 e0 e1 => ⟨_, _, rfl, rfl, ?_⟩⟩
        obtain ⟨m, rfl⟩ : ∃ m : Nat, d2 = (m : Int) := ⟨d2.toNat, by omega⟩
        refine ⟨_, rfl, _, rfl, by omega, by omega, fun D nD => ?_⟩
        obtain ⟨L, eL⟩ : ∃ L : List Int, L = (List.range (m + 1)).map (fun k : Nat => (c / 10 + (k : Int) * (k : Int)) % 256) := ⟨_, rfl⟩
        have lL : L.length = m + 1 := by rw [eL, List.length_map, List.length_range]
        have bL : Byt L := by
          intro x hx
          rw [eL] at hx
          obtain ⟨k, _, rfl⟩ := List.mem_map.mp hx
          omega
        have em : ((m : Int) + 1).toNat = m + 1 := by omega
        refine lc_rng (lo := 0) (n := ((m : Int) + 1).toNat) (ys := L.map V.int) nD (by rw [List.length_map, lL, em]) (by rw [em]; exact Nat.le_of_lt (small1000 (by omega))) (fun _ => rfl) (fun k y Hx R hk hy sx R1 => ?_) (fun Hx sx hD => ?_)
        · have ey : y = .int ((c / 10 + (k : Int) * (k : Int)) % 256) := by
            rw [eL, List.getElem?_map, List.getElem?_map, List.getElem?_range (by omega)] at hy
            exact (Option.some.inj hy).symm
          subst ey
          have e00 : (0 : Int) + (k : Int) = (k : Int) := by omega
          rw [e00]
          exact ⟨_, rfl, _, 10, rfl, rfl, ⟨by decide, by decide⟩, _, rfl, _, rfl, _, _, rfl, rfl, .inl ⟨by omega, by omega⟩, _, _, rfl, rfl, _, 256, rfl, rfl, (show (0 : Int) < 256 by decide), R1 _ (Same.refl _)⟩
        refine ⟨_, rfl, _, rfl, _, _, rfl, rfl, one, fun Ha ta sa ha => ?_⟩
        refine ⟨t, ta, _, _, rfl, rfl, keepT (sx.trans sa) ht, ha, ?_, fun Hb tb sb hb' => ?_⟩
        · exact Nat.le_of_lt (small1000 (by rw [List.length_map]; simp only [List.length_cons, List.length_nil]; omega))
        refine ⟨_, rfl, D, _, rfl, (sa.trans sb).seq (SqL.of hD), fun Hc tc sc hc => ?_⟩
        refine ⟨tb, tc, _, _, rfl, rfl, keepT sc hb', hc, ?_, fun Hd td sd hd => ?_⟩
        · exact Nat.le_of_lt (small1000 (by rw [List.length_append, List.length_map, List.length_map]; simp only [List.length_cons, List.length_nil]; omega))
        have hd' : SqT K Hd td ((S ++ [(m : Int)] ++ L).map V.int) := by
          rw [List.map_append, List.map_append]
          have ex : (m : Int) + 1 - 1 = (m : Int) := by omega
          have hd2 : SqT K Hd td (S.map V.int ++ [V.int ((m : Int) + 1 - 1)] ++ L.map V.int) := hd
          rw [ex] at hd2
          exact hd2
        refine ⟨_, rfl, _, rfl, _, _, rfl, rfl, td, S ++ [(m : Int)] ++ L, made + ((m : Int) + 1), _, _, _, _, _, rfl, sm5.trans (sx.trans (sa.trans (sb.trans (sc.trans sd)))), hd', (hb.app (Byt.one (by omega))).app bL, ?_, by omega⟩
        rw [List.length_append, List.length_append, lL]
        simp only [List.length_cons, List.length_nil]
        omega
      · -- a look back
        refine ⟨_, rfl, c, 9973, 12, rfl, by decide, by decide, fun d d0 d1 => ⟨_, _, rfl, rfl, ?_⟩⟩
        dsimp only [gName]
        refine seq_by (t := tIfS _ _ _) (fun σ H' => ∃ mm : Int, σ = [some (.ref a), some (.ref t), some (.int made), some (.int c), some (.int mm), y5, y6, y7] ∧ H' = H5 ∧ 3 ≤ mm ∧ mm ≤ 130) (fun σ H6 p => ?_) (fun go => ?_)
        · obtain ⟨mm, rfl, rfl, m0, m1⟩ := p
          have hmin : 0 < (if (256 : Int) < made then 256 else made) ∧ (if (256 : Int) < made then 256 else made) ≤ 256 := by
            split <;> omega
          refine ⟨_, rfl, _, rfl, _, _, rfl, c, 9949, _, rfl, by decide, hmin.1, fun d2 e0 e1 => ⟨_, _, rfl, rfl, ?_⟩⟩
          have e1' : d2 < (if (256 : Int) < made then 256 else made) := e1
          dsimp only [gName]
          refine seq_by (t := tIfS _ _ _) (fun σ H' => ∃ far : Int, σ = [some (.ref a), some (.ref t), some (.int made), some (.int c), some (.int mm), y5, some (.int far), y7] ∧ H' = H6 ∧ 1 ≤ far ∧ far ≤ 256) (fun σ H7 p => ?_) (fun go => ?_)
          · obtain ⟨far, rfl, rfl, f0, f1⟩ := p
            refine ⟨_, rfl, _, rfl, _, _, rfl, rfl, _, rfl, _, _, rfl, rfl, (show 2 ≤ sizeLine by rw [sizeLine_eq]; decide), fun Ha ta sa ha => ?_⟩
            refine ⟨t, ta, _, _, rfl, rfl, keepT sa ht, ha, ?_, fun Hb tb sb hb' => ?_⟩
            · exact Nat.le_of_lt (small1000 (by rw [List.length_map]; simp only [List.length_cons, List.length_nil]; omega))
            have hb2 : SqT K Hb tb ((S ++ [mm + 125, far - 1]).map V.int) := by
              rw [List.map_append]
              exact hb'
            refine ⟨_, rfl, _, rfl, _, _, rfl, rfl, tb, S ++ [mm + 125, far - 1], made + mm, _, _, _, _, _, rfl, sm5.trans (sa.trans sb), hb2, ?_, ?_, by omega⟩
            · refine hb.app (fun x hx => ?_)
              simp only [List.mem_cons, List.not_mem_nil, or_false] at hx
              rcases hx with rfl | rfl <;> omega
            · rw [List.length_append]
              simp only [List.length_cons, List.length_nil]
              omega
          · refine ⟨_, rfl, c, 2, 7, rfl, by decide, by decide, by decide, fun d3 g0 g1 => ⟨rfl, _, rfl, ite2 (fun _ => ?_) (fun _ => go _ _ ⟨d2 + 1, rfl, rfl, by omega, by omega⟩)⟩⟩
            refine ⟨_, rfl, _, rfl, c, 14, 2, rfl, by decide, by decide, by decide, fun d4 j0 j1 => ⟨_, _, rfl, rfl, _, _, rfl, go _ _ ⟨_, rfl, rfl, ?_, ?_⟩⟩⟩
            · show 1 ≤ (if (256 : Int) < made + d4 then 256 else made + d4)
              split <;> omega
            · show (if (256 : Int) < made + d4 then 256 else made + d4) ≤ 256
              split <;> omega
        · refine ⟨_, rfl, c, 2, 9, rfl, by decide, by decide, by decide, fun d3 g0 g1 => ⟨rfl, _, rfl, ite2 (fun _ => ?_) (fun _ => go _ _ ⟨d + 3, rfl, rfl, by omega, by omega⟩)⟩⟩
          exact ⟨_, rfl, c, 9967, 128, rfl, by decide, by decide, fun d4 j0 j1 => ⟨_, _, rfl, rfl, go _ _ ⟨d4 + 3, rfl, rfl, by omega, by omega⟩⟩⟩
    · obtain ⟨t, S, made, y3, y4, y5, y6, y7, rfl, sm5, ht, hb, lS, md⟩ := p
      refine ⟨_, rfl, q S hb ?_ _ _ (s12.trans sm5) ht⟩
      rw [List.length_map, List.length_take] at lS
      omega

/-! ### what is told, or refused -/
def spOr (K : PySem.W.Frag) : Sp := fun vs H Q _ => ∃ (v : V) (r : Option (List Int)), vs = [v] ∧ ShowsO K H v r ∧ ∀ u, ShowsR K H u r → Q u H
theorem ok_or {f : Addr} {fd : FuncData} (Ev : Env K mg) (F : Fun K "_law_or" "_law_or" sLawOr f fd) : FnOk P w K mg base CX0 1 f fd ["_law_due"] (spOr K) := by
  refine F.ok scLawOr (fun vs H Q E h => ?_) (fun cdv A outer s H vs Q E hr h => ?_)
  · obtain ⟨v, r, rfl, _⟩ := h; rfl
  · obtain ⟨v, r, rfl, hv, q⟩ := h
    refine ⟨_, (pss_cons (ps_if (pt_cmpR op_isN (pv 0) pe_non (nomark _))
        (pss_one (ps_ret pe_str))
        pss_nil)
      (pss_one (ps_ret (pv 0)))), ?_⟩
    cases r with
    | none =>
      have e : v = .non := hv
      subst e
      exact ⟨_, rfl, rfl, _, rfl, iteT (q _ rfl)⟩
    | some B =>
      obtain ⟨t, rfl, ht⟩ := hv
      exact ⟨_, rfl, rfl, _, rfl, iteF ⟨_, rfl, q _ ⟨t, rfl, ht⟩⟩⟩
def spTold (K : PySem.W.Frag) : Sp := fun vs H Q _ => ∃ (k : Nat) (p : Addr) (S : List Int), vs = [.int (k : Int), .ref p] ∧ k ≤ 1 ∧ SqT K H p (S.map V.int) ∧ Byt S ∧ S.length ≤ 20000 ∧ ∀ H' v, Same H H' → ShowsR K H' v (unpF k S) → Q v H'
theorem ok_told {f : Addr} {fd : FuncData} {lv : Nat} (Ev : Env K mg) (Ex : Excs K mg e_BadForm) (CUnpressed : CalX P w K mg base "unpressed" lv ["kind", "some"] (spUnp K e_BadForm)) (F : Fun K "_law_told" "_law_told" sLawTold f fd) : FnOk P w K mg base CX0 (lv + 1) f fd ["_law_kind", "_law_some"] (spTold K) := by
  refine F.ok scLawTold (fun vs H Q E h => ?_) (fun cdv A outer s H vs Q E hr h => ?_)
  · obtain ⟨k, p, S, rfl, _⟩ := h; rfl
  · obtain ⟨k, p, S, rfl, k1, hp, hb, few, q⟩ := h
    refine ⟨_, (pss_cons (ps_set (i := 2) scLawTold.nd rfl (.inl rfl) pe_non)
      (pss_cons (ps_try_many (tb := fun W => tAsg (tCallS (spUnp K e_BadForm) (WE W) (tCons (tVar 0) (tCons (tVar 1) tNil))) (gName 2)) (Wout := fun _ _ _ _ => False)
          (l := [(.ref e_BadForm, fun _ _ _ => tAsg (tC (.str "refused")) (gName 2))]) rfl rfl takes0
          (fun W pn xe tk _ => pss_one (ps_set (i := 2) scLawTold.nd rfl (.inl rfl) (by exact (pe_cs CUnpressed (hr.mono (by omega)) tk (by exact (pa_cons (pv 0) (pa_cons (pv 1) pa_nil)))))))
          (.cons ⟨rfl, by decide, .inl Ex.BadForm.g⟩ (fun a oe cls d pn hz hf => pss_one (ps_set (i := 2) scLawTold.nd rfl (.inl rfl) pe_str)) .nil))
      (pss_one (ps_ret (pv 2))))), ?_⟩
    refine ⟨_, rfl, _, rfl, k, p, S, rfl, k1, hp, hb, few, ?_⟩
    cases e : unpF k S with
    | none =>
      rw [e] at q
      exact fun H' sm => ⟨true, Ex.p_BadForm_BadForm, fun _ a na => ⟨_, rfl, q _ _ sm rfl⟩, fun z => nomatch z⟩
    | some B =>
      rw [e] at q
      exact fun H3 t3 s3 h3 => ⟨_, rfl, q _ _ s3 ⟨t3, rfl, h3⟩⟩
/-! ### the law -/
def dR : Option (List Int) → PyData
  | none => .str "refused"
  | some B => dInts B
theorem showsR_dp {K : PySem.W.Frag} {H : Hp} {v : V} {r : Option (List Int)} (h : ShowsR K H v r) : Dp K H v (dR r) := by
  cases r with
  | none =>
    have e : v = .str "refused" := h
    subst e
    exact .str _
  | some B =>
    obtain ⟨t, rfl, ht⟩ := h
    exact dpTup ht
theorem ShowsR.keep {K : PySem.W.Frag} {H H' : Hp} {v : V} {r : Option (List Int)} (h : ShowsR K H v r) (e : Same H H') : ShowsR K H' v r := by
  cases r with
  | none => exact h
  | some B =>
    obtain ⟨t, rfl, ht⟩ := h
    exact ⟨t, rfl, keepT e ht⟩
theorem deedsF_few : ∀ (f : Nat) (r B C : List Int), deedsF f r B = some C → C.length ≤ 1000
  | f, [], B, C, h => by
    rw [deedsF_end] at h
    split at h
    · cases h
      assumption
    · cases h
  | 0, _ :: _, _, _, h => by cases h
  | f + 1, n :: r, B, C, h => by
    rw [deedsF] at h
    split at h
    · split at h
      · cases h
      · exact deedsF_few f _ _ _ h
    · split at h
      · cases h
      · split at h
        · cases h
        · exact deedsF_few f _ _ _ h
theorem dR_ok {r : Option (List Int)} (h : ∀ B, r = some B → B.length ≤ 1000) : tupsOnly (dR r) = true ∧ PyData.depth (dR r) ≤ 1 := by
  cases r with
  | none => exact ⟨rfl, by decide⟩
  | some B => exact dInts_ok B (Nat.le_trans (h B rfl) (by decide))
def Thing (K : PySem.W.Frag) (H : Hp) (v : V) : Prop := ∃ (t : Addr) (S : List Int), v = .ref t ∧ SqT K H t (S.map V.int) ∧ Byt S ∧ S.length ≤ 400
theorem Thing.keep {K : PySem.W.Frag} {H H' : Hp} {v : V} (h : Thing K H v) (e : Same H H') : Thing K H' v := by
  obtain ⟨t, S, rfl, h1, h2, h3⟩ := h
  exact ⟨t, S, rfl, keepT e h1, h2, h3⟩
theorem Thing.over {K : PySem.W.Frag} {H : Hp} {v : V} {p : Addr} {ys zs : List V} (h : Thing K H v) (e : H p = some (.lst ys)) : Thing K (upd H p (.lst zs)) v := by
  obtain ⟨t, S, rfl, h1, h2, h3⟩ := h
  exact ⟨t, S, rfl, keepT_lst h1 e, h2, h3⟩
theorem rep_map (k : Nat) (bs : List Int) : (List.replicate k (bs.map V.int)).flatten = (List.replicate k bs).flatten.map V.int := by
  rw [List.map_flatten, List.map_replicate]
def spLaw (K : PySem.W.Frag) : Sp := fun vs H Q _ => ∃ (a : Addr) (ns : List Int), vs = [.ref a] ∧ SqL K H a (ns.map V.int) ∧ ns.length ≤ 63 ∧ ∀ H', Q (.bl true) H'
theorem ok_law {f : Addr} {fd : FuncData} {lv : Nat} (Ev : Env K mg) (CUnpressed : CalX P w K mg base "unpressed" lv ["kind", "some"] (spUnp K e_BadForm)) (CLawDeeds : Cal P w K mg base "_law_deeds" 2 ["_law_script"] (spDeeds K)) (CLawSame : Cal P w K mg base "_law_same" 2 ["_law_told_here", "_law_due"] (spSameD K 1))
    (CLawTold : Cal P w K mg base "_law_told" (lv + 1) ["_law_kind", "_law_some"] (spTold K)) (CLawOr : Cal P w K mg base "_law_or" 1 ["_law_due"] (spOr K)) (CLawBack : Cal P w K mg base "_law_back" 1 ["_law_some"] (spBack K)) (F : Fun K "law" "law" sLaw f fd) :
    FnOk P w K mg base CX0 (lv + 3) f fd ["_law_script"] (spLaw K) := by
  refine F.ok scLaw (fun vs H Q E h => ?_) (fun cdv A outer s H vs Q E hr h => ?_)
  · obtain ⟨a, ns, rfl, _⟩ := h; rfl
  · obtain ⟨a, ns, rfl, hS, hlen, q⟩ := h
    refine ⟨_, (pss_cons (ps_set (i := 1) scLaw.nd rfl (.inl rfl) (pe_c CLawDeeds (hr.mono (by omega)) (pa_cons (pv 0) pa_nil)))
      (pss_cons (ps_set (i := 2) scLaw.nd rfl (.inl rfl) (pe_callTy call_tupleU (by rfl) Ev.b_tuple (by decide +kernel) (pa_cons (pe_lc (own := [("_law_one", 6)]) (g := gName 6) (tt := tYes) (by rfl) scLaw.nd (pi_list (pe_slice sl_list (pv 0) (po_some pe_int) (po_some pe_int))) (blkOk_by (own := [("_law_one", 6)]) (N := nLaw) (sc := defScope sLaw) (by decide +kernel)) (fun _ _ _ _ _ => (pg_name (i := 6) scLaw.nd rfl (.inl rfl))) (fun _ _ _ _ _ => pts_nil) (fun _ _ _ _ _ => (pe_op op_mod (pv 6) pe_int))) pa_nil)))
      (pss_cons (ps_set (i := 3) scLaw.nd rfl (.inl rfl) (pe_lst (pa_cons (pv 1) (pa_cons (pv 2) (pa_cons (pe_tupU pa_nil) pa_nil)))))
      (pss_cons (ps_if (PW.pt (pw_and (pt_cmpR op_gt (pe_callB call_len_seq (by rfl) Ev.b_len PySem.boot_len (pa_cons (pv 0) pa_nil)) pe_int (nomark _)) (pw_and1 (pt_truth (pv 1) (by intro _; rfl)))))
        (pss_cons (ps_set (i := 5) scLaw.nd rfl (.inl rfl) (pe_op op_mod (pe_ix ix_list (pv 0) pe_int (fun _ _ => rfl)) (pe_callB call_len_seq (by rfl) Ev.b_len PySem.boot_len (pa_cons (pv 1) pa_nil))))
        (pss_cons (ps_expr (pe_bm PySem.F.plainAttrs_list PySem.F.slot_list_append PySem.F.type_list_append mt_append (pv 3) (pa_cons (pe_slice sl_tupU (pv 1) po_none (po_some (pv 5))) pa_nil)))
        (pss_cons (ps_expr (pe_bm PySem.F.plainAttrs_list PySem.F.slot_list_append PySem.F.type_list_append mt_append (pv 3) (pa_cons (pe_op op_catU (pe_op op_catU (pe_slice sl_tupU (pv 1) po_none (po_some (pv 5))) (pe_tupU (pa_cons (pe_op op_mod (pe_ix ix_list (pv 0) pe_int (fun _ _ => rfl)) pe_int) pa_nil))) (pe_slice sl_tupU (pv 1) (po_some (pe_op op_add (pv 5) pe_int)) po_none)) pa_nil)))
        (pss_one (ps_expr (pe_bm PySem.F.plainAttrs_list PySem.F.slot_list_append PySem.F.type_list_append mt_append (pv 3) (pa_cons (pe_op op_catU (pe_op op_catU (pe_slice sl_tupU (pv 1) po_none (po_some (pv 5))) (pe_tupU (pa_cons (pe_op op_mod (pe_ix ix_list (pv 0) pe_int (fun _ _ => rfl)) pe_int) pa_nil))) (pe_slice sl_tupU (pv 1) (po_some (pv 5)) po_none)) pa_nil)))))))
        pss_nil)
      (pss_cons (ps_for PassesOwn.never rfl (pi_list (pv 3)) (pg_name (i := 4) scLaw.nd rfl (.inl rfl))
        (pss_cons (ps_if (pt_not (pt_val (pe_c CLawSame (hr.mono (by omega)) (pa_cons (pe_c CLawTold (hr.mono (by omega)) (pa_cons pe_int (pa_cons (pv 4) pa_nil))) (pa_cons (pe_c CLawOr (hr.mono (by omega)) (pa_cons (pe_c CLawBack (hr.mono (by omega)) (pa_cons (pv 4) pa_nil)) pa_nil)) pa_nil)))))
          (pss_one (ps_ret pe_bl))
          pss_nil)
        (pss_one (ps_if (pt_not (pt_val (pe_c CLawSame (hr.mono (by omega)) (pa_cons (pe_cn CUnpressed (hr.mono (by omega)) (pa_cons pe_int (pa_cons (pv 4) pa_nil))) (pa_cons (pv 4) pa_nil)))))
          (pss_one (ps_ret pe_bl))
          pss_nil))))
      (pss_cons (ps_if (PW.pt (pw_or (pt_cmpR op_ne (pe_c CLawTold (hr.mono (by omega)) (pa_cons pe_int (pa_cons (pe_op op_catU (pe_tupU (pa_cons pe_int (pa_cons pe_int pa_nil))) (pe_op op_repV (pe_tupU (pa_cons pe_int (pa_cons pe_int pa_nil))) pe_int)) pa_nil))) pe_str (nomark _)) (pw_or1 (pt_cmpR op_ne (pe_c CLawTold (hr.mono (by omega)) (pa_cons pe_int (pa_cons (pe_op op_repV (pe_tupU (pa_cons pe_int pa_nil)) pe_int) pa_nil))) pe_str (nomark _)))))
        (pss_one (ps_ret pe_bl))
        pss_nil)
      (pss_one (ps_ret (pe_c CLawSame (hr.mono (by omega)) (pa_cons (pe_c CLawTold (hr.mono (by omega)) (pa_cons pe_int (pa_cons (pe_op op_catU (pe_tupU (pa_cons pe_int (pa_cons pe_int pa_nil))) (pe_op op_repV (pe_tupU (pa_cons pe_int (pa_cons pe_int pa_nil))) pe_int)) pa_nil))) (pa_cons (pe_op op_repV (pe_tupU (pa_cons pe_int pa_nil)) pe_int) pa_nil))))))))))), ?_⟩
    have one : (1 : Nat) ≤ sizeLine := by rw [sizeLine_eq]; decide
    have two : (2 : Nat) ≤ sizeLine := by rw [sizeLine_eq]; decide
    have c240 : cutV (ns.map V.int) (some 2) (some 40) = ((ns.drop 2).take 38).map V.int := cut_mid ns 2 40
    refine ⟨_, rfl, a, ns, rfl, hS, hlen, fun S bS lS H1 t1 s1 h1 => ?_⟩
    refine ⟨_, rfl, 2, rfl, 40, rfl, a, _, rfl, s1.seq hS, fun p np => ⟨p, rfl, ⟨_, SqL.of upd_same⟩, fun D nD => ?_⟩⟩
    rw [c240] at nD ⊢
    refine lc_row (xs := ((ns.drop 2).take 38).map V.int) (ys := (((ns.drop 2).take 38).map (· % 256)).map V.int) nD (SqL.of upd_same) ?_ ?_ (fun _ => rfl) (fun i x y H2 R hx hy sm r => ?_) (fun H3 sm h3 => ⟨D, _, rfl, SqL.of h3, fun H4 t4 s4 h4 => ?_⟩)
    · rw [List.length_map, List.length_map, List.length_map]
    · rw [List.length_map, List.length_take]
      exact Nat.le_of_lt (small1000 (by omega))
    · obtain ⟨n, hn, rfl⟩ := got hx
      have ey : y = .int (n % 256) := by
        rw [List.getElem?_map, List.getElem?_map, hn] at hy
        exact (Option.some.inj hy).symm
      subst ey
      exact ⟨_, rfl, n, 256, rfl, rfl, (show (0 : Int) < 256 by decide), r _ (Same.refl _)⟩
    obtain ⟨R, eR⟩ : ∃ R : List Int, R = ((ns.drop 2).take 38).map (· % 256) := ⟨_, rfl⟩
    have bR : Byt R := by
      intro x hx
      rw [eR] at hx
      obtain ⟨y, _, rfl⟩ := List.mem_map.mp hx
      omega
    have lR : R.length ≤ 38 := by rw [eR, List.length_map, List.length_take]; omega
    rw [← eR] at h4
    have s14 : Same H1 H4 := ((grow np).trans sm).trans s4
    have h14 := keepT s14 h1
    refine ⟨_, rfl, _, rfl, Nat.zero_le _, fun H5 t5 s5 h5 => ?_⟩
    refine ⟨(show 3 ≤ sizeLine by rw [sizeLine_eq]; decide), fun p6 n6 => ?_⟩
    have s6 : Same H5 (upd H5 p6 (.lst [V.ref t1, .ref t4, .ref t5])) := grow n6
    have h6 : (upd H5 p6 (.lst [V.ref t1, .ref t4, .ref t5])) p6 = some (.lst [V.ref t1, .ref t4, .ref t5]) := upd_same
    have th6 : ∀ v ∈ [V.ref t1, .ref t4, .ref t5], Thing K (upd H5 p6 (.lst [V.ref t1, .ref t4, .ref t5])) v := by
      intro v hv
      simp only [List.mem_cons, List.not_mem_nil, or_false] at hv
      rcases hv with rfl | rfl | rfl
      · exact ⟨t1, S, rfl, keepT (s5.trans s6) h14, bS, by omega⟩
      · exact ⟨t4, R, rfl, keepT (s5.trans s6) h4, bR, by omega⟩
      · exact ⟨t5, [], rfl, keepT s6 h5, Byt.nil, by simp⟩
    have sm5 : Same H H5 := s1.trans (s14.trans s5)
    have h15 := keepT s5 h14
    have n6H : H p6 = none := sm5.free n6
    have sm6 : Same H (upd H5 p6 (.lst [V.ref t1, .ref t4, .ref t5])) := sm5.trans s6
    have h16 := keepT s6 h15
    generalize upd H5 p6 (.lst [V.ref t1, .ref t4, .ref t5]) = H6 at s6 h6 th6 sm6 h16
    dsimp only [gName]
    refine seq_by (t := tIfS _ _ _) (fun σ H' => ∃ (vs : List V) (y5 : Option V), σ = [some (.ref a), some (.ref t1), some (.ref t4), some (.ref p6), none, y5, none] ∧ H' p6 = some (.lst vs) ∧ ∀ v ∈ vs, Thing K H' v) (fun σ H7 p => ?_) (fun go => ?_)
    · obtain ⟨vs, y5, rfl, hvs, tvs⟩ := p
      refine ⟨_, rfl, p6, rfl, ⟨_, SqL.of hvs⟩, for_list (xs := vs) (fun i σ H' => ∃ y4 : Option V, σ = [some (.ref a), some (.ref t1), some (.ref t4), some (.ref p6), y4, y5, none] ∧ Same H7 H') ⟨_, rfl, Same.refl _⟩ (fun i σ H' _ p => ?_) (fun i x σ H8 hx p => ?_) (fun σ H8 p => ?_)⟩
      · obtain ⟨_, _, e⟩ := p
        exact e.seq (SqL.of hvs)
      · obtain ⟨y4, rfl, sm8⟩ := p
        obtain ⟨t, C, rfl, ht, bC, lC⟩ := (tvs x (List.mem_of_getElem? hx)).keep sm8
        refine ⟨_, rfl, 1, t, C, rfl, by decide, ht, bC, by omega, fun H9 u9 s9 sh9 => ?_⟩
        refine ⟨_, rfl, t, C, rfl, keepT s9 ht, bC, by omega, fun Ha ua sa sha => ?_⟩
        refine ⟨ua, backF C, rfl, sha, fun ub shb => ?_⟩
        have ok := dR_ok (r := backF C) fun B e => deedsF_few _ _ _ _ e
        refine ⟨u9, ub, dR (backF C), rfl, showsR_dp (sh9.keep sa), showsR_dp shb, ok.1, ok.2, fun Hb sb => ⟨true, rfl, iteF ?_⟩⟩
        have s8b : Same H8 Hb := s9.trans (sa.trans sb)
        refine ⟨_, rfl, 0, t, C, rfl, by decide, keepT s8b ht, bC, by omega, ?_⟩
        have e0 : unpF 0 C = some C := by
          unfold unpF
          rw [if_pos rfl, if_pos (by omega)]
        rw [e0]
        intro Hc tc sc hc
        have okC := dInts_ok C (by omega)
        exact ⟨_, rfl, .ref tc, .ref t, dInts C, rfl, dpTup hc, dpTup (keepT (s8b.trans sc) ht), okC.1, okC.2, fun Hd sd => ⟨true, rfl, iteF ⟨_, rfl, sm8.trans (s8b.trans (sc.trans sd))⟩⟩⟩
      · obtain ⟨y4, rfl, sm8⟩ := p
        refine ⟨two, fun Ha ta sa ha => ?_⟩
        refine ⟨two, fun Hb tb sb hb => ?_⟩
        refine ⟨tb, 9, [.int 255, .int 0], rfl, rfl, hb, by decide, by decide, by decide, fun Hc tc sc hc => ?_⟩
        rw [show (List.replicate (9 : Int).toNat [V.int 255, .int 0]).flatten = (List.replicate 9 ([255, 0] : List Int)).flatten.map V.int from rep_map 9 [255, 0]] at hc
        refine ⟨ta, tc, _, _, rfl, rfl, keepT (sb.trans sc) ha, hc, ?_, fun Hd td sd hd => ?_⟩
        · exact Nat.le_of_lt (small1000 (by rw [List.length_map, PyProof.Rows.lm_len_rep_flat]; decide))
        have hd' : SqT K Hd td (([0, 7] ++ (List.replicate 9 ([255, 0] : List Int)).flatten).map V.int) := by
          rw [List.map_append]
          exact hd
        have b9 : ∀ n, Byt ([0, 7] ++ (List.replicate n ([255, 0] : List Int)).flatten) := fun n => by
          refine Byt.app (fun x hx => ?_) (Byt.rep (fun x hx => ?_) n)
          · simp only [List.mem_cons, List.not_mem_nil, or_false] at hx
            rcases hx with rfl | rfl <;> decide
          · simp only [List.mem_cons, List.not_mem_nil, or_false] at hx
            rcases hx with rfl | rfl <;> decide
        refine ⟨1, td, _, rfl, by decide, hd', b9 9, by rw [List.length_append, PyProof.Rows.lm_len_rep_flat]; decide, fun He ue se she => ?_⟩
        have e9 : unpF 1 ([0, 7] ++ (List.replicate 9 ([255, 0] : List Int)).flatten) = none := by
          unfold unpF
          rw [if_neg (by decide), far_begin, if_neg (by decide)]
        rw [e9] at she
        have eu : ue = .str "refused" := she
        subst eu
        refine ⟨rfl, _, rfl, iteNS rfl ?_⟩
        refine ⟨one, fun Hf tf sf hf => ?_⟩
        refine ⟨tf, 1001, [.int 7], rfl, rfl, hf, by decide, by decide, by decide, fun Hg tg sg hg => ?_⟩
        rw [show (List.replicate (1001 : Int).toNat [V.int 7]).flatten = (List.replicate 1001 ([7] : List Int)).flatten.map V.int from rep_map 1001 [7]] at hg
        refine ⟨0, tg, _, rfl, by decide, hg, Byt.rep (Byt.one (by decide)) 1001, by rw [PyProof.Rows.lm_len_rep_flat]; decide, fun Hh uh sh' shh => ?_⟩
        have e0 : unpF 0 (List.replicate 1001 ([7] : List Int)).flatten = none := by
          unfold unpF
          rw [if_pos rfl, if_neg (by rw [PyProof.Rows.lm_len_rep_flat]; decide)]
        rw [e0] at shh
        have eu : uh = .str "refused" := shh
        subst eu
        refine ⟨rfl, _, rfl, iteNS rfl ?_⟩
        refine ⟨two, fun Ha ta sa ha => ?_⟩
        refine ⟨two, fun Hb tb sb hb => ?_⟩
        refine ⟨tb, 7, [.int 255, .int 0], rfl, rfl, hb, by decide, by decide, by decide, fun Hc tc sc hc => ?_⟩
        rw [show (List.replicate (7 : Int).toNat [V.int 255, .int 0]).flatten = (List.replicate 7 ([255, 0] : List Int)).flatten.map V.int from rep_map 7 [255, 0]] at hc
        refine ⟨ta, tc, _, _, rfl, rfl, keepT (sb.trans sc) ha, hc, ?_, fun Hd td sd hd => ?_⟩
        · exact Nat.le_of_lt (small1000 (by rw [List.length_map, PyProof.Rows.lm_len_rep_flat]; decide))
        have hd' : SqT K Hd td (([0, 7] ++ (List.replicate 7 ([255, 0] : List Int)).flatten).map V.int) := by
          rw [List.map_append]
          exact hd
        refine ⟨1, td, _, rfl, by decide, hd', b9 7, by rw [List.length_append, PyProof.Rows.lm_len_rep_flat]; decide, fun He ue se she => ?_⟩
        have e7 : unpF 1 ([0, 7] ++ (List.replicate 7 ([255, 0] : List Int)).flatten) = some (List.replicate 911 7) := by
          unfold unpF
          rw [if_neg (by decide), far_begin, if_pos (by decide)]
        rw [e7] at she
        refine ⟨one, fun Hf tf sf hf => ?_⟩
        refine ⟨tf, 911, [.int 7], rfl, rfl, hf, by decide, by decide, by decide, fun Hg tg sg hg => ?_⟩
        have e911 : (List.replicate (911 : Int).toNat [V.int 7]).flatten = (List.replicate 911 (7 : Int)).map V.int := by
          rw [List.map_replicate]
          exact List.flatten_replicate_singleton
        rw [e911] at hg
        have okC := dInts_ok (List.replicate 911 7) (by rw [List.length_replicate]; decide)
        obtain ⟨t9, rfl, h9⟩ := she
        exact ⟨.ref t9, .ref tg, dInts (List.replicate 911 7), rfl, dpTup (keepT (sf.trans sg) h9), dpTup hg, okC.1, okC.2, fun Hh sh2 => q _⟩
    · have hS6 : SqL K H6 a (ns.map V.int) := sm6.seq hS
      refine ⟨_, rfl, a, _, rfl, .inl hS6, _, _, rfl, rfl, _, rfl, ite2 (fun z => ?_) (fun _ => iteF (go _ _ ⟨_, _, rfl, h6, th6⟩))⟩
      have hns : 1 < ns.length := by
        have := of_decide_eq_true z
        rw [List.length_map] at this
        omega
      refine ⟨_, rfl, _, .inr (.inl ⟨_, h16, rfl⟩), ite2 (fun y => ?_) (fun _ => go _ _ ⟨_, _, rfl, h6, th6⟩)⟩
      have nS : S ≠ [] := fun e => by rw [e] at y; cases y
      have pS : 0 < S.length := List.length_pos_iff.mpr nS
      have g0 : (ns.map V.int)[0]? = some (.int ns[0]) := by rw [List.getElem?_map, List.getElem?_eq_getElem (by omega)]; rfl
      have g1 : (ns.map V.int)[1]? = some (.int ns[1]) := by rw [List.getElem?_map, List.getElem?_eq_getElem hns]; rfl
      have lp : 0 < ((S.map V.int).length : Int) := by rw [List.length_map]; omega
      refine ⟨_, rfl, a, _, 0, _, rfl, rfl, hS6, at_of (j := 0) rfl g0, _, rfl, t1, _, rfl, .inr h16, _, _, rfl, rfl, lp, ?_⟩
      have m0 := Int.emod_nonneg ns[0] (Int.ne_of_gt lp)
      have m1 := Int.emod_lt_of_pos ns[0] lp
      obtain ⟨k, ek⟩ : ∃ k : Nat, ns[0] % ((S.map V.int).length : Int) = (k : Int) := ⟨(ns[0] % ((S.map V.int).length : Int)).toNat, by omega⟩
      have kl : k ≤ S.length := by
        rw [List.length_map] at ek m1
        omega
      obtain ⟨b, eb⟩ : ∃ b : Int, b = ns[1] % 256 := ⟨_, rfl⟩
      have bb : 0 ≤ b ∧ b < 256 := by omega
      -- append(some[:at])
      refine ⟨_, rfl, .inl ⟨rfl, _, SqL.of h6⟩, _, rfl, _, rfl, (k : Int), congrArg V.int ek, t1, _, rfl, h16, fun Ha ta sa ha => ?_⟩
      rw [cut_to] at ha
      have h6a := sa _ _ h6
      refine ⟨p6, _, _, rfl, rfl, h6a, small1000 (by simp), ?_⟩
      have n6' : ∀ {Hx : Hp} {zs : List V}, Same H5 Hx → Same H5 (upd Hx p6 (.lst zs)) := fun e => keep_lst e n6
      have s5a : Same H5 (upd Ha p6 (.lst ([V.ref t1, .ref t4, .ref t5] ++ [V.ref ta]))) := n6' (s6.trans sa)
      have tha : ∀ v ∈ [V.ref t1, .ref t4, .ref t5] ++ [V.ref ta], Thing K (upd Ha p6 (.lst ([V.ref t1, .ref t4, .ref t5] ++ [V.ref ta]))) v := by
        intro v hv
        rcases List.mem_append.mp hv with hv | hv
        · exact ((th6 v hv).keep sa).over h6a
        · rw [List.mem_singleton.mp hv]
          exact Thing.over ⟨ta, S.take k, rfl, ha, bS.take k, by rw [List.length_take]; omega⟩ h6a
      have h6b : (upd Ha p6 (.lst ([V.ref t1, .ref t4, .ref t5] ++ [V.ref ta]))) p6 = some (.lst ([V.ref t1, .ref t4, .ref t5] ++ [V.ref ta])) := upd_same
      generalize upd Ha p6 (.lst ([V.ref t1, .ref t4, .ref t5] ++ [V.ref ta])) = Hb at s5a tha h6b
      have lb : ([V.ref t1, .ref t4, .ref t5] ++ [V.ref ta]).length = 4 := rfl
      generalize [V.ref t1, .ref t4, .ref t5] ++ [V.ref ta] = vb at tha h6b lb
      have h1b := keepT s5a h15
      have hSb := (sm5.trans s5a).seq hS
      -- append(some[:at] + (b,) + some[at + 1:])
      refine ⟨_, rfl, .inl ⟨rfl, _, SqL.of h6b⟩, _, rfl, _, rfl, (k : Int), congrArg V.int ek, t1, _, rfl, h1b, fun Hc tc sc hc => ?_⟩
      rw [cut_to] at hc
      refine ⟨_, rfl, a, _, 1, _, rfl, rfl, sc.seq hSb, at_of (j := 1) rfl g1, _, 256, rfl, rfl, (show (0 : Int) < 256 by decide), one, fun Hd td sd hd => ?_⟩
      refine ⟨tc, td, _, _, rfl, rfl, keepT sd hc, hd, ?_, fun He te se he => ?_⟩
      · exact Nat.le_of_lt (small1000 (by rw [List.length_map, List.length_take]; simp only [List.length_cons, List.length_nil]; omega))
      refine ⟨_, rfl, _, rfl, _, _, rfl, rfl, ((k + 1 : Nat) : Int), ?_, t1, _, rfl, keepT (sc.trans (sd.trans se)) h1b, fun Hf tf sf hf => ?_⟩
      · show V.int (ns[0] % ((S.map V.int).length : Int) + 1) = _
        rw [ek]
        rfl
      rw [cut_from] at hf
      refine ⟨te, tf, _, _, rfl, rfl, keepT sf he, hf, ?_, fun Hg tg sg hg => ?_⟩
      · exact Nat.le_of_lt (small1000 (by rw [List.length_append, List.length_map, List.length_map, List.length_take, List.length_drop]; simp only [List.length_cons, List.length_nil]; omega))
      have hg' : SqT K Hg tg ((S.take k ++ [b] ++ S.drop (k + 1)).map V.int) := by
        rw [List.map_append, List.map_append, eb]
        exact hg
      have sbg : Same Hb Hg := sc.trans (sd.trans (se.trans (sf.trans sg)))
      have h6g := sbg _ _ h6b
      refine ⟨p6, _, _, rfl, rfl, h6g, small1000 (by omega), ?_⟩
      have s5g : Same H5 (upd Hg p6 (.lst (vb ++ [V.ref tg]))) := n6' (s5a.trans sbg)
      have thg : ∀ v ∈ vb ++ [V.ref tg], Thing K (upd Hg p6 (.lst (vb ++ [V.ref tg]))) v := by
        intro v hv
        rcases List.mem_append.mp hv with hv | hv
        · exact ((tha v hv).keep sbg).over h6g
        · rw [List.mem_singleton.mp hv]
          exact Thing.over ⟨tg, _, rfl, hg', ((bS.take k).app (Byt.one bb)).app (bS.drop (k + 1)), by rw [List.length_append, List.length_append, List.length_take, List.length_drop]; simp only [List.length_cons, List.length_nil]; omega⟩ h6g
      have h6h : (upd Hg p6 (.lst (vb ++ [V.ref tg]))) p6 = some (.lst (vb ++ [V.ref tg])) := upd_same
      generalize upd Hg p6 (.lst (vb ++ [V.ref tg])) = Hh at s5g thg h6h
      have lh : (vb ++ [V.ref tg]).length = 5 := by rw [List.length_append, lb]; rfl
      generalize vb ++ [V.ref tg] = vh at thg h6h lh
      have h1h := keepT s5g h15
      have hSh := (sm5.trans s5g).seq hS
      -- append(some[:at] + (b,) + some[at:])
      refine ⟨_, rfl, .inl ⟨rfl, _, SqL.of h6h⟩, _, rfl, _, rfl, (k : Int), congrArg V.int ek, t1, _, rfl, h1h, fun Hc tc sc hc => ?_⟩
      rw [cut_to] at hc
      refine ⟨_, rfl, a, _, 1, _, rfl, rfl, sc.seq hSh, at_of (j := 1) rfl g1, _, 256, rfl, rfl, (show (0 : Int) < 256 by decide), one, fun Hd td sd hd => ?_⟩
      refine ⟨tc, td, _, _, rfl, rfl, keepT sd hc, hd, ?_, fun He te se he => ?_⟩
      · exact Nat.le_of_lt (small1000 (by rw [List.length_map, List.length_take]; simp only [List.length_cons, List.length_nil]; omega))
      refine ⟨_, rfl, _, rfl, (k : Int), congrArg V.int ek, t1, _, rfl, keepT (sc.trans (sd.trans se)) h1h, fun Hf tf sf hf => ?_⟩
      rw [cut_from] at hf
      refine ⟨te, tf, _, _, rfl, rfl, keepT sf he, hf, ?_, fun Hi ti si hi => ?_⟩
      · exact Nat.le_of_lt (small1000 (by rw [List.length_append, List.length_map, List.length_map, List.length_take, List.length_drop]; simp only [List.length_cons, List.length_nil]; omega))
      have hi' : SqT K Hi ti ((S.take k ++ [b] ++ S.drop k).map V.int) := by
        rw [List.map_append, List.map_append, eb]
        exact hi
      have shi : Same Hh Hi := sc.trans (sd.trans (se.trans (sf.trans si)))
      have h6i := shi _ _ h6h
      refine ⟨p6, _, _, rfl, rfl, h6i, small1000 (by omega), go _ _ ⟨vh ++ [V.ref ti], _, rfl, upd_same, fun v hv => ?_⟩⟩
      rcases List.mem_append.mp hv with hv | hv
      · exact ((thg v hv).keep shi).over h6i
      · rw [List.mem_singleton.mp hv]
        exact Thing.over ⟨ti, _, rfl, hi', ((bS.take k).app (Byt.one bb)).app (bS.drop k), by rw [List.length_append, List.length_append, List.length_take, List.length_drop]; simp only [List.length_cons, List.length_nil]; omega⟩ h6i

/-! ### the program's deeds -/
theorem deedsF_long : ∀ (f : Nat) (r B : List Int), 1000 < B.length → deedsF f r B = none
  | f, [], B, h => by rw [deedsF_end, if_neg (by omega)]
  | 0, _ :: _, _, _ => rfl
  | f + 1, n :: r, B, h => by
    rw [deedsF]
    split
    · split
      · rfl
      · exact deedsF_long f _ _ (by rw [List.length_append]; omega)
    · split
      · rfl
      · split
        · rfl
        · exact deedsF_long f _ _ (by rw [copyB_len]; omega)
def spWhole (K : PySem.W.Frag) (cB : Addr) : Sp := fun vs H Q E => ∃ (p : Addr) (S : List Int) (n : Int), vs = [.ref p, .int n] ∧ SqT K H p (S.map V.int) ∧ (n ≤ S.length → Q .non H) ∧ ((S.length : Int) < n → E (.ref cB) none H)
theorem ok_whole {f : Addr} {fd : FuncData} (Ev : Env K mg) (Ex : Excs K mg e_BadForm) (F : Fun K "check_whole" "check_whole" sCheckWhole f fd) : FnOk P w K mg base (L2.CX P w) 1 f fd ["some", "behind"] (spWhole K e_BadForm) := by
  refine F.okX scCheckWhole (fun vs H Q E h => ?_) (fun cdv A outer s H vs Q E hr h => ?_)
  · obtain ⟨p, S, n, rfl, _⟩ := h; rfl
  · obtain ⟨p, S, n, rfl, hp, hq, he⟩ := h
    refine ⟨_, (pss_one (ps_if (pt_cmpR op_gt (pv 1) (pe_callB call_len_seq (by rfl) Ev.b_len PySem.boot_len (pa_cons (pv 0) pa_nil)) (nomark _))
        (pss_one (ps_raiseC (W := fun cls d _ H => E cls d H) rfl (takes_of rfl rfl rfl rfl) Ex.BadForm))
        pss_nil)), ?_⟩
    refine ⟨_, rfl, _, rfl, p, _, rfl, .inr hp, _, _, rfl, rfl, _, rfl, ite2 (fun z => ?_) (fun z => ?_)⟩
    · have z' := of_decide_eq_true z
      rw [List.length_map] at z'
      exact he z'
    · have z' : ¬ ((S.map V.int).length : Int) < n := fun y => z (decide_eq_true y)
      rw [List.length_map] at z'
      exact hq (by omega)
def spCopies (K : PySem.W.Frag) (cB : Addr) : Sp := fun vs H Q E => ∃ (b : Addr) (B : List Int) (many back : Nat), vs = [.ref b, .int (many : Int), .int (back : Int)] ∧ H b = some (.lst (B.map V.int)) ∧ 1 ≤ back ∧ many ≤ 1000 ∧ B.length ≤ 2000 ∧ (B.length < back → E (.ref cB) none H) ∧ (back ≤ B.length → ∀ H', But b H H' → H' b = some (.lst ((copyB many back B).map V.int)) → Q .non H')
theorem ok_copies {f : Addr} {fd : FuncData} (Ev : Env K mg) (Ex : Excs K mg e_BadForm) (F : Fun K "add_copies" "add_copies" sAddCopies f fd) : FnOk P w K mg base (L2.CX P w) 1 f fd ["body", "many", "back"] (spCopies K e_BadForm) := by
  refine F.okX scAddCopies (fun vs H Q E h => ?_) (fun cdv A outer s H vs Q E hr h => ?_)
  · obtain ⟨b, B, many, back, rfl, _⟩ := h; rfl
  · obtain ⟨b, B, many, back, rfl, hb, b1, m1, lB, he, hq⟩ := h
    refine ⟨_, (pss_cons (ps_if (pt_cmpR op_gt (pv 2) (pe_callB call_len_seq (by rfl) Ev.b_len PySem.boot_len (pa_cons (pv 0) pa_nil)) (nomark _))
        (pss_one (ps_raiseC (W := fun cls d _ H => E cls d H) rfl (takes_of rfl rfl rfl rfl) Ex.BadForm))
        pss_nil)
      (pss_one (ps_for (passes_of rfl) rfl (pi_range1 (by rfl) Ev.b_range (pa_cons (pv 1) pa_nil)) (pg_name (i := 3) scAddCopies.nd rfl (.inl rfl))
        (pss_one (ps_expr (pe_bm PySem.F.plainAttrs_list PySem.F.slot_list_append PySem.F.type_list_append mt_append (pv 0) (pa_cons (pe_ix ix_list (pv 0) (pe_op op_sub (pe_callB call_len_seq (by rfl) Ev.b_len PySem.boot_len (pa_cons (pv 0) pa_nil)) (pv 2)) (fun _ _ => rfl)) pa_nil))))))), ?_⟩
    refine ⟨_, rfl, _, rfl, b, _, rfl, .inl (SqL.of hb), _, _, rfl, rfl, _, rfl, ite2 (fun z => ?_) (fun z => ?_)⟩
    · have z' := of_decide_eq_true z
      rw [List.length_map] at z'
      exact he (by omega)
    have z' : ¬ ((B.map V.int).length : Int) < (back : Int) := fun y => z (decide_eq_true y)
    rw [List.length_map] at z'
    have le : back ≤ B.length := by omega
    have mx : (many : Int).toNat = many := by omega
    refine ⟨_, rfl, _, rfl, by omega, by omega, for_range (lo := 0) (fun i σ Hx => ∃ y3, σ = [some (.ref b), some (.int (many : Int)), some (.int (back : Int)), y3] ∧ But b H Hx ∧ Hx b = some (.lst ((copyB i back B).map V.int))) ⟨none, rfl, But.refl b H, hb⟩ (fun i σ Hx hi p' => ?_) (fun σ Hx p' => ?_)⟩
    · obtain ⟨y3, rfl, sx, hx⟩ := p'
      have lc : (copyB i back B).length = B.length + i := copyB_len ..
      have ltf : (copyB i back B).length - back < (copyB i back B).length := by omega
      have gi : ((copyB i back B).map V.int)[(copyB i back B).length - back]? = some (.int ((copyB i back B).getD ((copyB i back B).length - back) 0)) := by
        rw [List.getElem?_map, List.getD_eq_getElem?_getD, List.getElem?_eq_getElem ltf]
        rfl
      have ei : (((copyB i back B).map V.int).length : Int) - (back : Int) = (((copyB i back B).length - back : Nat) : Int) := by
        rw [List.length_map]
        omega
      refine ⟨_, rfl, .inl ⟨rfl, _, SqL.of hx⟩, _, rfl, _, rfl, b, _, rfl, .inl (SqL.of hx), _, rfl, _, _, rfl, rfl, b, _, _, _, rfl, rfl, SqL.of hx, at_of ei gi, b, _, _, rfl, rfl, hx, ?_, _, rfl, sx.set, ?_⟩
      · rw [List.length_map, lc, sizeLine_eq]
        omega
      · rw [upd_same, copyB_succ, moreB, List.map_append]
        rfl
    · obtain ⟨y3, rfl, sx, hx⟩ := p'
      exact hq le _ sx hx
def spDeedsP (K : PySem.W.Frag) (cB : Addr) : Sp := fun vs H Q E => ∃ (p : Addr) (S : List Int), vs = [.ref p] ∧ SqT K H p (S.map V.int) ∧ Byt S ∧ S.length ≤ 20000 ∧ OutU K cB H Q E (backF S)
def wDeeds (K : PySem.W.Frag) (H : Hp) (p : Addr) (S : List Int) (m : Nat) (σ : L2.St) (H' : Hp) : Prop :=
  ∃ (k : Nat) (B : List Int) (b : Addr) (y3 : Option V), σ = [some (.ref p), some (.ref b), some (.int (k : Int)), y3] ∧ m = S.length - k ∧ k ≤ S.length ∧ Same H H' ∧ H b = none ∧ H' b = some (.lst (B.map V.int)) ∧ B.length ≤ 1000 ∧ ∃ f, S.length - k ≤ f ∧ deedsF f (S.drop k) B = backF S
theorem ok_deedsP {f : Addr} {fd : FuncData} (Ev : Env K mg) (Ex : Excs K mg e_BadForm) (CCheckWhole : CalX P w K mg base "check_whole" 1 ["some", "behind"] (spWhole K e_BadForm)) (CAddCopies : CalX P w K mg base "add_copies" 1 ["body", "many", "back"] (spCopies K e_BadForm)) (F : Fun K "body_of_deeds" "body_of_deeds" sBodyOfDeeds f fd) : FnOk P w K mg base (L2.CX P w) 2 f fd ["some"] (spDeedsP K e_BadForm) := by
  refine F.okX scBodyOfDeeds (fun vs H Q E h => ?_) (fun cdv A outer s H vs Q E hr h => ?_)
  · obtain ⟨p, S, rfl, _⟩ := h; rfl
  · obtain ⟨p, S, rfl, hp, hb, few, out⟩ := h
    refine ⟨_, (pss_cons (ps_set (i := 1) scBodyOfDeeds.nd rfl (.inl rfl) (pe_lst pa_nil))
      (pss_cons (ps_set (i := 2) scBodyOfDeeds.nd rfl (.inl rfl) pe_int)
      (pss_cons (ps_while (passes_of rfl) (pt_cmpR op_lt (pv 2) (pe_callB call_len_seq (by rfl) Ev.b_len PySem.boot_len (pa_cons (pv 0) pa_nil)) (nomark _))
        (pss_cons (ps_if (pt_cmpR op_lt (pe_ix ix_tup (pv 0) (pv 2) (fun _ _ => rfl)) (pe_globI (by rfl) Ev.g_FIRST_COPY) (nomark _))
          (pss_cons (ps_set (i := 3) scBodyOfDeeds.nd rfl (.inl rfl) (pe_op op_add (pe_op op_add (pv 2) (pe_ix ix_tup (pv 0) (pv 2) (fun _ _ => rfl))) pe_int))
          (pss_cons (ps_expr (pe_cx (E := E) CCheckWhole (hr.mono (by omega)) (takes_of rfl rfl rfl rfl) (pa_cons (pv 0) (pa_cons (pv 3) pa_nil))))
          (pss_one (ps_expr (pe_bm PySem.F.plainAttrs_list PySem.F.slot_list_extend PySem.F.type_list_extend mt_extendT (pv 1) (pa_cons (pe_slice sl_tupU (pv 0) (po_some (pe_op op_add (pv 2) pe_int)) (po_some (pv 3))) pa_nil))))))
          (pss_cons (ps_set (i := 3) scBodyOfDeeds.nd rfl (.inl rfl) (pe_op op_add (pv 2) pe_int))
          (pss_cons (ps_expr (pe_cx (E := E) CCheckWhole (hr.mono (by omega)) (takes_of rfl rfl rfl rfl) (pa_cons (pv 0) (pa_cons (pv 3) pa_nil))))
          (pss_one (ps_expr (pe_cx (E := E) CAddCopies (hr.mono (by omega)) (takes_of rfl rfl rfl rfl) (pa_cons (pv 1) (pa_cons (pe_op op_add (pe_op op_sub (pe_ix ix_tup (pv 0) (pv 2) (fun _ _ => rfl)) (pe_globI (by rfl) Ev.g_FIRST_COPY)) (pe_globI (by rfl) Ev.g_LEAST_COPIED)) (pa_cons (pe_op op_add (pe_ix ix_tup (pv 0) (pe_op op_add (pv 2) pe_int) (fun _ _ => rfl)) pe_int) pa_nil)))))))))
        (pss_cons (ps_if (pt_cmpR op_gt (pe_callB call_len_seq (by rfl) Ev.b_len PySem.boot_len (pa_cons (pv 1) pa_nil)) (pe_globI (by rfl) Ev.g_MOST_OF_BODY) (nomark _))
          (pss_one (ps_raiseC (W := fun cls d _ H => E cls d H) rfl (takes_of rfl rfl rfl rfl) Ex.BadForm))
          pss_nil)
        (pss_one (ps_set (i := 2) scBodyOfDeeds.nd rfl (.inl rfl) (pv 3))))))
      (pss_one (ps_ret (pe_callTy call_tupleU (by rfl) Ev.b_tuple (by decide +kernel) (pa_cons (pv 1) pa_nil))))))), ?_⟩
    have size : ∀ n : Nat, n ≤ 5000 → n ≤ sizeLine := fun n h => by rw [sizeLine_eq]; omega
    refine ⟨Nat.zero_le _, fun b nb => ?_⟩
    refine ⟨wDeeds K H p S, ⟨_, 0, [], b, none, rfl, rfl, Nat.zero_le _, grow nb, nb, upd_same, Nat.zero_le _, S.length, Nat.le_refl _, rfl⟩, fun m σ H' hW => ?_⟩
    obtain ⟨k, B, b, y3, rfl, rfl, lk, sm, nb, h', lB, g, lg, eg⟩ := hW
    have hp' := keepT sm hp
    refine ⟨_, rfl, _, rfl, p, _, rfl, .inr hp', _, _, rfl, rfl, _, rfl, ite2 (fun z => ?_) (fun z => ?_)⟩
    · have lt : k < S.length := by
        have := of_decide_eq_true z
        rw [List.length_map] at this
        omega
      obtain ⟨g', rfl⟩ : ∃ g', g = g' + 1 := ⟨g - 1, by omega⟩
      obtain ⟨n, en⟩ : ∃ n, n = S[k] := ⟨_, rfl⟩
      have bn := hb S[k] (List.getElem_mem lt)
      rw [← en] at bn
      have gk : (S.map V.int)[k]? = some (.int n) := by rw [List.getElem?_map, List.getElem?_eq_getElem lt, en]; rfl
      rw [List.drop_eq_getElem_cons lt, ← en] at eg
      have lr : (S.drop (k + 1)).length = S.length - (k + 1) := List.length_drop ..
      refine ⟨fun σ' H'' => ∃ m', m' < S.length - k ∧ wDeeds K H p S m' σ' H'', fun σ' H'' h => h, ?_⟩
      -- what stands behind the if
      refine seq_by (t := tIfS _ _ _) (fun σ' Hx => ∃ (k' : Nat) (B' : List Int), σ' = [some (.ref p), some (.ref b), some (.int (k : Int)), some (.int (k' : Int))] ∧ k < k' ∧ k' ≤ S.length ∧ B'.length ≤ 2000 ∧ Same H Hx ∧ Hx b = some (.lst (B'.map V.int)) ∧ deedsF g' (S.drop k') B' = backF S) (fun σ' Hx pp => ?_) (fun go => ?_)
      · obtain ⟨k', B', rfl, lk', lk2, lB', sx, hx, ed⟩ := pp
        refine ⟨_, rfl, b, _, rfl, .inl (SqL.of hx), _, _, rfl, rfl, _, rfl, ite2 (fun y => ?_) (fun y => ?_)⟩
        · have y' := of_decide_eq_true y
          rw [List.length_map] at y'
          rw [deedsF_long _ _ _ (by omega)] at ed
          rw [← ed] at out
          exact out _ sx
        · have y' : ¬ (1000 : Int) < ((B'.map V.int).length : Int) := fun v => y (decide_eq_true v)
          rw [List.length_map] at y'
          exact ⟨_, rfl, S.length - k', by omega, k', B', b, _, rfl, rfl, lk2, sx, nb, hx, by omega, g', by omega, ed⟩
      refine ⟨_, rfl, _, rfl, p, _, _, _, rfl, rfl, hp', atI_nat gk, _, _, rfl, rfl, _, rfl, ite2 (fun y => ?_) (fun y => ?_)⟩
      · have small : n ≤ 127 := by
          have : n < 128 := of_decide_eq_true y
          omega
        rw [deedsF_lit small] at eg
        have e2 : (k : Int) + n + 2 = ((k + 1 + (n + 1).toNat : Nat) : Int) := by omega
        refine ⟨_, rfl, _, rfl, _, rfl, p, _, _, _, rfl, rfl, hp', atI_nat gk, _, _, rfl, rfl, _, _, rfl, rfl, ?_⟩
        refine ⟨_, rfl, _, rfl, p, S, _, rfl, hp', fun x' => ?_, fun x' => ?_⟩
        · rw [if_neg (by rw [lr]; omega)] at eg
          refine ⟨_, rfl, .inl ⟨rfl, _, SqL.of h'⟩, _, rfl, _, rfl, _, _, rfl, rfl, _, rfl, _, rfl, _, rfl, p, _, rfl, hp', fun Ha ta sa ha => ?_⟩
          rw [show (k : Int) + 1 = ((k + 1 : Nat) : Int) by omega, e2, cut_mid, Nat.add_sub_cancel_left] at ha
          have lt2 : ((S.drop (k + 1)).take (n + 1).toNat).length ≤ 128 := by
            rw [List.length_take]
            omega
          have hba := sa _ _ h'
          refine ⟨b, ta, _, _, rfl, rfl, hba, ha, ?_, ?_⟩
          · refine size _ ?_
            rw [List.length_map, List.length_map]
            omega
          refine go _ _ ⟨k + 1 + (n + 1).toNat, B ++ (S.drop (k + 1)).take (n + 1).toNat, (by show [_, _, _, some (V.int ((k : Int) + n + 2))] = _; rw [e2]), by omega, by omega, (by rw [List.length_append]; omega), keep_lst (sm.trans sa) nb, ?_, ?_⟩
          · rw [upd_same, List.map_append]
          · rw [← eg, List.drop_drop]
        · rw [if_pos (by rw [lr]; omega)] at eg
          rw [← eg] at out
          exact out _ sm
      · have big : ¬ n ≤ 127 := fun v => y (decide_eq_true (show n < 128 by omega))
        refine ⟨_, rfl, _, _, rfl, rfl, ?_⟩
        refine ⟨_, rfl, _, rfl, p, S, _, rfl, hp', fun x' => ?_, fun x' => ?_⟩
        · have lt1 : k + 1 < S.length := by omega
          obtain ⟨d, ed⟩ : ∃ d, d = S[k + 1] := ⟨_, rfl⟩
          have bd := hb S[k + 1] (List.getElem_mem lt1)
          rw [← ed] at bd
          have gd : (S.map V.int)[k + 1]? = some (.int d) := by rw [List.getElem?_map, List.getElem?_eq_getElem lt1, ed]; rfl
          rw [List.drop_eq_getElem_cons lt1, ← ed, deedsF_back big] at eg
          have e1 : (k : Int) + 1 = ((k + 1 : Nat) : Int) := by omega
          have em : n - 128 + 3 = (((n - 125).toNat : Nat) : Int) := by omega
          have eb : d + 1 = (((d + 1).toNat : Nat) : Int) := by omega
          refine ⟨_, rfl, _, rfl, _, rfl, p, _, _, _, rfl, rfl, hp', atI_nat gk, _, _, rfl, rfl, _, _, rfl, rfl, _, rfl, _, rfl, _, _, rfl, rfl, p, _, _, _, rfl, rfl, hp', at_of e1 gd, _, _, rfl, rfl, ?_⟩
          refine ⟨b, B, (n - 125).toNat, (d + 1).toNat, ?_, h', by omega, by omega, by omega, fun v => ?_, fun v Hx bx hx => ?_⟩
          · show [V.ref b, V.int (n - 128 + 3), V.int (d + 1)] = _
            rw [em, ← eb]
          · rw [if_pos (by omega)] at eg
            rw [← eg] at out
            exact out _ sm
          · rw [if_neg (by omega)] at eg
            exact go _ _ ⟨k + 2, _, (by show [_, _, _, some (V.int ((k : Int) + 2))] = _; rw [show (k : Int) + 2 = ((k + 2 : Nat) : Int) by omega]), by omega, by omega, (by rw [copyB_len]; omega), But.same sm nb bx, hx, eg⟩
        · have nil : S.drop (k + 1) = [] := List.drop_of_length_le (by omega)
          rw [nil, deedsF_cut big] at eg
          rw [← eg] at out
          exact out _ sm
    · have ek : k = S.length := by
        have : ¬ (k : Int) < ((S.map V.int).length : Int) := fun y => z (decide_eq_true y)
        rw [List.length_map] at this
        omega
      have nil : S.drop k = [] := List.drop_of_length_le (by omega)
      rw [nil, deedsF_end, if_pos lB] at eg
      rw [← eg] at out
      exact ⟨_, rfl, b, _, rfl, SqL.of h', fun Hx tx sx hx => out _ _ (sm.trans sx) hx⟩
theorem ok_unp {f : Addr} {fd : FuncData} (Ev : Env K mg) (Ex : Excs K mg e_BadForm) (CBodyOfDeeds : CalX P w K mg base "body_of_deeds" 2 ["some"] (spDeedsP K e_BadForm)) (F : Fun K "unpressed" "unpressed" sUnpressed f fd) : FnOk P w K mg base (L2.CX P w) 3 f fd ["kind", "some"] (spUnp K e_BadForm) := by
  refine F.okX scUnpressed (fun vs H Q E h => ?_) (fun cdv A outer s H vs Q E hr h => ?_)
  · obtain ⟨k, p, S, rfl, _⟩ := h; rfl
  · obtain ⟨k, p, S, rfl, k1, hp, hb, few, out⟩ := h
    refine ⟨_, (pss_cons (ps_if (pt_cmpR op_notIn_seq (pv 0) (pe_globT (by rfl) Ev.g_KINDS) (by rfl))
        (pss_one (ps_raiseC (W := fun cls d _ H => E cls d H) rfl (takes_of rfl rfl rfl rfl) Ex.BadForm))
        pss_nil)
      (pss_cons (ps_if (pt_cmpR op_eq (pv 0) pe_int (nomark _))
        (pss_one (ps_ret (pe_cx (E := E) CBodyOfDeeds (hr.mono (by omega)) (takes_of rfl rfl rfl rfl) (pa_cons (pv 1) pa_nil))))
        pss_nil)
      (pss_cons (ps_if (pt_cmpR op_eq (pv 0) pe_int (nomark _))
        pss_never
        pss_nil)
      (pss_cons (ps_if (pt_cmpR op_gt (pe_callB call_len_seq (by rfl) Ev.b_len PySem.boot_len (pa_cons (pv 1) pa_nil)) (pe_globI (by rfl) Ev.g_MOST_OF_BODY) (nomark _))
        (pss_one (ps_raiseC (W := fun cls d _ H => E cls d H) rfl (takes_of rfl rfl rfl rfl) Ex.BadForm))
        pss_nil)
      (pss_one (ps_ret (pv 1))))))), ?_⟩
    obtain rfl | rfl : k = 0 ∨ k = 1 := by omega
    · refine ⟨_, rfl, fun a ha => ⟨a, _, rfl, .inr (ha _), rfl, rfl, _, rfl, iteF ?_⟩⟩
      refine ⟨_, rfl, rfl, _, rfl, iteF ?_⟩
      refine ⟨_, rfl, rfl, _, rfl, iteF ?_⟩
      refine ⟨_, rfl, p, _, rfl, .inr hp, _, _, rfl, rfl, _, rfl, ite2 (fun y => ?_) (fun y => ?_)⟩
      · have y' := of_decide_eq_true y
        rw [List.length_map] at y'
        unfold unpF at out
        rw [if_pos rfl, if_neg (by omega)] at out
        exact out _ (Same.refl _)
      · have y' : ¬ (1000 : Int) < ((S.map V.int).length : Int) := fun v => y (decide_eq_true v)
        rw [List.length_map] at y'
        unfold unpF at out
        rw [if_pos rfl, if_pos (by omega)] at out
        exact ⟨_, rfl, out _ _ (Same.refl _) hp⟩
    · refine ⟨_, rfl, fun a ha => ⟨a, _, rfl, .inr (ha _), rfl, rfl, _, rfl, iteF ?_⟩⟩
      refine ⟨_, rfl, rfl, _, rfl, iteT ?_⟩
      exact ⟨_, rfl, p, S, rfl, hp, hb, few, out⟩

end
theorem all_mk {l : PySem.W.OpenLaw} {w : World} {K : PySem.W.Frag} {h : Heap} {mg : Str → Option Value} {fa fn0 fn1 fn2 fn3 fn4 fn5 fn6 fn7 fn8 fn9 fn10 fn11 : Addr} (X : K.In h) (G : h.Ns mainGlobals mg) (hfa : mg "law" = some (.ref fa))
    {od0 an0 od1 an1 od2 an2 od3 an3 od4 an4 od5 an5 od6 an6 od7 an7 od8 an8 od9 an9 od10 an10 od11 an11 : Option Addr} {sl0 sl1 sl2 sl3 sl4 sl5 sl6 sl7 sl8 sl9 sl10 sl11 : Array (Option Value)} {oc0 kV0 dc0 pm0 cd0 ct0 oc1 kV1 dc1 pm1 cd1 ct1 oc2 kV2 dc2 pm2 cd2 ct2 oc3 kV3 dc3 pm3 cd3 ct3 oc4 kV4 dc4 pm4 cd4 ct4 oc5 kV5 dc5 pm5 cd5 ct5 oc6 kV6 dc6 pm6 cd6 ct6 oc7 kV7 dc7 pm7 cd7 ct7 oc8 kV8 dc8 pm8 cd8 ct8 oc9 kV9 dc9 pm9 cd9 ct9 oc10 kV10 dc10 pm10 cd10 ct10 oc11 kV11 dc11 pm11 cd11 ct11 : Value} {t_FIRST_COPY : Tok} {at_KINDS : Addr} {dd_KINDS : Option Addr} {nn_KINDS : Nat} {so_KINDS : Array (Option Value)} {t_KINDS0 t_KINDS1 t_KINDS2 : Tok} {t_LEAST_COPIED : Tok} {t_MOST_OF_BODY : Tok} {e_BadForm : Addr}
    (a0 : PySem.W.nsIn K mainGlobals "check_whole" = some (some (.ref fn0))) (l0 : K.lookup fn0 = some ⟨oc0, od0, .func (PySem.W.fnOf "check_whole" "check_whole" (defArgs sCheckWhole) (defBody sCheckWhole) (defScope sCheckWhole) .none kV0 dc0 pm0 an0 cd0 ct0), sl0⟩) (c0 : PySem.W.codeIn K cd0 "check_whole" = true) (k0 : PySem.W.keepIn K (.ref fn0) = true)
    (a1 : PySem.W.nsIn K mainGlobals "add_copies" = some (some (.ref fn1))) (l1 : K.lookup fn1 = some ⟨oc1, od1, .func (PySem.W.fnOf "add_copies" "add_copies" (defArgs sAddCopies) (defBody sAddCopies) (defScope sAddCopies) .none kV1 dc1 pm1 an1 cd1 ct1), sl1⟩) (c1 : PySem.W.codeIn K cd1 "add_copies" = true) (k1 : PySem.W.keepIn K (.ref fn1) = true)
    (a2 : PySem.W.nsIn K mainGlobals "body_of_deeds" = some (some (.ref fn2))) (l2 : K.lookup fn2 = some ⟨oc2, od2, .func (PySem.W.fnOf "body_of_deeds" "body_of_deeds" (defArgs sBodyOfDeeds) (defBody sBodyOfDeeds) (defScope sBodyOfDeeds) .none kV2 dc2 pm2 an2 cd2 ct2), sl2⟩) (c2 : PySem.W.codeIn K cd2 "body_of_deeds" = true) (k2 : PySem.W.keepIn K (.ref fn2) = true)
    (a3 : PySem.W.nsIn K mainGlobals "unpressed" = some (some (.ref fn3))) (l3 : K.lookup fn3 = some ⟨oc3, od3, .func (PySem.W.fnOf "unpressed" "unpressed" (defArgs sUnpressed) (defBody sUnpressed) (defScope sUnpressed) .none kV3 dc3 pm3 an3 cd3 ct3), sl3⟩) (c3 : PySem.W.codeIn K cd3 "unpressed" = true) (k3 : PySem.W.keepIn K (.ref fn3) = true)
    (a4 : PySem.W.nsIn K mainGlobals "_law_d" = some (some (.ref fn4))) (l4 : K.lookup fn4 = some ⟨oc4, od4, .func (PySem.W.fnOf "_law_d" "_law_d" (defArgs sLawD) (defBody sLawD) (defScope sLawD) .none kV4 dc4 pm4 an4 cd4 ct4), sl4⟩) (c4 : PySem.W.codeIn K cd4 "_law_d" = true) (k4 : PySem.W.keepIn K (.ref fn4) = true)
    (a5 : PySem.W.nsIn K mainGlobals "_law_same" = some (some (.ref fn5))) (l5 : K.lookup fn5 = some ⟨oc5, od5, .func (PySem.W.fnOf "_law_same" "_law_same" (defArgs sLawSame) (defBody sLawSame) (defScope sLawSame) .none kV5 dc5 pm5 an5 cd5 ct5), sl5⟩) (c5 : PySem.W.codeIn K cd5 "_law_same" = true) (k5 : PySem.W.keepIn K (.ref fn5) = true)
    (a6 : PySem.W.nsIn K mainGlobals "_law_mix" = some (some (.ref fn6))) (l6 : K.lookup fn6 = some ⟨oc6, od6, .func (PySem.W.fnOf "_law_mix" "_law_mix" (defArgs sLawMix) (defBody sLawMix) (defScope sLawMix) .none kV6 dc6 pm6 an6 cd6 ct6), sl6⟩) (c6 : PySem.W.codeIn K cd6 "_law_mix" = true) (k6 : PySem.W.keepIn K (.ref fn6) = true)
    (a7 : PySem.W.nsIn K mainGlobals "_law_back" = some (some (.ref fn7))) (l7 : K.lookup fn7 = some ⟨oc7, od7, .func (PySem.W.fnOf "_law_back" "_law_back" (defArgs sLawBack) (defBody sLawBack) (defScope sLawBack) .none kV7 dc7 pm7 an7 cd7 ct7), sl7⟩) (c7 : PySem.W.codeIn K cd7 "_law_back" = true) (k7 : PySem.W.keepIn K (.ref fn7) = true)
    (a8 : PySem.W.nsIn K mainGlobals "_law_told" = some (some (.ref fn8))) (l8 : K.lookup fn8 = some ⟨oc8, od8, .func (PySem.W.fnOf "_law_told" "_law_told" (defArgs sLawTold) (defBody sLawTold) (defScope sLawTold) .none kV8 dc8 pm8 an8 cd8 ct8), sl8⟩) (c8 : PySem.W.codeIn K cd8 "_law_told" = true) (k8 : PySem.W.keepIn K (.ref fn8) = true)
    (a9 : PySem.W.nsIn K mainGlobals "_law_deeds" = some (some (.ref fn9))) (l9 : K.lookup fn9 = some ⟨oc9, od9, .func (PySem.W.fnOf "_law_deeds" "_law_deeds" (defArgs sLawDeeds) (defBody sLawDeeds) (defScope sLawDeeds) .none kV9 dc9 pm9 an9 cd9 ct9), sl9⟩) (c9 : PySem.W.codeIn K cd9 "_law_deeds" = true) (k9 : PySem.W.keepIn K (.ref fn9) = true)
    (a10 : PySem.W.nsIn K mainGlobals "_law_or" = some (some (.ref fn10))) (l10 : K.lookup fn10 = some ⟨oc10, od10, .func (PySem.W.fnOf "_law_or" "_law_or" (defArgs sLawOr) (defBody sLawOr) (defScope sLawOr) .none kV10 dc10 pm10 an10 cd10 ct10), sl10⟩) (c10 : PySem.W.codeIn K cd10 "_law_or" = true) (k10 : PySem.W.keepIn K (.ref fn10) = true)
    (a11 : PySem.W.nsIn K mainGlobals "law" = some (some (.ref fn11))) (l11 : K.lookup fn11 = some ⟨oc11, od11, .func (PySem.W.fnOf "law" "law" (defArgs sLaw) (defBody sLaw) (defScope sLaw) .none kV11 dc11 pm11 an11 cd11 ct11), sl11⟩) (c11 : PySem.W.codeIn K cd11 "law" = true) (k11 : PySem.W.keepIn K (.ref fn11) = true)
    (z_all : PySem.W.nsIn K mainGlobals "all" = some none)
    (z_bool : PySem.W.nsIn K mainGlobals "bool" = some none)
    (z_int : PySem.W.nsIn K mainGlobals "int" = some none)
    (z_isinstance : PySem.W.nsIn K mainGlobals "isinstance" = some none)
    (z_len : PySem.W.nsIn K mainGlobals "len" = some none)
    (z_min : PySem.W.nsIn K mainGlobals "min" = some none)
    (z_range : PySem.W.nsIn K mainGlobals "range" = some none)
    (z_str : PySem.W.nsIn K mainGlobals "str" = some none)
    (z_tuple : PySem.W.nsIn K mainGlobals "tuple" = some none)
    (z_zip : PySem.W.nsIn K mainGlobals "zip" = some none)
    (g_FIRST_COPY : PySem.W.nsIn K mainGlobals "FIRST_COPY" = some (some (.int 128 t_FIRST_COPY)))
    (g_KINDS : PySem.W.nsIn K mainGlobals "KINDS" = some (some (.ref at_KINDS))) (h_KINDS : K.lookup at_KINDS = some ⟨.type "tuple", dd_KINDS, .seq #[.int 0 t_KINDS0, .int 1 t_KINDS1, .int 2 t_KINDS2] nn_KINDS, so_KINDS⟩)
    (g_LEAST_COPIED : PySem.W.nsIn K mainGlobals "LEAST_COPIED" = some (some (.int 3 t_LEAST_COPIED)))
    (g_MOST_OF_BODY : PySem.W.nsIn K mainGlobals "MOST_OF_BODY" = some (some (.int 1000 t_MOST_OF_BODY)))
    (ea_BadForm : PySem.W.nsIn K mainGlobals "BadForm" = some (some (.ref e_BadForm))) (ex_BadForm : PySem.W.excIn K e_BadForm veMro "ValueError.__new__" = true) (ek_BadForm : PySem.W.keepIn K (.ref e_BadForm) = true) (es_BadForm : PySem.W.subIn K (.ref e_BadForm) (.type "BaseException") = some true) (et_BadForm : PySem.W.typeIn K (.ref e_BadForm) = some (.type "type")) (ei_BadForm : PySem.W.isClsIn K e_BadForm = true)
    (ep_BadForm_BadForm : PySem.W.subIn K (.ref e_BadForm) (.ref e_BadForm) = some true) :
    ∃ fd : FuncData, (∀ (s : Shared) (v : Value), BindsTo s fd ⟨[v], []⟩ [("_law_script", v)]) ∧ ∀ base : Heap, K.In base → base.Ns mainGlobals mg → FnOk l.prog w K mg base CX0 6 fa fd ["_law_script"] (spLaw K) := by
  have e := hfa.symm.trans (PySem.W.mg_of X G a11)
  cases e
  have Ev : Env K mg := ⟨PySem.W.mg_none_of X G z_all, PySem.W.mg_none_of X G z_bool, PySem.W.mg_none_of X G z_int, PySem.W.mg_none_of X G z_isinstance, PySem.W.mg_none_of X G z_len, PySem.W.mg_none_of X G z_min, PySem.W.mg_none_of X G z_range, PySem.W.mg_none_of X G z_str, PySem.W.mg_none_of X G z_tuple, PySem.W.mg_none_of X G z_zip, ⟨_, PySem.W.mg_of X G g_FIRST_COPY⟩, ⟨_, PySem.W.mg_of X G g_KINDS, fun _ => .inr ⟨_, _, _, h_KINDS, rfl, rfl, (show 3 ≤ sizeLine by rw [sizeLine_eq]; decide), (.cons ⟨_, rfl⟩ (.cons ⟨_, rfl⟩ (.cons ⟨_, rfl⟩ .nil)))⟩⟩, ⟨_, PySem.W.mg_of X G g_LEAST_COPIED⟩, ⟨_, PySem.W.mg_of X G g_MOST_OF_BODY⟩⟩
  have X_BadForm : Exc K mg "BadForm" e_BadForm := ⟨PySem.W.mg_of X G ea_BadForm, ex_BadForm, ek_BadForm, es_BadForm, et_BadForm, ei_BadForm⟩
  have Ex : Excs K mg e_BadForm := ⟨X_BadForm, caught X_BadForm ep_BadForm_BadForm⟩
  have F0 := fun_mk (st := sCheckWhole) l0 c0 k0
  have F1 := fun_mk (st := sAddCopies) l1 c1 k1
  have F2 := fun_mk (st := sBodyOfDeeds) l2 c2 k2
  have F3 := fun_mk (st := sUnpressed) l3 c3 k3
  have F4 := fun_mk (st := sLawD) l4 c4 k4
  have F5 := fun_mk (st := sLawSame) l5 c5 k5
  have F6 := fun_mk (st := sLawMix) l6 c6 k6
  have F7 := fun_mk (st := sLawBack) l7 c7 k7
  have F8 := fun_mk (st := sLawTold) l8 c8 k8
  have F9 := fun_mk (st := sLawDeeds) l9 c9 k9
  have F10 := fun_mk (st := sLawOr) l10 c10 k10
  have F11 := fun_mk (st := sLaw) l11 c11 k11
  refine ⟨PySem.W.fnOf "law" "law" (defArgs sLaw) (defBody sLaw) (defScope sLaw) .none kV11 dc11 pm11 an11 cd11 ct11, fun s v => .of_eq rfl, fun base _ _ => ?_⟩
  have C_0 : CalX l.prog w K mg base "check_whole" 1 ["some", "behind"] (spWhole K e_BadForm) := ⟨_, _, ok_whole Ev Ex  F0, PySem.W.mg_of X G a0, k0, F0.binds fun _ _ _ _ _ _ us hl => match us, hl with | [_, _], _ => rfl⟩
  have C_1 : CalX l.prog w K mg base "add_copies" 1 ["body", "many", "back"] (spCopies K e_BadForm) := ⟨_, _, ok_copies Ev Ex  F1, PySem.W.mg_of X G a1, k1, F1.binds fun _ _ _ _ _ _ us hl => match us, hl with | [_, _, _], _ => rfl⟩
  have C_2 : CalX l.prog w K mg base "body_of_deeds" 2 ["some"] (spDeedsP K e_BadForm) := ⟨_, _, ok_deedsP Ev Ex C_0 C_1 F2, PySem.W.mg_of X G a2, k2, F2.binds fun _ _ _ _ _ _ us hl => match us, hl with | [_], _ => rfl⟩
  have C_3 : CalX l.prog w K mg base "unpressed" 3 ["kind", "some"] (spUnp K e_BadForm) := ⟨_, _, ok_unp Ev Ex C_2 F3, PySem.W.mg_of X G a3, k3, F3.binds fun _ _ _ _ _ _ us hl => match us, hl with | [_, _], _ => rfl⟩
  have C_4 : Cal l.prog w K mg base "_law_d" 1 ["_law_cell", "_law_place", "_law_many"] spD := ⟨_, _, ok_d Ev  F4, PySem.W.mg_of X G a4, k4, F4.binds fun _ _ _ _ _ _ us hl => match us, hl with | [_, _, _], _ => rfl⟩
  have C_5 : Cal l.prog w K mg base "_law_same" 2 ["_law_told_here", "_law_due"] (spSameD K 1) := ⟨_, _, ok_sameD Ev F5 (PySem.W.mg_of X G a5) (F5.binds fun _ _ _ _ _ _ us hl => match us, hl with | [_, _], _ => rfl) 1, PySem.W.mg_of X G a5, k5, F5.binds fun _ _ _ _ _ _ us hl => match us, hl with | [_, _], _ => rfl⟩
  have C_6 : Cal l.prog w K mg base "_law_mix" 1 ["_law_cell", "_law_prime", "_law_many"] spMix := ⟨_, _, ok_mix Ev  F6, PySem.W.mg_of X G a6, k6, F6.binds fun _ _ _ _ _ _ us hl => match us, hl with | [_, _, _], _ => rfl⟩
  have C_7 : Cal l.prog w K mg base "_law_back" 1 ["_law_some"] (spBack K) := ⟨_, _, ok_back Ev  F7, PySem.W.mg_of X G a7, k7, F7.binds fun _ _ _ _ _ _ us hl => match us, hl with | [_], _ => rfl⟩
  have C_8 : Cal l.prog w K mg base "_law_told" 4 ["_law_kind", "_law_some"] (spTold K) := ⟨_, _, ok_told Ev Ex C_3 F8, PySem.W.mg_of X G a8, k8, F8.binds fun _ _ _ _ _ _ us hl => match us, hl with | [_, _], _ => rfl⟩
  have C_9 : Cal l.prog w K mg base "_law_deeds" 2 ["_law_script"] (spDeeds K) := ⟨_, _, ok_deeds Ev C_4 C_6 F9, PySem.W.mg_of X G a9, k9, F9.binds fun _ _ _ _ _ _ us hl => match us, hl with | [_], _ => rfl⟩
  have C_10 : Cal l.prog w K mg base "_law_or" 1 ["_law_due"] (spOr K) := ⟨_, _, ok_or Ev  F10, PySem.W.mg_of X G a10, k10, F10.binds fun _ _ _ _ _ _ us hl => match us, hl with | [_], _ => rfl⟩
  exact ok_law Ev C_3 C_9 C_5 C_8 C_10 C_7 F11
end Fc
open PySem PySem.W PyProof.Rows
set_option maxHeartbeats 0 in
theorem PySem.Challenge.cw_filecrate_k08_whole_deeds_read_holds : PySem.Challenge.rw_filecrate_k08_whole_deeds_read.Holds := by
  w_on; o_law; k_head; (case hw => w_witness2)
  k_fill
  refine L2.walk_of (l := PySem.Challenge.rw_filecrate_k08_whole_deeds_read) (n := 63) (k := 6) (x := "_law_script") (CX := fun _ => L2.CX0) (sp := fun w => Fc.spLaw _) rfl (by decide) rfl ⟨rfl, by decide, by decide⟩ (fun w h Y => PySem.W.kIn_of Y) ?F (fun _ _ a ns hl _ hS => ⟨a, ns, rfl, hS, hl, fun _ => rfl⟩) (fun _ _ _ _ _ h => h)
  case F =>
    intro w mg fa h KX G hmg
    refine' Fc.all_mk KX G hmg ?a0 ?l0 ?c0 ?k0 ?a1 ?l1 ?c1 ?k1 ?a2 ?l2 ?c2 ?k2 ?a3 ?l3 ?c3 ?k3 ?a4 ?l4 ?c4 ?k4 ?a5 ?l5 ?c5 ?k5 ?a6 ?l6 ?c6 ?k6 ?a7 ?l7 ?c7 ?k7 ?a8 ?l8 ?c8 ?k8 ?a9 ?l9 ?c9 ?k9 ?a10 ?l10 ?c10 ?k10 ?a11 ?l11 ?c11 ?k11 ?z_all ?z_bool ?z_int ?z_isinstance ?z_len ?z_min ?z_range ?z_str ?z_tuple ?z_zip ?g_FIRST_COPY ?g_KINDS ?h_KINDS ?g_LEAST_COPIED ?g_MOST_OF_BODY ?ea_BadForm ?ex_BadForm ?ek_BadForm ?es_BadForm ?et_BadForm ?ei_BadForm ?ep_BadForm_BadForm
    (case a0 => k_is); (case l0 => k_is); (case c0 => k_is); (case k0 => k_is); (case a1 => k_is); (case l1 => k_is); (case c1 => k_is); (case k1 => k_is); (case a2 => k_is); (case l2 => k_is); (case c2 => k_is); (case k2 => k_is); (case a3 => k_is); (case l3 => k_is); (case c3 => k_is); (case k3 => k_is); (case a4 => k_is); (case l4 => k_is); (case c4 => k_is); (case k4 => k_is); (case a5 => k_is); (case l5 => k_is); (case c5 => k_is); (case k5 => k_is); (case a6 => k_is); (case l6 => k_is); (case c6 => k_is); (case k6 => k_is); (case a7 => k_is); (case l7 => k_is); (case c7 => k_is); (case k7 => k_is); (case a8 => k_is); (case l8 => k_is); (case c8 => k_is); (case k8 => k_is); (case a9 => k_is); (case l9 => k_is); (case c9 => k_is); (case k9 => k_is); (case a10 => k_is); (case l10 => k_is); (case c10 => k_is); (case k10 => k_is); (case a11 => k_is); (case l11 => k_is); (case c11 => k_is); (case k11 => k_is); (case z_all => k_is); (case z_bool => k_is); (case z_int => k_is); (case z_isinstance => k_is); (case z_len => k_is); (case z_min => k_is); (case z_range => k_is); (case z_str => k_is); (case z_tuple => k_is); (case z_zip => k_is); (case g_FIRST_COPY => k_is); (case g_KINDS => k_is); (case h_KINDS => k_is); (case g_LEAST_COPIED => k_is); (case g_MOST_OF_BODY => k_is); (case ea_BadForm => k_is); (case ex_BadForm => k_exc); (case ek_BadForm => k_is); (case es_BadForm => k_is); (case et_BadForm => k_is); (case ei_BadForm => k_is); (case ep_BadForm_BadForm => first | rfl | k_is)
