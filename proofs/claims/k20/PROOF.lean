import PyProof.Rows.All
import Wide.All
import OpenK.AllK
import Wide.FinOn
import HandS.ForMost
import HandS.IsInst
import HandS.TupAny
import HandS.TupMul
import HandS.Zip
import HandS.Style
import HandS.ForExc
import HandS.TryMany
import HandS.Flow
import HandS.More
import HandS.DictComp
import HandS.FStr
import PySem.Challenge.RW_filecrate_k20_whole_ways_over_links
set_option Elab.async false
set_option linter.all false
set_option maxRecDepth 100000
set_option maxHeartbeats 4000000
namespace Fc
open PySem PySem.Spec PyProof.Rows L2

/-! ### heaps that only grow -/
theorem grow {H : Hp} {p : Addr} {o : HO} (n : H p = none) : Same H (upd H p o) := by
  intro b u e
  have hb : b ≠ p := ne_of_none e n
  rw [upd_ne hb, e]
theorem keepT {K : PySem.W.Frag} {H H' : Hp} {a : Addr} {xs : List V} (e : Same H H') (h : SqT K H a xs) : SqT K H' a xs := by
  rcases h with (h | ⟨o, h⟩) | h
  · left; left; exact e a _ h
  · left; right; exact ⟨o, e a _ h⟩
  · right; exact h
/-- behind it a tuple of these, and all that stood -/
def Tups (K : PySem.W.Frag) (H : Hp) (xs : List V) (Q : VK) : Prop := ∀ H' p, Same H H' → SqT K H' p xs → Q (.ref p) H'
theorem Tups.new {K : PySem.W.Frag} {H : Hp} {xs : List V} {Q : VK} (h : Tups K H xs Q) {p : Addr} (n : H p = none) : Q (.ref p) (upd H p (.tup xs)) := h _ _ (grow n) (SqT.of upd_same)
theorem Tups.old {K : PySem.W.Frag} {H : Hp} {xs ys : List V} {Q : VK} (h : Tups K H xs Q) {p : Addr} (e : SqT K H p ys) (eq : ys = xs) : Q (.ref p) H := by
  subst eq
  exact h _ _ (Same.refl H) e
theorem PEweak {X : Cx} {e : Expr} {t u : TE} (h : PE X e t) (w : ∀ σ H Q, u σ H Q → t σ H Q) : PE X e u := ⟨fun pins s σ H Q I q => h.run pins s σ H Q I (w σ H Q q)⟩
def upA (t : TA) : TA := fun σ H Q => ∃ R, t σ H R ∧ ∀ vs H', R vs H' → Q vs H'
theorem PAup {X : Cx} {es : List Expr} {t : TA} (h : PA X es t) : PA X es (upA t) := ⟨fun ps pins s σ H Q I q => by
  obtain ⟨R, q1, q2⟩ := q
  refine thn (h.run ps pins s σ H R I q1) fun us s' ⟨vs, H', I', r, k⟩ => ⟨vs, H', I', r, q2 _ _ k⟩⟩

/-! ### rules whose reading says Tups -/
section
variable {X : Cx}
def rCatU (K : PySem.W.Frag) : R2 := fun x y H Q => ∃ a b xs ys, x = .ref a ∧ y = .ref b ∧ SqT K H a xs ∧ SqT K H b ys ∧ xs.length + ys.length ≤ sizeLine ∧ Tups K H (xs ++ ys) Q
theorem op_catU : OpR X (binaryOp .Add) (rCatU X.K) := by
  intro pins s σ H x y v u Q I rx ry h
  obtain ⟨a, b, xs, ys, rfl, rfl, ha, hb, hz, q⟩ := h
  refine op_catA pins s σ H _ _ v u Q I rx ry ⟨a, b, xs, ys, rfl, rfl, ha, hb, hz, fun e => ?_, fun _ e => ?_, fun _ _ p n => q.new n⟩
  · subst e; exact q.old hb rfl
  · subst e; exact q.old ha (List.append_nil xs).symm
def rSlU (K : PySem.W.Frag) : V → Option Int → Option Int → Hp → VK → Prop := fun x lo hi H Q => ∃ a xs, x = .ref a ∧ SqT K H a xs ∧ Tups K H (cutV xs lo hi) Q
theorem sl_tupU : SlR X (rSlU X.K) := by
  intro pins s σ H x v vl vu lo hi sl Q I rx hs pl pu h
  obtain ⟨a, xs, rfl, hx, q⟩ := h
  refine sl_tupA pins s σ H _ v vl vu lo hi sl Q I rx hs pl pu ⟨a, xs, rfl, hx, fun e => q.old hx ?_, fun _ p n => q.new n⟩
  unfold cutV
  rw [e.1, e.2, List.drop_zero, Nat.sub_zero, List.take_length]
def tTupU (K : PySem.W.Frag) (t : TA) : TE := fun σ H Q => t σ H fun xs H1 => xs.length ≤ sizeLine ∧ Tups K H1 xs Q
theorem pe_tupU {es : List Expr} {x1 : Nat} {pos : Pos} {t : TA} (h : PA X es t) : PE X (.Tuple es x1 pos) (tTupU X.K t) :=
  PEweak (pe_tup (PAup h)) fun σ H Q q => ⟨_, q, fun vs H' k => ⟨k.1, fun p n => k.2.new n⟩⟩
theorem call_divmodU : CallR X (.builtin "divmod") (fun xs H Q => ∃ i j, xs = [.int i, .int j] ∧ CDiv i j ∧ Tups X.K H [.int (i / j), .int (i % j)] Q) := by
  intro pins s σ H xs us Q I r h
  obtain ⟨i, j, e, c, q⟩ := h
  exact call_divmod pins s σ H xs us Q I r ⟨i, j, e, c, fun p n => q.new n⟩
theorem call_tupleU : CallR X (.type "tuple") (fun xs H Q => ∃ p ys, xs = [.ref p] ∧ SqL X.K H p ys ∧ Tups X.K H ys Q) := by
  intro pins s σ H xs us Q I r h
  obtain ⟨p, ys, e, hp, q⟩ := h
  exact call_tuple_of pins s σ H xs us Q I r ⟨p, ys, e, .inl ⟨hp, fun l n => q.new n⟩⟩
theorem pe_globI {x : Str} {n : Int} {pos : Pos} (hg : Gl X x) (h : ∃ t, X.mg x = some (.int n t)) (hd : (x == ("__debug__" : Str)) = false := by decide) : PE X (.Name x pos) (tC (.int n)) := by
  obtain ⟨t, e⟩ := h
  exact pe_glob hg e ⟨t, rfl⟩ hd
def tGT (K : PySem.W.Frag) (xs : List V) : TE := fun _ H Q => ∀ a, (∀ H', SqT K H' a xs) → Q (.ref a) H
theorem pe_globT {x : Str} {xs : List V} {pos : Pos} (hg : Gl X x) (h : ∃ a, X.mg x = some (.ref a) ∧ ∀ H', SqT X.K H' a xs) (hd : (x == ("__debug__" : Str)) = false := by decide) : PE X (.Name x pos) (tGT X.K xs) := by
  obtain ⟨a, e, q⟩ := h
  exact PEweak (pe_glob (v := .ref a) hg e rfl hd) fun σ H Q k => k a q
theorem pe_btype {x : Str} {n : String} {pos : Pos} (hg : Gl X x) (hm : X.mg x = none) (hv : bootBuiltins x = some (.type n)) (hn : x ≠ "__name__" := by decide) (hd : (x == ("__debug__" : Str)) = false := by decide) : PE X (.Name x pos) (tC (.ty n)) := pe_bltn hg hm hv rfl hn hd
end

/-! ### a def that is called -/
structure Cal (P : Program) (w : World) (K : PySem.W.Frag) (mg : Str → Option Value) (base : Heap) (x : Str) (k : Nat) (ps : List Str) (sp : Sp) : Prop where
  ex : ∃ f fd, FnOk P w K mg base CX0 k f fd ps sp ∧ mg x = some (.ref f) ∧ PySem.W.keepIn K (.ref f) = true ∧ Binds K fd ps []
theorem pe_c {X : Cx} {x : Str} {k : Nat} {ps : List Str} {sp : Sp} {p pos : Pos} {e : Expr} {es : List Expr} {t : TA} (C : Cal X.prog X.w X.K X.mg X.base x k ps sp) (hr : Room k X.A) (ha : PA X (e :: es) t) (hg : Gl X x := by rfl) (hdb : (x == ("__debug__" : Str)) = false := by decide)
    (he : starEach (e :: es) X.env = (false, eval e X.env) :: starEach es X.env := by rfl) (hpl : (backTo pos (starEach es X.env)).any (·.1) = false := by rfl) : PE X (.Call (.Name x p) (e :: es) [] pos) (tCall sp [] E0 t) := by
  obtain ⟨f, fd, F, m, kp, b⟩ := C.ex
  exact pe_call F hr hg m kp b .nil pass0 ha hdb he hpl

/-! ### joining ways -/
theorem seq_by {t u : TS} {D : Ends} {σ : L2.St} {H : Hp} (P : L2.St → Hp → Prop) (h2 : ∀ σ H, P σ H → u D σ H) (h1 : (∀ σ H, P σ H → u D σ H) → t { D with nx := u D } σ H) : tSeq t u D σ H := h1 h2

theorem seq_c {v : V} {i : Nat} {u : TS} {D : Ends} {σ : L2.St} {H : Hp} (h : u D (σ.set i (some v)) H) : tSeq (tAsg (tC v) (gName i)) u D σ H := h

theorem if_by {c : TT} {a b : TS} {D : Ends} {σ : L2.St} {H : Hp} (PY : Prop) (hX : a D σ H) (hY : PY → b D σ H) (hc : (∀ k : Bool, (k = false → PY) → if k = true then a D σ H else b D σ H) → c σ H fun k H1 => if k = true then a D σ H1 else b D σ H1) : tIfS c a b D σ H := hc (fun k h => by
  cases k with
  | true => rw [if_pos rfl]; exact hX
  | false => rw [if_neg Bool.false_ne_true]; exact hY (h rfl))

theorem if_by2 {c : TT} {a b : TS} {D : Ends} {σ : L2.St} {H : Hp} (PX PY : Prop) (hX : PX → a D σ H) (hY : PY → b D σ H) (hc : (∀ k : Bool, (k = true → PX) → (k = false → PY) → if k = true then a D σ H else b D σ H) → c σ H fun k H1 => if k = true then a D σ H1 else b D σ H1) : tIfS c a b D σ H := hc (fun k hx h => by
  cases k with
  | true => rw [if_pos rfl]; exact hX (hx rfl)
  | false => rw [if_neg Bool.false_ne_true]; exact hY (h rfl))

theorem seq_if2 {c : TT} {a b u : TS} {D : Ends} {σ : L2.St} {H : Hp} (PX PY : Prop) (hX : PX → a { D with nx := u D } σ H) (hY : PY → b { D with nx := u D } σ H) (hc : (∀ k : Bool, (k = true → PX) → (k = false → PY) → if k = true then a { D with nx := u D } σ H else b { D with nx := u D } σ H) → c σ H fun k H1 => if k = true then a { D with nx := u D } σ H1 else b { D with nx := u D } σ H1) : tSeq (tIfS c a b) u D σ H := if_by2 PX PY hX hY hc

/-! ### isinstance -/
theorem k_ii {K : PySem.W.Frag} : PySem.W.kitOne K (.type "int") (.type "int") = some true := kit_ty (by decide +kernel)
theorem k_ib {K : PySem.W.Frag} : PySem.W.kitOne K (.type "int") (.type "bool") = some false := kit_ty (by decide +kernel)
theorem k_it {K : PySem.W.Frag} : PySem.W.kitOne K (.type "int") (.type "tuple") = some false := kit_ty (by decide +kernel)
theorem k_is' {K : PySem.W.Frag} : PySem.W.kitOne K (.type "int") (.type "str") = some false := kit_ty (by decide +kernel)
theorem k_tb {K : PySem.W.Frag} : PySem.W.kitOne K (.type "tuple") (.type "bool") = some false := kit_ty (by decide +kernel)
theorem k_tt {K : PySem.W.Frag} : PySem.W.kitOne K (.type "tuple") (.type "tuple") = some true := kit_ty (by decide +kernel)
theorem k_bb {K : PySem.W.Frag} : PySem.W.kitOne K (.type "bool") (.type "bool") = some true := kit_ty (by decide +kernel)
theorem k_sb {K : PySem.W.Frag} : PySem.W.kitOne K (.type "str") (.type "bool") = some false := kit_ty (by decide +kernel)
theorem k_st {K : PySem.W.Frag} : PySem.W.kitOne K (.type "str") (.type "tuple") = some false := kit_ty (by decide +kernel)
theorem k_ss {K : PySem.W.Frag} : PySem.W.kitOne K (.type "str") (.type "str") = some true := kit_ty (by decide +kernel)
theorem ty_tup {K : PySem.W.Frag} {H : Hp} {a : Addr} {xs : List V} (h : SqT K H a xs) : TyX K H (.ref a) (.type "tuple") := by
  rcases h with (h | ⟨o, h⟩) | ⟨o, its, n, h, c, _⟩
  · exact .base (.tup h)
  · exact .fTuple h
  · exact .kTuple h c

/-! ### cuts of whole numbers -/
theorem cut_to (ns : List Int) (k : Nat) : cutV (ns.map V.int) none (some (k : Int)) = (ns.take k).map V.int := by
  unfold cutV
  rw [HT.sIx_none, HT.sIx_nat, List.drop_zero, Nat.sub_zero, List.length_map, List.map_take]
  by_cases h : k ≤ ns.length
  · rw [Nat.min_eq_left h]
  · have h' : ns.length ≤ k := by omega
    rw [Nat.min_eq_right h', List.take_of_length_le (by rw [List.length_map]; omega), List.take_of_length_le (by rw [List.length_map]; omega)]
theorem cut_from (ns : List Int) (k : Nat) : cutV (ns.map V.int) (some (k : Int)) none = (ns.drop k).map V.int := by
  unfold cutV
  rw [HT.sIx_none, HT.sIx_nat, List.length_map, List.map_drop]
  by_cases h : k ≤ ns.length
  · rw [Nat.min_eq_left h]
    exact List.take_of_length_le (by rw [List.length_drop, List.length_map]; omega)
  · have h' : ns.length ≤ k := by omega
    rw [Nat.min_eq_right h', List.drop_of_length_le (by rw [List.length_map]; omega), List.drop_of_length_le (by rw [List.length_map]; omega), List.take_nil]
theorem cut_mid (ns : List Int) (i j : Nat) : cutV (ns.map V.int) (some (i : Int)) (some (j : Int)) = ((ns.drop i).take (j - i)).map V.int := by
  unfold cutV
  rw [HT.sIx_nat, HT.sIx_nat, List.length_map, List.map_take, List.map_drop]
  by_cases h : i ≤ ns.length
  · rw [Nat.min_eq_left h]
    by_cases g : j ≤ ns.length
    · rw [Nat.min_eq_left g]
    · have g' : ns.length ≤ j := by omega
      rw [Nat.min_eq_right g', List.take_of_length_le (by rw [List.length_drop, List.length_map]; omega), List.take_of_length_le (by rw [List.length_drop, List.length_map]; omega)]
  · have h' : ns.length ≤ i := by omega
    rw [Nat.min_eq_right h', List.drop_of_length_le (by rw [List.length_map]; omega), List.drop_of_length_le (by rw [List.length_map]; omega), List.take_nil, List.take_nil]

/-! ### a comprehension whose items are told by a row -/
theorem lc_row {K : PySem.W.Frag} {a : Addr} {xs ys : List V} {te : TE} {vs : List Nat} {σ : L2.St} {H1 : Hp} {D : Addr} {j : Nat} {Qd : Hp → Prop} (nD : H1 D = none) (hs : SqL K H1 a xs) (hy : ys.length = xs.length) (hz : xs.length ≤ sizeLine)
    (hw : ∀ x, wipe ((wipe σ vs).set j (some x)) vs = wipe σ vs)
    (turn : ∀ (i : Nat) (x y : V) (H : Hp) (R : V → Hp → Prop), xs[i]? = some x → ys[i]? = some y → Same H1 H → (∀ H', Same H H' → R y H') → te ((wipe σ vs).set j (some x)) H R) (hd : ∀ H', Same H1 H' → H' D = some (.lst ys) → Qd H') :
    ∃ W : Nat → Nat → Hp → Prop, (∃ m, W 0 m (upd H1 D (.lst []))) ∧ ∀ i m H, W i m H →
      ((Itl K a).stop i H ∧ Qd H) ∨ ((Itl K a).go i H ∧ ∃ Nx : Hp → Prop, (∀ H', Nx H' → ∃ m', m' < m ∧ W (i + 1) m' H') ∧ ∀ x H', (Itl K a).yld i H x H' → gName j x (wipe σ vs) H' fun σ2 H2 => wipe σ2 vs = wipe σ vs ∧ tYes σ2 H2 fun b H3 =>
        if b = true then te σ2 H3 fun y H4 => ∃ acc, H4 D = some (.lst acc) ∧ acc.length < sizeLine ∧ Nx (upd H4 D (.lst (acc ++ [y]))) else Nx H3) := by
  refine lc_list (xs := xs) (fun i H => Same H1 H ∧ H D = some (.lst (ys.take i))) ⟨grow nD, upd_same⟩ (fun i H _ p => p.1.seq hs) (fun i x H hx p => ?_) (fun H p => hd H p.1 ?_)
  · have hi : i < xs.length := (List.getElem?_eq_some_iff.mp hx).1
    have hiy : i < ys.length := by omega
    refine ⟨hw x, ?_⟩
    unfold tYes
    dsimp only
    rw [if_pos rfl]
    refine turn i x ys[i] H _ hx (List.getElem?_eq_getElem hiy) p.1 fun H' sm => ⟨ys.take i, sm _ _ p.2, ?_, ?_, ?_⟩
    · rw [List.length_take]; omega
    · intro b o e
      have hb : b ≠ D := ne_of_none e nD
      rw [upd_ne hb]
      exact sm _ _ (p.1 _ _ e)
    · rw [upd_same, List.take_add_one, List.getElem?_eq_getElem hiy]
      rfl
  · have := p.2
    rw [← hy, List.take_length] at this
    exact this
theorem lc_rng {lo : Int} {n : Nat} {ys : List V} {te : TE} {vs : List Nat} {σ : L2.St} {H1 : Hp} {D : Addr} {j : Nat} {Qd : Hp → Prop} (nD : H1 D = none) (hy : ys.length = n) (hz : n ≤ sizeLine)
    (hw : ∀ x, wipe ((wipe σ vs).set j (some x)) vs = wipe σ vs)
    (turn : ∀ (i : Nat) (y : V) (H : Hp) (R : V → Hp → Prop), i < n → ys[i]? = some y → Same H1 H → (∀ H', Same H H' → R y H') → te ((wipe σ vs).set j (some (.int (lo + i)))) H R) (hd : ∀ H', Same H1 H' → H' D = some (.lst ys) → Qd H') :
    ∃ W : Nat → Nat → Hp → Prop, (∃ m, W 0 m (upd H1 D (.lst []))) ∧ ∀ i m H, W i m H →
      ((Itr lo n).stop i H ∧ Qd H) ∨ ((Itr lo n).go i H ∧ ∃ Nx : Hp → Prop, (∀ H', Nx H' → ∃ m', m' < m ∧ W (i + 1) m' H') ∧ ∀ x H', (Itr lo n).yld i H x H' → gName j x (wipe σ vs) H' fun σ2 H2 => wipe σ2 vs = wipe σ vs ∧ tYes σ2 H2 fun b H3 =>
        if b = true then te σ2 H3 fun y H4 => ∃ acc, H4 D = some (.lst acc) ∧ acc.length < sizeLine ∧ Nx (upd H4 D (.lst (acc ++ [y]))) else Nx H3) := by
  refine lc_range (fun i H => Same H1 H ∧ H D = some (.lst (ys.take i))) ⟨grow nD, upd_same⟩ (fun i H hi p => ?_) (fun H p => hd H p.1 ?_)
  · have hiy : i < ys.length := by omega
    refine ⟨hw _, ?_⟩
    unfold tYes
    dsimp only
    rw [if_pos rfl]
    refine turn i ys[i] H _ hi (List.getElem?_eq_getElem hiy) p.1 fun H' sm => ⟨ys.take i, sm _ _ p.2, ?_, ?_, ?_⟩
    · rw [List.length_take]; omega
    · intro b o e
      have hb : b ≠ D := ne_of_none e nD
      rw [upd_ne hb]
      exact sm _ _ (p.1 _ _ e)
    · rw [upd_same, List.take_add_one, List.getElem?_eq_getElem hiy]
      rfl
  · have := p.2
    rw [← hy, List.take_length] at this
    exact this
end Fc

namespace Fc
open PySem PySem.Spec L2 PyProof.Rows
/-! ### [e for x, y in zip(t, u)] over tuples, its items told by a row -/
theorem lc_zip {K : PySem.W.Frag} {a b : Addr} {xs ys zs : List V} {te : TE} {vs : List Nat} {σ : L2.St} {H1 : Hp} {D : Addr} {j k : Nat} {Qd : Hp → Prop} (nD : H1 D = none) (ha : SqT K H1 a xs) (hb : SqT K H1 b ys) (hy : ys.length = xs.length) (hzl : zs.length = xs.length) (hz : xs.length ≤ sizeLine)
    (hw : ∀ x y, wipe (((wipe σ vs).set j (some x)).set k (some y)) vs = wipe σ vs)
    (turn : ∀ (i : Nat) (x y z : V) (H : Hp) (R : V → Hp → Prop), xs[i]? = some x → ys[i]? = some y → zs[i]? = some z → Same H1 H → (∀ H', Same H H' → R z H') → te (((wipe σ vs).set j (some x)).set k (some y)) H R) (hd : ∀ H', Same H1 H' → H' D = some (.lst zs) → Qd H') :
    ∃ W : Nat → Nat → Hp → Prop, (∃ m, W 0 m (upd H1 D (.lst []))) ∧ ∀ i m H, W i m H →
      ((RZ.ItzT K a b).stop i H ∧ Qd H) ∨ ((RZ.ItzT K a b).go i H ∧ ∃ Nx : Hp → Prop, (∀ H', Nx H' → ∃ m', m' < m ∧ W (i + 1) m' H') ∧ ∀ x H', (RZ.ItzT K a b).yld i H x H' → gTup K 2 (gCons (gName j) (gCons (gName k) gNil)) x (wipe σ vs) H' fun σ2 H2 => wipe σ2 vs = wipe σ vs ∧ tYes σ2 H2 fun b H3 =>
        if b = true then te σ2 H3 fun y H4 => ∃ acc, H4 D = some (.lst acc) ∧ acc.length < sizeLine ∧ Nx (upd H4 D (.lst (acc ++ [y]))) else Nx H3) := by
  refine ⟨fun i m H => m = xs.length - i ∧ i ≤ xs.length ∧ Same H1 H ∧ H D = some (.lst (zs.take i)), ⟨xs.length, rfl, Nat.zero_le _, grow nD, upd_same⟩, ?_⟩
  rintro i m H ⟨rfl, hi, sm, hD⟩
  have qa := keepT sm ha
  have qb := keepT sm hb
  by_cases lt : i < xs.length
  · have ly : i < ys.length := by omega
    have lz : i < zs.length := by omega
    refine .inr ⟨⟨xs, ys, xs[i], ys[i], qa, qb, List.getElem?_eq_getElem lt, List.getElem?_eq_getElem ly⟩, fun H' => Same H1 H' ∧ H' D = some (.lst (zs.take (i + 1))), fun H' p => ⟨xs.length - (i + 1), by omega, rfl, lt, p.1, p.2⟩, fun v H' yl => ?_⟩
    obtain ⟨T, x, y, rfl, nT, rfl, fx, fy⟩ := yl
    have ex : xs[i]? = some x := fx xs qa
    have ey : ys[i]? = some y := fy ys qb
    refine ⟨T, [x, y], rfl, SqT.of upd_same, rfl, x, [y], rfl, y, [], rfl, rfl, hw x y, ?_⟩
    unfold tYes
    dsimp only
    rw [if_pos rfl]
    have sT : Same H (upd H T (.tup [x, y])) := grow nT
    refine turn i x y zs[i] _ _ ex ey (List.getElem?_eq_getElem lz) (sm.trans sT) fun H' e => ⟨zs.take i, e _ _ (sT _ _ hD), ?_, ?_, ?_⟩
    · rw [List.length_take]; omega
    · intro c o h
      have hc : c ≠ D := ne_of_none h nD
      rw [upd_ne hc]
      exact e _ _ (sT _ _ (sm _ _ h))
    · rw [upd_same, List.take_add_one, List.getElem?_eq_getElem lz]
      rfl
  · have e : i = xs.length := by omega
    subst e
    refine .inl ⟨⟨xs, ys, qa, qb, .inl (Nat.le_refl _)⟩, hd H sm ?_⟩
    rw [hD, ← hzl, List.take_length]
end Fc

namespace Fc
open PySem PySem.Spec L2 PyProof.Rows
/-! ### lists that a def made itself -/
theorem keepT_lst {K : PySem.W.Frag} {H : Hp} {p t : Addr} {xs ys zs : List V} (h : SqT K H t xs) (e : H p = some (.lst ys)) : SqT K (upd H p (.lst zs)) t xs := by
  rcases h with (h | ⟨o, h⟩) | h
  · refine .inl (.inl ?_)
    rw [upd_ne (fun z => by rw [z, e] at h; cases h)]
    exact h
  · refine .inl (.inr ⟨o, ?_⟩)
    rw [upd_ne (fun z => by rw [z, e] at h; cases h)]
    exact h
  · exact .inr h
theorem keep_lst {H H' : Hp} {p : Addr} {zs : List V} (e : Same H H') (n : H p = none) : Same H (upd H' p (.lst zs)) := by
  intro b o h
  rw [upd_ne (ne_of_none h n)]
  exact e b o h
theorem got {ns : List Int} {i : Nat} {x : V} (h : (ns.map V.int)[i]? = some x) : ∃ n, ns[i]? = some n ∧ x = .int n := by
  rw [List.getElem?_map] at h
  cases e : ns[i]? with
  | none => rw [e] at h; cases h
  | some n =>
    rw [e] at h
    exact ⟨n, rfl, (Option.some.inj h).symm⟩
theorem drop_head {S : List Int} {k : Nat} {x : Int} {r : List Int} (h : S.drop k = x :: r) : S[k]? = some x := by
  have := congrArg (·[0]?) h
  simpa [List.getElem?_drop] using this
theorem drop_more {S : List Int} {k : Nat} {x : Int} {r : List Int} (h : S.drop k = x :: r) : S.drop (k + 1) = r := by
  have := congrArg (·.drop 1) h
  simpa [List.drop_drop] using this
/-! ### the bytes of a number -/
def numB (n : Int) : List Int := if 127 < n then (n % 128 + 128) :: numB (n / 128) else [n]
termination_by n.toNat
decreasing_by omega
theorem numB_big {n : Int} (h : 127 < n) : numB n = (n % 128 + 128) :: numB (n / 128) := by
  conv => lhs; rw [numB]
  rw [if_pos h]
theorem numB_small {n : Int} (h : ¬ 127 < n) : numB n = [n] := by
  rw [numB, if_neg h]
theorem numB_len : ∀ (k : Nat) (n : Int), 0 ≤ n → n < 128 ^ (k + 1) → (numB n).length ≤ k + 1
  | 0, n, h0, h1 => by
    have : n < 128 := h1
    rw [numB_small (by omega)]
    simp
  | k + 1, n, h0, h1 => by
    by_cases z : 127 < n
    · rw [numB_big z, List.length_cons]
      have e : (128 : Int) ^ (k + 1 + 1) = 128 ^ (k + 1) * 128 := Int.pow_succ _ _
      have := numB_len k (n / 128) (by omega) (by
        rw [e] at h1
        exact Int.ediv_lt_of_lt_mul (by decide) h1)
      omega
    · rw [numB_small z]
      simp
theorem numB_few {n : Int} (h0 : 0 ≤ n) (h1 : n < 4398046511104) : (numB n).length ≤ 6 := numB_len 5 n h0 (by
  have : (128 : Int) ^ (5 + 1) = 4398046511104 := by decide
  rw [this]
  exact h1)
/-! ### fixed bytes -/
def low : Nat → Int → List Int
  | 0, _ => []
  | k + 1, n => n % 256 :: low k (n / 256)
def sh : Nat → Int → Int
  | 0, n => n
  | k + 1, n => sh k (n / 256)
theorem low_len : ∀ (k : Nat) (n : Int), (low k n).length = k
  | 0, _ => rfl
  | k + 1, n => by rw [low, List.length_cons, low_len]
theorem low_more : ∀ (k : Nat) (n : Int), low (k + 1) n = low k n ++ [sh k n % 256]
  | 0, n => rfl
  | k + 1, n => by
    rw [low, low_more k (n / 256)]
    rfl
theorem sh_more : ∀ (k : Nat) (n : Int), sh (k + 1) n = sh k n / 256
  | 0, n => rfl
  | k + 1, n => by
    show sh (k + 1) (n / 256) = sh k (n / 256) / 256
    rw [sh_more k (n / 256)]
def val256 (l : List Int) : Int := l.foldl (fun x b => x * 256 + b) 0
theorem val_low : ∀ (k : Nat) (n : Int), 0 ≤ n → n < 256 ^ k → val256 (low k n).reverse = n
  | 0, n, h0, h1 => by
    have : n < 1 := h1
    show (0 : Int) = n
    omega
  | k + 1, n, h0, h1 => by
    have e : (256 : Int) ^ (k + 1) = 256 ^ k * 256 := Int.pow_succ _ _
    have ih := val_low k (n / 256) (by omega) (by
      rw [e] at h1
      exact Int.ediv_lt_of_lt_mul (by decide) h1)
    rw [low, List.reverse_cons]
    unfold val256 at ih ⊢
    rw [List.foldl_append, ih]
    show n / 256 * 256 + n % 256 = n
    omega
theorem val_take {l : List Int} {i : Nat} {x : Int} (h : l[i]? = some x) : val256 (l.take (i + 1)) = val256 (l.take i) * 256 + x := by
  unfold val256
  rw [List.take_add_one, h, Option.toList_some, List.foldl_append]
  rfl
end Fc

namespace Fc
open PySem PySem.Spec L2 PyProof.Rows
/-! ### t * k of any small k -/
theorem mul_self (l : Addr) (its : Array Value) (n : Nat) (dd : Option Addr) (sl : Array (Option Value)) (k : Int) (u : Tok) (c0 : (decide (k < -(2 ^ 63)) || decide (k ≥ 2 ^ 63)) = false) (c1 : (its.isEmpty || k == 1) = true) :
    Meets (Builtin.«tuple.__mul__» ⟨[.ref l, .int k u], []⟩) (fun _ R s => s.heap.get? l = some { cls := .type "tuple", dict := dd, data := .seq its n, slots := sl } ∧ R (.ok (.ret (Value.ref l))) s) :=
  .of_wp fun prog w A R s h => by
    obtain ⟨hp, g, d, tk, os⟩ := s
    obtain ⟨hl, h⟩ := h
    have f1 := AutoSeq1.idx_int
    wp_walk using wpAny_loadPart' hl
    repeat (first
      | (refine wpAny_ite_false (decide_eq_false (by rw [c0]; exact Bool.false_ne_true)) ?_; wp_walk using wpAny_loadPart' hl)
      | (refine wpAny_ite_true (decide_eq_true c1) ?_; wp_walk using wpAny_loadPart' hl))
    exact ⟨_, rfl, h⟩
theorem mul_none (l : Addr) (its : Array Value) (n : Nat) (dd : Option Addr) (sl : Array (Option Value)) (k : Int) (u : Tok) (c0 : (decide (k < -(2 ^ 63)) || decide (k ≥ 2 ^ 63)) = false) (c1 : (its.isEmpty || k == 1) = false) (c2 : (decide (k ≤ 0) || its.isEmpty) = true) :
    Meets (Builtin.«tuple.__mul__» ⟨[.ref l, .int k u], []⟩) (fun _ R s => s.heap.get? l = some { cls := .type "tuple", dict := dd, data := .seq its n, slots := sl } ∧
      R (.ok (.ret (Value.ref s.heap.objs.size))) { s with heap := s.heap.push { cls := Value.type "tuple", data := Data.seq #[] }, toks := s.toks }) :=
  .of_wp fun prog w A R s h => by
    obtain ⟨hp, g, d, tk, os⟩ := s
    obtain ⟨hl, h⟩ := h
    have f1 := AutoSeq1.idx_int
    wp_walk using wpAny_loadPart' hl
    repeat (first
      | (refine wpAny_ite_false (decide_eq_false (by rw [c0]; exact Bool.false_ne_true)) ?_; wp_walk using wpAny_loadPart' hl)
      | (refine wpAny_ite_false (decide_eq_false (by rw [c1]; exact Bool.false_ne_true)) ?_; wp_walk using wpAny_loadPart' hl)
      | (refine wpAny_ite_true (decide_eq_true c2) ?_; wp_walk using wpAny_loadPart' hl))
    exact ⟨_, rfl, h⟩
def rRepU (K : PySem.W.Frag) : R2 := fun x y H Q => ∃ l k xs, x = .ref l ∧ y = .int k ∧ SqT K H l xs ∧ 0 ≤ k ∧ k ≤ 1000 ∧ xs.length ≤ 1000 ∧ Tups K H (List.replicate k.toNat xs).flatten Q
section
variable {X : Cx}
theorem op_repU : OpR X (binaryOp .Mult) (rRepU X.K) := by
  intro pins s σ H x y v u Q I rx ry h
  obtain ⟨l, k, xs, rfl, rfl, hT, k0, k1, few, q⟩ := h
  by_cases hn : xs = [] ∨ k < 2
  · cases rx
    obtain ⟨t, rfl⟩ := ry
    obtain ⟨its, r, ⟨⟨cls, dd, data, sl⟩, ho, hc, n, hd⟩, hs⟩ := I.tuple hT
    simp only at hc hd
    subst hc hd
    have hle : its.length = xs.length := r.length.symm
    have c0 : (decide (k < -(2 ^ 63)) || decide (k ≥ 2 ^ 63)) = false := by
      rw [decide_eq_false (by omega), decide_eq_false (by omega)] <;> rfl
    by_cases he : xs = [] ∨ k = 1
    · have c1 : (its.toArray.isEmpty || k == 1) = true := by
        rcases he with e | e
        · have : its = [] := by
            rw [e] at hle
            exact List.eq_nil_of_length_eq_zero hle
          rw [this]
          rfl
        · rw [e]
          simp
      have ex : xs = (List.replicate k.toNat xs).flatten := by
        rcases he with e | e
        · rw [e]
          simp
        · rw [e]
          simp
      refine wpAny_binaryOp_repeat_ref (T := "tuple") (U := "int") (by decide) ⟨_, ho, rfl⟩ (fun s' => typeIs_int s' k t) noFill_tuple_mul F.fills_int_mul F.slot_int_rmul repeat_tuple F.slot_int_index.lookup
        (call_meets F.slot_int_rmul (typeIs_int s k t) F.entry_int_rmul (F.args_int_rmul_2 _ _) (int_rmul_tuple k t l its.toArray n dd sl)
          ⟨ho, rfl, ⟨_, ho, rfl⟩, call_meets F.slot_tuple_mul ⟨_, ho, rfl⟩ F.entry_tuple_mul (F.args_tuple_mul_2 _ _) (mul_self l its.toArray n dd sl k t c0 c1) ⟨ho, ?_⟩⟩)
      exact ⟨.ref l, H, I, rfl, q.old hT ex⟩
    · have hx : xs ≠ [] := fun e => he (.inl e)
      have h1 : k ≠ 1 := fun e => he (.inr e)
      have h0 : k = 0 := by
        rcases hn with e | e
        · exact absurd e hx
        · omega
      have hi : its.toArray.isEmpty = false := by
        cases its with
        | nil =>
          exact absurd (List.eq_nil_of_length_eq_zero hle.symm) hx
        | cons a b => rfl
      have c1 : (its.toArray.isEmpty || k == 1) = false := by
        rw [hi, h0]
        rfl
      have c2 : (decide (k ≤ 0) || its.toArray.isEmpty) = true := by
        rw [h0]
        rfl
      have ex : (List.replicate k.toNat xs).flatten = [] := by
        rw [h0]
        rfl
      rw [ex] at q
      refine wpAny_binaryOp_repeat_ref (T := "tuple") (U := "int") (by decide) ⟨_, ho, rfl⟩ (fun s' => typeIs_int s' k t) noFill_tuple_mul F.fills_int_mul F.slot_int_rmul repeat_tuple F.slot_int_index.lookup
        (call_meets F.slot_int_rmul (typeIs_int s k t) F.entry_int_rmul (F.args_int_rmul_2 _ _) (int_rmul_tuple k t l its.toArray n dd sl)
          ⟨ho, rfl, ⟨_, ho, rfl⟩, call_meets F.slot_tuple_mul ⟨_, ho, rfl⟩ F.entry_tuple_mul (F.args_tuple_mul_2 _ _) (mul_none l its.toArray n dd sl k t c0 c1 c2) ⟨ho, ?_⟩⟩)
      refine ⟨.ref s.heap.objs.size, _, I.laid (t' := s.toks) (o := .tup []) (fun b ob z => Heap.get?_push_of_some _ z) (Nat.le_refl _) ?_, rfl, q.new (I.hok.fresh (Nat.le_refl _))⟩
      exact ⟨Nat.zero_le _, [], .nil, IsTup.new _ _⟩
  · exact op_repT pins s σ H _ _ v u Q I rx ry ⟨l, k, xs, rfl, rfl, hT, fun e => hn (.inl e), by omega, k1, few, fun p z => q.new z⟩
/-- as rRepU, for more -/
def rRepV (K : PySem.W.Frag) : R2 := fun x y H Q => ∃ l k xs, x = .ref l ∧ y = .int k ∧ SqT K H l xs ∧ 0 ≤ k ∧ k ≤ 1000000 ∧ (xs.length : Int) * k ≤ 1000000 ∧ Tups K H (List.replicate k.toNat xs).flatten Q
theorem op_repV : OpR X (binaryOp .Mult) (rRepV X.K) := by
  intro pins s σ H x y v u Q I rx ry h
  obtain ⟨l, k, xs, rfl, rfl, hT, k0, k1, few, q⟩ := h
  by_cases sm : k ≤ 1000 ∧ xs.length ≤ 1000
  · exact op_repU pins s σ H _ _ v u Q I rx ry ⟨l, k, xs, rfl, rfl, hT, k0, sm.1, sm.2, q⟩
  · by_cases hn : xs = [] ∨ k < 2
    · rcases hn with e | e
      · subst e
        cases rx
        obtain ⟨t, rfl⟩ := ry
        obtain ⟨its, r, ⟨⟨cls, dd, data, sl⟩, ho, hc, n, hd⟩, hs⟩ := I.tuple hT
        simp only at hc hd
        subst hc hd
        have e0 : its = [] := List.eq_nil_of_length_eq_zero r.length.symm
        have c0 : (decide (k < -(2 ^ 63)) || decide (k ≥ 2 ^ 63)) = false := by
          rw [decide_eq_false (by omega), decide_eq_false (by omega)] <;> rfl
        have c1 : (its.toArray.isEmpty || k == 1) = true := by rw [e0]; rfl
        refine wpAny_binaryOp_repeat_ref (T := "tuple") (U := "int") (by decide) ⟨_, ho, rfl⟩ (fun s' => typeIs_int s' k t) noFill_tuple_mul F.fills_int_mul F.slot_int_rmul repeat_tuple F.slot_int_index.lookup
          (call_meets F.slot_int_rmul (typeIs_int s k t) F.entry_int_rmul (F.args_int_rmul_2 _ _) (int_rmul_tuple k t l its.toArray n dd sl)
            ⟨ho, rfl, ⟨_, ho, rfl⟩, call_meets F.slot_tuple_mul ⟨_, ho, rfl⟩ F.entry_tuple_mul (F.args_tuple_mul_2 _ _) (mul_self l its.toArray n dd sl k t c0 c1) ⟨ho, ?_⟩⟩)
        exact ⟨.ref l, H, I, rfl, q.old hT (by simp)⟩
      · have lx : 1000 < xs.length := by omega
        have hk : k = 0 ∨ k = 1 := by omega
        cases rx
        obtain ⟨t, rfl⟩ := ry
        obtain ⟨its, r, ⟨⟨cls, dd, data, sl⟩, ho, hc, n, hd⟩, hs⟩ := I.tuple hT
        simp only at hc hd
        subst hc hd
        have hle : its.length = xs.length := r.length.symm
        have c0 : (decide (k < -(2 ^ 63)) || decide (k ≥ 2 ^ 63)) = false := by
          rw [decide_eq_false (by omega), decide_eq_false (by omega)] <;> rfl
        have hi : its.toArray.isEmpty = false := by
          cases its with
          | nil =>
            have : xs.length = 0 := hle.symm
            omega
          | cons a b => rfl
        rcases hk with rfl | rfl
        · refine wpAny_binaryOp_repeat_ref (T := "tuple") (U := "int") (by decide) ⟨_, ho, rfl⟩ (fun s' => typeIs_int s' 0 t) noFill_tuple_mul F.fills_int_mul F.slot_int_rmul repeat_tuple F.slot_int_index.lookup
            (call_meets F.slot_int_rmul (typeIs_int s 0 t) F.entry_int_rmul (F.args_int_rmul_2 _ _) (int_rmul_tuple 0 t l its.toArray n dd sl)
              ⟨ho, rfl, ⟨_, ho, rfl⟩, call_meets F.slot_tuple_mul ⟨_, ho, rfl⟩ F.entry_tuple_mul (F.args_tuple_mul_2 _ _) (mul_none l its.toArray n dd sl 0 t c0 (by rw [hi]; rfl) rfl) ⟨ho, ?_⟩⟩)
          refine ⟨.ref s.heap.objs.size, _, I.laid (t' := s.toks) (o := .tup []) (fun b ob z => Heap.get?_push_of_some _ z) (Nat.le_refl _) ?_, rfl, Tups.new (xs := []) q (I.hok.fresh (Nat.le_refl _))⟩
          exact ⟨Nat.zero_le _, [], .nil, IsTup.new _ _⟩
        · refine wpAny_binaryOp_repeat_ref (T := "tuple") (U := "int") (by decide) ⟨_, ho, rfl⟩ (fun s' => typeIs_int s' 1 t) noFill_tuple_mul F.fills_int_mul F.slot_int_rmul repeat_tuple F.slot_int_index.lookup
            (call_meets F.slot_int_rmul (typeIs_int s 1 t) F.entry_int_rmul (F.args_int_rmul_2 _ _) (int_rmul_tuple 1 t l its.toArray n dd sl)
              ⟨ho, rfl, ⟨_, ho, rfl⟩, call_meets F.slot_tuple_mul ⟨_, ho, rfl⟩ F.entry_tuple_mul (F.args_tuple_mul_2 _ _) (mul_self l its.toArray n dd sl 1 t c0 (by rw [hi]; rfl)) ⟨ho, ?_⟩⟩)
          exact ⟨.ref l, H, I, rfl, q.old hT (by simp)⟩
    · have k2 : 2 ≤ k := by omega
      have hx : xs ≠ [] := fun e => hn (.inl e)
      cases rx
      obtain ⟨t, rfl⟩ := ry
      obtain ⟨its, r, ⟨⟨cls, dd, data, sl⟩, ho, hc, n, hd⟩, hs⟩ := I.tuple hT
      simp only at hc hd
      subst hc hd
      have hle : its.length = xs.length := r.length.symm
      have hi : its.toArray.isEmpty = false := by
        cases its with
        | nil => exact absurd (List.eq_nil_of_length_eq_zero hle.symm) hx
        | cons a b => rfl
      have hsz0 : its.toArray.size = xs.length := by rw [List.size_toArray, hle]
      have flenN : k.toNat * xs.length ≤ 1000000 := by
        have e : ((k.toNat * xs.length : Nat) : Int) = (xs.length : Int) * k := by
          rw [Int.natCast_mul, Int.toNat_of_nonneg k0, Int.mul_comm]
        omega
      have hm : ((its.toArray.size : Nat) : Int) * k ≤ 1000000 := by rw [hsz0]; exact few
      have flen : (List.replicate k.toNat its).flatten.length ≤ sizeLine := by
        rw [PyProof.Rows.lm_len_rep_flat, hle, sizeLine_eq]
        omega
      have c0 : (decide (k < -(2 ^ 63)) || decide (k ≥ 2 ^ 63)) = false := by
        rw [decide_eq_false (by omega), decide_eq_false (by omega)] <;> rfl
      have c1 : (its.toArray.isEmpty || k == 1) = false := by
        rw [hi, Bool.false_or]
        exact beq_eq_false_iff_ne.mpr (by omega)
      have c2 : (decide (k ≤ 0) || its.toArray.isEmpty) = false := by
        rw [hi, Bool.or_false]
        exact decide_eq_false (by omega)
      have c4 : Builtin.Tuple.tupleTooMany (((its.toArray.size : Nat) : Int) * k) = false := by
        unfold Builtin.Tuple.tupleTooMany
        rw [sizeLine_eq]
        exact decide_eq_false (by omega)
      refine wpAny_binaryOp_repeat_ref (T := "tuple") (U := "int") (by decide) ⟨_, ho, rfl⟩ (fun s' => typeIs_int s' k t) noFill_tuple_mul F.fills_int_mul F.slot_int_rmul repeat_tuple F.slot_int_index.lookup
        (call_meets F.slot_int_rmul (typeIs_int s k t) F.entry_int_rmul (F.args_int_rmul_2 _ _) (int_rmul_tuple k t l its.toArray n dd sl)
          ⟨ho, rfl, ⟨_, ho, rfl⟩, call_meets F.slot_tuple_mul ⟨_, ho, rfl⟩ F.entry_tuple_mul (F.args_tuple_mul_2 _ _) (tuple_mulW l its.toArray n dd sl k t c0 c1 c2 (by omega) c4 (by rw [size_rep, List.size_toArray]; exact flen)) ⟨ho, ?_⟩⟩)
      rw [size_rep]
      refine ⟨.ref s.heap.objs.size, _, I.laid (t' := s.toks) (o := .tup (List.replicate k.toNat xs).flatten) (fun b ob z => Heap.get?_push_of_some _ z) (Nat.le_refl _) ?_, rfl, q.new (I.hok.fresh (Nat.le_refl _))⟩
      refine ⟨?_, _, r.rep k.toNat, IsTup.new _ _⟩
      rw [PyProof.Rows.lm_len_rep_flat, sizeLine_eq]
      omega
end
end Fc

namespace Fc
open PySem PySem.Spec L2 PyProof.Rows
/-! ### own errors, and defs that raise them -/
abbrev veMro : List Value := [.type "ValueError", .type "Exception", .type "BaseException", .type "object"]
structure Exc (K : PySem.W.Frag) (mg : Str → Option Value) (x : Str) (C : Addr) : Prop where
  g : mg x = some (.ref C)
  x : PySem.W.excIn K C veMro "ValueError.__new__" = true
  k : PySem.W.keepIn K (.ref C) = true
  s : PySem.W.subIn K (.ref C) (.type "BaseException") = some true
  t : PySem.W.typeIn K (.ref C) = some (.type "type")
  i : PySem.W.isClsIn K C = true
theorem caught {K : PySem.W.Frag} {mg : Str → Option Value} {x : Str} {B C : Addr} {b : Bool} (e : Exc K mg x C) (h : PySem.W.subIn K (.ref B) (.ref C) = some b) : PySem.W.exmOne K (.ref B) (.ref C) = some b := by
  unfold PySem.W.exmOne
  rw [if_pos (by rw [e.s]; rfl)]
  show (if ((PySem.W.clsIn K C).isSome && PySem.W.typeIn K (.ref C) == some (.type "type")) = true then PySem.W.subIn K (.ref B) (.ref C) else none) = some b
  rw [if_pos (by rw [show (PySem.W.clsIn K C).isSome = true from e.i, e.t]; rfl), h]
section
variable {X : Cx}
theorem ps_raiseC {W : WX} {x m : Str} {C : Addr} {j : Nat} {p p2 p3 pos : Pos} (hc : X.calm = true) (tk : Takes X W) (e : Exc X.K X.mg x C) (hg : Gl X x := by rfl) (hdb : (x == ("__debug__" : Str)) = false := by decide) :
    PS X (.Raise (some (.Call (.Name x p) [.Constant (.str m) j p2] [] p3)) none pos) (fun _ σ H => W (.ref C) none σ H) :=
  ps_raise hc tk (pmk_own PySem.F.excBase_ValueError e.x e.g e.k (raises_own e.s e.t) hg hdb)
end
/-- as Cal, of a def that may raise -/
structure CalX (P : Program) (w : World) (K : PySem.W.Frag) (mg : Str → Option Value) (base : Heap) (x : Str) (k : Nat) (ps : List Str) (sp : Sp) : Prop where
  ex : ∃ f fd, FnOk P w K mg base (L2.CX P w) k f fd ps sp ∧ mg x = some (.ref f) ∧ PySem.W.keepIn K (.ref f) = true ∧ Binds K fd ps []
section
variable {X : Cx} {x : Str} {k : Nat} {ps : List Str} {sp : Sp} {p pos : Pos} {e : Expr} {es : List Expr} {t : TA}
theorem pe_cx {E : XK} (C : CalX X.prog X.w X.K X.mg X.base x k ps sp) (hr : Room k X.A) (tk : Takes X (fun cls d _ H => E cls d H)) (ha : PA X (e :: es) t) (hg : Gl X x := by rfl) (hdb : (x == ("__debug__" : Str)) = false := by decide)
    (he : starEach (e :: es) X.env = (false, eval e X.env) :: starEach es X.env := by rfl) (hpl : (backTo pos (starEach es X.env)).any (·.1) = false := by rfl) : PE X (.Call (.Name x p) (e :: es) [] pos) (tCall sp [] E t) := by
  obtain ⟨f, fd, F, m, kp, b⟩ := C.ex
  exact pe_call F hr hg m kp b .nil (passes_call tk fun _ _ _ _ h => h) ha hdb he hpl
theorem pe_cn (C : CalX X.prog X.w X.K X.mg X.base x k ps sp) (hr : Room k X.A) (ha : PA X (e :: es) t) (hg : Gl X x := by rfl) (hdb : (x == ("__debug__" : Str)) = false := by decide)
    (he : starEach (e :: es) X.env = (false, eval e X.env) :: starEach es X.env := by rfl) (hpl : (backTo pos (starEach es X.env)).any (·.1) = false := by rfl) : PE X (.Call (.Name x p) (e :: es) [] pos) (tCall sp [] E0 t) := by
  obtain ⟨f, fd, F, m, kp, b⟩ := C.ex
  exact pe_call F hr hg m kp b .nil passL ha hdb he hpl
theorem pe_cs {W : WX} (C : CalX X.prog X.w X.K X.mg X.base x k ps sp) (hr : Room k X.A) (tk : Takes X W) (ha : PA X (e :: es) t) (hg : Gl X x := by rfl) (hdb : (x == ("__debug__" : Str)) = false := by decide)
    (he : starEach (e :: es) X.env = (false, eval e X.env) :: starEach es X.env := by rfl) (hpl : (backTo pos (starEach es X.env)).any (·.1) = false := by rfl) : PE X (.Call (.Name x p) (e :: es) [] pos) (tCallS sp (WE W) t) := by
  obtain ⟨f, fd, F, m, kp, b⟩ := C.ex
  exact pe_callS F hr hg m kp b (fun σ => passAt tk σ) ha hdb he hpl
end
end Fc

namespace Fc
open PySem PySem.Spec L2 PyProof.Rows
/-! ### data of tuples, in heaps that grow -/
mutual
theorem dpKeep {K : PySem.W.Frag} {H H' : Hp} (e : Same H H') : ∀ {d : PyData} {v : V}, Dp K H v d → Dp K H' v d
  | .none, _, .non => .non
  | .bool _, _, .bl b => .bl b
  | .int _, _, .int i => .int i
  | .str _, _, .str x => .str x
  | .list _, _, .lst h hs => .lst (e.seq h) (dpKeepAll e hs)
  | .tuple _, _, .tup h hs => .tup (keepT e h) (dpKeepAll e hs)
theorem dpKeepAll {K : PySem.W.Frag} {H H' : Hp} (e : Same H H') : ∀ {ds : List PyData} {vs : List V}, DpAll K H vs ds → DpAll K H' vs ds
  | [], _, .nil => .nil
  | _ :: _, _, .cons h hs => .cons (dpKeep e h) (dpKeepAll e hs)
end
mutual
def tupsOnly : PyData → Bool
  | .none | .bool _ | .int _ | .str _ => true
  | .tuple ds => decide (ds.length ≤ 100000) && tupsAll ds
  | .list _ | .dict _ => false
def tupsAll : List PyData → Bool
  | [] => true
  | d :: r => tupsOnly d && tupsAll r
end
theorem tupsAll_get : ∀ {ds : List PyData} {i : Nat} {d : PyData}, tupsAll ds = true → ds[i]? = some d → tupsOnly d = true
  | [], _, _, _, h => by cases h
  | x :: r, 0, d, h, e => by
    rw [tupsAll, Bool.and_eq_true] at h
    cases e
    exact h.1
  | x :: r, i + 1, d, h, e => by
    rw [tupsAll, Bool.and_eq_true] at h
    exact tupsAll_get h.2 e
theorem depth_get : ∀ {ds : List PyData} {i : Nat} {d : PyData}, ds[i]? = some d → PyData.depth d ≤ PyData.depthAll ds
  | [], _, _, h => by cases h
  | x :: r, 0, d, e => by
    cases e
    rw [PyData.depthAll]
    exact Nat.le_max_left _ _
  | x :: r, i + 1, d, e => by
    rw [PyData.depthAll]
    exact Nat.le_trans (depth_get (ds := r) e) (Nat.le_max_right _ _)
theorem dpLen {K : PySem.W.Frag} {H : Hp} : ∀ {vs : List V} {ds : List PyData}, DpAll K H vs ds → vs.length = ds.length
  | _, _, .nil => rfl
  | _, _, .cons _ hs => congrArg (· + 1) (dpLen hs)
theorem dpGet {K : PySem.W.Frag} {H : Hp} : ∀ {vs : List V} {ds : List PyData} {i : Nat} {v : V}, DpAll K H vs ds → vs[i]? = some v → ∃ d, ds[i]? = some d ∧ Dp K H v d
  | _, _, _, _, .nil, h => by cases h
  | _, _, 0, _, .cons h hs, e => by
    cases e
    exact ⟨_, rfl, h⟩
  | _, _, i + 1, _, .cons h hs, e => dpGet (i := i) hs e
theorem dpInts {K : PySem.W.Frag} {H : Hp} : ∀ (A : List Int), DpAll K H (A.map V.int) (A.map PyData.int)
  | [] => .nil
  | a :: r => .cons (.int a) (dpInts r)
theorem tupsAll_ints : ∀ (A : List Int), tupsAll (A.map PyData.int) = true
  | [] => rfl
  | a :: r => by rw [List.map_cons, tupsAll, tupsAll_ints r]; rfl
theorem depthAll_ints : ∀ (A : List Int), PyData.depthAll (A.map PyData.int) = 0
  | [] => rfl
  | a :: r => by rw [List.map_cons, PyData.depthAll, depthAll_ints r]; rfl
/-- a tuple of whole numbers, as data -/
abbrev dInts (A : List Int) : PyData := .tuple (A.map PyData.int)
theorem dpTup {K : PySem.W.Frag} {H : Hp} {p : Addr} {A : List Int} (h : SqT K H p (A.map V.int)) : Dp K H (.ref p) (dInts A) := .tup h (dpInts A)
theorem dInts_ok (A : List Int) (h : A.length ≤ 100000) : tupsOnly (dInts A) = true ∧ PyData.depth (dInts A) ≤ 1 := ⟨by
  rw [tupsOnly, tupsAll_ints, decide_eq_true (by rw [List.length_map]; exact h)]
  rfl, by
  show PyData.depthAll (A.map PyData.int) + 1 ≤ 1
  rw [depthAll_ints]
  exact Nat.le_refl 1⟩
end Fc

namespace Fc
open PySem PySem.Spec L2 PyProof.Rows
/-! ### texts as rows of codes -/
def mkS (l : List Nat) : Str := ⟨l.toArray⟩
def T (l : List Nat) : V := .str (mkS l)
theorem tl_mkS (l : List Nat) : TL.tl (mkS l) = l := rfl
theorem mkS_tl (x : Str) : mkS (TL.tl x) = x := TL.mk_tl x
theorem mkS_inj {a b : List Nat} (h : mkS a = mkS b) : a = b := by
  have := congrArg TL.tl h
  exact this
theorem T_inj {a b : List Nat} (h : T a = T b) : a = b := mkS_inj (V.str.inj h)
theorem dec_T {a b : List Nat} : decide (T a = T b) = decide (a = b) := by
  by_cases z : a = b
  · rw [z]; simp
  · rw [decide_eq_false z]; exact decide_eq_false fun k => z (T_inj k)
theorem len_mkS (l : List Nat) : (mkS l).length = l.length := TL.len_tl _
theorem mkS_app (a b : List Nat) : mkS a ++ mkS b = mkS (a ++ b) := TL.ext_tl (by rw [TL.tl_append]; rfl)
theorem mkS_cut (l : List Nat) (lo hi : Option Int) : cutS (mkS l) lo hi = mkS ((l.drop (HT.sIx l.length 0 lo)).take (HT.sIx l.length l.length hi - HT.sIx l.length 0 lo)) := by
  apply TL.ext_tl
  unfold cutS
  rw [len_mkS]
  first
    | rfl
    | (rw [TL.tl_strSub]; rfl)
/-! ### pieces between strokes -/
def splitC (c : Nat) : List Nat → List (List Nat)
  | [] => [[]]
  | x :: r => if x = c then [] :: splitC c r else match splitC c r with
    | [] => [[x]]
    | p :: ps => (x :: p) :: ps
theorem splitC_ne (c : Nat) : ∀ l, splitC c l ≠ []
  | [] => by simp [splitC]
  | x :: r => by
    rw [splitC]
    split
    · simp
    · split <;> simp
theorem spl_splitC (c : Nat) : ∀ (l acc : List Nat), TL.spl [c] 0 acc l = (match splitC c l with | [] => [acc] | p :: ps => (acc ++ p) :: ps)
  | [], acc => by
    rw [TL.spl_nil, splitC]
    simp
  | x :: r, acc => by
    by_cases z : x = c
    · subst z
      rw [TL.spl_hit (by unfold TL.pre; simp)]
      show acc :: TL.spl [x] 0 [] r = _
      rw [spl_splitC x r [], splitC, if_pos rfl]
      cases e : splitC x r with
      | nil => exact absurd e (splitC_ne x r)
      | cons p ps => simp
    · rw [TL.spl_miss (TL.pre_of_head [] r z), spl_splitC c r (acc ++ [x]), splitC, if_neg z]
      cases e : splitC c r with
      | nil => exact absurd e (splitC_ne c r)
      | cons p ps => simp
theorem split_mkS (c : Nat) (hc : c < 256) (l : List Nat) : Txt.split (mkS l) (mkS [c]) = (splitC c l).map mkS := by
  apply TL.map_tl_inj
  rw [TL.split_spl (mkS l) (mkS [c]) (by rw [tl_mkS]; simp) (TL.kind_ok (by simp [mkS, hc]))]
  rw [tl_mkS, tl_mkS, spl_splitC, List.map_map]
  have e : (TL.tl ∘ mkS) = id := rfl
  rw [e, List.map_id]
  cases e2 : splitC c l with
  | nil => exact absurd e2 (splitC_ne c l)
  | cons p ps => simp
def joinC (c : Nat) (ps : List (List Nat)) : List Nat := TL.joinL [c] ps
theorem join_mkS (c : Nat) (ps : List (List Nat)) : Txt.join (mkS [c]) (ps.map mkS) = mkS (joinC c ps) := by
  apply TL.ext_tl
  rw [TL.join_eq, TL.tl_join, List.map_map]
  have e : (TL.tl ∘ mkS) = id := rfl
  rw [e, List.map_id]
  rfl
theorem split_joinC (c : Nat) {ps : List (List Nat)} (hne : ps ≠ []) (h : ∀ p ∈ ps, c ∉ p) : splitC c (joinC c ps) = ps := by
  have e := TL.spl_join (s := c) (S := []) hne h
  have e2 := spl_splitC c (joinC c ps) []
  rw [show TL.spl [c] 0 [] (joinC c ps) = ps from e] at e2
  cases q : splitC c (joinC c ps) with
  | nil => exact absurd q (splitC_ne _ _)
  | cons p r =>
    rw [q] at e2
    simpa using e2.symm
theorem joinC_len (c : Nat) : ∀ (ps : List (List Nat)) (m : Nat), (∀ p ∈ ps, p.length ≤ m) → (joinC c ps).length ≤ ps.length * (m + 1)
  | [], m, _ => by simp [joinC, TL.joinL]
  | [p], m, h => by
    have := h p (by simp)
    simp [joinC, TL.joinL]
    omega
  | p :: q :: r, m, h => by
    have ih := joinC_len c (q :: r) m fun x hx => h x (List.mem_cons_of_mem _ hx)
    have hp := h p (by simp)
    have e : joinC c (p :: q :: r) = p ++ [c] ++ joinC c (q :: r) := by simp [joinC, TL.joinL]
    have e3 : (p :: q :: r).length * (m + 1) = (q :: r).length * (m + 1) + (m + 1) := by
      show ((q :: r).length + 1) * (m + 1) = _
      rw [Nat.add_mul, Nat.one_mul]
    have e4 : ([c] : List Nat).length = 1 := rfl
    rw [e, e3, List.length_append, List.length_append, e4]
    omega
end Fc

namespace Fc
open PySem PySem.Spec L2 PyProof.Rows
/-! ### parts and paths -/
/-- a to z, 0 to 9, the dot, the two strokes -/
def good : List Nat := [97, 98, 99, 100, 101, 102, 103, 104, 105, 106, 107, 108, 109, 110, 111, 112, 113, 114, 115, 116, 117, 118, 119, 120, 121, 122, 48, 49, 50, 51, 52, 53, 54, 55, 56, 57, 46, 45, 95]
def partOk (p : List Nat) : Prop := 1 ≤ p.length ∧ p.length ≤ 12 ∧ p ≠ [46] ∧ p ≠ [46, 46] ∧ ∀ c ∈ p, c ∈ good
instance (p : List Nat) : Decidable (partOk p) := by
  unfold partOk
  infer_instance
theorem no_stroke {p : List Nat} (h : partOk p) : 47 ∉ p := fun m => absurd (h.2.2.2.2 47 m) (by decide)
inductive CRes where
  | bad
  | out
  | ok (kept : List (List Nat))
def walkC : List (List Nat) → List (List Nat) → CRes
  | [], kept => if kept = [] ∨ 8 < kept.length then .bad else .ok kept
  | p :: r, kept => if p = [46, 46] then (if kept = [] then .out else walkC r kept.dropLast) else if p = [] ∨ p = [46] then walkC r kept else if partOk p then walkC r (kept ++ [p]) else .bad
def cleanF (l : List Nat) : CRes := if l.head? = some 47 then .out else walkC (splitC 47 l) []
/-- the path that these parts make -/
def pathOf (ps : List (List Nat)) : List Nat := joinC 47 ps
def PathOk (ps : List (List Nat)) : Prop := ps ≠ [] ∧ ps.length ≤ 8 ∧ ∀ p ∈ ps, partOk p
theorem walkC_ok : ∀ (ps kept : List (List Nat)) {k2 : List (List Nat)}, (∀ p ∈ kept, partOk p) → walkC ps kept = .ok k2 → PathOk k2
  | [], kept, k2, h, e => by
    rw [walkC] at e
    split at e
    · cases e
    · rename_i z
      cases e
      exact ⟨fun q => z (.inl q), by omega, h⟩
  | p :: r, kept, k2, h, e => by
    rw [walkC] at e
    split at e
    · split at e
      · cases e
      · exact walkC_ok r _ (fun q hq => h q ((List.dropLast_sublist _).mem hq)) e
    · split at e
      · exact walkC_ok r _ h e
      · split at e
        · rename_i g
          refine walkC_ok r _ (fun q hq => ?_) e
          rcases List.mem_append.mp hq with hq | hq
          · exact h q hq
          · rw [List.mem_singleton.mp hq]
            exact g
        · cases e
theorem cleanF_ok {l : List Nat} {ps : List (List Nat)} (h : cleanF l = .ok ps) : PathOk ps := by
  unfold cleanF at h
  split at h
  · cases h
  · exact walkC_ok _ _ (fun p hp => by cases hp) h
theorem walkC_parts : ∀ (ps kept : List (List Nat)) (r : List (List Nat)), (∀ p ∈ ps, partOk p) → walkC (ps ++ r) kept = walkC r (kept ++ ps)
  | [], kept, r, _ => by simp
  | p :: ps, kept, r, h => by
    have g := h p (by simp)
    have n1 : p ≠ [46, 46] := g.2.2.2.1
    have n2 : ¬ (p = [] ∨ p = [46]) := fun z => by
      rcases z with z | z
      · rw [z] at g
        exact absurd g.1 (by decide)
      · exact g.2.2.1 z
    rw [List.cons_append, walkC, if_neg n1, if_neg n2, if_pos g, walkC_parts ps (kept ++ [p]) r fun q hq => h q (List.mem_cons_of_mem _ hq), List.append_assoc]
    rfl
theorem head_join {ps : List (List Nat)} (h : PathOk ps) : (pathOf ps).head? ≠ some 47 := by
  obtain ⟨hne, _, hp⟩ := h
  cases ps with
  | nil => exact absurd rfl hne
  | cons p r =>
    have g := hp p (by simp)
    cases p with
    | nil => exact absurd g.1 (by decide)
    | cons c q =>
      have nc : c ≠ 47 := fun z => no_stroke g (by rw [z]; simp)
      cases r with
      | nil =>
        show (c :: q).head? ≠ some 47
        simpa using nc
      | cons p2 r2 =>
        show ((c :: q) ++ ([47] ++ TL.joinL [47] (p2 :: r2))).head? ≠ some 47
        simpa using nc
theorem split_path {ps : List (List Nat)} (h : PathOk ps) : splitC 47 (pathOf ps) = ps := split_joinC 47 h.1 fun p hp => no_stroke (h.2.2 p hp)
theorem clean_path {ps : List (List Nat)} (h : PathOk ps) : cleanF (pathOf ps) = .ok ps := by
  unfold cleanF
  rw [if_neg (head_join h), split_path h]
  have e := walkC_parts ps [] [] h.2.2
  rw [List.append_nil, List.nil_append] at e
  rw [e, walkC, if_neg (fun z => by rcases z with z | z; exact h.1 z; exact absurd h.2.1 (by omega))]
/-! ### a stroke and two dots behind -/
theorem splitC_app (c : Nat) : ∀ (l m : List Nat), splitC c (l ++ c :: m) = splitC c l ++ splitC c m
  | [], m => by
    show splitC c (c :: m) = [[]] ++ splitC c m
    rw [splitC, if_pos rfl]
    rfl
  | x :: r, m => by
    show splitC c (x :: (r ++ c :: m)) = _
    rw [splitC, splitC, splitC_app c r m]
    by_cases z : x = c
    · rw [if_pos z, if_pos z]
      rfl
    · rw [if_neg z, if_neg z]
      cases e : splitC c r with
      | nil => exact absurd e (splitC_ne c r)
      | cons p ps => rfl
theorem clean_up {ps : List (List Nat)} (h : PathOk ps) : cleanF (pathOf ps ++ [47, 46, 46]) = if ps.dropLast = [] then .bad else .ok ps.dropLast := by
  have hd : (pathOf ps ++ [47, 46, 46]).head? ≠ some 47 := by
    have := head_join h
    cases e : pathOf ps with
    | nil =>
      have s := split_path h
      rw [e] at s
      have g := h.2.2 [] (by rw [← s]; simp [splitC])
      exact absurd g.1 (by decide)
    | cons c q =>
      rw [e] at this
      simpa using this
  unfold cleanF
  rw [if_neg hd, show pathOf ps ++ [47, 46, 46] = pathOf ps ++ 47 :: [46, 46] from rfl, splitC_app, split_path h, show splitC 47 [46, 46] = [[46, 46]] by decide, walkC_parts ps [] _ h.2.2, List.nil_append, walkC, if_pos rfl, if_neg h.1, walkC]
  have l8 : ps.dropLast.length ≤ 8 := by
    rw [List.length_dropLast]
    have := h.2.1
    omega
  by_cases z : ps.dropLast = []
  · rw [if_pos (.inl z), if_pos z]
  · rw [if_neg (fun k => by rcases k with k | k; exact z k; omega), if_neg z]
/-- the paths above -/
def aboveF (ps : List (List Nat)) : List (List Nat) := (List.range (ps.length - 1)).map fun k => pathOf (ps.take (k + 1))
theorem aboveF_last {ps : List (List Nat)} (h : ps ≠ []) : (aboveF ps).getLast? = if ps.dropLast = [] then none else some (pathOf ps.dropLast) := by
  unfold aboveF
  have lp : 0 < ps.length := List.length_pos_iff.mpr h
  have ld := List.length_dropLast (xs := ps)
  by_cases z : ps.length = 1
  · have e : ps.dropLast = [] := List.eq_nil_of_length_eq_zero (by rw [ld]; omega)
    rw [if_pos e, z]
    rfl
  · have e : ps.dropLast ≠ [] := fun q => by
      rw [q] at ld
      simp at ld
      omega
    rw [if_neg e, List.getLast?_map, List.getLast?_range]
    have z2 : ¬ ps.length - 1 = 0 := by omega
    rw [if_neg z2]
    show some (pathOf (ps.take (ps.length - 1 - 1 + 1))) = _
    rw [show ps.length - 1 - 1 + 1 = ps.length - 1 by omega, List.dropLast_eq_take]
end Fc

namespace Fc
open PySem PySem.Spec L2 PyProof.Rows
/-! ### [c for c in text if test] -/
theorem lc_sign {l : List Nat} {keep : Nat → Bool} {tt : TT} {te : TE} {vs : List Nat} {σ : L2.St} {H1 : Hp} {D : Addr} {j : Nat} {Qd : Hp → Prop} (nD : H1 D = none) (hz : l.length ≤ sizeLine)
    (hw : ∀ x, wipe ((wipe σ vs).set j (some x)) vs = wipe σ vs)
    (test : ∀ (i : Nat) (c : Nat) (H : Hp) (R : Bool → Hp → Prop), l[i]? = some c → Same H1 H → (∀ H', Same H H' → R (keep c) H') → tt ((wipe σ vs).set j (some (T [c]))) H R)
    (item : ∀ (c : Nat) (H : Hp) (R : V → Hp → Prop), Same H1 H → (∀ H', Same H H' → R (T [c]) H') → te ((wipe σ vs).set j (some (T [c]))) H R) (hd : ∀ H', Same H1 H' → H' D = some (.lst ((l.filter keep).map fun c => T [c])) → Qd H') :
    ∃ W : Nat → Nat → Hp → Prop, (∃ m, W 0 m (upd H1 D (.lst []))) ∧ ∀ i m H, W i m H →
      ((Its (mkS l)).stop i H ∧ Qd H) ∨ ((Its (mkS l)).go i H ∧ ∃ Nx : Hp → Prop, (∀ H', Nx H' → ∃ m', m' < m ∧ W (i + 1) m' H') ∧ ∀ x H', (Its (mkS l)).yld i H x H' → gName j x (wipe σ vs) H' fun σ2 H2 => wipe σ2 vs = wipe σ vs ∧ tt σ2 H2 fun b H3 =>
        if b = true then te σ2 H3 fun y H4 => ∃ acc, H4 D = some (.lst acc) ∧ acc.length < sizeLine ∧ Nx (upd H4 D (.lst (acc ++ [y]))) else Nx H3) := by
  have sz : (mkS l).cps.size = l.length := by simp [mkS]
  refine ⟨fun i m H => m = l.length - i ∧ i ≤ l.length ∧ Same H1 H ∧ H D = some (.lst (((l.take i).filter keep).map fun c => T [c])), ⟨l.length, rfl, Nat.zero_le _, grow nD, upd_same⟩, ?_⟩
  rintro i m H ⟨rfl, hi, sm, hD⟩
  by_cases lt : i < l.length
  · refine .inr ⟨by show i < (mkS l).cps.size; omega, fun H' => Same H1 H' ∧ H' D = some (.lst (((l.take (i + 1)).filter keep).map fun c => T [c])), fun H' p => ⟨l.length - (i + 1), by omega, rfl, lt, p.1, p.2⟩, fun x H' yl => ?_⟩
    obtain ⟨rfl, c, hc, rfl⟩ := yl
    have gc : l[i]? = some c := by
      have : (mkS l).cps[i]? = l[i]? := by simp [mkS]
      rw [← this]
      exact hc
    have ft : (l.take (i + 1)).filter keep = (l.take i).filter keep ++ (if keep c = true then [c] else []) := by
      rw [List.take_add_one, gc, Option.toList_some, List.filter_append]
      congr 1
      by_cases k : keep c = true
      · rw [if_pos k, List.filter_cons_of_pos k]; rfl
      · rw [if_neg k, List.filter_cons_of_neg k]; rfl
    refine ⟨hw _, test i c H' _ gc sm fun H3 s3 => ?_⟩
    by_cases k : keep c = true
    · rw [if_pos k]
      refine item c H3 _ (sm.trans s3) fun H4 s4 => ⟨_, s4 _ _ (s3 _ _ hD), ?_, ?_, ?_⟩
      · rw [List.length_map]
        have := List.length_filter_le keep (l.take i)
        rw [List.length_take] at this
        omega
      · intro b o e
        have hb : b ≠ D := ne_of_none e nD
        rw [upd_ne hb]
        exact s4 _ _ (s3 _ _ (sm _ _ e))
      · rw [upd_same, ft, if_pos k, List.map_append]
        rfl
    · rw [if_neg k]
      refine ⟨sm.trans s3, ?_⟩
      rw [ft, if_neg k, List.append_nil]
      exact s3 _ _ hD
  · have e : i = l.length := by omega
    subst e
    refine .inl ⟨by show (mkS l).cps.size ≤ _; omega, hd H sm ?_⟩
    rw [hD, List.take_length]
theorem at_ofA {α : Type} {xs : List α} {z : Int} {j : Nat} {v : α} (e : z = (j : Int)) (h : xs[j]? = some v) : atI xs z = some v := by
  rw [e]
  exact atI_nat h
/-! ### written texts -/
theorem t_dot : (V.str (Str.ofString ".")) = T [46] := by rw [show Str.ofString "." = mkS [46] by decide +kernel]; rfl
theorem t_dots : (V.str (Str.ofString "..")) = T [46, 46] := by rw [show Str.ofString ".." = mkS [46, 46] by decide +kernel]; rfl
theorem t_none : (V.str (Str.ofString "")) = T [] := by rw [show Str.ofString "" = mkS [] by decide +kernel]; rfl
theorem t_slash : (V.str (Str.ofString "/")) = T [47] := by rw [show Str.ofString "/" = mkS [47] by decide +kernel]; rfl
theorem t_good : Str.ofString "abcdefghijklmnopqrstuvwxyz0123456789.-_" = mkS good := by decide +kernel
theorem s_slash : Str.ofString "/" = mkS [47] := by decide +kernel
theorem starts_slash (l : List Nat) : Txt.startswith (mkS l) (mkS [47]) = decide (l.head? = some 47) := by
  cases l with
  | nil => decide +kernel
  | cons c r =>
    have e : Txt.startswith (mkS (c :: r)) (mkS [47]) = Builtin.Str.subAt (mkS (c :: r)) (mkS [47]) 0 := by
      unfold Txt.startswith
      rw [decide_eq_true (by rw [len_mkS, len_mkS]; simp), Bool.true_and]
    rw [e]
    unfold Builtin.Str.subAt
    simp [mkS, Str.length]
    exact Bool.eq_iff_iff.mpr (by simp)
end Fc

namespace Fc
open PySem PySem.Spec L2 PyProof.Rows
/-! ### a comprehension whose items are known by what holds of them -/
theorem lc_rowG {K : PySem.W.Frag} {a : Addr} {xs : List V} {G : Nat → V → Hp → Prop} {te : TE} {vs : List Nat} {σ : L2.St} {H1 : Hp} {D : Addr} {j : Nat} {Qd : Hp → Prop} (nD : H1 D = none) (hs : SqL K H1 a xs) (hz : xs.length ≤ sizeLine)
    (hw : ∀ x, wipe ((wipe σ vs).set j (some x)) vs = wipe σ vs) (gk : ∀ i v H H', Same H H' → G i v H → G i v H') (gu : ∀ i v H ys zs, H D = some (.lst ys) → G i v H → G i v (upd H D (.lst zs)))
    (turn : ∀ (i : Nat) (x : V) (H : Hp) (R : V → Hp → Prop), xs[i]? = some x → Same H1 H → (∀ y H', Same H H' → G i y H' → R y H') → te ((wipe σ vs).set j (some x)) H R) (hd : ∀ ys H', ys.length = xs.length → (∀ i y, ys[i]? = some y → G i y H') → Same H1 H' → H' D = some (.lst ys) → Qd H') :
    ∃ W : Nat → Nat → Hp → Prop, (∃ m, W 0 m (upd H1 D (.lst []))) ∧ ∀ i m H, W i m H →
      ((Itl K a).stop i H ∧ Qd H) ∨ ((Itl K a).go i H ∧ ∃ Nx : Hp → Prop, (∀ H', Nx H' → ∃ m', m' < m ∧ W (i + 1) m' H') ∧ ∀ x H', (Itl K a).yld i H x H' → gName j x (wipe σ vs) H' fun σ2 H2 => wipe σ2 vs = wipe σ vs ∧ tYes σ2 H2 fun b H3 =>
        if b = true then te σ2 H3 fun y H4 => ∃ acc, H4 D = some (.lst acc) ∧ acc.length < sizeLine ∧ Nx (upd H4 D (.lst (acc ++ [y]))) else Nx H3) := by
  refine lc_list (xs := xs) (fun i H => Same H1 H ∧ ∃ ys, ys.length = i ∧ H D = some (.lst ys) ∧ ∀ k y, ys[k]? = some y → G k y H) ⟨grow nD, [], rfl, upd_same, fun k y h => nomatch h⟩ (fun i H _ p => p.1.seq hs) (fun i x H hx p => ?_) (fun H p => ?_)
  · have hi : i < xs.length := (List.getElem?_eq_some_iff.mp hx).1
    obtain ⟨sm1, ys, ly, hD, hg⟩ := p
    refine ⟨hw x, ?_⟩
    unfold tYes
    dsimp only
    rw [if_pos rfl]
    refine turn i x H _ hx sm1 fun y H' sm gy => ⟨ys, sm _ _ hD, by omega, ?_, ys ++ [y], ?_, upd_same, ?_⟩
    · intro b o e
      have hb : b ≠ D := ne_of_none e nD
      rw [upd_ne hb]
      exact sm _ _ (sm1 _ _ e)
    · rw [List.length_append, ly]
      rfl
    · intro k z hk
      by_cases lt : k < ys.length
      · rw [List.getElem?_append_left lt] at hk
        exact gu _ _ _ _ _ (sm _ _ hD) (gk _ _ _ _ sm (hg k z hk))
      · rw [List.getElem?_append_right (by omega)] at hk
        have e : k = i := by
          have := (List.getElem?_eq_some_iff.mp hk).1
          simp only [List.length_cons, List.length_nil] at this
          omega
        subst e
        rw [ly, Nat.sub_self] at hk
        cases hk
        exact gu _ _ _ _ _ (sm _ _ hD) gy
  · obtain ⟨sm1, ys, ly, hD, hg⟩ := p
    exact hd ys H ly hg sm1 hD
/-- the same of flat things -/
theorem lc_rowP {K : PySem.W.Frag} {a : Addr} {xs : List V} {G : V → Prop} {te : TE} {vs : List Nat} {σ : L2.St} {H1 : Hp} {D : Addr} {j : Nat} {Qd : Hp → Prop} (nD : H1 D = none) (hs : SqL K H1 a xs) (hz : xs.length ≤ sizeLine)
    (hw : ∀ x, wipe ((wipe σ vs).set j (some x)) vs = wipe σ vs)
    (turn : ∀ (i : Nat) (x : V) (H : Hp) (R : V → Hp → Prop), xs[i]? = some x → Same H1 H → (∀ y H', Same H H' → G y → R y H') → te ((wipe σ vs).set j (some x)) H R) (hd : ∀ ys H', ys.length = xs.length → (∀ y ∈ ys, G y) → Same H1 H' → H' D = some (.lst ys) → Qd H') :
    ∃ W : Nat → Nat → Hp → Prop, (∃ m, W 0 m (upd H1 D (.lst []))) ∧ ∀ i m H, W i m H →
      ((Itl K a).stop i H ∧ Qd H) ∨ ((Itl K a).go i H ∧ ∃ Nx : Hp → Prop, (∀ H', Nx H' → ∃ m', m' < m ∧ W (i + 1) m' H') ∧ ∀ x H', (Itl K a).yld i H x H' → gName j x (wipe σ vs) H' fun σ2 H2 => wipe σ2 vs = wipe σ vs ∧ tYes σ2 H2 fun b H3 =>
        if b = true then te σ2 H3 fun y H4 => ∃ acc, H4 D = some (.lst acc) ∧ acc.length < sizeLine ∧ Nx (upd H4 D (.lst (acc ++ [y]))) else Nx H3) :=
  lc_rowG (G := fun _ v _ => G v) nD hs hz hw (fun _ _ _ _ _ h => h) (fun _ _ _ _ _ _ h => h) turn (fun ys H' l h => hd ys H' l fun y hy => by
    obtain ⟨i, e⟩ := List.getElem?_of_mem hy
    exact h i y e)
theorem lc_rngP {lo : Int} {n : Nat} {G : V → Prop} {te : TE} {vs : List Nat} {σ : L2.St} {H1 : Hp} {D : Addr} {j : Nat} {Qd : Hp → Prop} (nD : H1 D = none) (hz : n ≤ sizeLine)
    (hw : ∀ x, wipe ((wipe σ vs).set j (some x)) vs = wipe σ vs)
    (turn : ∀ (i : Nat) (H : Hp) (R : V → Hp → Prop), i < n → Same H1 H → (∀ y H', Same H H' → G y → R y H') → te ((wipe σ vs).set j (some (.int (lo + i)))) H R) (hd : ∀ ys H', ys.length = n → (∀ y ∈ ys, G y) → Same H1 H' → H' D = some (.lst ys) → Qd H') :
    ∃ W : Nat → Nat → Hp → Prop, (∃ m, W 0 m (upd H1 D (.lst []))) ∧ ∀ i m H, W i m H →
      ((Itr lo n).stop i H ∧ Qd H) ∨ ((Itr lo n).go i H ∧ ∃ Nx : Hp → Prop, (∀ H', Nx H' → ∃ m', m' < m ∧ W (i + 1) m' H') ∧ ∀ x H', (Itr lo n).yld i H x H' → gName j x (wipe σ vs) H' fun σ2 H2 => wipe σ2 vs = wipe σ vs ∧ tYes σ2 H2 fun b H3 =>
        if b = true then te σ2 H3 fun y H4 => ∃ acc, H4 D = some (.lst acc) ∧ acc.length < sizeLine ∧ Nx (upd H4 D (.lst (acc ++ [y]))) else Nx H3) := by
  refine lc_range (fun i H => Same H1 H ∧ ∃ ys, ys.length = i ∧ H D = some (.lst ys) ∧ ∀ y ∈ ys, G y) ⟨grow nD, [], rfl, upd_same, fun y h => nomatch h⟩ (fun i H hi p => ?_) (fun H p => ?_)
  · obtain ⟨sm1, ys, ly, hD, hg⟩ := p
    refine ⟨hw _, ?_⟩
    unfold tYes
    dsimp only
    rw [if_pos rfl]
    refine turn i H _ hi sm1 fun y H' sm gy => ⟨ys, sm _ _ hD, by omega, ?_, ys ++ [y], ?_, upd_same, ?_⟩
    · intro b o e
      have hb : b ≠ D := ne_of_none e nD
      rw [upd_ne hb]
      exact sm _ _ (sm1 _ _ e)
    · rw [List.length_append, ly]
      rfl
    · intro z hz
      rcases List.mem_append.mp hz with hz | hz
      · exact hg z hz
      · rw [List.mem_singleton.mp hz]
        exact gy
  · obtain ⟨sm1, ys, ly, hD, hg⟩ := p
    exact hd ys H ly hg sm1 hD
def PartV (v : V) : Prop := ∃ p : List Nat, v = T p ∧ partOk p
theorem partsV : ∀ {vs : List V}, (∀ v ∈ vs, PartV v) → ∃ ps : List (List Nat), vs = ps.map T ∧ ∀ p ∈ ps, partOk p
  | [], _ => ⟨[], rfl, fun p h => by cases h⟩
  | v :: r, h => by
    obtain ⟨p, rfl, hp⟩ := h v (by simp)
    obtain ⟨ps, rfl, hps⟩ := partsV fun u hu => h u (List.mem_cons_of_mem _ hu)
    refine ⟨p :: ps, rfl, fun q hq => ?_⟩
    rcases List.mem_cons.mp hq with rfl | hq
    · exact hp
    · exact hps q hq
theorem iteNS2 {b : Bool} {a c : Prop} (h : b = false) (k : c) : if b = true then a else c := by
  rw [h, if_neg Bool.false_ne_true]
  exact k
/-! ### cuts of any row -/
theorem cutV_to (xs : List V) (k : Nat) : cutV xs none (some (k : Int)) = xs.take k := by
  unfold cutV
  rw [HT.sIx_none, HT.sIx_nat, List.drop_zero, Nat.sub_zero]
  by_cases h : k ≤ xs.length
  · rw [Nat.min_eq_left h]
  · have h' : xs.length ≤ k := by omega
    rw [Nat.min_eq_right h', List.take_of_length_le (Nat.le_refl _), List.take_of_length_le h']
theorem cutV_from (xs : List V) (k : Nat) : cutV xs (some (k : Int)) none = xs.drop k := by
  unfold cutV
  rw [HT.sIx_none, HT.sIx_nat]
  by_cases h : k ≤ xs.length
  · rw [Nat.min_eq_left h]
    exact List.take_of_length_le (by rw [List.length_drop]; omega)
  · have h' : xs.length ≤ k := by omega
    rw [Nat.min_eq_right h', List.drop_of_length_le (Nat.le_refl _), List.drop_of_length_le h', List.take_nil]
theorem cut_some (ns : List Int) (lo hi : Option Int) : ∃ ms : List Int, cutV (ns.map V.int) lo hi = ms.map V.int ∧ ms.length ≤ ns.length := by
  refine ⟨(ns.drop (HT.sIx ns.length 0 lo)).take (HT.sIx ns.length ns.length hi - HT.sIx ns.length 0 lo), ?_, ?_⟩
  · unfold cutV
    rw [List.length_map, List.map_take, List.map_drop]
  · rw [List.length_take, List.length_drop]
    omega
theorem cutS_to (l : List Nat) (k : Nat) : cutS (mkS l) none (some (k : Int)) = mkS (l.take k) := by
  rw [mkS_cut, HT.sIx_none, HT.sIx_nat, List.drop_zero, Nat.sub_zero]
  by_cases h : k ≤ l.length
  · rw [Nat.min_eq_left h]
  · have h' : l.length ≤ k := by omega
    rw [Nat.min_eq_right h', List.take_of_length_le (Nat.le_refl _), List.take_of_length_le h']
theorem cutS_from (l : List Nat) (k : Nat) : cutS (mkS l) (some (k : Int)) none = mkS (l.drop k) := by
  rw [mkS_cut, HT.sIx_none, HT.sIx_nat]
  by_cases h : k ≤ l.length
  · rw [Nat.min_eq_left h]
    rw [List.take_of_length_le (by rw [List.length_drop]; omega)]
  · have h' : l.length ≤ k := by omega
    rw [Nat.min_eq_right h', List.drop_of_length_le (Nat.le_refl _), List.drop_of_length_le h', List.take_nil]
/-! ### rows of texts -/
def TxtOk (m : Nat) (v : V) : Prop := ∃ p : List Nat, v = T p ∧ p.length ≤ m
theorem txts {m : Nat} : ∀ {vs : List V}, (∀ v ∈ vs, TxtOk m v) → ∃ ps : List (List Nat), vs = ps.map T ∧ ∀ p ∈ ps, p.length ≤ m
  | [], _ => ⟨[], rfl, fun p h => by cases h⟩
  | v :: r, h => by
    obtain ⟨p, rfl, hp⟩ := h v (by simp)
    obtain ⟨ps, rfl, hps⟩ := txts fun u hu => h u (List.mem_cons_of_mem _ hu)
    refine ⟨p :: ps, rfl, fun q hq => ?_⟩
    rcases List.mem_cons.mp hq with rfl | hq
    · exact hp
    · exact hps q hq
theorem mapT (ps : List (List Nat)) : (ps.map mkS).map V.str = ps.map T := by rw [List.map_map]; rfl
theorem sum_sizes {m : Nat} : ∀ (ks : List (List Nat)), (∀ p ∈ ks, p.length ≤ m) → ((ks.map mkS).map (·.length)).sum ≤ ks.length * m
  | [], _ => by simp
  | x :: r, h => by
    have h1 := h x (by simp)
    have h2 := sum_sizes r fun p hp => h p (List.mem_cons_of_mem _ hp)
    rw [List.map_cons, List.map_cons, List.sum_cons, len_mkS, List.length_cons, Nat.add_mul, Nat.one_mul]
    omega
theorem splitC_sizes (c : Nat) : ∀ (l : List Nat) (p : List Nat), p ∈ splitC c l → p.length ≤ l.length
  | [], p, h => by
    rw [splitC, List.mem_singleton] at h
    rw [h]
    exact Nat.le_refl _
  | x :: r, p, h => by
    rw [splitC] at h
    by_cases z : x = c
    · rw [if_pos z] at h
      rcases List.mem_cons.mp h with h | h
      · rw [h]
        exact Nat.zero_le _
      · exact Nat.le_succ_of_le (splitC_sizes c r p h)
    · rw [if_neg z] at h
      cases e : splitC c r with
      | nil => exact absurd e (splitC_ne c r)
      | cons q qs =>
        rw [e] at h
        rcases List.mem_cons.mp h with h | h
        · rw [h, List.length_cons, List.length_cons]
          exact Nat.succ_le_succ (splitC_sizes c r q (by rw [e]; simp))
        · exact Nat.le_succ_of_le (splitC_sizes c r p (by rw [e]; exact List.mem_cons_of_mem _ h))
theorem splitC_many (c : Nat) : ∀ (l : List Nat), (splitC c l).length ≤ l.length + 1
  | [] => by simp [splitC]
  | x :: r => by
    have ih := splitC_many c r
    rw [splitC]
    by_cases z : x = c
    · rw [if_pos z, List.length_cons, List.length_cons]
      omega
    · rw [if_neg z]
      cases e : splitC c r with
      | nil => simp
      | cons q qs =>
        rw [e] at ih
        show (qs.length + 1) ≤ r.length + 1 + 1
        rw [List.length_cons] at ih
        omega
theorem len_str (x : String) : (Str.ofString x).length = (TL.tl (Str.ofString x)).length := by
  rw [← len_mkS, mkS_tl]
theorem at_last {α : Type} {xs : List α} {v : α} (h : xs.getLast? = some v) : atI xs (-1) = some v := by
  obtain ⟨ys, rfl⟩ := List.getLast?_eq_some_iff.mp h
  exact atI_last ys v
/-! ### rows of texts, as data -/
abbrev dTxts (ls : List (List Nat)) : PyData := .tuple (ls.map fun l => PyData.str (mkS l))
theorem dpTxtsAll {K : PySem.W.Frag} {H : Hp} : ∀ (ls : List (List Nat)), DpAll K H (ls.map T) (ls.map fun l => PyData.str (mkS l))
  | [] => .nil
  | a :: r => .cons (.str _) (dpTxtsAll r)
theorem dpTxts {K : PySem.W.Frag} {H : Hp} {p : Addr} {ls : List (List Nat)} (h : SqT K H p (ls.map T)) : Dp K H (.ref p) (dTxts ls) := .tup h (dpTxtsAll ls)
theorem tupsAll_txts : ∀ (ls : List (List Nat)), tupsAll (ls.map fun l => PyData.str (mkS l)) = true
  | [] => rfl
  | a :: r => by rw [List.map_cons, tupsAll, tupsAll_txts r]; rfl
theorem depthAll_txts : ∀ (ls : List (List Nat)), PyData.depthAll (ls.map fun l => PyData.str (mkS l)) = 0
  | [] => rfl
  | a :: r => by rw [List.map_cons, PyData.depthAll, depthAll_txts r]; rfl
theorem dTxts_ok (ls : List (List Nat)) (h : ls.length ≤ 100000) : tupsOnly (dTxts ls) = true ∧ PyData.depth (dTxts ls) ≤ 1 := ⟨by
  rw [tupsOnly, tupsAll_txts, decide_eq_true (by rw [List.length_map]; exact h)]
  rfl, by
  show PyData.depthAll (ls.map fun l => PyData.str (mkS l)) + 1 ≤ 1
  rw [depthAll_txts]
  exact Nat.le_refl 1⟩
theorem eqV_txt (a b : List Nat) : eqV (T a) (T b) = decide (a = b) := by
  show (decide (mkS a = mkS b) : Bool) = _ 
  by_cases z : a = b
  · rw [z]; simp
  · rw [decide_eq_false z]
    exact decide_eq_false fun k => z (mkS_inj k)
theorem inV_txt (p : List Nat) : ∀ ls : List (List Nat), inV (T p) (ls.map T) = decide (p ∈ ls)
  | [] => by simp [inV]
  | l :: r => by
    have ih := inV_txt p r
    unfold inV at ih ⊢
    rw [List.map_cons, List.any_cons, ih, eqV_txt]
    by_cases z : l = p
    · subst z; simp
    · rw [decide_eq_false z, Bool.false_or]
      by_cases y : p ∈ r
      · rw [decide_eq_true y, decide_eq_true (List.mem_cons_of_mem _ y)]
      · rw [decide_eq_false y]
        exact (decide_eq_false fun k => by
          rcases List.mem_cons.mp k with k | k
          · exact z k.symm
          · exact y k).symm
theorem flat_txts : ∀ ls : List (List Nat), (ls.map T).all flatV = true
  | [] => rfl
  | l :: r => by rw [List.map_cons, List.all_cons, flat_txts r]; rfl
end Fc

namespace Fc
open PySem PySem.Spec L2 PyProof.Rows
/-! ### rules for within a comprehension, where the frag is given by name -/
section
variable {X : Cx} {K : PySem.W.Frag}
theorem ix_listq (hK : X.K = K) : IxR X (rIxL K) := by subst hK; exact ix_list
theorem ix_tupq (hK : X.K = K) : IxR X (rIxT K) := by subst hK; exact ix_tup
theorem sl_listq (hK : X.K = K) : SlR X (rSlL K) := by subst hK; exact sl_list
theorem sl_tupUq (hK : X.K = K) : SlR X (rSlU K) := by subst hK; exact sl_tupU
theorem op_catUq (hK : X.K = K) : OpR X (binaryOp .Add) (rCatU K) := by subst hK; exact op_catU
theorem op_in_seqq (hK : X.K = K) : OpR X (compareOp .In) (rIn K false) := by subst hK; exact op_in_seq
theorem op_notIn_seqq (hK : X.K = K) : OpR X (compareOp .NotIn) (rIn K true) := by subst hK; exact op_notIn_seq
theorem op_eqDq (hK : X.K = K) (hu : X.A.units + 64 < cLine) : OpR X (compareOp .Eq) (rEqD K) := by subst hK; exact op_eqD hu
theorem op_neDq (hK : X.K = K) (hu : X.A.units + 64 < cLine) : OpR X (compareOp .NotEq) (rNeD K) := by subst hK; exact op_neD hu
theorem call_len_seqq (hK : X.K = K) : CallR X (.builtin "len") (fun xs H Q => ∃ p ys, xs = [.ref p] ∧ (SqL K H p ys ∨ SqT K H p ys) ∧ Q (.int ys.length) H) := by subst hK; exact call_len_seq
theorem call_tupleUq (hK : X.K = K) : CallR X (.type "tuple") (fun xs H Q => ∃ p ys, xs = [.ref p] ∧ SqL K H p ys ∧ Tups K H ys Q) := by subst hK; exact call_tupleU
theorem call_isiq (hK : X.K = K) : CallR X (.builtin "isinstance") (rIsi K) := by subst hK; exact call_isi
theorem pe_tupUq (hK : X.K = K) {es : List Expr} {x1 : Nat} {pos : Pos} {t : TA} (h : PA X es t) : PE X (.Tuple es x1 pos) (tTupU K t) := by subst hK; exact pe_tupU h
theorem pe_notTq (hK : X.K = K) {a : Expr} {ta : TE} {pos : Pos} (ha : PE X a ta) : PE X (.UnaryOp .Not a pos) (tNotT K ta) := by subst hK; exact pe_notT ha
def tTru (K : PySem.W.Frag) (ta : TE) : TT := fun σ H Q => ta σ H fun x H' => ∃ k, TruV K x H' k ∧ Q k H'
theorem pt_truthq (hK : X.K = K) {a : Expr} {ta : TE} (ha : PE X a ta) (he : ∀ whole, isTrue a X.env whole = (do let v ← whole; standAt a.pos; holding [v] (truthy v))) :
    PT X a (tTru K ta) := by subst hK; exact pt_truth ha he
theorem pi_listq (hK : X.K = K) {l tg : Expr} {tl : TE} (hl : PE X l tl) : PI X tg l (iList K tl) := by subst hK; exact pi_list hl
theorem pi_tupq (hK : X.K = K) {l tg : Expr} {tl : TE} (hl : PE X l tl) : PI X tg l (iTup K tl) := by subst hK; exact pi_tup hl
theorem pe_joinq (hK : X.K = K) {o e : Expr} {to te : TE} {apos pos : Pos} (ho : PE X o to) (he : PE X e te) (hs : starEach [e] X.env = [(false, eval e X.env)] := by rfl) (hbase : attributeBase o "join" X.env (eval o X.env) = eval o X.env := by rfl) (hline : (apos.endLine == pos.line) = true := by rfl) :
    PE X (.Call (.Attribute o "join" apos) [e] [] pos) (tM1 (fun x xs H Q => ∃ a p, ∃ ys : List Str, x = .str a ∧ xs = [.ref p] ∧ (SqL K H p (ys.map V.str) ∨ SqT K H p (ys.map V.str)) ∧
      (ys.map (·.length)).sum + ys.length * a.length ≤ 16777216 ∧ Q (.str (Txt.join a ys)) H) to te) := by subst hK; exact pe_join ho he hs hbase hline
end
end Fc

namespace Fc
open PySem PySem.Spec L2 PyProof.Rows
/-! ### two rows, one by one -/
inductive Al2 {α β : Type} (R : α → β → Prop) : List α → List β → Prop
  | nil : Al2 R [] []
  | cons {x : α} {y : β} {xs : List α} {ys : List β} (h : R x y) (hs : Al2 R xs ys) : Al2 R (x :: xs) (y :: ys)
theorem Al2.mono {α β : Type} {R S : α → β → Prop} (f : ∀ x y, R x y → S x y) : ∀ {xs : List α} {ys : List β}, Al2 R xs ys → Al2 S xs ys
  | _, _, .nil => .nil
  | _, _, .cons h hs => .cons (f _ _ h) (hs.mono f)
theorem Al2.length {α β : Type} {R : α → β → Prop} : ∀ {xs : List α} {ys : List β}, Al2 R xs ys → ys.length = xs.length
  | _, _, .nil => rfl
  | _, _, .cons _ hs => congrArg (· + 1) hs.length
theorem Al2.snoc {α β : Type} {R : α → β → Prop} {x : α} {y : β} (h : R x y) : ∀ {xs : List α} {ys : List β}, Al2 R xs ys → Al2 R (xs ++ [x]) (ys ++ [y])
  | _, _, .nil => .cons h .nil
  | _, _, .cons k hs => .cons k (hs.snoc h)
theorem Al2.eq_map {α β : Type} {f : α → β} : ∀ {xs : List α} {ys : List β}, Al2 (fun x y => y = f x) xs ys → ys = xs.map f
  | _, _, .nil => rfl
  | _, _, .cons h hs => by rw [List.map_cons, h, hs.eq_map]
theorem Al2.get {α β : Type} {R : α → β → Prop} : ∀ {xs : List α} {ys : List β} {i : Nat} {y : β}, Al2 R xs ys → ys[i]? = some y → ∃ x, xs[i]? = some x ∧ R x y
  | _, _, _, _, .nil, h => by cases h
  | _, _, 0, _, .cons h hs, e => by cases e; exact ⟨_, rfl, h⟩
  | _, _, i + 1, _, .cons h hs, e => hs.get (i := i) e
theorem Al2.mem {α β : Type} {R : α → β → Prop} : ∀ {xs : List α} {ys : List β} {y : β}, Al2 R xs ys → y ∈ ys → ∃ x ∈ xs, R x y
  | _, _, _, .nil, h => by cases h
  | _, _, _, .cons h hs, e => by
    rcases List.mem_cons.mp e with rfl | e
    · exact ⟨_, List.mem_cons_self .., h⟩
    · obtain ⟨x, hx, r⟩ := hs.mem e
      exact ⟨x, List.mem_cons_of_mem _ hx, r⟩
theorem take_filter {α : Type} {xs : List α} {i : Nat} {x : α} (keep : α → Bool) (h : xs[i]? = some x) : (xs.take (i + 1)).filter keep = (xs.take i).filter keep ++ (if keep x = true then [x] else []) := by
  rw [List.take_add_one, h, Option.toList_some, List.filter_append]
  congr 1
  by_cases k : keep x = true
  · rw [if_pos k, List.filter_cons_of_pos k]; rfl
  · rw [if_neg k, List.filter_cons_of_neg k]; rfl
/-! ### [e for x in xs if test]: which are kept, and what holds of the items -/
section
variable {xs : List V} {keep : V → Bool} {G : V → V → Hp → Prop} {tt : TT} {te : TE} {vs : List Nat} {σ : L2.St} {H1 : Hp} {D : Addr} {j : Nat} {Qd : Hp → Prop}
def LcP (xs : List V) (keep : V → Bool) (G : V → V → Hp → Prop) (H1 : Hp) (D : Addr) (i : Nat) (H : Hp) : Prop := Same H1 H ∧ ∃ ys, H D = some (.lst ys) ∧ Al2 (fun x y => G x y H) ((xs.take i).filter keep) ys
theorem lcp_step (nD : H1 D = none) (hz : xs.length ≤ sizeLine) (gk : ∀ x y H H', Same H H' → G x y H → G x y H') (gu : ∀ x y H ys zs, H D = some (.lst ys) → G x y H → G x y (upd H D (.lst zs)))
    (test : ∀ (i : Nat) (x : V) (H : Hp) (R : Bool → Hp → Prop), xs[i]? = some x → Same H1 H → (∀ H', Same H H' → R (keep x) H') → tt ((wipe σ vs).set j (some x)) H R)
    (item : ∀ (i : Nat) (x : V) (H : Hp) (R : V → Hp → Prop), xs[i]? = some x → keep x = true → Same H1 H → (∀ y H', Same H H' → G x y H' → R y H') → te ((wipe σ vs).set j (some x)) H R)
    {i : Nat} {x : V} {H : Hp} (hx : xs[i]? = some x) (p : LcP xs keep G H1 D i H) : tt ((wipe σ vs).set j (some x)) H fun b H3 =>
      if b = true then te ((wipe σ vs).set j (some x)) H3 fun y H4 => ∃ acc, H4 D = some (.lst acc) ∧ acc.length < sizeLine ∧ LcP xs keep G H1 D (i + 1) (upd H4 D (.lst (acc ++ [y]))) else LcP xs keep G H1 D (i + 1) H3 := by
  have hi : i < xs.length := (List.getElem?_eq_some_iff.mp hx).1
  obtain ⟨sm, ys, hD, al⟩ := p
  refine test i x H _ hx sm fun H3 s3 => ?_
  by_cases k : keep x = true
  · rw [if_pos k]
    refine item i x H3 _ hx k (sm.trans s3) fun y H4 s4 gy => ⟨ys, s4 _ _ (s3 _ _ hD), ?_, ?_, ys ++ [y], upd_same, ?_⟩
    · have := al.length
      have l2 := List.length_filter_le keep (xs.take i)
      rw [List.length_take] at l2
      omega
    · intro b o e
      have hb : b ≠ D := ne_of_none e nD
      rw [upd_ne hb]
      exact s4 _ _ (s3 _ _ (sm _ _ e))
    · rw [take_filter keep hx, if_pos k]
      have hD4 := s4 _ _ (s3 _ _ hD)
      have al2 : Al2 (fun u v => G u v (upd H4 D (.lst (ys ++ [y])))) ((xs.take i).filter keep) ys := al.mono fun u v g => gu _ _ _ _ _ hD4 (gk _ _ _ _ (s3.trans s4) g)
      exact Al2.snoc (R := fun u v => G u v (upd H4 D (.lst (ys ++ [y])))) (gu _ _ _ _ _ hD4 gy) al2
  · rw [if_neg k]
    refine ⟨sm.trans s3, ys, s3 _ _ hD, ?_⟩
    rw [take_filter keep hx, if_neg k, List.append_nil]
    exact al.mono fun u v g => gk _ _ _ _ s3 g
theorem lcG_list {K : PySem.W.Frag} {a : Addr} (nD : H1 D = none) (hs : SqL K H1 a xs) (hz : xs.length ≤ sizeLine) (hw : ∀ x, wipe ((wipe σ vs).set j (some x)) vs = wipe σ vs)
    (gk : ∀ x y H H', Same H H' → G x y H → G x y H') (gu : ∀ x y H ys zs, H D = some (.lst ys) → G x y H → G x y (upd H D (.lst zs)))
    (test : ∀ (i : Nat) (x : V) (H : Hp) (R : Bool → Hp → Prop), xs[i]? = some x → Same H1 H → (∀ H', Same H H' → R (keep x) H') → tt ((wipe σ vs).set j (some x)) H R)
    (item : ∀ (i : Nat) (x : V) (H : Hp) (R : V → Hp → Prop), xs[i]? = some x → keep x = true → Same H1 H → (∀ y H', Same H H' → G x y H' → R y H') → te ((wipe σ vs).set j (some x)) H R)
    (hd : ∀ ys H', Al2 (fun x y => G x y H') (xs.filter keep) ys → Same H1 H' → H' D = some (.lst ys) → Qd H') :
    ∃ W : Nat → Nat → Hp → Prop, (∃ m, W 0 m (upd H1 D (.lst []))) ∧ ∀ i m H, W i m H →
      ((Itl K a).stop i H ∧ Qd H) ∨ ((Itl K a).go i H ∧ ∃ Nx : Hp → Prop, (∀ H', Nx H' → ∃ m', m' < m ∧ W (i + 1) m' H') ∧ ∀ x H', (Itl K a).yld i H x H' → gName j x (wipe σ vs) H' fun σ2 H2 => wipe σ2 vs = wipe σ vs ∧ tt σ2 H2 fun b H3 =>
        if b = true then te σ2 H3 fun y H4 => ∃ acc, H4 D = some (.lst acc) ∧ acc.length < sizeLine ∧ Nx (upd H4 D (.lst (acc ++ [y]))) else Nx H3) := by
  refine lc_list (xs := xs) (LcP xs keep G H1 D) ⟨grow nD, [], upd_same, .nil⟩ (fun i H _ p => p.1.seq hs) (fun i x H hx p => ⟨hw x, lcp_step nD hz gk gu test item hx p⟩) (fun H p => ?_)
  obtain ⟨sm, ys, hD, al⟩ := p
  rw [List.take_length] at al
  exact hd ys H al sm hD
theorem lcG_tup {K : PySem.W.Frag} {a : Addr} (nD : H1 D = none) (hs : SqT K H1 a xs) (hz : xs.length ≤ sizeLine) (hw : ∀ x, wipe ((wipe σ vs).set j (some x)) vs = wipe σ vs)
    (gk : ∀ x y H H', Same H H' → G x y H → G x y H') (gu : ∀ x y H ys zs, H D = some (.lst ys) → G x y H → G x y (upd H D (.lst zs)))
    (test : ∀ (i : Nat) (x : V) (H : Hp) (R : Bool → Hp → Prop), xs[i]? = some x → Same H1 H → (∀ H', Same H H' → R (keep x) H') → tt ((wipe σ vs).set j (some x)) H R)
    (item : ∀ (i : Nat) (x : V) (H : Hp) (R : V → Hp → Prop), xs[i]? = some x → keep x = true → Same H1 H → (∀ y H', Same H H' → G x y H' → R y H') → te ((wipe σ vs).set j (some x)) H R)
    (hd : ∀ ys H', Al2 (fun x y => G x y H') (xs.filter keep) ys → Same H1 H' → H' D = some (.lst ys) → Qd H') :
    ∃ W : Nat → Nat → Hp → Prop, (∃ m, W 0 m (upd H1 D (.lst []))) ∧ ∀ i m H, W i m H →
      ((Itt K a).stop i H ∧ Qd H) ∨ ((Itt K a).go i H ∧ ∃ Nx : Hp → Prop, (∀ H', Nx H' → ∃ m', m' < m ∧ W (i + 1) m' H') ∧ ∀ x H', (Itt K a).yld i H x H' → gName j x (wipe σ vs) H' fun σ2 H2 => wipe σ2 vs = wipe σ vs ∧ tt σ2 H2 fun b H3 =>
        if b = true then te σ2 H3 fun y H4 => ∃ acc, H4 D = some (.lst acc) ∧ acc.length < sizeLine ∧ Nx (upd H4 D (.lst (acc ++ [y]))) else Nx H3) := by
  refine ⟨fun i m H => m = xs.length - i ∧ i ≤ xs.length ∧ LcP xs keep G H1 D i H, ⟨xs.length, rfl, Nat.zero_le _, grow nD, [], upd_same, .nil⟩, ?_⟩
  rintro i m H ⟨rfl, hi, p⟩
  have q := keepT p.1 hs
  by_cases lt : i < xs.length
  · refine .inr ⟨⟨xs, xs[i], q, List.getElem?_eq_getElem lt⟩, LcP xs keep G H1 D (i + 1), fun H' p' => ⟨xs.length - (i + 1), by omega, rfl, lt, p'⟩, fun x H' y => ?_⟩
    obtain ⟨e, y⟩ := y
    subst e
    exact ⟨hw x, lcp_step nD hz gk gu test item (y xs q) p⟩
  · have e : i = xs.length := by omega
    subst e
    obtain ⟨sm, ys, hD, al⟩ := p
    rw [List.take_length] at al
    exact .inl ⟨⟨xs, q, Nat.le_refl _⟩, hd ys H al sm hD⟩
theorem lcG_rng {lo : Int} {n : Nat} (nD : H1 D = none) (hz : n ≤ sizeLine) (ex : xs = (List.range n).map fun i => V.int (lo + (i : Nat))) (hw : ∀ x, wipe ((wipe σ vs).set j (some x)) vs = wipe σ vs)
    (gk : ∀ x y H H', Same H H' → G x y H → G x y H') (gu : ∀ x y H ys zs, H D = some (.lst ys) → G x y H → G x y (upd H D (.lst zs)))
    (test : ∀ (i : Nat) (x : V) (H : Hp) (R : Bool → Hp → Prop), xs[i]? = some x → Same H1 H → (∀ H', Same H H' → R (keep x) H') → tt ((wipe σ vs).set j (some x)) H R)
    (item : ∀ (i : Nat) (x : V) (H : Hp) (R : V → Hp → Prop), xs[i]? = some x → keep x = true → Same H1 H → (∀ y H', Same H H' → G x y H' → R y H') → te ((wipe σ vs).set j (some x)) H R)
    (hd : ∀ ys H', Al2 (fun x y => G x y H') (xs.filter keep) ys → Same H1 H' → H' D = some (.lst ys) → Qd H') :
    ∃ W : Nat → Nat → Hp → Prop, (∃ m, W 0 m (upd H1 D (.lst []))) ∧ ∀ i m H, W i m H →
      ((Itr lo n).stop i H ∧ Qd H) ∨ ((Itr lo n).go i H ∧ ∃ Nx : Hp → Prop, (∀ H', Nx H' → ∃ m', m' < m ∧ W (i + 1) m' H') ∧ ∀ x H', (Itr lo n).yld i H x H' → gName j x (wipe σ vs) H' fun σ2 H2 => wipe σ2 vs = wipe σ vs ∧ tt σ2 H2 fun b H3 =>
        if b = true then te σ2 H3 fun y H4 => ∃ acc, H4 D = some (.lst acc) ∧ acc.length < sizeLine ∧ Nx (upd H4 D (.lst (acc ++ [y]))) else Nx H3) := by
  have lx : xs.length = n := by rw [ex, List.length_map, List.length_range]
  refine lc_range (LcP xs keep G H1 D) ⟨grow nD, [], upd_same, .nil⟩ (fun i H hi p => ⟨hw _, lcp_step nD (by omega) gk gu test item (i := i) ?_ p⟩) (fun H p => ?_)
  · rw [ex, List.getElem?_map, List.getElem?_range hi]
    rfl
  · obtain ⟨sm, ys, hD, al⟩ := p
    rw [← lx, List.take_length] at al
    exact hd ys H al sm hD
/-! ### the same, its items told by a row -/
theorem lcF_list {K : PySem.W.Frag} {a : Addr} (f : V → V) (nD : H1 D = none) (hs : SqL K H1 a xs) (hz : xs.length ≤ sizeLine) (hw : ∀ x, wipe ((wipe σ vs).set j (some x)) vs = wipe σ vs)
    (test : ∀ (i : Nat) (x : V) (H : Hp) (R : Bool → Hp → Prop), xs[i]? = some x → Same H1 H → (∀ H', Same H H' → R (keep x) H') → tt ((wipe σ vs).set j (some x)) H R)
    (item : ∀ (i : Nat) (x : V) (H : Hp) (R : V → Hp → Prop), xs[i]? = some x → keep x = true → Same H1 H → (∀ H', Same H H' → R (f x) H') → te ((wipe σ vs).set j (some x)) H R)
    (hd : ∀ H', Same H1 H' → H' D = some (.lst ((xs.filter keep).map f)) → Qd H') :
    ∃ W : Nat → Nat → Hp → Prop, (∃ m, W 0 m (upd H1 D (.lst []))) ∧ ∀ i m H, W i m H →
      ((Itl K a).stop i H ∧ Qd H) ∨ ((Itl K a).go i H ∧ ∃ Nx : Hp → Prop, (∀ H', Nx H' → ∃ m', m' < m ∧ W (i + 1) m' H') ∧ ∀ x H', (Itl K a).yld i H x H' → gName j x (wipe σ vs) H' fun σ2 H2 => wipe σ2 vs = wipe σ vs ∧ tt σ2 H2 fun b H3 =>
        if b = true then te σ2 H3 fun y H4 => ∃ acc, H4 D = some (.lst acc) ∧ acc.length < sizeLine ∧ Nx (upd H4 D (.lst (acc ++ [y]))) else Nx H3) :=
  lcG_list (G := fun x y _ => y = f x) nD hs hz hw (fun _ _ _ _ _ h => h) (fun _ _ _ _ _ _ h => h) test (fun i x H R hx k sm r => item i x H R hx k sm fun H' s => r _ _ s rfl) fun ys H' al sm h => hd H' sm (by rw [← al.eq_map]; exact h)
theorem lcF_tup {K : PySem.W.Frag} {a : Addr} (f : V → V) (nD : H1 D = none) (hs : SqT K H1 a xs) (hz : xs.length ≤ sizeLine) (hw : ∀ x, wipe ((wipe σ vs).set j (some x)) vs = wipe σ vs)
    (test : ∀ (i : Nat) (x : V) (H : Hp) (R : Bool → Hp → Prop), xs[i]? = some x → Same H1 H → (∀ H', Same H H' → R (keep x) H') → tt ((wipe σ vs).set j (some x)) H R)
    (item : ∀ (i : Nat) (x : V) (H : Hp) (R : V → Hp → Prop), xs[i]? = some x → keep x = true → Same H1 H → (∀ H', Same H H' → R (f x) H') → te ((wipe σ vs).set j (some x)) H R)
    (hd : ∀ H', Same H1 H' → H' D = some (.lst ((xs.filter keep).map f)) → Qd H') :
    ∃ W : Nat → Nat → Hp → Prop, (∃ m, W 0 m (upd H1 D (.lst []))) ∧ ∀ i m H, W i m H →
      ((Itt K a).stop i H ∧ Qd H) ∨ ((Itt K a).go i H ∧ ∃ Nx : Hp → Prop, (∀ H', Nx H' → ∃ m', m' < m ∧ W (i + 1) m' H') ∧ ∀ x H', (Itt K a).yld i H x H' → gName j x (wipe σ vs) H' fun σ2 H2 => wipe σ2 vs = wipe σ vs ∧ tt σ2 H2 fun b H3 =>
        if b = true then te σ2 H3 fun y H4 => ∃ acc, H4 D = some (.lst acc) ∧ acc.length < sizeLine ∧ Nx (upd H4 D (.lst (acc ++ [y]))) else Nx H3) :=
  lcG_tup (G := fun x y _ => y = f x) nD hs hz hw (fun _ _ _ _ _ h => h) (fun _ _ _ _ _ _ h => h) test (fun i x H R hx k sm r => item i x H R hx k sm fun H' s => r _ _ s rfl) fun ys H' al sm h => hd H' sm (by rw [← al.eq_map]; exact h)
end
/-! ### the same over a row that is known by another one -/
section
variable {α : Type} {es : List α} {xs : List V} {keep : α → Bool} {G : α → V → Hp → Prop} {tt : TT} {te : TE} {vs : List Nat} {σ : L2.St} {H1 : Hp} {D : Addr} {j : Nat} {Qd : Hp → Prop}
def LcE (es : List α) (keep : α → Bool) (G : α → V → Hp → Prop) (H1 : Hp) (D : Addr) (i : Nat) (H : Hp) : Prop := Same H1 H ∧ ∃ ys, H D = some (.lst ys) ∧ Al2 (fun e y => G e y H) ((es.take i).filter keep) ys
theorem lce_step (lx : es.length = xs.length) (nD : H1 D = none) (hz : xs.length ≤ sizeLine) (gk : ∀ e y H H', Same H H' → G e y H → G e y H') (gu : ∀ e y H ys zs, e ∈ es → H D = some (.lst ys) → G e y H → G e y (upd H D (.lst zs)))
    (test : ∀ (i : Nat) (e : α) (x : V) (H : Hp) (R : Bool → Hp → Prop), es[i]? = some e → xs[i]? = some x → Same H1 H → (∀ H', Same H H' → R (keep e) H') → tt ((wipe σ vs).set j (some x)) H R)
    (item : ∀ (i : Nat) (e : α) (x : V) (H : Hp) (R : V → Hp → Prop), es[i]? = some e → xs[i]? = some x → keep e = true → Same H1 H → (∀ y H', Same H H' → G e y H' → R y H') → te ((wipe σ vs).set j (some x)) H R)
    {i : Nat} {x : V} {H : Hp} (hx : xs[i]? = some x) (p : LcE es keep G H1 D i H) : tt ((wipe σ vs).set j (some x)) H fun b H3 =>
      if b = true then te ((wipe σ vs).set j (some x)) H3 fun y H4 => ∃ acc, H4 D = some (.lst acc) ∧ acc.length < sizeLine ∧ LcE es keep G H1 D (i + 1) (upd H4 D (.lst (acc ++ [y]))) else LcE es keep G H1 D (i + 1) H3 := by
  have hi : i < xs.length := (List.getElem?_eq_some_iff.mp hx).1
  obtain ⟨e, he⟩ : ∃ e, es[i]? = some e := ⟨_, List.getElem?_eq_getElem (by omega)⟩
  obtain ⟨sm, ys, hD, al⟩ := p
  refine test i e x H _ he hx sm fun H3 s3 => ?_
  by_cases k : keep e = true
  · rw [if_pos k]
    refine item i e x H3 _ he hx k (sm.trans s3) fun y H4 s4 gy => ⟨ys, s4 _ _ (s3 _ _ hD), ?_, ?_, ys ++ [y], upd_same, ?_⟩
    · have := al.length
      have l2 := List.length_filter_le keep (es.take i)
      rw [List.length_take] at l2
      omega
    · intro b o e
      have hb : b ≠ D := ne_of_none e nD
      rw [upd_ne hb]
      exact s4 _ _ (s3 _ _ (sm _ _ e))
    · rw [take_filter keep he, if_pos k]
      have hD4 := s4 _ _ (s3 _ _ hD)
      have mem : ∀ u ∈ (es.take i).filter keep, u ∈ es := fun u hu => (List.take_sublist _ _).mem (List.mem_filter.mp hu).1
      have al2 : Al2 (fun u v => G u v (upd H4 D (.lst (ys ++ [y])))) ((es.take i).filter keep) ys := by
        clear hi he
        revert mem
        generalize (es.take i).filter keep = us at al
        intro mem
        have go : ∀ {us : List α} {ys' : List V}, Al2 (fun e y => G e y H) us ys' → (∀ u ∈ us, u ∈ es) → Al2 (fun u v => G u v (upd H4 D (.lst (ys ++ [y])))) us ys' := by
          intro us ys' al
          induction al with
          | nil => exact fun _ => .nil
          | cons h _ ih => exact fun mem => .cons (gu _ _ _ _ _ (mem _ (by simp)) hD4 (gk _ _ _ _ (s3.trans s4) h)) (ih fun u hu => mem u (List.mem_cons_of_mem _ hu))
        exact go al mem
      exact Al2.snoc (R := fun u v => G u v (upd H4 D (.lst (ys ++ [y])))) (gu _ _ _ _ _ (List.mem_of_getElem? he) hD4 gy) al2
  · rw [if_neg k]
    refine ⟨sm.trans s3, ys, s3 _ _ hD, ?_⟩
    rw [take_filter keep he, if_neg k, List.append_nil]
    exact al.mono fun u v g => gk _ _ _ _ s3 g
theorem lcE_list {K : PySem.W.Frag} {a : Addr} (lx : es.length = xs.length) (nD : H1 D = none) (hs : SqL K H1 a xs) (hz : xs.length ≤ sizeLine) (hw : ∀ x, wipe ((wipe σ vs).set j (some x)) vs = wipe σ vs)
    (gk : ∀ e y H H', Same H H' → G e y H → G e y H') (gu : ∀ e y H ys zs, e ∈ es → H D = some (.lst ys) → G e y H → G e y (upd H D (.lst zs)))
    (test : ∀ (i : Nat) (e : α) (x : V) (H : Hp) (R : Bool → Hp → Prop), es[i]? = some e → xs[i]? = some x → Same H1 H → (∀ H', Same H H' → R (keep e) H') → tt ((wipe σ vs).set j (some x)) H R)
    (item : ∀ (i : Nat) (e : α) (x : V) (H : Hp) (R : V → Hp → Prop), es[i]? = some e → xs[i]? = some x → keep e = true → Same H1 H → (∀ y H', Same H H' → G e y H' → R y H') → te ((wipe σ vs).set j (some x)) H R)
    (hd : ∀ ys H', Al2 (fun e y => G e y H') (es.filter keep) ys → Same H1 H' → H' D = some (.lst ys) → Qd H') :
    ∃ W : Nat → Nat → Hp → Prop, (∃ m, W 0 m (upd H1 D (.lst []))) ∧ ∀ i m H, W i m H →
      ((Itl K a).stop i H ∧ Qd H) ∨ ((Itl K a).go i H ∧ ∃ Nx : Hp → Prop, (∀ H', Nx H' → ∃ m', m' < m ∧ W (i + 1) m' H') ∧ ∀ x H', (Itl K a).yld i H x H' → gName j x (wipe σ vs) H' fun σ2 H2 => wipe σ2 vs = wipe σ vs ∧ tt σ2 H2 fun b H3 =>
        if b = true then te σ2 H3 fun y H4 => ∃ acc, H4 D = some (.lst acc) ∧ acc.length < sizeLine ∧ Nx (upd H4 D (.lst (acc ++ [y]))) else Nx H3) := by
  refine lc_list (xs := xs) (LcE es keep G H1 D) ⟨grow nD, [], upd_same, .nil⟩ (fun i H _ p => p.1.seq hs) (fun i x H hx p => ⟨hw x, lce_step lx nD hz gk gu test item hx p⟩) (fun H p => ?_)
  obtain ⟨sm, ys, hD, al⟩ := p
  rw [← lx, List.take_length] at al
  exact hd ys H al sm hD
theorem lcE_tup {K : PySem.W.Frag} {a : Addr} (lx : es.length = xs.length) (nD : H1 D = none) (hs : SqT K H1 a xs) (hz : xs.length ≤ sizeLine) (hw : ∀ x, wipe ((wipe σ vs).set j (some x)) vs = wipe σ vs)
    (gk : ∀ e y H H', Same H H' → G e y H → G e y H') (gu : ∀ e y H ys zs, e ∈ es → H D = some (.lst ys) → G e y H → G e y (upd H D (.lst zs)))
    (test : ∀ (i : Nat) (e : α) (x : V) (H : Hp) (R : Bool → Hp → Prop), es[i]? = some e → xs[i]? = some x → Same H1 H → (∀ H', Same H H' → R (keep e) H') → tt ((wipe σ vs).set j (some x)) H R)
    (item : ∀ (i : Nat) (e : α) (x : V) (H : Hp) (R : V → Hp → Prop), es[i]? = some e → xs[i]? = some x → keep e = true → Same H1 H → (∀ y H', Same H H' → G e y H' → R y H') → te ((wipe σ vs).set j (some x)) H R)
    (hd : ∀ ys H', Al2 (fun e y => G e y H') (es.filter keep) ys → Same H1 H' → H' D = some (.lst ys) → Qd H') :
    ∃ W : Nat → Nat → Hp → Prop, (∃ m, W 0 m (upd H1 D (.lst []))) ∧ ∀ i m H, W i m H →
      ((Itt K a).stop i H ∧ Qd H) ∨ ((Itt K a).go i H ∧ ∃ Nx : Hp → Prop, (∀ H', Nx H' → ∃ m', m' < m ∧ W (i + 1) m' H') ∧ ∀ x H', (Itt K a).yld i H x H' → gName j x (wipe σ vs) H' fun σ2 H2 => wipe σ2 vs = wipe σ vs ∧ tt σ2 H2 fun b H3 =>
        if b = true then te σ2 H3 fun y H4 => ∃ acc, H4 D = some (.lst acc) ∧ acc.length < sizeLine ∧ Nx (upd H4 D (.lst (acc ++ [y]))) else Nx H3) := by
  refine lc_tup (xs := xs) (LcE es keep G H1 D) ⟨grow nD, [], upd_same, .nil⟩ (fun i H _ p => keepT p.1 hs) (fun i x H hx p => ⟨hw x, lce_step lx nD hz gk gu test item hx p⟩) (fun H p => ?_)
  obtain ⟨sm, ys, hD, al⟩ := p
  rw [← lx, List.take_length] at al
  exact hd ys H al sm hD
end
theorem Al2.at {α β : Type} {R : α → β → Prop} : ∀ {xs : List α} {ys : List β} {i : Nat} {x : α} {y : β}, Al2 R xs ys → xs[i]? = some x → ys[i]? = some y → R x y
  | _, _, _, _, _, .nil, h, _ => by cases h
  | _, _, 0, _, _, .cons h hs, e, k => by cases e; cases k; exact h
  | _, _, i + 1, _, _, .cons h hs, e, k => hs.at (i := i) e k
end Fc

namespace Fc
open PySem PySem.Spec L2 PyProof.Rows
theorem t_by {c : TT} {σ : L2.St} {H : Hp} {Q : Bool → Hp → Prop} (PX PY : Prop) (hX : PX → Q true H) (hY : PY → Q false H) (hc : (∀ k : Bool, (k = true → PX) → (k = false → PY) → Q k H) → c σ H Q) : c σ H Q := hc fun k hx hy => by
  cases k with
  | true => exact hX (hx rfl)
  | false => exact hY (hy rfl)
theorem te_by {t : TE} {σ : L2.St} {H : Hp} {Q : VK} (P : V → Hp → Prop) (hQ : ∀ v H', P v H' → Q v H') (h : (∀ v H', P v H' → Q v H') → t σ H Q) : t σ H Q := h hQ
/-! ### the program's clean: told or refused -/
def OutC (K : PySem.W.Frag) (cB cL : Addr) (H : Hp) (Q : VK) (E : XK) : CRes → Prop
  | .bad => ∀ H', Same H H' → E (.ref cB) none H'
  | .out => ∀ H', Same H H' → E (.ref cL) none H'
  | .ok ps => ∀ H', Same H H' → Q (T (pathOf ps)) H'
def spCln (K : PySem.W.Frag) (cB cL : Addr) : Sp := fun vs H Q E => ∃ l : List Nat, vs = [T l] ∧ l.length ≤ 1000 ∧ OutC K cB cL H Q E (cleanF l)
theorem pathOf_len {ps : List (List Nat)} (h : PathOk ps) : (pathOf ps).length ≤ 104 := by
  have := joinC_len 47 ps 12 fun p hp => (h.2.2 p hp).2.1
  have l8 := h.2.1
  unfold pathOf
  omega
/-! ### the way from a folder to a path -/
def strip : List (List Nat) → List (List Nat) → List (List Nat) × List (List Nat)
  | p :: ps, q :: qs => if p = q then strip ps qs else (p :: ps, q :: qs)
  | ps, qs => (ps, qs)
theorem strip_spec : ∀ (fs gs : List (List Nat)), ∃ c, fs = c ++ (strip fs gs).1 ∧ gs = c ++ (strip fs gs).2
  | [], gs => ⟨[], by simp [strip], by simp [strip]⟩
  | p :: ps, [] => ⟨[], by simp [strip], by simp [strip]⟩
  | p :: ps, q :: qs => by
    rw [strip]
    by_cases z : p = q
    · rw [if_pos z]
      obtain ⟨c, e1, e2⟩ := strip_spec ps qs
      exact ⟨p :: c, by rw [List.cons_append, ← e1], by rw [List.cons_append, ← e2, z]⟩
    · rw [if_neg z]
      exact ⟨[], rfl, rfl⟩
def dots : List Nat := [46, 46]
def wayP (a b : List (List Nat)) : List (List Nat) := a.map (fun _ => dots) ++ b
def wayTo (a b : List (List Nat)) : List Nat := if wayP a b = [] then [46] else joinC 47 (wayP a b)
def wayT (fs gs : List (List Nat)) : List Nat := wayTo (strip fs gs).1 (strip fs gs).2
theorem pops (r : List (List Nat)) : ∀ (n : Nat) (k : List (List Nat)), n ≤ k.length → walkC (List.replicate n dots ++ r) k = walkC r (k.take (k.length - n))
  | 0, k, _ => by simp
  | n + 1, k, h => by
    have k0 : k ≠ [] := fun e => by rw [e] at h; simp at h
    rw [List.replicate_succ, List.cons_append, walkC, if_pos (show dots = [46, 46] from rfl), if_neg k0, pops r n k.dropLast (by rw [List.length_dropLast]; omega), List.length_dropLast, List.dropLast_eq_take, List.take_take]
    congr 2
    omega
def FolOk (fs : List (List Nat)) : Prop := fs = [] ∨ PathOk fs
theorem FolOk.parts {fs : List (List Nat)} (h : FolOk fs) : ∀ p ∈ fs, partOk p := by
  rcases h with rfl | h
  · intro p hp; cases hp
  · exact h.2.2
theorem wayP_stroke {a b : List (List Nat)} (hb : ∀ p ∈ b, partOk p) : ∀ p ∈ wayP a b, 47 ∉ p := by
  intro p hp
  rcases List.mem_append.mp hp with hp | hp
  · obtain ⟨q, _, rfl⟩ := List.mem_map.mp hp
    decide
  · exact no_stroke (hb p hp)
theorem walk_way {fs gs : List (List Nat)} (hf : ∀ p ∈ fs, partOk p) (hg : PathOk gs) : walkC (fs ++ splitC 47 (wayT fs gs)) [] = .ok gs := by
  obtain ⟨c, e1, e2⟩ := strip_spec fs gs
  rw [walkC_parts fs [] _ hf, List.nil_append]
  unfold wayT wayTo
  generalize (strip fs gs).1 = a at e1 e2
  generalize (strip fs gs).2 = b at e1 e2
  have hb : ∀ p ∈ b, partOk p := fun p hp => hg.2.2 p (by rw [e2]; exact List.mem_append_right _ hp)
  have fin : walkC [] gs = .ok gs := by
    rw [walkC, if_neg fun z => by rcases z with z | z; exact hg.1 z; exact absurd hg.2.1 (by omega)]
  by_cases z : wayP a b = []
  · rw [if_pos z]
    unfold wayP at z
    rw [List.append_eq_nil_iff, List.map_eq_nil_iff] at z
    rw [z.1, List.append_nil] at e1
    rw [z.2, List.append_nil] at e2
    rw [show splitC 47 [46] = [[46]] by decide, walkC, if_neg (by decide), if_pos (.inr rfl), e1, ← e2]
    exact fin
  · rw [if_neg z, split_joinC 47 z (wayP_stroke hb)]
    unfold wayP
    rw [List.map_const', pops _ _ _ (by rw [e1, List.length_append]; omega), e1, List.length_append, Nat.add_sub_cancel, List.take_left]
    have w := walkC_parts b c [] hb
    rw [List.append_nil] at w
    rw [w, ← e2]
    exact fin
theorem join_ne {ws : List (List Nat)} (h : ws ≠ []) (hp : ∀ p ∈ ws, p ≠ []) : joinC 47 ws ≠ [] := by
  cases ws with
  | nil => exact absurd rfl h
  | cons p r =>
    have p0 := hp p (by simp)
    cases p with
    | nil => exact absurd rfl p0
    | cons c q =>
      cases r with
      | nil =>
        show (c :: q) ≠ []
        simp
      | cons p2 r2 =>
        show (c :: q) ++ ([47] ++ TL.joinL [47] (p2 :: r2)) ≠ []
        simp
theorem part_ne {p : List Nat} (h : partOk p) : p ≠ [] := fun e => by
  rw [e] at h
  exact absurd h.1 (by decide)
theorem wayP_ne {a b : List (List Nat)} (hb : ∀ p ∈ b, partOk p) : ∀ p ∈ wayP a b, p ≠ [] := by
  intro p hp
  rcases List.mem_append.mp hp with hp | hp
  · obtain ⟨q, _, rfl⟩ := List.mem_map.mp hp
    decide
  · exact part_ne (hb p hp)
theorem pathOf_ne {ps : List (List Nat)} (h : PathOk ps) : pathOf ps ≠ [] := join_ne h.1 fun p hp => part_ne (h.2.2 p hp)
/-- from the top -/
theorem clean_top {gs : List (List Nat)} (hg : PathOk gs) : cleanF (wayT [] gs) = .ok gs := by
  have e : wayT [] gs = pathOf gs := by
    unfold wayT wayTo wayP
    cases gs with
    | nil => exact absurd rfl hg.1
    | cons p r => rfl
  rw [e, clean_path hg]
/-- from a folder -/
theorem clean_way {fs gs : List (List Nat)} (hf : PathOk fs) (hg : PathOk gs) : cleanF (pathOf fs ++ [47] ++ wayT fs gs) = .ok gs := by
  have hd : (pathOf fs ++ [47] ++ wayT fs gs).head? ≠ some 47 := by
    have := head_join hf
    have ne := pathOf_ne hf
    cases e : pathOf fs with
    | nil => exact absurd e ne
    | cons c q =>
      rw [e] at this
      simpa using this
  unfold cleanF
  rw [if_neg hd, List.append_assoc]
  show walkC (splitC 47 (pathOf fs ++ 47 :: wayT fs gs)) [] = _
  rw [splitC_app, split_path hf]
  exact walk_way hf.2.2 hg
theorem split_fol {fs : List (List Nat)} (h : FolOk fs) : (splitC 47 (pathOf fs)).filter (fun p => decide (p ≠ [])) = fs := by
  rcases h with rfl | h
  · rfl
  · rw [split_path h]
    exact List.filter_eq_self.mpr fun p hp => decide_eq_true (part_ne (h.2.2 p hp))
theorem wayT_len {fs gs : List (List Nat)} (hf : FolOk fs) (hg : PathOk gs) : (wayT fs gs).length ≤ 300 := by
  obtain ⟨c, e1, e2⟩ := strip_spec fs gs
  unfold wayT wayTo
  generalize (strip fs gs).1 = a at e1 e2
  generalize (strip fs gs).2 = b at e1 e2
  have hb : ∀ p ∈ b, partOk p := fun p hp => hg.2.2 p (by rw [e2]; exact List.mem_append_right _ hp)
  have la : a.length ≤ 8 := by
    have : fs.length ≤ 8 := by
      rcases hf with rfl | h
      · simp
      · exact h.2.1
    rw [e1, List.length_append] at this
    omega
  have lb : b.length ≤ 8 := by
    have := hg.2.1
    rw [e2, List.length_append] at this
    omega
  split
  · simp
  · have := joinC_len 47 (wayP a b) 12 fun p hp => by
      rcases List.mem_append.mp hp with hp | hp
      · obtain ⟨q, _, rfl⟩ := List.mem_map.mp hp
        decide
      · exact (hb p hp).2.1
    have l2 : (wayP a b).length = a.length + b.length := by
      unfold wayP
      rw [List.length_append, List.length_map]
    omega
end Fc

namespace Fc
open PySem PySem.Spec L2 PyProof.Rows
/-! ### rows of deeds -/
def Byt (S : List Int) : Prop := ∀ x ∈ S, 0 ≤ x ∧ x < 256
theorem Byt.nil : Byt [] := fun x hx => by cases hx
theorem Byt.app {A B : List Int} (a : Byt A) (b : Byt B) : Byt (A ++ B) := fun x hx => by
  rcases List.mem_append.mp hx with h | h
  · exact a x h
  · exact b x h
theorem Byt.take {A : List Int} (a : Byt A) (k : Nat) : Byt (A.take k) := fun x hx => a x (List.mem_of_mem_take hx)
theorem Byt.drop {A : List Int} (a : Byt A) (k : Nat) : Byt (A.drop k) := fun x hx => a x (List.mem_of_mem_drop hx)
theorem Byt.one {x : Int} (h : 0 ≤ x ∧ x < 256) : Byt [x] := fun y hy => by
  rw [List.mem_singleton.mp hy]
  exact h
theorem Byt.rep {A : List Int} (a : Byt A) (k : Nat) : Byt (List.replicate k A).flatten := fun x hx => by
  obtain ⟨l, hl, hx'⟩ := List.mem_flatten.mp hx
  rw [(List.mem_replicate.mp hl).2] at hx'
  exact a x hx'
def moreB (far : Nat) (B : List Int) : List Int := B ++ [B.getD (B.length - far) 0]
def copyB : Nat → Nat → List Int → List Int
  | 0, _, B => B
  | k + 1, far, B => copyB k far (moreB far B)
theorem copyB_succ : ∀ (k far : Nat) (B : List Int), copyB (k + 1) far B = moreB far (copyB k far B)
  | 0, _, _ => rfl
  | k + 1, far, B => by
    show copyB (k + 1) far (moreB far B) = moreB far (copyB k far (moreB far B))
    exact copyB_succ k far (moreB far B)
theorem copyB_len : ∀ (k far : Nat) (B : List Int), (copyB k far B).length = B.length + k
  | 0, _, _ => rfl
  | k + 1, far, B => by
    show (copyB k far (moreB far B)).length = _
    rw [copyB_len k far, moreB, List.length_append]
    show B.length + 1 + k = B.length + (k + 1)
    omega
theorem moreB_byt {far : Nat} {B : List Int} (b : Byt B) (h : 0 < far) (h2 : far ≤ B.length) : Byt (moreB far B) := by
  refine b.app (Byt.one ?_)
  have lt : B.length - far < B.length := by omega
  rw [List.getD_eq_getElem?_getD, List.getElem?_eq_getElem lt]
  exact b _ (List.getElem_mem lt)
theorem copyB_byt {far : Nat} (h : 0 < far) : ∀ (k : Nat) {B : List Int}, Byt B → far ≤ B.length → Byt (copyB k far B)
  | 0, _, b, _ => b
  | k + 1, B, b, h2 => copyB_byt h k (moreB_byt b h h2) (by
    rw [moreB, List.length_append]
    omega)
def deedsF : Nat → List Int → List Int → Option (List Int)
  | _, [], B => if B.length ≤ 1000 then some B else none
  | 0, _ :: _, _ => none
  | f + 1, n :: r, B => if n ≤ 127 then (if r.length < (n + 1).toNat then none else deedsF f (r.drop (n + 1).toNat) (B ++ r.take (n + 1).toNat))
    else if r = [] then none else if (B.length : Int) ≤ r.headD 0 then none else deedsF f (r.drop 1) (copyB (n - 125).toNat (r.headD 0 + 1).toNat B)
def backF (S : List Int) : Option (List Int) := deedsF S.length S []
theorem deedsF_end {f : Nat} {B : List Int} : deedsF f [] B = if B.length ≤ 1000 then some B else none := by
  cases f <;> rfl
theorem deedsF_lit {f : Nat} {n : Int} {r B : List Int} (h : n ≤ 127) : deedsF (f + 1) (n :: r) B = if r.length < (n + 1).toNat then none else deedsF f (r.drop (n + 1).toNat) (B ++ r.take (n + 1).toNat) := by
  rw [deedsF, if_pos h]
theorem deedsF_back {f : Nat} {n d : Int} {r B : List Int} (h : ¬ n ≤ 127) : deedsF (f + 1) (n :: d :: r) B = if (B.length : Int) ≤ d then none else deedsF f r (copyB (n - 125).toNat (d + 1).toNat B) := by
  rw [deedsF, if_neg h, if_neg (List.cons_ne_nil d r)]
  rfl
theorem deedsF_cut {f : Nat} {n : Int} {B : List Int} (h : ¬ n ≤ 127) : deedsF (f + 1) [n] B = none := by
  rw [deedsF, if_neg h, if_pos rfl]
/-- a body, or None -/
def ShowsO (K : PySem.W.Frag) (H : Hp) (v : V) : Option (List Int) → Prop
  | none => v = .non
  | some B => ∃ t, v = .ref t ∧ SqT K H t (B.map V.int)
def unpF (k : Nat) (S : List Int) : Option (List Int) := if k = 0 then (if S.length ≤ 1000 then some S else none) else backF S
/-- a body, or a text -/
def ShowsR (K : PySem.W.Frag) (H : Hp) (v : V) : Option (List Int) → Prop
  | none => v = .str "refused"
  | some B => ∃ t, v = .ref t ∧ SqT K H t (B.map V.int)
/-- a def that tells a body or raises -/
def OutU (K : PySem.W.Frag) (cB : Addr) (H : Hp) (Q : VK) (E : XK) : Option (List Int) → Prop
  | none => ∀ H', Same H H' → E (.ref cB) none H'
  | some B => Tups K H (B.map V.int) Q
def spUnp (K : PySem.W.Frag) (cB : Addr) : Sp := fun vs H Q E => ∃ (k : Nat) (p : Addr) (S : List Int), vs = [.int (k : Int), .ref p] ∧ k ≤ 1 ∧ SqT K H p (S.map V.int) ∧ Byt S ∧ S.length ≤ 20000 ∧ OutU K cB H Q E (unpF k S)
theorem copy_alike (x : Int) : ∀ (k m : Nat), 0 < m → copyB k 1 (List.replicate m x) = List.replicate (m + k) x
  | 0, m, _ => rfl
  | k + 1, m, h => by
    show copyB k 1 (moreB 1 (List.replicate m x)) = _
    have e : moreB 1 (List.replicate m x) = List.replicate (m + 1) x := by
      unfold moreB
      rw [List.length_replicate, List.getD_eq_getElem?_getD, List.getElem?_replicate, if_pos (by omega), List.replicate_succ']
      rfl
    rw [e, copy_alike x k (m + 1) (by omega), show m + 1 + k = m + (k + 1) by omega]
theorem far_all (x : Int) : ∀ (n f m : Nat), 0 < m → n ≤ f → deedsF f (List.replicate n ([255, 0] : List Int)).flatten (List.replicate m x) = if m + 130 * n ≤ 1000 then some (List.replicate (m + 130 * n) x) else none
  | 0, f, m, _, _ => by
    show deedsF f [] _ = _
    rw [deedsF_end, List.length_replicate]
    rfl
  | n + 1, f, m, h, hf => by
    obtain ⟨g, rfl⟩ : ∃ g, f = g + 1 := ⟨f - 1, by omega⟩
    rw [List.replicate_succ, List.flatten_cons]
    show deedsF (g + 1) (255 :: 0 :: (List.replicate n ([255, 0] : List Int)).flatten) _ = _
    rw [deedsF_back (by decide), List.length_replicate, if_neg (by omega)]
    show deedsF g _ (copyB 130 1 (List.replicate m x)) = _
    rw [copy_alike x 130 m h, far_all x n g (m + 130) (by omega) (by omega), show m + 130 + 130 * n = m + 130 * (n + 1) by omega]
theorem far_begin (x : Int) (n : Nat) : backF ([0, x] ++ (List.replicate n ([255, 0] : List Int)).flatten) = if 1 + 130 * n ≤ 1000 then some (List.replicate (1 + 130 * n) x) else none := by
  unfold backF
  show deedsF ((x :: (List.replicate n ([255, 0] : List Int)).flatten).length + 1) (0 :: x :: (List.replicate n ([255, 0] : List Int)).flatten) [] = _
  rw [deedsF_lit (by decide), if_neg (by rw [List.length_cons]; show ¬ _ < 1; omega)]
  show deedsF _ (List.replicate n ([255, 0] : List Int)).flatten (List.replicate 1 x) = _
  rw [far_all x n _ 1 (by decide)]
  rw [List.length_cons, PyProof.Rows.lm_len_rep_flat]
  show n ≤ n * 2 + 1
  omega
end Fc

namespace Fc
open PySem PySem.Spec L2 PyProof.Rows
theorem hu1 {k : Nat} {A : Around} (r : Room k A) : A.units + 1 < cLine := Nat.lt_of_le_of_lt (by omega) r.units
/-! ### data stays where a list or a dict is written -/
def Wr (H : Hp) (p : Addr) : Prop := (∃ xs, H p = some (.lst xs)) ∨ ∃ kvs, H p = some (.dK kvs)
theorem Wr.lst {H : Hp} {p : Addr} {xs : List V} (h : H p = some (.lst xs)) : Wr H p := .inl ⟨xs, h⟩
theorem Wr.dK {H : Hp} {p : Addr} {kvs : List (Key × V)} (h : H p = some (.dK kvs)) : Wr H p := .inr ⟨kvs, h⟩
theorem overT {K : PySem.W.Frag} {H : Hp} {p t : Addr} {xs : List V} {o : HO} (e : Wr H p) (h : SqT K H t xs) : SqT K (upd H p o) t xs := by
  have ne : ∀ {u : HO}, H t = some u → (∀ xs, u ≠ .lst xs) → (∀ kvs, u ≠ .dK kvs) → t ≠ p := by
    intro u hu n1 n2 z
    rw [z] at hu
    rcases e with ⟨ys, e⟩ | ⟨kvs, e⟩
    · rw [e] at hu
      exact n1 ys (Option.some.inj hu).symm
    · rw [e] at hu
      exact n2 kvs (Option.some.inj hu).symm
  rcases h with (h | ⟨o2, h⟩) | h
  · refine .inl (.inl ?_)
    rw [upd_ne (ne h (fun _ => nofun) (fun _ => nofun))]
    exact h
  · refine .inl (.inr ⟨o2, ?_⟩)
    rw [upd_ne (ne h (fun _ => nofun) (fun _ => nofun))]
    exact h
  · exact .inr h
mutual
theorem dpOver {K : PySem.W.Frag} {H : Hp} {p : Addr} {o : HO} (e : Wr H p) : ∀ {d : PyData} {v : V}, tupsOnly d = true → Dp K H v d → Dp K (upd H p o) v d
  | .none, _, _, .non => .non
  | .bool _, _, _, .bl b => .bl b
  | .int _, _, _, .int i => .int i
  | .str _, _, _, .str x => .str x
  | .list _, _, ok, _ => by cases ok
  | .tuple ds, _, ok, .tup h hs => .tup (overT e h) (dpOverAll e (by rw [tupsOnly, Bool.and_eq_true] at ok; exact ok.2) hs)
theorem dpOverAll {K : PySem.W.Frag} {H : Hp} {p : Addr} {o : HO} (e : Wr H p) : ∀ {ds : List PyData} {vs : List V}, tupsAll ds = true → DpAll K H vs ds → DpAll K (upd H p o) vs ds
  | [], _, _, .nil => .nil
  | d :: r, _, ok, .cons h hs => .cons (dpOver e (by rw [tupsAll, Bool.and_eq_true] at ok; exact ok.1) h) (dpOverAll e (by rw [tupsAll, Bool.and_eq_true] at ok; exact ok.2) hs)
end
theorem keep_new {H H' : Hp} {p : Addr} {o : HO} (e : Same H H') (n : H p = none) : Same H (upd H' p o) := by
  intro b u h
  rw [upd_ne (ne_of_none h n)]
  exact e b u h
/-! ### entries and trees -/
inductive Ent where
  | folder (t : List Nat)
  | file (t : List Nat) (b : List Int)
  | link (t : List Nat) (g : List Nat)
deriving DecidableEq
def Ent.path : Ent → List Nat
  | .folder t => t
  | .file t _ => t
  | .link t _ => t
def Ent.isFolder : Ent → Bool
  | .folder _ => true
  | _ => false
def sd (x : String) : PyData := .str (Str.ofString x)
def td (l : List Nat) : PyData := .str (mkS l)
def dEnt : Ent → PyData
  | .folder t => .tuple [sd "folder", td t]
  | .file t b => .tuple [sd "file", td t, dInts b]
  | .link t g => .tuple [sd "link", td t, td g]
def PathT (t : List Nat) : Prop := PathOk (splitC 47 t)
def aboveT (t : List Nat) : List (List Nat) := aboveF (splitC 47 t)
def GoalT (g : List Nat) : Prop := (splitC 47 g).length ≤ 8 ∧ ∀ p ∈ splitC 47 g, p = dots ∨ partOk p
def EntOk : Ent → Prop
  | .folder t => PathT t
  | .file t b => PathT t ∧ Byt b ∧ b.length ≤ 1000
  | .link t g => PathT t ∧ GoalT g
def dTree (es : List Ent) : PyData := .tuple (es.map dEnt)
structure TreeOk (es : List Ent) : Prop where
  ok : ∀ e ∈ es, EntOk e
  rise : es.Pairwise fun a b => a.path < b.path
  up : ∀ e ∈ es, ∀ a ∈ aboveT e.path, Ent.folder a ∈ es
  few : es.length ≤ 100
theorem EntOk.path {e : Ent} (h : EntOk e) : PathT e.path := by
  cases e with
  | folder t => exact h
  | file t b => exact h.1
  | link t g => exact h.1
theorem EntOk.small {e : Ent} (h : EntOk e) : ∀ t b, e = .file t b → b.length ≤ 1000 := by
  intro t b z
  rw [z] at h
  exact h.2.2
theorem join_split (c : Nat) : ∀ l : List Nat, joinC c (splitC c l) = l
  | [] => rfl
  | x :: r => by
    have ih := join_split c r
    rw [splitC]
    cases e : splitC c r with
    | nil => exact absurd e (splitC_ne c r)
    | cons p ps =>
      rw [e] at ih
      by_cases z : x = c
      · rw [if_pos z]
        have : joinC c ([] :: p :: ps) = c :: joinC c (p :: ps) := by
          show ([] : List Nat) ++ ([c] ++ TL.joinL [c] (p :: ps)) = _
          rfl
        rw [this, ih, z]
      · rw [if_neg z]
        cases ps with
        | nil =>
          have e1 : joinC c [p] = p := rfl
          rw [e1] at ih
          show x :: p = _
          rw [ih]
        | cons p2 ps2 =>
          have e1 : joinC c (p :: p2 :: ps2) = p ++ ([c] ++ TL.joinL [c] (p2 :: ps2)) := rfl
          rw [e1] at ih
          show (x :: p) ++ ([c] ++ TL.joinL [c] (p2 :: ps2)) = _
          rw [List.cons_append, ih]
theorem pathOf_parts (t : List Nat) : pathOf (splitC 47 t) = t := join_split 47 t
theorem PathT.of {ps : List (List Nat)} (h : PathOk ps) : PathT (pathOf ps) := by
  unfold PathT
  rw [split_path h]
  exact h
theorem aboveT_of {ps : List (List Nat)} (h : PathOk ps) : aboveT (pathOf ps) = aboveF ps := by
  unfold aboveT
  rw [split_path h]
theorem PathT.len {t : List Nat} (h : PathT t) : t.length ≤ 104 := by
  have := pathOf_len h
  rw [pathOf_parts] at this
  exact this
theorem PathT.ne {t : List Nat} (h : PathT t) : t ≠ [] := by
  have := pathOf_ne h
  rw [pathOf_parts] at this
  exact this
theorem aboveF_mem {ps : List (List Nat)} {a : List Nat} (h : a ∈ aboveF ps) : ∃ k, k + 1 < ps.length ∧ a = pathOf (ps.take (k + 1)) := by
  unfold aboveF at h
  obtain ⟨k, hk, rfl⟩ := List.mem_map.mp h
  rw [List.mem_range] at hk
  exact ⟨k, by omega, rfl⟩
theorem take_ok {ps : List (List Nat)} (h : PathOk ps) (k : Nat) : PathOk (ps.take (k + 1)) := by
  refine ⟨fun e => h.1 ?_, by rw [List.length_take]; have := h.2.1; omega, fun p hp => h.2.2 p ((List.take_sublist _ _).mem hp)⟩
  have := congrArg List.length e
  rw [List.length_take, List.length_nil] at this
  exact List.eq_nil_of_length_eq_zero (by omega)
theorem above_ok {t a : List Nat} (h : PathT t) (ha : a ∈ aboveT t) : PathT a := by
  obtain ⟨k, _, rfl⟩ := aboveF_mem ha
  exact PathT.of (take_ok h k)
/-- what is above what is above is above -/
theorem above_above {t a b : List Nat} (h : PathT t) (ha : a ∈ aboveT t) (hb : b ∈ aboveT a) : b ∈ aboveT t := by
  obtain ⟨k, lk, rfl⟩ := aboveF_mem ha
  rw [aboveT_of (take_ok h k)] at hb
  obtain ⟨j, lj, rfl⟩ := aboveF_mem hb
  rw [List.length_take] at lj
  unfold aboveT aboveF
  refine List.mem_map.mpr ⟨j, List.mem_range.mpr (by omega), ?_⟩
  rw [List.take_take, Nat.min_eq_left (by omega)]
theorem above_ne {t a : List Nat} (h : PathT t) (ha : a ∈ aboveT t) : a ≠ t := by
  obtain ⟨k, lk, rfl⟩ := aboveF_mem ha
  intro e
  have e2 : (splitC 47 (pathOf ((splitC 47 t).take (k + 1)))).length = (splitC 47 t).length := by rw [e]
  rw [split_path (take_ok h k), List.length_take] at e2
  omega
theorem dEnt_ok {e : Ent} (h : ∀ t b, e = .file t b → b.length ≤ 1000) : tupsOnly (dEnt e) = true ∧ PyData.depth (dEnt e) ≤ 2 := by
  cases e with
  | folder t => exact ⟨rfl, show max 0 (max 0 0) + 1 ≤ 2 by decide⟩
  | file t b =>
    have l := h t b rfl
    have k := dInts_ok b (by omega)
    constructor
    · show (decide ((3 : Nat) ≤ 100000) && (true && (true && (tupsOnly (dInts b) && true)))) = true
      rw [k.1]
      rfl
    · show max 0 (max 0 (max (PyData.depth (dInts b)) 0)) + 1 ≤ 2
      have := k.2
      omega
  | link t g => exact ⟨rfl, show max 0 (max 0 (max 0 0)) + 1 ≤ 2 by decide⟩
theorem dTree_ok {es : List Ent} (h : ∀ e ∈ es, ∀ t b, e = .file t b → b.length ≤ 1000) (few : es.length ≤ 100000) : tupsOnly (dTree es) = true ∧ PyData.depth (dTree es) ≤ 3 := by
  have all : ∀ (fs : List Ent), (∀ e ∈ fs, ∀ t b, e = .file t b → b.length ≤ 1000) → tupsAll (fs.map dEnt) = true ∧ PyData.depthAll (fs.map dEnt) ≤ 2 := by
    intro fs
    induction fs with
    | nil => intro _; exact ⟨rfl, by decide⟩
    | cons e r ih =>
      intro h
      have h1 := dEnt_ok (h e (by simp))
      have h2 := ih fun x hx => h x (List.mem_cons_of_mem _ hx)
      constructor
      · rw [List.map_cons, tupsAll, h1.1, h2.1]
        rfl
      · rw [List.map_cons, PyData.depthAll]
        have := h1.2
        have := h2.2
        omega
  have k := all es h
  constructor
  · unfold dTree
    rw [tupsOnly, k.1, decide_eq_true (by rw [List.length_map]; exact few)]
    rfl
  · unfold dTree
    rw [PyData.depth]
    have := k.2
    omega
/-- an entry in the heap: its parts -/
theorem dpEnt {K : PySem.W.Frag} {H : Hp} {v : V} {e : Ent} (h : Dp K H v (dEnt e)) : ∃ t xs, v = .ref t ∧ SqT K H t xs ∧ (match e with
    | .folder p => xs = [.str (Str.ofString "folder"), T p]
    | .file p b => ∃ u, xs = [.str (Str.ofString "file"), T p, .ref u] ∧ SqT K H u (b.map V.int)
    | .link p g => xs = [.str (Str.ofString "link"), T p, T g]) := by
  cases e with
  | folder p =>
    cases h with
    | tup h hs =>
      cases hs with
      | cons h1 hs =>
        cases hs with
        | cons h2 hs =>
          cases hs
          cases h1
          cases h2
          exact ⟨_, _, rfl, h, rfl⟩
  | file p b =>
    cases h with
    | tup h hs =>
      cases hs with
      | cons h1 hs =>
        cases hs with
        | cons h2 hs =>
          cases hs with
          | cons h3 hs =>
            cases hs
            cases h1
            cases h2
            cases h3 with
            | tup g gs =>
              refine ⟨_, _, rfl, h, _, rfl, ?_⟩
              have : ∀ {vs : List V} {b : List Int}, DpAll K H vs (b.map PyData.int) → vs = b.map V.int := by
                intro vs b
                induction b generalizing vs with
                | nil => intro k; cases k; rfl
                | cons x r ih =>
                  intro k
                  cases k with
                  | cons k1 ks =>
                    cases k1
                    rw [ih ks]
                    rfl
              rw [← this gs]
              exact g
  | link p g =>
    cases h with
    | tup h hs =>
      cases hs with
      | cons h1 hs =>
        cases hs with
        | cons h2 hs =>
          cases hs with
          | cons h3 hs =>
            cases hs
            cases h1
            cases h2
            cases h3
            exact ⟨_, _, rfl, h, rfl⟩
theorem dEnt_folder {K : PySem.W.Frag} {H : Hp} {t : Addr} {p : List Nat} (h : SqT K H t [.str (Str.ofString "folder"), T p]) : Dp K H (.ref t) (dEnt (.folder p)) := .tup h (.cons (.str _) (.cons (.str _) .nil))
theorem dEnt_link {K : PySem.W.Frag} {H : Hp} {t : Addr} {p g : List Nat} (h : SqT K H t [.str (Str.ofString "link"), T p, T g]) : Dp K H (.ref t) (dEnt (.link p g)) := .tup h (.cons (.str _) (.cons (.str _) (.cons (.str _) .nil)))
theorem dEnt_file {K : PySem.W.Frag} {H : Hp} {t u : Addr} {p : List Nat} {b : List Int} (h : SqT K H t [.str (Str.ofString "file"), T p, .ref u]) (g : SqT K H u (b.map V.int)) : Dp K H (.ref t) (dEnt (.file p b)) := .tup h (.cons (.str _) (.cons (.str _) (.cons (dpTup g) .nil)))
end Fc

namespace Fc
open PySem PySem.Spec L2 PyProof.Rows
/-! ### a dict of entries by their paths -/
def kT (t : List Nat) : Key := .inr (mkS t)
theorem kT_inj {a b : List Nat} (h : kT a = kT b) : a = b := mkS_inj (Sum.inr.inj h)
def OneE (K : PySem.W.Frag) (H : Hp) (e : Ent) (kv : Key × V) : Prop := kv.1 = kT e.path ∧ Dp K H kv.2 (dEnt e)
abbrev OnE (K : PySem.W.Frag) (H : Hp) (es : List Ent) (kvs : List (Key × V)) : Prop := Al2 (OneE K H) es kvs
def atE (es : List Ent) (t : List Nat) : Option Ent := es.find? fun e => decide (e.path = t)
def putE (es : List Ent) (e : Ent) : List Ent := if (es.any fun x => decide (x.path = e.path)) = true then es.map (fun x => if x.path = e.path then e else x) else es ++ [e]
theorem onE_get {K : PySem.W.Frag} {H : Hp} (t : List Nat) : ∀ {es : List Ent} {kvs : List (Key × V)}, OnE K H es kvs → (atE es t = none ∧ valV kvs (kT t) = none) ∨ ∃ e v, atE es t = some e ∧ valV kvs (kT t) = some v ∧ Dp K H v (dEnt e)
  | _, _, .nil => .inl ⟨rfl, rfl⟩
  | e :: es, kv :: kvs, .cons h hs => by
    by_cases z : e.path = t
    · refine .inr ⟨e, kv.2, ?_, valV_pos (by rw [h.1, z]), h.2⟩
      unfold atE
      rw [List.find?_cons_of_pos (by simpa using z)]
    · have nz : ¬ kv.1 = kT t := fun k => z (kT_inj (h.1.symm.trans k))
      have e1 : atE (e :: es) t = atE es t := by
        unfold atE
        rw [List.find?_cons_of_neg (by simpa using z)]
      rw [e1, valV_neg nz]
      exact onE_get t hs
theorem onE_any {K : PySem.W.Frag} {H : Hp} (t : List Nat) : ∀ {es : List Ent} {kvs : List (Key × V)}, OnE K H es kvs → (kvs.any fun kv => decide (kv.1 = kT t)) = es.any fun x => decide (x.path = t)
  | _, _, .nil => rfl
  | e :: es, kv :: kvs, .cons h hs => by
    rw [List.any_cons, List.any_cons, onE_any t hs]
    congr 1
    by_cases z : e.path = t
    · rw [decide_eq_true z]
      exact decide_eq_true (by rw [h.1, z])
    · rw [decide_eq_false z]
      exact decide_eq_false fun k => z (kT_inj (h.1.symm.trans k))
theorem onE_map {K : PySem.W.Frag} {H : Hp} {e : Ent} {v : V} (hv : Dp K H v (dEnt e)) : ∀ {es : List Ent} {kvs : List (Key × V)}, OnE K H es kvs → OnE K H (es.map fun x => if x.path = e.path then e else x) (kvs.map fun kv => if kv.1 = kT e.path then (kv.1, v) else kv)
  | _, _, .nil => .nil
  | x :: es, kv :: kvs, .cons h hs => by
    rw [List.map_cons, List.map_cons]
    refine .cons ?_ (onE_map hv hs)
    by_cases z : x.path = e.path
    · have z2 : kv.1 = kT e.path := by rw [h.1, z]
      rw [if_pos z, if_pos z2]
      exact ⟨z2, hv⟩
    · have nz : ¬ kv.1 = kT e.path := fun k => z (kT_inj (h.1.symm.trans k))
      rw [if_neg z, if_neg nz]
      exact h
theorem onE_put {K : PySem.W.Frag} {H : Hp} {e : Ent} {v : V} {es : List Ent} {kvs : List (Key × V)} (h : OnE K H es kvs) (hv : Dp K H v (dEnt e)) : OnE K H (putE es e) (putK kvs (kT e.path) v) := by
  unfold putE putK
  rw [onE_any e.path h]
  by_cases z : (es.any fun x => decide (x.path = e.path)) = true
  · rw [if_pos z, if_pos z]
    exact onE_map hv h
  · rw [if_neg z, if_neg z]
    exact h.snoc ⟨rfl, hv⟩
def SmallE (es : List Ent) : Prop := ∀ e ∈ es, ∀ t b, e = .file t b → b.length ≤ 1000
theorem SmallE.tail {e : Ent} {es : List Ent} (h : SmallE (e :: es)) : SmallE es := fun x hx => h x (List.mem_cons_of_mem _ hx)
theorem onE_keep {K : PySem.W.Frag} {H H' : Hp} (s : Same H H') {es : List Ent} {kvs : List (Key × V)} (h : OnE K H es kvs) : OnE K H' es kvs := h.mono fun e kv k => ⟨k.1, dpKeep s k.2⟩
theorem onE_over {K : PySem.W.Frag} {H : Hp} {p : Addr} {o : HO} (w : Wr H p) : ∀ {es : List Ent} {kvs : List (Key × V)}, SmallE es → OnE K H es kvs → OnE K (upd H p o) es kvs
  | _, _, _, .nil => .nil
  | e :: es, kv :: kvs, sm, .cons h hs => .cons ⟨h.1, dpOver w (dEnt_ok (sm e (by simp))).1 h.2⟩ (onE_over w sm.tail hs)
theorem onE_keys {K : PySem.W.Frag} {H : Hp} : ∀ {es : List Ent} {kvs : List (Key × V)}, OnE K H es kvs → kvs.map (·.1) = (es.map fun e => mkS e.path).map Sum.inr
  | _, _, .nil => rfl
  | e :: es, kv :: kvs, .cons h hs => by rw [List.map_cons, List.map_cons, List.map_cons, h.1, onE_keys hs]; rfl
theorem atE_mem {es : List Ent} {t : List Nat} {e : Ent} (h : atE es t = some e) : e ∈ es ∧ e.path = t := ⟨List.mem_of_find?_eq_some h, by
  have := List.find?_some (p := fun e : Ent => decide (e.path = t)) h
  exact of_decide_eq_true this⟩
theorem atE_none {es : List Ent} {t : List Nat} (h : atE es t = none) : ∀ e ∈ es, e.path ≠ t := fun e he k => by
  have := List.find?_eq_none.mp h e he
  exact this (decide_eq_true k)
/-! ### the paths of a growing dict -/
abbrev Nod (es : List Ent) : Prop := (es.map Ent.path).Nodup
theorem Nod.eq {es : List Ent} (h : Nod es) {a b : Ent} (ha : a ∈ es) (hb : b ∈ es) (e : a.path = b.path) : a = b := by
  induction es with
  | nil => cases ha
  | cons x r ih =>
    rw [Nod, List.map_cons, List.nodup_cons] at h
    rcases List.mem_cons.mp ha with ka | ka
    · rcases List.mem_cons.mp hb with kb | kb
      · rw [ka, kb]
      · exact absurd (List.mem_map.mpr ⟨b, kb, by rw [← e, ka]⟩) h.1
    · rcases List.mem_cons.mp hb with kb | kb
      · exact absurd (List.mem_map.mpr ⟨a, ka, by rw [e, kb]⟩) h.1
      · exact ih h.2 ka kb
theorem atE_of {es : List Ent} (h : Nod es) {e : Ent} (he : e ∈ es) : atE es e.path = some e := by
  cases k : atE es e.path with
  | none => exact absurd rfl (atE_none k e he)
  | some x =>
    obtain ⟨hx, px⟩ := atE_mem k
    rw [h.eq hx he px]
theorem putE_new {es : List Ent} {e : Ent} (h : ∀ x ∈ es, x.path ≠ e.path) : putE es e = es ++ [e] := by
  unfold putE
  rw [if_neg]
  intro z
  obtain ⟨x, hx, k⟩ := List.any_eq_true.mp z
  exact h x hx (of_decide_eq_true k)
theorem putE_same {es : List Ent} {e : Ent} (h : ∀ x ∈ es, x.path = e.path → x = e) (he : ∃ x ∈ es, x.path = e.path) : putE es e = es := by
  unfold putE
  obtain ⟨x, hx, px⟩ := he
  rw [if_pos (List.any_eq_true.mpr ⟨x, hx, decide_eq_true px⟩)]
  have : es.map (fun x => if x.path = e.path then e else x) = es.map id := List.map_congr_left fun y hy => by
    by_cases z : y.path = e.path
    · rw [if_pos z]
      exact (h y hy z).symm
    · rw [if_neg z]
      rfl
  rw [this, List.map_id]
theorem nod_snoc {es : List Ent} {e : Ent} (h : Nod es) (n : ∀ x ∈ es, x.path ≠ e.path) : Nod (es ++ [e]) := by
  unfold Nod
  rw [List.map_append, List.nodup_append]
  refine ⟨h, by simp, fun a ha b hb k => ?_⟩
  obtain ⟨x, hx, rfl⟩ := List.mem_map.mp ha
  rw [List.map_cons, List.map_nil, List.mem_singleton] at hb
  exact n x hx (k.trans hb)
/-- the folders above are put in -/
structure Grown (es : List Ent) (as : List (List Nat)) (fs : List Ent) : Prop where
  nod : Nod fs
  old : ∀ e ∈ es, e ∈ fs
  new : ∀ e ∈ fs, e ∈ es ∨ ∃ a ∈ as, e = .folder a
  all : ∀ a ∈ as, Ent.folder a ∈ fs
  few : fs.length ≤ es.length + as.length
theorem Grown.nil {es : List Ent} (h : Nod es) : Grown es [] es := ⟨h, fun _ h => h, fun e h => .inl h, fun a h => (by cases h), by simp⟩
theorem Grown.step {es fs : List Ent} {as : List (List Nat)} {a : List Nat} (g : Grown es as fs) (nb : ∀ e ∈ es, e.path = a → e = .folder a) : Grown es (as ++ [a]) (putE fs (.folder a)) := by
  have same : ∀ x ∈ fs, x.path = (Ent.folder a).path → x = .folder a := fun x hx px => by
    rcases g.new x hx with h | ⟨b, _, rfl⟩
    · exact nb x h px
    · have : b = a := px
      rw [this]
  by_cases z : ∃ x ∈ fs, x.path = (Ent.folder a).path
  · rw [putE_same same z]
    refine ⟨g.nod, g.old, fun e he => ?_, fun b hb => ?_, by rw [List.length_append]; have := g.few; simp only [List.length_cons, List.length_nil]; omega⟩
    · rcases g.new e he with h | ⟨b, hb, h⟩
      · exact .inl h
      · exact .inr ⟨b, List.mem_append_left _ hb, h⟩
    · rcases List.mem_append.mp hb with hb | hb
      · exact g.all b hb
      · rw [List.mem_singleton.mp hb]
        obtain ⟨x, hx, px⟩ := z
        rw [← same x hx px]
        exact hx
  · have n : ∀ x ∈ fs, x.path ≠ (Ent.folder a).path := fun x hx k => z ⟨x, hx, k⟩
    rw [putE_new n]
    refine ⟨nod_snoc g.nod n, fun e he => List.mem_append_left _ (g.old e he), fun e he => ?_, fun b hb => ?_, by rw [List.length_append, List.length_append]; have := g.few; simp only [List.length_cons, List.length_nil]; omega⟩
    · rcases List.mem_append.mp he with he | he
      · rcases g.new e he with h | ⟨b, hb, h⟩
        · exact .inl h
        · exact .inr ⟨b, List.mem_append_left _ hb, h⟩
      · rw [List.mem_singleton.mp he]
        exact .inr ⟨a, by simp, rfl⟩
    · rcases List.mem_append.mp hb with hb | hb
      · exact List.mem_append_left _ (g.all b hb)
      · rw [List.mem_singleton.mp hb]
        simp
/-- a dict whose entries and folders are right -/
structure Stock (es : List Ent) : Prop where
  nod : Nod es
  ok : ∀ e ∈ es, EntOk e
  up : ∀ e ∈ es, ∀ a ∈ aboveT e.path, Ent.folder a ∈ es
theorem Stock.small {es : List Ent} (h : Stock es) : SmallE es := fun e he => (h.ok e he).small
theorem Stock.put {es fs : List Ent} {e : Ent} (h : Stock es) (g : Grown es (aboveT e.path) fs) (he : EntOk e) (n : ∀ x ∈ es, x.path ≠ e.path) : Stock (putE fs e) ∧ (putE fs e).length ≤ es.length + (aboveT e.path).length + 1 := by
  have n2 : ∀ x ∈ fs, x.path ≠ e.path := fun x hx => by
    rcases g.new x hx with k | ⟨a, ha, rfl⟩
    · exact n x k
    · exact above_ne he.path ha
  rw [putE_new n2]
  refine ⟨⟨nod_snoc g.nod n2, fun x hx => ?_, fun x hx a ha => ?_⟩, by rw [List.length_append]; have := g.few; simp only [List.length_cons, List.length_nil]; omega⟩
  · rcases List.mem_append.mp hx with hx | hx
    · rcases g.new x hx with k | ⟨a, ha, rfl⟩
      · exact h.ok x k
      · exact above_ok he.path ha
    · rw [List.mem_singleton.mp hx]
      exact he
  · rcases List.mem_append.mp hx with hx | hx
    · rcases g.new x hx with k | ⟨b, hb, rfl⟩
      · exact List.mem_append_left _ (g.old _ (h.up x k a ha))
      · exact List.mem_append_left _ (g.all _ (above_above he.path hb ha))
    · rw [List.mem_singleton.mp hx] at ha
      exact List.mem_append_left _ (g.all a ha)
/-! ### put in order -/
theorem lt_of_rising {x : Str} {r : List Str} (h : risingS x r = true) : ∀ y ∈ r, ltCps y.cps.toList x.cps.toList = false := by
  induction r generalizing x with
  | nil => intro y hy; cases hy
  | cons z r ih =>
    intro y hy
    have h' : (!ltCps z.cps.toList x.cps.toList && risingS z r) = true := h
    rw [Bool.and_eq_true, Bool.not_eq_true'] at h'
    rcases List.mem_cons.mp hy with rfl | hy
    · exact h'.1
    · have k := ih h'.2 y hy
      have h1 := h'.1
      rw [ltCps_eq] at k h1 ⊢
      rw [decide_eq_false_iff_not] at k h1 ⊢
      intro q
      rcases Decidable.em (x.cps.toList < z.cps.toList) with p | p
      · exact k (List.lt_trans q p)
      · have e : x.cps.toList = z.cps.toList := List.le_antisymm (List.not_lt.mp h1) (List.not_lt.mp p)
        rw [e] at q
        exact k q
theorem sorted_pairwise : ∀ {l : List Str}, sortedS l = true → l.Pairwise fun a b => ltCps b.cps.toList a.cps.toList = false
  | [], _ => .nil
  | x :: r, h => .cons (lt_of_rising h) (by
    cases r with
    | nil => exact .nil
    | cons z r =>
      have h' : (!ltCps z.cps.toList x.cps.toList && risingS z r) = true := h
      rw [Bool.and_eq_true] at h'
      exact sorted_pairwise (l := z :: r) h'.2)
theorem sorted_paths {ys : List (List Nat)} (h : sortedS (ys.map mkS) = true) (nd : ys.Nodup) : ys.Pairwise (· < ·) := by
  have p := List.pairwise_map.mp (sorted_pairwise h)
  refine (p.and nd).imp fun {a b} k => ?_
  have k1 : ltCps b a = false := k.1
  rw [ltCps_eq, decide_eq_false_iff_not] at k1
  rcases Decidable.em (a < b) with q | q
  · exact q
  · exact absurd (List.le_antisymm (List.not_lt.mp k1) (List.not_lt.mp q)) k.2
/-- the tree that a stock makes, its entries in the order of the paths -/
theorem Stock.tree {es fs : List Ent} {ys : List (List Nat)} (h : Stock es) (pm : ys.Perm (es.map Ent.path)) (so : sortedS (ys.map mkS) = true) (ef : fs.map Ent.path = ys) (sub : ∀ e ∈ fs, e ∈ es) (few : es.length ≤ 100) : TreeOk fs := by
  have nd : ys.Nodup := pm.nodup_iff.mpr h.nod
  refine ⟨fun e he => h.ok e (sub e he), ?_, fun e he a ha => ?_, ?_⟩
  · have := sorted_paths so nd
    rw [← ef, List.pairwise_map] at this
    exact this
  · have hm := h.up e (sub e he) a ha
    have : a ∈ ys := pm.mem_iff.mpr (List.mem_map.mpr ⟨_, hm, rfl⟩)
    rw [← ef] at this
    obtain ⟨x, hx, px⟩ := List.mem_map.mp this
    have : x = .folder a := h.nod.eq (sub x hx) hm px
    rw [← this]
    exact hx
  · have l1 := congrArg List.length ef
    have l2 := pm.length_eq
    rw [List.length_map] at l1 l2
    omega
/-! ### the word and the path of an entry -/
def wordOf : Ent → V
  | .folder _ => .str (Str.ofString "folder")
  | .file _ _ => .str (Str.ofString "file")
  | .link _ _ => .str (Str.ofString "link")
theorem word_ne (e : Ent) : (!decide (wordOf e = V.str (Str.ofString "folder"))) = !e.isFolder := by
  cases e with
  | folder t => exact congrArg (!·) (decide_eq_true rfl)
  | file t b => exact congrArg (!·) (decide_eq_false fun k => absurd (V.str.inj k) (by decide +kernel))
  | link t g => exact congrArg (!·) (decide_eq_false fun k => absurd (V.str.inj k) (by decide +kernel))
theorem dpWord {K : PySem.W.Frag} {H : Hp} {v : V} {e : Ent} (h : Dp K H v (dEnt e)) : ∃ t xs, v = .ref t ∧ SqT K H t xs ∧ xs[0]? = some (wordOf e) ∧ xs[1]? = some (T e.path) := by
  obtain ⟨t, xs, rfl, ht, k⟩ := dpEnt h
  refine ⟨t, xs, rfl, ht, ?_⟩
  cases e with
  | folder p => rw [k]; exact ⟨rfl, rfl⟩
  | file p b => obtain ⟨u, rfl, _⟩ := k; exact ⟨rfl, rfl⟩
  | link p g => rw [k]; exact ⟨rfl, rfl⟩
theorem choose_ents {K : PySem.W.Frag} {H : Hp} {es : List Ent} : ∀ {xs ys : List V}, Al2 (fun x y => ∃ e ∈ es, x = T e.path ∧ Dp K H y (dEnt e)) xs ys → ∃ fs : List Ent, xs = fs.map (fun e => T e.path) ∧ (∀ e ∈ fs, e ∈ es) ∧ DpAll K H ys (fs.map dEnt)
  | _, _, .nil => ⟨[], rfl, (fun e h => by cases h), .nil⟩
  | _, _, .cons ⟨e, he, hx, hd⟩ hs => by
    obtain ⟨fs, hf, hm, hD⟩ := choose_ents hs
    refine ⟨e :: fs, by rw [hx, hf]; rfl, fun x hx => ?_, .cons hd hD⟩
    rcases List.mem_cons.mp hx with rfl | hx
    · exact he
    · exact hm x hx
end Fc

namespace Fc
open PySem PySem.Spec L2 PyProof.Rows
/-! ### the way over links -/
inductive LRes where
  | out
  | noEntry
  | notFolder
  | tooFar
  | ok (here : List (List Nat))
def landW (es : List Ent) (links : Nat) (here : List (List Nat)) : List (List Nat) → LRes
  | [] => .ok here
  | p :: r => if p = dots then (if here = [] then .out else landW es links here.dropLast r) else match atE es (pathOf (here ++ [p])) with
    | none => .noEntry
    | some (.link _ g) => if 20 ≤ links then .tooFar else landW es (links + 1) here (splitC 47 g ++ r)
    | some (.file _ _) => if r ≠ [] then .notFolder else .ok (here ++ [p])
    | some (.folder _) => landW es links (here ++ [p]) r
termination_by rest => (20 - links, rest.length)
decreasing_by all_goals (simp_wf; first | (apply Prod.Lex.right; omega) | (apply Prod.Lex.left; omega) | omega)
/-- the program's landing, of a tree and a path -/
def landF (es : List Ent) (t : List Nat) : LRes := landW es 0 [] (splitC 47 t)
theorem landW_nil {es : List Ent} {l : Nat} {h : List (List Nat)} : landW es l h [] = .ok h := by rw [landW]
theorem landW_dots {es : List Ent} {l : Nat} {h r : List (List Nat)} : landW es l h (dots :: r) = if h = [] then .out else landW es l h.dropLast r := by rw [landW, if_pos rfl]
theorem landW_none {es : List Ent} {l : Nat} {h r : List (List Nat)} {p : List Nat} (n : p ≠ dots) (e : atE es (pathOf (h ++ [p])) = none) : landW es l h (p :: r) = .noEntry := by rw [landW, if_neg n, e]
theorem landW_link {es : List Ent} {l : Nat} {h r : List (List Nat)} {p t g : List Nat} (n : p ≠ dots) (e : atE es (pathOf (h ++ [p])) = some (.link t g)) : landW es l h (p :: r) = if 20 ≤ l then .tooFar else landW es (l + 1) h (splitC 47 g ++ r) := by rw [landW, if_neg n, e]
theorem landW_file {es : List Ent} {l : Nat} {h r : List (List Nat)} {p t : List Nat} {b : List Int} (n : p ≠ dots) (e : atE es (pathOf (h ++ [p])) = some (.file t b)) : landW es l h (p :: r) = if r ≠ [] then .notFolder else .ok (h ++ [p]) := by rw [landW, if_neg n, e]
theorem landW_folder {es : List Ent} {l : Nat} {h r : List (List Nat)} {p t : List Nat} (n : p ≠ dots) (e : atE es (pathOf (h ++ [p])) = some (.folder t)) : landW es l h (p :: r) = landW es l (h ++ [p]) r := by rw [landW, if_neg n, e]
/-! ### where it ends it ends again -/
def Fold (es : List Ent) (h : List (List Nat)) : Prop := ∀ k, k < h.length → ∃ p t, h[k]? = some p ∧ p ≠ dots ∧ atE es (pathOf (h.take (k + 1))) = some (.folder t)
theorem Fold.nil (es : List Ent) : Fold es [] := fun k h => by cases h
theorem Fold.snoc {es : List Ent} {h : List (List Nat)} {p t : List Nat} (f : Fold es h) (n : p ≠ dots) (e : atE es (pathOf (h ++ [p])) = some (.folder t)) : Fold es (h ++ [p]) := by
  intro k lk
  rw [List.length_append] at lk
  simp only [List.length_cons, List.length_nil] at lk
  by_cases z : k < h.length
  · obtain ⟨q, u, h1, h2, h3⟩ := f k z
    refine ⟨q, u, ?_, h2, ?_⟩
    · rw [List.getElem?_append_left z]; exact h1
    · rw [List.take_append_of_le_length (by omega)]; exact h3
  · have e2 : k = h.length := by omega
    subst e2
    refine ⟨p, t, ?_, n, ?_⟩
    · rw [List.getElem?_append_right (Nat.le_refl _), Nat.sub_self]; rfl
    · rw [List.take_of_length_le (by rw [List.length_append]; simp)]; exact e
theorem Fold.dropLast {es : List Ent} {h : List (List Nat)} (f : Fold es h) : Fold es h.dropLast := by
  intro k lk
  rw [List.length_dropLast] at lk
  obtain ⟨q, u, h1, h2, h3⟩ := f k (by omega)
  refine ⟨q, u, ?_, h2, ?_⟩
  · rw [List.getElem?_dropLast, if_pos lk]; exact h1
  · rw [List.dropLast_eq_take, List.take_take, Nat.min_eq_left (by omega)]; exact h3
/-- the end of a way -/
def EndAt (es : List Ent) (h : List (List Nat)) : Prop := Fold es h ∨ ∃ g p t b, h = g ++ [p] ∧ Fold es g ∧ p ≠ dots ∧ atE es (pathOf h) = some (.file t b)
theorem land_end (es : List Ent) : ∀ (n : Nat) (l : Nat) (h r : List (List Nat)) (z : List (List Nat)), 20 - l ≤ n → Fold es h → landW es l h r = .ok z → EndAt es z := by
  intro n
  induction n with
  | zero =>
    intro l h r z hn f e
    induction r generalizing h with
    | nil => rw [landW_nil] at e; cases e; exact .inl f
    | cons p r ih =>
      by_cases d : p = dots
      · subst d
        rw [landW_dots] at e
        split at e
        · cases e
        · exact ih _ f.dropLast e
      · cases a : atE es (pathOf (h ++ [p])) with
        | none => rw [landW_none d a] at e; cases e
        | some x =>
          cases x with
          | folder t => rw [landW_folder d a] at e; exact ih _ (f.snoc d a) e
          | file t b =>
            rw [landW_file d a] at e
            split at e
            · cases e
            · cases e
              exact .inr ⟨h, p, t, b, rfl, f, d, a⟩
          | link t g =>
            rw [landW_link d a, if_pos (by omega)] at e
            cases e
  | succ n ihn =>
    intro l h r z hn f e
    induction r generalizing h with
    | nil => rw [landW_nil] at e; cases e; exact .inl f
    | cons p r ih =>
      by_cases d : p = dots
      · subst d
        rw [landW_dots] at e
        split at e
        · cases e
        · exact ih _ f.dropLast e
      · cases a : atE es (pathOf (h ++ [p])) with
        | none => rw [landW_none d a] at e; cases e
        | some x =>
          cases x with
          | folder t => rw [landW_folder d a] at e; exact ih _ (f.snoc d a) e
          | file t b =>
            rw [landW_file d a] at e
            split at e
            · cases e
            · cases e
              exact .inr ⟨h, p, t, b, rfl, f, d, a⟩
          | link t g =>
            rw [landW_link d a] at e
            split at e
            · cases e
            · exact ihn _ _ _ _ (by omega) f e
theorem walk_fold (es : List Ent) (l : Nat) (z r : List (List Nat)) (f : Fold es z) : ∀ (n : Nat) (k : Nat), z.length - k ≤ n → k ≤ z.length → landW es l (z.take k) (z.drop k ++ r) = landW es l z r := by
  intro n
  induction n with
  | zero =>
    intro k h1 h2
    have e : k = z.length := by omega
    rw [e, List.take_length, List.drop_length, List.nil_append]
  | succ n ih =>
    intro k h1 h2
    by_cases e : k = z.length
    · rw [e, List.take_length, List.drop_length, List.nil_append]
    · have lt : k < z.length := by omega
      obtain ⟨p, t, hp, d, a⟩ := f k lt
      have ez : z[k] = p := by
        rw [List.getElem?_eq_getElem lt] at hp
        exact Option.some.inj hp
      have et : z.take (k + 1) = z.take k ++ [p] := by
        rw [List.take_add_one, hp]
        rfl
      rw [List.drop_eq_getElem_cons lt, ez, List.cons_append, landW_folder d (t := t) (by rw [← et]; exact a), ← et]
      exact ih (k + 1) (by omega) (by omega)
theorem land_again {es : List Ent} {z : List (List Nat)} (h : EndAt es z) : landW es 0 [] z = .ok z := by
  rcases h with f | ⟨g, p, t, b, rfl, f, d, a⟩
  · have := walk_fold es 0 z [] f z.length 0 (by omega) (by omega)
    rw [List.take_zero, List.drop_zero, List.append_nil, landW_nil] at this
    exact this
  · have := walk_fold es 0 g [p] f g.length 0 (by omega) (by omega)
    rw [List.take_zero, List.drop_zero, landW_file d a, if_neg (fun k => k rfl)] at this
    exact this
/-! ### parts of ways, as texts -/
def Way (r : List (List Nat)) : Prop := ∀ p ∈ r, p = dots ∨ partOk p
def Goals (es : List Ent) : Prop := ∀ t g, Ent.link t g ∈ es → GoalT g
theorem pathOf_snoc {h : List (List Nat)} {p : List Nat} (n : h ≠ []) : pathOf (h ++ [p]) = pathOf h ++ [47] ++ p := by
  unfold pathOf
  induction h with
  | nil => exact absurd rfl n
  | cons x r ih =>
    cases r with
    | nil =>
      show x ++ ([47] ++ p) = x ++ [47] ++ p
      rw [List.append_assoc]
    | cons y r2 =>
      have := ih (by simp)
      show x ++ ([47] ++ joinC 47 ((y :: r2) ++ [p])) = x ++ ([47] ++ joinC 47 (y :: r2)) ++ [47] ++ p
      rw [this]
      simp
theorem fold_ne {h : List (List Nat)} (hp : ∀ p ∈ h, partOk p) : pathOf h = [] ↔ h = [] := by
  constructor
  · intro e
    by_cases z : h = []
    · exact z
    · exact absurd e (join_ne z fun p k => part_ne (hp p k))
  · intro e; rw [e]; rfl
theorem split_parts {h : List (List Nat)} (n : h ≠ []) (hp : ∀ p ∈ h, partOk p) : splitC 47 (pathOf h) = h := split_joinC 47 n fun p k => no_stroke (hp p k)
/-! ### a tree with less links tells no more ways out -/
theorem land_less (es fs : List Ent) (sub : ∀ t e, atE fs t = some e → atE es t = some e) : ∀ (n : Nat) (l : Nat) (h r : List (List Nat)), 20 - l ≤ n → landW fs l h r = .out → landW es l h r = .out := by
  intro n
  have core : ∀ (l : Nat) (ihn : ∀ (h r : List (List Nat)), ¬ 20 ≤ l → landW fs (l + 1) h r = .out → landW es (l + 1) h r = .out) (h r : List (List Nat)), landW fs l h r = .out → landW es l h r = .out := by
    intro l ihn h r e
    induction r generalizing h with
    | nil => rw [landW_nil] at e; cases e
    | cons p r ih =>
      by_cases d : p = dots
      · subst d
        rw [landW_dots] at e ⊢
        split at e
        · rename_i z; rw [if_pos z]
        · rename_i z; rw [if_neg z]; exact ih _ e
      · cases a : atE fs (pathOf (h ++ [p])) with
        | none => rw [landW_none d a] at e; cases e
        | some x =>
          have a2 := sub _ _ a
          cases x with
          | folder t => rw [landW_folder d a] at e; rw [landW_folder d a2]; exact ih _ e
          | file t b =>
            rw [landW_file d a] at e
            split at e <;> cases e
          | link t g =>
            rw [landW_link d a] at e
            rw [landW_link d a2]
            split at e
            · cases e
            · rename_i z
              rw [if_neg z]
              exact ihn _ _ z e
  induction n with
  | zero => exact fun l h r hn => core l (fun h r z => absurd z (by omega)) h r
  | succ n ihn => exact fun l h r hn => core l (fun h r z => ihn (l + 1) h r (by omega)) h r
/-! ### entries put in a dict, in their place or at the end -/
theorem putE_mem {es : List Ent} {e x : Ent} (h : x ∈ putE es e) : x = e ∨ (x ∈ es ∧ x.path ≠ e.path) := by
  unfold putE at h
  split at h
  · obtain ⟨y, hy, rfl⟩ := List.mem_map.mp h
    by_cases z : y.path = e.path
    · rw [if_pos z]; exact .inl rfl
    · rw [if_neg z]; exact .inr ⟨hy, z⟩
  · rename_i n
    rcases List.mem_append.mp h with h | h
    · by_cases z : x.path = e.path
      · exact absurd (List.any_eq_true.mpr ⟨x, h, decide_eq_true z⟩) n
      · exact .inr ⟨h, z⟩
    · exact .inl (List.mem_singleton.mp h)
theorem mem_putE {es : List Ent} {e x : Ent} (h : x ∈ es) (n : x.path ≠ e.path) : x ∈ putE es e := by
  unfold putE
  split
  · exact List.mem_map.mpr ⟨x, h, by rw [if_neg n]⟩
  · exact List.mem_append_left _ h
theorem putE_self {es : List Ent} {e : Ent} : e ∈ putE es e := by
  unfold putE
  split
  · rename_i h
    obtain ⟨x, hx, px⟩ := List.any_eq_true.mp h
    exact List.mem_map.mpr ⟨x, hx, by rw [if_pos (of_decide_eq_true px)]⟩
  · simp
theorem putE_nod {es : List Ent} {e : Ent} (h : Nod es) : Nod (putE es e) := by
  unfold putE
  split
  · unfold Nod
    rw [List.map_map]
    have : es.map (Ent.path ∘ fun x => if x.path = e.path then e else x) = es.map Ent.path := List.map_congr_left fun y hy => by
      show (if y.path = e.path then e else y).path = y.path
      by_cases z : y.path = e.path
      · rw [if_pos z, z]
      · rw [if_neg z]
    rw [this]
    exact h
  · rename_i n
    exact nod_snoc h fun x hx k => n (List.any_eq_true.mpr ⟨x, hx, decide_eq_true k⟩)
theorem putE_few {es : List Ent} {e : Ent} : (putE es e).length ≤ es.length + 1 := by
  unfold putE
  split
  · rw [List.length_map]; omega
  · rw [List.length_append]; simp
theorem putE_small {es : List Ent} {e : Ent} (h : SmallE es) (k : ∀ t b, e = .file t b → b.length ≤ 1000) : SmallE (putE es e) := by
  intro x hx
  rcases putE_mem hx with rfl | ⟨hx, _⟩
  · exact k
  · exact h x hx
/-! ### the web's paths -/
instance (ps : List (List Nat)) : Decidable (PathOk ps) := by unfold PathOk; infer_instance
instance (t : List Nat) : Decidable (PathT t) := by unfold PathT; infer_instance
def sixP : List (List Nat) := [[97], [97, 47, 98], [97, 47, 98, 47, 97], [98], [98, 47, 97], [99]]
def webF : List (List Nat) := [[], [97, 47], [97, 47, 98, 47], [98, 47], [98, 47, 97, 47], [99, 47], [97, 47, 98, 47, 97, 47], [98, 47]]
abbrev Low (t : List Nat) : Prop := (splitC 47 t).length ≤ 4 ∧ t < [113]
theorem web_ok : ∀ f ∈ webF, ∀ c ∈ [108, 109, 110], PathT (f ++ [c]) ∧ (∀ a ∈ aboveT (f ++ [c]), a ∈ sixP) ∧ f ++ [c] ∉ sixP ∧ Low (f ++ [c]) := by decide +kernel
theorem six_ok : ∀ t ∈ sixP, PathT t ∧ (∀ a ∈ aboveT t, a ∈ sixP) ∧ Low t := by decide +kernel
structure Web (es : List Ent) : Prop where
  nod : Nod es
  ok : ∀ e ∈ es, EntOk e
  six : ∀ s ∈ sixP, Ent.folder s ∈ es
  up : ∀ e ∈ es, ∀ a ∈ aboveT e.path, a ∈ sixP
  low : ∀ e ∈ es, Low e.path
theorem Web.stock {es : List Ent} (h : Web es) : Stock es := ⟨h.nod, h.ok, fun e he a ha => h.six a (h.up e he a ha)⟩
theorem Web.put {es : List Ent} {e : Ent} (h : Web es) (he : EntOk e) (hu : ∀ a ∈ aboveT e.path, a ∈ sixP) (n : e.path ∉ sixP) (lo : Low e.path) : Web (putE es e) := by
  refine ⟨putE_nod h.nod, fun x hx => ?_, fun s hs => mem_putE (h.six s hs) fun k => n (by rw [← k]; exact hs), fun x hx => ?_, fun x hx => ?_⟩
  · rcases putE_mem hx with rfl | ⟨hx, _⟩
    · exact he
    · exact h.ok x hx
  · rcases putE_mem hx with rfl | ⟨hx, _⟩
    · exact hu
    · exact h.up x hx
  · rcases putE_mem hx with rfl | ⟨hx, _⟩
    · exact lo
    · exact h.low x hx
/-- the entries in the heap, one by one -/
theorem dpTree {K : PySem.W.Frag} {H : Hp} {v : V} {es : List Ent} (h : Dp K H v (dTree es)) : ∃ t xs, v = .ref t ∧ SqT K H t xs ∧ Al2 (fun e x => Dp K H x (dEnt e)) es xs := by
  cases h with
  | @tup p xs _ hp hxs =>
    refine ⟨p, xs, rfl, hp, ?_⟩
    have : ∀ {xs : List V} {es : List Ent}, DpAll K H xs (es.map dEnt) → Al2 (fun e x => Dp K H x (dEnt e)) es xs := by
      intro xs es
      induction es generalizing xs with
      | nil => intro k; cases k; exact .nil
      | cons e r ih =>
        intro k
        cases k with
        | cons k1 ks => exact .cons k1 (ih ks)
    exact this hxs
theorem al2_small {K : PySem.W.Frag} {H H' : Hp} : ∀ {es : List Ent} {xs : List V}, Al2 (fun e x => Dp K H x (dEnt e)) es xs → (∀ e x, e ∈ es → Dp K H x (dEnt e) → Dp K H' x (dEnt e)) → Al2 (fun e x => Dp K H' x (dEnt e)) es xs
  | _, _, .nil, _ => .nil
  | _, _, .cons h hs, f => .cons (f _ _ (List.mem_cons_self ..) h) (al2_small hs fun e x he => f e x (List.mem_cons_of_mem _ he))
theorem filter_at {es : List Ent} (nd : Nod es) (t : List Nat) : es.filter (fun e => decide (e.path = t)) = (atE es t).toList := by
  induction es with
  | nil => rfl
  | cons e r ih =>
    have nd' : Nod r := by
      rw [Nod, List.map_cons, List.nodup_cons] at nd
      exact nd.2
    by_cases z : e.path = t
    · have none : atE r t = none := by
        cases k : atE r t with
        | none => rfl
        | some e' =>
          obtain ⟨he, pe⟩ := atE_mem k
          rw [Nod, List.map_cons, List.nodup_cons] at nd
          exact absurd (List.mem_map.mpr ⟨e', he, pe.trans z.symm⟩) nd.1
      rw [List.filter_cons_of_pos (by simpa using z), ih nd', none]
      unfold atE
      rw [List.find?_cons_of_pos (by simpa using z)]
      rfl
    · rw [List.filter_cons_of_neg (by simpa using z), ih nd']
      unfold atE
      rw [List.find?_cons_of_neg (by simpa using z)]
theorem nod_of {es : List Ent} (h : es.Pairwise fun a b => a.path < b.path) : Nod es := by
  unfold Nod
  rw [List.Nodup, List.pairwise_map]
  exact h.imp fun {a b} k e => by rw [e] at k; exact List.lt_irrefl _ k
theorem TreeOk.nod {es : List Ent} (h : TreeOk es) : Nod es := nod_of h.rise
theorem dpWord3 {K : PySem.W.Frag} {H : Hp} {v : V} {e : Ent} (h : Dp K H v (dEnt e)) : ∃ t xs, v = .ref t ∧ SqT K H t xs ∧ xs[0]? = some (wordOf e) ∧ xs[1]? = some (T e.path) ∧ ∀ p g, e = .link p g → xs[2]? = some (T g) := by
  obtain ⟨t, xs, rfl, ht, k⟩ := dpEnt h
  refine ⟨t, xs, rfl, ht, ?_⟩
  cases e with
  | folder p => rw [k]; exact ⟨rfl, rfl, fun _ _ z => by cases z⟩
  | file p b => obtain ⟨u, rfl, _⟩ := k; exact ⟨rfl, rfl, fun _ _ z => by cases z⟩
  | link p g => rw [k]; exact ⟨rfl, rfl, fun _ _ z => by cases z; rfl⟩
theorem GoalT.len {g : List Nat} (h : GoalT g) : g.length ≤ 200 := by
  have := joinC_len 47 (splitC 47 g) 12 fun p hp => by
    rcases h.2 p hp with k | k
    · rw [k]; decide
    · exact k.2.1
  rw [join_split] at this
  have := h.1
  omega
theorem cutV_last (xs : List V) : cutV xs none (some (-1)) = xs.dropLast := by
  unfold cutV
  have ls : HT.sIx xs.length xs.length (some (-1)) = xs.length - 1 := by
    show (if (-1 : Int) < 0 then (-1 + (xs.length : Int)).toNat else min (-1 : Int).toNat xs.length) = _
    rw [if_pos (by decide)]
    omega
  rw [HT.sIx_none, ls, List.drop_zero, Nat.sub_zero, List.dropLast_eq_take]
theorem word_is {x : V} (h : x = x) : decide (x = x) = true := decide_eq_true h
theorem word_isnt {a b : String} (h : Str.ofString a ≠ Str.ofString b) : decide (V.str (Str.ofString a) = V.str (Str.ofString b)) = false := decide_eq_false fun k => h (V.str.inj k)
theorem iteW {b : Bool} {a c : Prop} (h : b = true) (k : a) : if b = true then a else c := by
  rw [h, if_pos rfl]
  exact k
theorem iteNW {b : Bool} {a c : Prop} (h : b = false) (k : c) : if b = true then a else c := by
  rw [h, if_neg Bool.false_ne_true]
  exact k
/-! ### the links that lead out -/
def Ent.isLink : Ent → Bool
  | .link _ _ => true
  | _ => false
def LRes.isOut : LRes → Bool
  | .out => true
  | _ => false
def goesOut (es : List Ent) (e : Ent) : Bool := (landF es e.path).isOut
def outF (es : List Ent) : List (List Nat) := ((es.filter Ent.isLink).filter (goesOut es)).map Ent.path
def lessF (es : List Ent) : List Ent := es.filter fun e => !decide (e.path ∈ outF es)
theorem outF_link {es : List Ent} (nd : Nod es) {e : Ent} (he : e ∈ es) (h : e.path ∈ outF es) : e.isLink = true ∧ goesOut es e = true := by
  unfold outF at h
  obtain ⟨x, hx, px⟩ := List.mem_map.mp h
  obtain ⟨hx, k2⟩ := List.mem_filter.mp hx
  obtain ⟨hx, k1⟩ := List.mem_filter.mp hx
  rw [nd.eq hx he px] at k1 k2
  exact ⟨k1, k2⟩
theorem less_tree {es : List Ent} (h : TreeOk es) : TreeOk (lessF es) := by
  refine ⟨fun e he => h.ok e (List.mem_filter.mp he).1, h.rise.sublist List.filter_sublist, fun e he a ha => ?_, Nat.le_trans (List.length_filter_le ..) h.few⟩
  have hf := h.up e (List.mem_filter.mp he).1 a ha
  refine List.mem_filter.mpr ⟨hf, ?_⟩
  rw [Bool.not_eq_true', decide_eq_false_iff_not]
  intro k
  have := outF_link h.nod hf k
  exact absurd this.1 (by simp [Ent.isLink])
theorem less_out {es : List Ent} (h : TreeOk es) : outF (lessF es) = [] := by
  have sub : ∀ t e, atE (lessF es) t = some e → atE es t = some e := fun t e k => by
    obtain ⟨he, pe⟩ := atE_mem k
    have := atE_of h.nod (List.mem_filter.mp he).1
    rw [pe] at this
    exact this
  unfold outF
  rw [List.map_eq_nil_iff, List.filter_eq_nil_iff]
  intro e he k
  obtain ⟨he, kl⟩ := List.mem_filter.mp he
  obtain ⟨he, kn⟩ := List.mem_filter.mp he
  rw [Bool.not_eq_true', decide_eq_false_iff_not] at kn
  refine kn ?_
  unfold outF
  refine List.mem_map.mpr ⟨e, List.mem_filter.mpr ⟨List.mem_filter.mpr ⟨he, kl⟩, ?_⟩, rfl⟩
  unfold goesOut landF at k ⊢
  have ko : landW (lessF es) 0 [] (splitC 47 e.path) = .out := by
    cases e2 : landW (lessF es) 0 [] (splitC 47 e.path) with
    | out => rfl
    | noEntry => rw [e2] at k; cases k
    | notFolder => rw [e2] at k; cases k
    | tooFar => rw [e2] at k; cases k
    | ok z => rw [e2] at k; cases k
  rw [land_less es (lessF es) sub 20 0 [] _ (by omega) ko]
  rfl
theorem land_parts (es : List Ent) (hg : Goals es) : ∀ (n : Nat) (l : Nat) (h r : List (List Nat)) (z : List (List Nat)), 20 - l ≤ n → (∀ p ∈ h, partOk p) → Way r → landW es l h r = .ok z → ∀ p ∈ z, partOk p := by
  have snoc : ∀ (h : List (List Nat)) (p : List Nat), (∀ p ∈ h, partOk p) → partOk p → ∀ x ∈ h ++ [p], partOk x := fun h p hh hp x hx => by
    rcases List.mem_append.mp hx with k | k
    · exact hh x k
    · rw [List.mem_singleton.mp k]; exact hp
  have core : ∀ (l : Nat) (ihn : ∀ (h r z : List (List Nat)), ¬ 20 ≤ l → (∀ p ∈ h, partOk p) → Way r → landW es (l + 1) h r = .ok z → ∀ p ∈ z, partOk p) (h r z : List (List Nat)), (∀ p ∈ h, partOk p) → Way r → landW es l h r = .ok z → ∀ p ∈ z, partOk p := by
    intro l ihn h r z hh wr e
    induction r generalizing h with
    | nil => rw [landW_nil] at e; cases e; exact hh
    | cons p r ih =>
      have wr2 : Way r := fun x hx => wr x (List.mem_cons_of_mem _ hx)
      by_cases d : p = dots
      · subst d
        rw [landW_dots] at e
        split at e
        · cases e
        · exact ih _ (fun x hx => hh x ((List.dropLast_sublist _).mem hx)) wr2 e
      · have pk : partOk p := by
          rcases wr p (by simp) with k | k
          · exact absurd k d
          · exact k
        cases a : atE es (pathOf (h ++ [p])) with
        | none => rw [landW_none d a] at e; cases e
        | some x =>
          cases x with
          | folder t => rw [landW_folder d a] at e; exact ih _ (snoc h p hh pk) wr2 e
          | file t b =>
            rw [landW_file d a] at e
            split at e
            · cases e
            · cases e
              exact snoc h p hh pk
          | link t g =>
            rw [landW_link d a] at e
            split at e
            · cases e
            · rename_i k
              refine ihn _ _ _ k hh (fun x hx => ?_) e
              rcases List.mem_append.mp hx with hx | hx
              · exact (hg t g (atE_mem a).1).2 x hx
              · exact wr2 x hx
  intro n
  induction n with
  | zero => exact fun l h r z hn => core l (fun h r z k => absurd k (by omega)) h r z
  | succ n ihn => exact fun l h r z hn => core l (fun h r z k => ihn (l + 1) h r z (by omega)) h r z
theorem TreeOk.goals {es : List Ent} (h : TreeOk es) : Goals es := fun t g k => (h.ok _ k).2
theorem landF_parts {es : List Ent} (h : TreeOk es) {t : List Nat} (ht : PathT t) {z : List (List Nat)} (e : landF es t = .ok z) : ∀ p ∈ z, partOk p :=
  land_parts es h.goals 20 0 [] _ z (by omega) (fun p hp => by cases hp) (fun p hp => .inr (ht.2.2 p hp)) e
def landV : LRes → V
  | .out => .str (Str.ofString "LeadsOut")
  | .noEntry => .str (Str.ofString "NoEntry")
  | .notFolder => .str (Str.ofString "NotFolder")
  | .tooFar => .str (Str.ofString "TooFar")
  | .ok h => T (pathOf h)
theorem path_word {z : List (List Nat)} (h : ∀ p ∈ z, partOk p) {c : Nat} {r : List Nat} (hc : c ∉ good) (x : String) (hx : Str.ofString x = mkS (c :: r)) : T (pathOf z) ≠ V.str (Str.ofString x) := by
  intro e
  rw [hx] at e
  have e2 : pathOf z = c :: r := T_inj e
  cases z with
  | nil => cases e2
  | cons p q =>
    have pk := h p (by simp)
    cases p with
    | nil => exact absurd pk.1 (by decide)
    | cons d s =>
      have : (pathOf ((d :: s) :: q)).head? = some d := by
        cases q with
        | nil => rfl
        | cons p2 q2 => rfl
      rw [e2] at this
      have ed : c = d := Option.some.inj this
      exact hc (by rw [ed]; exact pk.2.2.2.2 d (by simp))
theorem landV_out {es : List Ent} (h : TreeOk es) {t : List Nat} (ht : PathT t) : decide (landV (landF es t) = V.str (Str.ofString "LeadsOut")) = (landF es t).isOut := by
  cases e : landF es t with
  | out => exact decide_eq_true rfl
  | noEntry => exact decide_eq_false fun k => absurd (V.str.inj k) (by decide +kernel)
  | notFolder => exact decide_eq_false fun k => absurd (V.str.inj k) (by decide +kernel)
  | tooFar => exact decide_eq_false fun k => absurd (V.str.inj k) (by decide +kernel)
  | ok z => exact decide_eq_false (path_word (landF_parts h ht e) (c := 76) (r := [101, 97, 100, 115, 79, 117, 116]) (by decide) "LeadsOut" (by decide +kernel))
theorem word_link (e : Ent) : decide (wordOf e = V.str (Str.ofString "link")) = e.isLink := by
  cases e with
  | folder t => exact decide_eq_false fun k => absurd (V.str.inj k) (by decide +kernel)
  | file t b => exact decide_eq_false fun k => absurd (V.str.inj k) (by decide +kernel)
  | link t g => exact decide_eq_true rfl
theorem dpTreeOf {K : PySem.W.Frag} {H : Hp} {t : Addr} {xs : List V} {es : List Ent} (h : SqT K H t xs) (al : Al2 (fun e x => Dp K H x (dEnt e)) es xs) : Dp K H (.ref t) (dTree es) := by
  refine .tup h ?_
  clear h
  induction al with
  | nil => exact .nil
  | cons d _ ih => exact .cons d ih
end Fc

namespace Fc
open PySem PySem.Spec L2 PyProof.Rows
def topS (i : Nat) : Stmt := PySem.Challenge.pw_filecrate_k20_whole_ways_over_links.main.body.getD i (.Pass ⟨0, 0, 0, 0⟩)
abbrev sPartsOf : Stmt := topS 7
abbrev nPartsOf : List Str := ["path"]
theorem scPartsOf : FnScope nPartsOf ["path"] (defScope sPartsOf) := ⟨rfl, rfl, rfl, by decide +kernel, rfl, by decide +kernel, by decide +kernel⟩
abbrev sByPath : Stmt := topS 9
abbrev nByPath : List Str := ["tree", "entry"]
theorem scByPath : FnScope nByPath ["tree"] (defScope sByPath) := ⟨rfl, rfl, rfl, by decide +kernel, rfl, by decide +kernel, by decide +kernel⟩
abbrev sLanding : Stmt := topS 12
abbrev nLanding : List Str := ["tree", "path", "found", "here", "left", "links", "part", "entry"]
theorem scLanding : FnScope nLanding ["tree", "path"] (defScope sLanding) := ⟨rfl, rfl, rfl, by decide +kernel, rfl, by decide +kernel, by decide +kernel⟩
abbrev sFolderAbove : Stmt := topS 13
abbrev nFolderAbove : List Str := ["parts"]
theorem scFolderAbove : FnScope nFolderAbove ["parts"] (defScope sFolderAbove) := ⟨rfl, rfl, rfl, by decide +kernel, rfl, by decide +kernel, by decide +kernel⟩
abbrev sEntryAt : Stmt := topS 14
abbrev nEntryAt : List Str := ["found", "parts", "path"]
theorem scEntryAt : FnScope nEntryAt ["found", "parts"] (defScope sEntryAt) := ⟨rfl, rfl, rfl, by decide +kernel, rfl, by decide +kernel, by decide +kernel⟩
abbrev sLawD : Stmt := topS 16
abbrev nLawD : List Str := ["_law_cell_here", "_law_place", "_law_many", "_law_number"]
theorem scLawD : FnScope nLawD ["_law_cell_here", "_law_place", "_law_many"] (defScope sLawD) := ⟨rfl, rfl, rfl, by decide +kernel, rfl, by decide +kernel, by decide +kernel⟩
abbrev sLawCell : Stmt := topS 17
abbrev nLawCell : List Str := ["_law_script", "_law_k"]
theorem scLawCell : FnScope nLawCell ["_law_script", "_law_k"] (defScope sLawCell) := ⟨rfl, rfl, rfl, by decide +kernel, rfl, by decide +kernel, by decide +kernel⟩
abbrev sLawWeb : Stmt := topS 18
abbrev nLawWeb : List Str := ["_law_cells", "_law_found", "_law_path", "_law_cell_here", "_law_folder", "_law_parts", "_law_k"]
theorem scLawWeb : FnScope nLawWeb ["_law_cells"] (defScope sLawWeb) := ⟨rfl, rfl, rfl, by decide +kernel, rfl, by decide +kernel, by decide +kernel⟩
abbrev sLawLanding : Stmt := topS 19
abbrev nLawLanding : List Str := ["_law_tree", "_law_way", "_law_here", "_law_parts", "_law_links", "_law_part", "_law_path", "_law_fit", "_law_entry"]
theorem scLawLanding : FnScope nLawLanding ["_law_tree", "_law_way"] (defScope sLawLanding) := ⟨rfl, rfl, rfl, by decide +kernel, rfl, by decide +kernel, by decide +kernel⟩
abbrev sLawTold : Stmt := topS 20
abbrev nLawTold : List Str := ["_law_tree", "_law_way", "_law_found"]
theorem scLawTold : FnScope nLawTold ["_law_tree", "_law_way"] (defScope sLawTold) := ⟨rfl, rfl, rfl, by decide +kernel, rfl, by decide +kernel, by decide +kernel⟩
abbrev sLaw : Stmt := topS 21
abbrev nLaw : List Str := ["_law_script", "_law_cell_here", "_law_tree", "_law_ways", "_law_more", "_law_way", "_law_many", "_law_row", "_law_parts", "_law_k", "_law_due", "_law_told_here", "_law_entry"]
theorem scLaw : FnScope nLaw ["_law_script"] (defScope sLaw) := ⟨rfl, rfl, rfl, by decide +kernel, rfl, by decide +kernel, by decide +kernel⟩
structure Env (K : PySem.W.Frag) (mg : Str → Option Value) : Prop where
  b_isinstance : mg "isinstance" = none
  b_len : mg "len" = none
  b_list : mg "list" = none
  b_range : mg "range" = none
  b_sorted : mg "sorted" = none
  b_str : mg "str" = none
  b_tuple : mg "tuple" = none
  g_MOST_LINKS : ∃ t, mg "MOST_LINKS" = some (.int 20 t)
structure Excs (K : PySem.W.Frag) (mg : Str → Option Value) (e_LeadsOut e_NoEntry e_NotFolder e_TooFar : Addr) : Prop where
  LeadsOut : Exc K mg "LeadsOut" e_LeadsOut
  NoEntry : Exc K mg "NoEntry" e_NoEntry
  NotFolder : Exc K mg "NotFolder" e_NotFolder
  TooFar : Exc K mg "TooFar" e_TooFar
  p_LeadsOut_LeadsOut : PySem.W.exmOne K (.ref e_LeadsOut) (.ref e_LeadsOut) = some true
  p_LeadsOut_NoEntry : PySem.W.exmOne K (.ref e_LeadsOut) (.ref e_NoEntry) = some false
  p_LeadsOut_NotFolder : PySem.W.exmOne K (.ref e_LeadsOut) (.ref e_NotFolder) = some false
  p_LeadsOut_TooFar : PySem.W.exmOne K (.ref e_LeadsOut) (.ref e_TooFar) = some false
  p_NoEntry_LeadsOut : PySem.W.exmOne K (.ref e_NoEntry) (.ref e_LeadsOut) = some false
  p_NoEntry_NoEntry : PySem.W.exmOne K (.ref e_NoEntry) (.ref e_NoEntry) = some true
  p_NoEntry_NotFolder : PySem.W.exmOne K (.ref e_NoEntry) (.ref e_NotFolder) = some false
  p_NoEntry_TooFar : PySem.W.exmOne K (.ref e_NoEntry) (.ref e_TooFar) = some false
  p_NotFolder_LeadsOut : PySem.W.exmOne K (.ref e_NotFolder) (.ref e_LeadsOut) = some false
  p_NotFolder_NoEntry : PySem.W.exmOne K (.ref e_NotFolder) (.ref e_NoEntry) = some false
  p_NotFolder_NotFolder : PySem.W.exmOne K (.ref e_NotFolder) (.ref e_NotFolder) = some true
  p_NotFolder_TooFar : PySem.W.exmOne K (.ref e_NotFolder) (.ref e_TooFar) = some false
  p_TooFar_LeadsOut : PySem.W.exmOne K (.ref e_TooFar) (.ref e_LeadsOut) = some false
  p_TooFar_NoEntry : PySem.W.exmOne K (.ref e_TooFar) (.ref e_NoEntry) = some false
  p_TooFar_NotFolder : PySem.W.exmOne K (.ref e_TooFar) (.ref e_NotFolder) = some false
  p_TooFar_TooFar : PySem.W.exmOne K (.ref e_TooFar) (.ref e_TooFar) = some true

section
variable {P : Program} {w : World} {mg : Str → Option Value} {K : PySem.W.Frag} {base : Heap} {e_LeadsOut e_NoEntry e_NotFolder e_TooFar : Addr}
/-! ### a draw -/
def spD : Sp := fun vs H Q _ => ∃ c p m : Int, vs = [.int c, .int p, .int m] ∧ 0 ≤ p ∧ p < 100000 ∧ 0 < m ∧ ∀ d : Int, 0 ≤ d → d < m → Q (.int d) H
theorem ok_d {f : Addr} {fd : FuncData} (Ev : Env K mg) (F : Fun K "_law_d" "_law_d" sLawD f fd) : FnOk P w K mg base CX0 1 f fd ["_law_cell_here", "_law_place", "_law_many"] spD := by
  refine F.ok scLawD (fun vs H Q E h => ?_) (fun cdv A outer s H vs Q E hr h => ?_)
  · obtain ⟨c, p, m, rfl, _⟩ := h; rfl
  · obtain ⟨c, p, m, rfl, p0, p1, hm, q⟩ := h
    refine ⟨_, (pss_cons (ps_set (i := 3) scLawD.nd rfl (.inl rfl) (pe_op op_mod (pe_op op_add (pv 0) (pe_op op_mul pe_int (pv 1))) pe_int))
      (pss_cons (ps_set (i := 3) scLawD.nd rfl (.inl rfl) (pe_op op_mod (pe_op op_mul (pe_op op_mod (pe_op op_mul (pv 3) (pv 3)) pe_int) pe_int) pe_int))
      (pss_one (ps_ret (pe_op op_mod (pe_op op_fdiv (pv 3) pe_int) (pv 2)))))), ?_⟩
    refine ⟨_, rfl, _, rfl, _, _, rfl, rfl, .inl ⟨by decide, by decide⟩, _, _, rfl, rfl, _, 4294967291, rfl, rfl, (show (0 : Int) < 4294967291 by decide), ?_⟩
    have b := Int.emod_lt_of_pos (c + 104729 * p) (show (0 : Int) < 4294967291 by decide)
    have b' := Int.emod_nonneg (c + 104729 * p) (show (4294967291 : Int) ≠ 0 by decide)
    refine ⟨_, rfl, _, rfl, _, _, rfl, rfl, .inl ⟨by omega, by omega⟩, _, 4294967279, rfl, rfl, (show (0 : Int) < 4294967279 by decide), _, 48271, rfl, rfl, .inr ⟨by decide, by decide⟩, _, 4294967291, rfl, rfl, (show (0 : Int) < 4294967291 by decide), ?_⟩
    refine ⟨_, rfl, _, 64, rfl, rfl, ⟨by decide, by decide⟩, _, rfl, _, _, rfl, rfl, hm, q _ (Int.emod_nonneg _ (Int.ne_of_gt hm)) (Int.emod_lt_of_pos _ hm)⟩

/-! ### a cell of the script -/
def spCellA (K : PySem.W.Frag) : Sp := fun vs H Q _ => ∃ (a : Addr) (ns : List Int) (k : Nat), vs = [.ref a, .int (k : Int)] ∧ SqL K H a (ns.map V.int) ∧ ∀ c : Int, Q (.int c) H
theorem ok_cell {f : Addr} {fd : FuncData} (Ev : Env K mg) (F : Fun K "_law_cell" "_law_cell" sLawCell f fd) : FnOk P w K mg base CX0 1 f fd ["_law_script", "_law_k"] (spCellA K) := by
  refine F.ok scLawCell (fun vs H Q E h => ?_) (fun cdv A outer s H vs Q E hr h => ?_)
  · obtain ⟨a, ns, k, rfl, _⟩ := h; rfl
  · obtain ⟨a, ns, k, rfl, hS, q⟩ := h
    refine ⟨_, (pss_cons (ps_if (pt_cmpR op_lt (pv 1) (pe_callB call_len_seq (by rfl) Ev.b_len PySem.boot_len (pa_cons (pv 0) pa_nil)) (nomark _))
        (pss_one (ps_ret (pe_ix ix_list (pv 0) (pv 1) (fun _ _ => rfl))))
        pss_nil)
      (pss_one (ps_ret pe_int))), ?_⟩
    refine ⟨_, rfl, _, rfl, a, _, rfl, .inl hS, _, _, rfl, rfl, _, rfl, ite2 (fun z => ?_) (fun _ => q _)⟩
    have lt : k < ns.length := by
      have := of_decide_eq_true z
      rw [List.length_map] at this
      omega
    have gk : (ns.map V.int)[k]? = some (.int ns[k]) := by rw [List.getElem?_map, List.getElem?_eq_getElem lt]; rfl
    exact ⟨_, rfl, _, rfl, a, _, _, _, rfl, rfl, hS, atI_nat gk, q _⟩

/-! ### a web of links, by cells -/
theorem eight_folders {d : Int} (h0 : 0 ≤ d) (h1 : d < 8) : ∃ f ∈ webF, atI [V.str "", .str "a/", .str "a/b/", .str "b/", .str "b/a/", .str "c/", .str "a/b/a/", .str "b/"] d = some (T f) := by
  have : d = 0 ∨ d = 1 ∨ d = 2 ∨ d = 3 ∨ d = 4 ∨ d = 5 ∨ d = 6 ∨ d = 7 := by omega
  rcases this with rfl | rfl | rfl | rfl | rfl | rfl | rfl | rfl
  · exact ⟨[], by decide, congrArg (fun x => some (V.str x)) (show Str.ofString "" = mkS [] by decide +kernel)⟩
  · exact ⟨[97, 47], by decide, congrArg (fun x => some (V.str x)) (show Str.ofString "a/" = mkS [97, 47] by decide +kernel)⟩
  · exact ⟨[97, 47, 98, 47], by decide, congrArg (fun x => some (V.str x)) (show Str.ofString "a/b/" = mkS [97, 47, 98, 47] by decide +kernel)⟩
  · exact ⟨[98, 47], by decide, congrArg (fun x => some (V.str x)) (show Str.ofString "b/" = mkS [98, 47] by decide +kernel)⟩
  · exact ⟨[98, 47, 97, 47], by decide, congrArg (fun x => some (V.str x)) (show Str.ofString "b/a/" = mkS [98, 47, 97, 47] by decide +kernel)⟩
  · exact ⟨[99, 47], by decide, congrArg (fun x => some (V.str x)) (show Str.ofString "c/" = mkS [99, 47] by decide +kernel)⟩
  · exact ⟨[97, 47, 98, 47, 97, 47], by decide, congrArg (fun x => some (V.str x)) (show Str.ofString "a/b/a/" = mkS [97, 47, 98, 47, 97, 47] by decide +kernel)⟩
  · exact ⟨[98, 47], by decide, congrArg (fun x => some (V.str x)) (show Str.ofString "b/" = mkS [98, 47] by decide +kernel)⟩
theorem lmn_at {d : Int} (h0 : 0 ≤ d) (h1 : d < 3) : ∃ c ∈ [108, 109, 110], atI (Str.ofString "lmn").cps.toList d = some c := by
  have : d = 0 ∨ d = 1 ∨ d = 2 := by omega
  rcases this with rfl | rfl | rfl
  · exact ⟨108, by decide, by decide +kernel⟩
  · exact ⟨109, by decide, by decide +kernel⟩
  · exact ⟨110, by decide, by decide +kernel⟩
theorem six_ups {d : Int} (h0 : 0 ≤ d) (h1 : d < 6) : ∃ n : Nat, atI [V.int 0, .int 0, .int 1, .int 1, .int 2, .int 3] d = some (.int (n : Int)) ∧ n ≤ 3 := by
  have : d = 0 ∨ d = 1 ∨ d = 2 ∨ d = 3 ∨ d = 4 ∨ d = 5 := by omega
  rcases this with rfl | rfl | rfl | rfl | rfl | rfl
  · exact ⟨0, rfl, by decide⟩
  · exact ⟨0, rfl, by decide⟩
  · exact ⟨1, rfl, by decide⟩
  · exact ⟨1, rfl, by decide⟩
  · exact ⟨2, rfl, by decide⟩
  · exact ⟨3, rfl, by decide⟩
theorem eight_ways {d : Int} (h0 : 0 ≤ d) (h1 : d < 8) : ∃ p, atI [V.str "l", .str "a", .str "m", .str "b", .str "n", .str "..", .str "c", .str "z"] d = some (T p) ∧ (p = dots ∨ partOk p) := by
  have : d = 0 ∨ d = 1 ∨ d = 2 ∨ d = 3 ∨ d = 4 ∨ d = 5 ∨ d = 6 ∨ d = 7 := by omega
  rcases this with rfl | rfl | rfl | rfl | rfl | rfl | rfl | rfl
  · exact ⟨[108], congrArg (fun x => some (V.str x)) (show Str.ofString "l" = mkS [108] by decide +kernel), .inr (by decide)⟩
  · exact ⟨[97], congrArg (fun x => some (V.str x)) (show Str.ofString "a" = mkS [97] by decide +kernel), .inr (by decide)⟩
  · exact ⟨[109], congrArg (fun x => some (V.str x)) (show Str.ofString "m" = mkS [109] by decide +kernel), .inr (by decide)⟩
  · exact ⟨[98], congrArg (fun x => some (V.str x)) (show Str.ofString "b" = mkS [98] by decide +kernel), .inr (by decide)⟩
  · exact ⟨[110], congrArg (fun x => some (V.str x)) (show Str.ofString "n" = mkS [110] by decide +kernel), .inr (by decide)⟩
  · exact ⟨[46, 46], congrArg (fun x => some (V.str x)) (show Str.ofString ".." = mkS [46, 46] by decide +kernel), .inl rfl⟩
  · exact ⟨[99], congrArg (fun x => some (V.str x)) (show Str.ofString "c" = mkS [99] by decide +kernel), .inr (by decide)⟩
  · exact ⟨[122], congrArg (fun x => some (V.str x)) (show Str.ofString "z" = mkS [122] by decide +kernel), .inr (by decide)⟩
theorem way_goal {ws : List (List Nat)} (n : ws ≠ []) (l : ws.length ≤ 8) (h : ∀ p ∈ ws, p = dots ∨ partOk p) : GoalT (joinC 47 ws) := by
  have e : splitC 47 (joinC 47 ws) = ws := split_joinC 47 n fun p hp => by
    rcases h p hp with k | k
    · rw [k]; decide
    · exact no_stroke k
  unfold GoalT
  rw [e]
  exact ⟨l, h⟩
theorem way_sizes {ws : List (List Nat)} (h : ∀ p ∈ ws, p = dots ∨ partOk p) : ∀ p ∈ ws, p.length ≤ 12 := fun p hp => by
  rcases h p hp with k | k
  · rw [k]; decide
  · exact k.2.1
theorem web_len : ∀ f ∈ webF, f.length ≤ 6 := by decide
theorem six_lits : [V.str "a", .str "a/b", .str "a/b/a", .str "b", .str "b/a", .str "c"] = sixP.map T := by
  show [V.str (Str.ofString "a"), .str (Str.ofString "a/b"), .str (Str.ofString "a/b/a"), .str (Str.ofString "b"), .str (Str.ofString "b/a"), .str (Str.ofString "c")] = _
  rw [show Str.ofString "a" = mkS [97] by decide +kernel, show Str.ofString "a/b" = mkS [97, 47, 98] by decide +kernel, show Str.ofString "a/b/a" = mkS [97, 47, 98, 47, 97] by decide +kernel, show Str.ofString "b" = mkS [98] by decide +kernel, show Str.ofString "b/a" = mkS [98, 47, 97] by decide +kernel, show Str.ofString "c" = mkS [99] by decide +kernel]
  rfl
def spWeb (K : PySem.W.Frag) : Sp := fun vs H Q _ => ∃ (a : Addr) (ns : List Int), vs = [.ref a] ∧ SqL K H a (ns.map V.int) ∧ ns.length ≤ 20 ∧ ∀ H' v es, Same H H' → TreeOk es → es.length ≤ 26 → (∀ e ∈ es, ∀ a ∈ aboveT e.path, a ∈ sixP) → (∀ e ∈ es, Low e.path) → Dp K H' v (dTree es) → Q v H'
theorem ok_web {f : Addr} {fd : FuncData} (Ev : Env K mg) (CLawD : Cal P w K mg base "_law_d" 1 ["_law_cell_here", "_law_place", "_law_many"] spD) (F : Fun K "_law_web" "_law_web" sLawWeb f fd) : FnOk P w K mg base CX0 2 f fd ["_law_cells"] (spWeb K) := by
  refine F.ok scLawWeb (fun vs H Q E h => ?_) (fun cdv A outer s H vs Q E hr h => ?_)
  · obtain ⟨a, ns, rfl, _⟩ := h; rfl
  · obtain ⟨a, ns, rfl, hS, few, q⟩ := h
    refine ⟨_, (pss_cons (ps_set (i := 1) scLawWeb.nd rfl (.inr rfl) pe_dnewK)
      (pss_cons (ps_for PassesOwn.never rfl (pi_list (pe_lst (pa_cons pe_str (pa_cons pe_str (pa_cons pe_str (pa_cons pe_str (pa_cons pe_str (pa_cons pe_str pa_nil)))))))) (pg_name (i := 2) scLawWeb.nd rfl (.inl rfl))
        (pss_one (ps_dput (hu1 hr) (pv 1) (pv 2) (pe_tupU (pa_cons pe_str (pa_cons (pv 2) pa_nil))) rfl)))
      (pss_cons (ps_for PassesOwn.never rfl (pi_list (pv 0)) (pg_name (i := 3) scLawWeb.nd rfl (.inl rfl))
        (pss_cons (ps_set (i := 4) scLawWeb.nd rfl (.inl rfl) (pe_ix ix_list (pe_lst (pa_cons pe_str (pa_cons pe_str (pa_cons pe_str (pa_cons pe_str (pa_cons pe_str (pa_cons pe_str (pa_cons pe_str (pa_cons pe_str pa_nil))))))))) (pe_c CLawD (hr.mono (by omega)) (pa_cons (pv 3) (pa_cons pe_int (pa_cons pe_int pa_nil)))) (fun _ _ => rfl)))
        (pss_cons (ps_set (i := 2) scLawWeb.nd rfl (.inl rfl) (pe_op op_add_str (pv 4) (pe_ix ix_str pe_str (pe_c CLawD (hr.mono (by omega)) (pa_cons (pv 3) (pa_cons pe_int (pa_cons pe_int pa_nil)))) (fun _ _ => rfl))))
        (pss_cons (ps_set (i := 3) scLawWeb.nd rfl (.inl rfl) (pe_op op_fdiv (pv 3) pe_int))
        (pss_one (ps_if (pt_cmpR op_eq (pe_c CLawD (hr.mono (by omega)) (pa_cons (pv 3) (pa_cons pe_int (pa_cons pe_int pa_nil)))) pe_int (nomark _))
          (pss_one (ps_dput (hu1 hr) (pv 1) (pv 2) (pe_tupU (pa_cons pe_str (pa_cons (pv 2) (pa_cons (pe_tupU (pa_cons (pe_c CLawD (hr.mono (by omega)) (pa_cons (pv 3) (pa_cons pe_int (pa_cons pe_int pa_nil)))) pa_nil)) pa_nil)))) rfl))
          (pss_cons (ps_set (i := 5) scLawWeb.nd rfl (.inl rfl) (pe_op op_rep (pe_lst (pa_cons pe_str pa_nil)) (pe_ix ix_list (pe_lst (pa_cons pe_int (pa_cons pe_int (pa_cons pe_int (pa_cons pe_int (pa_cons pe_int (pa_cons pe_int pa_nil))))))) (pe_c CLawD (hr.mono (by omega)) (pa_cons (pv 3) (pa_cons pe_int (pa_cons pe_int pa_nil)))) (fun _ _ => rfl))))
          (pss_cons (ps_set (i := 3) scLawWeb.nd rfl (.inl rfl) (pe_op op_fdiv (pv 3) pe_int))
          (pss_cons (ps_for PassesOwn.never rfl (pi_range1 (by rfl) Ev.b_range (pa_cons (pe_c CLawD (hr.mono (by omega)) (pa_cons (pv 3) (pa_cons pe_int (pa_cons pe_int pa_nil)))) pa_nil)) (pg_name (i := 6) scLawWeb.nd rfl (.inl rfl))
            (pss_cons (ps_expr (pe_bm PySem.F.plainAttrs_list PySem.F.slot_list_append PySem.F.type_list_append mt_append (pv 5) (pa_cons (pe_ix ix_list (pe_lst (pa_cons pe_str (pa_cons pe_str (pa_cons pe_str (pa_cons pe_str (pa_cons pe_str (pa_cons pe_str (pa_cons pe_str (pa_cons pe_str pa_nil))))))))) (pe_c CLawD (hr.mono (by omega)) (pa_cons (pv 3) (pa_cons pe_int (pa_cons pe_int pa_nil)))) (fun _ _ => rfl)) pa_nil)))
            (pss_one (ps_set (i := 3) scLawWeb.nd rfl (.inl rfl) (pe_op op_fdiv (pv 3) pe_int)))))
          (pss_one (ps_dput (hu1 hr) (pv 1) (pv 2) (pe_tupU (pa_cons pe_str (pa_cons (pv 2) (pa_cons (pe_join pe_str (pe_orT (pv 5) (pe_one (pe_lst (pa_cons pe_str pa_nil))))) pa_nil)))) rfl)))))))))))
      (pss_one (ps_ret (pe_callTy call_tupleU (by rfl) Ev.b_tuple (by decide +kernel) (pa_cons (pe_lc (own := [("_law_path", 2)]) (g := gName 2) (tt := tYes) (by rfl) scLawWeb.nd (pi_list (pe_callB (call_sortedD rfl) (by rfl) Ev.b_sorted (by decide +kernel) (pa_cons (pv 1) pa_nil))) (blkOk_by (own := [("_law_path", 2)]) (N := nLawWeb) (sc := defScope sLawWeb) (by decide +kernel)) (fun _ _ _ _ _ => (pg_name (i := 2) scLawWeb.nd rfl (.inl rfl))) (fun _ _ _ _ _ => pts_nil) (fun _ _ _ _ _ => (pe_dget (hu1 hr) (pv 1) (pv 2) (fun _ _ => rfl)))) pa_nil))))))), ?_⟩
    have size : ∀ n : Nat, n ≤ 1000 → n ≤ sizeLine := fun n h => by rw [sizeLine_eq]; omega
    have l1 : (Str.ofString "/").length = 1 := by decide +kernel
    refine fun p1 n1 => ?_
    refine ⟨size 6 (by decide), fun p2 n2 => ?_⟩
    rw [six_lits]
    have h21 : (upd (upd H p1 (.dK [])) p2 (.lst (sixP.map T))) p1 = some (.dK []) := grow n2 _ _ upd_same
    have h22 : (upd (upd H p1 (.dK [])) p2 (.lst (sixP.map T))) p2 = some (.lst (sixP.map T)) := upd_same
    have sm2 : Same H (upd (upd H p1 (.dK [])) p2 (.lst (sixP.map T))) := (grow n1).trans (grow n2)
    generalize upd (upd H p1 (.dK [])) p2 (.lst (sixP.map T)) = H2 at h21 h22 sm2
    have ne12 : p2 ≠ p1 := fun e => by
      rw [e, h21] at h22
      cases h22
    refine ⟨p2, rfl, ⟨_, SqL.of h22⟩, for_list (xs := sixP.map T) (fun i σ H' => ∃ (es : List Ent) (kvs : List (Key × V)) (y2 : Option V), σ = [some (.ref a), some (.ref p1), y2, none, none, none, none] ∧ Same H H' ∧ H' p2 = some (.lst (sixP.map T)) ∧ H' p1 = some (.dK kvs) ∧ OnE K H' es kvs ∧ Nod es ∧ (∀ e ∈ es, ∃ s ∈ sixP, e = .folder s) ∧ (∀ s ∈ sixP.take i, Ent.folder s ∈ es) ∧ es.length ≤ i)
      ⟨[], [], none, rfl, sm2, h22, h21, .nil, List.nodup_nil, (fun e h => by cases h), (fun e h => by cases h), Nat.le_refl _⟩ (fun i σ H' _ p => ?_) (fun i x σ H3 hx p => ?_) (fun σ H3 p => ?_)⟩
    · obtain ⟨_, _, _, _, _, e, _⟩ := p
      exact SqL.of e
    · obtain ⟨es, kvs, y2, rfl, sm, hl, hk, on, nd, fo, al, le⟩ := p
      obtain ⟨t, ht, rfl⟩ : ∃ t, sixP[i]? = some t ∧ x = T t := by
        rw [List.getElem?_map] at hx
        cases e : sixP[i]? with
        | none => rw [e] at hx; cases hx
        | some p => rw [e] at hx; exact ⟨p, rfl, (Option.some.inj hx).symm⟩
      have li : i < 6 := (List.getElem?_eq_some_iff.mp ht).1
      have sme : SmallE es := fun e he t b z => by
        obtain ⟨s, _, rfl⟩ := fo e he
        cases z
      refine ⟨_, rfl, size 2 (by decide), fun H7 t7 s7 h7 => ⟨_, rfl, _, rfl, p1, _, rfl, DPut.k (k := kT t) (s7 _ _ hk) (by rw [on.length, sizeLine_eq]; omega), ?_⟩⟩
      have w7 : Wr H7 p1 := Wr.dK (s7 _ _ hk)
      refine ⟨putE es (.folder t), _, _, rfl, keep_new (sm.trans s7) n1, ?_, upd_same, onE_put (e := .folder t) (onE_over w7 sme (onE_keep s7 on)) (dpOver w7 rfl (dEnt_folder h7)), putE_nod nd, fun e he => ?_, fun s hs => ?_, Nat.le_trans putE_few (by omega)⟩
      · rw [upd_ne ne12]
        exact s7 _ _ hl
      · rcases putE_mem he with rfl | ⟨he, _⟩
        · exact ⟨t, List.mem_of_getElem? ht, rfl⟩
        · exact fo e he
      · rw [List.take_add_one, ht] at hs
        rcases List.mem_append.mp hs with hs | hs
        · by_cases z : s = t
          · rw [z]; exact putE_self
          · exact mem_putE (al s hs) z
        · rw [show s = t from List.mem_singleton.mp hs]
          exact putE_self
    · obtain ⟨es0, kvs0, y2, rfl, sm3, _, hk3, on3, nd3, fo3, al3, le3⟩ := p
      rw [List.length_map, List.take_length] at al3
      rw [List.length_map] at le3
      have wb3 : Web es0 := ⟨nd3, fun e he => (by obtain ⟨s, hs, rfl⟩ := fo3 e he; exact (six_ok s hs).1), al3, fun e he => (by obtain ⟨s, hs, rfl⟩ := fo3 e he; exact (six_ok s hs).2.1), fun e he => (by obtain ⟨s, hs, rfl⟩ := fo3 e he; exact (six_ok s hs).2.2)⟩
      refine ⟨_, rfl, a, rfl, ⟨_, sm3.seq hS⟩, for_list (xs := ns.map V.int) (fun i σ H' => ∃ (es : List Ent) (kvs : List (Key × V)) (y2 y3 y4 y5 y6 : Option V), σ = [some (.ref a), some (.ref p1), y2, y3, y4, y5, y6] ∧ Same H H' ∧ H' p1 = some (.dK kvs) ∧ OnE K H' es kvs ∧ Web es ∧ es.length ≤ 6 + i)
        ⟨es0, kvs0, y2, none, none, none, none, rfl, sm3, hk3, on3, wb3, le3⟩ (fun i σ H' _ p => ?_) (fun i x σ H4 hx p => ?_) (fun σ H4 p => ?_)⟩
      · obtain ⟨_, _, _, _, _, _, _, _, e, _⟩ := p
        exact e.seq hS
      · obtain ⟨es, kvs, y2, y3, y4, y5, y6, rfl, sm, hk, on, wb, le⟩ := p
        obtain ⟨n, hn, rfl⟩ := got hx
        have li : i < ns.length := (List.getElem?_eq_some_iff.mp hn).1
        have sme := wb.stock.small
        have lkv : kvs.length < sizeLine := by rw [on.length, sizeLine_eq]; omega
        refine ⟨size 8 (by decide), fun p5 n5 => ⟨_, rfl, n, 1, 8, rfl, by decide, by decide, by decide, fun d d0 d1 => ?_⟩⟩
        obtain ⟨fo, hfo, afo⟩ := eight_folders d0 d1
        refine ⟨p5, _, _, _, rfl, rfl, SqL.of upd_same, afo, ?_⟩
        have s5 := grow (o := .lst [V.str "", .str "a/", .str "a/b/", .str "b/", .str "b/a/", .str "c/", .str "a/b/a/", .str "b/"]) n5
        generalize upd H4 p5 (.lst [V.str "", .str "a/", .str "a/b/", .str "b/", .str "b/a/", .str "c/", .str "a/b/a/", .str "b/"]) = H5 at s5
        refine ⟨_, rfl, _, rfl, n, 8, 3, rfl, by decide, by decide, by decide, fun d2 e0 e1 => ?_⟩
        obtain ⟨c, hc, ac⟩ := lmn_at e0 e1
        refine ⟨Str.ofString "lmn", d2, c, rfl, rfl, size _ (by decide +kernel), ac, mkS fo, mkS [c], rfl, rfl, ?_, ?_⟩
        · have := web_len fo hfo
          rw [len_mkS, len_mkS]
          refine size _ ?_
          simp only [List.length_cons, List.length_nil]
          omega
        rw [mkS_app]
        obtain ⟨pok, pup, pno, plow⟩ := web_ok fo hfo c hc
        generalize fo ++ [c] = t at pok pup pno plow
        refine ⟨_, rfl, _, 24, rfl, rfl, ⟨by decide, by decide⟩, ?_⟩
        refine ⟨_, rfl, _, 1, 6, rfl, by decide, by decide, by decide, fun d3 f0 f1 => ⟨rfl, _, rfl, ite2 (fun _ => ?_) (fun _ => ?_)⟩⟩
        · refine ⟨_, rfl, _, rfl, _, 6, 256, rfl, by decide, by decide, by decide, fun b b0 b1 => ⟨size 1 (by decide), fun Ha ta sa ha => ⟨size 3 (by decide), fun Hb tb sb hb => ⟨_, rfl, _, rfl, p1, _, rfl, DPut.k (k := kT t) (sb _ _ (sa _ _ (s5 _ _ hk))) lkv, ?_⟩⟩⟩⟩
          have sab := s5.trans (sa.trans sb)
          have wr : Wr Hb p1 := Wr.dK (sab _ _ hk)
          have eok : EntOk (.file t [b]) := ⟨pok, fun x hx => by rw [List.mem_singleton.mp hx]; exact ⟨b0, b1⟩, by simp⟩
          exact ⟨putE es (.file t [b]), _, _, _, _, _, _, rfl, keep_new (sm.trans sab) n1, upd_same, onE_put (e := .file t [b]) (onE_over wr sme (onE_keep sab on)) (dpOver wr (dEnt_ok eok.small).1 (dEnt_file (b := [b]) hb (keepT sb ha))), wb.put eok pup pno plow, Nat.le_trans putE_few (by omega)⟩
        · refine ⟨size 1 (by decide), fun p6 n6 => ⟨size 6 (by decide), fun p7 n7 => ⟨_, rfl, _, 6, 6, rfl, by decide, by decide, by decide, fun d4 g0 g1 => ?_⟩⟩⟩
          obtain ⟨m, am, lm⟩ := six_ups g0 g1
          refine ⟨p7, _, _, _, rfl, rfl, SqL.of upd_same, am, p6, _, _, rfl, rfl, grow n7 _ _ upd_same, by omega, by omega, ?_, fun p8 n8 => ?_⟩
          · refine size _ ?_
            simp only [List.length_cons, List.length_nil]
            omega
          rw [show (List.replicate ((m : Int) : Int).toNat [V.str (Str.ofString "..")]).flatten = (List.replicate m dots).map T by rw [Int.toNat_natCast, List.map_replicate, t_dots]; exact List.flatten_replicate_singleton]
          have s58 : Same H5 (upd _ p8 (.lst ((List.replicate m dots).map T))) := (grow n6).trans ((grow n7).trans (grow n8))
          have h88 : (upd (upd (upd H5 p6 (.lst [V.str (Str.ofString "..")])) p7 (.lst [V.int 0, .int 0, .int 1, .int 1, .int 2, .int 3])) p8 (.lst ((List.replicate m dots).map T))) p8 = some (.lst ((List.replicate m dots).map T)) := upd_same
          have n8' : H5 p8 = none := ((grow n6).trans (grow n7)).free n8
          generalize upd (upd (upd H5 p6 (.lst [V.str (Str.ofString "..")])) p7 (.lst [V.int 0, .int 0, .int 1, .int 1, .int 2, .int 3])) p8 (.lst ((List.replicate m dots).map T)) = H8 at s58 h88
          refine ⟨_, rfl, _, 36, rfl, rfl, ⟨by decide, by decide⟩, ?_⟩
          refine ⟨_, rfl, _, 1, 4, rfl, by decide, by decide, by decide, fun d5 i0 i1 => ⟨_, rfl, by omega, by omega, for_range (lo := 0) (fun k σ H' => ∃ (ws : List (List Nat)) (c2 : Int) (y6 : Option V), σ = [some (.ref a), some (.ref p1), some (T t), some (.int c2), some (T fo), some (.ref p8), y6] ∧ Same H5 H' ∧ H' p8 = some (.lst (ws.map T)) ∧ ws.length ≤ 3 + k ∧ ∀ p ∈ ws, p = dots ∨ partOk p)
            ⟨List.replicate m dots, _, _, rfl, s58, h88, by rw [List.length_replicate]; omega, fun p hp => .inl (List.eq_of_mem_replicate hp)⟩ (fun k σ H' hk2 p => ?_) (fun σ H9 p => ?_)⟩⟩
          · obtain ⟨ws, c2, y6, rfl, smw, hw, lw, gw⟩ := p
            refine ⟨_, rfl, .inl ⟨rfl, _, SqL.of hw⟩, size 8 (by decide), fun p9 n9 => ⟨_, rfl, _, 4, 8, rfl, by decide, by decide, by decide, fun d6 j0 j1 => ?_⟩⟩
            obtain ⟨pt, apt, gpt⟩ := eight_ways j0 j1
            have s9 := grow (o := .lst [V.str "l", .str "a", .str "m", .str "b", .str "n", .str "..", .str "c", .str "z"]) n9
            refine ⟨p9, _, _, _, rfl, rfl, SqL.of upd_same, apt, p8, _, _, rfl, rfl, s9 _ _ hw, by rw [List.length_map, sizeLine_eq]; omega, ?_⟩
            refine ⟨_, rfl, _, 8, rfl, rfl, ⟨by decide, by decide⟩, ws ++ [pt], _, _, rfl, keep_lst (smw.trans s9) n8', ?_, ?_, ?_⟩
            · rw [upd_same, List.map_append]; rfl
            · rw [List.length_append]; simp only [List.length_cons, List.length_nil]; omega
            · intro p hp
              rcases List.mem_append.mp hp with hp | hp
              · exact gw p hp
              · rw [List.mem_singleton.mp hp]; exact gpt
          · obtain ⟨ws, c2, y6, rfl, smw, hw, lw, gw⟩ := p
            have s4w : Same H4 H9 := s5.trans smw
            have hk9 := s4w _ _ hk
            have on9 := onE_keep s4w on
            refine ⟨_, rfl, ⟨_, rfl⟩, ?_⟩
            refine te_by (fun v H' => ∃ pl vs, v = V.ref pl ∧ Same H9 H' ∧ H' pl = some (.lst (vs.map T)) ∧ vs ≠ [] ∧ vs.length ≤ 8 ∧ ∀ p ∈ vs, p = dots ∨ partOk p) (fun v H' hv => ?_) (fun go => ?_)
            · obtain ⟨pl, vs, rfl, sl, hl, nv, lv, gv⟩ := hv
              have szs := sum_sizes (m := 12) vs (way_sizes gv)
              refine ⟨Str.ofString "/", pl, vs.map mkS, rfl, rfl, .inl (by rw [mapT]; exact SqL.of hl), by rw [l1, List.length_map]; omega, ?_⟩
              rw [s_slash, join_mkS]
              refine ⟨size 3 (by decide), fun Hb tb sb hb => ⟨_, rfl, _, rfl, p1, _, rfl, DPut.k (k := kT t) (sb _ _ (sl _ _ hk9)) lkv, ?_⟩⟩
              have sab := sl.trans sb
              have wr : Wr Hb p1 := Wr.dK (sab _ _ hk9)
              have eok : EntOk (.link t (joinC 47 vs)) := ⟨pok, way_goal nv lv gv⟩
              exact ⟨putE es (.link t (joinC 47 vs)), _, _, _, _, _, _, rfl, keep_new (sm.trans (s4w.trans sab)) n1, upd_same, onE_put (e := .link t (joinC 47 vs)) (onE_over wr sme (onE_keep sab on9)) (dpOver wr rfl (dEnt_link hb)), wb.put eok pup pno plow, Nat.le_trans putE_few (by omega)⟩
            · refine ⟨_, rfl, _, .inl ⟨_, SqL.of hw, rfl⟩, ?_⟩
              cases ws with
              | nil =>
                refine iteF ⟨size 1 (by decide), fun p9 n9 => go _ _ ⟨p9, [[108]], rfl, grow n9, ?_, by simp, by simp, fun p hp => ?_⟩⟩
                · rw [upd_same, show Str.ofString "l" = mkS [108] by decide +kernel]
                  rfl
                · rw [List.mem_singleton.mp hp]
                  exact .inr (by decide)
              | cons x r => exact iteT (go _ _ ⟨p8, x :: r, rfl, Same.refl _, hw, by simp, by omega, gw⟩)
      · obtain ⟨es, kvs, y2, y3, y4, y5, y6, rfl, sm, hk, on, wb, le⟩ := p
        rw [List.length_map] at le
        have st := wb.stock
        refine ⟨_, rfl, p1, kvs, es.map (fun e => mkS e.path), rfl, .inl hk, onE_keys on, by rw [List.length_map]; omega, fun ys p8 pm so n8 => ⟨p8, rfl, ⟨_, SqL.of upd_same⟩, fun D nD => ?_⟩⟩
        obtain ⟨zs, rfl⟩ : ∃ zs : List (List Nat), ys = zs.map mkS := ⟨ys.map TL.tl, by rw [List.map_map]; exact (List.map_id'' (fun x => mkS_tl x) ys).symm⟩
        have pm2 : zs.Perm (es.map Ent.path) := by
          have := pm.map TL.tl
          rw [List.map_map, List.map_map] at this
          have e1 : zs.map (TL.tl ∘ mkS) = zs := List.map_id'' (fun x => rfl) zs
          rw [e1] at this
          exact this
        have lz : zs.length = es.length := by rw [pm2.length_eq, List.length_map]
        refine lcG_list (xs := (zs.map mkS).map V.str) (keep := fun _ => true) (G := fun x y H => ∃ e ∈ es, x = T e.path ∧ Dp K H y (dEnt e)) nD (SqL.of upd_same) (by rw [List.length_map, List.length_map, sizeLine_eq]; omega) (fun _ => rfl) (fun x y H H' s h => ?_) (fun x y H us vs hD h => ?_) (fun k x H2 R hx2 s2 r => r _ (Same.refl _)) (fun k x H2 R hx2 _ s2 r => ?_) (fun ws H9 al s9 h9 => ?_)
        · obtain ⟨e, he, hx, hd⟩ := h
          exact ⟨e, he, hx, dpKeep s hd⟩
        · obtain ⟨e, he, hx, hd⟩ := h
          exact ⟨e, he, hx, dpOver (.lst hD) (dEnt_ok (st.small e he)).1 hd⟩
        · rw [mapT] at hx2
          obtain ⟨t, ht, ex⟩ := List.mem_map.mp (List.mem_of_getElem? hx2)
          subst ex
          obtain ⟨e, he, pe⟩ := List.mem_map.mp (pm2.mem_iff.mp ht)
          subst pe
          have sk : Same H4 H2 := (grow n8).trans s2
          have ae := atE_of st.nod he
          rcases onE_get e.path on with ⟨a1, _⟩ | ⟨e', v, a1, v1, d1⟩
          · rw [ae] at a1; cases a1
          · rw [ae] at a1
            cases a1
            exact ⟨_, rfl, _, rfl, p1, v, rfl, .inl ⟨kvs, kT e.path, .inl (sk _ _ hk), rfl, v1.symm⟩, r _ _ (Same.refl _) ⟨e, he, rfl, dpKeep sk d1⟩⟩
        · rw [List.filter_eq_self.mpr fun _ _ => rfl] at al
          obtain ⟨fs, ef, sub, da⟩ := choose_ents al
          rw [mapT] at ef
          have ef2 : fs.map Ent.path = zs := by
            have : zs.map T = (fs.map Ent.path).map T := by rw [ef, List.map_map]; rfl
            exact (List.map_inj_right fun a b h => T_inj h).mp this.symm
          have tk := st.tree pm2 so ef2 sub (by omega)
          have lf : fs.length = es.length := by rw [← lz, ← ef2, List.length_map]
          exact ⟨D, _, rfl, SqL.of h9, fun Ha ta sa ha => q _ _ fs (sm.trans ((grow n8).trans (s9.trans sa))) tk (by omega) (fun e he => wb.up e (sub e he)) (fun e he => wb.low e (sub e he)) (.tup ha (dpKeepAll sa da))⟩

/-! ### the way over links, by hand -/
def spLandH (K : PySem.W.Frag) : Sp := fun vs H Q _ => ∃ (v : V) (es : List Ent) (t : List Nat), vs = [v, T t] ∧ Dp K H v (dTree es) ∧ TreeOk es ∧ PathT t ∧ ∀ H', Same H H' → Q (landV (landF es t)) H'
theorem ok_landing {f : Addr} {fd : FuncData} (Ev : Env K mg) (F : Fun K "_law_landing" "_law_landing" sLawLanding f fd) : FnOk P w K mg base CX0 1 f fd ["_law_tree", "_law_way"] (spLandH K) := by
  refine F.ok scLawLanding (fun vs H Q E h => ?_) (fun cdv A outer s H vs Q E hr h => ?_)
  · obtain ⟨v, es, t, rfl, _⟩ := h; rfl
  · obtain ⟨v, es, t, rfl, hv, tk, pt, q⟩ := h
    refine ⟨_, (pss_cons (ps_set (i := 2) scLawLanding.nd rfl (.inl rfl) pe_str)
      (pss_cons (ps_set (i := 3) scLawLanding.nd rfl (.inl rfl) (pe_split (pv 1) pe_str))
      (pss_cons (ps_set (i := 4) scLawLanding.nd rfl (.inl rfl) pe_int)
      (pss_cons (ps_while PassesOwn.never (pt_truth (pv 3) (by intro _; rfl))
        (pss_cons (ps_set (i := 5) scLawLanding.nd rfl (.inl rfl) (pe_bm PySem.F.plainAttrs_list PySem.F.slot_list_pop PySem.F.type_list_pop mt_popAt (pv 3) (pa_cons pe_int pa_nil)))
        (pss_cons (ps_if (pt_cmpR op_eq (pv 5) pe_str (nomark _))
          (pss_cons (ps_if (pt_cmpR op_eq (pv 2) pe_str (nomark _))
            (pss_one (ps_ret pe_str))
            pss_nil)
          (pss_cons (ps_set (i := 2) scLawLanding.nd rfl (.inl rfl) (pe_join pe_str (pe_slice sl_list (pe_split (pv 2) pe_str) po_none (po_some (pe_un un_neg pe_int)))))
          (pss_one (ps_continue))))
          pss_nil)
        (pss_cons (ps_set (i := 6) scLawLanding.nd rfl (.inr rfl) (pv 5))
        (pss_cons (ps_if (pt_cmpR op_ne (pv 2) pe_str (nomark _))
          (pss_one (ps_set (i := 6) scLawLanding.nd rfl (.inr rfl) (pe_op op_add_str (pe_op op_add_str (pv 2) pe_str) (pv 5))))
          pss_nil)
        (pss_cons (ps_setLc (i := 7) (own := [("_law_entry", 8)]) (g := gName 8) (by rfl) scLawLanding.nd rfl rfl (sw_true rfl rfl rfl (by decide +kernel)) (pi_tup (pv 0)) (blkOk_by (own := [("_law_entry", 8)]) (N := nLawLanding) (sc := defScope sLawLanding) (by decide +kernel)) (fun _ _ _ _ _ => (pg_name (i := 8) scLawLanding.nd rfl (.inl rfl))) (fun _ _ _ _ _ => pts_one (pt_cmpR op_eq (pe_ix (ix_tupq (K := K) rfl) (pv 8) pe_int (fun _ _ => rfl)) (pv 6) (nomark _))) (fun _ _ _ _ _ => (pv 8)))
        (pss_cons (ps_if (pt_not (pt_truth (pv 7) (by intro _; rfl)))
          (pss_one (ps_ret pe_str))
          pss_nil)
        (pss_one (ps_if (pt_cmpR op_eq (pe_ix ix_tup (pe_ix ix_list (pv 7) pe_int (fun _ _ => rfl)) pe_int (fun _ _ => rfl)) pe_str (nomark _))
          (pss_cons (ps_set (i := 4) scLawLanding.nd rfl (.inl rfl) (pe_op op_add (pv 4) pe_int))
          (pss_cons (ps_if (pt_cmpR op_eq (pv 4) pe_int (nomark _))
            (pss_one (ps_ret pe_str))
            pss_nil)
          (pss_one (ps_set (i := 3) scLawLanding.nd rfl (.inl rfl) (pe_op op_cat (pe_split (pe_ix ix_tup (pe_ix ix_list (pv 7) pe_int (fun _ _ => rfl)) pe_int (fun _ _ => rfl)) pe_str) (pv 3))))))
          (pss_one (ps_if (PW.pt (pw_and (pt_cmpR op_eq (pe_ix ix_tup (pe_ix ix_list (pv 7) pe_int (fun _ _ => rfl)) pe_int (fun _ _ => rfl)) pe_str (nomark _)) (pw_and1 (pt_truth (pv 3) (by intro _; rfl)))))
            (pss_one (ps_ret pe_str))
            (pss_one (ps_set (i := 2) scLawLanding.nd rfl (.inl rfl) (pv 6))))))))))))))
      (pss_one (ps_ret (pv 2))))))), ?_⟩
    have l1 : (Str.ofString "/").length = 1 := by decide +kernel
    have tl := pt.len
    have l8 := pt.2.1
    have size : ∀ n : Nat, n ≤ 10000 → n ≤ sizeLine := fun n h => by rw [sizeLine_eq]; omega
    have nd : Nod es := tk.nod
    obtain ⟨tv, xs, rfl, hx, al⟩ := dpTree hv
    have lx : es.length = xs.length := al.length.symm
    have lx100 : xs.length ≤ 100 := by have := tk.few; omega
    refine ⟨_, rfl, ⟨_, rfl⟩, mkS t, Str.ofString "/", rfl, rfl, (by decide +kernel), size _ (by rw [len_mkS]; omega), fun pp npp => ?_⟩
    rw [s_slash, split_mkS 47 (by decide) t, mapT]
    refine ⟨fun m σ H' => ∃ (h r : List (List Nat)) (l : Nat) (pq : Addr) (y5 y6 y7 : Option V), σ = [some (.ref tv), some (T t), some (T (pathOf h)), some (.ref pq), some (.int (l : Int)), y5, y6, y7, none] ∧ m = (20 - l) * 1000 + r.length ∧ Same H H' ∧ H pq = none ∧ H' pq = some (.lst (r.map T)) ∧ landW es l h r = landF es t ∧ (∀ p ∈ h, partOk p) ∧ Way r ∧ l ≤ 20 ∧ h.length + r.length ≤ 8 + 8 * l,
      ⟨_, [], splitC 47 t, 0, pp, none, none, none, ?_, rfl, grow npp, npp, upd_same, rfl, (fun p hp => by cases hp), fun p hp => .inr (pt.2.2 p hp), by decide, by rw [List.length_nil]; omega⟩, fun m σ H1 hW => ?_⟩
    · show [_, _, some (V.str (Str.ofString "")), _, _, _, _, _, _] = _
      rw [t_none]
      rfl
    obtain ⟨h, r, l, pq, y5, y6, y7, rfl, rfl, sm, npq, hpq, eq, hh, wr, ll, lhr⟩ := hW
    have q' : ∀ H', Same H H' → Q (landV (landW es l h r)) H' := fun H' e => by rw [eq]; exact q H' e
    refine ⟨_, rfl, _, .inl ⟨_, SqL.of hpq, rfl⟩, ?_⟩
    have plh : (pathOf h).length ≤ 3000 := by
      have := joinC_len 47 h 12 fun p hp => (hh p hp).2.1
      unfold pathOf
      omega
    cases r with
    | nil =>
      refine iteF ⟨_, rfl, ?_⟩
      have := q' H1 sm
      rw [landW_nil] at this
      exact this
    | cons p r =>
      rw [List.length_cons] at lhr
      refine iteT ⟨_, fun σ' H'' h => h, ?_⟩
      refine ⟨_, rfl, .inl ⟨rfl, _, SqL.of hpq⟩, pq, _, 0, 0, T p, rfl, rfl, hpq, by decide, by decide, by simp [seqIndex?], rfl, ?_⟩
      rw [show ((p :: r).map T).eraseIdx 0 = r.map T from rfl]
      have hp2 : (upd H1 pq (.lst (r.map T))) pq = some (.lst (r.map T)) := upd_same
      have sm2 : Same H (upd H1 pq (.lst (r.map T))) := keep_new sm npq
      have hx2 : SqT K (upd H1 pq (.lst (r.map T))) tv xs := overT (.lst hpq) (keepT sm hx)
      have al2 : Al2 (fun e x => Dp K (upd H1 pq (.lst (r.map T))) x (dEnt e)) es xs := al2_small al fun e x he d => dpOver (.lst hpq) (dEnt_ok ((tk.ok e he).small)).1 (dpKeep sm d)
      generalize upd H1 pq (.lst (r.map T)) = H2 at hp2 sm2 hx2 al2
      have wr2 : Way r := fun x hx => wr x (List.mem_cons_of_mem _ hx)
      refine ⟨_, rfl, rfl, _, rfl, ite2 (fun z => ?_) (fun z => ?_)⟩
      · have ep : p = dots := T_inj ((of_decide_eq_true z).trans t_dots)
        subst ep
        rw [landW_dots] at q' eq
        refine ⟨_, rfl, rfl, _, rfl, ite2 (fun y => ?_) (fun y => ?_)⟩
        · have eh : h = [] := (fold_ne hh).mp (T_inj ((of_decide_eq_true y).trans t_none))
          rw [if_pos eh] at q'
          exact q' H2 sm2
        · have nh : h ≠ [] := fun k => y (decide_eq_true (by rw [k]; exact t_none.symm))
          rw [if_neg nh] at eq
          refine ⟨⟨_, rfl⟩, _, rfl, ⟨_, rfl⟩, mkS (pathOf h), Str.ofString "/", rfl, rfl, (by decide +kernel), size _ (by rw [len_mkS]; omega), fun p2 n2 => ?_⟩
          rw [s_slash, split_mkS 47 (by decide) (pathOf h), mapT, split_parts nh hh]
          refine ⟨1, rfl, _, rfl, p2, _, rfl, SqL.of upd_same, fun p3 n3 => ?_⟩
          rw [cutV_last, ← List.map_dropLast]
          have lh := List.length_pos_iff.mpr nh
          have hd : ∀ p ∈ h.dropLast, partOk p := fun p hp => hh p ((List.dropLast_sublist _).mem hp)
          have szs := sum_sizes (m := 12) h.dropLast fun p hp => (hd p hp).2.1
          have ld := List.length_dropLast (xs := h)
          refine ⟨mkS [47], p3, h.dropLast.map mkS, rfl, rfl, .inl (by rw [mapT]; exact SqL.of upd_same), by rw [len_mkS, List.length_map]; simp only [List.length_cons, List.length_nil]; omega, ?_⟩
          rw [join_mkS]
          have s23 : Same H2 _ := (grow (o := .lst (h.map T)) n2).trans (grow (o := .lst (h.dropLast.map T)) n3)
          exact ⟨(20 - l) * 1000 + r.length, by rw [List.length_cons]; omega, h.dropLast, r, l, pq, _, _, _, rfl, rfl, sm2.trans s23, npq, s23 _ _ hp2, eq, hd, wr2, ll, by omega⟩
      · have np : p ≠ dots := fun k => z (decide_eq_true (by rw [k]; exact t_dots.symm))
        have pok : partOk p := by
          rcases wr p (by simp) with k | k
          · exact absurd k np
          · exact k
        have lp12 := pok.2.1
        refine ⟨_, rfl, ?_⟩
        dsimp only [gName]
        refine seq_by (t := tIfS _ _ _) (fun σ H' => σ = [some (.ref tv), some (T t), some (T (pathOf h)), some (.ref pq), some (.int (l : Int)), some (T p), some (T (pathOf (h ++ [p]))), y7, none] ∧ H' = H2) (fun σ H' pp => ?_) (fun go => ?_)
        · obtain ⟨rfl, rfl⟩ := pp
          refine ⟨_, rfl, tv, rfl, ⟨_, hx2⟩, fun D nD => ?_⟩
          refine lcE_tup (es := es) (xs := xs) (keep := fun e => decide (e.path = pathOf (h ++ [p]))) (G := fun e y H => Dp K H y (dEnt e)) lx nD hx2 (size _ (by omega)) (fun _ => rfl) (fun e y H H' s d => dpKeep s d) (fun e y H ys zs he hD d => dpOver (.lst hD) (dEnt_ok ((tk.ok e he).small)).1 d) (fun i e x H3 R he hx3 s3 r3 => ?_) (fun i e x H3 R he hx3 _ s3 r3 => ⟨_, rfl, r3 _ _ (Same.refl _) (dpKeep s3 (al2.at he hx3))⟩) (fun ys H3 alf s3 h3 => ?_)
          · obtain ⟨u, us, rfl, hu, u0, u1⟩ := dpWord (dpKeep s3 (al2.at he hx3))
            have r' := r3 H3 (Same.refl _)
            rw [← dec_T] at r'
            exact ⟨_, rfl, u, us, 1, _, rfl, rfl, hu, at_ofA (j := 1) rfl u1, _, rfl, rfl, _, rfl, r'⟩
          · rw [filter_at nd] at alf
            have sm3 := sm2.trans s3
            have hp3 := s3 _ _ hp2
            refine ⟨_, rfl, _, .inl ⟨_, SqL.of h3, rfl⟩, ?_⟩
            cases ae : atE es (pathOf (h ++ [p])) with
            | none =>
              rw [ae] at alf
              cases alf
              refine iteT ?_
              rw [landW_none np ae] at q'
              exact q' H3 sm3
            | some e =>
              rw [ae] at alf
              obtain ⟨y, rfl, dy⟩ : ∃ y, ys = [y] ∧ Dp K H3 y (dEnt e) := by
                cases alf with
                | cons d ds => cases ds; exact ⟨_, rfl, d⟩
              refine iteF ?_
              obtain ⟨u, us, rfl, hu, u0, u1, u2⟩ := dpWord3 dy
              refine ⟨_, rfl, D, _, 0, _, rfl, rfl, SqL.of h3, at_ofA (j := 0) rfl rfl, u, us, 0, _, rfl, rfl, hu, at_ofA (j := 0) rfl u0, (by cases e <;> rfl), _, rfl, ?_⟩
              cases e with
              | link lt g =>
                rw [landW_link np ae] at q' eq
                have us2 : us[2]? = some (T g) := u2 _ _ rfl
                have gt : GoalT g := (tk.ok _ (atE_mem ae).1).2
                have lg : g.length ≤ 200 := gt.len
                refine iteW (word_is rfl) ?_
                refine ⟨_, rfl, _, _, rfl, rfl, ?_⟩
                refine ⟨_, rfl, rfl, _, rfl, ite2 (fun y => ?_) (fun y => ?_)⟩
                · have : (l : Int) + 1 = 21 := V.int.inj (of_decide_eq_true y)
                  rw [if_pos (by omega)] at q'
                  exact q' H3 sm3
                · have : ¬ (l : Int) + 1 = 21 := fun k => y (decide_eq_true (congrArg V.int k))
                  have nl : ¬ 20 ≤ l := by omega
                  rw [if_neg nl] at eq
                  refine ⟨_, rfl, D, _, 0, _, rfl, rfl, SqL.of h3, at_ofA (j := 0) rfl rfl, u, us, 2, _, rfl, rfl, hu, at_ofA (j := 2) rfl us2, ⟨_, rfl⟩, mkS g, mkS [47], rfl, rfl, (by decide +kernel), size _ (by rw [len_mkS]; omega), fun p4 n4 => ?_⟩
                  rw [split_mkS 47 (by decide) g, mapT]
                  have lsg := gt.1
                  refine ⟨_, rfl, p4, pq, _, _, rfl, rfl, upd_same, grow n4 _ _ hp3, size _ (by rw [List.length_map, List.length_map]; omega), fun p5 n5 => ?_⟩
                  rw [← List.map_append]
                  have s45 : Same H3 _ := (grow (o := .lst ((splitC 47 g).map T)) n4).trans (grow (o := .lst ((splitC 47 g ++ r).map T)) n5)
                  refine ⟨(20 - (l + 1)) * 1000 + (splitC 47 g ++ r).length, ?_, h, splitC 47 g ++ r, l + 1, p5, _, _, _, rfl, rfl, sm3.trans s45, (sm3.trans (grow n4)).free n5, upd_same, eq, hh, fun x hx => ?_, by omega, ?_⟩
                  · rw [List.length_append, List.length_cons]
                    omega
                  · rcases List.mem_append.mp hx with hx | hx
                    · exact gt.2 x hx
                    · exact wr2 x hx
                  · rw [List.length_append]
                    omega
              | folder ft =>
                rw [landW_folder np ae] at eq
                refine iteNW (word_isnt (by decide +kernel)) ?_
                refine ⟨_, rfl, D, _, 0, _, rfl, rfl, SqL.of h3, at_ofA (j := 0) rfl rfl, u, us, 0, _, rfl, rfl, hu, at_ofA (j := 0) rfl u0, rfl, _, rfl, iteNW (word_isnt (by decide +kernel)) (iteF ?_)⟩
                refine ⟨_, rfl, (20 - l) * 1000 + r.length, by rw [List.length_cons]; omega, h ++ [p], r, l, pq, _, _, _, rfl, rfl, sm3, npq, hp3, eq, fun x hx => ?_, wr2, ll, by rw [List.length_append]; simp only [List.length_cons, List.length_nil]; omega⟩
                rcases List.mem_append.mp hx with hx | hx
                · exact hh x hx
                · rw [List.mem_singleton.mp hx]; exact pok
              | file ft b =>
                rw [landW_file np ae] at q' eq
                refine iteNW (word_isnt (by decide +kernel)) ?_
                refine ⟨_, rfl, D, _, 0, _, rfl, rfl, SqL.of h3, at_ofA (j := 0) rfl rfl, u, us, 0, _, rfl, rfl, hu, at_ofA (j := 0) rfl u0, rfl, _, rfl, iteW (word_is rfl) ?_⟩
                refine ⟨_, rfl, _, .inl ⟨_, SqL.of hp3, rfl⟩, ?_⟩
                cases r with
                | nil =>
                  rw [if_neg (fun k => k rfl)] at eq
                  refine iteF ⟨_, rfl, (20 - l) * 1000 + 0, by simp, h ++ [p], [], l, pq, _, _, _, rfl, rfl, sm3, npq, hp3, by rw [landW_nil]; exact eq, fun x hx => ?_, wr2, ll, by rw [List.length_append]; simp only [List.length_cons, List.length_nil] at lhr ⊢; omega⟩
                  rcases List.mem_append.mp hx with hx | hx
                  · exact hh x hx
                  · rw [List.mem_singleton.mp hx]; exact pok
                | cons x2 r2 =>
                  refine iteT ?_
                  rw [if_pos (by simp)] at q'
                  exact q' H3 sm3
        · refine ⟨_, rfl, rfl, _, rfl, ite2 (fun y => ?_) (fun y => ?_)⟩
          · have nh : h ≠ [] := fun k => by
              have e1 : T (pathOf h) = V.str (Str.ofString "") := by rw [k]; exact t_none.symm
              rw [e1, decide_eq_true rfl] at y
              cases y
            have ew : mkS (pathOf h) ++ mkS [47] ++ mkS p = mkS (pathOf (h ++ [p])) := by rw [mkS_app, mkS_app, pathOf_snoc nh]
            refine ⟨_, rfl, mkS (pathOf h), mkS [47], rfl, rfl, size _ (by rw [len_mkS, len_mkS]; simp only [List.length_cons, List.length_nil]; omega), _, rfl, mkS (pathOf h) ++ mkS [47], mkS p, rfl, rfl, size _ (by rw [mkS_app, len_mkS, len_mkS, List.length_append]; simp only [List.length_cons, List.length_nil]; omega), go _ _ ⟨?_, rfl⟩⟩
            rw [ew]
            rfl
          · have eh : h = [] := (fold_ne hh).mp (by
              cases k : decide (T (pathOf h) = V.str (Str.ofString "")) with
              | true => exact T_inj ((of_decide_eq_true k).trans t_none)
              | false => rw [k] at y; exact absurd rfl y)
            subst eh
            exact go _ _ ⟨rfl, rfl⟩

/-! ### the program's landing -/
def spParts (K : PySem.W.Frag) : Sp := fun vs H Q _ => ∃ t : List Nat, vs = [T t] ∧ t ≠ [] ∧ t.length ≤ 1000 ∧ ∀ p, H p = none → Q (.ref p) (upd H p (.lst ((splitC 47 t).map T)))
theorem ok_parts {f : Addr} {fd : FuncData} (Ev : Env K mg) (F : Fun K "parts_of" "parts_of" sPartsOf f fd) : FnOk P w K mg base CX0 1 f fd ["path"] (spParts K) := by
  refine F.ok scPartsOf (fun vs H Q E h => ?_) (fun cdv A outer s H vs Q E hr h => ?_)
  · obtain ⟨t, rfl, _⟩ := h; rfl
  · obtain ⟨t, rfl, nt, lt, q⟩ := h
    refine ⟨_, (pss_cons (ps_if (pt_cmpR op_eq (pv 0) pe_str (nomark _))
        (pss_one (ps_ret (pe_lst pa_nil)))
        pss_nil)
      (pss_one (ps_ret (pe_split (pv 0) pe_str)))), ?_⟩
    refine ⟨_, rfl, rfl, _, rfl, ite2 (fun z => ?_) (fun z => ?_)⟩
    · exact absurd (T_inj ((of_decide_eq_true z).trans t_none)) nt
    · refine ⟨_, rfl, ⟨_, rfl⟩, mkS t, Str.ofString "/", rfl, rfl, (by decide +kernel), (by rw [len_mkS, sizeLine_eq]; omega), fun p np => ?_⟩
      rw [s_slash, split_mkS 47 (by decide) t, mapT]
      exact q p np
def spBy (K : PySem.W.Frag) : Sp := fun vs H Q _ => ∃ (v : V) (es : List Ent), vs = [v] ∧ Dp K H v (dTree es) ∧ Nod es ∧ SmallE es ∧ es.length ≤ 1000 ∧ ∀ H' D kvs, Same H H' → H D = none → H' D = some (.dK kvs) → OnE K H' es kvs → Q (.ref D) H'
theorem ok_by {f : Addr} {fd : FuncData} (Ev : Env K mg) (F : Fun K "by_path" "by_path" sByPath f fd) : FnOk P w K mg base CX0 1 f fd ["tree"] (spBy K) := by
  refine F.ok scByPath (fun vs H Q E h => ?_) (fun cdv A outer s H vs Q E hr h => ?_)
  · obtain ⟨v, es, rfl, _⟩ := h; rfl
  · obtain ⟨v, es, rfl, hv, nd, sml, few, q⟩ := h
    refine ⟨_, (pss_one (ps_ret (pe_dc (own := [("entry", 1)]) (g := gName 1) (tt := tYes) (by rfl) scByPath.nd (pi_tup (pv 0)) (blkOk_by (own := [("entry", 1)]) (N := nByPath) (sc := defScope sByPath) (by decide +kernel)) (fun _ _ _ _ _ => (pg_name (i := 1) scByPath.nd rfl (.inl rfl))) (fun _ _ _ _ _ => pts_nil) (fun _ _ _ _ _ => (pe_ix (ix_tupq (K := K) rfl) (pv 1) pe_int (fun _ _ => rfl))) (fun _ _ _ _ _ => (pv 1))))), ?_⟩
    obtain ⟨tv, xs, rfl, hx, al⟩ := dpTree hv
    have lx : xs.length = es.length := al.length
    refine ⟨_, rfl, tv, rfl, ⟨_, hx⟩, fun D nD => ?_⟩
    refine dc_tup (xs := xs) (fun i H' => Same H H' ∧ ∃ kvs, H' D = some (.dK kvs) ∧ OnE K H' (es.take i) kvs) ⟨grow nD, [], upd_same, .nil⟩ (fun i H' _ p => keepT p.1 hx) (fun i x H' hxi p => ?_) (fun H' p => ?_)
    · obtain ⟨sm, kvs, hD, on⟩ := p
      have li : i < es.length := by
        have := (List.getElem?_eq_some_iff.mp hxi).1
        omega
      have gi : es[i]? = some es[i] := List.getElem?_eq_getElem li
      obtain ⟨e, ee⟩ : ∃ e, e = es[i] := ⟨_, rfl⟩
      rw [← ee] at gi
      have me : e ∈ es := List.mem_of_getElem? gi
      have dx := dpKeep sm (al.at gi hxi)
      obtain ⟨u, us, rfl, hu, u0, u1⟩ := dpWord dx
      refine ⟨rfl, ?_⟩
      unfold tYes
      dsimp only
      rw [if_pos rfl]
      refine ⟨_, rfl, u, us, 1, _, rfl, rfl, hu, at_ofA (j := 1) rfl u1, _, rfl, kvs, kT e.path, rfl, hD, ?_, keep_new sm nD, _, upd_same, ?_⟩
      · rw [on.length, List.length_take, sizeLine_eq]
        omega
      · have wD : Wr H' D := .dK hD
        have sT : SmallE (es.take i) := fun x hx => sml x (List.mem_of_mem_take hx)
        have r := onE_put (e := e) (v := .ref u) (onE_over (o := .dK (putK kvs (kT e.path) (.ref u))) wD sT on) (dpOver wD (dEnt_ok (sml e me)).1 dx)
        have nw : putE (es.take i) e = es.take (i + 1) := by
          rw [putE_new, List.take_add_one, gi]
          · rfl
          · intro x hx k
            have h2 := nd
            rw [Nod, ← List.take_append_drop (i + 1) es, List.take_add_one, gi, List.map_append, List.map_append, List.nodup_append] at h2
            have h3 := h2.1
            rw [List.nodup_append] at h3
            exact h3.2.2 x.path (List.mem_map.mpr ⟨x, hx, rfl⟩) e.path (by simp) k
        rw [nw] at r
        exact r
    · obtain ⟨sm, kvs, hD, on⟩ := p
      rw [lx, List.take_length] at on
      exact q _ _ _ sm nD hD on
def spUpF (K : PySem.W.Frag) (cL : Addr) : Sp := fun vs H Q E => ∃ (p : Addr) (h : List (List Nat)), vs = [.ref p] ∧ SqL K H p (h.map T) ∧ (h = [] → E (.ref cL) none H) ∧ (h ≠ [] → ∀ q, H q = none → Q (.ref q) (upd H q (.lst (h.dropLast.map T))))
theorem ok_upF {f : Addr} {fd : FuncData} (Ev : Env K mg) (Ex : Excs K mg e_LeadsOut e_NoEntry e_NotFolder e_TooFar) (F : Fun K "folder_above" "folder_above" sFolderAbove f fd) : FnOk P w K mg base (L2.CX P w) 1 f fd ["parts"] (spUpF K e_LeadsOut) := by
  refine F.okX scFolderAbove (fun vs H Q E h => ?_) (fun cdv A outer s H vs Q E hr h => ?_)
  · obtain ⟨p, h, rfl, _⟩ := h; rfl
  · obtain ⟨p, h, rfl, hp, he, hq⟩ := h
    refine ⟨_, (pss_cons (ps_if (pt_not (pt_truth (pv 0) (by intro _; rfl)))
        (pss_one (ps_raiseC (W := fun cls d _ H => E cls d H) rfl (takes_of rfl rfl rfl rfl) Ex.LeadsOut))
        pss_nil)
      (pss_one (ps_ret (pe_slice sl_list (pv 0) po_none (po_some (pe_un un_neg pe_int)))))), ?_⟩
    refine ⟨_, rfl, _, .inl ⟨_, hp, rfl⟩, ?_⟩
    cases h with
    | nil => exact iteT (he rfl)
    | cons x r =>
      refine iteF ⟨_, rfl, 1, rfl, _, rfl, p, _, rfl, hp, fun q nq => ?_⟩
      rw [cutV_last, ← List.map_dropLast]
      exact hq (by simp) q nq
def spAt (K : PySem.W.Frag) (cN : Addr) : Sp := fun vs H Q E => ∃ (D p : Addr) (kvs : List (Key × V)) (es : List Ent) (h : List (List Nat)), vs = [.ref D, .ref p] ∧ H D = some (.dK kvs) ∧ OnE K H es kvs ∧ SqL K H p (h.map T) ∧ h.length ≤ 1000 ∧ (∀ x ∈ h, x.length ≤ 1000) ∧ (atE es (pathOf h) = none → E (.ref cN) none H) ∧ (∀ e v, atE es (pathOf h) = some e → Dp K H v (dEnt e) → Q v H)
theorem ok_at {f : Addr} {fd : FuncData} (Ev : Env K mg) (Ex : Excs K mg e_LeadsOut e_NoEntry e_NotFolder e_TooFar) (F : Fun K "entry_at" "entry_at" sEntryAt f fd) : FnOk P w K mg base (L2.CX P w) 1 f fd ["found", "parts"] (spAt K e_NoEntry) := by
  refine F.okX scEntryAt (fun vs H Q E h => ?_) (fun cdv A outer s H vs Q E hr h => ?_)
  · obtain ⟨D, p, kvs, es, h, rfl, _⟩ := h; rfl
  · obtain ⟨D, p, kvs, es, h, rfl, hD, on, hp, lh, sz, he, hq⟩ := h
    refine ⟨_, (pss_cons (ps_set (i := 2) scEntryAt.nd rfl (.inl rfl) (pe_join pe_str (pv 1)))
      (pss_cons (ps_if (pt_cmp (pc_dnotin (hu1 hr) (pv 2) (pv 0)))
        (pss_one (ps_raiseC (W := fun cls d _ H => E cls d H) rfl (takes_of rfl rfl rfl rfl) Ex.NoEntry))
        pss_nil)
      (pss_one (ps_ret (pe_dget (hu1 hr) (pv 0) (pv 2) (fun _ _ => rfl)))))), ?_⟩
    have l1 : (Str.ofString "/").length = 1 := by decide +kernel
    have szs := sum_sizes (m := 1000) h sz
    refine ⟨⟨_, rfl⟩, _, rfl, Str.ofString "/", p, h.map mkS, rfl, rfl, .inl (by rw [mapT]; exact hp), by rw [l1, List.length_map]; omega, ?_⟩
    rw [s_slash, join_mkS]
    rcases onE_get (joinC 47 h) on with ⟨a0, v0⟩ | ⟨e, v, ae, ve, de⟩
    · refine ⟨_, rfl, _, rfl, D, _, rfl, .inl ⟨kvs, kT (joinC 47 h), .inl hD, rfl, v0.symm⟩, true, rfl, iteT (he a0)⟩
    · refine ⟨_, rfl, _, rfl, D, _, rfl, .inl ⟨kvs, kT (joinC 47 h), .inl hD, rfl, ve.symm⟩, false, rfl, iteF ?_⟩
      exact ⟨_, rfl, _, rfl, D, _, rfl, .inl ⟨kvs, kT (joinC 47 h), .inl hD, rfl, ve.symm⟩, hq e v ae de⟩

def OutL (cL cE cF cT : Addr) (H : Hp) (Q : VK) (E : XK) : LRes → Prop
  | .out => ∀ H', Same H H' → E (.ref cL) none H'
  | .noEntry => ∀ H', Same H H' → E (.ref cE) none H'
  | .notFolder => ∀ H', Same H H' → E (.ref cF) none H'
  | .tooFar => ∀ H', Same H H' → E (.ref cT) none H'
  | .ok z => ∀ H', Same H H' → Q (T (pathOf z)) H'
def spLand (K : PySem.W.Frag) (cL cE cF cT : Addr) : Sp := fun vs H Q E => ∃ (v : V) (es : List Ent) (t : List Nat), vs = [v, T t] ∧ Dp K H v (dTree es) ∧ TreeOk es ∧ PathT t ∧ OutL cL cE cF cT H Q E (landF es t)
theorem goal_ne {g : List Nat} (h : GoalT g) : g ≠ [] := fun e => by
  have := h.2 [] (by rw [e]; simp [splitC])
  rcases this with k | k
  · cases k
  · exact absurd k.1 (by decide)
theorem pathT_ne {t : List Nat} (h : PathT t) : t ≠ [] := fun e => by
  have := h.2.2 [] (by rw [e]; simp [splitC])
  exact absurd this.1 (by decide)
theorem ok_land {f : Addr} {fd : FuncData} (Ev : Env K mg) (Ex : Excs K mg e_LeadsOut e_NoEntry e_NotFolder e_TooFar) (CByPath : Cal P w K mg base "by_path" 1 ["tree"] (spBy K)) (CPartsOf : Cal P w K mg base "parts_of" 1 ["path"] (spParts K)) (CFolderAbove : CalX P w K mg base "folder_above" 1 ["parts"] (spUpF K e_LeadsOut)) (CEntryAt : CalX P w K mg base "entry_at" 1 ["found", "parts"] (spAt K e_NoEntry))
    (F : Fun K "landing" "landing" sLanding f fd) : FnOk P w K mg base (L2.CX P w) 2 f fd ["tree", "path"] (spLand K e_LeadsOut e_NoEntry e_NotFolder e_TooFar) := by
  refine F.okX scLanding (fun vs H Q E h => ?_) (fun cdv A outer s H vs Q E hr h => ?_)
  · obtain ⟨v, es, t, rfl, _⟩ := h; rfl
  · obtain ⟨v, es, t, rfl, hv, tk, pt, out⟩ := h
    refine ⟨_, (pss_cons (ps_set (i := 2) scLanding.nd rfl (.inl rfl) (pe_c CByPath (hr.mono (by omega)) (pa_cons (pv 0) pa_nil)))
      (pss_cons (ps_set (i := 3) scLanding.nd rfl (.inl rfl) (pe_lst pa_nil))
      (pss_cons (ps_set (i := 4) scLanding.nd rfl (.inl rfl) (pe_c CPartsOf (hr.mono (by omega)) (pa_cons (pv 1) pa_nil)))
      (pss_cons (ps_set (i := 5) scLanding.nd rfl (.inl rfl) pe_int)
      (pss_cons (ps_while (passes_of rfl) (pt_truth (pv 4) (by intro _; rfl))
        (pss_cons (ps_set (i := 6) scLanding.nd rfl (.inl rfl) (pe_ix ix_list (pv 4) pe_int (fun _ _ => rfl)))
        (pss_cons (ps_set (i := 4) scLanding.nd rfl (.inl rfl) (pe_slice sl_list (pv 4) (po_some pe_int) po_none))
        (pss_cons (ps_if (pt_cmpR op_eq (pv 6) pe_str (nomark _))
          (pss_cons (ps_set (i := 3) scLanding.nd rfl (.inl rfl) (pe_cx (E := E) CFolderAbove (hr.mono (by omega)) (takes_of rfl rfl rfl rfl) (pa_cons (pv 3) pa_nil)))
          (pss_one (ps_continue)))
          pss_nil)
        (pss_cons (ps_set (i := 7) scLanding.nd rfl (.inl rfl) (pe_cx (E := E) CEntryAt (hr.mono (by omega)) (takes_of rfl rfl rfl rfl) (pa_cons (pv 2) (pa_cons (pe_op op_cat (pv 3) (pe_lst (pa_cons (pv 6) pa_nil))) pa_nil))))
        (pss_cons (ps_if (pt_cmpR op_eq (pe_ix ix_tup (pv 7) pe_int (fun _ _ => rfl)) pe_str (nomark _))
          (pss_cons (ps_aug (i := 5) scLanding.nd rfl (.inl rfl) pe_int ip_add)
          (pss_cons (ps_if (pt_cmpR op_gt (pv 5) (pe_globI (by rfl) Ev.g_MOST_LINKS) (nomark _))
            (pss_one (ps_raiseC (W := fun cls d _ H => E cls d H) rfl (takes_of rfl rfl rfl rfl) Ex.TooFar))
            pss_nil)
          (pss_cons (ps_set (i := 4) scLanding.nd rfl (.inl rfl) (pe_op op_cat (pe_c CPartsOf (hr.mono (by omega)) (pa_cons (pe_ix ix_tup (pv 7) pe_int (fun _ _ => rfl)) pa_nil)) (pv 4)))
          (pss_one (ps_continue)))))
          pss_nil)
        (pss_cons (ps_if (PW.pt (pw_and (pt_cmpR op_eq (pe_ix ix_tup (pv 7) pe_int (fun _ _ => rfl)) pe_str (nomark _)) (pw_and1 (pt_truth (pv 4) (by intro _; rfl)))))
          (pss_one (ps_raiseC (W := fun cls d _ H => E cls d H) rfl (takes_of rfl rfl rfl rfl) Ex.NotFolder))
          pss_nil)
        (pss_one (ps_set (i := 3) scLanding.nd rfl (.inl rfl) (pe_op op_cat (pv 3) (pe_lst (pa_cons (pv 6) pa_nil))))))))))))
      (pss_one (ps_ret (pe_join pe_str (pv 3))))))))), ?_⟩
    have l1 : (Str.ofString "/").length = 1 := by decide +kernel
    have tl := pt.len
    have l8 := pt.2.1
    have size : ∀ n : Nat, n ≤ 10000 → n ≤ sizeLine := fun n h => by rw [sizeLine_eq]; omega
    have one : (1 : Nat) ≤ sizeLine := size 1 (by decide)
    have nd : Nod es := tk.nod
    have sml : SmallE es := fun e he => (tk.ok e he).small
    refine ⟨_, rfl, v, es, rfl, hv, nd, sml, by have := tk.few; omega, fun H1 D kvs s1 nD hD on => ?_⟩
    refine ⟨Nat.zero_le _, fun ph nph => ?_⟩
    have s2 : Same H1 (upd H1 ph (.lst [])) := grow nph
    refine ⟨_, rfl, t, rfl, pathT_ne pt, by omega, fun pp npp => ?_⟩
    have s3 : Same (upd H1 ph (.lst [])) (upd (upd H1 ph (.lst [])) pp (.lst ((splitC 47 t).map T))) := grow npp
    refine ⟨fun m σ H' => ∃ (h r : List (List Nat)) (l : Nat) (ph pq : Addr) (y6 y7 : Option V), σ = [some v, some (T t), some (.ref D), some (.ref ph), some (.ref pq), some (.int (l : Int)), y6, y7] ∧ m = (20 - l) * 1000 + r.length ∧ Same H1 H' ∧ H' ph = some (.lst (h.map T)) ∧ H' pq = some (.lst (r.map T)) ∧ landW es l h r = landF es t ∧ (∀ p ∈ h, partOk p) ∧ Way r ∧ l ≤ 20 ∧ h.length + r.length ≤ 8 + 8 * l,
      ⟨_, [], splitC 47 t, 0, ph, pp, none, none, rfl, rfl, s2.trans s3, s3 _ _ upd_same, upd_same, rfl, (fun p hp => by cases hp), fun p hp => .inr (pt.2.2 p hp), by decide, by rw [List.length_nil]; omega⟩, fun m σ H2 hW => ?_⟩
    obtain ⟨h, r, l, ph, pq, y6, y7, rfl, rfl, sm, hph, hpq, eq, hh, wr, ll, lhr⟩ := hW
    rw [← eq] at out
    have sH : Same H H2 := s1.trans sm
    have hD2 := sm _ _ hD
    have on2 := onE_keep sm on
    refine ⟨_, rfl, _, .inl ⟨_, SqL.of hpq, rfl⟩, ?_⟩
    cases r with
    | nil =>
      refine iteF ?_
      rw [landW_nil] at out
      have szs := sum_sizes (m := 12) h fun p hp => (hh p hp).2.1
      refine ⟨⟨_, rfl⟩, _, rfl, Str.ofString "/", ph, h.map mkS, rfl, rfl, .inl (by rw [mapT]; exact SqL.of hph), by rw [l1, List.length_map]; omega, ?_⟩
      rw [s_slash, join_mkS]
      exact out _ sH
    | cons p r =>
      rw [List.length_cons] at lhr
      refine iteT ⟨_, fun σ' H'' h => h, ?_⟩
      have wr2 : Way r := fun x hx => wr x (List.mem_cons_of_mem _ hx)
      refine ⟨_, rfl, pq, _, 0, _, rfl, rfl, SqL.of hpq, at_ofA (j := 0) rfl rfl, ?_⟩
      refine ⟨_, rfl, 1, rfl, pq, _, rfl, SqL.of hpq, fun p3 n3 => ?_⟩
      rw [show cutV ((p :: r).map T) (some 1) none = r.map T from cutV_from _ 1]
      have s3 : Same H2 (upd H2 p3 (.lst (r.map T))) := grow n3
      have h3 : (upd H2 p3 (.lst (r.map T))) p3 = some (.lst (r.map T)) := upd_same
      have ph3 := s3 _ _ hph
      have hD3 := s3 _ _ hD2
      have on3 := onE_keep s3 on2
      have sm3 := sm.trans s3
      have sH3 := sH.trans s3
      generalize upd H2 p3 (.lst (r.map T)) = H3 at s3 h3 ph3 hD3 on3 sm3 sH3
      refine ⟨_, rfl, rfl, _, rfl, ite2 (fun z => ?_) (fun z => ?_)⟩
      · have ep : p = dots := T_inj ((of_decide_eq_true z).trans t_dots)
        subst ep
        rw [landW_dots] at out eq
        refine ⟨_, rfl, ph, h, rfl, SqL.of ph3, fun eh => ?_, fun nh p4 n4 => ?_⟩
        · rw [if_pos eh] at out
          exact out _ sH3
        · rw [if_neg nh] at eq
          have s4 : Same H3 (upd H3 p4 (.lst (h.dropLast.map T))) := grow n4
          have hd : ∀ p ∈ h.dropLast, partOk p := fun p hp => hh p ((List.dropLast_sublist _).mem hp)
          have lh := List.length_pos_iff.mpr nh
          have ld := List.length_dropLast (xs := h)
          exact ⟨(20 - l) * 1000 + r.length, by rw [List.length_cons]; omega, h.dropLast, r, l, p4, p3, _, _, rfl, rfl, sm3.trans s4, upd_same, s4 _ _ h3, eq, hd, wr2, ll, by omega⟩
      · have np : p ≠ dots := fun k => z (decide_eq_true (by rw [k]; exact t_dots.symm))
        have pok : partOk p := by
          rcases wr p (by simp) with k | k
          · exact absurd k np
          · exact k
        have hh2 : ∀ x ∈ h ++ [p], partOk x := fun x hx => by
          rcases List.mem_append.mp hx with hx | hx
          · exact hh x hx
          · rw [List.mem_singleton.mp hx]; exact pok
        refine ⟨_, rfl, _, rfl, _, rfl, one, fun p4 n4 => ?_⟩
        have s4 : Same H3 (upd H3 p4 (.lst [T p])) := grow n4
        refine ⟨ph, p4, _, _, rfl, rfl, s4 _ _ ph3, upd_same, size _ (by rw [List.length_map]; simp only [List.length_cons, List.length_nil]; omega), fun p5 n5 => ?_⟩
        rw [show h.map T ++ [T p] = (h ++ [p]).map T by rw [List.map_append]; rfl]
        have s5 : Same H3 (upd (upd H3 p4 (.lst [T p])) p5 (.lst ((h ++ [p]).map T))) := s4.trans (grow n5)
        have h5 : (upd (upd H3 p4 (.lst [T p])) p5 (.lst ((h ++ [p]).map T))) p5 = some (.lst ((h ++ [p]).map T)) := upd_same
        generalize upd (upd H3 p4 (.lst [T p])) p5 (.lst ((h ++ [p]).map T)) = H5 at s5 h5
        have sm5 := sm3.trans s5
        have sH5 := sH3.trans s5
        have h35 := s5 _ _ h3
        have ph5 := s5 _ _ ph3
        refine ⟨D, p5, kvs, es, h ++ [p], rfl, s5 _ _ hD3, onE_keep s5 on3, SqL.of h5, by rw [List.length_append]; simp only [List.length_cons, List.length_nil]; omega, fun x hx => by have := (hh2 x hx).2.1; omega, fun ae => ?_, fun e v ae dv => ?_⟩
        · rw [landW_none np ae] at out
          exact out _ sH5
        obtain ⟨u, us, rfl, hu, u0, u1, u2⟩ := dpWord3 dv
        refine ⟨_, rfl, u, us, 0, _, rfl, rfl, hu, at_ofA (j := 0) rfl u0, (by cases e <;> rfl), _, rfl, ?_⟩
        cases e with
        | link lt g =>
          rw [landW_link np ae] at out eq
          have us2 : us[2]? = some (T g) := u2 _ _ rfl
          have gt : GoalT g := (tk.ok _ (atE_mem ae).1).2
          have lg : g.length ≤ 200 := gt.len
          refine iteW (word_is rfl) ?_
          refine ⟨_, rfl, _, _, rfl, rfl, ?_⟩
          refine ⟨_, rfl, _, _, rfl, rfl, _, rfl, ite2 (fun y => ?_) (fun y => ?_)⟩
          · have y' : (20 : Int) < (l : Int) + 1 := of_decide_eq_true y
            rw [if_pos (by omega)] at out
            exact out _ sH5
          · have y' : ¬ (20 : Int) < (l : Int) + 1 := fun k => y (decide_eq_true k)
            have nl : ¬ 20 ≤ l := by omega
            rw [if_neg nl] at eq
            refine ⟨_, rfl, u, us, 2, _, rfl, rfl, hu, at_ofA (j := 2) rfl us2, g, rfl, goal_ne gt, by omega, fun p6 n6 => ?_⟩
            have lsg := gt.1
            refine ⟨_, rfl, p6, p3, _, _, rfl, rfl, upd_same, grow n6 _ _ h35, size _ (by rw [List.length_map, List.length_map]; omega), fun p7 n7 => ?_⟩
            rw [← List.map_append]
            have s67 : Same H5 _ := (grow (o := .lst ((splitC 47 g).map T)) n6).trans (grow (o := .lst ((splitC 47 g ++ r).map T)) n7)
            refine ⟨(20 - (l + 1)) * 1000 + (splitC 47 g ++ r).length, ?_, h, splitC 47 g ++ r, l + 1, ph, p7, _, _, rfl, rfl, sm5.trans s67, s67 _ _ ph5, upd_same, eq, hh, fun x hx => ?_, by omega, ?_⟩
            · rw [List.length_append, List.length_cons]
              omega
            · rcases List.mem_append.mp hx with hx | hx
              · exact gt.2 x hx
              · exact wr2 x hx
            · rw [List.length_append]
              omega
        | folder ft =>
          rw [landW_folder np ae] at eq
          refine iteNW (word_isnt (by decide +kernel)) ?_
          refine ⟨_, rfl, u, us, 0, _, rfl, rfl, hu, at_ofA (j := 0) rfl u0, rfl, _, rfl, iteNW (word_isnt (by decide +kernel)) (iteF ?_)⟩
          refine ⟨_, rfl, _, rfl, one, fun p6 n6 => ?_⟩
          have s6 : Same H5 (upd H5 p6 (.lst [T p])) := grow n6
          refine ⟨ph, p6, _, _, rfl, rfl, s6 _ _ ph5, upd_same, size _ (by rw [List.length_map]; simp only [List.length_cons, List.length_nil]; omega), fun p7 n7 => ?_⟩
          rw [show h.map T ++ [T p] = (h ++ [p]).map T by rw [List.map_append]; rfl]
          have s7 : Same H5 _ := s6.trans (grow (o := .lst ((h ++ [p]).map T)) n7)
          exact ⟨(20 - l) * 1000 + r.length, by rw [List.length_cons]; omega, h ++ [p], r, l, p7, p3, _, _, rfl, rfl, sm5.trans s7, upd_same, s7 _ _ h35, eq, hh2, wr2, ll, by rw [List.length_append]; simp only [List.length_cons, List.length_nil]; omega⟩
        | file ft b =>
          rw [landW_file np ae] at out eq
          refine iteNW (word_isnt (by decide +kernel)) ?_
          refine ⟨_, rfl, u, us, 0, _, rfl, rfl, hu, at_ofA (j := 0) rfl u0, rfl, _, rfl, iteW (word_is rfl) ?_⟩
          refine ⟨_, rfl, _, .inl ⟨_, SqL.of h35, rfl⟩, ?_⟩
          cases r with
          | cons x2 r2 =>
            refine iteT ?_
            rw [if_pos (by simp)] at out
            exact out _ sH5
          | nil =>
            rw [if_neg (fun k => k rfl)] at eq
            refine iteF ⟨_, rfl, _, rfl, one, fun p6 n6 => ?_⟩
            have s6 : Same H5 (upd H5 p6 (.lst [T p])) := grow n6
            refine ⟨ph, p6, _, _, rfl, rfl, s6 _ _ ph5, upd_same, size _ (by rw [List.length_map]; simp only [List.length_cons, List.length_nil]; omega), fun p7 n7 => ?_⟩
            rw [show h.map T ++ [T p] = (h ++ [p]).map T by rw [List.map_append]; rfl]
            have s7 : Same H5 _ := s6.trans (grow (o := .lst ((h ++ [p]).map T)) n7)
            exact ⟨(20 - l) * 1000 + 0, by simp, h ++ [p], [], l, p7, p3, _, _, rfl, rfl, sm5.trans s7, upd_same, s7 _ _ h35, by rw [landW_nil]; exact eq, hh2, wr2, ll, by rw [List.length_append]; simp only [List.length_cons, List.length_nil] at lhr ⊢; omega⟩

/-! ### what is told, or caught -/
def ShowsL (K : PySem.W.Frag) (H : Hp) (v : V) : LRes → Prop
  | .ok z => ∃ t, v = .ref t ∧ SqT K H t [T (pathOf z)]
  | .out => v = landV .out
  | .noEntry => v = landV .noEntry
  | .notFolder => v = landV .notFolder
  | .tooFar => v = landV .tooFar
def spToldL (K : PySem.W.Frag) : Sp := fun vs H Q _ => ∃ (v : V) (es : List Ent) (t : List Nat), vs = [v, T t] ∧ Dp K H v (dTree es) ∧ TreeOk es ∧ PathT t ∧ ∀ H' u, Same H H' → ShowsL K H' u (landF es t) → Q u H'
theorem ok_told {f : Addr} {fd : FuncData} (Ev : Env K mg) (Ex : Excs K mg e_LeadsOut e_NoEntry e_NotFolder e_TooFar) (CLanding : CalX P w K mg base "landing" 2 ["tree", "path"] (spLand K e_LeadsOut e_NoEntry e_NotFolder e_TooFar)) (F : Fun K "_law_told" "_law_told" sLawTold f fd) : FnOk P w K mg base CX0 3 f fd ["_law_tree", "_law_way"] (spToldL K) := by
  refine F.ok scLawTold (fun vs H Q E h => ?_) (fun cdv A outer s H vs Q E hr h => ?_)
  · obtain ⟨v, es, t, rfl, _⟩ := h; rfl
  · obtain ⟨v, es, t, rfl, hv, tk, pt, q⟩ := h
    refine ⟨_, (pss_cons (ps_set (i := 2) scLawTold.nd rfl (.inl rfl) pe_non)
      (pss_cons (ps_try_many (tb := fun W => tAsg (tTupU K (tCons (tCallS (spLand K e_LeadsOut e_NoEntry e_NotFolder e_TooFar) (WE W) (tCons (tVar 0) (tCons (tVar 1) tNil))) tNil)) (gName 2)) (Wout := fun _ _ _ _ => False)
          (l := [(.ref e_LeadsOut, fun _ _ _ => tAsg (tC (.str "LeadsOut")) (gName 2)), (.ref e_NoEntry, fun _ _ _ => tAsg (tC (.str "NoEntry")) (gName 2)), (.ref e_NotFolder, fun _ _ _ => tAsg (tC (.str "NotFolder")) (gName 2)), (.ref e_TooFar, fun _ _ _ => tAsg (tC (.str "TooFar")) (gName 2))]) rfl rfl takes0
          (fun W pn xe tk _ => pss_one (ps_set (i := 2) scLawTold.nd rfl (.inl rfl) (by exact (pe_tupUq (K := K) rfl (pa_cons (pe_cs CLanding (hr.mono (by omega)) tk (by exact (pa_cons (pv 0) (pa_cons (pv 1) pa_nil)))) pa_nil)))))
          (.cons ⟨rfl, by decide, .inl Ex.LeadsOut.g⟩ (fun a oe cls d pn hz hf => pss_one (ps_set (i := 2) scLawTold.nd rfl (.inl rfl) pe_str))
            (.cons ⟨rfl, by decide, .inl Ex.NoEntry.g⟩ (fun a oe cls d pn hz hf => pss_one (ps_set (i := 2) scLawTold.nd rfl (.inl rfl) pe_str))
              (.cons ⟨rfl, by decide, .inl Ex.NotFolder.g⟩ (fun a oe cls d pn hz hf => pss_one (ps_set (i := 2) scLawTold.nd rfl (.inl rfl) pe_str))
                (.cons ⟨rfl, by decide, .inl Ex.TooFar.g⟩ (fun a oe cls d pn hz hf => pss_one (ps_set (i := 2) scLawTold.nd rfl (.inl rfl) pe_str)) .nil)))))
      (pss_one (ps_ret (pv 2))))), ?_⟩
    refine ⟨_, rfl, _, rfl, v, es, t, rfl, hv, tk, pt, ?_⟩
    cases e : landF es t with
    | out =>
      rw [e] at q
      exact fun H' sm => ⟨true, Ex.p_LeadsOut_LeadsOut, fun _ a na => ⟨_, rfl, q _ _ sm rfl⟩, fun z => nomatch z⟩
    | noEntry =>
      rw [e] at q
      exact fun H' sm => ⟨false, Ex.p_NoEntry_LeadsOut, (fun z => nomatch z), fun _ => ⟨true, Ex.p_NoEntry_NoEntry, fun _ a na => ⟨_, rfl, q _ _ sm rfl⟩, fun z => nomatch z⟩⟩
    | notFolder =>
      rw [e] at q
      exact fun H' sm => ⟨false, Ex.p_NotFolder_LeadsOut, (fun z => nomatch z), fun _ => ⟨false, Ex.p_NotFolder_NoEntry, (fun z => nomatch z), fun _ => ⟨true, Ex.p_NotFolder_NotFolder, fun _ a na => ⟨_, rfl, q _ _ sm rfl⟩, fun z => nomatch z⟩⟩⟩
    | tooFar =>
      rw [e] at q
      exact fun H' sm => ⟨false, Ex.p_TooFar_LeadsOut, (fun z => nomatch z), fun _ => ⟨false, Ex.p_TooFar_NoEntry, (fun z => nomatch z), fun _ => ⟨false, Ex.p_TooFar_NotFolder, (fun z => nomatch z), fun _ => ⟨true, Ex.p_TooFar_TooFar, fun _ a na => ⟨_, rfl, q _ _ sm rfl⟩, fun z => nomatch z⟩⟩⟩⟩
    | ok z =>
      rw [e] at q
      exact fun H' sm => ⟨(show 1 ≤ sizeLine by rw [sizeLine_eq]; decide), fun H3 t3 s3 h3 => ⟨_, rfl, q _ _ (sm.trans s3) ⟨t3, rfl, h3⟩⟩⟩

/-! ### a row of links -/
def qT (k : Nat) : List Nat := [113, 48 + k / 10, 48 + k % 10]
theorem q_str : ∀ k ∈ List.range 41, 10 ≤ k → Str.empty ++ Str.ofString "q" ++ Str.ofString (toString (k : Int)) = mkS (qT k) := by decide +kernel
instance (g : List Nat) : Decidable (GoalT g) := by
  unfold GoalT
  infer_instance
theorem q_ok : ∀ k ∈ List.range 41, 10 ≤ k → PathT (qT k) ∧ GoalT (qT k) ∧ aboveT (qT k) = [] ∧ (splitC 47 (qT k)).length ≤ 4 ∧ ¬ qT k < [113] ∧ ¬ qT k < [108] ∧ [108] < qT k := by decide +kernel
theorem q_lt : ∀ i ∈ List.range 41, ∀ j ∈ List.range 41, 10 ≤ i → i < j → qT i < qT j := by decide +kernel
def qs (m : Nat) : List Ent := (List.range m).map fun i => .link (qT (10 + i)) (qT (11 + i))
def fullQ (es : List Ent) (m : Nat) : List Ent := es ++ qs m ++ [.folder (qT (10 + m))]
def treeQ (es : List Ent) (m : Nat) : List Ent := (fullQ es m).filter (fun e => decide (e.path < [108])) ++ (fullQ es m).filter (fun e => !decide (e.path < [113]))
theorem qs_mem {m : Nat} {e : Ent} (h : e ∈ qs m ++ [.folder (qT (10 + m))]) : ∃ k, 10 ≤ k ∧ k ≤ 10 + m ∧ e.path = qT k ∧ (e = .folder (qT k) ∨ (e = .link (qT k) (qT (k + 1)) ∧ k < 10 + m)) := by
  rcases List.mem_append.mp h with h | h
  · obtain ⟨i, hi, rfl⟩ := List.mem_map.mp h
    have := List.mem_range.mp hi
    exact ⟨10 + i, by omega, by omega, rfl, .inr ⟨by rw [show 10 + i + 1 = 11 + i by omega], by omega⟩⟩
  · rw [List.mem_singleton.mp h]
    exact ⟨10 + m, by omega, by omega, rfl, .inl rfl⟩
theorem treeQ_eq {es : List Ent} {m : Nat} (lm : m ≤ 22) (low : ∀ e ∈ es, Low e.path) : treeQ es m = es.filter (fun e => decide (e.path < [108])) ++ (qs m ++ [.folder (qT (10 + m))]) := by
  have k1 : (qs m ++ [Ent.folder (qT (10 + m))]).filter (fun e => decide (e.path < [108])) = [] := List.filter_eq_nil_iff.mpr fun e he => by
    obtain ⟨k, h1, h2, h3, _⟩ := qs_mem he
    rw [h3, decide_eq_false (q_ok k (List.mem_range.mpr (by omega)) h1).2.2.2.2.2.1]
    exact Bool.false_ne_true
  have k2 : (qs m ++ [Ent.folder (qT (10 + m))]).filter (fun e => !decide (e.path < [113])) = qs m ++ [Ent.folder (qT (10 + m))] := List.filter_eq_self.mpr fun e he => by
    obtain ⟨k, h1, h2, h3, _⟩ := qs_mem he
    rw [h3, decide_eq_false (q_ok k (List.mem_range.mpr (by omega)) h1).2.2.2.2.1]
    rfl
  have k3 : es.filter (fun e => !decide (e.path < [113])) = [] := List.filter_eq_nil_iff.mpr fun e he => by
    rw [decide_eq_true (low e he).2]
    exact Bool.false_ne_true
  unfold treeQ fullQ
  rw [List.append_assoc]
  generalize qs m ++ [Ent.folder (qT (10 + m))] = Z at k1 k2
  rw [List.filter_append, List.filter_append, k1, k2, k3, List.append_nil, List.nil_append]
theorem six_low : ∀ s ∈ sixP, s < [108] := by decide
theorem treeQ_ok {es : List Ent} {m : Nat} (tk : TreeOk es) (few : es.length ≤ 26) (up : ∀ e ∈ es, ∀ a ∈ aboveT e.path, a ∈ sixP) (low : ∀ e ∈ es, Low e.path) (lm : m ≤ 22) :
    TreeOk (treeQ es m) ∧ (∀ e ∈ treeQ es m, (splitC 47 e.path).length ≤ 4) ∧ (treeQ es m).length ≤ 60 := by
  rw [treeQ_eq lm low]
  have lf : (es.filter fun e => decide (e.path < [108])).length ≤ 26 := Nat.le_trans (List.length_filter_le ..) few
  have lq : (qs m).length = m := by unfold qs; rw [List.length_map, List.length_range]
  have len : (es.filter (fun e => decide (e.path < [108])) ++ (qs m ++ [Ent.folder (qT (10 + m))])).length ≤ 60 := by
    rw [List.length_append, List.length_append, lq]
    simp only [List.length_cons, List.length_nil]
    omega
  have qk : ∀ k, 10 ≤ k → k ≤ 33 → _ := fun k h1 h2 => q_ok k (List.mem_range.mpr (by omega)) h1
  refine ⟨⟨fun e he => ?_, ?_, fun e he a ha => ?_, by omega⟩, fun e he => ?_, len⟩
  · rcases List.mem_append.mp he with he | he
    · exact tk.ok e (List.mem_filter.mp he).1
    · obtain ⟨k, h1, h2, h3, h4⟩ := qs_mem he
      rcases h4 with h4 | ⟨h4, h5⟩
      · rw [h4]
        exact (qk k h1 (by omega)).1
      · rw [h4]
        exact ⟨(qk k h1 (by omega)).1, (qk (k + 1) (by omega) (by omega)).2.1⟩
  · refine List.pairwise_append.mpr ⟨tk.rise.filter _, List.pairwise_append.mpr ⟨?_, List.pairwise_singleton .., fun x hx y hy => ?_⟩, fun x hx y hy => ?_⟩
    · unfold qs
      refine List.pairwise_map.mpr ((List.pairwise_lt_range (n := m)).imp_of_mem fun {i j} hi hj h => ?_)
      have := List.mem_range.mp hi
      have := List.mem_range.mp hj
      exact q_lt (10 + i) (List.mem_range.mpr (by omega)) (10 + j) (List.mem_range.mpr (by omega)) (by omega) (by omega)
    · obtain ⟨i, hi, rfl⟩ := List.mem_map.mp hx
      have := List.mem_range.mp hi
      rw [List.mem_singleton.mp hy]
      exact q_lt (10 + i) (List.mem_range.mpr (by omega)) (10 + m) (List.mem_range.mpr (by omega)) (by omega) (by omega)
    · obtain ⟨k, h1, h2, h3, _⟩ := qs_mem hy
      rw [h3]
      exact List.lt_trans (of_decide_eq_true (List.mem_filter.mp hx).2) (qk k h1 (by omega)).2.2.2.2.2.2
  · rcases List.mem_append.mp he with he | he
    · have me := (List.mem_filter.mp he).1
      exact List.mem_append_left _ (List.mem_filter.mpr ⟨tk.up e me a ha, decide_eq_true (six_low a (up e me a ha))⟩)
    · obtain ⟨k, h1, h2, h3, _⟩ := qs_mem he
      rw [h3, (qk k h1 (by omega)).2.2.1] at ha
      cases ha
  · rcases List.mem_append.mp he with he | he
    · exact (low e (List.mem_filter.mp he).1).1
    · obtain ⟨k, h1, h2, h3, _⟩ := qs_mem he
      rw [h3]
      exact (qk k h1 (by omega)).2.2.2.1
/-! ### ways -/
theorem way_more {t : List Nat} (h : PathT t) (l : (splitC 47 t).length ≤ 4) : PathT (t ++ [47, 97]) := by
  unfold PathT
  rw [show t ++ [47, 97] = t ++ 47 :: [97] from rfl, splitC_app, show splitC 47 [97] = [[97]] by decide]
  refine ⟨by simp, by rw [List.length_append]; simp only [List.length_cons, List.length_nil]; omega, fun p hp => ?_⟩
  rcases List.mem_append.mp hp with hp | hp
  · exact h.2.2 p hp
  · rw [List.mem_singleton.mp hp]
    decide
theorem way_of {ps : List (List Nat)} (n : ps ≠ []) (l : ps.length ≤ 8) (h : ∀ p ∈ ps, partOk p) : PathT (joinC 47 ps) := by
  have k : PathOk ps := ⟨n, l, h⟩
  unfold PathT
  rw [show joinC 47 ps = pathOf ps from rfl, split_path k]
  exact k
theorem eight_qs {d : Int} (h0 : 0 ≤ d) (h1 : d < 8) : ∃ p, atI [V.str "l", .str "a", .str "m", .str "b", .str "n", .str "c", .str "z", .str "q10"] d = some (T p) ∧ partOk p := by
  have : d = 0 ∨ d = 1 ∨ d = 2 ∨ d = 3 ∨ d = 4 ∨ d = 5 ∨ d = 6 ∨ d = 7 := by omega
  rcases this with rfl | rfl | rfl | rfl | rfl | rfl | rfl | rfl
  · exact ⟨[108], congrArg (fun x => some (V.str x)) (show Str.ofString "l" = mkS [108] by decide +kernel), by decide⟩
  · exact ⟨[97], congrArg (fun x => some (V.str x)) (show Str.ofString "a" = mkS [97] by decide +kernel), by decide⟩
  · exact ⟨[109], congrArg (fun x => some (V.str x)) (show Str.ofString "m" = mkS [109] by decide +kernel), by decide⟩
  · exact ⟨[98], congrArg (fun x => some (V.str x)) (show Str.ofString "b" = mkS [98] by decide +kernel), by decide⟩
  · exact ⟨[110], congrArg (fun x => some (V.str x)) (show Str.ofString "n" = mkS [110] by decide +kernel), by decide⟩
  · exact ⟨[99], congrArg (fun x => some (V.str x)) (show Str.ofString "c" = mkS [99] by decide +kernel), by decide⟩
  · exact ⟨[122], congrArg (fun x => some (V.str x)) (show Str.ofString "z" = mkS [122] by decide +kernel), by decide⟩
  · exact ⟨[113, 49, 48], congrArg (fun x => some (V.str x)) (show Str.ofString "q10" = mkS [113, 49, 48] by decide +kernel), by decide⟩
theorem end_path {es : List Ent} (tk : TreeOk es) {z : List (List Nat)} (h : EndAt es z) (n : z ≠ []) : PathT (pathOf z) := by
  have : ∃ e ∈ es, e.path = pathOf z := by
    rcases h with f | ⟨g, p, t, b, rfl, f, d, a⟩
    · obtain ⟨p, t, _, _, h3⟩ := f (z.length - 1) (by have := List.length_pos_iff.mpr n; omega)
      rw [List.take_of_length_le (by omega)] at h3
      exact ⟨_, atE_mem h3⟩
    · exact ⟨_, atE_mem a⟩
  obtain ⟨e, he, pe⟩ := this
  rw [← pe]
  exact (tk.ok e he).path
theorem words_in {z : List (List Nat)} (h : ∀ p ∈ z, partOk p) : inV (T (pathOf z)) [V.str "LeadsOut", .str "NoEntry", .str "NotFolder", .str "TooFar"] = false := by
  have e1 := path_word h (c := 76) (r := [101, 97, 100, 115, 79, 117, 116]) (by decide) "LeadsOut" (by decide +kernel)
  have e2 := path_word h (c := 78) (r := [111, 69, 110, 116, 114, 121]) (by decide) "NoEntry" (by decide +kernel)
  have e3 := path_word h (c := 78) (r := [111, 116, 70, 111, 108, 100, 101, 114]) (by decide) "NotFolder" (by decide +kernel)
  have e4 := path_word h (c := 84) (r := [111, 111, 70, 97, 114]) (by decide) "TooFar" (by decide +kernel)
  have ne : ∀ x : Str, T (pathOf z) ≠ V.str x → eqV (.str x) (T (pathOf z)) = false := fun x hx => by
    cases k : eqV (.str x) (T (pathOf z)) with
    | false => rfl
    | true =>
      refine absurd ?_ hx
      have q : decide (x = mkS (pathOf z)) = true := k
      rw [of_decide_eq_true q]
      rfl
  unfold inV
  rw [List.any_cons, List.any_cons, List.any_cons, List.any_cons, List.any_nil, ne _ e1, ne _ e2, ne _ e3, ne _ e4]
  rfl

theorem Al2.of_map {α β γ : Type} {R : β → γ → Prop} {f : α → β} : ∀ {l : List α} {ys : List γ}, Al2 R (l.map f) ys → Al2 (fun a y => R (f a) y) l ys
  | [], _, .nil => .nil
  | a :: r, _, .cons h hs => .cons h (of_map hs)
theorem Al2.map {α β γ : Type} {R : β → γ → Prop} {f : α → β} : ∀ {l : List α} {ys : List γ}, Al2 (fun a y => R (f a) y) l ys → Al2 R (l.map f) ys
  | [], _, .nil => .nil
  | a :: r, _, .cons h hs => .cons h (map hs)
theorem Al2.app {α β : Type} {R : α → β → Prop} : ∀ {xs xs2 : List α} {ys ys2 : List β}, Al2 R xs ys → Al2 R xs2 ys2 → Al2 R (xs ++ xs2) (ys ++ ys2)
  | _, _, _, _, .nil, h => h
  | _, _, _, _, .cons h hs, k => .cons h (app hs k)
theorem log_q : ∀ k ∈ List.range 41, ((k : Int)).natAbs.log2 < 1920 := by decide
theorem get_map {α : Type} {l : List α} {f : α → V} {i : Nat} {x : V} (h : (l.map f)[i]? = some x) : ∃ t, l[i]? = some t ∧ x = f t := by
  rw [List.getElem?_map] at h
  cases e : l[i]? with
  | none => rw [e] at h; cases h
  | some t => rw [e] at h; exact ⟨t, rfl, (Option.some.inj h).symm⟩
theorem eqv_one (x : Str) : PyData.eqv (.tuple [.str x]) (.tuple [.str x]) = true := by
  simp [PyData.eqv, PyData.eqvAll]
theorem eqv_str (x : Str) : PyData.eqv (.str x) (.str x) = true := by
  simp [PyData.eqv]
theorem str_ok {l : List Nat} (h : ∀ c ∈ l, c < 1114112) : PyData.strOk (mkS l) = true := by
  unfold PyData.strOk mkS
  simpa using h
theorem shape_one {l : List Nat} (h : ∀ c ∈ l, c < 1114112) : SeqAt.shaped (.tuple [.str (mkS l)]) = true := by
  unfold SeqAt.shaped
  simp [PyData.canLay0, PyData.canLayAll0, PyData.depth, PyData.depthAll, str_ok h]
theorem shape_str {l : List Nat} (h : ∀ c ∈ l, c < 1114112) : SeqAt.shaped (.str (mkS l)) = true := by
  unfold SeqAt.shaped
  simp [PyData.canLay0, PyData.depth, str_ok h]
theorem join_mem (s : Nat) : ∀ (ps : List (List Nat)) (c : Nat), c ∈ joinC s ps → c = s ∨ ∃ p ∈ ps, c ∈ p
  | [], c, h => by simp [joinC, TL.joinL] at h
  | [p], c, h => .inr ⟨p, by simp, by simpa [joinC, TL.joinL] using h⟩
  | p :: q :: r, c, h => by
    have e : joinC s (p :: q :: r) = p ++ [s] ++ joinC s (q :: r) := by simp [joinC, TL.joinL]
    rw [e] at h
    rcases List.mem_append.mp h with h | h
    · rcases List.mem_append.mp h with h | h
      · exact .inr ⟨p, by simp, h⟩
      · exact .inl (List.mem_singleton.mp h)
    · rcases join_mem s (q :: r) c h with k | ⟨x, hx, k⟩
      · exact .inl k
      · exact .inr ⟨x, List.mem_cons_of_mem _ hx, k⟩
theorem good_small : ∀ c ∈ good, c < 1114112 := by decide
theorem path_small {z : List (List Nat)} (h : ∀ p ∈ z, partOk p) : ∀ c ∈ pathOf z, c < 1114112 := fun c hc => by
  rcases join_mem 47 z c hc with k | ⟨p, hp, k⟩
  · omega
  · exact good_small c ((h p hp).2.2.2.2 c k)
def spLaw (K : PySem.W.Frag) : Sp := fun vs H Q _ => ∃ (a : Addr) (ns : List Int), vs = [.ref a] ∧ SqL K H a (ns.map V.int) ∧ ns.length ≤ 63 ∧ ∀ H', Q (.bl true) H'
theorem ok_law {f : Addr} {fd : FuncData} (Ev : Env K mg) (CLawCell : Cal P w K mg base "_law_cell" 1 ["_law_script", "_law_k"] (spCellA K)) (CLawD : Cal P w K mg base "_law_d" 1 ["_law_cell_here", "_law_place", "_law_many"] spD) (CLawWeb : Cal P w K mg base "_law_web" 2 ["_law_cells"] (spWeb K)) (CLawLanding : Cal P w K mg base "_law_landing" 1 ["_law_tree", "_law_way"] (spLandH K))
    (CLawTold : Cal P w K mg base "_law_told" 3 ["_law_tree", "_law_way"] (spToldL K)) (F : Fun K "law" "law" sLaw f fd) : FnOk P w K mg base CX0 5 f fd ["_law_script"] (spLaw K) := by
  refine F.ok scLaw (fun vs H Q E h => ?_) (fun cdv A outer s H vs Q E hr h => ?_)
  · obtain ⟨a, ns, rfl, _⟩ := h; rfl
  · obtain ⟨a, ns, rfl, hS, hlen, q⟩ := h
    refine ⟨_, (pss_cons (ps_set (i := 1) scLaw.nd rfl (.inl rfl) (pe_c CLawCell (hr.mono (by omega)) (pa_cons (pv 0) (pa_cons pe_int pa_nil))))
      (pss_cons (ps_set (i := 2) scLaw.nd rfl (.inl rfl) (pe_c CLawWeb (hr.mono (by omega)) (pa_cons (pe_slice sl_list (pv 0) (po_some pe_int) (po_some (pe_op op_add pe_int (pe_c CLawD (hr.mono (by omega)) (pa_cons (pv 1) (pa_cons pe_int (pa_cons pe_int pa_nil))))))) pa_nil)))
      (pss_cons (ps_if (pt_cmpR op_eq (pe_c CLawD (hr.mono (by omega)) (pa_cons (pv 1) (pa_cons pe_int (pa_cons pe_int pa_nil)))) pe_int (nomark _))
        (pss_cons (ps_set (i := 6) scLaw.nd rfl (.inl rfl) (pe_op op_add pe_int (pe_c CLawD (hr.mono (by omega)) (pa_cons (pv 1) (pa_cons pe_int (pa_cons pe_int pa_nil))))))
        (pss_cons (ps_setLc (i := 7) (own := [("_law_k", 9)]) (g := gName 9) (tt := tYes) (by rfl) scLaw.nd rfl rfl (sw_true rfl rfl rfl (by decide +kernel)) (pi_range2 (by rfl) Ev.b_range (pa_cons pe_int (pa_cons (pe_op op_add pe_int (pv 6)) pa_nil))) (blkOk_by (own := [("_law_k", 9)]) (N := nLaw) (sc := defScope sLaw) (by decide +kernel)) (fun _ _ _ _ _ => (pg_name (i := 9) scLaw.nd rfl (.inl rfl))) (fun _ _ _ _ _ => pts_nil) (fun _ _ _ _ _ => by exact (pe_tupUq (K := K) rfl (pa_cons pe_str (pa_cons (pe_joined (.cons pe_str (.cons (pe_fmt (pv 9)) .nil))) (pa_cons (pe_joined (.cons pe_str (.cons (pe_fmt (pe_op op_add (pv 9) pe_int)) .nil))) pa_nil))))))
        (pss_cons (ps_set (i := 2) scLaw.nd rfl (.inl rfl) (pe_callTy call_tupleU (by rfl) Ev.b_tuple (by decide +kernel) (pa_cons (pe_op op_cat (pe_op op_cat (pe_callTy call_list_of (by rfl) Ev.b_list (by decide +kernel) (pa_cons (pv 2) pa_nil)) (pv 7)) (pe_lst (pa_cons (pe_tupU (pa_cons pe_str (pa_cons (pe_joined (.cons pe_str (.cons (pe_fmt (pe_op op_add pe_int (pv 6))) .nil))) pa_nil))) pa_nil))) pa_nil)))
        (pss_one (ps_set (i := 2) scLaw.nd rfl (.inl rfl) (pe_callTy call_tupleU (by rfl) Ev.b_tuple (by decide +kernel) (pa_cons (pe_op op_cat (pe_lc (own := [("_law_entry", 12)]) (g := gName 12) (by rfl) scLaw.nd (pi_tup (pv 2)) (blkOk_by (own := [("_law_entry", 12)]) (N := nLaw) (sc := defScope sLaw) (by decide +kernel)) (fun _ _ _ _ _ => (pg_name (i := 12) scLaw.nd rfl (.inl rfl))) (fun _ _ _ _ _ => pts_one (pt_cmpR op_lt_str (pe_ix (ix_tupq (K := K) rfl) (pv 12) pe_int (fun _ _ => rfl)) pe_str (nomark _))) (fun _ _ _ _ _ => (pv 12))) (pe_lc (own := [("_law_entry", 12)]) (g := gName 12) (by rfl) scLaw.nd (pi_tup (pv 2)) (blkOk_by (own := [("_law_entry", 12)]) (N := nLaw) (sc := defScope sLaw) (by decide +kernel)) (fun _ _ _ _ _ => (pg_name (i := 12) scLaw.nd rfl (.inl rfl))) (fun _ _ _ _ _ => pts_one (pt_cmpR op_ge_str (pe_ix (ix_tupq (K := K) rfl) (pv 12) pe_int (fun _ _ => rfl)) pe_str (nomark _))) (fun _ _ _ _ _ => (pv 12)))) pa_nil)))))))
        pss_nil)
      (pss_cons (ps_set (i := 3) scLaw.nd rfl (.inl rfl) (pe_op op_cat (pe_lc (own := [("_law_entry", 12)]) (g := gName 12) (tt := tYes) (by rfl) scLaw.nd (pi_tup (pv 2)) (blkOk_by (own := [("_law_entry", 12)]) (N := nLaw) (sc := defScope sLaw) (by decide +kernel)) (fun _ _ _ _ _ => (pg_name (i := 12) scLaw.nd rfl (.inl rfl))) (fun _ _ _ _ _ => pts_nil) (fun _ _ _ _ _ => (pe_ix (ix_tupq (K := K) rfl) (pv 12) pe_int (fun _ _ => rfl)))) (pe_lc (own := [("_law_entry", 12)]) (g := gName 12) (tt := tYes) (by rfl) scLaw.nd (pi_tup (pv 2)) (blkOk_by (own := [("_law_entry", 12)]) (N := nLaw) (sc := defScope sLaw) (by decide +kernel)) (fun _ _ _ _ _ => (pg_name (i := 12) scLaw.nd rfl (.inl rfl))) (fun _ _ _ _ _ => pts_nil) (fun _ _ _ _ _ => (pe_op op_add_str (pe_ix (ix_tupq (K := K) rfl) (pv 12) pe_int (fun _ _ => rfl)) pe_str)))))
      (pss_cons (ps_for PassesOwn.never rfl (pi_list (pe_slice sl_list (pv 0) (po_some pe_int) (po_some pe_int))) (pg_name (i := 4) scLaw.nd rfl (.inl rfl))
        (pss_cons (ps_set (i := 8) scLaw.nd rfl (.inl rfl) (pe_lst pa_nil))
        (pss_cons (ps_for PassesOwn.never rfl (pi_range1 (by rfl) Ev.b_range (pa_cons (pe_op op_add (pe_op op_mod (pv 4) pe_int) pe_int) pa_nil)) (pg_name (i := 9) scLaw.nd rfl (.inl rfl))
          (pss_cons (ps_expr (pe_bm PySem.F.plainAttrs_list PySem.F.slot_list_append PySem.F.type_list_append mt_append (pv 8) (pa_cons (pe_ix ix_list (pe_lst (pa_cons pe_str (pa_cons pe_str (pa_cons pe_str (pa_cons pe_str (pa_cons pe_str (pa_cons pe_str (pa_cons pe_str (pa_cons pe_str pa_nil))))))))) (pe_op op_mod (pe_op op_fdiv (pv 4) pe_int) pe_int) (fun _ _ => rfl)) pa_nil)))
          (pss_one (ps_set (i := 4) scLaw.nd rfl (.inl rfl) (pe_op op_fdiv (pv 4) pe_int)))))
        (pss_one (ps_expr (pe_bm PySem.F.plainAttrs_list PySem.F.slot_list_append PySem.F.type_list_append mt_append (pv 3) (pa_cons (pe_join pe_str (pv 8)) pa_nil)))))))
      (pss_cons (ps_for PassesOwn.never rfl (pi_list (pv 3)) (pg_name (i := 5) scLaw.nd rfl (.inl rfl))
        (pss_cons (ps_set (i := 10) scLaw.nd rfl (.inl rfl) (pe_c CLawLanding (hr.mono (by omega)) (pa_cons (pv 2) (pa_cons (pv 5) pa_nil))))
        (pss_cons (ps_set (i := 11) scLaw.nd rfl (.inl rfl) (pe_c CLawTold (hr.mono (by omega)) (pa_cons (pv 2) (pa_cons (pv 5) pa_nil))))
        (pss_one (ps_if (pt_cmpR op_in_seq (pv 10) (pe_tupU (pa_cons pe_str (pa_cons pe_str (pa_cons pe_str (pa_cons pe_str pa_nil))))) (by rfl))
          (pss_one (ps_if (pt_cmpR (op_neD hr.units) (pv 11) (pv 10) (nomark _))
            (pss_one (ps_ret pe_bl))
            pss_nil))
          (pss_cons (ps_if (PW.pt (pw_or (pt_not (pt_val (pe_callB call_isi (by rfl) Ev.b_isinstance (by decide +kernel) (pa_cons (pv 11) (pa_cons (pe_btype (n := "tuple") (by rfl) Ev.b_tuple (by decide +kernel)) pa_nil))))) (pw_or (pt_not (pt_val (pe_callB call_isi (by rfl) Ev.b_isinstance (by decide +kernel) (pa_cons (pe_ix ix_tup (pv 11) pe_int (fun _ _ => rfl)) (pa_cons (pe_btype (n := "str") (by rfl) Ev.b_str (by decide +kernel)) pa_nil))))) (pw_or1 (pt_cmpR op_ne (pe_ix ix_tup (pv 11) pe_int (fun _ _ => rfl)) (pv 10) (nomark _))))))
            (pss_one (ps_ret pe_bl))
            pss_nil)
          (pss_one (ps_if (PW.pt (pw_and (pt_cmpR op_ne (pv 10) pe_str (nomark _)) (pw_and1 (pt_cmpR (op_neD hr.units) (pe_c CLawTold (hr.mono (by omega)) (pa_cons (pv 2) (pa_cons (pv 10) pa_nil))) (pe_tupU (pa_cons (pv 10) pa_nil)) (nomark _)))))
            (pss_one (ps_ret pe_bl))
            pss_nil))))))))
      (pss_one (ps_ret pe_bl)))))))), ?_⟩
    have size : ∀ n : Nat, n ≤ 1000 → n ≤ sizeLine := fun n h => by rw [sizeLine_eq]; omega
    have l1 : (Str.ofString "/").length = 1 := by decide +kernel
    have lq : (Str.empty ++ Str.ofString "q").length ≤ sizeLine := size _ (by decide +kernel)
    have lqk : ∀ k : Nat, 10 ≤ k → k ≤ 40 → (Str.empty ++ Str.ofString "q" ++ Str.ofString (toString (k : Int))).length ≤ sizeLine := fun k h1 h2 => by
      rw [q_str k (List.mem_range.mpr (by omega)) h1, len_mkS]
      exact size 3 (by decide)
    have eqk : ∀ k : Nat, 10 ≤ k → k ≤ 40 → V.str (Str.empty ++ Str.ofString "q" ++ Str.ofString (toString (k : Int))) = T (qT k) := fun k h1 h2 => by
      rw [q_str k (List.mem_range.mpr (by omega)) h1]
      rfl
    have lgk : ∀ k : Nat, k ≤ 40 → ((k : Int)).natAbs.log2 < 1920 := fun k h => log_q k (List.mem_range.mpr (by omega))
    refine ⟨_, rfl, a, ns, 0, rfl, hS, fun c => ?_⟩
    refine ⟨_, rfl, 5, rfl, _, rfl, c, 1, 11, rfl, by decide, by decide, by decide, fun d d0 d1 => ⟨_, _, rfl, rfl, _, rfl, a, _, rfl, hS, fun p1 n1 => ?_⟩⟩
    obtain ⟨ms, em, lm⟩ : ∃ ms : List Int, cutV (ns.map V.int) (some 5) (some (5 + d)) = ms.map V.int ∧ ms.length ≤ 11 := by
      refine ⟨(ns.drop 5).take d.toNat, ?_, by rw [List.length_take]; omega⟩
      rw [show (5 : Int) + d = ((5 + d.toNat : Nat) : Int) by omega]
      have := cut_mid ns 5 (5 + d.toNat)
      rw [Nat.add_sub_cancel_left] at this
      exact this
    rw [em]
    refine ⟨p1, ms, rfl, SqL.of upd_same, by omega, fun H1 v es s1 tk few up low dv => ?_⟩
    have sm1 : Same H H1 := (grow n1).trans s1
    dsimp only [gName]
    refine seq_by (t := tIfS _ _ _) (fun σ H' => ∃ (v : V) (es : List Ent) (y6 y7 : Option V), σ = [some (.ref a), some (.int c), some v, none, none, none, y6, y7, none, none, none, none, none] ∧ Same H H' ∧ TreeOk es ∧ (∀ e ∈ es, (splitC 47 e.path).length ≤ 4) ∧ es.length ≤ 60 ∧ Dp K H' v (dTree es)) (fun σ H2 pp => ?_) (fun go => ?_)
    case refine_2 =>
      refine ⟨_, rfl, c, 11, 4, rfl, by decide, by decide, by decide, fun d2 e0 e1 => ⟨rfl, _, rfl, ite2 (fun _ => ?_) (fun _ => ?_)⟩⟩
      case refine_2 => exact go _ _ ⟨v, es, none, none, rfl, sm1, tk, fun e he => (low e he).1, by omega, dv⟩
      refine ⟨_, rfl, c, 44, 4, rfl, by decide, by decide, by decide, fun d3 g0 g1 => ⟨_, _, rfl, rfl, ?_⟩⟩
      obtain ⟨m, emI, lm1, lm2⟩ : ∃ m : Nat, 19 + d3 = (m : Int) ∧ 19 ≤ m ∧ m ≤ 22 := ⟨(19 + d3).toNat, by omega, by omega, by omega⟩
      dsimp only
      rw [emI]
      obtain ⟨tv, xs, rfl, hx, al⟩ := dpTree dv
      have lx : xs.length = es.length := al.length
      refine ⟨_, rfl, _, _, rfl, rfl, 10, _, rfl, ⟨by decide, by decide, by omega, by omega⟩, fun D nD => ?_⟩
      rw [show ((10 : Int) + (m : Int) - 10).toNat = m by omega]
      refine lcG_rng (lo := 10) (n := m) (keep := fun _ => true) (G := fun x y H => ∃ k : Nat, 10 ≤ k ∧ k ≤ 31 ∧ x = .int (k : Int) ∧ Dp K H y (dEnt (.link (qT k) (qT (k + 1))))) nD (size _ (by omega)) rfl (fun _ => rfl) (fun x y H H' s h => ?_) (fun x y H ys zs hD h => ?_) (fun k x H2 R hx2 s2 r => r _ (Same.refl _)) (fun i x H2 R hx2 _ s2 r => ?_) (fun ys H3 alf s3 h3 => ?_)
      · obtain ⟨k, h1, h2, h3, h4⟩ := h
        exact ⟨k, h1, h2, h3, dpKeep s h4⟩
      · obtain ⟨k, h1, h2, h3, h4⟩ := h
        exact ⟨k, h1, h2, h3, dpOver (.lst hD) rfl h4⟩
      · obtain ⟨j, hj, rfl⟩ := get_map hx2
        have lj : j < m := by
          have := List.mem_range.mp (List.mem_of_getElem? hj)
          exact this
        have ek : (10 : Int) + (j : Nat) = ((10 + j : Nat) : Int) := by omega
        have ek1 : (10 : Int) + (j : Nat) + 1 = ((10 + j + 1 : Nat) : Int) := by omega
        refine ⟨_, rfl, lq, _, rfl, .inr ⟨_, rfl, by rw [ek]; exact lgk _ (by omega), _, rfl, by rw [ek]; exact lqk _ (by omega) (by omega), ?_⟩⟩
        refine ⟨_, rfl, lq, _, rfl, _, _, rfl, rfl, .inr ⟨_, rfl, by rw [ek1]; exact lgk _ (by omega), _, rfl, by rw [ek1]; exact lqk _ (by omega) (by omega), size 3 (by decide), fun H5 t5 s5 h5 => ?_⟩⟩
        refine r _ _ s5 ⟨10 + j, by omega, by omega, congrArg V.int ek, dEnt_link ?_⟩
        rw [← eqk (10 + j) (by omega) (by omega), ← eqk (10 + j + 1) (by omega) (by omega), ← ek, ← ek1]
        exact h5
      have alq : Al2 (fun e y => Dp K H3 y (dEnt e)) (qs m) ys := by
        rw [List.filter_eq_self.mpr fun _ _ => rfl] at alf
        unfold qs
        refine Al2.map (Al2.mono (fun i y h => ?_) (Al2.of_map alf))
        obtain ⟨k, h1, h2, h3, h4⟩ := h
        have : k = 10 + i := by
          have := V.int.inj h3
          omega
        subst this
        rw [show 10 + i + 1 = 11 + i by omega] at h4
        exact h4
      have ly : ys.length = m := by rw [alq.length]; unfold qs; rw [List.length_map, List.length_range]
      have hx3 := keepT s3 hx
      have al3 := al.mono (S := fun e x => Dp K H3 x (dEnt e)) fun e x d => dpKeep s3 d
      -- tuple(list(tree) + row + [('folder', ..)])
      refine ⟨_, rfl, tv, _, rfl, .inr hx3, fun pl nl => ?_⟩
      refine ⟨_, rfl, pl, D, _, _, rfl, rfl, upd_same, grow nl _ _ h3, size _ (by omega), fun pc nc => ?_⟩
      have s4 : Same H3 (upd (upd H3 pl (.lst xs)) pc (.lst (xs ++ ys))) := (grow nl).trans (grow nc)
      have h4 : (upd (upd H3 pl (.lst xs)) pc (.lst (xs ++ ys))) pc = some (.lst (xs ++ ys)) := upd_same
      generalize upd (upd H3 pl (.lst xs)) pc (.lst (xs ++ ys)) = H4 at s4 h4
      have e10 : (10 : Int) + (m : Int) = ((10 + m : Nat) : Int) := by omega
      refine ⟨_, rfl, lq, _, rfl, _, _, rfl, rfl, .inr ⟨_, rfl, by rw [e10]; exact lgk _ (by omega), _, rfl, by rw [e10]; exact lqk _ (by omega) (by omega), size 2 (by decide), fun H5 t5 s5 h5 => ?_⟩⟩
      rw [e10, show V.str (Str.empty ++ Str.ofString "q" ++ Str.ofString (toString ((10 + m : Nat) : Int))) = T (qT (10 + m)) from eqk _ (by omega) (by omega)] at h5
      refine ⟨size 1 (by decide), fun pe ne => ?_⟩
      refine ⟨pc, pe, _, _, rfl, rfl, grow ne _ _ (s5 _ _ h4), upd_same, size _ (by rw [List.length_append]; simp only [List.length_cons, List.length_nil]; omega), fun pd nd => ?_⟩
      refine ⟨pd, _, rfl, SqL.of upd_same, fun H6 t6 s6 h6 => ?_⟩
      have s56 : Same H5 H6 := ((grow ne).trans (grow nd)).trans s6
      have s36 : Same H3 H6 := s4.trans (s5.trans s56)
      have alF : Al2 (fun e x => Dp K H6 x (dEnt e)) (fullQ es m) (xs ++ ys ++ [V.ref t5]) := ((al3.mono (S := fun e x => Dp K H6 x (dEnt e)) fun e x d => dpKeep s36 d).app (alq.mono fun e x d => dpKeep s36 d)).app (.cons (dEnt_folder (keepT s56 h5)) .nil)
      have lF : (fullQ es m).length = (xs ++ ys ++ [V.ref t5]).length := alF.length.symm
      have lF2 : (xs ++ ys ++ [V.ref t5]).length ≤ 60 := by rw [List.length_append, List.length_append]; simp only [List.length_cons, List.length_nil]; omega
      have smF : ∀ e ∈ fullQ es m, ∀ t b, e = .file t b → b.length ≤ 1000 := fun e he t b z => by
        unfold fullQ at he
        rw [List.append_assoc] at he
        rcases List.mem_append.mp he with he | he
        · exact (tk.ok e he).small t b z
        · obtain ⟨k, _, _, _, h4⟩ := qs_mem he
          rcases h4 with h4 | ⟨h4, _⟩
          · rw [h4] at z; cases z
          · rw [h4] at z; cases z
      -- those below 'l', those from 'q' on
      refine ⟨_, rfl, t6, rfl, ⟨_, h6⟩, fun D1 nD1 => ?_⟩
      refine lcE_tup (es := fullQ es m) (keep := fun e => decide (e.path < [108])) (G := fun e y H => Dp K H y (dEnt e)) lF nD1 h6 (size _ (by omega)) (fun _ => rfl) (fun e y H H' s d => dpKeep s d) (fun e y H ys zs he hD d => dpOver (.lst hD) (dEnt_ok (smF e he)).1 d) (fun i e x H7 R he hx7 s7 r7 => ?_) (fun i e x H7 R he hx7 _ s7 r7 => ⟨_, rfl, r7 _ _ (Same.refl _) (dpKeep s7 (alF.at he hx7))⟩) (fun ys1 H7 alf1 s7 h7 => ?_)
      · obtain ⟨u, us, rfl, hu, u0, u1⟩ := dpWord (dpKeep s7 (alF.at he hx7))
        exact ⟨_, rfl, u, us, 1, _, rfl, rfl, hu, at_ofA (j := 1) rfl u1, mkS e.path, mkS [108], rfl, congrArg V.str (show Str.ofString "l" = mkS [108] by decide +kernel), _, rfl, r7 _ (Same.refl _)⟩
      refine ⟨_, rfl, t6, rfl, ⟨_, keepT s7 h6⟩, fun D2 nD2 => ?_⟩
      refine lcE_tup (es := fullQ es m) (keep := fun e => !decide (e.path < [113])) (G := fun e y H => Dp K H y (dEnt e)) lF nD2 (keepT s7 h6) (size _ (by omega)) (fun _ => rfl) (fun e y H H' s d => dpKeep s d) (fun e y H ys zs he hD d => dpOver (.lst hD) (dEnt_ok (smF e he)).1 d) (fun i e x H8 R he hx8 s8 r8 => ?_) (fun i e x H8 R he hx8 _ s8 r8 => ⟨_, rfl, r8 _ _ (Same.refl _) (dpKeep (s7.trans s8) (alF.at he hx8))⟩) (fun ys2 H8 alf2 s8 h8 => ?_)
      · obtain ⟨u, us, rfl, hu, u0, u1⟩ := dpWord (dpKeep (s7.trans s8) (alF.at he hx8))
        exact ⟨_, rfl, u, us, 1, _, rfl, rfl, hu, at_ofA (j := 1) rfl u1, mkS e.path, mkS [113], rfl, congrArg V.str (show Str.ofString "q" = mkS [113] by decide +kernel), _, rfl, r8 _ (Same.refl _)⟩
      have l1y : ys1.length ≤ 60 := by rw [alf1.length]; exact Nat.le_trans (List.length_filter_le ..) (by omega)
      have l2y : ys2.length ≤ 60 := by rw [alf2.length]; exact Nat.le_trans (List.length_filter_le ..) (by omega)
      refine ⟨D1, D2, _, _, rfl, rfl, s8 _ _ h7, h8, size _ (by omega), fun p9 n9 => ?_⟩
      refine ⟨p9, _, rfl, SqL.of upd_same, fun H9 t9 s9 h9 => ?_⟩
      have s89 : Same H8 H9 := (grow n9).trans s9
      obtain ⟨tq, lowq, fewq⟩ := treeQ_ok (m := m) tk few up low lm2
      exact go _ _ ⟨.ref t9, treeQ es m, _, _, rfl, sm1.trans (s3.trans (s36.trans (s7.trans (s8.trans s89)))), tq, lowq, fewq, dpTreeOf h9 ((alf1.mono fun e x d => dpKeep (s8.trans s89) d).app (alf2.mono fun e x d => dpKeep s89 d))⟩
    clear tk few up low dv sm1 s1
    obtain ⟨v, es, y6, y7, rfl, sm2, tk, low, few, dv⟩ := pp
    obtain ⟨tv, xs, rfl, hx, al⟩ := dpTree dv
    have lx : es.length = xs.length := al.length.symm
    have al' : ∀ {Hx : Hp}, Same H2 Hx → ∀ {i : Nat} {e : Ent} {x : V}, es[i]? = some e → xs[i]? = some x → ∃ t us, x = .ref t ∧ SqT K Hx t us ∧ us[1]? = some (T e.path) := fun {Hx} s {i e x} he hx => by
      obtain ⟨u, us, rfl, hu, u0, u1⟩ := dpWord (dpKeep s (al.at he hx))
      exact ⟨u, us, rfl, hu, u1⟩
    refine ⟨_, rfl, tv, rfl, ⟨_, hx⟩, fun D1 nD1 => ?_⟩
    refine lcE_tup (es := es) (keep := fun _ => true) (G := fun e y _ => y = T e.path) lx nD1 hx (size _ (by omega)) (fun _ => rfl) (fun _ _ _ _ _ h => h) (fun _ _ _ _ _ _ _ h => h) (fun i e x H3 R he hx3 s3 r3 => r3 _ (Same.refl _)) (fun i e x H3 R he hx3 _ s3 r3 => ?_) (fun ys1 H3 alf1 s3 h3 => ?_)
    · obtain ⟨u, us, rfl, hu, u1⟩ := al' s3 he hx3
      exact ⟨_, rfl, u, us, 1, _, rfl, rfl, hu, at_ofA (j := 1) rfl u1, r3 _ _ (Same.refl _) rfl⟩
    rw [List.filter_eq_self.mpr fun _ _ => rfl] at alf1
    have ey1 := (alf1.mono (S := fun (e : Ent) y => y = T e.path) fun _ _ h => h).eq_map (f := fun e : Ent => T e.path)
    subst ey1
    refine ⟨_, rfl, tv, rfl, ⟨_, keepT s3 hx⟩, fun D2 nD2 => ?_⟩
    refine lcE_tup (es := es) (keep := fun _ => true) (G := fun e y _ => y = T (e.path ++ [47, 97])) lx nD2 (keepT s3 hx) (size _ (by omega)) (fun _ => rfl) (fun _ _ _ _ _ h => h) (fun _ _ _ _ _ _ _ h => h) (fun i e x H4 R he hx4 s4 r4 => r4 _ (Same.refl _)) (fun i e x H4 R he hx4 _ s4 r4 => ?_) (fun ys2 H4 alf2 s4 h4 => ?_)
    · obtain ⟨u, us, rfl, hu, u1⟩ := al' (s3.trans s4) he hx4
      have pe := ((tk.ok e (List.mem_of_getElem? he)).path).len
      refine ⟨_, rfl, u, us, 1, _, rfl, rfl, hu, at_ofA (j := 1) rfl u1, mkS e.path, mkS [47, 97], rfl, congrArg V.str (show Str.ofString "/a" = mkS [47, 97] by decide +kernel), size _ (by rw [len_mkS, len_mkS]; simp only [List.length_cons, List.length_nil]; omega), r4 _ _ (Same.refl _) ?_⟩
      rw [mkS_app]
      rfl
    rw [List.filter_eq_self.mpr fun _ _ => rfl] at alf2
    have ey2 := (alf2.mono (S := fun (e : Ent) y => y = T (e.path ++ [47, 97])) fun _ _ h => h).eq_map (f := fun e : Ent => T (e.path ++ [47, 97]))
    subst ey2
    refine ⟨D1, D2, _, _, rfl, rfl, s4 _ _ h3, h4, size _ (by rw [List.length_map, List.length_map]; omega), fun pw npw => ?_⟩
    have s24 : Same H2 H4 := s3.trans s4
    obtain ⟨ws0, ew0, lw0, pw0⟩ : ∃ ws : List (List Nat), es.map (fun e => T e.path) ++ es.map (fun e => T (e.path ++ [47, 97])) = ws.map T ∧ ws.length ≤ 120 ∧ ∀ t ∈ ws, PathT t := by
      refine ⟨es.map Ent.path ++ es.map (fun e => e.path ++ [47, 97]), ?_, by rw [List.length_append, List.length_map, List.length_map]; omega, fun t ht => ?_⟩
      · rw [List.map_append, List.map_map, List.map_map]
        rfl
      · rcases List.mem_append.mp ht with ht | ht
        · obtain ⟨e, he, rfl⟩ := List.mem_map.mp ht
          exact (tk.ok e he).path
        · obtain ⟨e, he, rfl⟩ := List.mem_map.mp ht
          exact way_more (tk.ok e he).path (low e he)
    rw [ew0]
    have s5 : Same H4 (upd H4 pw (.lst (ws0.map T))) := grow npw
    have h5 : (upd H4 pw (.lst (ws0.map T))) pw = some (.lst (ws0.map T)) := upd_same
    generalize upd H4 pw (.lst (ws0.map T)) = H5 at s5 h5
    have hS5 := (sm2.trans (s24.trans s5)).seq hS
    dsimp only [gName]
    refine ⟨_, rfl, 1, rfl, 5, rfl, a, _, rfl, hS5, fun p3 n3 => ?_⟩
    obtain ⟨ks, ek, lk⟩ := cut_some ns (some 1) (some 5)
    rw [ek]
    have ne3 : p3 ≠ pw := fun e => by
      rw [e, h5] at n3
      cases n3
    have s6 : Same H5 (upd H5 p3 (.lst (ks.map V.int))) := grow n3
    have h63 : (upd H5 p3 (.lst (ks.map V.int))) p3 = some (.lst (ks.map V.int)) := upd_same
    generalize upd H5 p3 (.lst (ks.map V.int)) = H6 at s6 h63
    refine ⟨p3, rfl, ⟨_, SqL.of h63⟩, for_list (xs := ks.map V.int) (fun i σ H' => ∃ (ws : List (List Nat)) (y4 y8 y9 : Option V), σ = [some (.ref a), some (.int c), some (.ref tv), some (.ref pw), y4, none, y6, y7, y8, y9, none, none, none] ∧ Same H4 H' ∧ H' pw = some (.lst (ws.map T)) ∧ H' p3 = some (.lst (ks.map V.int)) ∧ ws.length ≤ 120 + i ∧ ∀ t ∈ ws, PathT t)
      ⟨ws0, none, none, none, rfl, s5.trans s6, s6 _ _ h5, h63, lw0, pw0⟩ (fun i σ H' _ p => ?_) (fun i x σ H7 hx7 p => ?_) (fun σ H7 p => ?_)⟩
    · obtain ⟨_, _, _, _, _, _, _, e, _⟩ := p
      exact SqL.of e
    · obtain ⟨ws, y4, y8, y9, rfl, sm7, hw7, h37, lw, pws⟩ := p
      obtain ⟨n, hn, rfl⟩ := got hx7
      have li : i < ks.length := (List.getElem?_eq_some_iff.mp hn).1
      refine ⟨Nat.zero_le _, fun p4 n4 => ?_⟩
      have ne4 : p4 ≠ pw := fun e => by
        rw [e, hw7] at n4
        cases n4
      have nm0 := Int.emod_nonneg n (show (4 : Int) ≠ 0 by decide)
      have nm1 := Int.emod_lt_of_pos n (show (0 : Int) < 4 by decide)
      obtain ⟨cnt, ec, lc1, lc2⟩ : ∃ cnt : Nat, n % 4 + 1 = (cnt : Int) ∧ 1 ≤ cnt ∧ cnt ≤ 4 := ⟨(n % 4 + 1).toNat, by omega, by omega, by omega⟩
      refine ⟨_, rfl, _, 4, rfl, rfl, (show (0 : Int) < 4 by decide), _, _, rfl, rfl, _, rfl, by omega, by omega, ?_⟩
      rw [show (n % 4 + 1).toNat = cnt by omega]
      refine for_range (lo := 0) (n := cnt) (fun k σ H' => ∃ (ps : List (List Nat)) (n2 : Int) (y9 : Option V), σ = [some (.ref a), some (.int c), some (.ref tv), some (.ref pw), some (.int n2), none, y6, y7, some (.ref p4), y9, none, none, none] ∧ Same H7 H' ∧ H' p4 = some (.lst (ps.map T)) ∧ ps.length = k ∧ ∀ p ∈ ps, partOk p)
        ⟨[], n, _, rfl, grow n4, upd_same, rfl, fun p hp => by cases hp⟩ (fun k σ H8 hk p => ?_) (fun σ H8 p => ?_)
      · obtain ⟨ps, n2, y9, rfl, sm8, h84, lps, gps⟩ := p
        refine ⟨_, rfl, .inl ⟨rfl, _, SqL.of h84⟩, size 8 (by decide), fun p9 n9 => ?_⟩
        have q0 := Int.emod_nonneg (n2 / 4) (show (8 : Int) ≠ 0 by decide)
        have q1 := Int.emod_lt_of_pos (n2 / 4) (show (0 : Int) < 8 by decide)
        obtain ⟨pt, apt, gpt⟩ := eight_qs q0 q1
        have s9 := grow (o := .lst [V.str "l", .str "a", .str "m", .str "b", .str "n", .str "c", .str "z", .str "q10"]) n9
        refine ⟨_, rfl, _, 4, rfl, rfl, ⟨by decide, by decide⟩, _, 8, rfl, rfl, (show (0 : Int) < 8 by decide), p9, _, _, _, rfl, rfl, SqL.of upd_same, apt, p4, _, _, rfl, rfl, s9 _ _ h84, by rw [List.length_map, sizeLine_eq]; omega, ?_⟩
        refine ⟨_, rfl, _, 8, rfl, rfl, ⟨by decide, by decide⟩, ps ++ [pt], _, _, rfl, keep_lst (sm8.trans s9) n4, ?_, ?_, ?_⟩
        · rw [upd_same, List.map_append]; rfl
        · rw [List.length_append]; simp only [List.length_cons, List.length_nil]; omega
        · intro p hp
          rcases List.mem_append.mp hp with hp | hp
          · exact gps p hp
          · rw [List.mem_singleton.mp hp]; exact gpt
      · obtain ⟨ps, n2, y9, rfl, sm8, h84, lps, gps⟩ := p
        have hw8 := sm8 _ _ hw7
        have szs := sum_sizes (m := 12) ps fun p hp => (gps p hp).2.1
        refine ⟨_, rfl, .inl ⟨rfl, _, SqL.of hw8⟩, ⟨_, rfl⟩, _, rfl, Str.ofString "/", p4, ps.map mkS, rfl, rfl, .inl (by rw [mapT]; exact SqL.of h84), by rw [l1, List.length_map]; omega, ?_⟩
        rw [s_slash, join_mkS]
        refine ⟨pw, _, _, rfl, rfl, hw8, by rw [List.length_map, sizeLine_eq]; omega, ws ++ [joinC 47 ps], _, _, _, rfl, keep_lst (sm7.trans sm8) npw, ?_, ?_, ?_, ?_⟩
        · rw [upd_same, List.map_append]; rfl
        · rw [upd_ne ne3]
          exact sm8 _ _ h37
        · rw [List.length_append]; simp only [List.length_cons, List.length_nil]; omega
        · intro t ht
          rcases List.mem_append.mp ht with ht | ht
          · exact pws t ht
          · rw [List.mem_singleton.mp ht]
            exact way_of (fun e => by rw [e] at lps; simp at lps; omega) (by omega) gps
    · obtain ⟨ws, y4, y8, y9, rfl, sm7, hw7, h37, lw, pws⟩ := p
      rw [List.length_map] at lw
      have dv7 := dpKeep (s24.trans sm7) dv
      refine ⟨_, rfl, pw, rfl, ⟨_, SqL.of hw7⟩, for_list (xs := ws.map T) (fun i σ H' => ∃ (y5 y10 y11 : Option V), σ = [some (.ref a), some (.int c), some (.ref tv), some (.ref pw), y4, y5, y6, y7, y8, y9, y10, y11, none] ∧ Same H7 H')
        ⟨none, none, none, rfl, Same.refl _⟩ (fun i σ H' _ p => ?_) (fun i x σ H8 hx8 p => ?_) (fun σ H8 p => q _)⟩
      · obtain ⟨_, _, _, _, e⟩ := p
        exact SqL.of (e _ _ hw7)
      · obtain ⟨y5, y10, y11, rfl, sm8⟩ := p
        obtain ⟨t, ht, rfl⟩ := get_map hx8
        have pt : PathT t := pws t (List.mem_of_getElem? ht)
        refine ⟨_, rfl, _, rfl, .ref tv, es, t, rfl, dpKeep sm8 dv7, tk, pt, fun H9 s9 => ?_⟩
        refine ⟨_, rfl, _, rfl, .ref tv, es, t, rfl, dpKeep (sm8.trans s9) dv7, tk, pt, fun Ha u sa su => ?_⟩
        have sma : Same H7 Ha := sm8.trans (s9.trans sa)
        refine ⟨_, rfl, size 4 (by decide), fun Hb tb sb hb => ⟨tb, _, rfl, .inr hb, ?_, rfl, _, rfl, ?_⟩⟩
        · cases landF es t <;> rfl
        have smb : Same H7 Hb := sma.trans sb
        cases er : landF es t with
        | ok z =>
          rw [er] at su
          obtain ⟨tu, rfl, hu⟩ := su
          have zp := landF_parts tk pt er
          have hub := keepT sb hu
          refine iteNW (words_in zp) ?_
          have end_ : EndAt es z := land_end es 20 0 [] (splitC 47 t) z (by omega) (Fold.nil es) er
          refine ⟨.ref tu, rfl, _, _, _, _, true, rfl, .ty "tuple", ty_tup hub, k_tt, true, rfl, iteF ?_⟩
          refine ⟨_, rfl, tu, _, 0, _, rfl, rfl, hub, at_ofA (j := 0) rfl rfl, _, _, _, _, true, rfl, .ty "str", .base (.str _), k_ss, true, rfl, iteF ?_⟩
          refine ⟨_, rfl, tu, _, 0, _, rfl, rfl, hub, at_ofA (j := 0) rfl rfl, _, rfl, rfl, _, rfl, iteNW (by show (!decide (T (pathOf z) = T (pathOf z))) = false; rw [decide_eq_true rfl]; rfl) ?_⟩
          refine ⟨_, rfl, rfl, _, rfl, ite2 (fun y => ?_) (fun y => iteF ⟨_, _, _, rfl, smb⟩)⟩
          have nz : z ≠ [] := fun k => by
            rw [k, show landV (LRes.ok []) = V.str (Str.ofString "") from t_none.symm, decide_eq_true rfl] at y
            cases y
          have e2 : landF es (pathOf z) = .ok z := by
            unfold landF
            rw [split_parts nz zp]
            exact land_again end_
          refine ⟨_, rfl, _, rfl, .ref tv, es, pathOf z, rfl, dpKeep smb dv7, tk, end_path tk end_ nz, fun Hc u2 sc su2 => ?_⟩
          rw [e2] at su2
          obtain ⟨tu2, rfl, hu2⟩ := su2
          have shz := shape_one (path_small zp)
          refine ⟨_, rfl, size 1 (by decide), fun Hd td sd hd => ⟨.tuple [.str (mkS (pathOf z))], .tuple [.str (mkS (pathOf z))], .tup (keepT sd hu2) (.cons (.str _) .nil), .tup hd (.cons (.str _) .nil), shz, shz, _, rfl, iteNW (by rw [eqv_one]; rfl) ⟨_, _, _, rfl, smb.trans (sc.trans sd)⟩⟩⟩
        | out =>
          rw [er] at su
          subst su
          refine iteW (by decide +kernel) ?_
          exact ⟨_, rfl, _, rfl, _, _, .str _, .str _, (by decide +kernel), (by decide +kernel), _, rfl, iteNW (by rw [eqv_str]; rfl) ⟨_, _, _, rfl, smb⟩⟩
        | noEntry =>
          rw [er] at su
          subst su
          refine iteW (by decide +kernel) ?_
          exact ⟨_, rfl, _, rfl, _, _, .str _, .str _, (by decide +kernel), (by decide +kernel), _, rfl, iteNW (by rw [eqv_str]; rfl) ⟨_, _, _, rfl, smb⟩⟩
        | notFolder =>
          rw [er] at su
          subst su
          refine iteW (by decide +kernel) ?_
          exact ⟨_, rfl, _, rfl, _, _, .str _, .str _, (by decide +kernel), (by decide +kernel), _, rfl, iteNW (by rw [eqv_str]; rfl) ⟨_, _, _, rfl, smb⟩⟩
        | tooFar =>
          rw [er] at su
          subst su
          refine iteW (by decide +kernel) ?_
          exact ⟨_, rfl, _, rfl, _, _, .str _, .str _, (by decide +kernel), (by decide +kernel), _, rfl, iteNW (by rw [eqv_str]; rfl) ⟨_, _, _, rfl, smb⟩⟩

end
theorem all_mk {l : PySem.W.OpenLaw} {w : World} {K : PySem.W.Frag} {h : Heap} {mg : Str → Option Value} {fa fn0 fn1 fn2 fn3 fn4 fn5 fn6 fn7 fn8 fn9 fn10 : Addr} (X : K.In h) (G : h.Ns mainGlobals mg) (hfa : mg "law" = some (.ref fa))
    {od0 an0 od1 an1 od2 an2 od3 an3 od4 an4 od5 an5 od6 an6 od7 an7 od8 an8 od9 an9 od10 an10 : Option Addr} {sl0 sl1 sl2 sl3 sl4 sl5 sl6 sl7 sl8 sl9 sl10 : Array (Option Value)} {oc0 kV0 dc0 pm0 cd0 ct0 oc1 kV1 dc1 pm1 cd1 ct1 oc2 kV2 dc2 pm2 cd2 ct2 oc3 kV3 dc3 pm3 cd3 ct3 oc4 kV4 dc4 pm4 cd4 ct4 oc5 kV5 dc5 pm5 cd5 ct5 oc6 kV6 dc6 pm6 cd6 ct6 oc7 kV7 dc7 pm7 cd7 ct7 oc8 kV8 dc8 pm8 cd8 ct8 oc9 kV9 dc9 pm9 cd9 ct9 oc10 kV10 dc10 pm10 cd10 ct10 : Value} {t_MOST_LINKS : Tok} {e_LeadsOut : Addr} {e_NoEntry : Addr} {e_NotFolder : Addr} {e_TooFar : Addr}
    (a0 : PySem.W.nsIn K mainGlobals "parts_of" = some (some (.ref fn0))) (l0 : K.lookup fn0 = some ⟨oc0, od0, .func (PySem.W.fnOf "parts_of" "parts_of" (defArgs sPartsOf) (defBody sPartsOf) (defScope sPartsOf) .none kV0 dc0 pm0 an0 cd0 ct0), sl0⟩) (c0 : PySem.W.codeIn K cd0 "parts_of" = true) (k0 : PySem.W.keepIn K (.ref fn0) = true)
    (a1 : PySem.W.nsIn K mainGlobals "by_path" = some (some (.ref fn1))) (l1 : K.lookup fn1 = some ⟨oc1, od1, .func (PySem.W.fnOf "by_path" "by_path" (defArgs sByPath) (defBody sByPath) (defScope sByPath) .none kV1 dc1 pm1 an1 cd1 ct1), sl1⟩) (c1 : PySem.W.codeIn K cd1 "by_path" = true) (k1 : PySem.W.keepIn K (.ref fn1) = true)
    (a2 : PySem.W.nsIn K mainGlobals "folder_above" = some (some (.ref fn2))) (l2 : K.lookup fn2 = some ⟨oc2, od2, .func (PySem.W.fnOf "folder_above" "folder_above" (defArgs sFolderAbove) (defBody sFolderAbove) (defScope sFolderAbove) .none kV2 dc2 pm2 an2 cd2 ct2), sl2⟩) (c2 : PySem.W.codeIn K cd2 "folder_above" = true) (k2 : PySem.W.keepIn K (.ref fn2) = true)
    (a3 : PySem.W.nsIn K mainGlobals "entry_at" = some (some (.ref fn3))) (l3 : K.lookup fn3 = some ⟨oc3, od3, .func (PySem.W.fnOf "entry_at" "entry_at" (defArgs sEntryAt) (defBody sEntryAt) (defScope sEntryAt) .none kV3 dc3 pm3 an3 cd3 ct3), sl3⟩) (c3 : PySem.W.codeIn K cd3 "entry_at" = true) (k3 : PySem.W.keepIn K (.ref fn3) = true)
    (a4 : PySem.W.nsIn K mainGlobals "landing" = some (some (.ref fn4))) (l4 : K.lookup fn4 = some ⟨oc4, od4, .func (PySem.W.fnOf "landing" "landing" (defArgs sLanding) (defBody sLanding) (defScope sLanding) .none kV4 dc4 pm4 an4 cd4 ct4), sl4⟩) (c4 : PySem.W.codeIn K cd4 "landing" = true) (k4 : PySem.W.keepIn K (.ref fn4) = true)
    (a5 : PySem.W.nsIn K mainGlobals "_law_d" = some (some (.ref fn5))) (l5 : K.lookup fn5 = some ⟨oc5, od5, .func (PySem.W.fnOf "_law_d" "_law_d" (defArgs sLawD) (defBody sLawD) (defScope sLawD) .none kV5 dc5 pm5 an5 cd5 ct5), sl5⟩) (c5 : PySem.W.codeIn K cd5 "_law_d" = true) (k5 : PySem.W.keepIn K (.ref fn5) = true)
    (a6 : PySem.W.nsIn K mainGlobals "_law_cell" = some (some (.ref fn6))) (l6 : K.lookup fn6 = some ⟨oc6, od6, .func (PySem.W.fnOf "_law_cell" "_law_cell" (defArgs sLawCell) (defBody sLawCell) (defScope sLawCell) .none kV6 dc6 pm6 an6 cd6 ct6), sl6⟩) (c6 : PySem.W.codeIn K cd6 "_law_cell" = true) (k6 : PySem.W.keepIn K (.ref fn6) = true)
    (a7 : PySem.W.nsIn K mainGlobals "_law_web" = some (some (.ref fn7))) (l7 : K.lookup fn7 = some ⟨oc7, od7, .func (PySem.W.fnOf "_law_web" "_law_web" (defArgs sLawWeb) (defBody sLawWeb) (defScope sLawWeb) .none kV7 dc7 pm7 an7 cd7 ct7), sl7⟩) (c7 : PySem.W.codeIn K cd7 "_law_web" = true) (k7 : PySem.W.keepIn K (.ref fn7) = true)
    (a8 : PySem.W.nsIn K mainGlobals "_law_landing" = some (some (.ref fn8))) (l8 : K.lookup fn8 = some ⟨oc8, od8, .func (PySem.W.fnOf "_law_landing" "_law_landing" (defArgs sLawLanding) (defBody sLawLanding) (defScope sLawLanding) .none kV8 dc8 pm8 an8 cd8 ct8), sl8⟩) (c8 : PySem.W.codeIn K cd8 "_law_landing" = true) (k8 : PySem.W.keepIn K (.ref fn8) = true)
    (a9 : PySem.W.nsIn K mainGlobals "_law_told" = some (some (.ref fn9))) (l9 : K.lookup fn9 = some ⟨oc9, od9, .func (PySem.W.fnOf "_law_told" "_law_told" (defArgs sLawTold) (defBody sLawTold) (defScope sLawTold) .none kV9 dc9 pm9 an9 cd9 ct9), sl9⟩) (c9 : PySem.W.codeIn K cd9 "_law_told" = true) (k9 : PySem.W.keepIn K (.ref fn9) = true)
    (a10 : PySem.W.nsIn K mainGlobals "law" = some (some (.ref fn10))) (l10 : K.lookup fn10 = some ⟨oc10, od10, .func (PySem.W.fnOf "law" "law" (defArgs sLaw) (defBody sLaw) (defScope sLaw) .none kV10 dc10 pm10 an10 cd10 ct10), sl10⟩) (c10 : PySem.W.codeIn K cd10 "law" = true) (k10 : PySem.W.keepIn K (.ref fn10) = true)
    (z_isinstance : PySem.W.nsIn K mainGlobals "isinstance" = some none)
    (z_len : PySem.W.nsIn K mainGlobals "len" = some none)
    (z_list : PySem.W.nsIn K mainGlobals "list" = some none)
    (z_range : PySem.W.nsIn K mainGlobals "range" = some none)
    (z_sorted : PySem.W.nsIn K mainGlobals "sorted" = some none)
    (z_str : PySem.W.nsIn K mainGlobals "str" = some none)
    (z_tuple : PySem.W.nsIn K mainGlobals "tuple" = some none)
    (g_MOST_LINKS : PySem.W.nsIn K mainGlobals "MOST_LINKS" = some (some (.int 20 t_MOST_LINKS)))
    (ea_LeadsOut : PySem.W.nsIn K mainGlobals "LeadsOut" = some (some (.ref e_LeadsOut))) (ex_LeadsOut : PySem.W.excIn K e_LeadsOut veMro "ValueError.__new__" = true) (ek_LeadsOut : PySem.W.keepIn K (.ref e_LeadsOut) = true) (es_LeadsOut : PySem.W.subIn K (.ref e_LeadsOut) (.type "BaseException") = some true) (et_LeadsOut : PySem.W.typeIn K (.ref e_LeadsOut) = some (.type "type")) (ei_LeadsOut : PySem.W.isClsIn K e_LeadsOut = true)
    (ea_NoEntry : PySem.W.nsIn K mainGlobals "NoEntry" = some (some (.ref e_NoEntry))) (ex_NoEntry : PySem.W.excIn K e_NoEntry veMro "ValueError.__new__" = true) (ek_NoEntry : PySem.W.keepIn K (.ref e_NoEntry) = true) (es_NoEntry : PySem.W.subIn K (.ref e_NoEntry) (.type "BaseException") = some true) (et_NoEntry : PySem.W.typeIn K (.ref e_NoEntry) = some (.type "type")) (ei_NoEntry : PySem.W.isClsIn K e_NoEntry = true)
    (ea_NotFolder : PySem.W.nsIn K mainGlobals "NotFolder" = some (some (.ref e_NotFolder))) (ex_NotFolder : PySem.W.excIn K e_NotFolder veMro "ValueError.__new__" = true) (ek_NotFolder : PySem.W.keepIn K (.ref e_NotFolder) = true) (es_NotFolder : PySem.W.subIn K (.ref e_NotFolder) (.type "BaseException") = some true) (et_NotFolder : PySem.W.typeIn K (.ref e_NotFolder) = some (.type "type")) (ei_NotFolder : PySem.W.isClsIn K e_NotFolder = true)
    (ea_TooFar : PySem.W.nsIn K mainGlobals "TooFar" = some (some (.ref e_TooFar))) (ex_TooFar : PySem.W.excIn K e_TooFar veMro "ValueError.__new__" = true) (ek_TooFar : PySem.W.keepIn K (.ref e_TooFar) = true) (es_TooFar : PySem.W.subIn K (.ref e_TooFar) (.type "BaseException") = some true) (et_TooFar : PySem.W.typeIn K (.ref e_TooFar) = some (.type "type")) (ei_TooFar : PySem.W.isClsIn K e_TooFar = true)
    (ep_LeadsOut_LeadsOut : PySem.W.subIn K (.ref e_LeadsOut) (.ref e_LeadsOut) = some true)
    (ep_LeadsOut_NoEntry : PySem.W.subIn K (.ref e_LeadsOut) (.ref e_NoEntry) = some false)
    (ep_LeadsOut_NotFolder : PySem.W.subIn K (.ref e_LeadsOut) (.ref e_NotFolder) = some false)
    (ep_LeadsOut_TooFar : PySem.W.subIn K (.ref e_LeadsOut) (.ref e_TooFar) = some false)
    (ep_NoEntry_LeadsOut : PySem.W.subIn K (.ref e_NoEntry) (.ref e_LeadsOut) = some false)
    (ep_NoEntry_NoEntry : PySem.W.subIn K (.ref e_NoEntry) (.ref e_NoEntry) = some true)
    (ep_NoEntry_NotFolder : PySem.W.subIn K (.ref e_NoEntry) (.ref e_NotFolder) = some false)
    (ep_NoEntry_TooFar : PySem.W.subIn K (.ref e_NoEntry) (.ref e_TooFar) = some false)
    (ep_NotFolder_LeadsOut : PySem.W.subIn K (.ref e_NotFolder) (.ref e_LeadsOut) = some false)
    (ep_NotFolder_NoEntry : PySem.W.subIn K (.ref e_NotFolder) (.ref e_NoEntry) = some false)
    (ep_NotFolder_NotFolder : PySem.W.subIn K (.ref e_NotFolder) (.ref e_NotFolder) = some true)
    (ep_NotFolder_TooFar : PySem.W.subIn K (.ref e_NotFolder) (.ref e_TooFar) = some false)
    (ep_TooFar_LeadsOut : PySem.W.subIn K (.ref e_TooFar) (.ref e_LeadsOut) = some false)
    (ep_TooFar_NoEntry : PySem.W.subIn K (.ref e_TooFar) (.ref e_NoEntry) = some false)
    (ep_TooFar_NotFolder : PySem.W.subIn K (.ref e_TooFar) (.ref e_NotFolder) = some false)
    (ep_TooFar_TooFar : PySem.W.subIn K (.ref e_TooFar) (.ref e_TooFar) = some true) :
    ∃ fd : FuncData, (∀ (s : Shared) (v : Value), BindsTo s fd ⟨[v], []⟩ [("_law_script", v)]) ∧ ∀ base : Heap, K.In base → base.Ns mainGlobals mg → FnOk l.prog w K mg base CX0 5 fa fd ["_law_script"] (spLaw K) := by
  have e := hfa.symm.trans (PySem.W.mg_of X G a10)
  cases e
  have Ev : Env K mg := ⟨PySem.W.mg_none_of X G z_isinstance, PySem.W.mg_none_of X G z_len, PySem.W.mg_none_of X G z_list, PySem.W.mg_none_of X G z_range, PySem.W.mg_none_of X G z_sorted, PySem.W.mg_none_of X G z_str, PySem.W.mg_none_of X G z_tuple, ⟨_, PySem.W.mg_of X G g_MOST_LINKS⟩⟩
  have X_LeadsOut : Exc K mg "LeadsOut" e_LeadsOut := ⟨PySem.W.mg_of X G ea_LeadsOut, ex_LeadsOut, ek_LeadsOut, es_LeadsOut, et_LeadsOut, ei_LeadsOut⟩
  have X_NoEntry : Exc K mg "NoEntry" e_NoEntry := ⟨PySem.W.mg_of X G ea_NoEntry, ex_NoEntry, ek_NoEntry, es_NoEntry, et_NoEntry, ei_NoEntry⟩
  have X_NotFolder : Exc K mg "NotFolder" e_NotFolder := ⟨PySem.W.mg_of X G ea_NotFolder, ex_NotFolder, ek_NotFolder, es_NotFolder, et_NotFolder, ei_NotFolder⟩
  have X_TooFar : Exc K mg "TooFar" e_TooFar := ⟨PySem.W.mg_of X G ea_TooFar, ex_TooFar, ek_TooFar, es_TooFar, et_TooFar, ei_TooFar⟩
  have Ex : Excs K mg e_LeadsOut e_NoEntry e_NotFolder e_TooFar := ⟨X_LeadsOut, X_NoEntry, X_NotFolder, X_TooFar, caught X_LeadsOut ep_LeadsOut_LeadsOut, caught X_NoEntry ep_LeadsOut_NoEntry, caught X_NotFolder ep_LeadsOut_NotFolder, caught X_TooFar ep_LeadsOut_TooFar, caught X_LeadsOut ep_NoEntry_LeadsOut, caught X_NoEntry ep_NoEntry_NoEntry, caught X_NotFolder ep_NoEntry_NotFolder, caught X_TooFar ep_NoEntry_TooFar, caught X_LeadsOut ep_NotFolder_LeadsOut, caught X_NoEntry ep_NotFolder_NoEntry, caught X_NotFolder ep_NotFolder_NotFolder, caught X_TooFar ep_NotFolder_TooFar, caught X_LeadsOut ep_TooFar_LeadsOut, caught X_NoEntry ep_TooFar_NoEntry, caught X_NotFolder ep_TooFar_NotFolder, caught X_TooFar ep_TooFar_TooFar⟩
  have F0 := fun_mk (st := sPartsOf) l0 c0 k0
  have F1 := fun_mk (st := sByPath) l1 c1 k1
  have F2 := fun_mk (st := sFolderAbove) l2 c2 k2
  have F3 := fun_mk (st := sEntryAt) l3 c3 k3
  have F4 := fun_mk (st := sLanding) l4 c4 k4
  have F5 := fun_mk (st := sLawD) l5 c5 k5
  have F6 := fun_mk (st := sLawCell) l6 c6 k6
  have F7 := fun_mk (st := sLawWeb) l7 c7 k7
  have F8 := fun_mk (st := sLawLanding) l8 c8 k8
  have F9 := fun_mk (st := sLawTold) l9 c9 k9
  have F10 := fun_mk (st := sLaw) l10 c10 k10
  refine ⟨PySem.W.fnOf "law" "law" (defArgs sLaw) (defBody sLaw) (defScope sLaw) .none kV10 dc10 pm10 an10 cd10 ct10, fun s v => .of_eq rfl, fun base _ _ => ?_⟩
  have C_0 : Cal l.prog w K mg base "parts_of" 1 ["path"] (spParts K) := ⟨_, _, ok_parts Ev  F0, PySem.W.mg_of X G a0, k0, F0.binds fun _ _ _ _ _ _ us hl => match us, hl with | [_], _ => rfl⟩
  have C_1 : Cal l.prog w K mg base "by_path" 1 ["tree"] (spBy K) := ⟨_, _, ok_by Ev  F1, PySem.W.mg_of X G a1, k1, F1.binds fun _ _ _ _ _ _ us hl => match us, hl with | [_], _ => rfl⟩
  have C_2 : CalX l.prog w K mg base "folder_above" 1 ["parts"] (spUpF K e_LeadsOut) := ⟨_, _, ok_upF Ev Ex  F2, PySem.W.mg_of X G a2, k2, F2.binds fun _ _ _ _ _ _ us hl => match us, hl with | [_], _ => rfl⟩
  have C_3 : CalX l.prog w K mg base "entry_at" 1 ["found", "parts"] (spAt K e_NoEntry) := ⟨_, _, ok_at Ev Ex  F3, PySem.W.mg_of X G a3, k3, F3.binds fun _ _ _ _ _ _ us hl => match us, hl with | [_, _], _ => rfl⟩
  have C_4 : CalX l.prog w K mg base "landing" 2 ["tree", "path"] (spLand K e_LeadsOut e_NoEntry e_NotFolder e_TooFar) := ⟨_, _, ok_land Ev Ex C_1 C_0 C_2 C_3 F4, PySem.W.mg_of X G a4, k4, F4.binds fun _ _ _ _ _ _ us hl => match us, hl with | [_, _], _ => rfl⟩
  have C_5 : Cal l.prog w K mg base "_law_d" 1 ["_law_cell_here", "_law_place", "_law_many"] spD := ⟨_, _, ok_d Ev  F5, PySem.W.mg_of X G a5, k5, F5.binds fun _ _ _ _ _ _ us hl => match us, hl with | [_, _, _], _ => rfl⟩
  have C_6 : Cal l.prog w K mg base "_law_cell" 1 ["_law_script", "_law_k"] (spCellA K) := ⟨_, _, ok_cell Ev  F6, PySem.W.mg_of X G a6, k6, F6.binds fun _ _ _ _ _ _ us hl => match us, hl with | [_, _], _ => rfl⟩
  have C_7 : Cal l.prog w K mg base "_law_web" 2 ["_law_cells"] (spWeb K) := ⟨_, _, ok_web Ev C_5 F7, PySem.W.mg_of X G a7, k7, F7.binds fun _ _ _ _ _ _ us hl => match us, hl with | [_], _ => rfl⟩
  have C_8 : Cal l.prog w K mg base "_law_landing" 1 ["_law_tree", "_law_way"] (spLandH K) := ⟨_, _, ok_landing Ev  F8, PySem.W.mg_of X G a8, k8, F8.binds fun _ _ _ _ _ _ us hl => match us, hl with | [_, _], _ => rfl⟩
  have C_9 : Cal l.prog w K mg base "_law_told" 3 ["_law_tree", "_law_way"] (spToldL K) := ⟨_, _, ok_told Ev Ex C_4 F9, PySem.W.mg_of X G a9, k9, F9.binds fun _ _ _ _ _ _ us hl => match us, hl with | [_, _], _ => rfl⟩
  exact ok_law Ev C_6 C_5 C_7 C_8 C_9 F10
end Fc
open PySem PySem.W PyProof.Rows
set_option maxHeartbeats 0 in
theorem PySem.Challenge.cw_filecrate_k20_whole_ways_over_links_holds : PySem.Challenge.rw_filecrate_k20_whole_ways_over_links.Holds := by
  w_on; o_law; k_head; (case hw => w_witness2)
  k_fill
  refine L2.walk_of (l := PySem.Challenge.rw_filecrate_k20_whole_ways_over_links) (n := 63) (k := 5) (x := "_law_script") (CX := fun _ => L2.CX0) (sp := fun w => Fc.spLaw _) rfl (by decide) rfl ⟨rfl, by decide, by decide⟩ (fun w h Y => PySem.W.kIn_of Y) ?F (fun _ _ a ns hl _ hS => ⟨a, ns, rfl, hS, hl, fun _ => rfl⟩) (fun _ _ _ _ _ h => h)
  case F =>
    intro w mg fa h KX G hmg
    refine' Fc.all_mk KX G hmg ?a0 ?l0 ?c0 ?k0 ?a1 ?l1 ?c1 ?k1 ?a2 ?l2 ?c2 ?k2 ?a3 ?l3 ?c3 ?k3 ?a4 ?l4 ?c4 ?k4 ?a5 ?l5 ?c5 ?k5 ?a6 ?l6 ?c6 ?k6 ?a7 ?l7 ?c7 ?k7 ?a8 ?l8 ?c8 ?k8 ?a9 ?l9 ?c9 ?k9 ?a10 ?l10 ?c10 ?k10 ?z_isinstance ?z_len ?z_list ?z_range ?z_sorted ?z_str ?z_tuple ?g_MOST_LINKS ?ea_LeadsOut ?ex_LeadsOut ?ek_LeadsOut ?es_LeadsOut ?et_LeadsOut ?ei_LeadsOut ?ea_NoEntry ?ex_NoEntry ?ek_NoEntry ?es_NoEntry ?et_NoEntry ?ei_NoEntry ?ea_NotFolder ?ex_NotFolder ?ek_NotFolder ?es_NotFolder ?et_NotFolder ?ei_NotFolder ?ea_TooFar ?ex_TooFar ?ek_TooFar ?es_TooFar ?et_TooFar ?ei_TooFar ?ep_LeadsOut_LeadsOut ?ep_LeadsOut_NoEntry ?ep_LeadsOut_NotFolder ?ep_LeadsOut_TooFar ?ep_NoEntry_LeadsOut ?ep_NoEntry_NoEntry ?ep_NoEntry_NotFolder ?ep_NoEntry_TooFar ?ep_NotFolder_LeadsOut ?ep_NotFolder_NoEntry ?ep_NotFolder_NotFolder ?ep_NotFolder_TooFar ?ep_TooFar_LeadsOut ?ep_TooFar_NoEntry ?ep_TooFar_NotFolder ?ep_TooFar_TooFar
    (case a0 => k_is); (case l0 => k_is); (case c0 => k_is); (case k0 => k_is); (case a1 => k_is); (case l1 => k_is); (case c1 => k_is); (case k1 => k_is); (case a2 => k_is); (case l2 => k_is); (case c2 => k_is); (case k2 => k_is); (case a3 => k_is); (case l3 => k_is); (case c3 => k_is); (case k3 => k_is); (case a4 => k_is); (case l4 => k_is); (case c4 => k_is); (case k4 => k_is); (case a5 => k_is); (case l5 => k_is); (case c5 => k_is); (case k5 => k_is); (case a6 => k_is); (case l6 => k_is); (case c6 => k_is); (case k6 => k_is); (case a7 => k_is); (case l7 => k_is); (case c7 => k_is); (case k7 => k_is); (case a8 => k_is); (case l8 => k_is); (case c8 => k_is); (case k8 => k_is); (case a9 => k_is); (case l9 => k_is); (case c9 => k_is); (case k9 => k_is); (case a10 => k_is); (case l10 => k_is); (case c10 => k_is); (case k10 => k_is); (case z_isinstance => k_is); (case z_len => k_is); (case z_list => k_is); (case z_range => k_is); (case z_sorted => k_is); (case z_str => k_is); (case z_tuple => k_is); (case g_MOST_LINKS => k_is); (case ea_LeadsOut => k_is); (case ex_LeadsOut => k_exc); (case ek_LeadsOut => k_is); (case es_LeadsOut => k_is); (case et_LeadsOut => k_is); (case ei_LeadsOut => k_is); (case ea_NoEntry => k_is); (case ex_NoEntry => k_exc); (case ek_NoEntry => k_is); (case es_NoEntry => k_is); (case et_NoEntry => k_is); (case ei_NoEntry => k_is); (case ea_NotFolder => k_is); (case ex_NotFolder => k_exc); (case ek_NotFolder => k_is); (case es_NotFolder => k_is); (case et_NotFolder => k_is); (case ei_NotFolder => k_is); (case ea_TooFar => k_is); (case ex_TooFar => k_exc); (case ek_TooFar => k_is); (case es_TooFar => k_is); (case et_TooFar => k_is); (case ei_TooFar => k_is); (case ep_LeadsOut_LeadsOut => first | rfl | k_is); (case ep_LeadsOut_NoEntry => first | rfl | k_is); (case ep_LeadsOut_NotFolder => first | rfl | k_is); (case ep_LeadsOut_TooFar => first | rfl | k_is); (case ep_NoEntry_LeadsOut => first | rfl | k_is); (case ep_NoEntry_NoEntry => first | rfl | k_is); (case ep_NoEntry_NotFolder => first | rfl | k_is); (case ep_NoEntry_TooFar => first | rfl | k_is); (case ep_NotFolder_LeadsOut => first | rfl | k_is); (case ep_NotFolder_NoEntry => first | rfl | k_is); (case ep_NotFolder_NotFolder => first | rfl | k_is); (case ep_NotFolder_TooFar => first | rfl | k_is); (case ep_TooFar_LeadsOut => first | rfl | k_is); (case ep_TooFar_NoEntry => first | rfl | k_is); (case ep_TooFar_NotFolder => first | rfl | k_is); (case ep_TooFar_TooFar => first | rfl | k_is)
