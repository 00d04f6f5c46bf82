import PyProof.Rows.All
import Wide.All
import OpenK.AllK
import Wide.FinOn
import HandS.ForMost
import HandS.IsInst
import HandS.TupAny
import HandS.TupMul
import HandS.Zip
import HandS.Style
import HandS.ForExc
import HandS.TryMany
import PySem.Challenge.RW_filecrate_k02_whole_numbers_read
set_option Elab.async false
set_option linter.all false
set_option maxRecDepth 100000
set_option maxHeartbeats 4000000
namespace Fc
open PySem PySem.Spec PyProof.Rows L2

/-! ### heaps that only grow -/
theorem grow {H : Hp} {p : Addr} {o : HO} (n : H p = none) : Same H (upd H p o) := by
  intro b u e
  have hb : b ≠ p := ne_of_none e n
  rw [upd_ne hb, e]
theorem keepT {K : PySem.W.Frag} {H H' : Hp} {a : Addr} {xs : List V} (e : Same H H') (h : SqT K H a xs) : SqT K H' a xs := by
  rcases h with (h | ⟨o, h⟩) | h
  · left; left; exact e a _ h
  · left; right; exact ⟨o, e a _ h⟩
  · right; exact h
/-- behind it a tuple of these, and all that stood -/
def Tups (K : PySem.W.Frag) (H : Hp) (xs : List V) (Q : VK) : Prop := ∀ H' p, Same H H' → SqT K H' p xs → Q (.ref p) H'
theorem Tups.new {K : PySem.W.Frag} {H : Hp} {xs : List V} {Q : VK} (h : Tups K H xs Q) {p : Addr} (n : H p = none) : Q (.ref p) (upd H p (.tup xs)) := h _ _ (grow n) (SqT.of upd_same)
theorem Tups.old {K : PySem.W.Frag} {H : Hp} {xs ys : List V} {Q : VK} (h : Tups K H xs Q) {p : Addr} (e : SqT K H p ys) (eq : ys = xs) : Q (.ref p) H := by
  subst eq
  exact h _ _ (Same.refl H) e
theorem PEweak {X : Cx} {e : Expr} {t u : TE} (h : PE X e t) (w : ∀ σ H Q, u σ H Q → t σ H Q) : PE X e u := ⟨fun pins s σ H Q I q => h.run pins s σ H Q I (w σ H Q q)⟩
def upA (t : TA) : TA := fun σ H Q => ∃ R, t σ H R ∧ ∀ vs H', R vs H' → Q vs H'
theorem PAup {X : Cx} {es : List Expr} {t : TA} (h : PA X es t) : PA X es (upA t) := ⟨fun ps pins s σ H Q I q => by
  obtain ⟨R, q1, q2⟩ := q
  refine thn (h.run ps pins s σ H R I q1) fun us s' ⟨vs, H', I', r, k⟩ => ⟨vs, H', I', r, q2 _ _ k⟩⟩

/-! ### rules whose reading says Tups -/
section
variable {X : Cx}
def rCatU (K : PySem.W.Frag) : R2 := fun x y H Q => ∃ a b xs ys, x = .ref a ∧ y = .ref b ∧ SqT K H a xs ∧ SqT K H b ys ∧ xs.length + ys.length ≤ sizeLine ∧ Tups K H (xs ++ ys) Q
theorem op_catU : OpR X (binaryOp .Add) (rCatU X.K) := by
  intro pins s σ H x y v u Q I rx ry h
  obtain ⟨a, b, xs, ys, rfl, rfl, ha, hb, hz, q⟩ := h
  refine op_catA pins s σ H _ _ v u Q I rx ry ⟨a, b, xs, ys, rfl, rfl, ha, hb, hz, fun e => ?_, fun _ e => ?_, fun _ _ p n => q.new n⟩
  · subst e; exact q.old hb rfl
  · subst e; exact q.old ha (List.append_nil xs).symm
def rSlU (K : PySem.W.Frag) : V → Option Int → Option Int → Hp → VK → Prop := fun x lo hi H Q => ∃ a xs, x = .ref a ∧ SqT K H a xs ∧ Tups K H (cutV xs lo hi) Q
theorem sl_tupU : SlR X (rSlU X.K) := by
  intro pins s σ H x v vl vu lo hi sl Q I rx hs pl pu h
  obtain ⟨a, xs, rfl, hx, q⟩ := h
  refine sl_tupA pins s σ H _ v vl vu lo hi sl Q I rx hs pl pu ⟨a, xs, rfl, hx, fun e => q.old hx ?_, fun _ p n => q.new n⟩
  unfold cutV
  rw [e.1, e.2, List.drop_zero, Nat.sub_zero, List.take_length]
def tTupU (K : PySem.W.Frag) (t : TA) : TE := fun σ H Q => t σ H fun xs H1 => xs.length ≤ sizeLine ∧ Tups K H1 xs Q
theorem pe_tupU {es : List Expr} {x1 : Nat} {pos : Pos} {t : TA} (h : PA X es t) : PE X (.Tuple es x1 pos) (tTupU X.K t) :=
  PEweak (pe_tup (PAup h)) fun σ H Q q => ⟨_, q, fun vs H' k => ⟨k.1, fun p n => k.2.new n⟩⟩
theorem call_divmodU : CallR X (.builtin "divmod") (fun xs H Q => ∃ i j, xs = [.int i, .int j] ∧ CDiv i j ∧ Tups X.K H [.int (i / j), .int (i % j)] Q) := by
  intro pins s σ H xs us Q I r h
  obtain ⟨i, j, e, c, q⟩ := h
  exact call_divmod pins s σ H xs us Q I r ⟨i, j, e, c, fun p n => q.new n⟩
theorem call_tupleU : CallR X (.type "tuple") (fun xs H Q => ∃ p ys, xs = [.ref p] ∧ SqL X.K H p ys ∧ Tups X.K H ys Q) := by
  intro pins s σ H xs us Q I r h
  obtain ⟨p, ys, e, hp, q⟩ := h
  exact call_tuple_of pins s σ H xs us Q I r ⟨p, ys, e, .inl ⟨hp, fun l n => q.new n⟩⟩
theorem pe_globI {x : Str} {n : Int} {pos : Pos} (hg : Gl X x) (h : ∃ t, X.mg x = some (.int n t)) (hd : (x == ("__debug__" : Str)) = false := by decide) : PE X (.Name x pos) (tC (.int n)) := by
  obtain ⟨t, e⟩ := h
  exact pe_glob hg e ⟨t, rfl⟩ hd
def tGT (K : PySem.W.Frag) (xs : List V) : TE := fun _ H Q => ∀ a, (∀ H', SqT K H' a xs) → Q (.ref a) H
theorem pe_globT {x : Str} {xs : List V} {pos : Pos} (hg : Gl X x) (h : ∃ a, X.mg x = some (.ref a) ∧ ∀ H', SqT X.K H' a xs) (hd : (x == ("__debug__" : Str)) = false := by decide) : PE X (.Name x pos) (tGT X.K xs) := by
  obtain ⟨a, e, q⟩ := h
  exact PEweak (pe_glob (v := .ref a) hg e rfl hd) fun σ H Q k => k a q
theorem pe_btype {x : Str} {n : String} {pos : Pos} (hg : Gl X x) (hm : X.mg x = none) (hv : bootBuiltins x = some (.type n)) (hn : x ≠ "__name__" := by decide) (hd : (x == ("__debug__" : Str)) = false := by decide) : PE X (.Name x pos) (tC (.ty n)) := pe_bltn hg hm hv rfl hn hd
end

/-! ### a def that is called -/
structure Cal (P : Program) (w : World) (K : PySem.W.Frag) (mg : Str → Option Value) (base : Heap) (x : Str) (k : Nat) (ps : List Str) (sp : Sp) : Prop where
  ex : ∃ f fd, FnOk P w K mg base CX0 k f fd ps sp ∧ mg x = some (.ref f) ∧ PySem.W.keepIn K (.ref f) = true ∧ Binds K fd ps []
theorem pe_c {X : Cx} {x : Str} {k : Nat} {ps : List Str} {sp : Sp} {p pos : Pos} {e : Expr} {es : List Expr} {t : TA} (C : Cal X.prog X.w X.K X.mg X.base x k ps sp) (hr : Room k X.A) (ha : PA X (e :: es) t) (hg : Gl X x := by rfl) (hdb : (x == ("__debug__" : Str)) = false := by decide)
    (he : starEach (e :: es) X.env = (false, eval e X.env) :: starEach es X.env := by rfl) (hpl : (backTo pos (starEach es X.env)).any (·.1) = false := by rfl) : PE X (.Call (.Name x p) (e :: es) [] pos) (tCall sp [] E0 t) := by
  obtain ⟨f, fd, F, m, kp, b⟩ := C.ex
  exact pe_call F hr hg m kp b .nil pass0 ha hdb he hpl

/-! ### joining ways -/
theorem seq_by {t u : TS} {D : Ends} {σ : L2.St} {H : Hp} (P : L2.St → Hp → Prop) (h2 : ∀ σ H, P σ H → u D σ H) (h1 : (∀ σ H, P σ H → u D σ H) → t { D with nx := u D } σ H) : tSeq t u D σ H := h1 h2

theorem seq_c {v : V} {i : Nat} {u : TS} {D : Ends} {σ : L2.St} {H : Hp} (h : u D (σ.set i (some v)) H) : tSeq (tAsg (tC v) (gName i)) u D σ H := h

/-! ### isinstance -/
theorem k_ii {K : PySem.W.Frag} : PySem.W.kitOne K (.type "int") (.type "int") = some true := kit_ty (by decide +kernel)
theorem k_ib {K : PySem.W.Frag} : PySem.W.kitOne K (.type "int") (.type "bool") = some false := kit_ty (by decide +kernel)
theorem k_it {K : PySem.W.Frag} : PySem.W.kitOne K (.type "int") (.type "tuple") = some false := kit_ty (by decide +kernel)
theorem k_is' {K : PySem.W.Frag} : PySem.W.kitOne K (.type "int") (.type "str") = some false := kit_ty (by decide +kernel)
theorem k_tb {K : PySem.W.Frag} : PySem.W.kitOne K (.type "tuple") (.type "bool") = some false := kit_ty (by decide +kernel)
theorem k_tt {K : PySem.W.Frag} : PySem.W.kitOne K (.type "tuple") (.type "tuple") = some true := kit_ty (by decide +kernel)
theorem k_sb {K : PySem.W.Frag} : PySem.W.kitOne K (.type "str") (.type "bool") = some false := kit_ty (by decide +kernel)
theorem k_st {K : PySem.W.Frag} : PySem.W.kitOne K (.type "str") (.type "tuple") = some false := kit_ty (by decide +kernel)
theorem k_ss {K : PySem.W.Frag} : PySem.W.kitOne K (.type "str") (.type "str") = some true := kit_ty (by decide +kernel)
theorem ty_tup {K : PySem.W.Frag} {H : Hp} {a : Addr} {xs : List V} (h : SqT K H a xs) : TyX K H (.ref a) (.type "tuple") := by
  rcases h with (h | ⟨o, h⟩) | ⟨o, its, n, h, c, _⟩
  · exact .base (.tup h)
  · exact .fTuple h
  · exact .kTuple h c

/-! ### cuts of whole numbers -/
theorem cut_to (ns : List Int) (k : Nat) : cutV (ns.map V.int) none (some (k : Int)) = (ns.take k).map V.int := by
  unfold cutV
  rw [HT.sIx_none, HT.sIx_nat, List.drop_zero, Nat.sub_zero, List.length_map, List.map_take]
  by_cases h : k ≤ ns.length
  · rw [Nat.min_eq_left h]
  · have h' : ns.length ≤ k := by omega
    rw [Nat.min_eq_right h', List.take_of_length_le (by rw [List.length_map]; omega), List.take_of_length_le (by rw [List.length_map]; omega)]
theorem cut_from (ns : List Int) (k : Nat) : cutV (ns.map V.int) (some (k : Int)) none = (ns.drop k).map V.int := by
  unfold cutV
  rw [HT.sIx_none, HT.sIx_nat, List.length_map, List.map_drop]
  by_cases h : k ≤ ns.length
  · rw [Nat.min_eq_left h]
    exact List.take_of_length_le (by rw [List.length_drop, List.length_map]; omega)
  · have h' : ns.length ≤ k := by omega
    rw [Nat.min_eq_right h', List.drop_of_length_le (by rw [List.length_map]; omega), List.drop_of_length_le (by rw [List.length_map]; omega), List.take_nil]
theorem cut_mid (ns : List Int) (i j : Nat) : cutV (ns.map V.int) (some (i : Int)) (some (j : Int)) = ((ns.drop i).take (j - i)).map V.int := by
  unfold cutV
  rw [HT.sIx_nat, HT.sIx_nat, List.length_map, List.map_take, List.map_drop]
  by_cases h : i ≤ ns.length
  · rw [Nat.min_eq_left h]
    by_cases g : j ≤ ns.length
    · rw [Nat.min_eq_left g]
    · have g' : ns.length ≤ j := by omega
      rw [Nat.min_eq_right g', List.take_of_length_le (by rw [List.length_drop, List.length_map]; omega), List.take_of_length_le (by rw [List.length_drop, List.length_map]; omega)]
  · have h' : ns.length ≤ i := by omega
    rw [Nat.min_eq_right h', List.drop_of_length_le (by rw [List.length_map]; omega), List.drop_of_length_le (by rw [List.length_map]; omega), List.take_nil, List.take_nil]

/-! ### a comprehension whose items are told by a row -/
theorem lc_row {K : PySem.W.Frag} {a : Addr} {xs ys : List V} {te : TE} {vs : List Nat} {σ : L2.St} {H1 : Hp} {D : Addr} {j : Nat} {Qd : Hp → Prop} (nD : H1 D = none) (hs : SqL K H1 a xs) (hy : ys.length = xs.length) (hz : xs.length ≤ sizeLine)
    (hw : ∀ x, wipe ((wipe σ vs).set j (some x)) vs = wipe σ vs)
    (turn : ∀ (i : Nat) (x y : V) (H : Hp) (R : V → Hp → Prop), xs[i]? = some x → ys[i]? = some y → Same H1 H → (∀ H', Same H H' → R y H') → te ((wipe σ vs).set j (some x)) H R) (hd : ∀ H', Same H1 H' → H' D = some (.lst ys) → Qd H') :
    ∃ W : Nat → Nat → Hp → Prop, (∃ m, W 0 m (upd H1 D (.lst []))) ∧ ∀ i m H, W i m H →
      ((Itl K a).stop i H ∧ Qd H) ∨ ((Itl K a).go i H ∧ ∃ Nx : Hp → Prop, (∀ H', Nx H' → ∃ m', m' < m ∧ W (i + 1) m' H') ∧ ∀ x H', (Itl K a).yld i H x H' → gName j x (wipe σ vs) H' fun σ2 H2 => wipe σ2 vs = wipe σ vs ∧ tYes σ2 H2 fun b H3 =>
        if b = true then te σ2 H3 fun y H4 => ∃ acc, H4 D = some (.lst acc) ∧ acc.length < sizeLine ∧ Nx (upd H4 D (.lst (acc ++ [y]))) else Nx H3) := by
  refine lc_list (xs := xs) (fun i H => Same H1 H ∧ H D = some (.lst (ys.take i))) ⟨grow nD, upd_same⟩ (fun i H _ p => p.1.seq hs) (fun i x H hx p => ?_) (fun H p => hd H p.1 ?_)
  · have hi : i < xs.length := (List.getElem?_eq_some_iff.mp hx).1
    have hiy : i < ys.length := by omega
    refine ⟨hw x, ?_⟩
    unfold tYes
    dsimp only
    rw [if_pos rfl]
    refine turn i x ys[i] H _ hx (List.getElem?_eq_getElem hiy) p.1 fun H' sm => ⟨ys.take i, sm _ _ p.2, ?_, ?_, ?_⟩
    · rw [List.length_take]; omega
    · intro b o e
      have hb : b ≠ D := ne_of_none e nD
      rw [upd_ne hb]
      exact sm _ _ (p.1 _ _ e)
    · rw [upd_same, List.take_add_one, List.getElem?_eq_getElem hiy]
      rfl
  · have := p.2
    rw [← hy, List.take_length] at this
    exact this
end Fc

namespace Fc
open PySem PySem.Spec L2 PyProof.Rows
/-! ### [e for x, y in zip(t, u)] over tuples, its items told by a row -/
theorem lc_zip {K : PySem.W.Frag} {a b : Addr} {xs ys zs : List V} {te : TE} {vs : List Nat} {σ : L2.St} {H1 : Hp} {D : Addr} {j k : Nat} {Qd : Hp → Prop} (nD : H1 D = none) (ha : SqT K H1 a xs) (hb : SqT K H1 b ys) (hy : ys.length = xs.length) (hzl : zs.length = xs.length) (hz : xs.length ≤ sizeLine)
    (hw : ∀ x y, wipe (((wipe σ vs).set j (some x)).set k (some y)) vs = wipe σ vs)
    (turn : ∀ (i : Nat) (x y z : V) (H : Hp) (R : V → Hp → Prop), xs[i]? = some x → ys[i]? = some y → zs[i]? = some z → Same H1 H → (∀ H', Same H H' → R z H') → te (((wipe σ vs).set j (some x)).set k (some y)) H R) (hd : ∀ H', Same H1 H' → H' D = some (.lst zs) → Qd H') :
    ∃ W : Nat → Nat → Hp → Prop, (∃ m, W 0 m (upd H1 D (.lst []))) ∧ ∀ i m H, W i m H →
      ((RZ.ItzT K a b).stop i H ∧ Qd H) ∨ ((RZ.ItzT K a b).go i H ∧ ∃ Nx : Hp → Prop, (∀ H', Nx H' → ∃ m', m' < m ∧ W (i + 1) m' H') ∧ ∀ x H', (RZ.ItzT K a b).yld i H x H' → gTup K 2 (gCons (gName j) (gCons (gName k) gNil)) x (wipe σ vs) H' fun σ2 H2 => wipe σ2 vs = wipe σ vs ∧ tYes σ2 H2 fun b H3 =>
        if b = true then te σ2 H3 fun y H4 => ∃ acc, H4 D = some (.lst acc) ∧ acc.length < sizeLine ∧ Nx (upd H4 D (.lst (acc ++ [y]))) else Nx H3) := by
  refine ⟨fun i m H => m = xs.length - i ∧ i ≤ xs.length ∧ Same H1 H ∧ H D = some (.lst (zs.take i)), ⟨xs.length, rfl, Nat.zero_le _, grow nD, upd_same⟩, ?_⟩
  rintro i m H ⟨rfl, hi, sm, hD⟩
  have qa := keepT sm ha
  have qb := keepT sm hb
  by_cases lt : i < xs.length
  · have ly : i < ys.length := by omega
    have lz : i < zs.length := by omega
    refine .inr ⟨⟨xs, ys, xs[i], ys[i], qa, qb, List.getElem?_eq_getElem lt, List.getElem?_eq_getElem ly⟩, fun H' => Same H1 H' ∧ H' D = some (.lst (zs.take (i + 1))), fun H' p => ⟨xs.length - (i + 1), by omega, rfl, lt, p.1, p.2⟩, fun v H' yl => ?_⟩
    obtain ⟨T, x, y, rfl, nT, rfl, fx, fy⟩ := yl
    have ex : xs[i]? = some x := fx xs qa
    have ey : ys[i]? = some y := fy ys qb
    refine ⟨T, [x, y], rfl, SqT.of upd_same, rfl, x, [y], rfl, y, [], rfl, rfl, hw x y, ?_⟩
    unfold tYes
    dsimp only
    rw [if_pos rfl]
    have sT : Same H (upd H T (.tup [x, y])) := grow nT
    refine turn i x y zs[i] _ _ ex ey (List.getElem?_eq_getElem lz) (sm.trans sT) fun H' e => ⟨zs.take i, e _ _ (sT _ _ hD), ?_, ?_, ?_⟩
    · rw [List.length_take]; omega
    · intro c o h
      have hc : c ≠ D := ne_of_none h nD
      rw [upd_ne hc]
      exact e _ _ (sT _ _ (sm _ _ h))
    · rw [upd_same, List.take_add_one, List.getElem?_eq_getElem lz]
      rfl
  · have e : i = xs.length := by omega
    subst e
    refine .inl ⟨⟨xs, ys, qa, qb, .inl (Nat.le_refl _)⟩, hd H sm ?_⟩
    rw [hD, ← hzl, List.take_length]
end Fc

namespace Fc
open PySem PySem.Spec L2 PyProof.Rows
/-! ### lists that a def made itself -/
theorem keepT_lst {K : PySem.W.Frag} {H : Hp} {p t : Addr} {xs ys zs : List V} (h : SqT K H t xs) (e : H p = some (.lst ys)) : SqT K (upd H p (.lst zs)) t xs := by
  rcases h with (h | ⟨o, h⟩) | h
  · refine .inl (.inl ?_)
    rw [upd_ne (fun z => by rw [z, e] at h; cases h)]
    exact h
  · refine .inl (.inr ⟨o, ?_⟩)
    rw [upd_ne (fun z => by rw [z, e] at h; cases h)]
    exact h
  · exact .inr h
theorem keep_lst {H H' : Hp} {p : Addr} {zs : List V} (e : Same H H') (n : H p = none) : Same H (upd H' p (.lst zs)) := by
  intro b o h
  rw [upd_ne (ne_of_none h n)]
  exact e b o h
theorem got {ns : List Int} {i : Nat} {x : V} (h : (ns.map V.int)[i]? = some x) : ∃ n, ns[i]? = some n ∧ x = .int n := by
  rw [List.getElem?_map] at h
  cases e : ns[i]? with
  | none => rw [e] at h; cases h
  | some n =>
    rw [e] at h
    exact ⟨n, rfl, (Option.some.inj h).symm⟩
theorem drop_head {S : List Int} {k : Nat} {x : Int} {r : List Int} (h : S.drop k = x :: r) : S[k]? = some x := by
  have := congrArg (·[0]?) h
  simpa [List.getElem?_drop] using this
theorem drop_more {S : List Int} {k : Nat} {x : Int} {r : List Int} (h : S.drop k = x :: r) : S.drop (k + 1) = r := by
  have := congrArg (·.drop 1) h
  simpa [List.drop_drop] using this
/-! ### the bytes of a number -/
def numB (n : Int) : List Int := if 127 < n then (n % 128 + 128) :: numB (n / 128) else [n]
termination_by n.toNat
decreasing_by omega
theorem numB_big {n : Int} (h : 127 < n) : numB n = (n % 128 + 128) :: numB (n / 128) := by
  conv => lhs; rw [numB]
  rw [if_pos h]
theorem numB_small {n : Int} (h : ¬ 127 < n) : numB n = [n] := by
  rw [numB, if_neg h]
theorem numB_len : ∀ (k : Nat) (n : Int), 0 ≤ n → n < 128 ^ (k + 1) → (numB n).length ≤ k + 1
  | 0, n, h0, h1 => by
    have : n < 128 := h1
    rw [numB_small (by omega)]
    simp
  | k + 1, n, h0, h1 => by
    by_cases z : 127 < n
    · rw [numB_big z, List.length_cons]
      have e : (128 : Int) ^ (k + 1 + 1) = 128 ^ (k + 1) * 128 := Int.pow_succ _ _
      have := numB_len k (n / 128) (by omega) (by
        rw [e] at h1
        exact Int.ediv_lt_of_lt_mul (by decide) h1)
      omega
    · rw [numB_small z]
      simp
theorem numB_few {n : Int} (h0 : 0 ≤ n) (h1 : n < 4398046511104) : (numB n).length ≤ 6 := numB_len 5 n h0 (by
  have : (128 : Int) ^ (5 + 1) = 4398046511104 := by decide
  rw [this]
  exact h1)
/-! ### fixed bytes -/
def low : Nat → Int → List Int
  | 0, _ => []
  | k + 1, n => n % 256 :: low k (n / 256)
def sh : Nat → Int → Int
  | 0, n => n
  | k + 1, n => sh k (n / 256)
theorem low_len : ∀ (k : Nat) (n : Int), (low k n).length = k
  | 0, _ => rfl
  | k + 1, n => by rw [low, List.length_cons, low_len]
theorem low_more : ∀ (k : Nat) (n : Int), low (k + 1) n = low k n ++ [sh k n % 256]
  | 0, n => rfl
  | k + 1, n => by
    rw [low, low_more k (n / 256)]
    rfl
theorem sh_more : ∀ (k : Nat) (n : Int), sh (k + 1) n = sh k n / 256
  | 0, n => rfl
  | k + 1, n => by
    show sh (k + 1) (n / 256) = sh k (n / 256) / 256
    rw [sh_more k (n / 256)]
def val256 (l : List Int) : Int := l.foldl (fun x b => x * 256 + b) 0
theorem val_low : ∀ (k : Nat) (n : Int), 0 ≤ n → n < 256 ^ k → val256 (low k n).reverse = n
  | 0, n, h0, h1 => by
    have : n < 1 := h1
    show (0 : Int) = n
    omega
  | k + 1, n, h0, h1 => by
    have e : (256 : Int) ^ (k + 1) = 256 ^ k * 256 := Int.pow_succ _ _
    have ih := val_low k (n / 256) (by omega) (by
      rw [e] at h1
      exact Int.ediv_lt_of_lt_mul (by decide) h1)
    rw [low, List.reverse_cons]
    unfold val256 at ih ⊢
    rw [List.foldl_append, ih]
    show n / 256 * 256 + n % 256 = n
    omega
theorem val_take {l : List Int} {i : Nat} {x : Int} (h : l[i]? = some x) : val256 (l.take (i + 1)) = val256 (l.take i) * 256 + x := by
  unfold val256
  rw [List.take_add_one, h, Option.toList_some, List.foldl_append]
  rfl
end Fc

namespace Fc
open PySem PySem.Spec L2 PyProof.Rows
/-! ### own errors, and defs that raise them -/
abbrev veMro : List Value := [.type "ValueError", .type "Exception", .type "BaseException", .type "object"]
structure Exc (K : PySem.W.Frag) (mg : Str → Option Value) (x : Str) (C : Addr) : Prop where
  g : mg x = some (.ref C)
  x : PySem.W.excIn K C veMro "ValueError.__new__" = true
  k : PySem.W.keepIn K (.ref C) = true
  s : PySem.W.subIn K (.ref C) (.type "BaseException") = some true
  t : PySem.W.typeIn K (.ref C) = some (.type "type")
  i : PySem.W.isClsIn K C = true
theorem caught {K : PySem.W.Frag} {mg : Str → Option Value} {x : Str} {B C : Addr} {b : Bool} (e : Exc K mg x C) (h : PySem.W.subIn K (.ref B) (.ref C) = some b) : PySem.W.exmOne K (.ref B) (.ref C) = some b := by
  unfold PySem.W.exmOne
  rw [if_pos (by rw [e.s]; rfl)]
  show (if ((PySem.W.clsIn K C).isSome && PySem.W.typeIn K (.ref C) == some (.type "type")) = true then PySem.W.subIn K (.ref B) (.ref C) else none) = some b
  rw [if_pos (by rw [show (PySem.W.clsIn K C).isSome = true from e.i, e.t]; rfl), h]
section
variable {X : Cx}
theorem ps_raiseC {W : WX} {x m : Str} {C : Addr} {j : Nat} {p p2 p3 pos : Pos} (hc : X.calm = true) (tk : Takes X W) (e : Exc X.K X.mg x C) (hg : Gl X x := by rfl) (hdb : (x == ("__debug__" : Str)) = false := by decide) :
    PS X (.Raise (some (.Call (.Name x p) [.Constant (.str m) j p2] [] p3)) none pos) (fun _ σ H => W (.ref C) none σ H) :=
  ps_raise hc tk (pmk_own PySem.F.excBase_ValueError e.x e.g e.k (raises_own e.s e.t) hg hdb)
end
/-- as Cal, of a def that may raise -/
structure CalX (P : Program) (w : World) (K : PySem.W.Frag) (mg : Str → Option Value) (base : Heap) (x : Str) (k : Nat) (ps : List Str) (sp : Sp) : Prop where
  ex : ∃ f fd, FnOk P w K mg base (L2.CX P w) k f fd ps sp ∧ mg x = some (.ref f) ∧ PySem.W.keepIn K (.ref f) = true ∧ Binds K fd ps []
section
variable {X : Cx} {x : Str} {k : Nat} {ps : List Str} {sp : Sp} {p pos : Pos} {e : Expr} {es : List Expr} {t : TA}
theorem pe_cx {E : XK} (C : CalX X.prog X.w X.K X.mg X.base x k ps sp) (hr : Room k X.A) (tk : Takes X (fun cls d _ H => E cls d H)) (ha : PA X (e :: es) t) (hg : Gl X x := by rfl) (hdb : (x == ("__debug__" : Str)) = false := by decide)
    (he : starEach (e :: es) X.env = (false, eval e X.env) :: starEach es X.env := by rfl) (hpl : (backTo pos (starEach es X.env)).any (·.1) = false := by rfl) : PE X (.Call (.Name x p) (e :: es) [] pos) (tCall sp [] E t) := by
  obtain ⟨f, fd, F, m, kp, b⟩ := C.ex
  exact pe_call F hr hg m kp b .nil (passes_call tk fun _ _ _ _ h => h) ha hdb he hpl
theorem pe_cs {W : WX} (C : CalX X.prog X.w X.K X.mg X.base x k ps sp) (hr : Room k X.A) (tk : Takes X W) (ha : PA X (e :: es) t) (hg : Gl X x := by rfl) (hdb : (x == ("__debug__" : Str)) = false := by decide)
    (he : starEach (e :: es) X.env = (false, eval e X.env) :: starEach es X.env := by rfl) (hpl : (backTo pos (starEach es X.env)).any (·.1) = false := by rfl) : PE X (.Call (.Name x p) (e :: es) [] pos) (tCallS sp (WE W) t) := by
  obtain ⟨f, fd, F, m, kp, b⟩ := C.ex
  exact pe_callS F hr hg m kp b (fun σ => passAt tk σ) ha hdb he hpl
end
end Fc

namespace Fc
open PySem PySem.Spec L2 PyProof.Rows
def topS (i : Nat) : Stmt := PySem.Challenge.pw_filecrate_k02_whole_numbers_read.main.body.getD i (.Pass ⟨0, 0, 0, 0⟩)
abbrev sReadNumber : Stmt := topS 6
abbrev nReadNumber : List Str := ["some", "at", "number", "worth", "place", "byte"]
theorem scReadNumber : FnScope nReadNumber ["some", "at"] (defScope sReadNumber) := ⟨rfl, rfl, rfl, by decide +kernel, rfl, by decide +kernel, by decide +kernel⟩
abbrev sReadFixed : Stmt := topS 7
abbrev nReadFixed : List Str := ["some", "at", "many", "number", "place"]
theorem scReadFixed : FnScope nReadFixed ["some", "at", "many"] (defScope sReadFixed) := ⟨rfl, rfl, rfl, by decide +kernel, rfl, by decide +kernel, by decide +kernel⟩
abbrev sByteAt : Stmt := topS 8
abbrev nByteAt : List Str := ["some", "place"]
theorem scByteAt : FnScope nByteAt ["some", "place"] (defScope sByteAt) := ⟨rfl, rfl, rfl, by decide +kernel, rfl, by decide +kernel, by decide +kernel⟩
abbrev sLawD : Stmt := topS 10
abbrev nLawD : List Str := ["_law_cell", "_law_place", "_law_many", "_law_number"]
theorem scLawD : FnScope nLawD ["_law_cell", "_law_place", "_law_many"] (defScope sLawD) := ⟨rfl, rfl, rfl, by decide +kernel, rfl, by decide +kernel, by decide +kernel⟩
abbrev sLawSame : Stmt := topS 11
abbrev nLawSame : List Str := ["_law_told_here", "_law_due", "_law_one", "_law_other"]
theorem scLawSame : FnScope nLawSame ["_law_told_here", "_law_due"] (defScope sLawSame) := ⟨rfl, rfl, rfl, by decide +kernel, rfl, by decide +kernel, by decide +kernel⟩
abbrev sLawRead : Stmt := topS 12
abbrev nLawRead : List Str := ["_law_some", "_law_at", "_law_n", "_law_unit", "_law_k", "_law_one"]
theorem scLawRead : FnScope nLawRead ["_law_some", "_law_at"] (defScope sLawRead) := ⟨rfl, rfl, rfl, by decide +kernel, rfl, by decide +kernel, by decide +kernel⟩
abbrev sLawTold : Stmt := topS 13
abbrev nLawTold : List Str := ["_law_some", "_law_at", "_law_found"]
theorem scLawTold : FnScope nLawTold ["_law_some", "_law_at"] (defScope sLawTold) := ⟨rfl, rfl, rfl, by decide +kernel, rfl, by decide +kernel, by decide +kernel⟩
abbrev sLawFixed : Stmt := topS 14
abbrev nLawFixed : List Str := ["_law_some", "_law_at", "_law_many", "_law_found"]
theorem scLawFixed : FnScope nLawFixed ["_law_some", "_law_at", "_law_many"] (defScope sLawFixed) := ⟨rfl, rfl, rfl, by decide +kernel, rfl, by decide +kernel, by decide +kernel⟩
abbrev sLaw : Stmt := topS 15
abbrev nLaw : List Str := ["_law_script", "_law_some", "_law_cell", "_law_at", "_law_one", "_law_many", "_law_due", "_law_n"]
theorem scLaw : FnScope nLaw ["_law_script"] (defScope sLaw) := ⟨rfl, rfl, rfl, by decide +kernel, rfl, by decide +kernel, by decide +kernel⟩
structure Env (K : PySem.W.Frag) (mg : Str → Option Value) : Prop where
  b_all : mg "all" = none
  b_bool : mg "bool" = none
  b_int : mg "int" = none
  b_isinstance : mg "isinstance" = none
  b_len : mg "len" = none
  b_range : mg "range" = none
  b_str : mg "str" = none
  b_tuple : mg "tuple" = none
  b_zip : mg "zip" = none
  g_MOST_BYTES : ∃ t, mg "MOST_BYTES" = some (.int 6 t)
structure Excs (K : PySem.W.Frag) (mg : Str → Option Value) (e_Cut e_BadForm : Addr) : Prop where
  Cut : Exc K mg "Cut" e_Cut
  BadForm : Exc K mg "BadForm" e_BadForm
  p_Cut_Cut : PySem.W.exmOne K (.ref e_Cut) (.ref e_Cut) = some true
  p_Cut_BadForm : PySem.W.exmOne K (.ref e_Cut) (.ref e_BadForm) = some false
  p_BadForm_Cut : PySem.W.exmOne K (.ref e_BadForm) (.ref e_Cut) = some false
  p_BadForm_BadForm : PySem.W.exmOne K (.ref e_BadForm) (.ref e_BadForm) = some true

/-! ### what is read, by a walk -/
inductive Res where
  | cut
  | bad
  | ok (n : Int) (p : Nat)
def Shows (K : PySem.W.Frag) (H : Hp) (v : V) : Res → Prop
  | .cut => v = .str "Cut"
  | .bad => v = .str "BadForm"
  | .ok n p => ∃ t, v = .ref t ∧ SqT K H t [.int n, .int (p : Int)]
theorem Shows.keep {K : PySem.W.Frag} {H H' : Hp} {v : V} {r : Res} (h : Shows K H v r) (e : Same H H') : Shows K H' v r := by
  cases r with
  | cut => exact h
  | bad => exact h
  | ok n p =>
    obtain ⟨t, ev, ht⟩ := h
    exact ⟨t, ev, keepT e ht⟩
def rd (S : List Int) (at_ : Nat) : Nat → Nat → Int → Int → Res
  | 0, _, _, _ => .bad
  | f + 1, k, n, u => match S[at_ + k]? with
    | none => .cut
    | some x => if x = 0 ∧ 0 < k then .bad else if x < 128 then .ok (n + x % 128 * u) (at_ + k + 1) else rd S at_ f (k + 1) (n + x % 128 * u) (u * 128)
def resOf (S : List Int) (at_ : Nat) : Res := rd S at_ 6 0 0 1
theorem rd_cut {S : List Int} {at_ f k : Nat} {n u : Int} (h : S[at_ + k]? = none) : rd S at_ (f + 1) k n u = .cut := by rw [rd, h]
theorem rd_zero {S : List Int} {at_ f k : Nat} {n u x : Int} (h : S[at_ + k]? = some x) (z : x = 0 ∧ 0 < k) : rd S at_ (f + 1) k n u = .bad := by
  rw [rd, h]
  show (if x = 0 ∧ 0 < k then Res.bad else _) = _
  rw [if_pos z]
theorem rd_end {S : List Int} {at_ f k : Nat} {n u x : Int} (h : S[at_ + k]? = some x) (z : ¬ (x = 0 ∧ 0 < k)) (l : x < 128) : rd S at_ (f + 1) k n u = .ok (n + x % 128 * u) (at_ + k + 1) := by
  rw [rd, h]
  show (if x = 0 ∧ 0 < k then Res.bad else if x < 128 then _ else _) = _
  rw [if_neg z, if_pos l]
theorem rd_on {S : List Int} {at_ f k : Nat} {n u x : Int} (h : S[at_ + k]? = some x) (l : ¬ x < 128) : rd S at_ (f + 1) k n u = rd S at_ f (k + 1) (n + x % 128 * u) (u * 128) := by
  rw [rd, h]
  show (if x = 0 ∧ 0 < k then Res.bad else if x < 128 then _ else _) = _
  rw [if_neg (fun z => l (by omega)), if_neg l]
def fixOf (S : List Int) (k m : Nat) : Res := if k + m ≤ S.length then .ok (val256 ((S.drop k).take m)) (k + m) else .cut
def Byt (S : List Int) : Prop := ∀ x ∈ S, 0 ≤ x ∧ x < 256
/-- how a def that raises ends -/
def Out (K : PySem.W.Frag) (cC cB : Addr) (H : Hp) (Q : VK) (E : XK) : Res → Prop
  | .cut => E (.ref cC) none H
  | .bad => E (.ref cB) none H
  | .ok n p => Tups K H [.int n, .int (p : Int)] Q
section
variable {P : Program} {w : World} {mg : Str → Option Value} {K : PySem.W.Frag} {base : Heap} {e_Cut e_BadForm : Addr}
/-! ### a draw -/
def spD : Sp := fun vs H Q _ => ∃ c p m : Int, vs = [.int c, .int p, .int m] ∧ 0 ≤ p ∧ p < 1000 ∧ 0 < m ∧ ∀ d : Int, 0 ≤ d → d < m → Q (.int d) H
theorem ok_d {f : Addr} {fd : FuncData} (Ev : Env K mg) (F : Fun K "_law_d" "_law_d" sLawD f fd) : FnOk P w K mg base CX0 1 f fd ["_law_cell", "_law_place", "_law_many"] spD := by
  refine F.ok scLawD (fun vs H Q E h => ?_) (fun cdv A outer s H vs Q E hr h => ?_)
  · obtain ⟨c, p, m, rfl, _⟩ := h; rfl
  · obtain ⟨c, p, m, rfl, p0, p1, hm, q⟩ := h
    refine ⟨_, (pss_cons (ps_set (i := 3) scLawD.nd rfl (.inl rfl) (pe_op op_mod (pe_op op_add (pv 0) (pe_op op_mul pe_int (pv 1))) pe_int))
      (pss_cons (ps_set (i := 3) scLawD.nd rfl (.inl rfl) (pe_op op_mod (pe_op op_mul (pe_op op_mod (pe_op op_mul (pv 3) (pv 3)) pe_int) pe_int) pe_int))
      (pss_one (ps_ret (pe_op op_mod (pe_op op_fdiv (pv 3) pe_int) (pv 2)))))), ?_⟩
    refine ⟨_, rfl, _, rfl, _, _, rfl, rfl, .inl ⟨by decide, by decide⟩, _, _, rfl, rfl, _, 4294967291, rfl, rfl, (show (0 : Int) < 4294967291 by decide), ?_⟩
    have b := Int.emod_lt_of_pos (c + 104729 * p) (show (0 : Int) < 4294967291 by decide)
    have b' := Int.emod_nonneg (c + 104729 * p) (show (4294967291 : Int) ≠ 0 by decide)
    refine ⟨_, rfl, _, rfl, _, _, rfl, rfl, .inl ⟨by omega, by omega⟩, _, 4294967279, rfl, rfl, (show (0 : Int) < 4294967279 by decide), _, 48271, rfl, rfl, .inr ⟨by decide, by decide⟩, _, 4294967291, rfl, rfl, (show (0 : Int) < 4294967291 by decide), ?_⟩
    refine ⟨_, rfl, _, 64, rfl, rfl, ⟨by decide, by decide⟩, _, rfl, _, _, rfl, rfl, hm, q _ (Int.emod_nonneg _ (Int.ne_of_gt hm)) (Int.emod_lt_of_pos _ hm)⟩

/-! ### two whole numbers are the same -/
def spSame : Sp := fun vs H Q _ => ∃ x y : Int, vs = [.int x, .int y] ∧ Q (.bl (decide (x = y))) H
theorem ok_same {f : Addr} {fd : FuncData} (Ev : Env K mg) (F : Fun K "_law_same" "_law_same" sLawSame f fd) : FnOk P w K mg base CX0 1 f fd ["_law_told_here", "_law_due"] spSame := by
  refine F.ok scLawSame (fun vs H Q E h => ?_) (fun cdv A outer s H vs Q E hr h => ?_)
  · obtain ⟨x, y, rfl, _⟩ := h; rfl
  · obtain ⟨x, y, rfl, q⟩ := h
    refine ⟨_, (pss_cons (ps_if (pt_cmpR op_isN (pv 1) pe_non (nomark _))
        (pss_one (ps_ret (pe_cmpR op_isN (pv 0) pe_non (nomark _))))
        pss_nil)
      (pss_cons (ps_if (pt_val (pe_callB call_isi (by rfl) Ev.b_isinstance (by decide +kernel) (pa_cons (pv 1) (pa_cons (pe_btype (n := "bool") (by rfl) Ev.b_bool (by decide +kernel)) pa_nil))))
        (pss_one (ps_ret (pe_and (pe_callB call_isi (by rfl) Ev.b_isinstance (by decide +kernel) (pa_cons (pv 0) (pa_cons (pe_btype (n := "bool") (by rfl) Ev.b_bool (by decide +kernel)) pa_nil))) (pe_one (pe_cmpR op_eq (pv 0) (pv 1) (nomark _))))))
        pss_nil)
      (pss_cons (ps_if (pt_val (pe_callB call_isi (by rfl) Ev.b_isinstance (by decide +kernel) (pa_cons (pv 1) (pa_cons (pe_btype (n := "tuple") (by rfl) Ev.b_tuple (by decide +kernel)) pa_nil))))
        pss_never
        pss_nil)
      (pss_cons (ps_if (pt_val (pe_callB call_isi (by rfl) Ev.b_isinstance (by decide +kernel) (pa_cons (pv 1) (pa_cons (pe_btype (n := "str") (by rfl) Ev.b_str (by decide +kernel)) pa_nil))))
        (pss_one (ps_ret (pe_and (pe_callB call_isi (by rfl) Ev.b_isinstance (by decide +kernel) (pa_cons (pv 0) (pa_cons (pe_btype (n := "str") (by rfl) Ev.b_str (by decide +kernel)) pa_nil))) (pe_one (pe_cmpR op_eq (pv 0) (pv 1) (nomark _))))))
        pss_nil)
      (pss_one (ps_ret (pe_and (pe_callB call_isi (by rfl) Ev.b_isinstance (by decide +kernel) (pa_cons (pv 0) (pa_cons (pe_btype (n := "int") (by rfl) Ev.b_int (by decide +kernel)) pa_nil))) (pe_and (pe_not (pe_callB call_isi (by rfl) Ev.b_isinstance (by decide +kernel) (pa_cons (pv 0) (pa_cons (pe_btype (n := "bool") (by rfl) Ev.b_bool (by decide +kernel)) pa_nil)))) (pe_one (pe_cmpR op_eq (pv 0) (pv 1) (nomark _))))))))))), ?_⟩
    refine ⟨_, rfl, rfl, _, rfl, iteF ?_⟩
    refine ⟨.int y, rfl, _, _, _, _, false, rfl, .ty "bool", .base (.int _), k_ib, false, rfl, iteF ?_⟩
    refine ⟨.int y, rfl, _, _, _, _, false, rfl, .ty "tuple", .base (.int _), k_it, false, rfl, iteF ?_⟩
    refine ⟨.int y, rfl, _, _, _, _, false, rfl, .ty "str", .base (.int _), k_is', false, rfl, iteF ?_⟩
    refine ⟨.int x, rfl, _, _, _, _, true, rfl, .ty "int", .base (.int _), k_ii, true, rfl, iteT ?_⟩
    refine ⟨.int x, rfl, _, _, _, _, false, rfl, .ty "bool", .base (.int _), k_ib, false, rfl, true, rfl, iteT ?_⟩
    refine ⟨.int x, rfl, .int y, rfl, rfl, ?_⟩
    have e : decide (V.int x = V.int y) = decide (x = y) := by
      by_cases z : x = y
      · rw [z]; simp
      · rw [decide_eq_false z]; exact decide_eq_false fun k => z (V.int.inj k)
    rw [e]
    exact q

/-! ### byte_at, read_number, read_fixed -/
def spByte (K : PySem.W.Frag) (cC : Addr) : Sp := fun vs H Q E => ∃ (p : Addr) (S : List Int) (k : Nat), vs = [.ref p, .int (k : Int)] ∧ SqT K H p (S.map V.int) ∧ (∀ x, S[k]? = some x → Q (.int x) H) ∧ (S[k]? = none → E (.ref cC) none H)
theorem ok_byte {f : Addr} {fd : FuncData} (Ev : Env K mg) (Ex : Excs K mg e_Cut e_BadForm) (F : Fun K "byte_at" "byte_at" sByteAt f fd) : FnOk P w K mg base (L2.CX P w) 1 f fd ["some", "place"] (spByte K e_Cut) := by
  refine F.okX scByteAt (fun vs H Q E h => ?_) (fun cdv A outer s H vs Q E hr h => ?_)
  · obtain ⟨p, S, k, rfl, _⟩ := h; rfl
  · obtain ⟨p, S, k, rfl, hp, hq, he⟩ := h
    refine ⟨_, (pss_cons (ps_if (PW.pt (pw_or (pt_cmpR op_lt (pv 1) pe_int (nomark _)) (pw_or1 (pt_cmpR op_ge (pv 1) (pe_callB call_len_seq (by rfl) Ev.b_len PySem.boot_len (pa_cons (pv 0) pa_nil)) (nomark _)))))
        (pss_one (ps_raiseC (W := fun cls d _ H => E cls d H) rfl (takes_of rfl rfl rfl rfl) Ex.Cut))
        pss_nil)
      (pss_one (ps_ret (pe_ix ix_tup (pv 0) (pv 1) (fun _ _ => rfl))))), ?_⟩
    refine ⟨_, rfl, _, _, rfl, rfl, _, rfl, ite2 (fun z => ?_) (fun _ => ?_)⟩
    · have := of_decide_eq_true z
      omega
    refine ⟨_, rfl, _, rfl, p, _, rfl, .inr hp, _, _, rfl, rfl, _, rfl, ite2 (fun z => ?_) (fun z => ?_)⟩
    · have := of_decide_eq_true z
      rw [List.length_map] at this
      exact he (List.getElem?_eq_none (by omega))
    have lk : k < S.length := by
      have : ¬ ((S.map V.int).length : Int) ≤ (k : Int) := fun y => z (decide_eq_true y)
      rw [List.length_map] at this
      omega
    have gk : (S.map V.int)[k]? = some (.int S[k]) := by rw [List.getElem?_map, List.getElem?_eq_getElem lk]; rfl
    exact ⟨_, rfl, _, rfl, p, _, _, _, rfl, rfl, hp, atI_nat gk, hq _ (List.getElem?_eq_getElem lk)⟩
def spRead (K : PySem.W.Frag) (cC cB : Addr) : Sp := fun vs H Q E => ∃ (p : Addr) (S : List Int) (k : Nat), vs = [.ref p, .int (k : Int)] ∧ SqT K H p (S.map V.int) ∧ Byt S ∧ Out K cC cB H Q E (resOf S k)
def wRead (H : Hp) (p : Addr) (S : List Int) (at_ : Nat) (m : Nat) (σ : L2.St) (H' : Hp) : Prop :=
  ∃ (k : Nat) (num worth x : Int), σ = [some (.ref p), some (.int (at_ : Int)), some (.int num), some (.int worth), some (.int ((at_ + k : Nat) : Int)), some (.int x)] ∧ H' = H ∧ m = 6 - k ∧ k ≤ 5 ∧ S[at_ + k]? = some x ∧ rd S at_ (6 - k) k num worth = resOf S at_
theorem ok_read {f : Addr} {fd : FuncData} (Ev : Env K mg) (Ex : Excs K mg e_Cut e_BadForm) (CByteAt : CalX P w K mg base "byte_at" 1 ["some", "place"] (spByte K e_Cut)) (F : Fun K "read_number" "read_number" sReadNumber f fd) : FnOk P w K mg base (L2.CX P w) 2 f fd ["some", "at"] (spRead K e_Cut e_BadForm) := by
  refine F.okX scReadNumber (fun vs H Q E h => ?_) (fun cdv A outer s H vs Q E hr h => ?_)
  · obtain ⟨p, S, k, rfl, _⟩ := h; rfl
  · obtain ⟨p, S, at_, rfl, hp, hb, out⟩ := h
    refine ⟨_, (pss_cons (ps_set (i := 2) scReadNumber.nd rfl (.inl rfl) pe_int)
      (pss_cons (ps_set (i := 3) scReadNumber.nd rfl (.inl rfl) pe_int)
      (pss_cons (ps_set (i := 4) scReadNumber.nd rfl (.inl rfl) (pv 1))
      (pss_cons (ps_set (i := 5) scReadNumber.nd rfl (.inl rfl) (pe_cx (E := E) CByteAt (hr.mono (by decide)) (takes_of rfl rfl rfl rfl) (pa_cons (pv 0) (pa_cons (pv 4) pa_nil))))
      (pss_cons (ps_while (passes_of rfl) (pt_cmpR op_gt (pv 5) pe_int (nomark _))
        (pss_cons (ps_if (pt_cmpR op_eq (pe_op op_add (pe_op op_sub (pv 4) (pv 1)) pe_int) (pe_globI (by rfl) Ev.g_MOST_BYTES) (nomark _))
          (pss_one (ps_raiseC (W := fun cls d _ H => E cls d H) rfl (takes_of rfl rfl rfl rfl) Ex.BadForm))
          pss_nil)
        (pss_cons (ps_aug (i := 2) scReadNumber.nd rfl (.inl rfl) (pe_op op_mul (pe_op op_sub (pv 5) pe_int) (pv 3)) ip_add)
        (pss_cons (ps_set (i := 3) scReadNumber.nd rfl (.inl rfl) (pe_op op_mul (pv 3) pe_int))
        (pss_cons (ps_aug (i := 4) scReadNumber.nd rfl (.inl rfl) pe_int ip_add)
        (pss_one (ps_set (i := 5) scReadNumber.nd rfl (.inl rfl) (pe_cx (E := E) CByteAt (hr.mono (by decide)) (takes_of rfl rfl rfl rfl) (pa_cons (pv 0) (pa_cons (pv 4) pa_nil))))))))))
      (pss_cons (ps_if (PW.pt (pw_and (pt_cmpR op_eq (pv 5) pe_int (nomark _)) (pw_and1 (pt_cmpR op_gt (pv 4) (pv 1) (nomark _)))))
        (pss_one (ps_raiseC (W := fun cls d _ H => E cls d H) rfl (takes_of rfl rfl rfl rfl) Ex.BadForm))
        pss_nil)
      (pss_one (ps_ret (pe_tupU (pa_cons (pe_op op_add (pv 2) (pe_op op_mul (pv 5) (pv 3))) (pa_cons (pe_op op_add (pv 4) pe_int) pa_nil))))))))))), ?_⟩
    refine ⟨_, rfl, ?_⟩
    refine ⟨_, rfl, _, rfl, p, S, at_, rfl, hp, fun x hx => ?_, fun hn => ?_⟩
    case refine_2 =>
      have e : resOf S at_ = .cut := rd_cut hn
      rw [e] at out
      exact out
    refine ⟨wRead H p S at_, ⟨_, 0, 0, 1, x, rfl, rfl, rfl, by decide, hx, rfl⟩, fun m σ H' hW => ?_⟩
    obtain ⟨k, num, worth, x, rfl, rfl, rfl, k5, gx, er⟩ := hW
    have bx := hb x (List.mem_of_getElem? gx)
    obtain ⟨f0, ef⟩ : ∃ f0, 6 - k = f0 + 1 := ⟨5 - k, by omega⟩
    refine ⟨_, rfl, _, _, rfl, rfl, _, rfl, ite2 (fun z => ?_) (fun z => ?_)⟩
    · have big : ¬ x < 128 := by
        have z' : 127 < x := of_decide_eq_true z
        omega
      rw [ef, rd_on gx big] at er
      refine ⟨fun σ' H'' => ∃ m', m' < 6 - k ∧ wRead H' p S at_ m' σ' H'', fun σ' H'' h => h, ?_⟩
      refine ⟨_, rfl, _, rfl, _, _, rfl, rfl, _, _, rfl, rfl, rfl, _, rfl, ite2 (fun y => ?_) (fun y => ?_)⟩
      · have h5 : k = 5 := by
          have := V.int.inj (of_decide_eq_true y)
          omega
        have f00 : f0 = 0 := by omega
        rw [f00, rd] at er
        rw [← er] at out
        exact out
      have k4 : k ≤ 4 := by
        have : ¬ (((at_ + k : Nat) : Int) - (at_ : Int) + 1 = 6) := fun q => y (decide_eq_true (congrArg V.int q))
        omega
      obtain ⟨f1, ef1⟩ : ∃ f1, f0 = f1 + 1 := ⟨f0 - 1, by omega⟩
      refine ⟨_, rfl, _, rfl, _, _, rfl, rfl, _, rfl, _, _, rfl, rfl, .inl ⟨by omega, by omega⟩, _, _, rfl, rfl, ?_⟩
      refine ⟨_, rfl, _, _, rfl, rfl, .inr ⟨by decide, by decide⟩, ?_⟩
      refine ⟨_, rfl, _, _, rfl, rfl, ?_⟩
      have ep : ((at_ + k : Nat) : Int) + 1 = ((at_ + (k + 1) : Nat) : Int) := by omega
      have en : num + (x - 128) * worth = num + x % 128 * worth := by
        rw [show x - 128 = x % 128 by omega]
      refine ⟨_, rfl, _, rfl, p, S, at_ + (k + 1), (by show [V.ref p, V.int (((at_ + k : Nat) : Int) + 1)] = _; rw [ep]), hp, fun x' hx' => ?_, fun hn => ?_⟩
      · refine ⟨6 - (k + 1), by omega, k + 1, num + x % 128 * worth, worth * 128, x', (by show [_, _, some (V.int (num + (x - 128) * worth)), _, some (V.int (((at_ + k : Nat) : Int) + 1)), _] = _; rw [ep, en]), rfl, rfl, by omega, hx', ?_⟩
        rw [show 6 - (k + 1) = f0 by omega]
        exact er
      · rw [ef1, rd_cut hn] at er
        rw [← er] at out
        exact out
    · have small : x < 128 := by
        have z' : ¬ 127 < x := fun y => z (decide_eq_true y)
        omega
      have fin : ¬ (x = 0 ∧ 0 < k) → Tups K H' [.int (num + x * worth), .int (((at_ + k : Nat) : Int) + 1)] Q := by
        intro nz
        rw [ef, rd_end gx nz small] at er
        rw [← er] at out
        have e1 : x % 128 = x := by omega
        have e2 : ((at_ + k + 1 : Nat) : Int) = ((at_ + k : Nat) : Int) + 1 := by omega
        show Tups K H' _ Q
        rw [← e2]
        have o2 : Tups K H' [.int (num + x % 128 * worth), .int ((at_ + k + 1 : Nat) : Int)] Q := out
        rw [e1] at o2
        exact o2
      have last : (¬ (x = 0 ∧ 0 < k)) → ∀ (D : Ends), D.rt = Q → tRet (tTupU K (tCons (tOp (rI0 fun i j => .int (i + j)) (tVar 2) (tOp (rI CMul fun i j => .int (i * j)) (tVar 5) (tVar 3))) (tCons (tOp (rI0 fun i j => .int (i + j)) (tVar 4) (tC (.int 1))) tNil))) D [some (.ref p), some (.int (at_ : Int)), some (.int num), some (.int worth), some (.int ((at_ + k : Nat) : Int)), some (.int x)] H' := by
        intro nz D eD
        show tTupU K _ _ H' D.rt
        rw [eD]
        exact ⟨_, rfl, _, rfl, _, rfl, _, _, rfl, rfl, .inl ⟨by omega, by omega⟩, _, _, rfl, rfl, _, rfl, _, _, rfl, rfl, (show 2 ≤ sizeLine by rw [sizeLine_eq]; decide), fin nz⟩
      refine ⟨_, rfl, rfl, _, rfl, ite2 (fun y => ?_) (fun y => iteF ?_)⟩
      · have y0 : x = 0 := V.int.inj (of_decide_eq_true y)
        refine ⟨_, rfl, _, rfl, _, _, rfl, rfl, _, rfl, ite2 (fun v => ?_) (fun v => ?_)⟩
        · have k0 : 0 < k := by
            have := of_decide_eq_true v
            omega
          rw [ef, rd_zero gx ⟨y0, k0⟩] at er
          rw [← er] at out
          exact out
        · exact last (fun q => v (decide_eq_true (by omega))) _ rfl
      · exact last (fun q => y (decide_eq_true (congrArg V.int q.1))) _ rfl
def spReadF (K : PySem.W.Frag) (cC : Addr) : Sp := fun vs H Q E => ∃ (p : Addr) (S : List Int) (k m : Nat), vs = [.ref p, .int (k : Int), .int (m : Int)] ∧ SqT K H p (S.map V.int) ∧ k ≤ 1000 ∧ 1 ≤ m ∧ m ≤ 1000 ∧ Out K cC cC H Q E (fixOf S k m)
theorem ok_readF {f : Addr} {fd : FuncData} (Ev : Env K mg) (Ex : Excs K mg e_Cut e_BadForm) (CByteAt : CalX P w K mg base "byte_at" 1 ["some", "place"] (spByte K e_Cut)) (F : Fun K "read_fixed" "read_fixed" sReadFixed f fd) : FnOk P w K mg base (L2.CX P w) 2 f fd ["some", "at", "many"] (spReadF K e_Cut) := by
  refine F.okX scReadFixed (fun vs H Q E h => ?_) (fun cdv A outer s H vs Q E hr h => ?_)
  · obtain ⟨p, S, k, m, rfl, _⟩ := h; rfl
  · obtain ⟨p, S, k, m, rfl, hp, k1, m0, m1, out⟩ := h
    refine ⟨_, (pss_cons (ps_set (i := 3) scReadFixed.nd rfl (.inl rfl) pe_int)
      (pss_cons (ps_for (passes_of rfl) rfl (pi_range2 (by rfl) Ev.b_range (pa_cons (pv 1) (pa_cons (pe_op op_add (pv 1) (pv 2)) pa_nil))) (pg_name (i := 4) scReadFixed.nd rfl (.inl rfl))
        (pss_one (ps_set (i := 3) scReadFixed.nd rfl (.inl rfl) (pe_op op_add (pe_op op_mul (pv 3) pe_int) (pe_cx (E := E) CByteAt (hr.mono (by decide)) (takes_of rfl rfl rfl rfl) (pa_cons (pv 0) (pa_cons (pv 4) pa_nil)))))))
      (pss_one (ps_ret (pe_tupU (pa_cons (pv 3) (pa_cons (pe_op op_add (pv 1) (pv 2)) pa_nil))))))), ?_⟩
    refine ⟨_, rfl, _, rfl, _, rfl, _, _, rfl, rfl, _, _, rfl, ⟨by omega, by omega, by omega, by omega⟩, for_range (lo := (k : Int)) (fun i σ H' => ∃ y, σ = [some (.ref p), some (.int (k : Int)), some (.int (m : Int)), some (.int (val256 ((S.drop k).take i))), y] ∧ H' = H ∧ (0 < i → k + i ≤ S.length)) ⟨none, rfl, rfl, fun z => absurd z (by decide)⟩ (fun i σ H' hi p' => ?_) (fun σ H' p' => ?_)⟩
    · obtain ⟨y, rfl, rfl, _⟩ := p'
      have im : i < m := by omega
      have ep : (k : Int) + (i : Int) = ((k + i : Nat) : Int) := by omega
      rw [ep]
      refine ⟨_, rfl, _, _, rfl, rfl, .inr ⟨by decide, by decide⟩, _, rfl, _, rfl, p, S, k + i, rfl, hp, fun x hx => ?_, fun hn => ?_⟩
      · have lx : k + i < S.length := (List.getElem?_eq_some_iff.mp hx).1
        have gi : (S.drop k)[i]? = some x := by rw [List.getElem?_drop]; exact hx
        refine ⟨_, _, rfl, rfl, some (.int ((k + i : Nat) : Int)), ?_, rfl, fun _ => by omega⟩
        rw [val_take gi]
        rfl
      · have lx : S.length ≤ k + i := List.getElem?_eq_none_iff.mp hn
        have e : fixOf S k m = .cut := by
          unfold fixOf
          rw [if_neg (by omega)]
        rw [e] at out
        exact out
    · obtain ⟨y, rfl, rfl, lim⟩ := p'
      have en : ((k : Int) + (m : Int) - (k : Int)).toNat = m := by omega
      rw [en] at lim ⊢
      by_cases c : k + m ≤ S.length
      · have e : fixOf S k m = .ok (val256 ((S.drop k).take m)) (k + m) := by
          unfold fixOf
          rw [if_pos c]
        rw [e] at out
        refine ⟨_, rfl, _, rfl, _, rfl, _, _, rfl, rfl, (show 2 ≤ sizeLine by rw [sizeLine_eq]; decide), ?_⟩
        have o2 : Tups K H' [.int (val256 ((S.drop k).take m)), .int ((k + m : Nat) : Int)] Q := out
        rw [Int.natCast_add] at o2
        exact o2
      · exact absurd (lim m0) c
/-! ### the law's walk -/
def spRes (K : PySem.W.Frag) : Sp := fun vs H Q _ => ∃ (p : Addr) (S : List Int) (k : Nat), vs = [.ref p, .int (k : Int)] ∧ SqT K H p (S.map V.int) ∧ Byt S ∧ k ≤ 1000 ∧ ∀ H' v, Same H H' → Shows K H' v (resOf S k) → Q v H'
theorem ok_lread {f : Addr} {fd : FuncData} (Ev : Env K mg) (F : Fun K "_law_read" "_law_read" sLawRead f fd) : FnOk P w K mg base CX0 1 f fd ["_law_some", "_law_at"] (spRes K) := by
  refine F.ok scLawRead (fun vs H Q E h => ?_) (fun cdv A outer s H vs Q E hr h => ?_)
  · obtain ⟨p, S, k, rfl, _⟩ := h; rfl
  · obtain ⟨p, S, at_, rfl, hp, hb, a1, q⟩ := h
    refine ⟨_, (pss_cons (ps_set (i := 2) scLawRead.nd rfl (.inl rfl) pe_int)
      (pss_cons (ps_set (i := 3) scLawRead.nd rfl (.inl rfl) pe_int)
      (pss_cons (ps_for PassesOwn.never rfl (pi_range1 (by rfl) Ev.b_range (pa_cons pe_int pa_nil)) (pg_name (i := 4) scLawRead.nd rfl (.inl rfl))
        (pss_cons (ps_if (pt_cmpR op_ge (pe_op op_add (pv 1) (pv 4)) (pe_callB call_len_seq (by rfl) Ev.b_len PySem.boot_len (pa_cons (pv 0) pa_nil)) (nomark _))
          (pss_one (ps_ret pe_str))
          pss_nil)
        (pss_cons (ps_set (i := 5) scLawRead.nd rfl (.inl rfl) (pe_ix ix_tup (pv 0) (pe_op op_add (pv 1) (pv 4)) (fun _ _ => rfl)))
        (pss_cons (ps_if (PW.pt (pw_and (pt_cmpR op_eq (pv 5) pe_int (nomark _)) (pw_and1 (pt_cmpR op_gt (pv 4) pe_int (nomark _)))))
          (pss_one (ps_ret pe_str))
          pss_nil)
        (pss_cons (ps_set (i := 2) scLawRead.nd rfl (.inl rfl) (pe_op op_add (pv 2) (pe_op op_mul (pe_op op_mod (pv 5) pe_int) (pv 3))))
        (pss_cons (ps_set (i := 3) scLawRead.nd rfl (.inl rfl) (pe_op op_mul (pv 3) pe_int))
        (pss_one (ps_if (pt_cmpR op_lt (pv 5) pe_int (nomark _))
          (pss_one (ps_ret (pe_tupU (pa_cons (pv 2) (pa_cons (pe_op op_add (pe_op op_add (pv 1) (pv 4)) pe_int) pa_nil)))))
          pss_nil))))))))
      (pss_one (ps_ret pe_str))))), ?_⟩
    refine ⟨6, rfl, by decide, by decide, for_range (lo := 0) (n := 6) (fun i σ H' => ∃ (num unit : Int) (y4 y5 : Option V), σ = [some (.ref p), some (.int (at_ : Int)), some (.int num), some (.int unit), y4, y5] ∧ H' = H ∧ rd S at_ (6 - i) i num unit = resOf S at_) ⟨0, 1, none, none, rfl, rfl, rfl⟩ (fun i σ H' hi p' => ?_) (fun σ H' p' => ?_)⟩
    · obtain ⟨num, unit, y4, y5, rfl, rfl, er⟩ := p'
      have e0 : (0 : Int) + (i : Int) = ((i : Nat) : Int) := by omega
      rw [e0]
      obtain ⟨f0, ef⟩ : ∃ f0, 6 - i = f0 + 1 := ⟨5 - i, by omega⟩
      have ep : (at_ : Int) + (i : Int) = ((at_ + i : Nat) : Int) := by omega
      refine ⟨_, rfl, _, rfl, _, _, rfl, rfl, _, rfl, p, _, rfl, .inr hp, _, _, rfl, rfl, _, rfl, ite2 (fun z => ?_) (fun z => ?_)⟩
      · have z' := of_decide_eq_true z
        rw [List.length_map] at z'
        have hn : S[at_ + i]? = none := List.getElem?_eq_none (by omega)
        rw [ef, rd_cut hn] at er
        refine q _ _ (Same.refl _) ?_
        rw [← er]
        rfl
      have lk : at_ + i < S.length := by
        have : ¬ ((S.map V.int).length : Int) ≤ (at_ : Int) + (i : Int) := fun y => z (decide_eq_true y)
        rw [List.length_map] at this
        omega
      have gx : S[at_ + i]? = some S[at_ + i] := List.getElem?_eq_getElem lk
      have gk : (S.map V.int)[at_ + i]? = some (.int S[at_ + i]) := by rw [List.getElem?_map, gx]; rfl
      have bx := hb S[at_ + i] (List.getElem_mem lk)
      obtain ⟨x, ex⟩ : ∃ x, x = S[at_ + i] := ⟨_, rfl⟩
      rw [← ex] at gx gk bx
      refine ⟨_, rfl, _, rfl, _, rfl, _, _, rfl, rfl, p, _, _, _, rfl, rfl, hp, at_of ep gk, ?_⟩
      have more : ¬ (x = 0 ∧ 0 < i) → ∀ (D : Ends), D.rt = Q → (D.nx = fun σ' H'' => ∃ (num unit : Int) (y4 y5 : Option V), σ' = [some (.ref p), some (.int (at_ : Int)), some (.int num), some (.int unit), y4, y5] ∧ H'' = H' ∧ rd S at_ (6 - (i + 1)) (i + 1) num unit = resOf S at_) →
          tSeq (tAsg (tOp (rI0 fun i j => .int (i + j)) (tVar 2) (tOp (rI CMul fun i j => .int (i * j)) (tOp (rI (fun _ j => 0 < j) fun i j => .int (i % j)) (tVar 5) (tC (.int 128))) (tVar 3))) (gName 2))
            (tSeq (tAsg (tOp (rI CMul fun i j => .int (i * j)) (tVar 3) (tC (.int 128))) (gName 3))
              (tIfS (tTest (tOp (rI0 fun i j => .bl (decide (i < j))) (tVar 5) (tC (.int 128)))) (tRet (tTupU K (tCons (tVar 2) (tCons (tOp (rI0 fun i j => .int (i + j)) (tOp (rI0 fun i j => .int (i + j)) (tVar 1) (tVar 4)) (tC (.int 1))) tNil)))) tNext)) D
            [some (.ref p), some (.int (at_ : Int)), some (.int num), some (.int unit), some (.int (i : Int)), some (.int x)] H' := by
        intro nz D eD eN
        refine ⟨_, rfl, _, rfl, _, 128, rfl, rfl, (show (0 : Int) < 128 by decide), _, rfl, _, _, rfl, rfl, .inl ⟨by omega, by omega⟩, _, _, rfl, rfl, ?_⟩
        refine ⟨_, rfl, _, _, rfl, rfl, .inr ⟨by decide, by decide⟩, ?_⟩
        refine ⟨_, rfl, _, _, rfl, rfl, _, rfl, ite2 (fun v => ?_) (fun v => ?_)⟩
        · have small : x < 128 := of_decide_eq_true v
          rw [ef, rd_end gx nz small] at er
          show tTupU K _ _ H' D.rt
          rw [eD]
          refine ⟨_, rfl, _, rfl, _, rfl, _, _, rfl, rfl, _, _, rfl, rfl, (show 2 ≤ sizeLine by rw [sizeLine_eq]; decide), fun H3 t3 s3 h3 => q _ _ s3 ?_⟩
          rw [← er]
          refine ⟨t3, rfl, ?_⟩
          have e2 : ((at_ + i + 1 : Nat) : Int) = (at_ : Int) + (i : Int) + 1 := by omega
          rw [e2]
          exact h3
        · have big : ¬ x < 128 := fun y => v (decide_eq_true y)
          rw [ef, rd_on gx big] at er
          show D.nx _ H'
          rw [eN]
          refine ⟨num + x % 128 * unit, unit * 128, _, _, rfl, rfl, ?_⟩
          rw [show 6 - (i + 1) = f0 by omega]
          exact er
      refine ⟨_, rfl, rfl, _, rfl, ite2 (fun y => ?_) (fun y => iteF ?_)⟩
      · have y0 : x = 0 := by
          have := V.int.inj (of_decide_eq_true y)
          exact this
        refine ⟨_, rfl, _, _, rfl, rfl, _, rfl, ite2 (fun v => ?_) (fun v => ?_)⟩
        · have i0 : 0 < i := by
            have := of_decide_eq_true v
            omega
          rw [ef, rd_zero gx ⟨y0, i0⟩] at er
          refine q _ _ (Same.refl _) ?_
          rw [← er]
          rfl
        · exact more (fun k => v (decide_eq_true (by omega))) _ rfl rfl
      · exact more (fun k => y (decide_eq_true (congrArg V.int k.1))) _ rfl rfl
    · obtain ⟨num, unit, y4, y5, rfl, rfl, er⟩ := p'
      refine q _ _ (Same.refl _) ?_
      rw [← er]
      rfl
/-! ### what is told, or caught -/
theorem ok_told {f : Addr} {fd : FuncData} (Ev : Env K mg) (Ex : Excs K mg e_Cut e_BadForm) (CReadNumber : CalX P w K mg base "read_number" 2 ["some", "at"] (spRead K e_Cut e_BadForm)) (F : Fun K "_law_told" "_law_told" sLawTold f fd) : FnOk P w K mg base CX0 3 f fd ["_law_some", "_law_at"] (spRes K) := by
  refine F.ok scLawTold (fun vs H Q E h => ?_) (fun cdv A outer s H vs Q E hr h => ?_)
  · obtain ⟨p, S, k, rfl, _⟩ := h; rfl
  · obtain ⟨p, S, k, rfl, hp, hb, k1, q⟩ := h
    refine ⟨_, (pss_cons (ps_set (i := 2) scLawTold.nd rfl (.inl rfl) pe_non)
      (pss_cons (ps_try_many (tb := fun W => tAsg (tCallS (spRead K e_Cut e_BadForm) (WE W) (tCons (tVar 0) (tCons (tVar 1) tNil))) (gName 2)) (Wout := fun _ _ _ _ => False)
          (l := [(.ref e_Cut, fun _ _ _ => tAsg (tC (.str "Cut")) (gName 2)), (.ref e_BadForm, fun _ _ _ => tAsg (tC (.str "BadForm")) (gName 2))]) rfl rfl takes0
          (fun W pn xe tk _ => pss_one (ps_set (i := 2) scLawTold.nd rfl (.inl rfl) (by exact (pe_cs CReadNumber (hr.mono (by decide)) tk (by exact (pa_cons (pv 0) (pa_cons (pv 1) pa_nil)))))))
          (.cons ⟨rfl, by decide, .inl Ex.Cut.g⟩ (fun a oe cls d pn hz hf => pss_one (ps_set (i := 2) scLawTold.nd rfl (.inl rfl) pe_str))
            (.cons ⟨rfl, by decide, .inl Ex.BadForm.g⟩ (fun a oe cls d pn hz hf => pss_one (ps_set (i := 2) scLawTold.nd rfl (.inl rfl) pe_str)) .nil)))
      (pss_one (ps_ret (pv 2))))), ?_⟩
    refine ⟨_, rfl, _, rfl, p, S, k, rfl, hp, hb, ?_⟩
    cases e : resOf S k with
    | cut =>
      rw [e] at q
      exact ⟨true, Ex.p_Cut_Cut, fun _ a na => ⟨_, rfl, q _ _ (Same.refl _) rfl⟩, fun z => nomatch z⟩
    | bad =>
      rw [e] at q
      exact ⟨false, Ex.p_BadForm_Cut, (fun z => nomatch z), fun _ => ⟨true, Ex.p_BadForm_BadForm, fun _ a na => ⟨_, rfl, q _ _ (Same.refl _) rfl⟩, fun z => nomatch z⟩⟩
    | ok n r =>
      rw [e] at q
      exact fun H3 t3 s3 h3 => ⟨_, rfl, q _ _ s3 ⟨t3, rfl, h3⟩⟩
def spFix (K : PySem.W.Frag) : Sp := fun vs H Q _ => ∃ (p : Addr) (S : List Int) (k m : Nat), vs = [.ref p, .int (k : Int), .int (m : Int)] ∧ SqT K H p (S.map V.int) ∧ k ≤ 1000 ∧ 1 ≤ m ∧ m ≤ 1000 ∧ ∀ H' v, Same H H' → Shows K H' v (fixOf S k m) → Q v H'
theorem ok_lfix {f : Addr} {fd : FuncData} (Ev : Env K mg) (Ex : Excs K mg e_Cut e_BadForm) (CReadFixed : CalX P w K mg base "read_fixed" 2 ["some", "at", "many"] (spReadF K e_Cut)) (F : Fun K "_law_fixed" "_law_fixed" sLawFixed f fd) : FnOk P w K mg base CX0 3 f fd ["_law_some", "_law_at", "_law_many"] (spFix K) := by
  refine F.ok scLawFixed (fun vs H Q E h => ?_) (fun cdv A outer s H vs Q E hr h => ?_)
  · obtain ⟨p, S, k, m, rfl, _⟩ := h; rfl
  · obtain ⟨p, S, k, m, rfl, hp, k1, m0, m1, q⟩ := h
    refine ⟨_, (pss_cons (ps_set (i := 3) scLawFixed.nd rfl (.inl rfl) pe_non)
      (pss_cons (ps_try_many (tb := fun W => tAsg (tCallS (spReadF K e_Cut) (WE W) (tCons (tVar 0) (tCons (tVar 1) (tCons (tVar 2) tNil)))) (gName 3)) (Wout := fun _ _ _ _ => False)
          (l := [(.ref e_Cut, fun _ _ _ => tAsg (tC (.str "Cut")) (gName 3)), (.ref e_BadForm, fun _ _ _ => tAsg (tC (.str "BadForm")) (gName 3))]) rfl rfl takes0
          (fun W pn xe tk _ => pss_one (ps_set (i := 3) scLawFixed.nd rfl (.inl rfl) (by exact (pe_cs CReadFixed (hr.mono (by decide)) tk (by exact (pa_cons (pv 0) (pa_cons (pv 1) (pa_cons (pv 2) pa_nil))))))))
          (.cons ⟨rfl, by decide, .inl Ex.Cut.g⟩ (fun a oe cls d pn hz hf => pss_one (ps_set (i := 3) scLawFixed.nd rfl (.inl rfl) pe_str))
            (.cons ⟨rfl, by decide, .inl Ex.BadForm.g⟩ (fun a oe cls d pn hz hf => pss_one (ps_set (i := 3) scLawFixed.nd rfl (.inl rfl) pe_str)) .nil)))
      (pss_one (ps_ret (pv 3))))), ?_⟩
    refine ⟨_, rfl, _, rfl, _, rfl, p, S, k, m, rfl, hp, k1, m0, m1, ?_⟩
    by_cases c : k + m ≤ S.length
    · have e : fixOf S k m = .ok (val256 ((S.drop k).take m)) (k + m) := by
        unfold fixOf
        rw [if_pos c]
      rw [e] at q ⊢
      exact fun H3 t3 s3 h3 => ⟨_, rfl, q _ _ s3 ⟨t3, rfl, h3⟩⟩
    · have e : fixOf S k m = .cut := by
        unfold fixOf
        rw [if_neg c]
      rw [e] at q ⊢
      exact ⟨true, Ex.p_Cut_Cut, fun _ a na => ⟨_, rfl, q _ _ (Same.refl _) rfl⟩, fun z => nomatch z⟩
/-! ### two answers that are the same -/
def spSameV (K : PySem.W.Frag) : Sp := fun vs H Q _ => ∃ (u v : V) (r : Res), vs = [u, v] ∧ Shows K H u r ∧ Shows K H v r ∧ ∀ H', Same H H' → Q (.bl true) H'
theorem ok_sameV {f : Addr} {fd : FuncData} (Ev : Env K mg) (CLawSame : Cal P w K mg base "_law_same" 1 ["_law_told_here", "_law_due"] spSame) (F : Fun K "_law_same" "_law_same" sLawSame f fd) : FnOk P w K mg base CX0 2 f fd ["_law_told_here", "_law_due"] (spSameV K) := by
  refine F.ok scLawSame (fun vs H Q E h => ?_) (fun cdv A outer s H vs Q E hr h => ?_)
  · obtain ⟨u, v, r, rfl, _⟩ := h; rfl
  · obtain ⟨u, v, r, rfl, hu, hv, q⟩ := h
    refine ⟨_, (pss_cons (ps_if (pt_cmpR op_isN (pv 1) pe_non (nomark _))
        (pss_one (ps_ret (pe_cmpR op_isN (pv 0) pe_non (nomark _))))
        pss_nil)
      (pss_cons (ps_if (pt_val (pe_callB call_isi (by rfl) Ev.b_isinstance (by decide +kernel) (pa_cons (pv 1) (pa_cons (pe_btype (n := "bool") (by rfl) Ev.b_bool (by decide +kernel)) pa_nil))))
        (pss_one (ps_ret (pe_and (pe_callB call_isi (by rfl) Ev.b_isinstance (by decide +kernel) (pa_cons (pv 0) (pa_cons (pe_btype (n := "bool") (by rfl) Ev.b_bool (by decide +kernel)) pa_nil))) (pe_one (pe_cmpR op_eq (pv 0) (pv 1) (nomark _))))))
        pss_nil)
      (pss_cons (ps_if (pt_val (pe_callB call_isi (by rfl) Ev.b_isinstance (by decide +kernel) (pa_cons (pv 1) (pa_cons (pe_btype (n := "tuple") (by rfl) Ev.b_tuple (by decide +kernel)) pa_nil))))
        (pss_cons (ps_if (PW.pt (pw_or (pt_not (pt_val (pe_callB call_isi (by rfl) Ev.b_isinstance (by decide +kernel) (pa_cons (pv 0) (pa_cons (pe_btype (n := "tuple") (by rfl) Ev.b_tuple (by decide +kernel)) pa_nil))))) (pw_or1 (pt_cmpR op_ne (pe_callB call_len_seq (by rfl) Ev.b_len PySem.boot_len (pa_cons (pv 0) pa_nil)) (pe_callB call_len_seq (by rfl) Ev.b_len PySem.boot_len (pa_cons (pv 1) pa_nil)) (nomark _)))))
          (pss_one (ps_ret pe_bl))
          pss_nil)
        (pss_one (ps_ret (pe_callB (cr_all rfl) (by rfl) Ev.b_all (by decide +kernel) (pa_cons (pe_lc (own := [("_law_one", 2), ("_law_other", 3)]) (g := gTup K 2 (gCons (gName 2) (gCons (gName 3) (gNil)))) (tt := tYes) (by rfl) scLawSame.nd (RZ.pi_zipA (by rfl) Ev.b_zip (pa_cons (pv 0) (pa_cons (pv 1) pa_nil))) (blkOk_by (own := [("_law_one", 2), ("_law_other", 3)]) (N := nLawSame) (sc := defScope sLawSame) (by decide +kernel)) (fun _ _ _ _ _ => (pg_tup (by rfl) (pgs_cons (pg_name (i := 2) scLawSame.nd rfl (.inl rfl)) (pgs_cons (pg_name (i := 3) scLawSame.nd rfl (.inl rfl)) pgs_nil)))) (fun _ _ _ _ _ => pts_nil) (fun _ _ _ _ _ => (pe_c CLawSame (hr.mono (by decide)) (pa_cons (pv 2) (pa_cons (pv 3) pa_nil))))) pa_nil)))))
        pss_nil)
      (pss_cons (ps_if (pt_val (pe_callB call_isi (by rfl) Ev.b_isinstance (by decide +kernel) (pa_cons (pv 1) (pa_cons (pe_btype (n := "str") (by rfl) Ev.b_str (by decide +kernel)) pa_nil))))
        (pss_one (ps_ret (pe_and (pe_callB call_isi (by rfl) Ev.b_isinstance (by decide +kernel) (pa_cons (pv 0) (pa_cons (pe_btype (n := "str") (by rfl) Ev.b_str (by decide +kernel)) pa_nil))) (pe_one (pe_cmpR op_eq (pv 0) (pv 1) (nomark _))))))
        pss_nil)
      (pss_one (ps_ret (pe_and (pe_callB call_isi (by rfl) Ev.b_isinstance (by decide +kernel) (pa_cons (pv 0) (pa_cons (pe_btype (n := "int") (by rfl) Ev.b_int (by decide +kernel)) pa_nil))) (pe_and (pe_not (pe_callB call_isi (by rfl) Ev.b_isinstance (by decide +kernel) (pa_cons (pv 0) (pa_cons (pe_btype (n := "bool") (by rfl) Ev.b_bool (by decide +kernel)) pa_nil)))) (pe_one (pe_cmpR op_eq (pv 0) (pv 1) (nomark _))))))))))), ?_⟩
    have txt : ∀ x : Str, u = .str x → v = .str x → (decide (V.str x = V.str x) = true) := fun x _ _ => decide_eq_true rfl
    have words : (∃ x : Str, u = .str x ∧ v = .str x) ∨ ∃ (p t : Addr) (B : List Int), u = .ref p ∧ v = .ref t ∧ SqT K H p (B.map V.int) ∧ SqT K H t (B.map V.int) ∧ B.length ≤ 1000 := by
      cases r with
      | cut => exact .inl ⟨_, hu, hv⟩
      | bad => exact .inl ⟨_, hu, hv⟩
      | ok n k =>
        obtain ⟨p, rfl, hp⟩ := hu
        obtain ⟨t, rfl, ht⟩ := hv
        exact .inr ⟨p, t, [n, (k : Int)], rfl, rfl, hp, ht, by simp⟩
    rcases words with ⟨x, rfl, rfl⟩ | ⟨p, r, B, rfl, rfl, hp, hq, few⟩
    · refine ⟨_, rfl, rfl, _, rfl, iteF ?_⟩
      refine ⟨.str x, rfl, _, _, _, _, false, rfl, .ty "bool", .base (.str _), k_sb, false, rfl, iteF ?_⟩
      refine ⟨.str x, rfl, _, _, _, _, false, rfl, .ty "tuple", .base (.str _), k_st, false, rfl, iteF ?_⟩
      refine ⟨.str x, rfl, _, _, _, _, true, rfl, .ty "str", .base (.str _), k_ss, true, rfl, iteT ?_⟩
      refine ⟨.str x, rfl, _, _, _, _, true, rfl, .ty "str", .base (.str _), k_ss, true, rfl, iteT ?_⟩
      refine ⟨.str x, rfl, .str x, rfl, rfl, ?_⟩
      rw [decide_eq_true rfl]
      exact q _ (Same.refl _)
    · refine ⟨_, rfl, rfl, _, rfl, iteF ?_⟩
      refine ⟨.ref r, rfl, _, _, _, _, false, rfl, .ty "bool", ty_tup hq, k_tb, false, rfl, iteF ?_⟩
      refine ⟨.ref r, rfl, _, _, _, _, true, rfl, .ty "tuple", ty_tup hq, k_tt, true, rfl, iteT ?_⟩
      refine ⟨.ref p, rfl, _, _, _, _, true, rfl, .ty "tuple", ty_tup hp, k_tt, true, rfl, iteF ?_⟩
      refine ⟨_, rfl, p, _, rfl, .inr hp, _, rfl, r, _, rfl, .inr hq, rfl, _, rfl, iteNS rfl ?_⟩
      refine ⟨_, rfl, _, rfl, p, r, _, _, rfl, .inr ⟨hp, hq, fun D nD => ?_⟩⟩
      have lz : ((List.replicate B.length true).map V.bl).length = (B.map V.int).length := by rw [List.length_map, List.length_map, List.length_replicate]
      refine lc_zip (xs := B.map V.int) (ys := B.map V.int) (zs := (List.replicate B.length true).map V.bl) nD hp hq rfl lz ?_ (fun _ _ => rfl) (fun i x y z H2 R hx hy hz sm R1 => ?_) (fun H2 sm h2 => ?_)
      · exact Nat.le_of_lt (small1000 (by rw [List.length_map]; omega))
      · obtain ⟨n, hn, rfl⟩ := got hx
        have ey : y = .int n := Option.some.inj (hy.symm.trans hx)
        have ez : z = .bl true := by
          rw [List.getElem?_map] at hz
          cases e : (List.replicate B.length true)[i]? with
          | none => rw [e] at hz; cases hz
          | some b =>
            rw [e] at hz
            have eb : b = true := List.eq_of_mem_replicate (List.mem_of_getElem? e)
            rw [eb] at hz
            exact (Option.some.inj hz).symm
        subst ey ez
        refine ⟨_, rfl, _, rfl, n, n, rfl, ?_⟩
        rw [decide_eq_true rfl]
        exact R1 _ (Same.refl _)
      · refine ⟨D, List.replicate B.length true, rfl, SqL.of h2, ?_⟩
        have e : (List.replicate B.length true).all id = true := by
          rw [List.all_eq_true]
          intro b hb
          rw [List.eq_of_mem_replicate hb]
          rfl
        rw [e]
        exact q _ sm
/-! ### the law -/
theorem four {d : Int} (h0 : 0 ≤ d) (h1 : d < 4) : ∃ x : Int, atI [V.int 0, .int 127, .int 128, .int 255] d = some (.int x) ∧ 0 ≤ x ∧ x < 256 := by
  have : d = 0 ∨ d = 1 ∨ d = 2 ∨ d = 3 := by omega
  rcases this with rfl | rfl | rfl | rfl
  · exact ⟨0, rfl, by decide, by decide⟩
  · exact ⟨127, rfl, by decide, by decide⟩
  · exact ⟨128, rfl, by decide, by decide⟩
  · exact ⟨255, rfl, by decide, by decide⟩
def spLaw (K : PySem.W.Frag) : Sp := fun vs H Q _ => ∃ (a : Addr) (ns : List Int), vs = [.ref a] ∧ SqL K H a (ns.map V.int) ∧ ns.length ≤ 63 ∧ ∀ H', Q (.bl true) H'
theorem ok_law {f : Addr} {fd : FuncData} (Ev : Env K mg) (CLawD : Cal P w K mg base "_law_d" 1 ["_law_cell", "_law_place", "_law_many"] spD) (CLawSame : Cal P w K mg base "_law_same" 2 ["_law_told_here", "_law_due"] (spSameV K)) (CLawRead : Cal P w K mg base "_law_read" 1 ["_law_some", "_law_at"] (spRes K))
    (CLawTold : Cal P w K mg base "_law_told" 3 ["_law_some", "_law_at"] (spRes K)) (CLawFixed : Cal P w K mg base "_law_fixed" 3 ["_law_some", "_law_at", "_law_many"] (spFix K)) (F : Fun K "law" "law" sLaw f fd) :
    FnOk P w K mg base CX0 4 f fd ["_law_script"] (spLaw K) := by
  refine F.ok scLaw (fun vs H Q E h => ?_) (fun cdv A outer s H vs Q E hr h => ?_)
  · obtain ⟨a, ns, rfl, _⟩ := h; rfl
  · obtain ⟨a, ns, rfl, hS, hlen, q⟩ := h
    refine ⟨_, (pss_cons (ps_set (i := 1) scLaw.nd rfl (.inl rfl) (pe_tupU pa_nil))
      (pss_cons (ps_for PassesOwn.never rfl (pi_list (pe_slice sl_list (pv 0) po_none (po_some pe_int))) (pg_name (i := 2) scLaw.nd rfl (.inl rfl))
        (pss_cons (ps_set (i := 4) scLaw.nd rfl (.inl rfl) (pe_c CLawD (hr.mono (by decide)) (pa_cons (pv 2) (pa_cons pe_int (pa_cons pe_int pa_nil)))))
        (pss_cons (ps_if (pt_cmpR op_eq (pe_c CLawD (hr.mono (by decide)) (pa_cons (pv 2) (pa_cons pe_int (pa_cons pe_int pa_nil)))) pe_int (nomark _))
          (pss_one (ps_set (i := 4) scLaw.nd rfl (.inl rfl) (pe_ix ix_list (pe_lst (pa_cons pe_int (pa_cons pe_int (pa_cons pe_int (pa_cons pe_int pa_nil))))) (pe_c CLawD (hr.mono (by decide)) (pa_cons (pv 2) (pa_cons pe_int (pa_cons pe_int pa_nil)))) (fun _ _ => rfl))))
          pss_nil)
        (pss_cons (ps_if (pt_cmpR op_eq (pe_c CLawD (hr.mono (by decide)) (pa_cons (pv 2) (pa_cons pe_int (pa_cons pe_int pa_nil)))) pe_int (nomark _))
          (pss_one (ps_set (i := 4) scLaw.nd rfl (.inl rfl) (pe_op op_add pe_int (pe_c CLawD (hr.mono (by decide)) (pa_cons (pv 2) (pa_cons pe_int (pa_cons pe_int pa_nil)))))))
          pss_nil)
        (pss_one (ps_set (i := 1) scLaw.nd rfl (.inl rfl) (pe_op op_catU (pv 1) (pe_tupU (pa_cons (pv 4) pa_nil)))))))))
      (pss_cons (ps_for PassesOwn.never rfl (pi_range1 (by rfl) Ev.b_range (pa_cons (pe_op op_add (pe_callB call_len_seq (by rfl) Ev.b_len PySem.boot_len (pa_cons (pv 1) pa_nil)) pe_int) pa_nil)) (pg_name (i := 3) scLaw.nd rfl (.inl rfl))
        (pss_cons (ps_if (pt_not (pt_val (pe_c CLawSame (hr.mono (by decide)) (pa_cons (pe_c CLawTold (hr.mono (by decide)) (pa_cons (pv 1) (pa_cons (pv 3) pa_nil))) (pa_cons (pe_c CLawRead (hr.mono (by decide)) (pa_cons (pv 1) (pa_cons (pv 3) pa_nil))) pa_nil)))))
          (pss_one (ps_ret pe_bl))
          pss_nil)
        (pss_one (ps_for PassesOwn.never rfl (pi_range2 (by rfl) Ev.b_range (pa_cons pe_int (pa_cons pe_int pa_nil))) (pg_name (i := 5) scLaw.nd rfl (.inl rfl))
          (pss_cons (ps_set (i := 6) scLaw.nd rfl (.inl rfl) pe_str)
          (pss_cons (ps_if (pt_cmpR op_le (pe_op op_add (pv 3) (pv 5)) (pe_callB call_len_seq (by rfl) Ev.b_len PySem.boot_len (pa_cons (pv 1) pa_nil)) (nomark _))
            (pss_cons (ps_set (i := 7) scLaw.nd rfl (.inl rfl) pe_int)
            (pss_cons (ps_for PassesOwn.never rfl (pi_tup (pe_slice sl_tupU (pv 1) (po_some (pv 3)) (po_some (pe_op op_add (pv 3) (pv 5))))) (pg_name (i := 4) scLaw.nd rfl (.inl rfl))
              (pss_one (ps_set (i := 7) scLaw.nd rfl (.inl rfl) (pe_op op_add (pe_op op_mul (pv 7) pe_int) (pv 4)))))
            (pss_one (ps_set (i := 6) scLaw.nd rfl (.inl rfl) (pe_tupU (pa_cons (pv 7) (pa_cons (pe_op op_add (pv 3) (pv 5)) pa_nil)))))))
            pss_nil)
          (pss_one (ps_if (pt_not (pt_val (pe_c CLawSame (hr.mono (by decide)) (pa_cons (pe_c CLawFixed (hr.mono (by decide)) (pa_cons (pv 1) (pa_cons (pv 3) (pa_cons (pv 5) pa_nil)))) (pa_cons (pv 6) pa_nil)))))
            (pss_one (ps_ret pe_bl))
            pss_nil))))))))
      (pss_one (ps_ret pe_bl))))), ?_⟩
    have c40 : cutV (ns.map V.int) none (some 40) = (ns.take 40).map V.int := cut_to ns 40
    refine ⟨Nat.zero_le _, fun H1 t1 s1 h1 => ?_⟩
    refine ⟨_, rfl, 40, rfl, a, _, rfl, s1.seq hS, fun p2 n2 => ?_⟩
    rw [c40]
    have s2 : Same H1 (upd H1 p2 (.lst ((ns.take 40).map V.int))) := grow n2
    have h2 : SqL K (upd H1 p2 (.lst ((ns.take 40).map V.int))) p2 ((ns.take 40).map V.int) := SqL.of upd_same
    have h1' := keepT s2 h1
    generalize upd H1 p2 (.lst ((ns.take 40).map V.int)) = H2 at s2 h2 h1'
    refine ⟨p2, rfl, ⟨_, h2⟩, for_list (xs := (ns.take 40).map V.int) (fun i σ H' => ∃ (t : Addr) (S : List Int) (y2 y4 : Option V), σ = [some (.ref a), some (.ref t), y2, none, y4, none, none, none] ∧ Same H2 H' ∧ SqT K H' t (S.map V.int) ∧ Byt S ∧ S.length = i) ⟨t1, [], none, none, rfl, Same.refl _, h1', (fun x hx => by cases hx), rfl⟩ (fun i σ H' _ p => ?_) (fun i x σ H5 hx p => ?_) (fun σ H5 p => ?_)⟩
    · obtain ⟨_, _, _, _, _, e, _⟩ := p
      exact e.seq h2
    · obtain ⟨t, S, y2, y4, rfl, sm5, ht, hb, lS⟩ := p
      obtain ⟨c, hc, rfl⟩ := got hx
      have li : i < 40 := by
        have := (List.getElem?_eq_some_iff.mp hc).1
        rw [List.length_take] at this
        omega
      refine ⟨_, rfl, c, 3, 256, rfl, by decide, by decide, by decide, fun d d0 d1 => ?_⟩
      dsimp only [gName]
      refine seq_by (t := tIfS _ _ _) (fun σ H' => ∃ o : Int, σ = [some (.ref a), some (.ref t), some (.int c), none, some (.int o), none, none, none] ∧ Same H5 H' ∧ 0 ≤ o ∧ o < 256) (fun σ H6 p => ?_) (fun go => ?_)
      · obtain ⟨o, rfl, sm6, o0, o1⟩ := p
        refine seq_by (t := tIfS _ _ _) (fun σ H' => ∃ o : Int, σ = [some (.ref a), some (.ref t), some (.int c), none, some (.int o), none, none, none] ∧ Same H5 H' ∧ 0 ≤ o ∧ o < 256) (fun σ H7 p => ?_) (fun go => ?_)
        · obtain ⟨o, rfl, sm7, o0, o1⟩ := p
          refine ⟨_, rfl, _, rfl, (show 1 ≤ sizeLine by rw [sizeLine_eq]; decide), fun H8 t8 s8 h8 => ?_⟩
          refine ⟨t, t8, _, _, rfl, rfl, keepT (sm7.trans s8) ht, h8, ?_, fun H9 t9 s9 h9 => ?_⟩
          · exact Nat.le_of_lt (small1000 (by rw [List.length_map]; simp only [List.length_cons, List.length_nil]; omega))
          refine ⟨t9, S ++ [o], _, _, rfl, sm5.trans (sm7.trans (s8.trans s9)), ?_, ?_, ?_⟩
          · rw [List.map_append]; exact h9
          · intro x hx
            rcases List.mem_append.mp hx with hx | hx
            · exact hb x hx
            · rw [List.mem_singleton.mp hx]
              exact ⟨o0, o1⟩
          · rw [List.length_append, lS]
            rfl
        · refine ⟨_, rfl, c, 1, 3, rfl, by decide, by decide, by decide, fun d2 e0 e1 => ⟨rfl, _, rfl, ite2 (fun _ => ?_) (fun _ => go _ _ ⟨o, rfl, sm6, o0, o1⟩)⟩⟩
          refine ⟨_, rfl, c, 3, 128, rfl, by decide, by decide, by decide, fun d3 f0 f1 => ⟨_, _, rfl, rfl, go _ _ ⟨128 + d3, rfl, sm6, by omega, by omega⟩⟩⟩
      · refine ⟨_, rfl, c, 1, 3, rfl, by decide, by decide, by decide, fun d2 e0 e1 => ⟨rfl, _, rfl, ite2 (fun _ => ?_) (fun _ => go _ _ ⟨d, rfl, Same.refl _, d0, d1⟩)⟩⟩
        refine ⟨(show 4 ≤ sizeLine by rw [sizeLine_eq]; decide), fun pl nl => ?_⟩
        refine ⟨_, rfl, c, 3, 4, rfl, by decide, by decide, by decide, fun d3 f0 f1 => ?_⟩
        obtain ⟨x, ax, x0, x1⟩ := four f0 f1
        exact ⟨pl, _, _, _, rfl, rfl, SqL.of upd_same, ax, go _ _ ⟨x, rfl, grow nl, x0, x1⟩⟩
    · obtain ⟨t, S, y2, y4, rfl, sm5, ht, hb, lS⟩ := p
      have lS40 : S.length ≤ 40 := by
        rw [lS, List.length_map, List.length_take]
        omega
      clear lS
      refine ⟨_, rfl, t, _, rfl, .inr ht, _, _, rfl, rfl, _, rfl, by omega, by rw [List.length_map]; omega, for_range (lo := 0) (fun i σ H' => ∃ y2 y3 y4 y5 y6 y7, σ = [some (.ref a), some (.ref t), y2, y3, y4, y5, y6, y7] ∧ Same H5 H') ⟨_, _, _, _, _, _, rfl, Same.refl _⟩ (fun i σ H6 hi p => ?_) (fun σ H6 p => q _)⟩
      obtain ⟨y2, y3, y4, y5, y6, y7, rfl, sm6⟩ := p
      have e0 : (0 : Int) + (i : Int) = ((i : Nat) : Int) := by omega
      rw [e0]
      have i40 : i ≤ 41 := by
        rw [List.length_map] at hi
        omega
      have ht6 := keepT sm6 ht
      refine ⟨_, rfl, _, rfl, t, S, i, rfl, ht6, hb, by omega, fun H7 v7 s7 sh7 => ?_⟩
      refine ⟨_, rfl, _, rfl, t, S, i, rfl, keepT s7 ht6, hb, by omega, fun H8 v8 s8 sh8 => ?_⟩
      refine ⟨v7, v8, resOf S i, rfl, sh7.keep s8, sh8, fun H9 s9 => ⟨true, rfl, iteF ?_⟩⟩
      have s69 : Same H6 H9 := s7.trans (s8.trans s9)
      refine ⟨1, 7, rfl, ⟨by decide, by decide, by decide, by decide⟩, for_range (lo := 1) (fun j σ H' => ∃ y4 y5 y6 y7, σ = [some (.ref a), some (.ref t), y2, some (.int (i : Int)), y4, y5, y6, y7] ∧ Same H9 H') ⟨_, _, _, _, rfl, Same.refl _⟩ (fun j σ Ha hj p => ?_) (fun σ Ha p => ?_)⟩
      · obtain ⟨y4, y5, y6, y7, rfl, sma⟩ := p
        have j6 : j < 6 := hj
        have em : (1 : Int) + (j : Int) = ((1 + j : Nat) : Int) := by omega
        rw [em]
        obtain ⟨m, hm⟩ : ∃ m : Nat, m = 1 + j := ⟨_, rfl⟩
        rw [← hm]
        have hta := keepT (s69.trans sma) ht6
        refine seq_c (v := .str "Cut") (i := 6) ?_
        dsimp only
        refine seq_by (t := tIfS _ _ _) (fun σ H' => ∃ (v : V) (y4 y7 : Option V), σ = [some (.ref a), some (.ref t), y2, some (.int (i : Int)), y4, some (.int (m : Int)), some v, y7] ∧ Same Ha H' ∧ Shows K H' v (fixOf S i m)) (fun σ Hb p => ?_) (fun go => ?_)
        · obtain ⟨v, z4, z7, rfl, smb, shb⟩ := p
          refine ⟨_, rfl, _, rfl, _, rfl, t, S, i, m, rfl, keepT smb hta, by omega, by omega, by omega, fun Hc vc sc shc => ?_⟩
          refine ⟨_, rfl, vc, v, fixOf S i m, rfl, shc, shb.keep sc, fun Hd sd => ⟨true, rfl, iteF ?_⟩⟩
          exact ⟨_, _, _, _, rfl, sma.trans (smb.trans (sc.trans sd))⟩
        · refine ⟨_, rfl, _, rfl, _, _, rfl, rfl, _, rfl, t, _, rfl, .inr hta, _, _, rfl, rfl, _, rfl, ite2 (fun z => ?_) (fun z => ?_)⟩
          · have le : i + m ≤ S.length := by
              have := of_decide_eq_true z
              rw [List.length_map] at this
              omega
            have ef : fixOf S i m = .ok (val256 ((S.drop i).take m)) (i + m) := by
              unfold fixOf
              rw [if_pos le]
            refine ⟨_, rfl, _, rfl, (i : Int), rfl, _, rfl, _, rfl, _, _, rfl, rfl, _, rfl, t, _, rfl, hta, fun Hb tb sb hb' => ?_⟩
            have ep : (i : Int) + (m : Int) = ((i + m : Nat) : Int) := by omega
            rw [ep, cut_mid, Nat.add_sub_cancel_left] at hb'
            refine ⟨tb, rfl, ⟨_, hb'⟩, for_tup (xs := ((S.drop i).take m).map V.int) (fun k σ H' => ∃ y4 : Option V, σ = [some (.ref a), some (.ref t), y2, some (.int (i : Int)), y4, some (.int (m : Int)), some (.str "Cut"), some (.int (val256 (((S.drop i).take m).take k)))] ∧ Same Ha H' ∧ SqT K H' tb (((S.drop i).take m).map V.int)) ⟨_, rfl, sb, hb'⟩ (fun k σ H' _ p => ?_) (fun k x σ Hc hk p => ?_) (fun σ Hc p => ?_)⟩
            · obtain ⟨_, _, _, e⟩ := p
              exact e
            · obtain ⟨z4, rfl, smc, htb⟩ := p
              obtain ⟨n, hn, rfl⟩ := got hk
              refine ⟨_, rfl, _, _, rfl, rfl, .inr ⟨by decide, by decide⟩, _, rfl, _, _, rfl, rfl, some (.int n), ?_, smc, htb⟩
              rw [val_take hn]
              rfl
            · obtain ⟨z4, rfl, smc, htb⟩ := p
              rw [List.length_map, List.take_length]
              refine ⟨_, rfl, _, rfl, _, rfl, _, _, rfl, rfl, (show 2 ≤ sizeLine by rw [sizeLine_eq]; decide), fun Hd td sd hd => ?_⟩
              refine go _ _ ⟨.ref td, _, _, rfl, smc.trans sd, ?_⟩
              rw [ef]
              refine ⟨td, rfl, ?_⟩
              rw [Int.natCast_add]
              exact hd
          · have nle : ¬ i + m ≤ S.length := fun y => z (decide_eq_true (by rw [List.length_map]; omega))
            have ef : fixOf S i m = .cut := by
              unfold fixOf
              rw [if_neg nle]
            exact go _ _ ⟨.str "Cut", _, _, rfl, Same.refl _, by rw [ef]; rfl⟩
      · obtain ⟨y4, y5, y6, y7, rfl, sma⟩ := p
        exact ⟨_, _, _, _, _, _, rfl, sm6.trans (s69.trans sma)⟩
end
/-! ### the end -/
theorem all_mk {l : PySem.W.OpenLaw} {w : World} {K : PySem.W.Frag} {h : Heap} {mg : Str → Option Value} {fa fn0 fn1 fn2 fn3 fn4 fn6 fn7 fn8 fn9 : Addr} (X : K.In h) (G : h.Ns mainGlobals mg) (hfa : mg "law" = some (.ref fa))
    {od0 an0 od1 an1 od2 an2 od3 an3 od4 an4 od6 an6 od7 an7 od8 an8 od9 an9 : Option Addr} {sl0 sl1 sl2 sl3 sl4 sl6 sl7 sl8 sl9 : Array (Option Value)} {oc0 kV0 dc0 pm0 cd0 ct0 oc1 kV1 dc1 pm1 cd1 ct1 oc2 kV2 dc2 pm2 cd2 ct2 oc3 kV3 dc3 pm3 cd3 ct3 oc4 kV4 dc4 pm4 cd4 ct4 oc6 kV6 dc6 pm6 cd6 ct6 oc7 kV7 dc7 pm7 cd7 ct7 oc8 kV8 dc8 pm8 cd8 ct8 oc9 kV9 dc9 pm9 cd9 ct9 : Value} {t_MOST_BYTES : Tok} {e_Cut : Addr} {e_BadForm : Addr}
    (a0 : PySem.W.nsIn K mainGlobals "byte_at" = some (some (.ref fn0))) (l0 : K.lookup fn0 = some ⟨oc0, od0, .func (PySem.W.fnOf "byte_at" "byte_at" (defArgs sByteAt) (defBody sByteAt) (defScope sByteAt) .none kV0 dc0 pm0 an0 cd0 ct0), sl0⟩) (c0 : PySem.W.codeIn K cd0 "byte_at" = true) (k0 : PySem.W.keepIn K (.ref fn0) = true)
    (a1 : PySem.W.nsIn K mainGlobals "read_number" = some (some (.ref fn1))) (l1 : K.lookup fn1 = some ⟨oc1, od1, .func (PySem.W.fnOf "read_number" "read_number" (defArgs sReadNumber) (defBody sReadNumber) (defScope sReadNumber) .none kV1 dc1 pm1 an1 cd1 ct1), sl1⟩) (c1 : PySem.W.codeIn K cd1 "read_number" = true) (k1 : PySem.W.keepIn K (.ref fn1) = true)
    (a2 : PySem.W.nsIn K mainGlobals "read_fixed" = some (some (.ref fn2))) (l2 : K.lookup fn2 = some ⟨oc2, od2, .func (PySem.W.fnOf "read_fixed" "read_fixed" (defArgs sReadFixed) (defBody sReadFixed) (defScope sReadFixed) .none kV2 dc2 pm2 an2 cd2 ct2), sl2⟩) (c2 : PySem.W.codeIn K cd2 "read_fixed" = true) (k2 : PySem.W.keepIn K (.ref fn2) = true)
    (a3 : PySem.W.nsIn K mainGlobals "_law_d" = some (some (.ref fn3))) (l3 : K.lookup fn3 = some ⟨oc3, od3, .func (PySem.W.fnOf "_law_d" "_law_d" (defArgs sLawD) (defBody sLawD) (defScope sLawD) .none kV3 dc3 pm3 an3 cd3 ct3), sl3⟩) (c3 : PySem.W.codeIn K cd3 "_law_d" = true) (k3 : PySem.W.keepIn K (.ref fn3) = true)
    (a4 : PySem.W.nsIn K mainGlobals "_law_same" = some (some (.ref fn4))) (l4 : K.lookup fn4 = some ⟨oc4, od4, .func (PySem.W.fnOf "_law_same" "_law_same" (defArgs sLawSame) (defBody sLawSame) (defScope sLawSame) .none kV4 dc4 pm4 an4 cd4 ct4), sl4⟩) (c4 : PySem.W.codeIn K cd4 "_law_same" = true) (k4 : PySem.W.keepIn K (.ref fn4) = true)
    (a6 : PySem.W.nsIn K mainGlobals "_law_read" = some (some (.ref fn6))) (l6 : K.lookup fn6 = some ⟨oc6, od6, .func (PySem.W.fnOf "_law_read" "_law_read" (defArgs sLawRead) (defBody sLawRead) (defScope sLawRead) .none kV6 dc6 pm6 an6 cd6 ct6), sl6⟩) (c6 : PySem.W.codeIn K cd6 "_law_read" = true) (k6 : PySem.W.keepIn K (.ref fn6) = true)
    (a7 : PySem.W.nsIn K mainGlobals "_law_told" = some (some (.ref fn7))) (l7 : K.lookup fn7 = some ⟨oc7, od7, .func (PySem.W.fnOf "_law_told" "_law_told" (defArgs sLawTold) (defBody sLawTold) (defScope sLawTold) .none kV7 dc7 pm7 an7 cd7 ct7), sl7⟩) (c7 : PySem.W.codeIn K cd7 "_law_told" = true) (k7 : PySem.W.keepIn K (.ref fn7) = true)
    (a8 : PySem.W.nsIn K mainGlobals "_law_fixed" = some (some (.ref fn8))) (l8 : K.lookup fn8 = some ⟨oc8, od8, .func (PySem.W.fnOf "_law_fixed" "_law_fixed" (defArgs sLawFixed) (defBody sLawFixed) (defScope sLawFixed) .none kV8 dc8 pm8 an8 cd8 ct8), sl8⟩) (c8 : PySem.W.codeIn K cd8 "_law_fixed" = true) (k8 : PySem.W.keepIn K (.ref fn8) = true)
    (a9 : PySem.W.nsIn K mainGlobals "law" = some (some (.ref fn9))) (l9 : K.lookup fn9 = some ⟨oc9, od9, .func (PySem.W.fnOf "law" "law" (defArgs sLaw) (defBody sLaw) (defScope sLaw) .none kV9 dc9 pm9 an9 cd9 ct9), sl9⟩) (c9 : PySem.W.codeIn K cd9 "law" = true) (k9 : PySem.W.keepIn K (.ref fn9) = true)
    (z_all : PySem.W.nsIn K mainGlobals "all" = some none)
    (z_bool : PySem.W.nsIn K mainGlobals "bool" = some none)
    (z_int : PySem.W.nsIn K mainGlobals "int" = some none)
    (z_isinstance : PySem.W.nsIn K mainGlobals "isinstance" = some none)
    (z_len : PySem.W.nsIn K mainGlobals "len" = some none)
    (z_range : PySem.W.nsIn K mainGlobals "range" = some none)
    (z_str : PySem.W.nsIn K mainGlobals "str" = some none)
    (z_tuple : PySem.W.nsIn K mainGlobals "tuple" = some none)
    (z_zip : PySem.W.nsIn K mainGlobals "zip" = some none)
    (g_MOST_BYTES : PySem.W.nsIn K mainGlobals "MOST_BYTES" = some (some (.int 6 t_MOST_BYTES)))
    (ea_Cut : PySem.W.nsIn K mainGlobals "Cut" = some (some (.ref e_Cut))) (ex_Cut : PySem.W.excIn K e_Cut veMro "ValueError.__new__" = true) (ek_Cut : PySem.W.keepIn K (.ref e_Cut) = true) (es_Cut : PySem.W.subIn K (.ref e_Cut) (.type "BaseException") = some true) (et_Cut : PySem.W.typeIn K (.ref e_Cut) = some (.type "type")) (ei_Cut : PySem.W.isClsIn K e_Cut = true)
    (ea_BadForm : PySem.W.nsIn K mainGlobals "BadForm" = some (some (.ref e_BadForm))) (ex_BadForm : PySem.W.excIn K e_BadForm veMro "ValueError.__new__" = true) (ek_BadForm : PySem.W.keepIn K (.ref e_BadForm) = true) (es_BadForm : PySem.W.subIn K (.ref e_BadForm) (.type "BaseException") = some true) (et_BadForm : PySem.W.typeIn K (.ref e_BadForm) = some (.type "type")) (ei_BadForm : PySem.W.isClsIn K e_BadForm = true)
    (ep_Cut_Cut : PySem.W.subIn K (.ref e_Cut) (.ref e_Cut) = some true)
    (ep_Cut_BadForm : PySem.W.subIn K (.ref e_Cut) (.ref e_BadForm) = some false)
    (ep_BadForm_Cut : PySem.W.subIn K (.ref e_BadForm) (.ref e_Cut) = some false)
    (ep_BadForm_BadForm : PySem.W.subIn K (.ref e_BadForm) (.ref e_BadForm) = some true) :
    ∃ fd : FuncData, (∀ (s : Shared) (v : Value), BindsTo s fd ⟨[v], []⟩ [("_law_script", v)]) ∧ ∀ base : Heap, K.In base → base.Ns mainGlobals mg → FnOk l.prog w K mg base CX0 4 fa fd ["_law_script"] (spLaw K) := by
  have e := hfa.symm.trans (PySem.W.mg_of X G a9)
  cases e
  have Ev : Env K mg := ⟨PySem.W.mg_none_of X G z_all, PySem.W.mg_none_of X G z_bool, PySem.W.mg_none_of X G z_int, PySem.W.mg_none_of X G z_isinstance, PySem.W.mg_none_of X G z_len, PySem.W.mg_none_of X G z_range, PySem.W.mg_none_of X G z_str, PySem.W.mg_none_of X G z_tuple, PySem.W.mg_none_of X G z_zip, ⟨_, PySem.W.mg_of X G g_MOST_BYTES⟩⟩
  have X_Cut : Exc K mg "Cut" e_Cut := ⟨PySem.W.mg_of X G ea_Cut, ex_Cut, ek_Cut, es_Cut, et_Cut, ei_Cut⟩
  have X_BadForm : Exc K mg "BadForm" e_BadForm := ⟨PySem.W.mg_of X G ea_BadForm, ex_BadForm, ek_BadForm, es_BadForm, et_BadForm, ei_BadForm⟩
  have Ex : Excs K mg e_Cut e_BadForm := ⟨X_Cut, X_BadForm, caught X_Cut ep_Cut_Cut, caught X_BadForm ep_Cut_BadForm, caught X_Cut ep_BadForm_Cut, caught X_BadForm ep_BadForm_BadForm⟩
  have F0 := fun_mk (st := sByteAt) l0 c0 k0
  have F1 := fun_mk (st := sReadNumber) l1 c1 k1
  have F2 := fun_mk (st := sReadFixed) l2 c2 k2
  have F3 := fun_mk (st := sLawD) l3 c3 k3
  have F4 := fun_mk (st := sLawSame) l4 c4 k4
  have F6 := fun_mk (st := sLawRead) l6 c6 k6
  have F7 := fun_mk (st := sLawTold) l7 c7 k7
  have F8 := fun_mk (st := sLawFixed) l8 c8 k8
  have F9 := fun_mk (st := sLaw) l9 c9 k9
  refine ⟨PySem.W.fnOf "law" "law" (defArgs sLaw) (defBody sLaw) (defScope sLaw) .none kV9 dc9 pm9 an9 cd9 ct9, fun s v => .of_eq rfl, fun base _ _ => ?_⟩
  have C_0 : CalX l.prog w K mg base "byte_at" 1 ["some", "place"] (spByte K e_Cut) := ⟨_, _, ok_byte Ev Ex  F0, PySem.W.mg_of X G a0, k0, F0.binds fun _ _ _ _ _ _ us hl => match us, hl with | [_, _], _ => rfl⟩
  have C_1 : CalX l.prog w K mg base "read_number" 2 ["some", "at"] (spRead K e_Cut e_BadForm) := ⟨_, _, ok_read Ev Ex C_0 F1, PySem.W.mg_of X G a1, k1, F1.binds fun _ _ _ _ _ _ us hl => match us, hl with | [_, _], _ => rfl⟩
  have C_2 : CalX l.prog w K mg base "read_fixed" 2 ["some", "at", "many"] (spReadF K e_Cut) := ⟨_, _, ok_readF Ev Ex C_0 F2, PySem.W.mg_of X G a2, k2, F2.binds fun _ _ _ _ _ _ us hl => match us, hl with | [_, _, _], _ => rfl⟩
  have C_3 : Cal l.prog w K mg base "_law_d" 1 ["_law_cell", "_law_place", "_law_many"] spD := ⟨_, _, ok_d Ev  F3, PySem.W.mg_of X G a3, k3, F3.binds fun _ _ _ _ _ _ us hl => match us, hl with | [_, _, _], _ => rfl⟩
  have C_4 : Cal l.prog w K mg base "_law_same" 1 ["_law_told_here", "_law_due"] spSame := ⟨_, _, ok_same Ev  F4, PySem.W.mg_of X G a4, k4, F4.binds fun _ _ _ _ _ _ us hl => match us, hl with | [_, _], _ => rfl⟩
  have C_5 : Cal l.prog w K mg base "_law_same" 2 ["_law_told_here", "_law_due"] (spSameV K) := ⟨_, _, ok_sameV Ev C_4 F4, PySem.W.mg_of X G a4, k4, F4.binds fun _ _ _ _ _ _ us hl => match us, hl with | [_, _], _ => rfl⟩
  have C_6 : Cal l.prog w K mg base "_law_read" 1 ["_law_some", "_law_at"] (spRes K) := ⟨_, _, ok_lread Ev  F6, PySem.W.mg_of X G a6, k6, F6.binds fun _ _ _ _ _ _ us hl => match us, hl with | [_, _], _ => rfl⟩
  have C_7 : Cal l.prog w K mg base "_law_told" 3 ["_law_some", "_law_at"] (spRes K) := ⟨_, _, ok_told Ev Ex C_1 F7, PySem.W.mg_of X G a7, k7, F7.binds fun _ _ _ _ _ _ us hl => match us, hl with | [_, _], _ => rfl⟩
  have C_8 : Cal l.prog w K mg base "_law_fixed" 3 ["_law_some", "_law_at", "_law_many"] (spFix K) := ⟨_, _, ok_lfix Ev Ex C_2 F8, PySem.W.mg_of X G a8, k8, F8.binds fun _ _ _ _ _ _ us hl => match us, hl with | [_, _, _], _ => rfl⟩
  exact ok_law Ev C_3 C_5 C_6 C_7 C_8 F9
end Fc
open PySem PySem.W PyProof.Rows
set_option maxHeartbeats 0 in
theorem PySem.Challenge.cw_filecrate_k02_whole_numbers_read_holds : PySem.Challenge.rw_filecrate_k02_whole_numbers_read.Holds := by
  w_on; o_law; k_head; (case hw => w_witness2)
  k_fill
  refine L2.walk_of (l := PySem.Challenge.rw_filecrate_k02_whole_numbers_read) (n := 63) (k := 4) (x := "_law_script") (CX := fun _ => L2.CX0) (sp := fun w => Fc.spLaw _) rfl (by decide) rfl ⟨rfl, by decide, by decide⟩ (fun w h Y => PySem.W.kIn_of Y) ?F (fun _ _ a ns hl _ hS => ⟨a, ns, rfl, hS, hl, fun _ => rfl⟩) (fun _ _ _ _ _ h => h)
  case F =>
    intro w mg fa h KX G hmg
    refine' Fc.all_mk KX G hmg ?a0 ?l0 ?c0 ?k0 ?a1 ?l1 ?c1 ?k1 ?a2 ?l2 ?c2 ?k2 ?a3 ?l3 ?c3 ?k3 ?a4 ?l4 ?c4 ?k4 ?a6 ?l6 ?c6 ?k6 ?a7 ?l7 ?c7 ?k7 ?a8 ?l8 ?c8 ?k8 ?a9 ?l9 ?c9 ?k9 ?z_all ?z_bool ?z_int ?z_isinstance ?z_len ?z_range ?z_str ?z_tuple ?z_zip ?g_MOST_BYTES ?ea_Cut ?ex_Cut ?ek_Cut ?es_Cut ?et_Cut ?ei_Cut ?ea_BadForm ?ex_BadForm ?ek_BadForm ?es_BadForm ?et_BadForm ?ei_BadForm ?ep_Cut_Cut ?ep_Cut_BadForm ?ep_BadForm_Cut ?ep_BadForm_BadForm
    (case a0 => k_is); (case l0 => k_is); (case c0 => k_is); (case k0 => k_is); (case a1 => k_is); (case l1 => k_is); (case c1 => k_is); (case k1 => k_is); (case a2 => k_is); (case l2 => k_is); (case c2 => k_is); (case k2 => k_is); (case a3 => k_is); (case l3 => k_is); (case c3 => k_is); (case k3 => k_is); (case a4 => k_is); (case l4 => k_is); (case c4 => k_is); (case k4 => k_is); (case a6 => k_is); (case l6 => k_is); (case c6 => k_is); (case k6 => k_is); (case a7 => k_is); (case l7 => k_is); (case c7 => k_is); (case k7 => k_is); (case a8 => k_is); (case l8 => k_is); (case c8 => k_is); (case k8 => k_is); (case a9 => k_is); (case l9 => k_is); (case c9 => k_is); (case k9 => k_is); (case z_all => k_is); (case z_bool => k_is); (case z_int => k_is); (case z_isinstance => k_is); (case z_len => k_is); (case z_range => k_is); (case z_str => k_is); (case z_tuple => k_is); (case z_zip => k_is); (case g_MOST_BYTES => k_is); (case ea_Cut => k_is); (case ex_Cut => k_exc); (case ek_Cut => k_is); (case es_Cut => k_is); (case et_Cut => k_is); (case ei_Cut => k_is); (case ea_BadForm => k_is); (case ex_BadForm => k_exc); (case ek_BadForm => k_is); (case es_BadForm => k_is); (case et_BadForm => k_is); (case ei_BadForm => k_is); (case ep_Cut_Cut => first | rfl | k_is); (case ep_Cut_BadForm => first | rfl | k_is); (case ep_BadForm_Cut => first | rfl | k_is); (case ep_BadForm_BadForm => first | rfl | k_is)
