import PyProof.Rows.All
import Wide.All
import OpenK.AllK
import Wide.FinOn
import HandS.ForMost
import HandS.IsInst
import HandS.TupAny
import HandS.TupMul
import HandS.Zip
import HandS.Style
import PySem.Challenge.RW_filecrate_k04_whole_sums_put_together
set_option Elab.async false
set_option linter.all false
set_option maxRecDepth 100000
set_option maxHeartbeats 4000000
namespace Fc
open PySem PySem.Spec PyProof.Rows L2

/-! ### heaps that only grow -/
theorem grow {H : Hp} {p : Addr} {o : HO} (n : H p = none) : Same H (upd H p o) := by
  intro b u e
  have hb : b ≠ p := ne_of_none e n
  rw [upd_ne hb, e]
theorem keepT {K : PySem.W.Frag} {H H' : Hp} {a : Addr} {xs : List V} (e : Same H H') (h : SqT K H a xs) : SqT K H' a xs := by
  rcases h with (h | ⟨o, h⟩) | h
  · left; left; exact e a _ h
  · left; right; exact ⟨o, e a _ h⟩
  · right; exact h
/-- behind it a tuple of these, and all that stood -/
def Tups (K : PySem.W.Frag) (H : Hp) (xs : List V) (Q : VK) : Prop := ∀ H' p, Same H H' → SqT K H' p xs → Q (.ref p) H'
theorem Tups.new {K : PySem.W.Frag} {H : Hp} {xs : List V} {Q : VK} (h : Tups K H xs Q) {p : Addr} (n : H p = none) : Q (.ref p) (upd H p (.tup xs)) := h _ _ (grow n) (SqT.of upd_same)
theorem Tups.old {K : PySem.W.Frag} {H : Hp} {xs ys : List V} {Q : VK} (h : Tups K H xs Q) {p : Addr} (e : SqT K H p ys) (eq : ys = xs) : Q (.ref p) H := by
  subst eq
  exact h _ _ (Same.refl H) e
theorem PEweak {X : Cx} {e : Expr} {t u : TE} (h : PE X e t) (w : ∀ σ H Q, u σ H Q → t σ H Q) : PE X e u := ⟨fun pins s σ H Q I q => h.run pins s σ H Q I (w σ H Q q)⟩
def upA (t : TA) : TA := fun σ H Q => ∃ R, t σ H R ∧ ∀ vs H', R vs H' → Q vs H'
theorem PAup {X : Cx} {es : List Expr} {t : TA} (h : PA X es t) : PA X es (upA t) := ⟨fun ps pins s σ H Q I q => by
  obtain ⟨R, q1, q2⟩ := q
  refine thn (h.run ps pins s σ H R I q1) fun us s' ⟨vs, H', I', r, k⟩ => ⟨vs, H', I', r, q2 _ _ k⟩⟩

/-! ### rules whose reading says Tups -/
section
variable {X : Cx}
def rCatU (K : PySem.W.Frag) : R2 := fun x y H Q => ∃ a b xs ys, x = .ref a ∧ y = .ref b ∧ SqT K H a xs ∧ SqT K H b ys ∧ xs.length + ys.length ≤ sizeLine ∧ Tups K H (xs ++ ys) Q
theorem op_catU : OpR X (binaryOp .Add) (rCatU X.K) := by
  intro pins s σ H x y v u Q I rx ry h
  obtain ⟨a, b, xs, ys, rfl, rfl, ha, hb, hz, q⟩ := h
  refine op_catA pins s σ H _ _ v u Q I rx ry ⟨a, b, xs, ys, rfl, rfl, ha, hb, hz, fun e => ?_, fun _ e => ?_, fun _ _ p n => q.new n⟩
  · subst e; exact q.old hb rfl
  · subst e; exact q.old ha (List.append_nil xs).symm
def rSlU (K : PySem.W.Frag) : V → Option Int → Option Int → Hp → VK → Prop := fun x lo hi H Q => ∃ a xs, x = .ref a ∧ SqT K H a xs ∧ Tups K H (cutV xs lo hi) Q
theorem sl_tupU : SlR X (rSlU X.K) := by
  intro pins s σ H x v vl vu lo hi sl Q I rx hs pl pu h
  obtain ⟨a, xs, rfl, hx, q⟩ := h
  refine sl_tupA pins s σ H _ v vl vu lo hi sl Q I rx hs pl pu ⟨a, xs, rfl, hx, fun e => q.old hx ?_, fun _ p n => q.new n⟩
  unfold cutV
  rw [e.1, e.2, List.drop_zero, Nat.sub_zero, List.take_length]
def tTupU (K : PySem.W.Frag) (t : TA) : TE := fun σ H Q => t σ H fun xs H1 => xs.length ≤ sizeLine ∧ Tups K H1 xs Q
theorem pe_tupU {es : List Expr} {x1 : Nat} {pos : Pos} {t : TA} (h : PA X es t) : PE X (.Tuple es x1 pos) (tTupU X.K t) :=
  PEweak (pe_tup (PAup h)) fun σ H Q q => ⟨_, q, fun vs H' k => ⟨k.1, fun p n => k.2.new n⟩⟩
theorem call_divmodU : CallR X (.builtin "divmod") (fun xs H Q => ∃ i j, xs = [.int i, .int j] ∧ CDiv i j ∧ Tups X.K H [.int (i / j), .int (i % j)] Q) := by
  intro pins s σ H xs us Q I r h
  obtain ⟨i, j, e, c, q⟩ := h
  exact call_divmod pins s σ H xs us Q I r ⟨i, j, e, c, fun p n => q.new n⟩
theorem call_tupleU : CallR X (.type "tuple") (fun xs H Q => ∃ p ys, xs = [.ref p] ∧ SqL X.K H p ys ∧ Tups X.K H ys Q) := by
  intro pins s σ H xs us Q I r h
  obtain ⟨p, ys, e, hp, q⟩ := h
  exact call_tuple_of pins s σ H xs us Q I r ⟨p, ys, e, .inl ⟨hp, fun l n => q.new n⟩⟩
theorem pe_globI {x : Str} {n : Int} {pos : Pos} (hg : Gl X x) (h : ∃ t, X.mg x = some (.int n t)) (hd : (x == ("__debug__" : Str)) = false := by decide) : PE X (.Name x pos) (tC (.int n)) := by
  obtain ⟨t, e⟩ := h
  exact pe_glob hg e ⟨t, rfl⟩ hd
def tGT (K : PySem.W.Frag) (xs : List V) : TE := fun _ H Q => ∀ a, (∀ H', SqT K H' a xs) → Q (.ref a) H
theorem pe_globT {x : Str} {xs : List V} {pos : Pos} (hg : Gl X x) (h : ∃ a, X.mg x = some (.ref a) ∧ ∀ H', SqT X.K H' a xs) (hd : (x == ("__debug__" : Str)) = false := by decide) : PE X (.Name x pos) (tGT X.K xs) := by
  obtain ⟨a, e, q⟩ := h
  exact PEweak (pe_glob (v := .ref a) hg e rfl hd) fun σ H Q k => k a q
theorem pe_btype {x : Str} {n : String} {pos : Pos} (hg : Gl X x) (hm : X.mg x = none) (hv : bootBuiltins x = some (.type n)) (hn : x ≠ "__name__" := by decide) (hd : (x == ("__debug__" : Str)) = false := by decide) : PE X (.Name x pos) (tC (.ty n)) := pe_bltn hg hm hv rfl hn hd
end

/-! ### a def that is called -/
structure Cal (P : Program) (w : World) (K : PySem.W.Frag) (mg : Str → Option Value) (base : Heap) (x : Str) (k : Nat) (ps : List Str) (sp : Sp) : Prop where
  ex : ∃ f fd, FnOk P w K mg base CX0 k f fd ps sp ∧ mg x = some (.ref f) ∧ PySem.W.keepIn K (.ref f) = true ∧ Binds K fd ps []
theorem pe_c {X : Cx} {x : Str} {k : Nat} {ps : List Str} {sp : Sp} {p pos : Pos} {e : Expr} {es : List Expr} {t : TA} (C : Cal X.prog X.w X.K X.mg X.base x k ps sp) (hr : Room k X.A) (ha : PA X (e :: es) t) (hg : Gl X x := by rfl) (hdb : (x == ("__debug__" : Str)) = false := by decide)
    (he : starEach (e :: es) X.env = (false, eval e X.env) :: starEach es X.env := by rfl) (hpl : (backTo pos (starEach es X.env)).any (·.1) = false := by rfl) : PE X (.Call (.Name x p) (e :: es) [] pos) (tCall sp [] E0 t) := by
  obtain ⟨f, fd, F, m, kp, b⟩ := C.ex
  exact pe_call F hr hg m kp b .nil pass0 ha hdb he hpl

/-! ### joining ways -/
theorem seq_by {t u : TS} {D : Ends} {σ : L2.St} {H : Hp} (P : L2.St → Hp → Prop) (h2 : ∀ σ H, P σ H → u D σ H) (h1 : (∀ σ H, P σ H → u D σ H) → t { D with nx := u D } σ H) : tSeq t u D σ H := h1 h2

theorem seq_c {v : V} {i : Nat} {u : TS} {D : Ends} {σ : L2.St} {H : Hp} (h : u D (σ.set i (some v)) H) : tSeq (tAsg (tC v) (gName i)) u D σ H := h

/-! ### isinstance -/
theorem k_ii {K : PySem.W.Frag} : PySem.W.kitOne K (.type "int") (.type "int") = some true := kit_ty (by decide +kernel)
theorem k_ib {K : PySem.W.Frag} : PySem.W.kitOne K (.type "int") (.type "bool") = some false := kit_ty (by decide +kernel)
theorem k_it {K : PySem.W.Frag} : PySem.W.kitOne K (.type "int") (.type "tuple") = some false := kit_ty (by decide +kernel)
theorem k_is' {K : PySem.W.Frag} : PySem.W.kitOne K (.type "int") (.type "str") = some false := kit_ty (by decide +kernel)
theorem k_tb {K : PySem.W.Frag} : PySem.W.kitOne K (.type "tuple") (.type "bool") = some false := kit_ty (by decide +kernel)
theorem k_tt {K : PySem.W.Frag} : PySem.W.kitOne K (.type "tuple") (.type "tuple") = some true := kit_ty (by decide +kernel)
theorem k_sb {K : PySem.W.Frag} : PySem.W.kitOne K (.type "str") (.type "bool") = some false := kit_ty (by decide +kernel)
theorem k_st {K : PySem.W.Frag} : PySem.W.kitOne K (.type "str") (.type "tuple") = some false := kit_ty (by decide +kernel)
theorem k_ss {K : PySem.W.Frag} : PySem.W.kitOne K (.type "str") (.type "str") = some true := kit_ty (by decide +kernel)
theorem ty_tup {K : PySem.W.Frag} {H : Hp} {a : Addr} {xs : List V} (h : SqT K H a xs) : TyX K H (.ref a) (.type "tuple") := by
  rcases h with (h | ⟨o, h⟩) | ⟨o, its, n, h, c, _⟩
  · exact .base (.tup h)
  · exact .fTuple h
  · exact .kTuple h c

/-! ### cuts of whole numbers -/
theorem cut_to (ns : List Int) (k : Nat) : cutV (ns.map V.int) none (some (k : Int)) = (ns.take k).map V.int := by
  unfold cutV
  rw [HT.sIx_none, HT.sIx_nat, List.drop_zero, Nat.sub_zero, List.length_map, List.map_take]
  by_cases h : k ≤ ns.length
  · rw [Nat.min_eq_left h]
  · have h' : ns.length ≤ k := by omega
    rw [Nat.min_eq_right h', List.take_of_length_le (by rw [List.length_map]; omega), List.take_of_length_le (by rw [List.length_map]; omega)]
theorem cut_from (ns : List Int) (k : Nat) : cutV (ns.map V.int) (some (k : Int)) none = (ns.drop k).map V.int := by
  unfold cutV
  rw [HT.sIx_none, HT.sIx_nat, List.length_map, List.map_drop]
  by_cases h : k ≤ ns.length
  · rw [Nat.min_eq_left h]
    exact List.take_of_length_le (by rw [List.length_drop, List.length_map]; omega)
  · have h' : ns.length ≤ k := by omega
    rw [Nat.min_eq_right h', List.drop_of_length_le (by rw [List.length_map]; omega), List.drop_of_length_le (by rw [List.length_map]; omega), List.take_nil]
theorem cut_mid (ns : List Int) (i j : Nat) : cutV (ns.map V.int) (some (i : Int)) (some (j : Int)) = ((ns.drop i).take (j - i)).map V.int := by
  unfold cutV
  rw [HT.sIx_nat, HT.sIx_nat, List.length_map, List.map_take, List.map_drop]
  by_cases h : i ≤ ns.length
  · rw [Nat.min_eq_left h]
    by_cases g : j ≤ ns.length
    · rw [Nat.min_eq_left g]
    · have g' : ns.length ≤ j := by omega
      rw [Nat.min_eq_right g', List.take_of_length_le (by rw [List.length_drop, List.length_map]; omega), List.take_of_length_le (by rw [List.length_drop, List.length_map]; omega)]
  · have h' : ns.length ≤ i := by omega
    rw [Nat.min_eq_right h', List.drop_of_length_le (by rw [List.length_map]; omega), List.drop_of_length_le (by rw [List.length_map]; omega), List.take_nil, List.take_nil]

/-! ### a comprehension whose items are told by a row -/
theorem lc_row {K : PySem.W.Frag} {a : Addr} {xs ys : List V} {te : TE} {vs : List Nat} {σ : L2.St} {H1 : Hp} {D : Addr} {j : Nat} {Qd : Hp → Prop} (nD : H1 D = none) (hs : SqL K H1 a xs) (hy : ys.length = xs.length) (hz : xs.length ≤ sizeLine)
    (hw : ∀ x, wipe ((wipe σ vs).set j (some x)) vs = wipe σ vs)
    (turn : ∀ (i : Nat) (x y : V) (H : Hp) (R : V → Hp → Prop), xs[i]? = some x → ys[i]? = some y → Same H1 H → (∀ H', Same H H' → R y H') → te ((wipe σ vs).set j (some x)) H R) (hd : ∀ H', Same H1 H' → H' D = some (.lst ys) → Qd H') :
    ∃ W : Nat → Nat → Hp → Prop, (∃ m, W 0 m (upd H1 D (.lst []))) ∧ ∀ i m H, W i m H →
      ((Itl K a).stop i H ∧ Qd H) ∨ ((Itl K a).go i H ∧ ∃ Nx : Hp → Prop, (∀ H', Nx H' → ∃ m', m' < m ∧ W (i + 1) m' H') ∧ ∀ x H', (Itl K a).yld i H x H' → gName j x (wipe σ vs) H' fun σ2 H2 => wipe σ2 vs = wipe σ vs ∧ tYes σ2 H2 fun b H3 =>
        if b = true then te σ2 H3 fun y H4 => ∃ acc, H4 D = some (.lst acc) ∧ acc.length < sizeLine ∧ Nx (upd H4 D (.lst (acc ++ [y]))) else Nx H3) := by
  refine lc_list (xs := xs) (fun i H => Same H1 H ∧ H D = some (.lst (ys.take i))) ⟨grow nD, upd_same⟩ (fun i H _ p => p.1.seq hs) (fun i x H hx p => ?_) (fun H p => hd H p.1 ?_)
  · have hi : i < xs.length := (List.getElem?_eq_some_iff.mp hx).1
    have hiy : i < ys.length := by omega
    refine ⟨hw x, ?_⟩
    unfold tYes
    dsimp only
    rw [if_pos rfl]
    refine turn i x ys[i] H _ hx (List.getElem?_eq_getElem hiy) p.1 fun H' sm => ⟨ys.take i, sm _ _ p.2, ?_, ?_, ?_⟩
    · rw [List.length_take]; omega
    · intro b o e
      have hb : b ≠ D := ne_of_none e nD
      rw [upd_ne hb]
      exact sm _ _ (p.1 _ _ e)
    · rw [upd_same, List.take_add_one, List.getElem?_eq_getElem hiy]
      rfl
  · have := p.2
    rw [← hy, List.take_length] at this
    exact this
end Fc

namespace Fc
open PySem PySem.Spec L2 PyProof.Rows
/-! ### t[::-1] -/
section
variable {pr : Program} {wd : World} {Ar : Around} {E : Value → Shared → Prop} {st : Shared}
theorem back_adjust (n : Nat) : Builtin.Slice.sliceAdjust none none (-1) (n : Int) = ((n : Int) - 1, -1) := rfl
theorem back_places (n : Nat) : Builtin.Slice.slicePlaces ((n : Int) - 1) (-1) (-1) = n := by
  have e : ((n : Int) - 1 - -1 - 1) / (- -1) = (n : Int) - 1 := by
    have z : (- -1 : Int) = 1 := by decide
    rw [z, Int.ediv_one]
    omega
  have z : ¬ ((-1 : Int) > 0) := by decide
  simp only [Builtin.Slice.slicePlaces, if_neg z, e]
  split <;> omega
theorem alike_filterMap {f g : Nat → Option Value} : ∀ {l : List Nat}, (∀ k ∈ l, f k = g k) → l.filterMap f = l.filterMap g
  | [], _ => rfl
  | a :: r, h => by rw [List.filterMap_cons, List.filterMap_cons, h a List.mem_cons_self, alike_filterMap fun k hk => h k (List.mem_cons_of_mem _ hk)]
theorem all_of {ys : List Value} : (List.range ys.length).filterMap (fun k => ys[k]?) = ys := by
  have h := PySem.pick_run ys.toArray 0 ys.length
  have e : (List.range ys.length).map (0 + ·) = List.range ys.length := by simp
  rw [e] at h
  simpa using h
theorem back_pick (xs : Array Value) : ((List.range xs.size).filterMap fun (k : Nat) => xs[((xs.size : Int) - 1 + (k : Int) * -1).toNat]?).toArray = xs.toList.reverse.toArray := by
  congr 1
  rw [alike_filterMap (g := fun k => xs.toList.reverse[k]?)]
  · have e2 : xs.size = xs.toList.reverse.length := by rw [List.length_reverse, Array.length_toList]
    rw [e2]
    exact all_of
  · intro k hk
    have hk' := List.mem_range.mp hk
    rw [List.getElem?_reverse (by rw [Array.length_toList]; exact hk'), Array.length_toList, Array.getElem?_toList]
    congr 1
    omega
theorem back_applied {sl : Addr} {v : Value} {n : Nat} {Q : Int × Int × Nat → Shared → Prop} (isl : st.heap.IsSliceOf sl .none .none v) (pt : IsPart v (some (-1)))
    (q : Q ((n : Int) - 1, -1, n) st) : wpAny (model pr wd) Ar (Builtin.Slice.sliceApplied (.ref sl) (pure (n : Int))) Q E st := by
  obtain ⟨o, ho, _, hf⟩ := isl
  simp only [Builtin.Slice.sliceApplied, Builtin.Slice.sliceFields]
  refine wpAny_bind (wpAny_bind (wpAny_field ho hf (x := .none) rfl (wpAny_bind (wpAny_field ho hf (x := .none) rfl (wpAny_bind (wpAny_field ho hf (x := v) rfl (wpAny_pure ?_)))))))
  refine wpAny_bind (HT.slicePart_ pt ?_)
  show wpAny _ _ (if ((-1 : Int) == 0) = true then _ else _) _ _ st
  rw [if_neg (by decide)]
  refine wpAny_bind (HT.slicePart_ .none (wpAny_bind (HT.slicePart_ .none (wpAny_bind (wpAny_pure ?_)))))
  show wpAny _ _ (match Builtin.Slice.sliceAdjust none none (-1) (n : Int) with | (lo, hi) => pure (lo, (-1 : Int), Builtin.Slice.slicePlaces lo hi (-1))) _ _ st
  rw [back_adjust n]
  show wpAny _ _ (pure ((n : Int) - 1, (-1 : Int), Builtin.Slice.slicePlaces ((n : Int) - 1) (-1) (-1))) _ _ st
  rw [back_places]
  exact wpAny_pure q
theorem back_item {t sl : Addr} {its : Array Value} {v : Value} {Q : Value → Shared → Prop} (tp : IsTup st.heap t its) (isl : st.heap.IsSliceOf sl .none .none v) (pt : IsPart v (some (-1)))
    (q : Q (.ref st.heap.objs.size) { st with heap := st.heap.push { cls := .type "tuple", data := .seq its.toList.reverse.toArray } }) (few : its.size ≤ sizeLine) :
    wpAny (model pr wd) Ar (getItem (.ref t) (.ref sl)) Q E st := by
  have fits : sizeOk (.seq its.toList.reverse.toArray) := by
    show its.toList.reverse.toArray.size ≤ sizeLine
    rw [List.size_toArray, List.length_reverse, Array.length_toList]
    exact few
  have isT : st.TypeIs (.ref sl) "slice" := by
    obtain ⟨o, ho, hc, _⟩ := isl
    exact ⟨o, ho, hc⟩
  have other : ¬ (((its.size : Int) - 1 == 0 && (-1 : Int) == 1 && its.size == its.size) = true) := fun z => by
    have z1 := (Bool.and_eq_true_iff.mp (Bool.and_eq_true_iff.mp z).1).2
    exact absurd z1 (by decide)
  unfold getItem
  with_reducible refine wpAny_holding ?_
  refine wpAny_bind (wpAny_sequenceKey tp.typeIs (by decide) (wpAny_bind (wpAny_callSpecial?_slot (name := Str.ofString "__getitem__") tp.typeIs PyProof.Rows.slot_tuple_getitem
    (wpAny_call_entry PyProof.Rows.slot_tuple_getitem tp.typeIs entry_tuple_getitem ?_ (args_tuple_getitem _ _)))))
  show wpAny _ _ (Builtin.Tuple.tupleItemsOf (.ref t) >>= _) _ _ st
  refine wpAny_bind (tupleItemsOf_ tp (wpAny_bind (wpAny_typeOf isT ?_)))
  rw [if_pos (by decide)]
  refine wpAny_bind (back_applied isl pt ?_)
  show wpAny _ _ (if ((its.size : Int) - 1 == 0 && (-1 : Int) == 1 && its.size == its.size) = true then _ else _) _ _ st
  rw [if_neg other, back_pick]
  first
    | exact wpAny_bind (m := Builtin.Tuple.tupleExact _) (wpAny_newObj_type (wpAny_bind (wpAny_pure (wpAny_pure ⟨_, rfl, wpAny_pure q⟩))) fits)
    | exact wpAny_bind (wpAny_bind (m := Builtin.Tuple.tupleExact _) (wpAny_newObj_type (wpAny_pure (wpAny_pure ⟨_, rfl, wpAny_pure q⟩)) fits))
    | exact wpAny_bind (m := Builtin.Tuple.tupleExact _) (wpAny_newObj_type (wpAny_pure ⟨_, rfl, wpAny_pure q⟩) fits)
end
section
variable {X : Cx}
def tRevU (K : PySem.W.Frag) (te : TE) : TE := fun σ H Q => te σ H fun x H1 => ∃ a xs, x = .ref a ∧ SqT K H1 a xs ∧ Tups K H1 xs.reverse Q
theorem pe_revT {e : Expr} {te : TE} {k : Nat} {p1 p2 p3 pos : Pos} (he : PE X e te) : PE X (.Subscript e (.Slice none none (some (.UnaryOp .USub (.Constant (.int 1) k p1) p2)) p3) pos) (tRevU X.K te) :=
  ⟨fun pins s σ H Q I h => Subscript_ (thn (he.run pins s σ H _ I h) fun v sa ⟨x, Ha, Ia, ra, a, xs, ex, hx, q⟩ => by
    subst ex
    cases ra
    have minus : PO X (some (.UnaryOp .USub (.Constant (.int 1) k p1) p2)) (tPart (tUn (rU fun i => .int (-i)) (tC (.int 1)))) := po_some (pe_un un_neg pe_int)
    refine wpAny_Slice (thn (po_none.run pins sa σ Ha (fun o H' => o = none ∧ H' = Ha) Ia ⟨rfl, rfl⟩) fun vl sb ⟨l, Hb, Ib, pl, el, eb⟩ => ?_)
    subst el eb
    refine thn (po_none.run pins sb σ Hb (fun o H' => o = none ∧ H' = Hb) Ib ⟨rfl, rfl⟩) fun vu sc ⟨u, Hc, Ic, pu, eu, ec⟩ => ?_
    subst eu ec
    refine thn (minus.run pins sc σ Hc (fun o H' => o = some (-1) ∧ H' = Hc) Ic ⟨1, rfl, -1, rfl, rfl, rfl⟩) fun vs sd ⟨o, Hd, Id, ps, eo, ed⟩ => ?_
    subst eo ed
    cases pl
    cases pu
    have J : Inv X pins σ Hd { sd with heap := sd.heap.push { cls := .type "slice", data := .fields #[.none, .none, vs] } } := Id.kept (t' := sd.toks) fun b ob z => Heap.get?_push_of_some _ z
    obtain ⟨its, r, tp, few⟩ := J.tuple hx
    have same := r.length
    show wpAny (model X.prog X.w) X.A (subscriptTail e (.Slice none none (some (.UnaryOp .USub (.Constant (.int 1) k p1) p2)) p3) (.ref a) (.ref sd.heap.objs.size)) (EP X pins σ Q) X.xe { sd with heap := sd.heap.push { cls := .type "slice", data := .fields #[.none, .none, vs] } }
    refine tail_any (ops := [.ref a, .ref sd.heap.objs.size]) tp.typeIs (PyProof.Rows.slot_tuple_getitem.lookup) ?_ (by with_unfolding_all rfl)
    refine back_item tp (Heap.IsSliceOf.new _ .none .none vs) ps ?_ (by rw [List.size_toArray]; omega)
    refine ⟨.ref _, _, J.laid (t' := sd.toks) (o := .tup xs.reverse) (fun b ob z => Heap.get?_push_of_some _ z) (Nat.le_refl _) ?_, rfl, q.new (J.hok.fresh (Nat.le_refl _))⟩
    exact ⟨by rw [List.length_reverse]; exact few, _, r.reverse, IsTup.new _ _⟩)⟩
end
end Fc

namespace Fc
open PySem PySem.Spec L2 PyProof.Rows
/-! ### t * k of any small k -/
theorem mul_self (l : Addr) (its : Array Value) (n : Nat) (dd : Option Addr) (sl : Array (Option Value)) (k : Int) (u : Tok) (c0 : (decide (k < -(2 ^ 63)) || decide (k ≥ 2 ^ 63)) = false) (c1 : (its.isEmpty || k == 1) = true) :
    Meets (Builtin.«tuple.__mul__» ⟨[.ref l, .int k u], []⟩) (fun _ R s => s.heap.get? l = some { cls := .type "tuple", dict := dd, data := .seq its n, slots := sl } ∧ R (.ok (.ret (Value.ref l))) s) :=
  .of_wp fun prog w A R s h => by
    obtain ⟨hp, g, d, tk, os⟩ := s
    obtain ⟨hl, h⟩ := h
    have f1 := AutoSeq1.idx_int
    wp_walk using wpAny_loadPart' hl
    repeat (first
      | (refine wpAny_ite_false (decide_eq_false (by rw [c0]; exact Bool.false_ne_true)) ?_; wp_walk using wpAny_loadPart' hl)
      | (refine wpAny_ite_true (decide_eq_true c1) ?_; wp_walk using wpAny_loadPart' hl))
    exact ⟨_, rfl, h⟩
theorem mul_none (l : Addr) (its : Array Value) (n : Nat) (dd : Option Addr) (sl : Array (Option Value)) (k : Int) (u : Tok) (c0 : (decide (k < -(2 ^ 63)) || decide (k ≥ 2 ^ 63)) = false) (c1 : (its.isEmpty || k == 1) = false) (c2 : (decide (k ≤ 0) || its.isEmpty) = true) :
    Meets (Builtin.«tuple.__mul__» ⟨[.ref l, .int k u], []⟩) (fun _ R s => s.heap.get? l = some { cls := .type "tuple", dict := dd, data := .seq its n, slots := sl } ∧
      R (.ok (.ret (Value.ref s.heap.objs.size))) { s with heap := s.heap.push { cls := Value.type "tuple", data := Data.seq #[] }, toks := s.toks }) :=
  .of_wp fun prog w A R s h => by
    obtain ⟨hp, g, d, tk, os⟩ := s
    obtain ⟨hl, h⟩ := h
    have f1 := AutoSeq1.idx_int
    wp_walk using wpAny_loadPart' hl
    repeat (first
      | (refine wpAny_ite_false (decide_eq_false (by rw [c0]; exact Bool.false_ne_true)) ?_; wp_walk using wpAny_loadPart' hl)
      | (refine wpAny_ite_false (decide_eq_false (by rw [c1]; exact Bool.false_ne_true)) ?_; wp_walk using wpAny_loadPart' hl)
      | (refine wpAny_ite_true (decide_eq_true c2) ?_; wp_walk using wpAny_loadPart' hl))
    exact ⟨_, rfl, h⟩
def rRepU (K : PySem.W.Frag) : R2 := fun x y H Q => ∃ l k xs, x = .ref l ∧ y = .int k ∧ SqT K H l xs ∧ 0 ≤ k ∧ k ≤ 1000 ∧ xs.length ≤ 1000 ∧ Tups K H (List.replicate k.toNat xs).flatten Q
section
variable {X : Cx}
theorem op_repU : OpR X (binaryOp .Mult) (rRepU X.K) := by
  intro pins s σ H x y v u Q I rx ry h
  obtain ⟨l, k, xs, rfl, rfl, hT, k0, k1, few, q⟩ := h
  by_cases hn : xs = [] ∨ k < 2
  · cases rx
    obtain ⟨t, rfl⟩ := ry
    obtain ⟨its, r, ⟨⟨cls, dd, data, sl⟩, ho, hc, n, hd⟩, hs⟩ := I.tuple hT
    simp only at hc hd
    subst hc hd
    have hle : its.length = xs.length := r.length.symm
    have c0 : (decide (k < -(2 ^ 63)) || decide (k ≥ 2 ^ 63)) = false := by
      rw [decide_eq_false (by omega), decide_eq_false (by omega)] <;> rfl
    by_cases he : xs = [] ∨ k = 1
    · have c1 : (its.toArray.isEmpty || k == 1) = true := by
        rcases he with e | e
        · have : its = [] := by
            rw [e] at hle
            exact List.eq_nil_of_length_eq_zero hle
          rw [this]
          rfl
        · rw [e]
          simp
      have ex : xs = (List.replicate k.toNat xs).flatten := by
        rcases he with e | e
        · rw [e]
          simp
        · rw [e]
          simp
      refine wpAny_binaryOp_repeat_ref (T := "tuple") (U := "int") (by decide) ⟨_, ho, rfl⟩ (fun s' => typeIs_int s' k t) noFill_tuple_mul F.fills_int_mul F.slot_int_rmul repeat_tuple F.slot_int_index.lookup
        (call_meets F.slot_int_rmul (typeIs_int s k t) F.entry_int_rmul (F.args_int_rmul_2 _ _) (int_rmul_tuple k t l its.toArray n dd sl)
          ⟨ho, rfl, ⟨_, ho, rfl⟩, call_meets F.slot_tuple_mul ⟨_, ho, rfl⟩ F.entry_tuple_mul (F.args_tuple_mul_2 _ _) (mul_self l its.toArray n dd sl k t c0 c1) ⟨ho, ?_⟩⟩)
      exact ⟨.ref l, H, I, rfl, q.old hT ex⟩
    · have hx : xs ≠ [] := fun e => he (.inl e)
      have h1 : k ≠ 1 := fun e => he (.inr e)
      have h0 : k = 0 := by
        rcases hn with e | e
        · exact absurd e hx
        · omega
      have hi : its.toArray.isEmpty = false := by
        cases its with
        | nil =>
          exact absurd (List.eq_nil_of_length_eq_zero hle.symm) hx
        | cons a b => rfl
      have c1 : (its.toArray.isEmpty || k == 1) = false := by
        rw [hi, h0]
        rfl
      have c2 : (decide (k ≤ 0) || its.toArray.isEmpty) = true := by
        rw [h0]
        rfl
      have ex : (List.replicate k.toNat xs).flatten = [] := by
        rw [h0]
        rfl
      rw [ex] at q
      refine wpAny_binaryOp_repeat_ref (T := "tuple") (U := "int") (by decide) ⟨_, ho, rfl⟩ (fun s' => typeIs_int s' k t) noFill_tuple_mul F.fills_int_mul F.slot_int_rmul repeat_tuple F.slot_int_index.lookup
        (call_meets F.slot_int_rmul (typeIs_int s k t) F.entry_int_rmul (F.args_int_rmul_2 _ _) (int_rmul_tuple k t l its.toArray n dd sl)
          ⟨ho, rfl, ⟨_, ho, rfl⟩, call_meets F.slot_tuple_mul ⟨_, ho, rfl⟩ F.entry_tuple_mul (F.args_tuple_mul_2 _ _) (mul_none l its.toArray n dd sl k t c0 c1 c2) ⟨ho, ?_⟩⟩)
      refine ⟨.ref s.heap.objs.size, _, I.laid (t' := s.toks) (o := .tup []) (fun b ob z => Heap.get?_push_of_some _ z) (Nat.le_refl _) ?_, rfl, q.new (I.hok.fresh (Nat.le_refl _))⟩
      exact ⟨Nat.zero_le _, [], .nil, IsTup.new _ _⟩
  · exact op_repT pins s σ H _ _ v u Q I rx ry ⟨l, k, xs, rfl, rfl, hT, fun e => hn (.inl e), by omega, k1, few, fun p z => q.new z⟩
end
end Fc

namespace Fc
open PySem PySem.Spec L2 PyProof.Rows
def topS (i : Nat) : Stmt := PySem.Challenge.pw_filecrate_k04_whole_sums_put_together.main.body.getD i (.Pass ⟨0, 0, 0, 0⟩)
abbrev sSumOf : Stmt := topS 4
abbrev nSumOf : List Str := ["body"]
theorem scSumOf : FnScope nSumOf ["body"] (defScope sSumOf) := ⟨rfl, rfl, rfl, by decide +kernel, rfl, by decide +kernel, by decide +kernel⟩
abbrev sSumOn : Stmt := topS 5
abbrev nSumOn : List Str := ["before", "body", "byte", "high", "low"]
theorem scSumOn : FnScope nSumOn ["before", "body"] (defScope sSumOn) := ⟨rfl, rfl, rfl, by decide +kernel, rfl, by decide +kernel, by decide +kernel⟩
abbrev sSumJoined : Stmt := topS 6
abbrev nSumJoined : List Str := ["one", "other", "many", "more", "one_high", "one_low", "other_high", "other_low"]
theorem scSumJoined : FnScope nSumJoined ["one", "other", "many"] (defScope sSumJoined) := ⟨rfl, rfl, rfl, by decide +kernel, rfl, by decide +kernel, by decide +kernel⟩
abbrev sSumChanged : Stmt := topS 7
abbrev nSumChanged : List Str := ["before", "many", "place", "old", "new", "more", "high", "low"]
theorem scSumChanged : FnScope nSumChanged ["before", "many", "place", "old", "new"] (defScope sSumChanged) := ⟨rfl, rfl, rfl, by decide +kernel, rfl, by decide +kernel, by decide +kernel⟩
abbrev sToldSum : Stmt := topS 8
abbrev nToldSum : List Str := ["high", "low"]
theorem scToldSum : FnScope nToldSum ["high", "low"] (defScope sToldSum) := ⟨rfl, rfl, rfl, by decide +kernel, rfl, by decide +kernel, by decide +kernel⟩
abbrev sLawSame : Stmt := topS 10
abbrev nLawSame : List Str := ["_law_told", "_law_due", "_law_one", "_law_other"]
theorem scLawSame : FnScope nLawSame ["_law_told", "_law_due"] (defScope sLawSame) := ⟨rfl, rfl, rfl, by decide +kernel, rfl, by decide +kernel, by decide +kernel⟩
abbrev sLawBytes : Stmt := topS 11
abbrev nLawBytes : List Str := ["_law_script", "_law_begin", "_law_end", "_law_one"]
theorem scLawBytes : FnScope nLawBytes ["_law_script", "_law_begin", "_law_end"] (defScope sLawBytes) := ⟨rfl, rfl, rfl, by decide +kernel, rfl, by decide +kernel, by decide +kernel⟩
abbrev sLawSum : Stmt := topS 12
abbrev nLawSum : List Str := ["_law_body", "_law_low", "_law_high", "_law_one"]
theorem scLawSum : FnScope nLawSum ["_law_body"] (defScope sLawSum) := ⟨rfl, rfl, rfl, by decide +kernel, rfl, by decide +kernel, by decide +kernel⟩
abbrev sLaw : Stmt := topS 13
abbrev nLaw : List Str := ["_law_script", "_law_one", "_law_other", "_law_first", "_law_second", "_law_due", "_law_new", "_law_place", "_law_turned", "_law_told"]
theorem scLaw : FnScope nLaw ["_law_script"] (defScope sLaw) := ⟨rfl, rfl, rfl, by decide +kernel, rfl, by decide +kernel, by decide +kernel⟩
structure Env (K : PySem.W.Frag) (mg : Str → Option Value) : Prop where
  b_bool : mg "bool" = none
  b_divmod : mg "divmod" = none
  b_int : mg "int" = none
  b_isinstance : mg "isinstance" = none
  b_len : mg "len" = none
  b_min : mg "min" = none
  b_range : mg "range" = none
  b_str : mg "str" = none
  b_tuple : mg "tuple" = none
  g_EMPTY_SUM : ∃ t, mg "EMPTY_SUM" = some (.int 1 t)
  g_HIGH_WORTH : ∃ t, mg "HIGH_WORTH" = some (.int 65536 t)
  g_RESTS_BY : ∃ t, mg "RESTS_BY" = some (.int 65521 t)

/-! ### sums -/
def bump (p : Int × Int) (x : Int) : Int × Int := (p.1 + (p.2 + x), p.2 + x)
def runS (p : Int × Int) (ns : List Int) : Int × Int := ns.foldl bump p
def told (p : Int × Int) : Int := p.1 % 65521 * 65536 + p.2 % 65521
def sumOn (b : Int) (ns : List Int) : Int := told (runS (b / 65536, b % 65536) ns)
theorem runS_take {p : Int × Int} {ns : List Int} {i : Nat} {x : Int} (h : ns[i]? = some x) : runS p (ns.take (i + 1)) = bump (runS p (ns.take i)) x := by
  unfold runS
  rw [List.take_add_one, h, Option.toList_some, List.foldl_append]
  rfl
theorem got {ns : List Int} {i : Nat} {x : V} (h : (ns.map V.int)[i]? = some x) : ∃ n, ns[i]? = some n ∧ x = .int n := by
  rw [List.getElem?_map] at h
  cases e : ns[i]? with
  | none => rw [e] at h; cases h
  | some n => rw [e] at h; exact ⟨n, rfl, (Option.some.inj h).symm⟩
section
variable {P : Program} {w : World} {K : PySem.W.Frag} {mg : Str → Option Value} {base : Heap}
def spTold : Sp := fun vs H Q _ => ∃ h l : Int, vs = [.int h, .int l] ∧ Q (.int (told (h, l))) H
theorem ok_told {f : Addr} {fd : FuncData} (Ev : Env K mg) (F : Fun K "told_sum" "told_sum" sToldSum f fd) : FnOk P w K mg base CX0 1 f fd ["high", "low"] spTold := by
  refine F.ok scToldSum (fun vs H Q E h => ?_) (fun cdv A outer s H vs Q E hr h => ?_)
  · obtain ⟨h, l, rfl, _⟩ := h; rfl
  · obtain ⟨h, l, rfl, q⟩ := h
    refine ⟨_, (pss_one (ps_ret (pe_op op_add (pe_op op_mul (pe_op op_mod (pv 0) (pe_globI (by rfl) Ev.g_RESTS_BY)) (pe_globI (by rfl) Ev.g_HIGH_WORTH)) (pe_op op_mod (pv 1) (pe_globI (by rfl) Ev.g_RESTS_BY))))), ?_⟩
    exact ⟨_, rfl, h, 65521, rfl, rfl, (show (0 : Int) < 65521 by decide), _, 65536, rfl, rfl, .inr ⟨by decide, by decide⟩, _, rfl, l, 65521, rfl, rfl, (show (0 : Int) < 65521 by decide), _, _, rfl, rfl, q⟩
def spOn (K : PySem.W.Frag) : Sp := fun vs H Q _ => ∃ (b : Int) (a : Addr) (ns : List Int), vs = [.int b, .ref a] ∧ SqT K H a (ns.map V.int) ∧ ∀ H', Same H H' → Q (.int (sumOn b ns)) H'
theorem ok_on {f : Addr} {fd : FuncData} (Ev : Env K mg) (CToldSum : Cal P w K mg base "told_sum" 1 ["high", "low"] spTold) (F : Fun K "sum_on" "sum_on" sSumOn f fd) : FnOk P w K mg base CX0 2 f fd ["before", "body"] (spOn K) := by
  refine F.ok scSumOn (fun vs H Q E h => ?_) (fun cdv A outer s H vs Q E hr h => ?_)
  · obtain ⟨b, a, ns, rfl, _⟩ := h; rfl
  · obtain ⟨b, a, ns, rfl, hT, q⟩ := h
    refine ⟨_, (pss_cons (ps_asg (pe_callB call_divmodU (by rfl) Ev.b_divmod (by decide +kernel) (pa_cons (pv 0) (pa_cons (pe_globI (by rfl) Ev.g_HIGH_WORTH) pa_nil))) (pg_tup (by rfl) (pgs_cons (pg_name (i := 3) scSumOn.nd rfl (.inl rfl)) (pgs_cons (pg_name (i := 4) scSumOn.nd rfl (.inl rfl)) pgs_nil))))
      (pss_cons (ps_for PassesOwn.never rfl (pi_tup (pv 1)) (pg_name (i := 2) scSumOn.nd rfl (.inl rfl))
        (pss_cons (ps_aug (i := 4) scSumOn.nd rfl (.inl rfl) (pv 2) ip_add)
        (pss_one (ps_aug (i := 3) scSumOn.nd rfl (.inl rfl) (pv 4) ip_add))))
      (pss_one (ps_ret (pe_c CToldSum (hr.mono (by decide)) (pa_cons (pv 3) (pa_cons (pv 4) pa_nil))))))), ?_⟩
    refine ⟨_, rfl, b, 65536, rfl, ⟨by decide, by decide⟩, fun H1 t1 s1 h1 => ?_⟩
    refine ⟨t1, _, rfl, h1, rfl, _, _, rfl, _, _, rfl, rfl, ?_⟩
    refine ⟨_, rfl, a, rfl, ⟨_, keepT s1 hT⟩, for_tup (xs := ns.map V.int) (fun i σ H' => ∃ y, σ = [some (.int b), some (.ref a), y, some (.int (runS (b / 65536, b % 65536) (ns.take i)).1), some (.int (runS (b / 65536, b % 65536) (ns.take i)).2)] ∧ Same H H') ⟨none, rfl, s1⟩ (fun i σ H' _ p => ?_) (fun i x σ H' hx p => ?_) (fun σ H' p => ?_)⟩
    · obtain ⟨y, _, sm⟩ := p
      exact keepT sm hT
    · obtain ⟨y, rfl, sm⟩ := p
      obtain ⟨n, hn, rfl⟩ := got hx
      refine ⟨_, rfl, _, rfl, _, _, rfl, rfl, _, rfl, _, rfl, _, _, rfl, rfl, some (.int n), ?_, sm⟩
      rw [runS_take hn]
      rfl
    · obtain ⟨y, rfl, sm⟩ := p
      refine ⟨_, rfl, _, rfl, _, _, rfl, ?_⟩
      rw [List.length_map, List.take_length]
      exact q _ sm
def spOf (K : PySem.W.Frag) : Sp := fun vs H Q _ => ∃ (a : Addr) (ns : List Int), vs = [.ref a] ∧ SqT K H a (ns.map V.int) ∧ ∀ H', Same H H' → Q (.int (sumOn 1 ns)) H'
theorem ok_of {f : Addr} {fd : FuncData} (Ev : Env K mg) (CSumOn : Cal P w K mg base "sum_on" 2 ["before", "body"] (spOn K)) (F : Fun K "sum_of" "sum_of" sSumOf f fd) : FnOk P w K mg base CX0 3 f fd ["body"] (spOf K) := by
  refine F.ok scSumOf (fun vs H Q E h => ?_) (fun cdv A outer s H vs Q E hr h => ?_)
  · obtain ⟨a, ns, rfl, _⟩ := h; rfl
  · obtain ⟨a, ns, rfl, hT, q⟩ := h
    refine ⟨_, (pss_one (ps_ret (pe_c CSumOn (hr.mono (by decide)) (pa_cons (pe_globI (by rfl) Ev.g_EMPTY_SUM) (pa_cons (pv 0) pa_nil))))), ?_⟩
    exact ⟨_, rfl, 1, a, ns, rfl, hT, q⟩
/-! ### the law's bytes -/
def bytesOf (ns : List Int) (b e : Nat) : List Int := ((ns.drop b).take (e - b)).map (· % 256)
theorem bytesOf_in {ns : List Int} {b e : Nat} {x : Int} (h : x ∈ bytesOf ns b e) : 0 ≤ x ∧ x < 256 := by
  obtain ⟨y, _, rfl⟩ := List.mem_map.mp h
  exact ⟨Int.emod_nonneg _ (by decide), Int.emod_lt_of_pos _ (by decide)⟩
theorem bytesOf_len (ns : List Int) (b e : Nat) : (bytesOf ns b e).length = min (e - b) (ns.length - b) := by
  unfold bytesOf
  rw [List.length_map, List.length_take, List.length_drop]
def spBytes (K : PySem.W.Frag) : Sp := fun vs H Q _ => ∃ (a : Addr) (ns : List Int) (b e : Nat), vs = [.ref a, .int (b : Int), .int (e : Int)] ∧ SqL K H a (ns.map V.int) ∧ ns.length ≤ 63 ∧ Tups K H ((bytesOf ns b e).map V.int) Q
theorem ok_bytes {f : Addr} {fd : FuncData} (Ev : Env K mg) (F : Fun K "_law_bytes" "_law_bytes" sLawBytes f fd) : FnOk P w K mg base CX0 1 f fd ["_law_script", "_law_begin", "_law_end"] (spBytes K) := by
  refine F.ok scLawBytes (fun vs H Q E h => ?_) (fun cdv A outer s H vs Q E hr h => ?_)
  · obtain ⟨a, ns, b, e, rfl, _⟩ := h; rfl
  · obtain ⟨a, ns, b, e, rfl, hS, hz, q⟩ := h
    refine ⟨_, (pss_one (ps_ret (pe_callTy call_tupleU (by rfl) Ev.b_tuple (by decide +kernel) (pa_cons (pe_lc (own := [("_law_one", 3)]) (g := gName 3) (tt := tYes) (by rfl) scLawBytes.nd (pi_list (pe_slice sl_list (pv 0) (po_some (pv 1)) (po_some (pv 2)))) (blkOk_by (own := [("_law_one", 3)]) (N := nLawBytes) (sc := defScope sLawBytes) (by decide +kernel)) (fun _ _ _ _ _ => (pg_name (i := 3) scLawBytes.nd rfl (.inl rfl))) (fun _ _ _ _ _ => pts_nil) (fun _ _ _ _ _ => (pe_op op_mod (pv 3) pe_int))) pa_nil)))), ?_⟩
    refine ⟨_, rfl, _, rfl, (b : Int), rfl, _, rfl, (e : Int), rfl, a, _, rfl, hS, fun p np => ⟨p, rfl, ⟨_, SqL.of upd_same⟩, fun D nD => ?_⟩⟩
    rw [cut_mid] at nD ⊢
    refine lc_row (xs := ((ns.drop b).take (e - b)).map V.int) (ys := (bytesOf ns b e).map V.int) nD (SqL.of upd_same) ?_ ?_ (fun _ => rfl) (fun i x y H2 R hx hy sm r => ?_) (fun H2 sm h2 => ?_)
    · rw [List.length_map, List.length_map, bytesOf, List.length_map]
    · rw [List.length_map, List.length_take, List.length_drop]
      exact Nat.le_of_lt (small1000 (by omega))
    · obtain ⟨n, hn, rfl⟩ := got hx
      have ey : y = .int (n % 256) := by
        unfold bytesOf at hy
        rw [List.getElem?_map, List.getElem?_map, hn] at hy
        exact (Option.some.inj hy).symm
      subst ey
      exact ⟨_, rfl, n, 256, rfl, rfl, (show (0 : Int) < 256 by decide), r _ (Same.refl _)⟩
    · exact ⟨D, _, rfl, SqL.of h2, fun H3 t s3 h3 => q _ _ (((grow np).trans sm).trans s3) h3⟩

/-! ### two whole numbers are the same -/
def spSame : Sp := fun vs H Q _ => ∃ x y : Int, vs = [.int x, .int y] ∧ Q (.bl (decide (x = y))) H
theorem ok_same {f : Addr} {fd : FuncData} (Ev : Env K mg) (F : Fun K "_law_same" "_law_same" sLawSame f fd) : FnOk P w K mg base CX0 1 f fd ["_law_told", "_law_due"] spSame := by
  refine F.ok scLawSame (fun vs H Q E h => ?_) (fun cdv A outer s H vs Q E hr h => ?_)
  · obtain ⟨x, y, rfl, _⟩ := h; rfl
  · obtain ⟨x, y, rfl, q⟩ := h
    refine ⟨_, (pss_cons (ps_if (pt_cmpR op_isN (pv 1) pe_non (nomark _))
        (pss_one (ps_ret (pe_cmpR op_isN (pv 0) pe_non (nomark _))))
        pss_nil)
      (pss_cons (ps_if (pt_val (pe_callB call_isi (by rfl) Ev.b_isinstance (by decide +kernel) (pa_cons (pv 1) (pa_cons (pe_btype (n := "bool") (by rfl) Ev.b_bool (by decide +kernel)) pa_nil))))
        (pss_one (ps_ret (pe_and (pe_callB call_isi (by rfl) Ev.b_isinstance (by decide +kernel) (pa_cons (pv 0) (pa_cons (pe_btype (n := "bool") (by rfl) Ev.b_bool (by decide +kernel)) pa_nil))) (pe_one (pe_cmpR op_eq (pv 0) (pv 1) (nomark _))))))
        pss_nil)
      (pss_cons (ps_if (pt_val (pe_callB call_isi (by rfl) Ev.b_isinstance (by decide +kernel) (pa_cons (pv 1) (pa_cons (pe_btype (n := "tuple") (by rfl) Ev.b_tuple (by decide +kernel)) pa_nil))))
        pss_never
        pss_nil)
      (pss_cons (ps_if (pt_val (pe_callB call_isi (by rfl) Ev.b_isinstance (by decide +kernel) (pa_cons (pv 1) (pa_cons (pe_btype (n := "str") (by rfl) Ev.b_str (by decide +kernel)) pa_nil))))
        (pss_one (ps_ret (pe_and (pe_callB call_isi (by rfl) Ev.b_isinstance (by decide +kernel) (pa_cons (pv 0) (pa_cons (pe_btype (n := "str") (by rfl) Ev.b_str (by decide +kernel)) pa_nil))) (pe_one (pe_cmpR op_eq (pv 0) (pv 1) (nomark _))))))
        pss_nil)
      (pss_one (ps_ret (pe_and (pe_callB call_isi (by rfl) Ev.b_isinstance (by decide +kernel) (pa_cons (pv 0) (pa_cons (pe_btype (n := "int") (by rfl) Ev.b_int (by decide +kernel)) pa_nil))) (pe_and (pe_not (pe_callB call_isi (by rfl) Ev.b_isinstance (by decide +kernel) (pa_cons (pv 0) (pa_cons (pe_btype (n := "bool") (by rfl) Ev.b_bool (by decide +kernel)) pa_nil)))) (pe_one (pe_cmpR op_eq (pv 0) (pv 1) (nomark _))))))))))), ?_⟩
    refine ⟨_, rfl, rfl, _, rfl, iteF ?_⟩
    refine ⟨.int y, rfl, _, _, _, _, false, rfl, .ty "bool", .base (.int _), k_ib, false, rfl, iteF ?_⟩
    refine ⟨.int y, rfl, _, _, _, _, false, rfl, .ty "tuple", .base (.int _), k_it, false, rfl, iteF ?_⟩
    refine ⟨.int y, rfl, _, _, _, _, false, rfl, .ty "str", .base (.int _), k_is', false, rfl, iteF ?_⟩
    refine ⟨.int x, rfl, _, _, _, _, true, rfl, .ty "int", .base (.int _), k_ii, true, rfl, iteT ?_⟩
    refine ⟨.int x, rfl, _, _, _, _, false, rfl, .ty "bool", .base (.int _), k_ib, false, rfl, true, rfl, iteT ?_⟩
    refine ⟨.int x, rfl, .int y, rfl, rfl, ?_⟩
    have e : decide (V.int x = V.int y) = decide (x = y) := by
      by_cases z : x = y
      · rw [z]; simp
      · rw [decide_eq_false z]; exact decide_eq_false fun k => z (V.int.inj k)
    rw [e]
    exact q

/-! ### the law's own sum -/
theorem ok_lsum {f : Addr} {fd : FuncData} (Ev : Env K mg) (F : Fun K "_law_sum" "_law_sum" sLawSum f fd) : FnOk P w K mg base CX0 1 f fd ["_law_body"] (spOf K) := by
  refine F.ok scLawSum (fun vs H Q E h => ?_) (fun cdv A outer s H vs Q E hr h => ?_)
  · obtain ⟨a, ns, rfl, _⟩ := h; rfl
  · obtain ⟨a, ns, rfl, hT, q⟩ := h
    refine ⟨_, (pss_cons (ps_set (i := 1) scLawSum.nd rfl (.inl rfl) pe_int)
      (pss_cons (ps_set (i := 2) scLawSum.nd rfl (.inl rfl) pe_int)
      (pss_cons (ps_for PassesOwn.never rfl (pi_tup (pv 0)) (pg_name (i := 3) scLawSum.nd rfl (.inl rfl))
        (pss_cons (ps_set (i := 1) scLawSum.nd rfl (.inl rfl) (pe_op op_add (pv 1) (pv 3)))
        (pss_one (ps_set (i := 2) scLawSum.nd rfl (.inl rfl) (pe_op op_add (pv 2) (pv 1))))))
      (pss_one (ps_ret (pe_op op_add (pe_op op_mul (pe_op op_mod (pv 2) pe_int) pe_int) (pe_op op_mod (pv 1) pe_int))))))), ?_⟩
    refine ⟨_, rfl, a, rfl, ⟨_, hT⟩, for_tup (xs := ns.map V.int) (fun i σ H' => ∃ y, σ = [some (.ref a), some (.int (runS (0, 1) (ns.take i)).2), some (.int (runS (0, 1) (ns.take i)).1), y] ∧ H' = H) ⟨none, rfl, rfl⟩ (fun i σ H' _ p => ?_) (fun i x σ H' hx p => ?_) (fun σ H' p => ?_)⟩
    · obtain ⟨y, _, rfl⟩ := p
      exact hT
    · obtain ⟨y, rfl, rfl⟩ := p
      obtain ⟨n, hn, rfl⟩ := got hx
      refine ⟨_, rfl, _, rfl, _, _, rfl, rfl, _, rfl, _, rfl, _, _, rfl, rfl, some (.int n), ?_, rfl⟩
      rw [runS_take hn]
      rfl
    · obtain ⟨y, rfl, rfl⟩ := p
      rw [List.length_map, List.take_length]
      exact ⟨_, rfl, _, 65521, rfl, rfl, (show (0 : Int) < 65521 by decide), _, 65536, rfl, rfl, .inr ⟨by decide, by decide⟩, _, rfl, _, 65521, rfl, rfl, (show (0 : Int) < 65521 by decide), _, _, rfl, rfl, q _ (Same.refl _)⟩

/-! ### a sum that goes on -/
theorem rep_map (k : Nat) (bs : List Int) : (List.replicate k (bs.map V.int)).flatten = (List.replicate k bs).flatten.map V.int := by
  rw [List.map_flatten, List.map_replicate]
theorem runS_alike : ∀ (ns : List Int) (p r : Int × Int), p.1 % 65521 = r.1 % 65521 → p.2 % 65521 = r.2 % 65521 → (runS p ns).1 % 65521 = (runS r ns).1 % 65521 ∧ (runS p ns).2 % 65521 = (runS r ns).2 % 65521
  | [], p, r, h1, h2 => ⟨h1, h2⟩
  | x :: t, p, r, h1, h2 => by
    refine runS_alike t (bump p x) (bump r x) ?_ ?_
    · show (p.1 + (p.2 + x)) % 65521 = (r.1 + (r.2 + x)) % 65521
      omega
    · show (p.2 + x) % 65521 = (r.2 + x) % 65521
      omega
theorem told_alike {p r : Int × Int} (h1 : p.1 % 65521 = r.1 % 65521) (h2 : p.2 % 65521 = r.2 % 65521) : told p = told r := by
  unfold told
  rw [h1, h2]
theorem told_parts (p : Int × Int) : told p / 65536 = p.1 % 65521 ∧ told p % 65536 = p.2 % 65521 := by
  unfold told
  omega
theorem sumOn_app (b : Int) (A B : List Int) : sumOn (sumOn b A) B = sumOn b (A ++ B) := by
  have e : runS (b / 65536, b % 65536) (A ++ B) = runS (runS (b / 65536, b % 65536) A) B := List.foldl_append
  have t := told_parts (runS (b / 65536, b % 65536) A)
  have g := runS_alike B (sumOn b A / 65536, sumOn b A % 65536) (runS (b / 65536, b % 65536) A) (by
    show told _ / 65536 % 65521 = _
    rw [t.1]; omega) (by
    show told _ % 65536 % 65521 = _
    rw [t.2]; omega)
  show told _ = told _
  rw [e]
  exact told_alike g.1 g.2

/-! ### sums put together -/
theorem runS_off : ∀ (B : List Int) (h l d e : Int), runS (h + d, l + e) B = ((runS (h, l) B).1 + d + (B.length : Int) * e, (runS (h, l) B).2 + e)
  | [], h, l, d, e => by
    show (h + d, l + e) = (h + d + ((0 : Nat) : Int) * e, l + e)
    simp
  | x :: r, h, l, d, e => by
    have ih := runS_off r (h + (l + x)) (l + x) (d + e) e
    show runS (h + d + (l + e + x), l + e + x) r = ((runS (h + (l + x), l + x) r).1 + d + ((r.length + 1 : Nat) : Int) * e, (runS (h + (l + x), l + x) r).2 + e)
    rw [show h + d + (l + e + x) = h + (l + x) + (d + e) by omega, show l + e + x = l + x + e by omega, ih]
    refine Prod.ext ?_ rfl
    show _ + (d + e) + (r.length : Int) * e = _ + d + ((r.length + 1 : Nat) : Int) * e
    rw [Int.natCast_add, Int.add_mul]
    omega
def joinedS (x y m : Int) : Int := told (x / 65536 + y / 65536 + m * (x % 65536 - 1), y % 65536 + (x % 65536 - 1))
theorem rest_mul (n l k : Int) : (n * (l % 65521 - k)) % 65521 = (n * (l - k)) % 65521 := by
  have e : l % 65521 = l - 65521 * (l / 65521) := Int.emod_def l 65521
  have e2 : n * (l % 65521 - k) = n * (l - k) - 65521 * (n * (l / 65521)) := by
    rw [e, Int.mul_sub, Int.mul_sub, Int.mul_sub, Int.mul_left_comm]
    omega
  rw [e2]
  omega
theorem joined_ok (A B : List Int) : joinedS (sumOn 1 A) (sumOn 1 B) (B.length : Int) = sumOn 1 (A ++ B) := by
  have e : runS (1 / 65536, 1 % 65536) (A ++ B) = runS (runS (1 / 65536, 1 % 65536) A) B := List.foldl_append
  have ta := told_parts (runS (1 / 65536, 1 % 65536) A)
  have tb := told_parts (runS (1 / 65536, 1 % 65536) B)
  unfold joinedS sumOn
  rw [e, ta.1, ta.2, tb.1, tb.2]
  have o := runS_off B 0 1 (runS (1 / 65536, 1 % 65536) A).1 ((runS (1 / 65536, 1 % 65536) A).2 - 1)
  rw [show (0 + (runS (1 / 65536, 1 % 65536) A).1, 1 + ((runS (1 / 65536, 1 % 65536) A).2 - 1)) = runS (1 / 65536, 1 % 65536) A from Prod.ext (by show 0 + _ = _; omega) (by show 1 + (_ - 1) = _; omega)] at o
  rw [o]
  have m := rest_mul (B.length : Int) (runS (1 / 65536, 1 % 65536) A).2 1
  have z : runS (1 / 65536, 1 % 65536) B = runS (0, 1) B := rfl
  rw [z]
  refine told_alike ?_ ?_
  · show (_ + _ + _) % 65521 = (_ + _ + _) % 65521
    omega
  · show (_ + (_ - 1)) % 65521 = (_ + (_ - 1)) % 65521
    omega
def changedS (b m p o n : Int) : Int := told (b / 65536 + (m - p) * (n - o), b % 65536 + (n - o))
theorem changed_ok (A B : List Int) (o n : Int) (m p : Int) (hm : m - p = (B.length : Int) + 1) : changedS (sumOn 1 (A ++ o :: B)) m p o n = sumOn 1 (A ++ [n] ++ B) := by
  have e1 : runS (1 / 65536, 1 % 65536) (A ++ o :: B) = runS (bump (runS (1 / 65536, 1 % 65536) A) o) B := List.foldl_append
  have e2 : runS (1 / 65536, 1 % 65536) (A ++ [n] ++ B) = runS (bump (runS (1 / 65536, 1 % 65536) A) n) B := by
    unfold runS
    rw [List.foldl_append, List.foldl_append]
    rfl
  have t := told_parts (runS (1 / 65536, 1 % 65536) (A ++ o :: B))
  unfold changedS sumOn
  rw [t.1, t.2, e1, e2, hm]
  generalize runS (1 / 65536, 1 % 65536) A = g
  obtain ⟨h, l⟩ := g
  have f := runS_off B (h + (l + o)) (l + o) (n - o) (n - o)
  have eb : bump (h, l) n = (h + (l + o) + (n - o), l + o + (n - o)) := Prod.ext (by show h + (l + n) = _; omega) (by show l + n = _; omega)
  have ec : bump (h, l) o = (h + (l + o), l + o) := rfl
  rw [eb, ec, f]
  have d : ((B.length : Int) + 1) * (n - o) = (B.length : Int) * (n - o) + (n - o) := by rw [Int.add_mul]; omega
  rw [d]
  refine told_alike ?_ ?_
  · show (_ % 65521 + _) % 65521 = (_ + _ + _) % 65521
    omega
  · show (_ % 65521 + _) % 65521 = (_ + _) % 65521
    omega
def spJoined : Sp := fun vs H Q _ => ∃ x y m : Int, vs = [.int x, .int y, .int m] ∧ 0 ≤ m ∧ m ≤ 100000 ∧ ∀ H', Same H H' → Q (.int (joinedS x y m)) H'
theorem ok_joined {f : Addr} {fd : FuncData} (Ev : Env K mg) (CToldSum : Cal P w K mg base "told_sum" 1 ["high", "low"] spTold) (F : Fun K "sum_joined" "sum_joined" sSumJoined f fd) : FnOk P w K mg base CX0 2 f fd ["one", "other", "many"] spJoined := by
  refine F.ok scSumJoined (fun vs H Q E h => ?_) (fun cdv A outer s H vs Q E hr h => ?_)
  · obtain ⟨x, y, m, rfl, _⟩ := h; rfl
  · obtain ⟨x, y, m, rfl, m0, m1, q⟩ := h
    refine ⟨_, (pss_cons (ps_asg (pe_callB call_divmodU (by rfl) Ev.b_divmod (by decide +kernel) (pa_cons (pv 0) (pa_cons (pe_globI (by rfl) Ev.g_HIGH_WORTH) pa_nil))) (pg_tup (by rfl) (pgs_cons (pg_name (i := 4) scSumJoined.nd rfl (.inl rfl)) (pgs_cons (pg_name (i := 5) scSumJoined.nd rfl (.inl rfl)) pgs_nil))))
      (pss_cons (ps_asg (pe_callB call_divmodU (by rfl) Ev.b_divmod (by decide +kernel) (pa_cons (pv 1) (pa_cons (pe_globI (by rfl) Ev.g_HIGH_WORTH) pa_nil))) (pg_tup (by rfl) (pgs_cons (pg_name (i := 6) scSumJoined.nd rfl (.inl rfl)) (pgs_cons (pg_name (i := 7) scSumJoined.nd rfl (.inl rfl)) pgs_nil))))
      (pss_cons (ps_set (i := 3) scSumJoined.nd rfl (.inl rfl) (pe_op op_sub (pv 5) (pe_globI (by rfl) Ev.g_EMPTY_SUM)))
      (pss_one (ps_ret (pe_c CToldSum (hr.mono (by decide)) (pa_cons (pe_op op_add (pe_op op_add (pv 4) (pv 6)) (pe_op op_mul (pv 2) (pv 3))) (pa_cons (pe_op op_add (pv 7) (pv 3)) pa_nil)))))))), ?_⟩
    refine ⟨_, rfl, x, 65536, rfl, ⟨by decide, by decide⟩, fun H1 t1 s1 h1 => ?_⟩
    refine ⟨t1, _, rfl, h1, rfl, _, _, rfl, _, _, rfl, rfl, ?_⟩
    refine ⟨_, rfl, y, 65536, rfl, ⟨by decide, by decide⟩, fun H2 t2 s2 h2 => ?_⟩
    refine ⟨t2, _, rfl, h2, rfl, _, _, rfl, _, _, rfl, rfl, ?_⟩
    refine ⟨_, rfl, _, _, rfl, rfl, ?_⟩
    refine ⟨_, rfl, _, rfl, _, _, rfl, rfl, _, rfl, _, rfl, _, _, rfl, rfl, .inl ⟨by omega, by omega⟩, _, _, rfl, rfl, _, rfl, _, rfl, _, _, rfl, rfl, _, _, rfl, q _ (s1.trans s2)⟩
def spChanged : Sp := fun vs H Q _ => ∃ b m p o n : Int, vs = [.int b, .int m, .int p, .int o, .int n] ∧ 0 ≤ m - p ∧ m - p ≤ 100000 ∧ ∀ H', Same H H' → Q (.int (changedS b m p o n)) H'
theorem ok_changed {f : Addr} {fd : FuncData} (Ev : Env K mg) (CToldSum : Cal P w K mg base "told_sum" 1 ["high", "low"] spTold) (F : Fun K "sum_changed" "sum_changed" sSumChanged f fd) : FnOk P w K mg base CX0 2 f fd ["before", "many", "place", "old", "new"] spChanged := by
  refine F.ok scSumChanged (fun vs H Q E h => ?_) (fun cdv A outer s H vs Q E hr h => ?_)
  · obtain ⟨b, m, p, o, n, rfl, _⟩ := h; rfl
  · obtain ⟨b, m, p, o, n, rfl, m0, m1, q⟩ := h
    refine ⟨_, (pss_cons (ps_asg (pe_callB call_divmodU (by rfl) Ev.b_divmod (by decide +kernel) (pa_cons (pv 0) (pa_cons (pe_globI (by rfl) Ev.g_HIGH_WORTH) pa_nil))) (pg_tup (by rfl) (pgs_cons (pg_name (i := 6) scSumChanged.nd rfl (.inl rfl)) (pgs_cons (pg_name (i := 7) scSumChanged.nd rfl (.inl rfl)) pgs_nil))))
      (pss_cons (ps_set (i := 5) scSumChanged.nd rfl (.inl rfl) (pe_op op_sub (pv 4) (pv 3)))
      (pss_one (ps_ret (pe_c CToldSum (hr.mono (by decide)) (pa_cons (pe_op op_add (pv 6) (pe_op op_mul (pe_op op_sub (pv 1) (pv 2)) (pv 5))) (pa_cons (pe_op op_add (pv 7) (pv 5)) pa_nil))))))), ?_⟩
    refine ⟨_, rfl, b, 65536, rfl, ⟨by decide, by decide⟩, fun H1 t1 s1 h1 => ?_⟩
    refine ⟨t1, _, rfl, h1, rfl, _, _, rfl, _, _, rfl, rfl, ?_⟩
    refine ⟨_, rfl, _, rfl, _, _, rfl, rfl, ?_⟩
    refine ⟨_, rfl, _, rfl, _, rfl, _, _, rfl, rfl, _, rfl, _, _, rfl, rfl, .inl ⟨by omega, by omega⟩, _, _, rfl, rfl, _, rfl, _, rfl, _, _, rfl, rfl, _, _, rfl, q _ s1⟩
theorem at_mid {bs : List Int} {k : Nat} (h : k < bs.length) : bs = bs.take k ++ bs[k] :: bs.drop (k + 1) := by
  rw [← List.drop_eq_getElem_cons h, List.take_append_drop]
/-! ### the law -/
def Two (K : PySem.W.Frag) (H : Hp) (x : V) : Prop := ∃ (t u v : Addr) (A B : List Int), x = .ref t ∧ SqT K H t [.ref u, .ref v] ∧ SqT K H u (A.map V.int) ∧ SqT K H v (B.map V.int) ∧ A.length ≤ 400 ∧ B.length ≤ 400
theorem Two.keep {K : PySem.W.Frag} {H H' : Hp} {x : V} (h : Two K H x) (e : Same H H') : Two K H' x := by
  obtain ⟨t, u, v, A, B, rfl, h1, h2, h3, h4, h5⟩ := h
  exact ⟨t, u, v, A, B, rfl, keepT e h1, keepT e h2, keepT e h3, h4, h5⟩
theorem rep_few {k : Nat} {bs : List Int} (h : bs.length ≤ 20) (hk : k ≤ 20) : (List.replicate k bs).flatten.length ≤ 400 := by
  rw [PyProof.Rows.lm_len_rep_flat]
  exact Nat.le_trans (Nat.mul_le_mul hk h) (by decide)
def spLaw (K : PySem.W.Frag) : Sp := fun vs H Q _ => ∃ (a : Addr) (ns : List Int), vs = [.ref a] ∧ SqL K H a (ns.map V.int) ∧ ns.length ≤ 63 ∧ ∀ H', Q (.bl true) H'
theorem ok_law {f : Addr} {fd : FuncData} (Ev : Env K mg) (CSumOf : Cal P w K mg base "sum_of" 3 ["body"] (spOf K)) (CSumJoined : Cal P w K mg base "sum_joined" 2 ["one", "other", "many"] spJoined) (CSumChanged : Cal P w K mg base "sum_changed" 2 ["before", "many", "place", "old", "new"] spChanged)
    (CLawBytes : Cal P w K mg base "_law_bytes" 1 ["_law_script", "_law_begin", "_law_end"] (spBytes K)) (CLawSame : Cal P w K mg base "_law_same" 1 ["_law_told", "_law_due"] spSame) (CLawSum : Cal P w K mg base "_law_sum" 1 ["_law_body"] (spOf K)) (F : Fun K "law" "law" sLaw f fd) :
    FnOk P w K mg base CX0 4 f fd ["_law_script"] (spLaw K) := by
  refine F.ok scLaw (fun vs H Q E h => ?_) (fun cdv A outer s H vs Q E hr h => ?_)
  · obtain ⟨a, ns, rfl, _⟩ := h; rfl
  · obtain ⟨a, ns, rfl, hS, hlen, q⟩ := h
    refine ⟨_, (pss_cons (ps_set (i := 1) scLaw.nd rfl (.inl rfl) (pe_c CLawBytes (hr.mono (by decide)) (pa_cons (pv 0) (pa_cons pe_int (pa_cons pe_int pa_nil)))))
      (pss_cons (ps_set (i := 2) scLaw.nd rfl (.inl rfl) (pe_c CLawBytes (hr.mono (by decide)) (pa_cons (pv 0) (pa_cons pe_int (pa_cons pe_int pa_nil)))))
      (pss_cons (ps_if (PW.pt (pw_and (pt_truth (pv 0) (by intro _; rfl)) (pw_and1 (pt_cmpR op_eq (pe_op op_mod (pe_ix ix_list (pv 0) pe_int (fun _ _ => rfl)) pe_int) pe_int (nomark _)))))
        (pss_cons (ps_set (i := 1) scLaw.nd rfl (.inl rfl) (pe_op op_repU (pv 1) pe_int))
        (pss_one (ps_set (i := 2) scLaw.nd rfl (.inl rfl) (pe_op op_repU (pv 2) (pe_op op_mod (pe_op op_fdiv (pe_ix ix_list (pv 0) pe_int (fun _ _ => rfl)) pe_int) pe_int)))))
        pss_nil)
      (pss_cons (ps_for PassesOwn.never rfl (pi_list (pe_lst (pa_cons (pe_tupU (pa_cons (pv 1) (pa_cons (pv 2) pa_nil))) (pa_cons (pe_tupU (pa_cons (pv 2) (pa_cons (pv 1) pa_nil))) (pa_cons (pe_tupU (pa_cons (pv 1) (pa_cons (pv 1) pa_nil))) (pa_cons (pe_tupU (pa_cons (pe_tupU pa_nil) (pa_cons (pv 2) pa_nil))) pa_nil)))))) (pg_tup (by rfl) (pgs_cons (pg_name (i := 3) scLaw.nd rfl (.inl rfl)) (pgs_cons (pg_name (i := 4) scLaw.nd rfl (.inl rfl)) pgs_nil)))
        (pss_cons (ps_set (i := 5) scLaw.nd rfl (.inl rfl) (pe_c CLawSum (hr.mono (by decide)) (pa_cons (pe_op op_catU (pv 3) (pv 4)) pa_nil)))
        (pss_one (ps_if (pt_not (pt_val (pe_c CLawSame (hr.mono (by decide)) (pa_cons (pe_c CSumJoined (hr.mono (by decide)) (pa_cons (pe_c CSumOf (hr.mono (by decide)) (pa_cons (pv 3) pa_nil)) (pa_cons (pe_c CSumOf (hr.mono (by decide)) (pa_cons (pv 4) pa_nil)) (pa_cons (pe_callB call_len_seq (by rfl) Ev.b_len PySem.boot_len (pa_cons (pv 4) pa_nil)) pa_nil)))) (pa_cons (pv 5) pa_nil)))))
          (pss_one (ps_ret pe_bl))
          pss_nil))))
      (pss_cons (ps_if (pt_cmpR op_gt (pe_callB call_len_seq (by rfl) Ev.b_len PySem.boot_len (pa_cons (pv 0) pa_nil)) pe_int (nomark _))
        (pss_cons (ps_set (i := 6) scLaw.nd rfl (.inl rfl) (pe_op op_mod (pe_ix ix_list (pv 0) pe_int (fun _ _ => rfl)) pe_int))
        (pss_one (ps_for PassesOwn.never rfl (pi_range1 (by rfl) Ev.b_range (pa_cons (pe_callB (call_min2 rfl) (by rfl) Ev.b_min (by decide +kernel) (pa_cons (pe_callB call_len_seq (by rfl) Ev.b_len PySem.boot_len (pa_cons (pv 1) pa_nil)) (pa_cons pe_int pa_nil))) pa_nil)) (pg_name (i := 7) scLaw.nd rfl (.inl rfl))
          (pss_cons (ps_set (i := 8) scLaw.nd rfl (.inl rfl) (pe_op op_catU (pe_op op_catU (pe_slice sl_tupU (pv 1) po_none (po_some (pv 7))) (pe_tupU (pa_cons (pv 6) pa_nil))) (pe_slice sl_tupU (pv 1) (po_some (pe_op op_add (pv 7) pe_int)) po_none)))
          (pss_cons (ps_set (i := 9) scLaw.nd rfl (.inl rfl) (pe_c CSumChanged (hr.mono (by decide)) (pa_cons (pe_c CSumOf (hr.mono (by decide)) (pa_cons (pv 1) pa_nil)) (pa_cons (pe_callB call_len_seq (by rfl) Ev.b_len PySem.boot_len (pa_cons (pv 1) pa_nil)) (pa_cons (pv 7) (pa_cons (pe_ix ix_tup (pv 1) (pv 7) (fun _ _ => rfl)) (pa_cons (pv 6) pa_nil)))))))
          (pss_one (ps_if (pt_not (pt_val (pe_c CLawSame (hr.mono (by decide)) (pa_cons (pv 9) (pa_cons (pe_c CLawSum (hr.mono (by decide)) (pa_cons (pv 8) pa_nil)) pa_nil)))))
            (pss_one (ps_ret pe_bl))
            pss_nil)))))))
        pss_nil)
      (pss_one (ps_ret pe_bl))))))), ?_⟩
    refine ⟨_, rfl, a, ns, 2, 22, rfl, hS, hlen, fun H1 p1 s1 h1 => ?_⟩
    refine ⟨_, rfl, a, ns, 22, 42, rfl, s1.seq hS, hlen, fun H2 p2 s2 h2 => ?_⟩
    have b1 : (bytesOf ns 2 22).length ≤ 20 := by rw [bytesOf_len]; omega
    have b2 : (bytesOf ns 22 42).length ≤ 20 := by rw [bytesOf_len]; omega
    have h1' : SqT K H2 p1 ((bytesOf ns 2 22).map V.int) := keepT s2 h1
    generalize bytesOf ns 2 22 = bs at h1' b1
    generalize bytesOf ns 22 42 = cs at h2 b2
    have sm2 : Same H H2 := s1.trans s2
    have hS2 : SqL K H2 a (ns.map V.int) := sm2.seq hS
    dsimp only [gName]
    refine seq_by (t := tIfS _ _ _) (fun σ H' => ∃ (u v : Addr) (A B : List Int), σ = [some (.ref a), some (.ref u), some (.ref v), none, none, none, none, none, none, none] ∧ Same H H' ∧ SqT K H' u (A.map V.int) ∧ SqT K H' v (B.map V.int) ∧ A.length ≤ 400 ∧ B.length ≤ 400) (fun σ H3 p => ?_) (fun go => ?_)
    · obtain ⟨u, v, A, B, rfl, sm3, hA, hB, lA, lB⟩ := p
      have two : (2 : Nat) ≤ sizeLine := by rw [sizeLine_eq]; decide
      refine ⟨_, rfl, _, rfl, two, fun H4 t4 s4 h4 => ?_⟩
      refine ⟨_, rfl, _, rfl, two, fun H5 t5 s5 h5 => ?_⟩
      refine ⟨_, rfl, _, rfl, two, fun H6 t6 s6 h6 => ?_⟩
      refine ⟨Nat.zero_le _, fun H7 t7 s7 h7 => ?_⟩
      refine ⟨_, rfl, two, fun H8 t8 s8 h8 => ?_⟩
      refine ⟨(show 4 ≤ sizeLine by rw [sizeLine_eq]; decide), fun t9 n9 => ?_⟩
      have s38 : Same H3 H8 := s4.trans (s5.trans (s6.trans (s7.trans s8)))
      have hA8 := keepT s38 hA
      have hB8 := keepT s38 hB
      have all8 : ∀ x ∈ [V.ref t4, .ref t5, .ref t6, .ref t8], Two K H8 x := by
        intro x hx
        simp only [List.mem_cons, List.not_mem_nil, or_false] at hx
        rcases hx with rfl | rfl | rfl | rfl
        · exact ⟨t4, u, v, A, B, rfl, keepT (s5.trans (s6.trans (s7.trans s8))) h4, hA8, hB8, lA, lB⟩
        · exact ⟨t5, v, u, B, A, rfl, keepT (s6.trans (s7.trans s8)) h5, hB8, hA8, lB, lA⟩
        · exact ⟨t6, u, u, A, A, rfl, keepT (s7.trans s8) h6, hA8, hA8, lA, lA⟩
        · exact ⟨t8, t7, v, [], B, rfl, h8, keepT s8 h7, hB8, Nat.zero_le _, lB⟩
      have s9 : Same H8 (upd H8 t9 (.lst [V.ref t4, .ref t5, .ref t6, .ref t8])) := grow n9
      have h9 : SqL K (upd H8 t9 (.lst [V.ref t4, .ref t5, .ref t6, .ref t8])) t9 [V.ref t4, .ref t5, .ref t6, .ref t8] := SqL.of upd_same
      have sm9 : Same H (upd H8 t9 (.lst [V.ref t4, .ref t5, .ref t6, .ref t8])) := sm3.trans (s38.trans s9)
      have all9 : ∀ x ∈ [V.ref t4, .ref t5, .ref t6, .ref t8], Two K (upd H8 t9 (.lst [V.ref t4, .ref t5, .ref t6, .ref t8])) x := fun x hx => (all8 x hx).keep s9
      have hA9 := keepT s9 hA8
      generalize upd H8 t9 (.lst [V.ref t4, .ref t5, .ref t6, .ref t8]) = H9 at s9 h9 sm9 all9 hA9
      refine ⟨t9, rfl, ⟨_, h9⟩, for_list (xs := [V.ref t4, .ref t5, .ref t6, .ref t8]) (fun i σ H' => ∃ y3 y4 y5, σ = [some (.ref a), some (.ref u), some (.ref v), y3, y4, y5, none, none, none, none] ∧ Same H9 H') ⟨none, none, none, rfl, Same.refl _⟩ (fun i σ H' _ p => ?_) (fun i x σ H' hx p => ?_) (fun σ H' p => ?_)⟩
      · obtain ⟨_, _, _, _, e⟩ := p
        exact e.seq h9
      · obtain ⟨y3, y4, y5, rfl, e⟩ := p
        obtain ⟨t, m, n, C, D, rfl, g1, g2, g3, l1, l2⟩ := (all9 x (List.mem_of_getElem? hx)).keep e
        refine ⟨t, _, rfl, g1, rfl, _, _, rfl, _, _, rfl, rfl, ?_⟩
        refine ⟨_, rfl, _, rfl, m, n, _, _, rfl, rfl, g2, g3, ?_, fun Ha ta sa ha => ?_⟩
        · exact Nat.le_of_lt (small1000 (by rw [List.length_map, List.length_map]; omega))
        rw [← List.map_append] at ha
        refine ⟨ta, _, rfl, ha, fun Hb sb => ?_⟩
        refine ⟨_, rfl, m, _, rfl, keepT (sa.trans sb) g2, fun Hc sc => ?_⟩
        refine ⟨_, rfl, n, _, rfl, keepT (sa.trans (sb.trans sc)) g3, fun Hd sd => ?_⟩
        refine ⟨_, rfl, n, _, rfl, .inr (keepT (sa.trans (sb.trans (sc.trans sd))) g3), ?_⟩
        refine ⟨_, _, _, rfl, by omega, by rw [List.length_map]; omega, fun He se => ?_⟩
        refine ⟨_, rfl, _, _, rfl, true, congrArg V.bl (decide_eq_true ?_), iteF ?_⟩
        · rw [List.length_map]
          exact joined_ok C D
        · exact ⟨_, _, _, rfl, e.trans (sa.trans (sb.trans (sc.trans (sd.trans se))))⟩
      · obtain ⟨y3, y4, y5, rfl, e⟩ := p
        have hSx : SqL K H' a (ns.map V.int) := (sm9.trans e).seq hS
        have hAx := keepT e hA9
        refine ⟨_, rfl, a, _, rfl, .inl hSx, _, _, rfl, rfl, _, rfl, ite2 (fun z => ?_) (fun _ => q _)⟩
        have hns : 1 < ns.length := by
          have := of_decide_eq_true z
          rw [List.length_map] at this
          omega
        have g1 : (ns.map V.int)[1]? = some (.int ns[1]) := by rw [List.getElem?_map, List.getElem?_eq_getElem hns]; rfl
        refine ⟨_, rfl, a, _, 1, _, rfl, rfl, hSx, at_of (j := 1) rfl g1, _, 256, rfl, rfl, (show (0 : Int) < 256 by decide), ?_⟩
        obtain ⟨y, ey⟩ : ∃ y, y = ns[1] % 256 := ⟨_, rfl⟩
        refine ⟨_, rfl, u, _, rfl, .inr hAx, _, _, rfl, _, rfl, ?_, ?_, for_range (lo := 0) (fun i σ H'' => ∃ y7 y8 y9, σ = [some (.ref a), some (.ref u), some (.ref v), y3, y4, y5, some (.int y), y7, y8, y9] ∧ Same H' H'') ⟨none, none, none, ?_, Same.refl _⟩ (fun i σ Hf hi p => ?_) (fun σ Hf p => q _)⟩
        · rw [List.length_map]; split <;> omega
        · rw [List.length_map]; split <;> omega
        · rw [ey]
          rfl
        · obtain ⟨y7, y8, y9, rfl, ef⟩ := p
          have hk : i < A.length := by
            rw [List.length_map] at hi
            split at hi <;> omega
          have e0 : (0 : Int) + (i : Int) = ((i : Nat) : Int) := by omega
          rw [e0]
          have hAf := keepT ef hAx
          have gk : (A.map V.int)[i]? = some (.int A[i]) := by rw [List.getElem?_map, List.getElem?_eq_getElem hk]; rfl
          have e1 : (i : Int) + 1 = ((i + 1 : Nat) : Int) := by omega
          refine ⟨_, rfl, _, rfl, (i : Int), rfl, u, _, rfl, hAf, fun Ha pa sa ha => ?_⟩
          rw [cut_to] at ha
          refine ⟨_, rfl, (show 1 ≤ sizeLine by rw [sizeLine_eq]; decide), fun Hb pb sb hb => ?_⟩
          refine ⟨pa, pb, _, _, rfl, rfl, keepT sb ha, hb, ?_, fun Hc pc sc hc => ?_⟩
          · exact Nat.le_of_lt (small1000 (by rw [List.length_map, List.length_take]; simp only [List.length_cons, List.length_nil]; omega))
          refine ⟨_, rfl, _, rfl, _, _, rfl, rfl, _, rfl, u, _, rfl, keepT (sa.trans (sb.trans sc)) hAf, fun Hd pd sd hd => ?_⟩
          rw [e1, cut_from] at hd
          refine ⟨pc, pd, _, _, rfl, rfl, keepT sd hc, hd, ?_, fun He pe se he => ?_⟩
          · exact Nat.le_of_lt (small1000 (by rw [List.length_append, List.length_map, List.length_map, List.length_take, List.length_drop]; simp only [List.length_cons, List.length_nil]; omega))
          have he' : SqT K He pe ((A.take i ++ [y] ++ A.drop (i + 1)).map V.int) := by
            rw [List.map_append, List.map_append]; exact he
          have hAe := keepT (sa.trans (sb.trans (sc.trans (sd.trans se)))) hAf
          refine ⟨_, rfl, u, _, rfl, hAe, fun Hg sg => ?_⟩
          refine ⟨_, rfl, u, _, rfl, .inr (keepT sg hAe), ?_⟩
          refine ⟨_, rfl, _, rfl, _, rfl, u, _, _, _, rfl, rfl, keepT sg hAe, atI_nat gk, _, rfl, ?_⟩
          refine ⟨_, _, _, _, _, rfl, by rw [List.length_map]; omega, by rw [List.length_map]; omega, fun Hh sh => ?_⟩
          refine ⟨_, rfl, _, rfl, pe, _, rfl, keepT (sg.trans sh) he', fun Hi si => ?_⟩
          refine ⟨_, _, rfl, true, congrArg V.bl (decide_eq_true ?_), iteF ?_⟩
          · have em := at_mid hk
            have c := changed_ok (A.take i) (A.drop (i + 1)) A[i] y ((A.map V.int).length : Int) (i : Int) (by rw [List.length_map, List.length_drop]; omega)
            rw [← em] at c
            exact c
          · exact ⟨_, _, _, rfl, ef.trans (sa.trans (sb.trans (sc.trans (sd.trans (se.trans (sg.trans (sh.trans si)))))))⟩
    · have out : ∀ (H' : Hp), Same H2 H' → ∃ (u v : Addr) (A B : List Int), [some (V.ref a), some (V.ref p1), some (V.ref p2), none, none, none, none, none, none, none] = [some (V.ref a), some (V.ref u), some (V.ref v), none, none, none, none, none, none, none] ∧ Same H H' ∧ SqT K H' u (A.map V.int) ∧ SqT K H' v (B.map V.int) ∧ A.length ≤ 400 ∧ B.length ≤ 400 :=
        fun H' sm => ⟨p1, p2, bs, cs, rfl, sm2.trans sm, keepT sm h1', keepT sm h2, by omega, by omega⟩
      refine ⟨_, rfl, _, .inl ⟨_, hS2, rfl⟩, ite2 (fun e => ?_) (fun _ => iteF (go _ _ (out _ (Same.refl _))))⟩
      have hns : 0 < ns.length := by
        cases ns with
        | nil => cases e
        | cons x r => exact Nat.zero_lt_succ _
      have g0 : (ns.map V.int)[0]? = some (.int ns[0]) := by rw [List.getElem?_map, List.getElem?_eq_getElem hns]; rfl
      refine ⟨_, rfl, a, _, 0, _, rfl, rfl, hS2, at_of (j := 0) rfl g0, _, 3, rfl, rfl, (show (0 : Int) < 3 by decide), rfl, _, rfl, ite2 (fun _ => ?_) (fun _ => go _ _ (out _ (Same.refl _)))⟩
      refine ⟨_, rfl, p1, 20, _, rfl, rfl, h1', by decide, by decide, by rw [List.length_map]; omega, fun H3 p3 s3 h3 => ?_⟩
      rw [rep_map] at h3
      refine ⟨_, rfl, _, rfl, a, _, 0, _, rfl, rfl, s3.seq hS2, at_of (j := 0) rfl g0, _, 3, rfl, rfl, ⟨by decide, by decide⟩, _, 20, rfl, rfl, (show (0 : Int) < 20 by decide), ?_⟩
      have m1 := Int.emod_nonneg (ns[0] / 3) (show (20 : Int) ≠ 0 by decide)
      have m2 := Int.emod_lt_of_pos (ns[0] / 3) (show (0 : Int) < 20 by decide)
      refine ⟨p2, _, _, rfl, rfl, keepT s3 h2, m1, by omega, by rw [List.length_map]; omega, fun H4 p4 s4 h4 => ?_⟩
      rw [rep_map] at h4
      exact go _ _ ⟨p3, p4, _, _, rfl, sm2.trans (s3.trans s4), keepT s4 h3, h4, rep_few b1 (by decide), rep_few b2 (by omega)⟩
end
/-! ### the end -/
theorem all_mk {l : PySem.W.OpenLaw} {w : World} {K : PySem.W.Frag} {h : Heap} {mg : Str → Option Value} {fa fn0 fn1 fn2 fn3 fn4 fn5 fn6 fn7 fn8 : Addr} (X : K.In h) (G : h.Ns mainGlobals mg) (hfa : mg "law" = some (.ref fa))
    {od0 an0 od1 an1 od2 an2 od3 an3 od4 an4 od5 an5 od6 an6 od7 an7 od8 an8 : Option Addr} {sl0 sl1 sl2 sl3 sl4 sl5 sl6 sl7 sl8 : Array (Option Value)} {oc0 kV0 dc0 pm0 cd0 ct0 oc1 kV1 dc1 pm1 cd1 ct1 oc2 kV2 dc2 pm2 cd2 ct2 oc3 kV3 dc3 pm3 cd3 ct3 oc4 kV4 dc4 pm4 cd4 ct4 oc5 kV5 dc5 pm5 cd5 ct5 oc6 kV6 dc6 pm6 cd6 ct6 oc7 kV7 dc7 pm7 cd7 ct7 oc8 kV8 dc8 pm8 cd8 ct8 : Value} {t_EMPTY_SUM : Tok} {t_HIGH_WORTH : Tok} {t_RESTS_BY : Tok}
    (a0 : PySem.W.nsIn K mainGlobals "told_sum" = some (some (.ref fn0))) (l0 : K.lookup fn0 = some ⟨oc0, od0, .func (PySem.W.fnOf "told_sum" "told_sum" (defArgs sToldSum) (defBody sToldSum) (defScope sToldSum) .none kV0 dc0 pm0 an0 cd0 ct0), sl0⟩) (c0 : PySem.W.codeIn K cd0 "told_sum" = true) (k0 : PySem.W.keepIn K (.ref fn0) = true)
    (a1 : PySem.W.nsIn K mainGlobals "sum_on" = some (some (.ref fn1))) (l1 : K.lookup fn1 = some ⟨oc1, od1, .func (PySem.W.fnOf "sum_on" "sum_on" (defArgs sSumOn) (defBody sSumOn) (defScope sSumOn) .none kV1 dc1 pm1 an1 cd1 ct1), sl1⟩) (c1 : PySem.W.codeIn K cd1 "sum_on" = true) (k1 : PySem.W.keepIn K (.ref fn1) = true)
    (a2 : PySem.W.nsIn K mainGlobals "sum_of" = some (some (.ref fn2))) (l2 : K.lookup fn2 = some ⟨oc2, od2, .func (PySem.W.fnOf "sum_of" "sum_of" (defArgs sSumOf) (defBody sSumOf) (defScope sSumOf) .none kV2 dc2 pm2 an2 cd2 ct2), sl2⟩) (c2 : PySem.W.codeIn K cd2 "sum_of" = true) (k2 : PySem.W.keepIn K (.ref fn2) = true)
    (a3 : PySem.W.nsIn K mainGlobals "sum_joined" = some (some (.ref fn3))) (l3 : K.lookup fn3 = some ⟨oc3, od3, .func (PySem.W.fnOf "sum_joined" "sum_joined" (defArgs sSumJoined) (defBody sSumJoined) (defScope sSumJoined) .none kV3 dc3 pm3 an3 cd3 ct3), sl3⟩) (c3 : PySem.W.codeIn K cd3 "sum_joined" = true) (k3 : PySem.W.keepIn K (.ref fn3) = true)
    (a4 : PySem.W.nsIn K mainGlobals "sum_changed" = some (some (.ref fn4))) (l4 : K.lookup fn4 = some ⟨oc4, od4, .func (PySem.W.fnOf "sum_changed" "sum_changed" (defArgs sSumChanged) (defBody sSumChanged) (defScope sSumChanged) .none kV4 dc4 pm4 an4 cd4 ct4), sl4⟩) (c4 : PySem.W.codeIn K cd4 "sum_changed" = true) (k4 : PySem.W.keepIn K (.ref fn4) = true)
    (a5 : PySem.W.nsIn K mainGlobals "_law_bytes" = some (some (.ref fn5))) (l5 : K.lookup fn5 = some ⟨oc5, od5, .func (PySem.W.fnOf "_law_bytes" "_law_bytes" (defArgs sLawBytes) (defBody sLawBytes) (defScope sLawBytes) .none kV5 dc5 pm5 an5 cd5 ct5), sl5⟩) (c5 : PySem.W.codeIn K cd5 "_law_bytes" = true) (k5 : PySem.W.keepIn K (.ref fn5) = true)
    (a6 : PySem.W.nsIn K mainGlobals "_law_same" = some (some (.ref fn6))) (l6 : K.lookup fn6 = some ⟨oc6, od6, .func (PySem.W.fnOf "_law_same" "_law_same" (defArgs sLawSame) (defBody sLawSame) (defScope sLawSame) .none kV6 dc6 pm6 an6 cd6 ct6), sl6⟩) (c6 : PySem.W.codeIn K cd6 "_law_same" = true) (k6 : PySem.W.keepIn K (.ref fn6) = true)
    (a7 : PySem.W.nsIn K mainGlobals "_law_sum" = some (some (.ref fn7))) (l7 : K.lookup fn7 = some ⟨oc7, od7, .func (PySem.W.fnOf "_law_sum" "_law_sum" (defArgs sLawSum) (defBody sLawSum) (defScope sLawSum) .none kV7 dc7 pm7 an7 cd7 ct7), sl7⟩) (c7 : PySem.W.codeIn K cd7 "_law_sum" = true) (k7 : PySem.W.keepIn K (.ref fn7) = true)
    (a8 : PySem.W.nsIn K mainGlobals "law" = some (some (.ref fn8))) (l8 : K.lookup fn8 = some ⟨oc8, od8, .func (PySem.W.fnOf "law" "law" (defArgs sLaw) (defBody sLaw) (defScope sLaw) .none kV8 dc8 pm8 an8 cd8 ct8), sl8⟩) (c8 : PySem.W.codeIn K cd8 "law" = true) (k8 : PySem.W.keepIn K (.ref fn8) = true)
    (z_bool : PySem.W.nsIn K mainGlobals "bool" = some none)
    (z_divmod : PySem.W.nsIn K mainGlobals "divmod" = some none)
    (z_int : PySem.W.nsIn K mainGlobals "int" = some none)
    (z_isinstance : PySem.W.nsIn K mainGlobals "isinstance" = some none)
    (z_len : PySem.W.nsIn K mainGlobals "len" = some none)
    (z_min : PySem.W.nsIn K mainGlobals "min" = some none)
    (z_range : PySem.W.nsIn K mainGlobals "range" = some none)
    (z_str : PySem.W.nsIn K mainGlobals "str" = some none)
    (z_tuple : PySem.W.nsIn K mainGlobals "tuple" = some none)
    (g_EMPTY_SUM : PySem.W.nsIn K mainGlobals "EMPTY_SUM" = some (some (.int 1 t_EMPTY_SUM)))
    (g_HIGH_WORTH : PySem.W.nsIn K mainGlobals "HIGH_WORTH" = some (some (.int 65536 t_HIGH_WORTH)))
    (g_RESTS_BY : PySem.W.nsIn K mainGlobals "RESTS_BY" = some (some (.int 65521 t_RESTS_BY))) :
    ∃ fd : FuncData, (∀ (s : Shared) (v : Value), BindsTo s fd ⟨[v], []⟩ [("_law_script", v)]) ∧ ∀ base : Heap, K.In base → base.Ns mainGlobals mg → FnOk l.prog w K mg base CX0 4 fa fd ["_law_script"] (spLaw K) := by
  have e := hfa.symm.trans (PySem.W.mg_of X G a8)
  cases e
  have Ev : Env K mg := ⟨PySem.W.mg_none_of X G z_bool, PySem.W.mg_none_of X G z_divmod, PySem.W.mg_none_of X G z_int, PySem.W.mg_none_of X G z_isinstance, PySem.W.mg_none_of X G z_len, PySem.W.mg_none_of X G z_min, PySem.W.mg_none_of X G z_range, PySem.W.mg_none_of X G z_str, PySem.W.mg_none_of X G z_tuple, ⟨_, PySem.W.mg_of X G g_EMPTY_SUM⟩, ⟨_, PySem.W.mg_of X G g_HIGH_WORTH⟩, ⟨_, PySem.W.mg_of X G g_RESTS_BY⟩⟩
  have F0 := fun_mk (st := sToldSum) l0 c0 k0
  have F1 := fun_mk (st := sSumOn) l1 c1 k1
  have F2 := fun_mk (st := sSumOf) l2 c2 k2
  have F3 := fun_mk (st := sSumJoined) l3 c3 k3
  have F4 := fun_mk (st := sSumChanged) l4 c4 k4
  have F5 := fun_mk (st := sLawBytes) l5 c5 k5
  have F6 := fun_mk (st := sLawSame) l6 c6 k6
  have F7 := fun_mk (st := sLawSum) l7 c7 k7
  have F8 := fun_mk (st := sLaw) l8 c8 k8
  refine ⟨PySem.W.fnOf "law" "law" (defArgs sLaw) (defBody sLaw) (defScope sLaw) .none kV8 dc8 pm8 an8 cd8 ct8, fun s v => .of_eq rfl, fun base _ _ => ?_⟩
  have C_0 : Cal l.prog w K mg base "told_sum" 1 ["high", "low"] spTold := ⟨_, _, ok_told Ev  F0, PySem.W.mg_of X G a0, k0, F0.binds fun _ _ _ _ _ _ us hl => match us, hl with | [_, _], _ => rfl⟩
  have C_1 : Cal l.prog w K mg base "sum_on" 2 ["before", "body"] (spOn K) := ⟨_, _, ok_on Ev C_0 F1, PySem.W.mg_of X G a1, k1, F1.binds fun _ _ _ _ _ _ us hl => match us, hl with | [_, _], _ => rfl⟩
  have C_2 : Cal l.prog w K mg base "sum_of" 3 ["body"] (spOf K) := ⟨_, _, ok_of Ev C_1 F2, PySem.W.mg_of X G a2, k2, F2.binds fun _ _ _ _ _ _ us hl => match us, hl with | [_], _ => rfl⟩
  have C_3 : Cal l.prog w K mg base "sum_joined" 2 ["one", "other", "many"] spJoined := ⟨_, _, ok_joined Ev C_0 F3, PySem.W.mg_of X G a3, k3, F3.binds fun _ _ _ _ _ _ us hl => match us, hl with | [_, _, _], _ => rfl⟩
  have C_4 : Cal l.prog w K mg base "sum_changed" 2 ["before", "many", "place", "old", "new"] spChanged := ⟨_, _, ok_changed Ev C_0 F4, PySem.W.mg_of X G a4, k4, F4.binds fun _ _ _ _ _ _ us hl => match us, hl with | [_, _, _, _, _], _ => rfl⟩
  have C_5 : Cal l.prog w K mg base "_law_bytes" 1 ["_law_script", "_law_begin", "_law_end"] (spBytes K) := ⟨_, _, ok_bytes Ev  F5, PySem.W.mg_of X G a5, k5, F5.binds fun _ _ _ _ _ _ us hl => match us, hl with | [_, _, _], _ => rfl⟩
  have C_6 : Cal l.prog w K mg base "_law_same" 1 ["_law_told", "_law_due"] spSame := ⟨_, _, ok_same Ev  F6, PySem.W.mg_of X G a6, k6, F6.binds fun _ _ _ _ _ _ us hl => match us, hl with | [_, _], _ => rfl⟩
  have C_7 : Cal l.prog w K mg base "_law_sum" 1 ["_law_body"] (spOf K) := ⟨_, _, ok_lsum Ev  F7, PySem.W.mg_of X G a7, k7, F7.binds fun _ _ _ _ _ _ us hl => match us, hl with | [_], _ => rfl⟩
  exact ok_law Ev C_2 C_3 C_4 C_5 C_6 C_7 F8
end Fc
open PySem PySem.W PyProof.Rows
set_option maxHeartbeats 0 in
theorem PySem.Challenge.cw_filecrate_k04_whole_sums_put_together_holds : PySem.Challenge.rw_filecrate_k04_whole_sums_put_together.Holds := by
  w_on; o_law; k_head; (case hw => w_witness2)
  k_fill
  refine L2.walk_of (l := PySem.Challenge.rw_filecrate_k04_whole_sums_put_together) (n := 63) (k := 4) (x := "_law_script") (CX := fun _ => L2.CX0) (sp := fun w => Fc.spLaw _) rfl (by decide) rfl ⟨rfl, by decide, by decide⟩ (fun w h Y => PySem.W.kIn_of Y) ?F (fun _ _ a ns hl _ hS => ⟨a, ns, rfl, hS, hl, fun _ => rfl⟩) (fun _ _ _ _ _ h => h)
  case F =>
    intro w mg fa h KX G hmg
    refine' Fc.all_mk KX G hmg ?a0 ?l0 ?c0 ?k0 ?a1 ?l1 ?c1 ?k1 ?a2 ?l2 ?c2 ?k2 ?a3 ?l3 ?c3 ?k3 ?a4 ?l4 ?c4 ?k4 ?a5 ?l5 ?c5 ?k5 ?a6 ?l6 ?c6 ?k6 ?a7 ?l7 ?c7 ?k7 ?a8 ?l8 ?c8 ?k8 ?z_bool ?z_divmod ?z_int ?z_isinstance ?z_len ?z_min ?z_range ?z_str ?z_tuple ?g_EMPTY_SUM ?g_HIGH_WORTH ?g_RESTS_BY
    (case a0 => k_is); (case l0 => k_is); (case c0 => k_is); (case k0 => k_is); (case a1 => k_is); (case l1 => k_is); (case c1 => k_is); (case k1 => k_is); (case a2 => k_is); (case l2 => k_is); (case c2 => k_is); (case k2 => k_is); (case a3 => k_is); (case l3 => k_is); (case c3 => k_is); (case k3 => k_is); (case a4 => k_is); (case l4 => k_is); (case c4 => k_is); (case k4 => k_is); (case a5 => k_is); (case l5 => k_is); (case c5 => k_is); (case k5 => k_is); (case a6 => k_is); (case l6 => k_is); (case c6 => k_is); (case k6 => k_is); (case a7 => k_is); (case l7 => k_is); (case c7 => k_is); (case k7 => k_is); (case a8 => k_is); (case l8 => k_is); (case c8 => k_is); (case k8 => k_is); (case z_bool => k_is); (case z_divmod => k_is); (case z_int => k_is); (case z_isinstance => k_is); (case z_len => k_is); (case z_min => k_is); (case z_range => k_is); (case z_str => k_is); (case z_tuple => k_is); (case g_EMPTY_SUM => k_is); (case g_HIGH_WORTH => k_is); (case g_RESTS_BY => k_is)
