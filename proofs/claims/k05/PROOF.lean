import PyProof.Rows.All
import Wide.All
import OpenK.AllK
import Wide.FinOn
import HandS.ForMost
import HandS.IsInst
import HandS.TupAny
import HandS.TupMul
import HandS.Zip
import HandS.Style
import PySem.Challenge.RW_filecrate_k05_whole_sums_tell_changes
set_option Elab.async false
set_option linter.all false
set_option maxRecDepth 100000
set_option maxHeartbeats 4000000
namespace Fc
open PySem PySem.Spec PyProof.Rows L2

/-! ### heaps that only grow -/
theorem grow {H : Hp} {p : Addr} {o : HO} (n : H p = none) : Same H (upd H p o) := by
  intro b u e
  have hb : b ≠ p := ne_of_none e n
  rw [upd_ne hb, e]
theorem keepT {K : PySem.W.Frag} {H H' : Hp} {a : Addr} {xs : List V} (e : Same H H') (h : SqT K H a xs) : SqT K H' a xs := by
  rcases h with (h | ⟨o, h⟩) | h
  · left; left; exact e a _ h
  · left; right; exact ⟨o, e a _ h⟩
  · right; exact h
/-- behind it a tuple of these, and all that stood -/
def Tups (K : PySem.W.Frag) (H : Hp) (xs : List V) (Q : VK) : Prop := ∀ H' p, Same H H' → SqT K H' p xs → Q (.ref p) H'
theorem Tups.new {K : PySem.W.Frag} {H : Hp} {xs : List V} {Q : VK} (h : Tups K H xs Q) {p : Addr} (n : H p = none) : Q (.ref p) (upd H p (.tup xs)) := h _ _ (grow n) (SqT.of upd_same)
theorem Tups.old {K : PySem.W.Frag} {H : Hp} {xs ys : List V} {Q : VK} (h : Tups K H xs Q) {p : Addr} (e : SqT K H p ys) (eq : ys = xs) : Q (.ref p) H := by
  subst eq
  exact h _ _ (Same.refl H) e
theorem PEweak {X : Cx} {e : Expr} {t u : TE} (h : PE X e t) (w : ∀ σ H Q, u σ H Q → t σ H Q) : PE X e u := ⟨fun pins s σ H Q I q => h.run pins s σ H Q I (w σ H Q q)⟩
def upA (t : TA) : TA := fun σ H Q => ∃ R, t σ H R ∧ ∀ vs H', R vs H' → Q vs H'
theorem PAup {X : Cx} {es : List Expr} {t : TA} (h : PA X es t) : PA X es (upA t) := ⟨fun ps pins s σ H Q I q => by
  obtain ⟨R, q1, q2⟩ := q
  refine thn (h.run ps pins s σ H R I q1) fun us s' ⟨vs, H', I', r, k⟩ => ⟨vs, H', I', r, q2 _ _ k⟩⟩

/-! ### rules whose reading says Tups -/
section
variable {X : Cx}
def rCatU (K : PySem.W.Frag) : R2 := fun x y H Q => ∃ a b xs ys, x = .ref a ∧ y = .ref b ∧ SqT K H a xs ∧ SqT K H b ys ∧ xs.length + ys.length ≤ sizeLine ∧ Tups K H (xs ++ ys) Q
theorem op_catU : OpR X (binaryOp .Add) (rCatU X.K) := by
  intro pins s σ H x y v u Q I rx ry h
  obtain ⟨a, b, xs, ys, rfl, rfl, ha, hb, hz, q⟩ := h
  refine op_catA pins s σ H _ _ v u Q I rx ry ⟨a, b, xs, ys, rfl, rfl, ha, hb, hz, fun e => ?_, fun _ e => ?_, fun _ _ p n => q.new n⟩
  · subst e; exact q.old hb rfl
  · subst e; exact q.old ha (List.append_nil xs).symm
def rSlU (K : PySem.W.Frag) : V → Option Int → Option Int → Hp → VK → Prop := fun x lo hi H Q => ∃ a xs, x = .ref a ∧ SqT K H a xs ∧ Tups K H (cutV xs lo hi) Q
theorem sl_tupU : SlR X (rSlU X.K) := by
  intro pins s σ H x v vl vu lo hi sl Q I rx hs pl pu h
  obtain ⟨a, xs, rfl, hx, q⟩ := h
  refine sl_tupA pins s σ H _ v vl vu lo hi sl Q I rx hs pl pu ⟨a, xs, rfl, hx, fun e => q.old hx ?_, fun _ p n => q.new n⟩
  unfold cutV
  rw [e.1, e.2, List.drop_zero, Nat.sub_zero, List.take_length]
def tTupU (K : PySem.W.Frag) (t : TA) : TE := fun σ H Q => t σ H fun xs H1 => xs.length ≤ sizeLine ∧ Tups K H1 xs Q
theorem pe_tupU {es : List Expr} {x1 : Nat} {pos : Pos} {t : TA} (h : PA X es t) : PE X (.Tuple es x1 pos) (tTupU X.K t) :=
  PEweak (pe_tup (PAup h)) fun σ H Q q => ⟨_, q, fun vs H' k => ⟨k.1, fun p n => k.2.new n⟩⟩
theorem call_divmodU : CallR X (.builtin "divmod") (fun xs H Q => ∃ i j, xs = [.int i, .int j] ∧ CDiv i j ∧ Tups X.K H [.int (i / j), .int (i % j)] Q) := by
  intro pins s σ H xs us Q I r h
  obtain ⟨i, j, e, c, q⟩ := h
  exact call_divmod pins s σ H xs us Q I r ⟨i, j, e, c, fun p n => q.new n⟩
theorem call_tupleU : CallR X (.type "tuple") (fun xs H Q => ∃ p ys, xs = [.ref p] ∧ SqL X.K H p ys ∧ Tups X.K H ys Q) := by
  intro pins s σ H xs us Q I r h
  obtain ⟨p, ys, e, hp, q⟩ := h
  exact call_tuple_of pins s σ H xs us Q I r ⟨p, ys, e, .inl ⟨hp, fun l n => q.new n⟩⟩
theorem pe_globI {x : Str} {n : Int} {pos : Pos} (hg : Gl X x) (h : ∃ t, X.mg x = some (.int n t)) (hd : (x == ("__debug__" : Str)) = false := by decide) : PE X (.Name x pos) (tC (.int n)) := by
  obtain ⟨t, e⟩ := h
  exact pe_glob hg e ⟨t, rfl⟩ hd
def tGT (K : PySem.W.Frag) (xs : List V) : TE := fun _ H Q => ∀ a, (∀ H', SqT K H' a xs) → Q (.ref a) H
theorem pe_globT {x : Str} {xs : List V} {pos : Pos} (hg : Gl X x) (h : ∃ a, X.mg x = some (.ref a) ∧ ∀ H', SqT X.K H' a xs) (hd : (x == ("__debug__" : Str)) = false := by decide) : PE X (.Name x pos) (tGT X.K xs) := by
  obtain ⟨a, e, q⟩ := h
  exact PEweak (pe_glob (v := .ref a) hg e rfl hd) fun σ H Q k => k a q
theorem pe_btype {x : Str} {n : String} {pos : Pos} (hg : Gl X x) (hm : X.mg x = none) (hv : bootBuiltins x = some (.type n)) (hn : x ≠ "__name__" := by decide) (hd : (x == ("__debug__" : Str)) = false := by decide) : PE X (.Name x pos) (tC (.ty n)) := pe_bltn hg hm hv rfl hn hd
end

/-! ### a def that is called -/
structure Cal (P : Program) (w : World) (K : PySem.W.Frag) (mg : Str → Option Value) (base : Heap) (x : Str) (k : Nat) (ps : List Str) (sp : Sp) : Prop where
  ex : ∃ f fd, FnOk P w K mg base CX0 k f fd ps sp ∧ mg x = some (.ref f) ∧ PySem.W.keepIn K (.ref f) = true ∧ Binds K fd ps []
theorem pe_c {X : Cx} {x : Str} {k : Nat} {ps : List Str} {sp : Sp} {p pos : Pos} {e : Expr} {es : List Expr} {t : TA} (C : Cal X.prog X.w X.K X.mg X.base x k ps sp) (hr : Room k X.A) (ha : PA X (e :: es) t) (hg : Gl X x := by rfl) (hdb : (x == ("__debug__" : Str)) = false := by decide)
    (he : starEach (e :: es) X.env = (false, eval e X.env) :: starEach es X.env := by rfl) (hpl : (backTo pos (starEach es X.env)).any (·.1) = false := by rfl) : PE X (.Call (.Name x p) (e :: es) [] pos) (tCall sp [] E0 t) := by
  obtain ⟨f, fd, F, m, kp, b⟩ := C.ex
  exact pe_call F hr hg m kp b .nil pass0 ha hdb he hpl

/-! ### joining ways -/
theorem seq_by {t u : TS} {D : Ends} {σ : L2.St} {H : Hp} (P : L2.St → Hp → Prop) (h2 : ∀ σ H, P σ H → u D σ H) (h1 : (∀ σ H, P σ H → u D σ H) → t { D with nx := u D } σ H) : tSeq t u D σ H := h1 h2

theorem seq_c {v : V} {i : Nat} {u : TS} {D : Ends} {σ : L2.St} {H : Hp} (h : u D (σ.set i (some v)) H) : tSeq (tAsg (tC v) (gName i)) u D σ H := h

/-! ### isinstance -/
theorem k_ii {K : PySem.W.Frag} : PySem.W.kitOne K (.type "int") (.type "int") = some true := kit_ty (by decide +kernel)
theorem k_ib {K : PySem.W.Frag} : PySem.W.kitOne K (.type "int") (.type "bool") = some false := kit_ty (by decide +kernel)
theorem k_it {K : PySem.W.Frag} : PySem.W.kitOne K (.type "int") (.type "tuple") = some false := kit_ty (by decide +kernel)
theorem k_is' {K : PySem.W.Frag} : PySem.W.kitOne K (.type "int") (.type "str") = some false := kit_ty (by decide +kernel)
theorem k_tb {K : PySem.W.Frag} : PySem.W.kitOne K (.type "tuple") (.type "bool") = some false := kit_ty (by decide +kernel)
theorem k_tt {K : PySem.W.Frag} : PySem.W.kitOne K (.type "tuple") (.type "tuple") = some true := kit_ty (by decide +kernel)
theorem k_sb {K : PySem.W.Frag} : PySem.W.kitOne K (.type "str") (.type "bool") = some false := kit_ty (by decide +kernel)
theorem k_st {K : PySem.W.Frag} : PySem.W.kitOne K (.type "str") (.type "tuple") = some false := kit_ty (by decide +kernel)
theorem k_ss {K : PySem.W.Frag} : PySem.W.kitOne K (.type "str") (.type "str") = some true := kit_ty (by decide +kernel)
theorem ty_tup {K : PySem.W.Frag} {H : Hp} {a : Addr} {xs : List V} (h : SqT K H a xs) : TyX K H (.ref a) (.type "tuple") := by
  rcases h with (h | ⟨o, h⟩) | ⟨o, its, n, h, c, _⟩
  · exact .base (.tup h)
  · exact .fTuple h
  · exact .kTuple h c

/-! ### cuts of whole numbers -/
theorem cut_to (ns : List Int) (k : Nat) : cutV (ns.map V.int) none (some (k : Int)) = (ns.take k).map V.int := by
  unfold cutV
  rw [HT.sIx_none, HT.sIx_nat, List.drop_zero, Nat.sub_zero, List.length_map, List.map_take]
  by_cases h : k ≤ ns.length
  · rw [Nat.min_eq_left h]
  · have h' : ns.length ≤ k := by omega
    rw [Nat.min_eq_right h', List.take_of_length_le (by rw [List.length_map]; omega), List.take_of_length_le (by rw [List.length_map]; omega)]
theorem cut_from (ns : List Int) (k : Nat) : cutV (ns.map V.int) (some (k : Int)) none = (ns.drop k).map V.int := by
  unfold cutV
  rw [HT.sIx_none, HT.sIx_nat, List.length_map, List.map_drop]
  by_cases h : k ≤ ns.length
  · rw [Nat.min_eq_left h]
    exact List.take_of_length_le (by rw [List.length_drop, List.length_map]; omega)
  · have h' : ns.length ≤ k := by omega
    rw [Nat.min_eq_right h', List.drop_of_length_le (by rw [List.length_map]; omega), List.drop_of_length_le (by rw [List.length_map]; omega), List.take_nil]
theorem cut_mid (ns : List Int) (i j : Nat) : cutV (ns.map V.int) (some (i : Int)) (some (j : Int)) = ((ns.drop i).take (j - i)).map V.int := by
  unfold cutV
  rw [HT.sIx_nat, HT.sIx_nat, List.length_map, List.map_take, List.map_drop]
  by_cases h : i ≤ ns.length
  · rw [Nat.min_eq_left h]
    by_cases g : j ≤ ns.length
    · rw [Nat.min_eq_left g]
    · have g' : ns.length ≤ j := by omega
      rw [Nat.min_eq_right g', List.take_of_length_le (by rw [List.length_drop, List.length_map]; omega), List.take_of_length_le (by rw [List.length_drop, List.length_map]; omega)]
  · have h' : ns.length ≤ i := by omega
    rw [Nat.min_eq_right h', List.drop_of_length_le (by rw [List.length_map]; omega), List.drop_of_length_le (by rw [List.length_map]; omega), List.take_nil, List.take_nil]

/-! ### a comprehension whose items are told by a row -/
theorem lc_row {K : PySem.W.Frag} {a : Addr} {xs ys : List V} {te : TE} {vs : List Nat} {σ : L2.St} {H1 : Hp} {D : Addr} {j : Nat} {Qd : Hp → Prop} (nD : H1 D = none) (hs : SqL K H1 a xs) (hy : ys.length = xs.length) (hz : xs.length ≤ sizeLine)
    (hw : ∀ x, wipe ((wipe σ vs).set j (some x)) vs = wipe σ vs)
    (turn : ∀ (i : Nat) (x y : V) (H : Hp) (R : V → Hp → Prop), xs[i]? = some x → ys[i]? = some y → Same H1 H → (∀ H', Same H H' → R y H') → te ((wipe σ vs).set j (some x)) H R) (hd : ∀ H', Same H1 H' → H' D = some (.lst ys) → Qd H') :
    ∃ W : Nat → Nat → Hp → Prop, (∃ m, W 0 m (upd H1 D (.lst []))) ∧ ∀ i m H, W i m H →
      ((Itl K a).stop i H ∧ Qd H) ∨ ((Itl K a).go i H ∧ ∃ Nx : Hp → Prop, (∀ H', Nx H' → ∃ m', m' < m ∧ W (i + 1) m' H') ∧ ∀ x H', (Itl K a).yld i H x H' → gName j x (wipe σ vs) H' fun σ2 H2 => wipe σ2 vs = wipe σ vs ∧ tYes σ2 H2 fun b H3 =>
        if b = true then te σ2 H3 fun y H4 => ∃ acc, H4 D = some (.lst acc) ∧ acc.length < sizeLine ∧ Nx (upd H4 D (.lst (acc ++ [y]))) else Nx H3) := by
  refine lc_list (xs := xs) (fun i H => Same H1 H ∧ H D = some (.lst (ys.take i))) ⟨grow nD, upd_same⟩ (fun i H _ p => p.1.seq hs) (fun i x H hx p => ?_) (fun H p => hd H p.1 ?_)
  · have hi : i < xs.length := (List.getElem?_eq_some_iff.mp hx).1
    have hiy : i < ys.length := by omega
    refine ⟨hw x, ?_⟩
    unfold tYes
    dsimp only
    rw [if_pos rfl]
    refine turn i x ys[i] H _ hx (List.getElem?_eq_getElem hiy) p.1 fun H' sm => ⟨ys.take i, sm _ _ p.2, ?_, ?_, ?_⟩
    · rw [List.length_take]; omega
    · intro b o e
      have hb : b ≠ D := ne_of_none e nD
      rw [upd_ne hb]
      exact sm _ _ (p.1 _ _ e)
    · rw [upd_same, List.take_add_one, List.getElem?_eq_getElem hiy]
      rfl
  · have := p.2
    rw [← hy, List.take_length] at this
    exact this
end Fc

namespace Fc
open PySem PySem.Spec L2 PyProof.Rows
/-! ### t[::-1] -/
section
variable {pr : Program} {wd : World} {Ar : Around} {E : Value → Shared → Prop} {st : Shared}
theorem back_adjust (n : Nat) : Builtin.Slice.sliceAdjust none none (-1) (n : Int) = ((n : Int) - 1, -1) := rfl
theorem back_places (n : Nat) : Builtin.Slice.slicePlaces ((n : Int) - 1) (-1) (-1) = n := by
  have e : ((n : Int) - 1 - -1 - 1) / (- -1) = (n : Int) - 1 := by
    have z : (- -1 : Int) = 1 := by decide
    rw [z, Int.ediv_one]
    omega
  have z : ¬ ((-1 : Int) > 0) := by decide
  simp only [Builtin.Slice.slicePlaces, if_neg z, e]
  split <;> omega
theorem alike_filterMap {f g : Nat → Option Value} : ∀ {l : List Nat}, (∀ k ∈ l, f k = g k) → l.filterMap f = l.filterMap g
  | [], _ => rfl
  | a :: r, h => by rw [List.filterMap_cons, List.filterMap_cons, h a List.mem_cons_self, alike_filterMap fun k hk => h k (List.mem_cons_of_mem _ hk)]
theorem all_of {ys : List Value} : (List.range ys.length).filterMap (fun k => ys[k]?) = ys := by
  have h := PySem.pick_run ys.toArray 0 ys.length
  have e : (List.range ys.length).map (0 + ·) = List.range ys.length := by simp
  rw [e] at h
  simpa using h
theorem back_pick (xs : Array Value) : ((List.range xs.size).filterMap fun (k : Nat) => xs[((xs.size : Int) - 1 + (k : Int) * -1).toNat]?).toArray = xs.toList.reverse.toArray := by
  congr 1
  rw [alike_filterMap (g := fun k => xs.toList.reverse[k]?)]
  · have e2 : xs.size = xs.toList.reverse.length := by rw [List.length_reverse, Array.length_toList]
    rw [e2]
    exact all_of
  · intro k hk
    have hk' := List.mem_range.mp hk
    rw [List.getElem?_reverse (by rw [Array.length_toList]; exact hk'), Array.length_toList, Array.getElem?_toList]
    congr 1
    omega
theorem back_applied {sl : Addr} {v : Value} {n : Nat} {Q : Int × Int × Nat → Shared → Prop} (isl : st.heap.IsSliceOf sl .none .none v) (pt : IsPart v (some (-1)))
    (q : Q ((n : Int) - 1, -1, n) st) : wpAny (model pr wd) Ar (Builtin.Slice.sliceApplied (.ref sl) (pure (n : Int))) Q E st := by
  obtain ⟨o, ho, _, hf⟩ := isl
  simp only [Builtin.Slice.sliceApplied, Builtin.Slice.sliceFields]
  refine wpAny_bind (wpAny_bind (wpAny_field ho hf (x := .none) rfl (wpAny_bind (wpAny_field ho hf (x := .none) rfl (wpAny_bind (wpAny_field ho hf (x := v) rfl (wpAny_pure ?_)))))))
  refine wpAny_bind (HT.slicePart_ pt ?_)
  show wpAny _ _ (if ((-1 : Int) == 0) = true then _ else _) _ _ st
  rw [if_neg (by decide)]
  refine wpAny_bind (HT.slicePart_ .none (wpAny_bind (HT.slicePart_ .none (wpAny_bind (wpAny_pure ?_)))))
  show wpAny _ _ (match Builtin.Slice.sliceAdjust none none (-1) (n : Int) with | (lo, hi) => pure (lo, (-1 : Int), Builtin.Slice.slicePlaces lo hi (-1))) _ _ st
  rw [back_adjust n]
  show wpAny _ _ (pure ((n : Int) - 1, (-1 : Int), Builtin.Slice.slicePlaces ((n : Int) - 1) (-1) (-1))) _ _ st
  rw [back_places]
  exact wpAny_pure q
theorem back_item {t sl : Addr} {its : Array Value} {v : Value} {Q : Value → Shared → Prop} (tp : IsTup st.heap t its) (isl : st.heap.IsSliceOf sl .none .none v) (pt : IsPart v (some (-1)))
    (q : Q (.ref st.heap.objs.size) { st with heap := st.heap.push { cls := .type "tuple", data := .seq its.toList.reverse.toArray } }) (few : its.size ≤ sizeLine) :
    wpAny (model pr wd) Ar (getItem (.ref t) (.ref sl)) Q E st := by
  have fits : sizeOk (.seq its.toList.reverse.toArray) := by
    show its.toList.reverse.toArray.size ≤ sizeLine
    rw [List.size_toArray, List.length_reverse, Array.length_toList]
    exact few
  have isT : st.TypeIs (.ref sl) "slice" := by
    obtain ⟨o, ho, hc, _⟩ := isl
    exact ⟨o, ho, hc⟩
  have other : ¬ (((its.size : Int) - 1 == 0 && (-1 : Int) == 1 && its.size == its.size) = true) := fun z => by
    have z1 := (Bool.and_eq_true_iff.mp (Bool.and_eq_true_iff.mp z).1).2
    exact absurd z1 (by decide)
  unfold getItem
  with_reducible refine wpAny_holding ?_
  refine wpAny_bind (wpAny_sequenceKey tp.typeIs (by decide) (wpAny_bind (wpAny_callSpecial?_slot (name := Str.ofString "__getitem__") tp.typeIs PyProof.Rows.slot_tuple_getitem
    (wpAny_call_entry PyProof.Rows.slot_tuple_getitem tp.typeIs entry_tuple_getitem ?_ (args_tuple_getitem _ _)))))
  show wpAny _ _ (Builtin.Tuple.tupleItemsOf (.ref t) >>= _) _ _ st
  refine wpAny_bind (tupleItemsOf_ tp (wpAny_bind (wpAny_typeOf isT ?_)))
  rw [if_pos (by decide)]
  refine wpAny_bind (back_applied isl pt ?_)
  show wpAny _ _ (if ((its.size : Int) - 1 == 0 && (-1 : Int) == 1 && its.size == its.size) = true then _ else _) _ _ st
  rw [if_neg other, back_pick]
  first
    | exact wpAny_bind (m := Builtin.Tuple.tupleExact _) (wpAny_newObj_type (wpAny_bind (wpAny_pure (wpAny_pure ⟨_, rfl, wpAny_pure q⟩))) fits)
    | exact wpAny_bind (wpAny_bind (m := Builtin.Tuple.tupleExact _) (wpAny_newObj_type (wpAny_pure (wpAny_pure ⟨_, rfl, wpAny_pure q⟩)) fits))
    | exact wpAny_bind (m := Builtin.Tuple.tupleExact _) (wpAny_newObj_type (wpAny_pure ⟨_, rfl, wpAny_pure q⟩) fits)
end
section
variable {X : Cx}
def tRevU (K : PySem.W.Frag) (te : TE) : TE := fun σ H Q => te σ H fun x H1 => ∃ a xs, x = .ref a ∧ SqT K H1 a xs ∧ Tups K H1 xs.reverse Q
theorem pe_revT {e : Expr} {te : TE} {k : Nat} {p1 p2 p3 pos : Pos} (he : PE X e te) : PE X (.Subscript e (.Slice none none (some (.UnaryOp .USub (.Constant (.int 1) k p1) p2)) p3) pos) (tRevU X.K te) :=
  ⟨fun pins s σ H Q I h => Subscript_ (thn (he.run pins s σ H _ I h) fun v sa ⟨x, Ha, Ia, ra, a, xs, ex, hx, q⟩ => by
    subst ex
    cases ra
    have minus : PO X (some (.UnaryOp .USub (.Constant (.int 1) k p1) p2)) (tPart (tUn (rU fun i => .int (-i)) (tC (.int 1)))) := po_some (pe_un un_neg pe_int)
    refine wpAny_Slice (thn (po_none.run pins sa σ Ha (fun o H' => o = none ∧ H' = Ha) Ia ⟨rfl, rfl⟩) fun vl sb ⟨l, Hb, Ib, pl, el, eb⟩ => ?_)
    subst el eb
    refine thn (po_none.run pins sb σ Hb (fun o H' => o = none ∧ H' = Hb) Ib ⟨rfl, rfl⟩) fun vu sc ⟨u, Hc, Ic, pu, eu, ec⟩ => ?_
    subst eu ec
    refine thn (minus.run pins sc σ Hc (fun o H' => o = some (-1) ∧ H' = Hc) Ic ⟨1, rfl, -1, rfl, rfl, rfl⟩) fun vs sd ⟨o, Hd, Id, ps, eo, ed⟩ => ?_
    subst eo ed
    cases pl
    cases pu
    have J : Inv X pins σ Hd { sd with heap := sd.heap.push { cls := .type "slice", data := .fields #[.none, .none, vs] } } := Id.kept (t' := sd.toks) fun b ob z => Heap.get?_push_of_some _ z
    obtain ⟨its, r, tp, few⟩ := J.tuple hx
    have same := r.length
    show wpAny (model X.prog X.w) X.A (subscriptTail e (.Slice none none (some (.UnaryOp .USub (.Constant (.int 1) k p1) p2)) p3) (.ref a) (.ref sd.heap.objs.size)) (EP X pins σ Q) X.xe { sd with heap := sd.heap.push { cls := .type "slice", data := .fields #[.none, .none, vs] } }
    refine tail_any (ops := [.ref a, .ref sd.heap.objs.size]) tp.typeIs (PyProof.Rows.slot_tuple_getitem.lookup) ?_ (by with_unfolding_all rfl)
    refine back_item tp (Heap.IsSliceOf.new _ .none .none vs) ps ?_ (by rw [List.size_toArray]; omega)
    refine ⟨.ref _, _, J.laid (t' := sd.toks) (o := .tup xs.reverse) (fun b ob z => Heap.get?_push_of_some _ z) (Nat.le_refl _) ?_, rfl, q.new (J.hok.fresh (Nat.le_refl _))⟩
    exact ⟨by rw [List.length_reverse]; exact few, _, r.reverse, IsTup.new _ _⟩)⟩
end
end Fc

namespace Fc
open PySem PySem.Spec PyProof.Rows L2
def topS (i : Nat) : Stmt := PySem.Challenge.pw_filecrate_k05_whole_sums_tell_changes.main.body.getD i (.Pass ⟨0, 0, 0, 0⟩)
abbrev sSumOf : Stmt := topS 4
abbrev nSumOf : List Str := ["body"]
theorem scSumOf : FnScope nSumOf ["body"] (defScope sSumOf) := ⟨rfl, rfl, rfl, by decide +kernel, rfl, by decide +kernel, by decide +kernel⟩
abbrev sSumOn : Stmt := topS 5
abbrev nSumOn : List Str := ["before", "body", "byte", "high", "low"]
theorem scSumOn : FnScope nSumOn ["before", "body"] (defScope sSumOn) := ⟨rfl, rfl, rfl, by decide +kernel, rfl, by decide +kernel, by decide +kernel⟩
abbrev sToldSum : Stmt := topS 6
abbrev nToldSum : List Str := ["high", "low"]
theorem scToldSum : FnScope nToldSum ["high", "low"] (defScope sToldSum) := ⟨rfl, rfl, rfl, by decide +kernel, rfl, by decide +kernel, by decide +kernel⟩
abbrev sLawBytes : Stmt := topS 8
abbrev nLawBytes : List Str := ["_law_script", "_law_begin", "_law_end", "_law_one"]
theorem scLawBytes : FnScope nLawBytes ["_law_script", "_law_begin", "_law_end"] (defScope sLawBytes) := ⟨rfl, rfl, rfl, by decide +kernel, rfl, by decide +kernel, by decide +kernel⟩
abbrev sLaw : Stmt := topS 9
abbrev nLaw : List Str := ["_law_script", "_law_body", "_law_begin", "_law_before", "_law_place", "_law_new", "_law_two"]
theorem scLaw : FnScope nLaw ["_law_script"] (defScope sLaw) := ⟨rfl, rfl, rfl, by decide +kernel, rfl, by decide +kernel, by decide +kernel⟩
structure Env (K : PySem.W.Frag) (mg : Str → Option Value) : Prop where
  b_bool : mg "bool" = none
  b_divmod : mg "divmod" = none
  b_int : mg "int" = none
  b_isinstance : mg "isinstance" = none
  b_len : mg "len" = none
  b_min : mg "min" = none
  b_range : mg "range" = none
  b_tuple : mg "tuple" = none
  g_EMPTY_SUM : ∃ t, mg "EMPTY_SUM" = some (.int 1 t)
  g_HIGH_WORTH : ∃ t, mg "HIGH_WORTH" = some (.int 65536 t)
  g_RESTS_BY : ∃ t, mg "RESTS_BY" = some (.int 65521 t)

/-! ### sums -/
def bump (p : Int × Int) (x : Int) : Int × Int := (p.1 + (p.2 + x), p.2 + x)
def runS (p : Int × Int) (ns : List Int) : Int × Int := ns.foldl bump p
def told (p : Int × Int) : Int := p.1 % 65521 * 65536 + p.2 % 65521
def sumOn (b : Int) (ns : List Int) : Int := told (runS (b / 65536, b % 65536) ns)
theorem runS_take {p : Int × Int} {ns : List Int} {i : Nat} {x : Int} (h : ns[i]? = some x) : runS p (ns.take (i + 1)) = bump (runS p (ns.take i)) x := by
  unfold runS
  rw [List.take_add_one, h, Option.toList_some, List.foldl_append]
  rfl
theorem got {ns : List Int} {i : Nat} {x : V} (h : (ns.map V.int)[i]? = some x) : ∃ n, ns[i]? = some n ∧ x = .int n := by
  rw [List.getElem?_map] at h
  cases e : ns[i]? with
  | none => rw [e] at h; cases h
  | some n => rw [e] at h; exact ⟨n, rfl, (Option.some.inj h).symm⟩
section
variable {P : Program} {w : World} {K : PySem.W.Frag} {mg : Str → Option Value} {base : Heap}
def spTold : Sp := fun vs H Q _ => ∃ h l : Int, vs = [.int h, .int l] ∧ Q (.int (told (h, l))) H
theorem ok_told {f : Addr} {fd : FuncData} (Ev : Env K mg) (F : Fun K "told_sum" "told_sum" sToldSum f fd) : FnOk P w K mg base CX0 1 f fd ["high", "low"] spTold := by
  refine F.ok scToldSum (fun vs H Q E h => ?_) (fun cdv A outer s H vs Q E hr h => ?_)
  · obtain ⟨h, l, rfl, _⟩ := h; rfl
  · obtain ⟨h, l, rfl, q⟩ := h
    refine ⟨_, (pss_one (ps_ret (pe_op op_add (pe_op op_mul (pe_op op_mod (pv 0) (pe_globI (by rfl) Ev.g_RESTS_BY)) (pe_globI (by rfl) Ev.g_HIGH_WORTH)) (pe_op op_mod (pv 1) (pe_globI (by rfl) Ev.g_RESTS_BY))))), ?_⟩
    exact ⟨_, rfl, h, 65521, rfl, rfl, (show (0 : Int) < 65521 by decide), _, 65536, rfl, rfl, .inr ⟨by decide, by decide⟩, _, rfl, l, 65521, rfl, rfl, (show (0 : Int) < 65521 by decide), _, _, rfl, rfl, q⟩
def spOn (K : PySem.W.Frag) : Sp := fun vs H Q _ => ∃ (b : Int) (a : Addr) (ns : List Int), vs = [.int b, .ref a] ∧ SqT K H a (ns.map V.int) ∧ ∀ H', Same H H' → Q (.int (sumOn b ns)) H'
theorem ok_on {f : Addr} {fd : FuncData} (Ev : Env K mg) (CToldSum : Cal P w K mg base "told_sum" 1 ["high", "low"] spTold) (F : Fun K "sum_on" "sum_on" sSumOn f fd) : FnOk P w K mg base CX0 2 f fd ["before", "body"] (spOn K) := by
  refine F.ok scSumOn (fun vs H Q E h => ?_) (fun cdv A outer s H vs Q E hr h => ?_)
  · obtain ⟨b, a, ns, rfl, _⟩ := h; rfl
  · obtain ⟨b, a, ns, rfl, hT, q⟩ := h
    refine ⟨_, (pss_cons (ps_asg (pe_callB call_divmodU (by rfl) Ev.b_divmod (by decide +kernel) (pa_cons (pv 0) (pa_cons (pe_globI (by rfl) Ev.g_HIGH_WORTH) pa_nil))) (pg_tup (by rfl) (pgs_cons (pg_name (i := 3) scSumOn.nd rfl (.inl rfl)) (pgs_cons (pg_name (i := 4) scSumOn.nd rfl (.inl rfl)) pgs_nil))))
      (pss_cons (ps_for PassesOwn.never rfl (pi_tup (pv 1)) (pg_name (i := 2) scSumOn.nd rfl (.inl rfl))
        (pss_cons (ps_aug (i := 4) scSumOn.nd rfl (.inl rfl) (pv 2) ip_add)
        (pss_one (ps_aug (i := 3) scSumOn.nd rfl (.inl rfl) (pv 4) ip_add))))
      (pss_one (ps_ret (pe_c CToldSum (hr.mono (by decide)) (pa_cons (pv 3) (pa_cons (pv 4) pa_nil))))))), ?_⟩
    refine ⟨_, rfl, b, 65536, rfl, ⟨by decide, by decide⟩, fun H1 t1 s1 h1 => ?_⟩
    refine ⟨t1, _, rfl, h1, rfl, _, _, rfl, _, _, rfl, rfl, ?_⟩
    refine ⟨_, rfl, a, rfl, ⟨_, keepT s1 hT⟩, for_tup (xs := ns.map V.int) (fun i σ H' => ∃ y, σ = [some (.int b), some (.ref a), y, some (.int (runS (b / 65536, b % 65536) (ns.take i)).1), some (.int (runS (b / 65536, b % 65536) (ns.take i)).2)] ∧ Same H H') ⟨none, rfl, s1⟩ (fun i σ H' _ p => ?_) (fun i x σ H' hx p => ?_) (fun σ H' p => ?_)⟩
    · obtain ⟨y, _, sm⟩ := p
      exact keepT sm hT
    · obtain ⟨y, rfl, sm⟩ := p
      obtain ⟨n, hn, rfl⟩ := got hx
      refine ⟨_, rfl, _, rfl, _, _, rfl, rfl, _, rfl, _, rfl, _, _, rfl, rfl, some (.int n), ?_, sm⟩
      rw [runS_take hn]
      rfl
    · obtain ⟨y, rfl, sm⟩ := p
      refine ⟨_, rfl, _, rfl, _, _, rfl, ?_⟩
      rw [List.length_map, List.take_length]
      exact q _ sm
def spOf (K : PySem.W.Frag) : Sp := fun vs H Q _ => ∃ (a : Addr) (ns : List Int), vs = [.ref a] ∧ SqT K H a (ns.map V.int) ∧ ∀ H', Same H H' → Q (.int (sumOn 1 ns)) H'
theorem ok_of {f : Addr} {fd : FuncData} (Ev : Env K mg) (CSumOn : Cal P w K mg base "sum_on" 2 ["before", "body"] (spOn K)) (F : Fun K "sum_of" "sum_of" sSumOf f fd) : FnOk P w K mg base CX0 3 f fd ["body"] (spOf K) := by
  refine F.ok scSumOf (fun vs H Q E h => ?_) (fun cdv A outer s H vs Q E hr h => ?_)
  · obtain ⟨a, ns, rfl, _⟩ := h; rfl
  · obtain ⟨a, ns, rfl, hT, q⟩ := h
    refine ⟨_, (pss_one (ps_ret (pe_c CSumOn (hr.mono (by decide)) (pa_cons (pe_globI (by rfl) Ev.g_EMPTY_SUM) (pa_cons (pv 0) pa_nil))))), ?_⟩
    exact ⟨_, rfl, 1, a, ns, rfl, hT, q⟩
/-! ### the law's bytes -/
def bytesOf (ns : List Int) (b e : Nat) : List Int := ((ns.drop b).take (e - b)).map (· % 256)
theorem bytesOf_in {ns : List Int} {b e : Nat} {x : Int} (h : x ∈ bytesOf ns b e) : 0 ≤ x ∧ x < 256 := by
  obtain ⟨y, _, rfl⟩ := List.mem_map.mp h
  exact ⟨Int.emod_nonneg _ (by decide), Int.emod_lt_of_pos _ (by decide)⟩
theorem bytesOf_len (ns : List Int) (b e : Nat) : (bytesOf ns b e).length = min (e - b) (ns.length - b) := by
  unfold bytesOf
  rw [List.length_map, List.length_take, List.length_drop]
def spBytes (K : PySem.W.Frag) : Sp := fun vs H Q _ => ∃ (a : Addr) (ns : List Int) (b e : Nat), vs = [.ref a, .int (b : Int), .int (e : Int)] ∧ SqL K H a (ns.map V.int) ∧ ns.length ≤ 63 ∧ Tups K H ((bytesOf ns b e).map V.int) Q
theorem ok_bytes {f : Addr} {fd : FuncData} (Ev : Env K mg) (F : Fun K "_law_bytes" "_law_bytes" sLawBytes f fd) : FnOk P w K mg base CX0 1 f fd ["_law_script", "_law_begin", "_law_end"] (spBytes K) := by
  refine F.ok scLawBytes (fun vs H Q E h => ?_) (fun cdv A outer s H vs Q E hr h => ?_)
  · obtain ⟨a, ns, b, e, rfl, _⟩ := h; rfl
  · obtain ⟨a, ns, b, e, rfl, hS, hz, q⟩ := h
    refine ⟨_, (pss_one (ps_ret (pe_callTy call_tupleU (by rfl) Ev.b_tuple (by decide +kernel) (pa_cons (pe_lc (own := [("_law_one", 3)]) (g := gName 3) (tt := tYes) (by rfl) scLawBytes.nd (pi_list (pe_slice sl_list (pv 0) (po_some (pv 1)) (po_some (pv 2)))) (blkOk_by (own := [("_law_one", 3)]) (N := nLawBytes) (sc := defScope sLawBytes) (by decide +kernel)) (fun _ _ _ _ _ => (pg_name (i := 3) scLawBytes.nd rfl (.inl rfl))) (fun _ _ _ _ _ => pts_nil) (fun _ _ _ _ _ => (pe_op op_mod (pv 3) pe_int))) pa_nil)))), ?_⟩
    refine ⟨_, rfl, _, rfl, (b : Int), rfl, _, rfl, (e : Int), rfl, a, _, rfl, hS, fun p np => ⟨p, rfl, ⟨_, SqL.of upd_same⟩, fun D nD => ?_⟩⟩
    rw [cut_mid] at nD ⊢
    refine lc_row (xs := ((ns.drop b).take (e - b)).map V.int) (ys := (bytesOf ns b e).map V.int) nD (SqL.of upd_same) ?_ ?_ (fun _ => rfl) (fun i x y H2 R hx hy sm r => ?_) (fun H2 sm h2 => ?_)
    · rw [List.length_map, List.length_map, bytesOf, List.length_map]
    · rw [List.length_map, List.length_take, List.length_drop]
      exact Nat.le_of_lt (small1000 (by omega))
    · obtain ⟨n, hn, rfl⟩ := got hx
      have ey : y = .int (n % 256) := by
        unfold bytesOf at hy
        rw [List.getElem?_map, List.getElem?_map, hn] at hy
        exact (Option.some.inj hy).symm
      subst ey
      exact ⟨_, rfl, n, 256, rfl, rfl, (show (0 : Int) < 256 by decide), r _ (Same.refl _)⟩
    · exact ⟨D, _, rfl, SqL.of h2, fun H3 t s3 h3 => q _ _ (((grow np).trans sm).trans s3) h3⟩
/-! ### another byte, two bytes in each other's places: another sum -/
theorem told_inj {p q : Int × Int} (h : told p = told q) : p.1 % 65521 = q.1 % 65521 ∧ p.2 % 65521 = q.2 % 65521 := by
  unfold told at h
  omega
theorem runS_low : ∀ (ns : List Int) (p : Int × Int), (runS p ns).2 = p.2 + ns.sum
  | [], p => by show p.2 = p.2 + 0; omega
  | x :: r, p => by
    show (runS (bump p x) r).2 = p.2 + (x :: r).sum
    rw [runS_low r, List.sum_cons]
    show p.2 + x + r.sum = _
    omega
theorem runS_app (A B : List Int) (p : Int × Int) : runS p (A ++ B) = runS (runS p A) B := List.foldl_append
theorem runS_more : ∀ (ns : List Int) (h l d : Int), (runS (h + d, l) ns).1 = (runS (h, l) ns).1 + d
  | [], h, l, d => rfl
  | x :: r, h, l, d => by
    show (runS (h + d + (l + x), l + x) r).1 = (runS (h + (l + x), l + x) r).1 + d
    rw [← runS_more r, show h + d + (l + x) = h + (l + x) + d by omega]
theorem sum_one {A B : List Int} {x y : Int} (hx : 0 ≤ x ∧ x < 256) (hy : 0 ≤ y ∧ y < 256) (ne : y ≠ x) : sumOn 1 (A ++ [y] ++ B) ≠ sumOn 1 (A ++ x :: B) := by
  intro e
  have h := (told_inj e).2
  rw [runS_low, runS_low] at h
  simp only [List.sum_append, List.sum_cons, List.sum_nil] at h
  omega
theorem sum_swap {A B : List Int} {x y : Int} (hx : 0 ≤ x ∧ x < 256) (hy : 0 ≤ y ∧ y < 256) (ne : x ≠ y) : sumOn 1 (A ++ [y, x] ++ B) ≠ sumOn 1 (A ++ x :: y :: B) := by
  intro e
  have h := (told_inj e).1
  rw [List.append_assoc, runS_app A ([y, x] ++ B), runS_app A (x :: y :: B)] at h
  generalize runS (1 / 65536, 1 % 65536) A = q at h
  obtain ⟨u, l⟩ := q
  have e1 : runS (u, l) ([y, x] ++ B) = runS (u + (l + y) + (l + y + x), l + x + y) B := by
    show runS (bump (bump (u, l) y) x) B = _
    rw [show bump (bump (u, l) y) x = (u + (l + y) + (l + y + x), l + x + y) from Prod.ext rfl (by show l + y + x = l + x + y; omega)]
  have e2 : runS (u, l) (x :: y :: B) = runS (u + (l + y) + (l + y + x) + (x - y), l + x + y) B := by
    show runS (bump (bump (u, l) x) y) B = _
    rw [show bump (bump (u, l) x) y = (u + (l + y) + (l + y + x) + (x - y), l + x + y) from Prod.ext (by show u + (l + x) + (l + x + y) = u + (l + y) + (l + y + x) + (x - y); omega) rfl]
  rw [e1, e2, runS_more B (u + (l + y) + (l + y + x)) (l + x + y) (x - y)] at h
  omega
theorem at_mid {bs : List Int} {k : Nat} (h : k < bs.length) : bs = bs.take k ++ bs[k] :: bs.drop (k + 1) := by
  rw [← List.drop_eq_getElem_cons h, List.take_append_drop]
/-! ### the law -/
def spLaw (K : PySem.W.Frag) : Sp := fun vs H Q _ => ∃ (a : Addr) (ns : List Int), vs = [.ref a] ∧ SqL K H a (ns.map V.int) ∧ ns.length ≤ 63 ∧ ∀ H', Q (.bl true) H'
theorem ok_law {f : Addr} {fd : FuncData} (Ev : Env K mg) (CSumOf : Cal P w K mg base "sum_of" 3 ["body"] (spOf K)) (CLawBytes : Cal P w K mg base "_law_bytes" 1 ["_law_script", "_law_begin", "_law_end"] (spBytes K)) (F : Fun K "law" "law" sLaw f fd) :
    FnOk P w K mg base CX0 4 f fd ["_law_script"] (spLaw K) := by
  refine F.ok scLaw (fun vs H Q E h => ?_) (fun cdv A outer s H vs Q E hr h => ?_)
  · obtain ⟨a, ns, rfl, _⟩ := h; rfl
  · obtain ⟨a, ns, rfl, hS, hlen, q⟩ := h
    refine ⟨_, (pss_cons (ps_set (i := 1) scLaw.nd rfl (.inl rfl) (pe_c CLawBytes (hr.mono (by decide)) (pa_cons (pv 0) (pa_cons pe_int (pa_cons pe_int pa_nil)))))
      (pss_cons (ps_set (i := 2) scLaw.nd rfl (.inl rfl) pe_int)
      (pss_cons (ps_if (PW.pt (pw_and (pt_truth (pv 0) (by intro _; rfl)) (pw_and (pt_truth (pv 1) (by intro _; rfl)) (pw_and1 (pt_cmpR op_eq (pe_op op_mod (pe_ix ix_list (pv 0) pe_int (fun _ _ => rfl)) pe_int) pe_int (nomark _))))))
        (pss_cons (ps_set (i := 1) scLaw.nd rfl (.inl rfl) (pe_op op_repT (pv 1) pe_int))
        (pss_one (ps_set (i := 2) scLaw.nd rfl (.inl rfl) (pe_op op_mod (pe_op op_fdiv (pe_ix ix_list (pv 0) pe_int (fun _ _ => rfl)) pe_int) (pe_callB call_len_seq (by rfl) Ev.b_len PySem.boot_len (pa_cons (pv 1) pa_nil))))))
        pss_nil)
      (pss_cons (ps_set (i := 3) scLaw.nd rfl (.inl rfl) (pe_c CSumOf (hr.mono (by decide)) (pa_cons (pv 1) pa_nil)))
      (pss_cons (ps_if (PW.pt (pw_or (pt_not (pt_val (pe_callB call_isi (by rfl) Ev.b_isinstance (by decide +kernel) (pa_cons (pv 3) (pa_cons (pe_btype (n := "int") (by rfl) Ev.b_int (by decide +kernel)) pa_nil))))) (pw_or1 (pt_val (pe_callB call_isi (by rfl) Ev.b_isinstance (by decide +kernel) (pa_cons (pv 3) (pa_cons (pe_btype (n := "bool") (by rfl) Ev.b_bool (by decide +kernel)) pa_nil)))))))
        (pss_one (ps_ret pe_bl))
        pss_nil)
      (pss_cons (ps_for PassesOwn.never rfl (pi_range2 (by rfl) Ev.b_range (pa_cons (pv 2) (pa_cons (pe_callB (call_min2 rfl) (by rfl) Ev.b_min (by decide +kernel) (pa_cons (pe_callB call_len_seq (by rfl) Ev.b_len PySem.boot_len (pa_cons (pv 1) pa_nil)) (pa_cons (pe_op op_add (pv 2) pe_int) pa_nil))) pa_nil))) (pg_name (i := 4) scLaw.nd rfl (.inl rfl))
        (pss_cons (ps_set (i := 5) scLaw.nd rfl (.inl rfl) (pe_op op_mod (pe_op op_add (pe_op op_add (pe_ix ix_tup (pv 1) (pv 4) (fun _ _ => rfl)) pe_int) (pe_op op_mod (pe_op op_fdiv (pe_ix ix_list (pv 0) pe_int (fun _ _ => rfl)) (pe_op op_add (pv 4) pe_int)) pe_int)) pe_int))
        (pss_cons (ps_if (pt_cmpR op_eq (pe_c CSumOf (hr.mono (by decide)) (pa_cons (pe_op op_catU (pe_op op_catU (pe_slice sl_tupU (pv 1) po_none (po_some (pv 4))) (pe_tupU (pa_cons (pv 5) pa_nil))) (pe_slice sl_tupU (pv 1) (po_some (pe_op op_add (pv 4) pe_int)) po_none)) pa_nil)) (pv 3) (nomark _))
          (pss_one (ps_ret pe_bl))
          pss_nil)
        (pss_cons (ps_set (i := 6) scLaw.nd rfl (.inl rfl) (pe_slice sl_tupU (pv 1) (po_some (pv 4)) (po_some (pe_op op_add (pv 4) pe_int))))
        (pss_one (ps_if (PW.pt (pw_and (pt_cmpR op_eq (pe_callB call_len_seq (by rfl) Ev.b_len PySem.boot_len (pa_cons (pv 6) pa_nil)) pe_int (nomark _)) (pw_and1 (pt_cmpR op_ne (pe_ix ix_tup (pv 6) pe_int (fun _ _ => rfl)) (pe_ix ix_tup (pv 6) pe_int (fun _ _ => rfl)) (nomark _)))))
          (pss_one (ps_if (pt_cmpR op_eq (pe_c CSumOf (hr.mono (by decide)) (pa_cons (pe_op op_catU (pe_op op_catU (pe_slice sl_tupU (pv 1) po_none (po_some (pv 4))) (pe_revT (pv 6))) (pe_slice sl_tupU (pv 1) (po_some (pe_op op_add (pv 4) pe_int)) po_none)) pa_nil)) (pv 3) (nomark _))
            (pss_one (ps_ret pe_bl))
            pss_nil))
          pss_nil))))))
      (pss_one (ps_ret pe_bl)))))))), ?_⟩
    refine ⟨_, rfl, a, ns, 2, 40, rfl, hS, hlen, fun H1 p1 s1 h1 => ?_⟩
    have b0 : ∀ x ∈ bytesOf ns 2 40, 0 ≤ x ∧ x < 256 := fun x hx => bytesOf_in hx
    have b1 : (bytesOf ns 2 40).length ≤ 38 := by rw [bytesOf_len]; omega
    have b2 : bytesOf ns 2 40 ≠ [] → 2 < ns.length := fun e => by
      have : 0 < (bytesOf ns 2 40).length := List.length_pos_iff.mpr e
      rw [bytesOf_len] at this
      omega
    generalize bytesOf ns 2 40 = bs at h1 b0 b1 b2
    refine seq_c (v := .int 0) (i := 2) ?_
    dsimp only
    refine seq_by (t := tIfS _ _ _) (fun σ H' => ∃ (pb : Addr) (cs : List Int) (b : Nat), σ = [some (.ref a), some (.ref pb), some (.int (b : Int)), none, none, none, none] ∧ Same H H' ∧ SqT K H' pb (cs.map V.int) ∧ (∀ x ∈ cs, 0 ≤ x ∧ x < 256) ∧ cs.length ≤ 1000 ∧ b ≤ 1000 ∧ (cs ≠ [] → 2 < ns.length)) (fun σ H2 p => ?_) (fun go => ?_)
    · obtain ⟨pb, cs, b, rfl, sm, hb, c0, c1, c2, c3⟩ := p
      -- before = sum_of(body)
      refine ⟨_, rfl, pb, cs, rfl, hb, fun H3 s3 => ?_⟩
      refine ⟨.int (sumOn 1 cs), rfl, ?_⟩
      refine ⟨_, _, _, _, true, rfl, .ty "int", .base (.int _), k_ii, true, rfl, iteF ?_⟩
      refine ⟨.int (sumOn 1 cs), rfl, ?_⟩
      refine ⟨_, _, _, _, false, rfl, .ty "bool", .base (.int _), k_ib, false, rfl, iteF ?_⟩
      have hb3 : SqT K H3 pb (cs.map V.int) := keepT s3 hb
      have sm3 : Same H H3 := sm.trans s3
      refine ⟨_, rfl, _, rfl, pb, _, rfl, .inr hb3, _, rfl, _, _, rfl, rfl, _, _, rfl, _, _, rfl, ⟨by omega, by omega, ?_, ?_⟩, for_range (lo := (b : Int)) (fun i σ H' => ∃ y4 y5 y6, σ = [some (.ref a), some (.ref pb), some (.int (b : Int)), some (.int (sumOn 1 cs)), y4, y5, y6] ∧ Same H H' ∧ SqT K H' pb (cs.map V.int)) ⟨none, none, none, rfl, sm3, hb3⟩ (fun i σ H4 hi p => ?_) (fun σ H4 p => q _)⟩
      · rw [List.length_map]; split <;> omega
      · rw [List.length_map]; split <;> omega
      · obtain ⟨y4, y5, y6, rfl, sm4, hb4⟩ := p
        have hk : b + i < cs.length := by
          rw [List.length_map] at hi
          split at hi <;> omega
        have hns : 2 < ns.length := c3 (fun e => by rw [e] at hk; exact absurd hk (Nat.not_lt_zero _))
        have ek : (b : Int) + (i : Int) = ((b + i : Nat) : Int) := by omega
        rw [ek]
        generalize hkk : b + i = k at hk ek
        have gk : (cs.map V.int)[k]? = some (.int cs[k]) := by rw [List.getElem?_map, List.getElem?_eq_getElem hk]; rfl
        have ck := c0 cs[k] (List.getElem_mem hk)
        have g1 : (ns.map V.int)[1]? = some (.int ns[1]) := by rw [List.getElem?_map, List.getElem?_eq_getElem (by omega)]; rfl
        have hS4 : SqL K H4 a (ns.map V.int) := sm4.seq hS
        have e1 : (k : Int) + 1 = ((k + 1 : Nat) : Int) := by omega
        have e2 : (k : Int) + 2 = ((k + 2 : Nat) : Int) := by omega
        -- new
        refine ⟨_, rfl, _, rfl, pb, _, _, _, rfl, rfl, hb4, atI_nat gk, _, _, rfl, rfl, _, rfl, a, _, 1, _, rfl, rfl, hS4, at_of (j := 1) rfl g1, _, rfl, _, _, rfl, rfl, _, _, rfl, rfl, ⟨by omega, by omega⟩, _, 255, rfl, rfl, (show (0 : Int) < 255 by decide), _, _, rfl, rfl, _, 256, rfl, rfl, (show (0 : Int) < 256 by decide), ?_⟩
        have hy : 0 ≤ (cs[k] + 1 + ns[1] / ((k : Int) + 1) % 255) % 256 ∧ (cs[k] + 1 + ns[1] / ((k : Int) + 1) % 255) % 256 < 256 ∧ (cs[k] + 1 + ns[1] / ((k : Int) + 1) % 255) % 256 ≠ cs[k] := by omega
        obtain ⟨y, ey⟩ : ∃ y, y = (cs[k] + 1 + ns[1] / ((k : Int) + 1) % 255) % 256 := ⟨_, rfl⟩
        rw [← ey] at hy
        -- with y at k
        refine ⟨_, rfl, _, rfl, (k : Int), rfl, pb, _, rfl, hb4, fun H5 p5 s5 h5 => ?_⟩
        rw [cut_to] at h5
        refine ⟨_, rfl, (show 1 ≤ sizeLine by rw [sizeLine_eq]; decide), fun H6 p6 s6 h6 => ?_⟩
        refine ⟨p5, p6, _, _, rfl, rfl, keepT s6 h5, h6, ?_, fun H7 p7 s7 h7 => ?_⟩
        · exact Nat.le_of_lt (small1000 (by rw [List.length_map, List.length_take]; simp only [List.length_cons, List.length_nil]; omega))
        refine ⟨_, rfl, _, rfl, _, _, rfl, rfl, _, rfl, pb, _, rfl, keepT (s5.trans (s6.trans s7)) hb4, fun H8 p8 s8 h8 => ?_⟩
        rw [e1, cut_from] at h8
        refine ⟨p7, p8, _, _, rfl, rfl, keepT s8 h7, h8, ?_, fun H9 p9 s9 h9 => ?_⟩
        · exact Nat.le_of_lt (small1000 (by rw [List.length_append, List.length_map, List.length_map, List.length_take, List.length_drop]; simp only [List.length_cons, List.length_nil]; omega))
        have h9' : SqT K H9 p9 ((cs.take k ++ [y] ++ cs.drop (k + 1)).map V.int) := by
          rw [List.map_append, List.map_append, ey]; exact h9
        refine ⟨p9, _, rfl, h9', fun H10 s10 => ?_⟩
        refine ⟨_, rfl, rfl, _, rfl, ite2 (fun e => ?_) (fun _ => ?_)⟩
        · have e' : sumOn 1 (cs.take k ++ [y] ++ cs.drop (k + 1)) = sumOn 1 cs := V.int.inj (of_decide_eq_true e)
          rw [show sumOn 1 cs = sumOn 1 (cs.take k ++ cs[k] :: cs.drop (k + 1)) from congrArg _ (at_mid hk)] at e'
          exact absurd e' (sum_one ck ⟨hy.1, hy.2.1⟩ hy.2.2)
        have s4t : Same H4 H10 := s5.trans (s6.trans (s7.trans (s8.trans (s9.trans s10))))
        have hbt : SqT K H10 pb (cs.map V.int) := keepT s4t hb4
        -- two
        refine ⟨_, rfl, _, rfl, (k : Int), rfl, _, rfl, _, _, rfl, rfl, _, rfl, pb, _, rfl, hbt, fun H11 p11 s11 h11 => ?_⟩
        rw [e2, cut_mid, Nat.add_sub_cancel_left] at h11
        have fin : ∀ (H' : Hp) (u v w : Option V), Same H10 H' → ∃ y4 y5 y6, [some (V.ref a), some (V.ref pb), some (V.int (b : Int)), some (V.int (sumOn 1 cs)), u, v, w] = [some (V.ref a), some (V.ref pb), some (V.int (b : Int)), some (V.int (sumOn 1 cs)), y4, y5, y6] ∧ Same H H' ∧ SqT K H' pb (cs.map V.int) :=
          fun H' u v w sm' => ⟨u, v, w, rfl, sm4.trans (s4t.trans sm'), keepT sm' hbt⟩
        refine ⟨_, rfl, p11, _, rfl, .inr h11, rfl, _, rfl, ite2 (fun e => ?_) (fun _ => iteF (fin _ _ _ _ s11))⟩
        have hl2 : k + 1 < cs.length := by
          have := V.int.inj (of_decide_eq_true e)
          rw [List.length_map, List.length_take, List.length_drop] at this
          omega
        have etwo : (cs.drop k).take 2 = [cs[k], cs[k + 1]] := by
          rw [List.drop_eq_getElem_cons hk, List.drop_eq_getElem_cons hl2]
          rfl
        rw [etwo] at h11
        have ck1 := c0 cs[k + 1] (List.getElem_mem hl2)
        refine ⟨_, rfl, p11, _, 0, .int cs[k], rfl, rfl, h11, rfl, _, rfl, p11, _, 1, .int cs[k + 1], rfl, rfl, h11, rfl, rfl, _, rfl, ite2 (fun e2' => ?_) (fun _ => fin _ _ _ _ s11)⟩
        have hne : cs[k] ≠ cs[k + 1] := fun z => by
          rw [z, decide_eq_true rfl] at e2'
          cases e2'
        refine ⟨_, rfl, _, rfl, (k : Int), rfl, pb, _, rfl, keepT s11 hbt, fun H12 p12 s12 h12 => ?_⟩
        rw [cut_to] at h12
        refine ⟨_, rfl, p11, _, rfl, keepT s12 h11, fun H13 p13 s13 h13 => ?_⟩
        refine ⟨p12, p13, _, _, rfl, rfl, keepT s13 h12, h13, ?_, fun H14 p14 s14 h14 => ?_⟩
        · exact Nat.le_of_lt (small1000 (by rw [List.length_map, List.length_take]; simp only [List.length_reverse, List.length_map, List.length_cons, List.length_nil]; omega))
        refine ⟨_, rfl, _, rfl, _, _, rfl, rfl, _, rfl, pb, _, rfl, keepT (s11.trans (s12.trans (s13.trans s14))) hbt, fun H15 p15 s15 h15 => ?_⟩
        rw [e2, cut_from] at h15
        refine ⟨p14, p15, _, _, rfl, rfl, keepT s15 h14, h15, ?_, fun H16 p16 s16 h16 => ?_⟩
        · exact Nat.le_of_lt (small1000 (by rw [List.length_append, List.length_map, List.length_map, List.length_take, List.length_drop]; simp only [List.length_reverse, List.length_map, List.length_cons, List.length_nil]; omega))
        have h16' : SqT K H16 p16 ((cs.take k ++ [cs[k + 1], cs[k]] ++ cs.drop (k + 2)).map V.int) := by
          rw [List.map_append, List.map_append]; exact h16
        refine ⟨p16, _, rfl, h16', fun H17 s17 => ?_⟩
        refine ⟨_, rfl, rfl, _, rfl, ite2 (fun e => ?_) (fun _ => fin _ _ _ _ (s11.trans (s12.trans (s13.trans (s14.trans (s15.trans (s16.trans s17)))))))⟩
        have e' : sumOn 1 (cs.take k ++ [cs[k + 1], cs[k]] ++ cs.drop (k + 2)) = sumOn 1 cs := V.int.inj (of_decide_eq_true e)
        have em : cs = cs.take k ++ cs[k] :: cs[k + 1] :: cs.drop (k + 2) := by
          rw [← List.drop_eq_getElem_cons hl2, ← List.drop_eq_getElem_cons hk, List.take_append_drop]
        rw [show sumOn 1 cs = sumOn 1 (cs.take k ++ cs[k] :: cs[k + 1] :: cs.drop (k + 2)) from congrArg _ em] at e'
        exact absurd e' (sum_swap ck ck1 hne)
    · have hS1 : SqL K H1 a (ns.map V.int) := s1.seq hS
      have out : ∀ (H' : Hp), Same H1 H' → ∃ (pb : Addr) (cs : List Int) (b : Nat), [some (V.ref a), some (V.ref p1), some (V.int 0), none, none, none, none] = [some (V.ref a), some (V.ref pb), some (V.int (b : Int)), none, none, none, none] ∧ Same H H' ∧ SqT K H' pb (cs.map V.int) ∧ (∀ x ∈ cs, 0 ≤ x ∧ x < 256) ∧ cs.length ≤ 1000 ∧ b ≤ 1000 ∧ (cs ≠ [] → 2 < ns.length) :=
        fun H' sm => ⟨p1, bs, 0, rfl, s1.trans sm, keepT sm h1, b0, by omega, by omega, b2⟩
      refine ⟨_, rfl, _, .inl ⟨_, hS1, rfl⟩, ite2 (fun e => ?_) (fun _ => iteF (go _ _ (out _ (Same.refl _))))⟩
      refine ⟨_, rfl, _, .inr (.inl ⟨_, h1, rfl⟩), ite2 (fun eb => ?_) (fun _ => iteF (go _ _ (out _ (Same.refl _))))⟩
      have hbs : bs ≠ [] := fun z => by rw [z] at eb; cases eb
      have hns := b2 hbs
      have g0 : (ns.map V.int)[0]? = some (.int ns[0]) := by rw [List.getElem?_map, List.getElem?_eq_getElem (by omega)]; rfl
      refine ⟨_, rfl, a, _, 0, _, rfl, rfl, hS1, at_of (j := 0) rfl g0, _, 4, rfl, rfl, (show (0 : Int) < 4 by decide), rfl, _, rfl, ite2 (fun _ => ?_) (fun _ => go _ _ (out _ (Same.refl _)))⟩
      have hmap : bs.map V.int ≠ [] := fun z => hbs (List.map_eq_nil_iff.mp z)
      refine ⟨_, rfl, p1, 20, _, rfl, rfl, h1, hmap, by decide, by decide, by rw [List.length_map]; omega, fun p2 n2 => ?_⟩
      have hrep : (List.replicate (20 : Int).toNat (bs.map V.int)).flatten = (List.replicate 20 bs).flatten.map V.int := by
        rw [List.map_flatten, List.map_replicate]; rfl
      rw [hrep]
      have lrep : (List.replicate 20 bs).flatten.length = 20 * bs.length := PyProof.Rows.lm_len_rep_flat _ _
      have hpos : 0 < bs.length := List.length_pos_iff.mpr hbs
      have h2 : SqT K (upd H1 p2 (.tup ((List.replicate 20 bs).flatten.map V.int))) p2 ((List.replicate 20 bs).flatten.map V.int) := SqT.of upd_same
      have s2 : Same H1 (upd H1 p2 (.tup ((List.replicate 20 bs).flatten.map V.int))) := grow n2
      have mrep : ∀ x ∈ (List.replicate 20 bs).flatten, 0 ≤ x ∧ x < 256 := fun x hx => by
        obtain ⟨l, hl, hx'⟩ := List.mem_flatten.mp hx
        rw [(List.mem_replicate.mp hl).2] at hx'
        exact b0 x hx'
      generalize upd H1 p2 (.tup ((List.replicate 20 bs).flatten.map V.int)) = H2 at h2 s2
      generalize (List.replicate 20 bs).flatten = cs at h2 lrep mrep
      have lpos : 0 < ((cs.map V.int).length : Int) := by rw [List.length_map]; omega
      refine ⟨_, rfl, a, _, 0, _, rfl, rfl, s2.seq hS1, at_of (j := 0) rfl g0, _, 4, rfl, rfl, ⟨by decide, by decide⟩, _, rfl, p2, _, rfl, .inr h2, _, _, rfl, rfl, lpos, ?_⟩
      have m1 := Int.emod_nonneg (ns[0] / 4) (Int.ne_of_gt lpos)
      have m2 := Int.emod_lt_of_pos (ns[0] / 4) lpos
      refine go _ _ ⟨p2, cs, (ns[0] / 4 % ((cs.map V.int).length : Int)).toNat, ?_, s1.trans s2, h2, mrep, by omega, ?_, fun _ => hns⟩
      · rw [Int.toNat_of_nonneg m1]
        rfl
      · rw [List.length_map] at m2 ⊢
        omega
end
/-! ### the end -/
theorem all_mk {l : PySem.W.OpenLaw} {w : World} {K : PySem.W.Frag} {h : Heap} {mg : Str → Option Value} {fa fn0 fn1 fn2 fn3 fn4 : Addr} (X : K.In h) (G : h.Ns mainGlobals mg) (hfa : mg "law" = some (.ref fa))
    {od0 an0 od1 an1 od2 an2 od3 an3 od4 an4 : Option Addr} {sl0 sl1 sl2 sl3 sl4 : Array (Option Value)} {oc0 kV0 dc0 pm0 cd0 ct0 oc1 kV1 dc1 pm1 cd1 ct1 oc2 kV2 dc2 pm2 cd2 ct2 oc3 kV3 dc3 pm3 cd3 ct3 oc4 kV4 dc4 pm4 cd4 ct4 : Value} {t_EMPTY_SUM : Tok} {t_HIGH_WORTH : Tok} {t_RESTS_BY : Tok}
    (a0 : PySem.W.nsIn K mainGlobals "told_sum" = some (some (.ref fn0))) (l0 : K.lookup fn0 = some ⟨oc0, od0, .func (PySem.W.fnOf "told_sum" "told_sum" (defArgs sToldSum) (defBody sToldSum) (defScope sToldSum) .none kV0 dc0 pm0 an0 cd0 ct0), sl0⟩) (c0 : PySem.W.codeIn K cd0 "told_sum" = true) (k0 : PySem.W.keepIn K (.ref fn0) = true)
    (a1 : PySem.W.nsIn K mainGlobals "sum_on" = some (some (.ref fn1))) (l1 : K.lookup fn1 = some ⟨oc1, od1, .func (PySem.W.fnOf "sum_on" "sum_on" (defArgs sSumOn) (defBody sSumOn) (defScope sSumOn) .none kV1 dc1 pm1 an1 cd1 ct1), sl1⟩) (c1 : PySem.W.codeIn K cd1 "sum_on" = true) (k1 : PySem.W.keepIn K (.ref fn1) = true)
    (a2 : PySem.W.nsIn K mainGlobals "sum_of" = some (some (.ref fn2))) (l2 : K.lookup fn2 = some ⟨oc2, od2, .func (PySem.W.fnOf "sum_of" "sum_of" (defArgs sSumOf) (defBody sSumOf) (defScope sSumOf) .none kV2 dc2 pm2 an2 cd2 ct2), sl2⟩) (c2 : PySem.W.codeIn K cd2 "sum_of" = true) (k2 : PySem.W.keepIn K (.ref fn2) = true)
    (a3 : PySem.W.nsIn K mainGlobals "_law_bytes" = some (some (.ref fn3))) (l3 : K.lookup fn3 = some ⟨oc3, od3, .func (PySem.W.fnOf "_law_bytes" "_law_bytes" (defArgs sLawBytes) (defBody sLawBytes) (defScope sLawBytes) .none kV3 dc3 pm3 an3 cd3 ct3), sl3⟩) (c3 : PySem.W.codeIn K cd3 "_law_bytes" = true) (k3 : PySem.W.keepIn K (.ref fn3) = true)
    (a4 : PySem.W.nsIn K mainGlobals "law" = some (some (.ref fn4))) (l4 : K.lookup fn4 = some ⟨oc4, od4, .func (PySem.W.fnOf "law" "law" (defArgs sLaw) (defBody sLaw) (defScope sLaw) .none kV4 dc4 pm4 an4 cd4 ct4), sl4⟩) (c4 : PySem.W.codeIn K cd4 "law" = true) (k4 : PySem.W.keepIn K (.ref fn4) = true)
    (z_bool : PySem.W.nsIn K mainGlobals "bool" = some none)
    (z_divmod : PySem.W.nsIn K mainGlobals "divmod" = some none)
    (z_int : PySem.W.nsIn K mainGlobals "int" = some none)
    (z_isinstance : PySem.W.nsIn K mainGlobals "isinstance" = some none)
    (z_len : PySem.W.nsIn K mainGlobals "len" = some none)
    (z_min : PySem.W.nsIn K mainGlobals "min" = some none)
    (z_range : PySem.W.nsIn K mainGlobals "range" = some none)
    (z_tuple : PySem.W.nsIn K mainGlobals "tuple" = some none)
    (g_EMPTY_SUM : PySem.W.nsIn K mainGlobals "EMPTY_SUM" = some (some (.int 1 t_EMPTY_SUM)))
    (g_HIGH_WORTH : PySem.W.nsIn K mainGlobals "HIGH_WORTH" = some (some (.int 65536 t_HIGH_WORTH)))
    (g_RESTS_BY : PySem.W.nsIn K mainGlobals "RESTS_BY" = some (some (.int 65521 t_RESTS_BY))) :
    ∃ fd : FuncData, (∀ (s : Shared) (v : Value), BindsTo s fd ⟨[v], []⟩ [("_law_script", v)]) ∧ ∀ base : Heap, K.In base → base.Ns mainGlobals mg → FnOk l.prog w K mg base CX0 4 fa fd ["_law_script"] (spLaw K) := by
  have e := hfa.symm.trans (PySem.W.mg_of X G a4)
  cases e
  have Ev : Env K mg := ⟨PySem.W.mg_none_of X G z_bool, PySem.W.mg_none_of X G z_divmod, PySem.W.mg_none_of X G z_int, PySem.W.mg_none_of X G z_isinstance, PySem.W.mg_none_of X G z_len, PySem.W.mg_none_of X G z_min, PySem.W.mg_none_of X G z_range, PySem.W.mg_none_of X G z_tuple, ⟨_, PySem.W.mg_of X G g_EMPTY_SUM⟩, ⟨_, PySem.W.mg_of X G g_HIGH_WORTH⟩, ⟨_, PySem.W.mg_of X G g_RESTS_BY⟩⟩
  have F0 := fun_mk (st := sToldSum) l0 c0 k0
  have F1 := fun_mk (st := sSumOn) l1 c1 k1
  have F2 := fun_mk (st := sSumOf) l2 c2 k2
  have F3 := fun_mk (st := sLawBytes) l3 c3 k3
  have F4 := fun_mk (st := sLaw) l4 c4 k4
  refine ⟨PySem.W.fnOf "law" "law" (defArgs sLaw) (defBody sLaw) (defScope sLaw) .none kV4 dc4 pm4 an4 cd4 ct4, fun s v => .of_eq rfl, fun base _ _ => ?_⟩
  have C_0 : Cal l.prog w K mg base "told_sum" 1 ["high", "low"] spTold := ⟨_, _, ok_told Ev  F0, PySem.W.mg_of X G a0, k0, F0.binds fun _ _ _ _ _ _ us hl => match us, hl with | [_, _], _ => rfl⟩
  have C_1 : Cal l.prog w K mg base "sum_on" 2 ["before", "body"] (spOn K) := ⟨_, _, ok_on Ev C_0 F1, PySem.W.mg_of X G a1, k1, F1.binds fun _ _ _ _ _ _ us hl => match us, hl with | [_, _], _ => rfl⟩
  have C_2 : Cal l.prog w K mg base "sum_of" 3 ["body"] (spOf K) := ⟨_, _, ok_of Ev C_1 F2, PySem.W.mg_of X G a2, k2, F2.binds fun _ _ _ _ _ _ us hl => match us, hl with | [_], _ => rfl⟩
  have C_3 : Cal l.prog w K mg base "_law_bytes" 1 ["_law_script", "_law_begin", "_law_end"] (spBytes K) := ⟨_, _, ok_bytes Ev  F3, PySem.W.mg_of X G a3, k3, F3.binds fun _ _ _ _ _ _ us hl => match us, hl with | [_, _, _], _ => rfl⟩
  exact ok_law Ev C_2 C_3 F4
end Fc
open PySem PySem.W PyProof.Rows
set_option maxHeartbeats 0 in
theorem PySem.Challenge.cw_filecrate_k05_whole_sums_tell_changes_holds : PySem.Challenge.rw_filecrate_k05_whole_sums_tell_changes.Holds := by
  w_on; o_law; k_head; (case hw => w_witness2)
  k_fill
  refine L2.walk_of (l := PySem.Challenge.rw_filecrate_k05_whole_sums_tell_changes) (n := 63) (k := 4) (x := "_law_script") (CX := fun _ => L2.CX0) (sp := fun w => Fc.spLaw _) rfl (by decide) rfl ⟨rfl, by decide, by decide⟩ (fun w h Y => PySem.W.kIn_of Y) ?F (fun _ _ a ns hl _ hS => ⟨a, ns, rfl, hS, hl, fun _ => rfl⟩) (fun _ _ _ _ _ h => h)
  case F =>
    intro w mg fa h KX G hmg
    refine' Fc.all_mk KX G hmg ?a0 ?l0 ?c0 ?k0 ?a1 ?l1 ?c1 ?k1 ?a2 ?l2 ?c2 ?k2 ?a3 ?l3 ?c3 ?k3 ?a4 ?l4 ?c4 ?k4 ?z_bool ?z_divmod ?z_int ?z_isinstance ?z_len ?z_min ?z_range ?z_tuple ?g_EMPTY_SUM ?g_HIGH_WORTH ?g_RESTS_BY
    (case a0 => k_is); (case l0 => k_is); (case c0 => k_is); (case k0 => k_is); (case a1 => k_is); (case l1 => k_is); (case c1 => k_is); (case k1 => k_is); (case a2 => k_is); (case l2 => k_is); (case c2 => k_is); (case k2 => k_is); (case a3 => k_is); (case l3 => k_is); (case c3 => k_is); (case k3 => k_is); (case a4 => k_is); (case l4 => k_is); (case c4 => k_is); (case k4 => k_is); (case z_bool => k_is); (case z_divmod => k_is); (case z_int => k_is); (case z_isinstance => k_is); (case z_len => k_is); (case z_min => k_is); (case z_range => k_is); (case z_tuple => k_is); (case g_EMPTY_SUM => k_is); (case g_HIGH_WORTH => k_is); (case g_RESTS_BY => k_is)
