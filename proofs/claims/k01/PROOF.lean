import PyProof.Rows.All
import Wide.All
import OpenK.AllK
import Wide.FinOn
import HandS.ForMost
import HandS.IsInst
import HandS.TupAny
import HandS.TupMul
import HandS.Zip
import HandS.Style
import PySem.Challenge.RW_filecrate_k01_numbers
set_option Elab.async false
set_option linter.all false
set_option maxRecDepth 100000
set_option maxHeartbeats 4000000
namespace Fc
open PySem PySem.Spec PyProof.Rows L2

/-! ### heaps that only grow -/
theorem grow {H : Hp} {p : Addr} {o : HO} (n : H p = none) : Same H (upd H p o) := by
  intro b u e
  have hb : b ≠ p := ne_of_none e n
  rw [upd_ne hb, e]
theorem keepT {K : PySem.W.Frag} {H H' : Hp} {a : Addr} {xs : List V} (e : Same H H') (h : SqT K H a xs) : SqT K H' a xs := by
  rcases h with (h | ⟨o, h⟩) | h
  · left; left; exact e a _ h
  · left; right; exact ⟨o, e a _ h⟩
  · right; exact h
/-- behind it a tuple of these, and all that stood -/
def Tups (K : PySem.W.Frag) (H : Hp) (xs : List V) (Q : VK) : Prop := ∀ H' p, Same H H' → SqT K H' p xs → Q (.ref p) H'
theorem Tups.new {K : PySem.W.Frag} {H : Hp} {xs : List V} {Q : VK} (h : Tups K H xs Q) {p : Addr} (n : H p = none) : Q (.ref p) (upd H p (.tup xs)) := h _ _ (grow n) (SqT.of upd_same)
theorem Tups.old {K : PySem.W.Frag} {H : Hp} {xs ys : List V} {Q : VK} (h : Tups K H xs Q) {p : Addr} (e : SqT K H p ys) (eq : ys = xs) : Q (.ref p) H := by
  subst eq
  exact h _ _ (Same.refl H) e
theorem PEweak {X : Cx} {e : Expr} {t u : TE} (h : PE X e t) (w : ∀ σ H Q, u σ H Q → t σ H Q) : PE X e u := ⟨fun pins s σ H Q I q => h.run pins s σ H Q I (w σ H Q q)⟩
def upA (t : TA) : TA := fun σ H Q => ∃ R, t σ H R ∧ ∀ vs H', R vs H' → Q vs H'
theorem PAup {X : Cx} {es : List Expr} {t : TA} (h : PA X es t) : PA X es (upA t) := ⟨fun ps pins s σ H Q I q => by
  obtain ⟨R, q1, q2⟩ := q
  refine thn (h.run ps pins s σ H R I q1) fun us s' ⟨vs, H', I', r, k⟩ => ⟨vs, H', I', r, q2 _ _ k⟩⟩

/-! ### rules whose reading says Tups -/
section
variable {X : Cx}
def rCatU (K : PySem.W.Frag) : R2 := fun x y H Q => ∃ a b xs ys, x = .ref a ∧ y = .ref b ∧ SqT K H a xs ∧ SqT K H b ys ∧ xs.length + ys.length ≤ sizeLine ∧ Tups K H (xs ++ ys) Q
theorem op_catU : OpR X (binaryOp .Add) (rCatU X.K) := by
  intro pins s σ H x y v u Q I rx ry h
  obtain ⟨a, b, xs, ys, rfl, rfl, ha, hb, hz, q⟩ := h
  refine op_catA pins s σ H _ _ v u Q I rx ry ⟨a, b, xs, ys, rfl, rfl, ha, hb, hz, fun e => ?_, fun _ e => ?_, fun _ _ p n => q.new n⟩
  · subst e; exact q.old hb rfl
  · subst e; exact q.old ha (List.append_nil xs).symm
def rSlU (K : PySem.W.Frag) : V → Option Int → Option Int → Hp → VK → Prop := fun x lo hi H Q => ∃ a xs, x = .ref a ∧ SqT K H a xs ∧ Tups K H (cutV xs lo hi) Q
theorem sl_tupU : SlR X (rSlU X.K) := by
  intro pins s σ H x v vl vu lo hi sl Q I rx hs pl pu h
  obtain ⟨a, xs, rfl, hx, q⟩ := h
  refine sl_tupA pins s σ H _ v vl vu lo hi sl Q I rx hs pl pu ⟨a, xs, rfl, hx, fun e => q.old hx ?_, fun _ p n => q.new n⟩
  unfold cutV
  rw [e.1, e.2, List.drop_zero, Nat.sub_zero, List.take_length]
def tTupU (K : PySem.W.Frag) (t : TA) : TE := fun σ H Q => t σ H fun xs H1 => xs.length ≤ sizeLine ∧ Tups K H1 xs Q
theorem pe_tupU {es : List Expr} {x1 : Nat} {pos : Pos} {t : TA} (h : PA X es t) : PE X (.Tuple es x1 pos) (tTupU X.K t) :=
  PEweak (pe_tup (PAup h)) fun σ H Q q => ⟨_, q, fun vs H' k => ⟨k.1, fun p n => k.2.new n⟩⟩
theorem call_divmodU : CallR X (.builtin "divmod") (fun xs H Q => ∃ i j, xs = [.int i, .int j] ∧ CDiv i j ∧ Tups X.K H [.int (i / j), .int (i % j)] Q) := by
  intro pins s σ H xs us Q I r h
  obtain ⟨i, j, e, c, q⟩ := h
  exact call_divmod pins s σ H xs us Q I r ⟨i, j, e, c, fun p n => q.new n⟩
theorem call_tupleU : CallR X (.type "tuple") (fun xs H Q => ∃ p ys, xs = [.ref p] ∧ SqL X.K H p ys ∧ Tups X.K H ys Q) := by
  intro pins s σ H xs us Q I r h
  obtain ⟨p, ys, e, hp, q⟩ := h
  exact call_tuple_of pins s σ H xs us Q I r ⟨p, ys, e, .inl ⟨hp, fun l n => q.new n⟩⟩
theorem pe_globI {x : Str} {n : Int} {pos : Pos} (hg : Gl X x) (h : ∃ t, X.mg x = some (.int n t)) (hd : (x == ("__debug__" : Str)) = false := by decide) : PE X (.Name x pos) (tC (.int n)) := by
  obtain ⟨t, e⟩ := h
  exact pe_glob hg e ⟨t, rfl⟩ hd
def tGT (K : PySem.W.Frag) (xs : List V) : TE := fun _ H Q => ∀ a, (∀ H', SqT K H' a xs) → Q (.ref a) H
theorem pe_globT {x : Str} {xs : List V} {pos : Pos} (hg : Gl X x) (h : ∃ a, X.mg x = some (.ref a) ∧ ∀ H', SqT X.K H' a xs) (hd : (x == ("__debug__" : Str)) = false := by decide) : PE X (.Name x pos) (tGT X.K xs) := by
  obtain ⟨a, e, q⟩ := h
  exact PEweak (pe_glob (v := .ref a) hg e rfl hd) fun σ H Q k => k a q
theorem pe_btype {x : Str} {n : String} {pos : Pos} (hg : Gl X x) (hm : X.mg x = none) (hv : bootBuiltins x = some (.type n)) (hn : x ≠ "__name__" := by decide) (hd : (x == ("__debug__" : Str)) = false := by decide) : PE X (.Name x pos) (tC (.ty n)) := pe_bltn hg hm hv rfl hn hd
end

/-! ### a def that is called -/
structure Cal (P : Program) (w : World) (K : PySem.W.Frag) (mg : Str → Option Value) (base : Heap) (x : Str) (k : Nat) (ps : List Str) (sp : Sp) : Prop where
  ex : ∃ f fd, FnOk P w K mg base CX0 k f fd ps sp ∧ mg x = some (.ref f) ∧ PySem.W.keepIn K (.ref f) = true ∧ Binds K fd ps []
theorem pe_c {X : Cx} {x : Str} {k : Nat} {ps : List Str} {sp : Sp} {p pos : Pos} {e : Expr} {es : List Expr} {t : TA} (C : Cal X.prog X.w X.K X.mg X.base x k ps sp) (hr : Room k X.A) (ha : PA X (e :: es) t) (hg : Gl X x := by rfl) (hdb : (x == ("__debug__" : Str)) = false := by decide)
    (he : starEach (e :: es) X.env = (false, eval e X.env) :: starEach es X.env := by rfl) (hpl : (backTo pos (starEach es X.env)).any (·.1) = false := by rfl) : PE X (.Call (.Name x p) (e :: es) [] pos) (tCall sp [] E0 t) := by
  obtain ⟨f, fd, F, m, kp, b⟩ := C.ex
  exact pe_call F hr hg m kp b .nil pass0 ha hdb he hpl

/-! ### joining ways -/
theorem seq_by {t u : TS} {D : Ends} {σ : L2.St} {H : Hp} (P : L2.St → Hp → Prop) (h2 : ∀ σ H, P σ H → u D σ H) (h1 : (∀ σ H, P σ H → u D σ H) → t { D with nx := u D } σ H) : tSeq t u D σ H := h1 h2

theorem seq_c {v : V} {i : Nat} {u : TS} {D : Ends} {σ : L2.St} {H : Hp} (h : u D (σ.set i (some v)) H) : tSeq (tAsg (tC v) (gName i)) u D σ H := h

/-! ### isinstance -/
theorem k_ii {K : PySem.W.Frag} : PySem.W.kitOne K (.type "int") (.type "int") = some true := kit_ty (by decide +kernel)
theorem k_ib {K : PySem.W.Frag} : PySem.W.kitOne K (.type "int") (.type "bool") = some false := kit_ty (by decide +kernel)
theorem k_it {K : PySem.W.Frag} : PySem.W.kitOne K (.type "int") (.type "tuple") = some false := kit_ty (by decide +kernel)
theorem k_is' {K : PySem.W.Frag} : PySem.W.kitOne K (.type "int") (.type "str") = some false := kit_ty (by decide +kernel)
theorem k_tb {K : PySem.W.Frag} : PySem.W.kitOne K (.type "tuple") (.type "bool") = some false := kit_ty (by decide +kernel)
theorem k_tt {K : PySem.W.Frag} : PySem.W.kitOne K (.type "tuple") (.type "tuple") = some true := kit_ty (by decide +kernel)
theorem k_sb {K : PySem.W.Frag} : PySem.W.kitOne K (.type "str") (.type "bool") = some false := kit_ty (by decide +kernel)
theorem k_st {K : PySem.W.Frag} : PySem.W.kitOne K (.type "str") (.type "tuple") = some false := kit_ty (by decide +kernel)
theorem k_ss {K : PySem.W.Frag} : PySem.W.kitOne K (.type "str") (.type "str") = some true := kit_ty (by decide +kernel)
theorem ty_tup {K : PySem.W.Frag} {H : Hp} {a : Addr} {xs : List V} (h : SqT K H a xs) : TyX K H (.ref a) (.type "tuple") := by
  rcases h with (h | ⟨o, h⟩) | ⟨o, its, n, h, c, _⟩
  · exact .base (.tup h)
  · exact .fTuple h
  · exact .kTuple h c

/-! ### cuts of whole numbers -/
theorem cut_to (ns : List Int) (k : Nat) : cutV (ns.map V.int) none (some (k : Int)) = (ns.take k).map V.int := by
  unfold cutV
  rw [HT.sIx_none, HT.sIx_nat, List.drop_zero, Nat.sub_zero, List.length_map, List.map_take]
  by_cases h : k ≤ ns.length
  · rw [Nat.min_eq_left h]
  · have h' : ns.length ≤ k := by omega
    rw [Nat.min_eq_right h', List.take_of_length_le (by rw [List.length_map]; omega), List.take_of_length_le (by rw [List.length_map]; omega)]
theorem cut_from (ns : List Int) (k : Nat) : cutV (ns.map V.int) (some (k : Int)) none = (ns.drop k).map V.int := by
  unfold cutV
  rw [HT.sIx_none, HT.sIx_nat, List.length_map, List.map_drop]
  by_cases h : k ≤ ns.length
  · rw [Nat.min_eq_left h]
    exact List.take_of_length_le (by rw [List.length_drop, List.length_map]; omega)
  · have h' : ns.length ≤ k := by omega
    rw [Nat.min_eq_right h', List.drop_of_length_le (by rw [List.length_map]; omega), List.drop_of_length_le (by rw [List.length_map]; omega), List.take_nil]
theorem cut_mid (ns : List Int) (i j : Nat) : cutV (ns.map V.int) (some (i : Int)) (some (j : Int)) = ((ns.drop i).take (j - i)).map V.int := by
  unfold cutV
  rw [HT.sIx_nat, HT.sIx_nat, List.length_map, List.map_take, List.map_drop]
  by_cases h : i ≤ ns.length
  · rw [Nat.min_eq_left h]
    by_cases g : j ≤ ns.length
    · rw [Nat.min_eq_left g]
    · have g' : ns.length ≤ j := by omega
      rw [Nat.min_eq_right g', List.take_of_length_le (by rw [List.length_drop, List.length_map]; omega), List.take_of_length_le (by rw [List.length_drop, List.length_map]; omega)]
  · have h' : ns.length ≤ i := by omega
    rw [Nat.min_eq_right h', List.drop_of_length_le (by rw [List.length_map]; omega), List.drop_of_length_le (by rw [List.length_map]; omega), List.take_nil, List.take_nil]

/-! ### a comprehension whose items are told by a row -/
theorem lc_row {K : PySem.W.Frag} {a : Addr} {xs ys : List V} {te : TE} {vs : List Nat} {σ : L2.St} {H1 : Hp} {D : Addr} {j : Nat} {Qd : Hp → Prop} (nD : H1 D = none) (hs : SqL K H1 a xs) (hy : ys.length = xs.length) (hz : xs.length ≤ sizeLine)
    (hw : ∀ x, wipe ((wipe σ vs).set j (some x)) vs = wipe σ vs)
    (turn : ∀ (i : Nat) (x y : V) (H : Hp) (R : V → Hp → Prop), xs[i]? = some x → ys[i]? = some y → Same H1 H → (∀ H', Same H H' → R y H') → te ((wipe σ vs).set j (some x)) H R) (hd : ∀ H', Same H1 H' → H' D = some (.lst ys) → Qd H') :
    ∃ W : Nat → Nat → Hp → Prop, (∃ m, W 0 m (upd H1 D (.lst []))) ∧ ∀ i m H, W i m H →
      ((Itl K a).stop i H ∧ Qd H) ∨ ((Itl K a).go i H ∧ ∃ Nx : Hp → Prop, (∀ H', Nx H' → ∃ m', m' < m ∧ W (i + 1) m' H') ∧ ∀ x H', (Itl K a).yld i H x H' → gName j x (wipe σ vs) H' fun σ2 H2 => wipe σ2 vs = wipe σ vs ∧ tYes σ2 H2 fun b H3 =>
        if b = true then te σ2 H3 fun y H4 => ∃ acc, H4 D = some (.lst acc) ∧ acc.length < sizeLine ∧ Nx (upd H4 D (.lst (acc ++ [y]))) else Nx H3) := by
  refine lc_list (xs := xs) (fun i H => Same H1 H ∧ H D = some (.lst (ys.take i))) ⟨grow nD, upd_same⟩ (fun i H _ p => p.1.seq hs) (fun i x H hx p => ?_) (fun H p => hd H p.1 ?_)
  · have hi : i < xs.length := (List.getElem?_eq_some_iff.mp hx).1
    have hiy : i < ys.length := by omega
    refine ⟨hw x, ?_⟩
    unfold tYes
    dsimp only
    rw [if_pos rfl]
    refine turn i x ys[i] H _ hx (List.getElem?_eq_getElem hiy) p.1 fun H' sm => ⟨ys.take i, sm _ _ p.2, ?_, ?_, ?_⟩
    · rw [List.length_take]; omega
    · intro b o e
      have hb : b ≠ D := ne_of_none e nD
      rw [upd_ne hb]
      exact sm _ _ (p.1 _ _ e)
    · rw [upd_same, List.take_add_one, List.getElem?_eq_getElem hiy]
      rfl
  · have := p.2
    rw [← hy, List.take_length] at this
    exact this
end Fc

namespace Fc
open PySem PySem.Spec L2 PyProof.Rows
/-! ### t[::-1] -/
section
variable {pr : Program} {wd : World} {Ar : Around} {E : Value → Shared → Prop} {st : Shared}
theorem back_adjust (n : Nat) : Builtin.Slice.sliceAdjust none none (-1) (n : Int) = ((n : Int) - 1, -1) := rfl
theorem back_places (n : Nat) : Builtin.Slice.slicePlaces ((n : Int) - 1) (-1) (-1) = n := by
  have e : ((n : Int) - 1 - -1 - 1) / (- -1) = (n : Int) - 1 := by
    have z : (- -1 : Int) = 1 := by decide
    rw [z, Int.ediv_one]
    omega
  have z : ¬ ((-1 : Int) > 0) := by decide
  simp only [Builtin.Slice.slicePlaces, if_neg z, e]
  split <;> omega
theorem alike_filterMap {f g : Nat → Option Value} : ∀ {l : List Nat}, (∀ k ∈ l, f k = g k) → l.filterMap f = l.filterMap g
  | [], _ => rfl
  | a :: r, h => by rw [List.filterMap_cons, List.filterMap_cons, h a List.mem_cons_self, alike_filterMap fun k hk => h k (List.mem_cons_of_mem _ hk)]
theorem all_of {ys : List Value} : (List.range ys.length).filterMap (fun k => ys[k]?) = ys := by
  have h := PySem.pick_run ys.toArray 0 ys.length
  have e : (List.range ys.length).map (0 + ·) = List.range ys.length := by simp
  rw [e] at h
  simpa using h
theorem back_pick (xs : Array Value) : ((List.range xs.size).filterMap fun (k : Nat) => xs[((xs.size : Int) - 1 + (k : Int) * -1).toNat]?).toArray = xs.toList.reverse.toArray := by
  congr 1
  rw [alike_filterMap (g := fun k => xs.toList.reverse[k]?)]
  · have e2 : xs.size = xs.toList.reverse.length := by rw [List.length_reverse, Array.length_toList]
    rw [e2]
    exact all_of
  · intro k hk
    have hk' := List.mem_range.mp hk
    rw [List.getElem?_reverse (by rw [Array.length_toList]; exact hk'), Array.length_toList, Array.getElem?_toList]
    congr 1
    omega
theorem back_applied {sl : Addr} {v : Value} {n : Nat} {Q : Int × Int × Nat → Shared → Prop} (isl : st.heap.IsSliceOf sl .none .none v) (pt : IsPart v (some (-1)))
    (q : Q ((n : Int) - 1, -1, n) st) : wpAny (model pr wd) Ar (Builtin.Slice.sliceApplied (.ref sl) (pure (n : Int))) Q E st := by
  obtain ⟨o, ho, _, hf⟩ := isl
  simp only [Builtin.Slice.sliceApplied, Builtin.Slice.sliceFields]
  refine wpAny_bind (wpAny_bind (wpAny_field ho hf (x := .none) rfl (wpAny_bind (wpAny_field ho hf (x := .none) rfl (wpAny_bind (wpAny_field ho hf (x := v) rfl (wpAny_pure ?_)))))))
  refine wpAny_bind (HT.slicePart_ pt ?_)
  show wpAny _ _ (if ((-1 : Int) == 0) = true then _ else _) _ _ st
  rw [if_neg (by decide)]
  refine wpAny_bind (HT.slicePart_ .none (wpAny_bind (HT.slicePart_ .none (wpAny_bind (wpAny_pure ?_)))))
  show wpAny _ _ (match Builtin.Slice.sliceAdjust none none (-1) (n : Int) with | (lo, hi) => pure (lo, (-1 : Int), Builtin.Slice.slicePlaces lo hi (-1))) _ _ st
  rw [back_adjust n]
  show wpAny _ _ (pure ((n : Int) - 1, (-1 : Int), Builtin.Slice.slicePlaces ((n : Int) - 1) (-1) (-1))) _ _ st
  rw [back_places]
  exact wpAny_pure q
theorem back_item {t sl : Addr} {its : Array Value} {v : Value} {Q : Value → Shared → Prop} (tp : IsTup st.heap t its) (isl : st.heap.IsSliceOf sl .none .none v) (pt : IsPart v (some (-1)))
    (q : Q (.ref st.heap.objs.size) { st with heap := st.heap.push { cls := .type "tuple", data := .seq its.toList.reverse.toArray } }) (few : its.size ≤ sizeLine) :
    wpAny (model pr wd) Ar (getItem (.ref t) (.ref sl)) Q E st := by
  have fits : sizeOk (.seq its.toList.reverse.toArray) := by
    show its.toList.reverse.toArray.size ≤ sizeLine
    rw [List.size_toArray, List.length_reverse, Array.length_toList]
    exact few
  have isT : st.TypeIs (.ref sl) "slice" := by
    obtain ⟨o, ho, hc, _⟩ := isl
    exact ⟨o, ho, hc⟩
  have other : ¬ (((its.size : Int) - 1 == 0 && (-1 : Int) == 1 && its.size == its.size) = true) := fun z => by
    have z1 := (Bool.and_eq_true_iff.mp (Bool.and_eq_true_iff.mp z).1).2
    exact absurd z1 (by decide)
  unfold getItem
  with_reducible refine wpAny_holding ?_
  refine wpAny_bind (wpAny_sequenceKey tp.typeIs (by decide) (wpAny_bind (wpAny_callSpecial?_slot (name := Str.ofString "__getitem__") tp.typeIs PyProof.Rows.slot_tuple_getitem
    (wpAny_call_entry PyProof.Rows.slot_tuple_getitem tp.typeIs entry_tuple_getitem ?_ (args_tuple_getitem _ _)))))
  show wpAny _ _ (Builtin.Tuple.tupleItemsOf (.ref t) >>= _) _ _ st
  refine wpAny_bind (tupleItemsOf_ tp (wpAny_bind (wpAny_typeOf isT ?_)))
  rw [if_pos (by decide)]
  refine wpAny_bind (back_applied isl pt ?_)
  show wpAny _ _ (if ((its.size : Int) - 1 == 0 && (-1 : Int) == 1 && its.size == its.size) = true then _ else _) _ _ st
  rw [if_neg other, back_pick]
  first
    | exact wpAny_bind (m := Builtin.Tuple.tupleExact _) (wpAny_newObj_type (wpAny_bind (wpAny_pure (wpAny_pure ⟨_, rfl, wpAny_pure q⟩))) fits)
    | exact wpAny_bind (wpAny_bind (m := Builtin.Tuple.tupleExact _) (wpAny_newObj_type (wpAny_pure (wpAny_pure ⟨_, rfl, wpAny_pure q⟩)) fits))
    | exact wpAny_bind (m := Builtin.Tuple.tupleExact _) (wpAny_newObj_type (wpAny_pure ⟨_, rfl, wpAny_pure q⟩) fits)
end
section
variable {X : Cx}
def tRevU (K : PySem.W.Frag) (te : TE) : TE := fun σ H Q => te σ H fun x H1 => ∃ a xs, x = .ref a ∧ SqT K H1 a xs ∧ Tups K H1 xs.reverse Q
theorem pe_revT {e : Expr} {te : TE} {k : Nat} {p1 p2 p3 pos : Pos} (he : PE X e te) : PE X (.Subscript e (.Slice none none (some (.UnaryOp .USub (.Constant (.int 1) k p1) p2)) p3) pos) (tRevU X.K te) :=
  ⟨fun pins s σ H Q I h => Subscript_ (thn (he.run pins s σ H _ I h) fun v sa ⟨x, Ha, Ia, ra, a, xs, ex, hx, q⟩ => by
    subst ex
    cases ra
    have minus : PO X (some (.UnaryOp .USub (.Constant (.int 1) k p1) p2)) (tPart (tUn (rU fun i => .int (-i)) (tC (.int 1)))) := po_some (pe_un un_neg pe_int)
    refine wpAny_Slice (thn (po_none.run pins sa σ Ha (fun o H' => o = none ∧ H' = Ha) Ia ⟨rfl, rfl⟩) fun vl sb ⟨l, Hb, Ib, pl, el, eb⟩ => ?_)
    subst el eb
    refine thn (po_none.run pins sb σ Hb (fun o H' => o = none ∧ H' = Hb) Ib ⟨rfl, rfl⟩) fun vu sc ⟨u, Hc, Ic, pu, eu, ec⟩ => ?_
    subst eu ec
    refine thn (minus.run pins sc σ Hc (fun o H' => o = some (-1) ∧ H' = Hc) Ic ⟨1, rfl, -1, rfl, rfl, rfl⟩) fun vs sd ⟨o, Hd, Id, ps, eo, ed⟩ => ?_
    subst eo ed
    cases pl
    cases pu
    have J : Inv X pins σ Hd { sd with heap := sd.heap.push { cls := .type "slice", data := .fields #[.none, .none, vs] } } := Id.kept (t' := sd.toks) fun b ob z => Heap.get?_push_of_some _ z
    obtain ⟨its, r, tp, few⟩ := J.tuple hx
    have same := r.length
    show wpAny (model X.prog X.w) X.A (subscriptTail e (.Slice none none (some (.UnaryOp .USub (.Constant (.int 1) k p1) p2)) p3) (.ref a) (.ref sd.heap.objs.size)) (EP X pins σ Q) X.xe { sd with heap := sd.heap.push { cls := .type "slice", data := .fields #[.none, .none, vs] } }
    refine tail_any (ops := [.ref a, .ref sd.heap.objs.size]) tp.typeIs (PyProof.Rows.slot_tuple_getitem.lookup) ?_ (by with_unfolding_all rfl)
    refine back_item tp (Heap.IsSliceOf.new _ .none .none vs) ps ?_ (by rw [List.size_toArray]; omega)
    refine ⟨.ref _, _, J.laid (t' := sd.toks) (o := .tup xs.reverse) (fun b ob z => Heap.get?_push_of_some _ z) (Nat.le_refl _) ?_, rfl, q.new (J.hok.fresh (Nat.le_refl _))⟩
    exact ⟨by rw [List.length_reverse]; exact few, _, r.reverse, IsTup.new _ _⟩)⟩
end
end Fc

namespace Fc
open PySem PySem.Spec L2 PyProof.Rows
/-! ### [e for x, y in zip(t, u)] over tuples, its items told by a row -/
theorem lc_zip {K : PySem.W.Frag} {a b : Addr} {xs ys zs : List V} {te : TE} {vs : List Nat} {σ : L2.St} {H1 : Hp} {D : Addr} {j k : Nat} {Qd : Hp → Prop} (nD : H1 D = none) (ha : SqT K H1 a xs) (hb : SqT K H1 b ys) (hy : ys.length = xs.length) (hzl : zs.length = xs.length) (hz : xs.length ≤ sizeLine)
    (hw : ∀ x y, wipe (((wipe σ vs).set j (some x)).set k (some y)) vs = wipe σ vs)
    (turn : ∀ (i : Nat) (x y z : V) (H : Hp) (R : V → Hp → Prop), xs[i]? = some x → ys[i]? = some y → zs[i]? = some z → Same H1 H → (∀ H', Same H H' → R z H') → te (((wipe σ vs).set j (some x)).set k (some y)) H R) (hd : ∀ H', Same H1 H' → H' D = some (.lst zs) → Qd H') :
    ∃ W : Nat → Nat → Hp → Prop, (∃ m, W 0 m (upd H1 D (.lst []))) ∧ ∀ i m H, W i m H →
      ((RZ.ItzT K a b).stop i H ∧ Qd H) ∨ ((RZ.ItzT K a b).go i H ∧ ∃ Nx : Hp → Prop, (∀ H', Nx H' → ∃ m', m' < m ∧ W (i + 1) m' H') ∧ ∀ x H', (RZ.ItzT K a b).yld i H x H' → gTup K 2 (gCons (gName j) (gCons (gName k) gNil)) x (wipe σ vs) H' fun σ2 H2 => wipe σ2 vs = wipe σ vs ∧ tYes σ2 H2 fun b H3 =>
        if b = true then te σ2 H3 fun y H4 => ∃ acc, H4 D = some (.lst acc) ∧ acc.length < sizeLine ∧ Nx (upd H4 D (.lst (acc ++ [y]))) else Nx H3) := by
  refine ⟨fun i m H => m = xs.length - i ∧ i ≤ xs.length ∧ Same H1 H ∧ H D = some (.lst (zs.take i)), ⟨xs.length, rfl, Nat.zero_le _, grow nD, upd_same⟩, ?_⟩
  rintro i m H ⟨rfl, hi, sm, hD⟩
  have qa := keepT sm ha
  have qb := keepT sm hb
  by_cases lt : i < xs.length
  · have ly : i < ys.length := by omega
    have lz : i < zs.length := by omega
    refine .inr ⟨⟨xs, ys, xs[i], ys[i], qa, qb, List.getElem?_eq_getElem lt, List.getElem?_eq_getElem ly⟩, fun H' => Same H1 H' ∧ H' D = some (.lst (zs.take (i + 1))), fun H' p => ⟨xs.length - (i + 1), by omega, rfl, lt, p.1, p.2⟩, fun v H' yl => ?_⟩
    obtain ⟨T, x, y, rfl, nT, rfl, fx, fy⟩ := yl
    have ex : xs[i]? = some x := fx xs qa
    have ey : ys[i]? = some y := fy ys qb
    refine ⟨T, [x, y], rfl, SqT.of upd_same, rfl, x, [y], rfl, y, [], rfl, rfl, hw x y, ?_⟩
    unfold tYes
    dsimp only
    rw [if_pos rfl]
    have sT : Same H (upd H T (.tup [x, y])) := grow nT
    refine turn i x y zs[i] _ _ ex ey (List.getElem?_eq_getElem lz) (sm.trans sT) fun H' e => ⟨zs.take i, e _ _ (sT _ _ hD), ?_, ?_, ?_⟩
    · rw [List.length_take]; omega
    · intro c o h
      have hc : c ≠ D := ne_of_none h nD
      rw [upd_ne hc]
      exact e _ _ (sT _ _ (sm _ _ h))
    · rw [upd_same, List.take_add_one, List.getElem?_eq_getElem lz]
      rfl
  · have e : i = xs.length := by omega
    subst e
    refine .inl ⟨⟨xs, ys, qa, qb, .inl (Nat.le_refl _)⟩, hd H sm ?_⟩
    rw [hD, ← hzl, List.take_length]
end Fc

namespace Fc
open PySem PySem.Spec L2 PyProof.Rows
/-! ### lists that a def made itself -/
theorem keepT_lst {K : PySem.W.Frag} {H : Hp} {p t : Addr} {xs ys zs : List V} (h : SqT K H t xs) (e : H p = some (.lst ys)) : SqT K (upd H p (.lst zs)) t xs := by
  rcases h with (h | ⟨o, h⟩) | h
  · refine .inl (.inl ?_)
    rw [upd_ne (fun z => by rw [z, e] at h; cases h)]
    exact h
  · refine .inl (.inr ⟨o, ?_⟩)
    rw [upd_ne (fun z => by rw [z, e] at h; cases h)]
    exact h
  · exact .inr h
theorem keep_lst {H H' : Hp} {p : Addr} {zs : List V} (e : Same H H') (n : H p = none) : Same H (upd H' p (.lst zs)) := by
  intro b o h
  rw [upd_ne (ne_of_none h n)]
  exact e b o h
theorem got {ns : List Int} {i : Nat} {x : V} (h : (ns.map V.int)[i]? = some x) : ∃ n, ns[i]? = some n ∧ x = .int n := by
  rw [List.getElem?_map] at h
  cases e : ns[i]? with
  | none => rw [e] at h; cases h
  | some n =>
    rw [e] at h
    exact ⟨n, rfl, (Option.some.inj h).symm⟩
theorem drop_head {S : List Int} {k : Nat} {x : Int} {r : List Int} (h : S.drop k = x :: r) : S[k]? = some x := by
  have := congrArg (·[0]?) h
  simpa [List.getElem?_drop] using this
theorem drop_more {S : List Int} {k : Nat} {x : Int} {r : List Int} (h : S.drop k = x :: r) : S.drop (k + 1) = r := by
  have := congrArg (·.drop 1) h
  simpa [List.drop_drop] using this
/-! ### the bytes of a number -/
def numB (n : Int) : List Int := if 127 < n then (n % 128 + 128) :: numB (n / 128) else [n]
termination_by n.toNat
decreasing_by omega
theorem numB_big {n : Int} (h : 127 < n) : numB n = (n % 128 + 128) :: numB (n / 128) := by
  conv => lhs; rw [numB]
  rw [if_pos h]
theorem numB_small {n : Int} (h : ¬ 127 < n) : numB n = [n] := by
  rw [numB, if_neg h]
theorem numB_len : ∀ (k : Nat) (n : Int), 0 ≤ n → n < 128 ^ (k + 1) → (numB n).length ≤ k + 1
  | 0, n, h0, h1 => by
    have : n < 128 := h1
    rw [numB_small (by omega)]
    simp
  | k + 1, n, h0, h1 => by
    by_cases z : 127 < n
    · rw [numB_big z, List.length_cons]
      have e : (128 : Int) ^ (k + 1 + 1) = 128 ^ (k + 1) * 128 := Int.pow_succ _ _
      have := numB_len k (n / 128) (by omega) (by
        rw [e] at h1
        exact Int.ediv_lt_of_lt_mul (by decide) h1)
      omega
    · rw [numB_small z]
      simp
theorem numB_few {n : Int} (h0 : 0 ≤ n) (h1 : n < 4398046511104) : (numB n).length ≤ 6 := numB_len 5 n h0 (by
  have : (128 : Int) ^ (5 + 1) = 4398046511104 := by decide
  rw [this]
  exact h1)
/-! ### fixed bytes -/
def low : Nat → Int → List Int
  | 0, _ => []
  | k + 1, n => n % 256 :: low k (n / 256)
def sh : Nat → Int → Int
  | 0, n => n
  | k + 1, n => sh k (n / 256)
theorem low_len : ∀ (k : Nat) (n : Int), (low k n).length = k
  | 0, _ => rfl
  | k + 1, n => by rw [low, List.length_cons, low_len]
theorem low_more : ∀ (k : Nat) (n : Int), low (k + 1) n = low k n ++ [sh k n % 256]
  | 0, n => rfl
  | k + 1, n => by
    rw [low, low_more k (n / 256)]
    rfl
theorem sh_more : ∀ (k : Nat) (n : Int), sh (k + 1) n = sh k n / 256
  | 0, n => rfl
  | k + 1, n => by
    show sh (k + 1) (n / 256) = sh k (n / 256) / 256
    rw [sh_more k (n / 256)]
def val256 (l : List Int) : Int := l.foldl (fun x b => x * 256 + b) 0
theorem val_low : ∀ (k : Nat) (n : Int), 0 ≤ n → n < 256 ^ k → val256 (low k n).reverse = n
  | 0, n, h0, h1 => by
    have : n < 1 := h1
    show (0 : Int) = n
    omega
  | k + 1, n, h0, h1 => by
    have e : (256 : Int) ^ (k + 1) = 256 ^ k * 256 := Int.pow_succ _ _
    have ih := val_low k (n / 256) (by omega) (by
      rw [e] at h1
      exact Int.ediv_lt_of_lt_mul (by decide) h1)
    rw [low, List.reverse_cons]
    unfold val256 at ih ⊢
    rw [List.foldl_append, ih]
    show n / 256 * 256 + n % 256 = n
    omega
theorem val_take {l : List Int} {i : Nat} {x : Int} (h : l[i]? = some x) : val256 (l.take (i + 1)) = val256 (l.take i) * 256 + x := by
  unfold val256
  rw [List.take_add_one, h, Option.toList_some, List.foldl_append]
  rfl
end Fc

namespace Fc
open PySem PySem.Spec L2 PyProof.Rows
def topS (i : Nat) : Stmt := PySem.Challenge.pw_filecrate_k01_numbers.main.body.getD i (.Pass ⟨0, 0, 0, 0⟩)
abbrev sNumberBytes : Stmt := topS 6
abbrev nNumberBytes : List Str := ["n", "told", "left"]
theorem scNumberBytes : FnScope nNumberBytes ["n"] (defScope sNumberBytes) := ⟨rfl, rfl, rfl, by decide +kernel, rfl, by decide +kernel, by decide +kernel⟩
abbrev sReadNumber : Stmt := topS 7
abbrev nReadNumber : List Str := ["some", "at", "number", "worth", "place", "byte"]
theorem scReadNumber : FnScope nReadNumber ["some", "at"] (defScope sReadNumber) := ⟨rfl, rfl, rfl, by decide +kernel, rfl, by decide +kernel, by decide +kernel⟩
abbrev sFixedBytes : Stmt := topS 8
abbrev nFixedBytes : List Str := ["n", "many", "told", "left"]
theorem scFixedBytes : FnScope nFixedBytes ["n", "many"] (defScope sFixedBytes) := ⟨rfl, rfl, rfl, by decide +kernel, rfl, by decide +kernel, by decide +kernel⟩
abbrev sReadFixed : Stmt := topS 9
abbrev nReadFixed : List Str := ["some", "at", "many", "number", "place"]
theorem scReadFixed : FnScope nReadFixed ["some", "at", "many"] (defScope sReadFixed) := ⟨rfl, rfl, rfl, by decide +kernel, rfl, by decide +kernel, by decide +kernel⟩
abbrev sByteAt : Stmt := topS 10
abbrev nByteAt : List Str := ["some", "place"]
theorem scByteAt : FnScope nByteAt ["some", "place"] (defScope sByteAt) := ⟨rfl, rfl, rfl, by decide +kernel, rfl, by decide +kernel, by decide +kernel⟩
abbrev sLawD : Stmt := topS 12
abbrev nLawD : List Str := ["_law_cell", "_law_place", "_law_many", "_law_number_here"]
theorem scLawD : FnScope nLawD ["_law_cell", "_law_place", "_law_many"] (defScope sLawD) := ⟨rfl, rfl, rfl, by decide +kernel, rfl, by decide +kernel, by decide +kernel⟩
abbrev sLawSame : Stmt := topS 13
abbrev nLawSame : List Str := ["_law_told", "_law_due", "_law_one", "_law_other"]
theorem scLawSame : FnScope nLawSame ["_law_told", "_law_due"] (defScope sLawSame) := ⟨rfl, rfl, rfl, by decide +kernel, rfl, by decide +kernel, by decide +kernel⟩
abbrev sLawNumber : Stmt := topS 14
abbrev nLawNumber : List Str := ["_law_n", "_law_some"]
theorem scLawNumber : FnScope nLawNumber ["_law_n"] (defScope sLawNumber) := ⟨rfl, rfl, rfl, by decide +kernel, rfl, by decide +kernel, by decide +kernel⟩
abbrev sLawFixed : Stmt := topS 15
abbrev nLawFixed : List Str := ["_law_n", "_law_many", "_law_some", "_law_k"]
theorem scLawFixed : FnScope nLawFixed ["_law_n", "_law_many"] (defScope sLawFixed) := ⟨rfl, rfl, rfl, by decide +kernel, rfl, by decide +kernel, by decide +kernel⟩
abbrev sLaw : Stmt := topS 16
abbrev nLaw : List Str := ["_law_script", "_law_ahead", "_law_cell", "_law_n", "_law_due", "_law_some", "_law_many", "_law_power", "_law_one"]
theorem scLaw : FnScope nLaw ["_law_script"] (defScope sLaw) := ⟨rfl, rfl, rfl, by decide +kernel, rfl, by decide +kernel, by decide +kernel⟩
structure Env (K : PySem.W.Frag) (mg : Str → Option Value) : Prop where
  b_all : mg "all" = none
  b_bool : mg "bool" = none
  b_int : mg "int" = none
  b_isinstance : mg "isinstance" = none
  b_len : mg "len" = none
  b_max : mg "max" = none
  b_range : mg "range" = none
  b_str : mg "str" = none
  b_tuple : mg "tuple" = none
  b_zip : mg "zip" = none
  g_MOST_BYTES : ∃ t, mg "MOST_BYTES" = some (.int 6 t)

section
variable {P : Program} {w : World} {mg : Str → Option Value} {K : PySem.W.Frag} {base : Heap}
/-! ### a draw -/
def spD : Sp := fun vs H Q _ => ∃ c p m : Int, vs = [.int c, .int p, .int m] ∧ 0 ≤ p ∧ p < 1000 ∧ 0 < m ∧ ∀ d : Int, 0 ≤ d → d < m → Q (.int d) H
theorem ok_d {f : Addr} {fd : FuncData} (Ev : Env K mg) (F : Fun K "_law_d" "_law_d" sLawD f fd) : FnOk P w K mg base CX0 1 f fd ["_law_cell", "_law_place", "_law_many"] spD := by
  refine F.ok scLawD (fun vs H Q E h => ?_) (fun cdv A outer s H vs Q E hr h => ?_)
  · obtain ⟨c, p, m, rfl, _⟩ := h; rfl
  · obtain ⟨c, p, m, rfl, p0, p1, hm, q⟩ := h
    refine ⟨_, (pss_cons (ps_set (i := 3) scLawD.nd rfl (.inl rfl) (pe_op op_mod (pe_op op_add (pv 0) (pe_op op_mul pe_int (pv 1))) pe_int))
      (pss_cons (ps_set (i := 3) scLawD.nd rfl (.inl rfl) (pe_op op_mod (pe_op op_mul (pe_op op_mod (pe_op op_mul (pv 3) (pv 3)) pe_int) pe_int) pe_int))
      (pss_one (ps_ret (pe_op op_mod (pe_op op_fdiv (pv 3) pe_int) (pv 2)))))), ?_⟩
    refine ⟨_, rfl, _, rfl, _, _, rfl, rfl, .inl ⟨by decide, by decide⟩, _, _, rfl, rfl, _, 4294967291, rfl, rfl, (show (0 : Int) < 4294967291 by decide), ?_⟩
    have b := Int.emod_lt_of_pos (c + 104729 * p) (show (0 : Int) < 4294967291 by decide)
    have b' := Int.emod_nonneg (c + 104729 * p) (show (4294967291 : Int) ≠ 0 by decide)
    refine ⟨_, rfl, _, rfl, _, _, rfl, rfl, .inl ⟨by omega, by omega⟩, _, 4294967279, rfl, rfl, (show (0 : Int) < 4294967279 by decide), _, 48271, rfl, rfl, .inr ⟨by decide, by decide⟩, _, 4294967291, rfl, rfl, (show (0 : Int) < 4294967291 by decide), ?_⟩
    refine ⟨_, rfl, _, 64, rfl, rfl, ⟨by decide, by decide⟩, _, rfl, _, _, rfl, rfl, hm, q _ (Int.emod_nonneg _ (Int.ne_of_gt hm)) (Int.emod_lt_of_pos _ hm)⟩

/-! ### two whole numbers are the same -/
def spSame : Sp := fun vs H Q _ => ∃ x y : Int, vs = [.int x, .int y] ∧ Q (.bl (decide (x = y))) H
theorem ok_same {f : Addr} {fd : FuncData} (Ev : Env K mg) (F : Fun K "_law_same" "_law_same" sLawSame f fd) : FnOk P w K mg base CX0 1 f fd ["_law_told", "_law_due"] spSame := by
  refine F.ok scLawSame (fun vs H Q E h => ?_) (fun cdv A outer s H vs Q E hr h => ?_)
  · obtain ⟨x, y, rfl, _⟩ := h; rfl
  · obtain ⟨x, y, rfl, q⟩ := h
    refine ⟨_, (pss_cons (ps_if (pt_cmpR op_isN (pv 1) pe_non (nomark _))
        (pss_one (ps_ret (pe_cmpR op_isN (pv 0) pe_non (nomark _))))
        pss_nil)
      (pss_cons (ps_if (pt_val (pe_callB call_isi (by rfl) Ev.b_isinstance (by decide +kernel) (pa_cons (pv 1) (pa_cons (pe_btype (n := "bool") (by rfl) Ev.b_bool (by decide +kernel)) pa_nil))))
        (pss_one (ps_ret (pe_and (pe_callB call_isi (by rfl) Ev.b_isinstance (by decide +kernel) (pa_cons (pv 0) (pa_cons (pe_btype (n := "bool") (by rfl) Ev.b_bool (by decide +kernel)) pa_nil))) (pe_one (pe_cmpR op_eq (pv 0) (pv 1) (nomark _))))))
        pss_nil)
      (pss_cons (ps_if (pt_val (pe_callB call_isi (by rfl) Ev.b_isinstance (by decide +kernel) (pa_cons (pv 1) (pa_cons (pe_btype (n := "tuple") (by rfl) Ev.b_tuple (by decide +kernel)) pa_nil))))
        pss_never
        pss_nil)
      (pss_cons (ps_if (pt_val (pe_callB call_isi (by rfl) Ev.b_isinstance (by decide +kernel) (pa_cons (pv 1) (pa_cons (pe_btype (n := "str") (by rfl) Ev.b_str (by decide +kernel)) pa_nil))))
        (pss_one (ps_ret (pe_and (pe_callB call_isi (by rfl) Ev.b_isinstance (by decide +kernel) (pa_cons (pv 0) (pa_cons (pe_btype (n := "str") (by rfl) Ev.b_str (by decide +kernel)) pa_nil))) (pe_one (pe_cmpR op_eq (pv 0) (pv 1) (nomark _))))))
        pss_nil)
      (pss_one (ps_ret (pe_and (pe_callB call_isi (by rfl) Ev.b_isinstance (by decide +kernel) (pa_cons (pv 0) (pa_cons (pe_btype (n := "int") (by rfl) Ev.b_int (by decide +kernel)) pa_nil))) (pe_and (pe_not (pe_callB call_isi (by rfl) Ev.b_isinstance (by decide +kernel) (pa_cons (pv 0) (pa_cons (pe_btype (n := "bool") (by rfl) Ev.b_bool (by decide +kernel)) pa_nil)))) (pe_one (pe_cmpR op_eq (pv 0) (pv 1) (nomark _))))))))))), ?_⟩
    refine ⟨_, rfl, rfl, _, rfl, iteF ?_⟩
    refine ⟨.int y, rfl, _, _, _, _, false, rfl, .ty "bool", .base (.int _), k_ib, false, rfl, iteF ?_⟩
    refine ⟨.int y, rfl, _, _, _, _, false, rfl, .ty "tuple", .base (.int _), k_it, false, rfl, iteF ?_⟩
    refine ⟨.int y, rfl, _, _, _, _, false, rfl, .ty "str", .base (.int _), k_is', false, rfl, iteF ?_⟩
    refine ⟨.int x, rfl, _, _, _, _, true, rfl, .ty "int", .base (.int _), k_ii, true, rfl, iteT ?_⟩
    refine ⟨.int x, rfl, _, _, _, _, false, rfl, .ty "bool", .base (.int _), k_ib, false, rfl, true, rfl, iteT ?_⟩
    refine ⟨.int x, rfl, .int y, rfl, rfl, ?_⟩
    have e : decide (V.int x = V.int y) = decide (x = y) := by
      by_cases z : x = y
      · rw [z]; simp
      · rw [decide_eq_false z]; exact decide_eq_false fun k => z (V.int.inj k)
    rw [e]
    exact q

/-! ### two tuples of whole numbers that are alike -/
def spSameT (K : PySem.W.Frag) : Sp := fun vs H Q _ => ∃ (p r : Addr) (A : List Int), vs = [.ref p, .ref r] ∧ SqT K H p (A.map V.int) ∧ SqT K H r (A.map V.int) ∧ A.length ≤ 1000 ∧ ∀ H', Same H H' → Q (.bl true) H'
theorem ok_sameT {f : Addr} {fd : FuncData} (Ev : Env K mg) (CLawSame : Cal P w K mg base "_law_same" 1 ["_law_told", "_law_due"] spSame) (F : Fun K "_law_same" "_law_same" sLawSame f fd) : FnOk P w K mg base CX0 2 f fd ["_law_told", "_law_due"] (spSameT K) := by
  refine F.ok scLawSame (fun vs H Q E h => ?_) (fun cdv A outer s H vs Q E hr h => ?_)
  · obtain ⟨p, r, A, rfl, _⟩ := h; rfl
  · obtain ⟨p, r, B, rfl, hp, hq, few, q⟩ := h
    refine ⟨_, (pss_cons (ps_if (pt_cmpR op_isN (pv 1) pe_non (nomark _))
        (pss_one (ps_ret (pe_cmpR op_isN (pv 0) pe_non (nomark _))))
        pss_nil)
      (pss_cons (ps_if (pt_val (pe_callB call_isi (by rfl) Ev.b_isinstance (by decide +kernel) (pa_cons (pv 1) (pa_cons (pe_btype (n := "bool") (by rfl) Ev.b_bool (by decide +kernel)) pa_nil))))
        (pss_one (ps_ret (pe_and (pe_callB call_isi (by rfl) Ev.b_isinstance (by decide +kernel) (pa_cons (pv 0) (pa_cons (pe_btype (n := "bool") (by rfl) Ev.b_bool (by decide +kernel)) pa_nil))) (pe_one (pe_cmpR op_eq (pv 0) (pv 1) (nomark _))))))
        pss_nil)
      (pss_cons (ps_if (pt_val (pe_callB call_isi (by rfl) Ev.b_isinstance (by decide +kernel) (pa_cons (pv 1) (pa_cons (pe_btype (n := "tuple") (by rfl) Ev.b_tuple (by decide +kernel)) pa_nil))))
        (pss_cons (ps_if (PW.pt (pw_or (pt_not (pt_val (pe_callB call_isi (by rfl) Ev.b_isinstance (by decide +kernel) (pa_cons (pv 0) (pa_cons (pe_btype (n := "tuple") (by rfl) Ev.b_tuple (by decide +kernel)) pa_nil))))) (pw_or1 (pt_cmpR op_ne (pe_callB call_len_seq (by rfl) Ev.b_len PySem.boot_len (pa_cons (pv 0) pa_nil)) (pe_callB call_len_seq (by rfl) Ev.b_len PySem.boot_len (pa_cons (pv 1) pa_nil)) (nomark _)))))
          (pss_one (ps_ret pe_bl))
          pss_nil)
        (pss_one (ps_ret (pe_callB (cr_all rfl) (by rfl) Ev.b_all (by decide +kernel) (pa_cons (pe_lc (own := [("_law_one", 2), ("_law_other", 3)]) (g := gTup K 2 (gCons (gName 2) (gCons (gName 3) (gNil)))) (tt := tYes) (by rfl) scLawSame.nd (RZ.pi_zipA (by rfl) Ev.b_zip (pa_cons (pv 0) (pa_cons (pv 1) pa_nil))) (blkOk_by (own := [("_law_one", 2), ("_law_other", 3)]) (N := nLawSame) (sc := defScope sLawSame) (by decide +kernel)) (fun _ _ _ _ _ => (pg_tup (by rfl) (pgs_cons (pg_name (i := 2) scLawSame.nd rfl (.inl rfl)) (pgs_cons (pg_name (i := 3) scLawSame.nd rfl (.inl rfl)) pgs_nil)))) (fun _ _ _ _ _ => pts_nil) (fun _ _ _ _ _ => (pe_c CLawSame (hr.mono (by decide)) (pa_cons (pv 2) (pa_cons (pv 3) pa_nil))))) pa_nil)))))
        pss_nil)
      (pss_cons (ps_if (pt_val (pe_callB call_isi (by rfl) Ev.b_isinstance (by decide +kernel) (pa_cons (pv 1) (pa_cons (pe_btype (n := "str") (by rfl) Ev.b_str (by decide +kernel)) pa_nil))))
        (pss_one (ps_ret (pe_and (pe_callB call_isi (by rfl) Ev.b_isinstance (by decide +kernel) (pa_cons (pv 0) (pa_cons (pe_btype (n := "str") (by rfl) Ev.b_str (by decide +kernel)) pa_nil))) (pe_one (pe_cmpR op_eq (pv 0) (pv 1) (nomark _))))))
        pss_nil)
      (pss_one (ps_ret (pe_and (pe_callB call_isi (by rfl) Ev.b_isinstance (by decide +kernel) (pa_cons (pv 0) (pa_cons (pe_btype (n := "int") (by rfl) Ev.b_int (by decide +kernel)) pa_nil))) (pe_and (pe_not (pe_callB call_isi (by rfl) Ev.b_isinstance (by decide +kernel) (pa_cons (pv 0) (pa_cons (pe_btype (n := "bool") (by rfl) Ev.b_bool (by decide +kernel)) pa_nil)))) (pe_one (pe_cmpR op_eq (pv 0) (pv 1) (nomark _))))))))))), ?_⟩
    refine ⟨_, rfl, rfl, _, rfl, iteF ?_⟩
    refine ⟨.ref r, rfl, _, _, _, _, false, rfl, .ty "bool", ty_tup hq, k_tb, false, rfl, iteF ?_⟩
    refine ⟨.ref r, rfl, _, _, _, _, true, rfl, .ty "tuple", ty_tup hq, k_tt, true, rfl, iteT ?_⟩
    refine ⟨.ref p, rfl, _, _, _, _, true, rfl, .ty "tuple", ty_tup hp, k_tt, true, rfl, iteF ?_⟩
    refine ⟨_, rfl, p, _, rfl, .inr hp, _, rfl, r, _, rfl, .inr hq, rfl, _, rfl, iteNS rfl ?_⟩
    refine ⟨_, rfl, _, rfl, p, r, _, _, rfl, .inr ⟨hp, hq, fun D nD => ?_⟩⟩
    have lz : ((List.replicate B.length true).map V.bl).length = (B.map V.int).length := by rw [List.length_map, List.length_map, List.length_replicate]
    refine lc_zip (xs := B.map V.int) (ys := B.map V.int) (zs := (List.replicate B.length true).map V.bl) nD hp hq rfl lz ?_ (fun _ _ => rfl) (fun i x y z H2 R hx hy hz sm R1 => ?_) (fun H2 sm h2 => ?_)
    · exact Nat.le_of_lt (small1000 (by rw [List.length_map]; omega))
    · obtain ⟨n, hn, rfl⟩ := got hx
      have ey : y = .int n := Option.some.inj (hy.symm.trans hx)
      have ez : z = .bl true := by
        rw [List.getElem?_map] at hz
        cases e : (List.replicate B.length true)[i]? with
        | none => rw [e] at hz; cases hz
        | some b =>
          rw [e] at hz
          have eb : b = true := List.eq_of_mem_replicate (List.mem_of_getElem? e)
          rw [eb] at hz
          exact (Option.some.inj hz).symm
      subst ey ez
      refine ⟨_, rfl, _, rfl, n, n, rfl, ?_⟩
      rw [decide_eq_true rfl]
      exact R1 _ (Same.refl _)
    · refine ⟨D, List.replicate B.length true, rfl, SqL.of h2, ?_⟩
      have e : (List.replicate B.length true).all id = true := by
        rw [List.all_eq_true]
        intro b hb
        rw [List.eq_of_mem_replicate hb]
        rfl
      rw [e]
      exact q _ sm

/-! ### number_bytes -/
def spNumber (K : PySem.W.Frag) : Sp := fun vs H Q _ => ∃ n : Int, vs = [.int n] ∧ 0 ≤ n ∧ n < 4398046511104 ∧ Tups K H ((numB n).map V.int) Q
def wNum (H : Hp) (n : Int) (p : Addr) (m : Nat) (σ : L2.St) (H' : Hp) : Prop := ∃ (acc : List Int) (left : Int), σ = [some (.int n), some (.ref p), some (.int left)] ∧ m = left.toNat ∧ Same H H' ∧ H' p = some (.lst (acc.map V.int)) ∧ 0 ≤ left ∧ acc ++ numB left = numB n
theorem ok_number {f : Addr} {fd : FuncData} (Ev : Env K mg) (F : Fun K "number_bytes" "number_bytes" sNumberBytes f fd) : FnOk P w K mg base CX0 1 f fd ["n"] (spNumber K) := by
  refine F.ok scNumberBytes (fun vs H Q E h => ?_) (fun cdv A outer s H vs Q E hr h => ?_)
  · obtain ⟨n, rfl, _⟩ := h; rfl
  · obtain ⟨n, rfl, n0, n1, q⟩ := h
    have few := numB_few n0 n1
    refine ⟨_, (pss_cons (ps_set (i := 1) scNumberBytes.nd rfl (.inl rfl) (pe_lst pa_nil))
      (pss_cons (ps_set (i := 2) scNumberBytes.nd rfl (.inl rfl) (pv 0))
      (pss_cons (ps_while PassesOwn.never (pt_cmpR op_gt (pv 2) pe_int (nomark _))
        (pss_cons (ps_expr (pe_bm PySem.F.plainAttrs_list PySem.F.slot_list_append PySem.F.type_list_append mt_append (pv 1) (pa_cons (pe_op op_add (pe_op op_mod (pv 2) pe_int) pe_int) pa_nil)))
        (pss_one (ps_set (i := 2) scNumberBytes.nd rfl (.inl rfl) (pe_op op_fdiv (pv 2) pe_int)))))
      (pss_cons (ps_expr (pe_bm PySem.F.plainAttrs_list PySem.F.slot_list_append PySem.F.type_list_append mt_append (pv 1) (pa_cons (pv 2) pa_nil)))
      (pss_one (ps_ret (pe_callTy call_tupleU (by rfl) Ev.b_tuple (by decide +kernel) (pa_cons (pv 1) pa_nil)))))))), ?_⟩
    refine ⟨Nat.zero_le _, fun p np => ?_⟩
    refine ⟨_, rfl, ?_⟩
    refine ⟨wNum H n p, ⟨_, [], n, rfl, rfl, grow np, upd_same, n0, rfl⟩, fun m σ H' hW => ?_⟩
    obtain ⟨acc, left, rfl, rfl, sm, hp, l0, ea⟩ := hW
    have la : acc.length + (numB left).length ≤ 6 := by
      rw [← List.length_append, ea]
      exact few
    refine ⟨_, rfl, _, _, rfl, rfl, _, rfl, ite2 (fun z => ?_) (fun z => ?_)⟩
    · have big : 127 < left := of_decide_eq_true z
      refine ⟨fun σ' H'' => ∃ m', m' < left.toNat ∧ wNum H n p m' σ' H'', fun σ' H'' h => h, ?_⟩
      refine ⟨_, rfl, .inl ⟨rfl, _, SqL.of hp⟩, _, rfl, _, 128, rfl, rfl, (show (0 : Int) < 128 by decide), _, _, rfl, rfl, p, _, _, rfl, rfl, hp, ?_, ?_⟩
      · exact small1000 (by rw [List.length_map]; omega)
      refine ⟨_, rfl, _, 128, rfl, rfl, ⟨by decide, by decide⟩, (left / 128).toNat, by omega, acc ++ [left % 128 + 128], left / 128, rfl, rfl, keep_lst sm np, ?_, by omega, ?_⟩
      · rw [upd_same, List.map_append]
        rfl
      · rw [← ea, numB_big big, List.append_assoc]
        rfl
    · have small : ¬ 127 < left := fun k => z (decide_eq_true k)
      refine ⟨_, rfl, .inl ⟨rfl, _, SqL.of hp⟩, _, rfl, p, _, _, rfl, rfl, hp, ?_, ?_⟩
      · exact small1000 (by rw [List.length_map]; omega)
      rw [numB_small small] at ea
      have h5 : SqL K (upd H' p (.lst (acc.map V.int ++ [V.int left]))) p ((numB n).map V.int) := by
        rw [← ea, List.map_append]
        exact SqL.of upd_same
      exact ⟨_, rfl, p, _, rfl, h5, fun H3 t s3 h3 => q _ _ ((keep_lst sm np).trans s3) h3⟩
/-! ### byte_at, read_number -/
def spByte (K : PySem.W.Frag) : Sp := fun vs H Q _ => ∃ (p : Addr) (S : List Int) (k : Nat) (x : Int), vs = [.ref p, .int (k : Int)] ∧ SqT K H p (S.map V.int) ∧ S[k]? = some x ∧ Q (.int x) H
theorem ok_byte {f : Addr} {fd : FuncData} (Ev : Env K mg) (F : Fun K "byte_at" "byte_at" sByteAt f fd) : FnOk P w K mg base CX0 1 f fd ["some", "place"] (spByte K) := by
  refine F.ok scByteAt (fun vs H Q E h => ?_) (fun cdv A outer s H vs Q E hr h => ?_)
  · obtain ⟨p, S, k, x, rfl, _⟩ := h; rfl
  · obtain ⟨p, S, k, x, rfl, hp, hk, q⟩ := h
    have lk : k < S.length := (List.getElem?_eq_some_iff.mp hk).1
    have gk : (S.map V.int)[k]? = some (.int x) := by rw [List.getElem?_map, hk]; rfl
    refine ⟨_, (pss_cons (ps_if (PW.pt (pw_or (pt_cmpR op_lt (pv 1) pe_int (nomark _)) (pw_or1 (pt_cmpR op_ge (pv 1) (pe_callB call_len_seq (by rfl) Ev.b_len PySem.boot_len (pa_cons (pv 0) pa_nil)) (nomark _)))))
        (pss_one (ps_never))
        pss_nil)
      (pss_one (ps_ret (pe_ix ix_tup (pv 0) (pv 1) (fun _ _ => rfl))))), ?_⟩
    refine ⟨_, rfl, _, _, rfl, rfl, _, rfl, ite2 (fun z => ?_) (fun _ => ?_)⟩
    · have := of_decide_eq_true z
      omega
    refine ⟨_, rfl, _, rfl, p, _, rfl, .inr hp, _, _, rfl, rfl, _, rfl, ite2 (fun z => ?_) (fun _ => ?_)⟩
    · have := of_decide_eq_true z
      rw [List.length_map] at this
      omega
    exact ⟨_, rfl, _, rfl, p, _, _, _, rfl, rfl, hp, atI_nat gk, q⟩
def spRead (K : PySem.W.Frag) : Sp := fun vs H Q _ => ∃ (p : Addr) (S C : List Int) (at_ : Nat) (n : Int), vs = [.ref p, .int (at_ : Int)] ∧ SqT K H p (S.map V.int) ∧ 0 ≤ n ∧ n < 4398046511104 ∧ S.drop at_ = numB n ++ C ∧ Tups K H [.int n, .int ((at_ + (numB n).length : Nat) : Int)] Q
def hdB (n : Int) : Int := if 127 < n then n % 128 + 128 else n
theorem numB_hd (n : Int) (C : List Int) : ∃ r, numB n ++ C = hdB n :: r := by
  unfold hdB
  by_cases z : 127 < n
  · rw [numB_big z, if_pos z]
    exact ⟨_, rfl⟩
  · rw [numB_small z, if_neg z]
    exact ⟨_, rfl⟩
def wRead (H : Hp) (p : Addr) (S C : List Int) (at_ : Nat) (n : Int) (m : Nat) (σ : L2.St) (H' : Hp) : Prop :=
  ∃ (k : Nat) (left num worth : Int), σ = [some (.ref p), some (.int (at_ : Int)), some (.int num), some (.int worth), some (.int ((at_ + k : Nat) : Int)), some (.int (hdB left))] ∧ H' = H ∧ m = left.toNat ∧ 0 ≤ left ∧ num + left * worth = n ∧ worth = 128 ^ k ∧ 0 ≤ num ∧ k ≤ 5 ∧ S.drop (at_ + k) = numB left ++ C ∧ (0 < k → 0 < left) ∧ k + (numB left).length = (numB n).length
theorem ok_read {f : Addr} {fd : FuncData} (Ev : Env K mg) (CByteAt : Cal P w K mg base "byte_at" 1 ["some", "place"] (spByte K)) (F : Fun K "read_number" "read_number" sReadNumber f fd) : FnOk P w K mg base CX0 2 f fd ["some", "at"] (spRead K) := by
  refine F.ok scReadNumber (fun vs H Q E h => ?_) (fun cdv A outer s H vs Q E hr h => ?_)
  · obtain ⟨p, S, C, at_, n, rfl, _⟩ := h; rfl
  · obtain ⟨p, S, C, at_, n, rfl, hp, n0, n1, hS, q⟩ := h
    have few := numB_few n0 n1
    obtain ⟨r0, e0⟩ := numB_hd n C
    refine ⟨_, (pss_cons (ps_set (i := 2) scReadNumber.nd rfl (.inl rfl) pe_int)
      (pss_cons (ps_set (i := 3) scReadNumber.nd rfl (.inl rfl) pe_int)
      (pss_cons (ps_set (i := 4) scReadNumber.nd rfl (.inl rfl) (pv 1))
      (pss_cons (ps_set (i := 5) scReadNumber.nd rfl (.inl rfl) (pe_c CByteAt (hr.mono (by decide)) (pa_cons (pv 0) (pa_cons (pv 4) pa_nil))))
      (pss_cons (ps_while PassesOwn.never (pt_cmpR op_gt (pv 5) pe_int (nomark _))
        (pss_cons (ps_if (pt_cmpR op_eq (pe_op op_add (pe_op op_sub (pv 4) (pv 1)) pe_int) (pe_globI (by rfl) Ev.g_MOST_BYTES) (nomark _))
          (pss_one (ps_never))
          pss_nil)
        (pss_cons (ps_aug (i := 2) scReadNumber.nd rfl (.inl rfl) (pe_op op_mul (pe_op op_sub (pv 5) pe_int) (pv 3)) ip_add)
        (pss_cons (ps_set (i := 3) scReadNumber.nd rfl (.inl rfl) (pe_op op_mul (pv 3) pe_int))
        (pss_cons (ps_aug (i := 4) scReadNumber.nd rfl (.inl rfl) pe_int ip_add)
        (pss_one (ps_set (i := 5) scReadNumber.nd rfl (.inl rfl) (pe_c CByteAt (hr.mono (by decide)) (pa_cons (pv 0) (pa_cons (pv 4) pa_nil))))))))))
      (pss_cons (ps_if (PW.pt (pw_and (pt_cmpR op_eq (pv 5) pe_int (nomark _)) (pw_and1 (pt_cmpR op_gt (pv 4) (pv 1) (nomark _)))))
        (pss_one (ps_never))
        pss_nil)
      (pss_one (ps_ret (pe_tupU (pa_cons (pe_op op_add (pv 2) (pe_op op_mul (pv 5) (pv 3))) (pa_cons (pe_op op_add (pv 4) pe_int) pa_nil))))))))))), ?_⟩
    refine ⟨_, rfl, ?_⟩
    refine ⟨_, rfl, _, rfl, p, S, at_, _, rfl, hp, drop_head (hS.trans e0), ?_⟩
    refine ⟨wRead H p S C at_ n, ⟨_, 0, n, 0, 1, rfl, rfl, rfl, n0, by omega, rfl, by decide, by decide, hS, fun z => absurd z (by decide), by omega⟩, fun m σ H' hW => ?_⟩
    obtain ⟨k, left, num, worth, rfl, rfl, rfl, l0, en, ew, num0, k5, hd, hk, hl⟩ := hW
    have wpos : 0 < worth := by
      rw [ew]
      exact Int.pow_pos (by decide)
    refine ⟨_, rfl, _, _, rfl, rfl, _, rfl, ite2 (fun z => ?_) (fun z => ?_)⟩
    · have big : 127 < left := by
        have z' : 127 < hdB left := of_decide_eq_true z
        unfold hdB at z'
        split at z'
        · assumption
        · exact z'
      have ehd : hdB left = left % 128 + 128 := by
        unfold hdB
        rw [if_pos big]
      have k4 : k ≤ 4 := by
        have l1 : 1 ≤ (numB (left / 128)).length := by
          obtain ⟨r, e⟩ := numB_hd (left / 128) []
          rw [List.append_nil] at e
          rw [e]
          simp
        rw [numB_big big, List.length_cons] at hl
        omega
      refine ⟨fun σ' H'' => ∃ m', m' < left.toNat ∧ wRead H' p S C at_ n m' σ' H'', fun σ' H'' h => h, ?_⟩
      refine ⟨_, rfl, _, rfl, _, _, rfl, rfl, _, _, rfl, rfl, rfl, _, rfl, ite2 (fun y => ?_) (fun _ => ?_)⟩
      · have := V.int.inj (of_decide_eq_true y)
        omega
      have hb : 128 ≤ hdB left ∧ hdB left < 256 := by
        rw [ehd]
        omega
      refine ⟨_, rfl, _, rfl, _, _, rfl, rfl, _, rfl, _, _, rfl, rfl, .inl ⟨by omega, by omega⟩, _, _, rfl, rfl, ?_⟩
      refine ⟨_, rfl, _, _, rfl, rfl, .inr ⟨by decide, by decide⟩, ?_⟩
      refine ⟨_, rfl, _, _, rfl, rfl, ?_⟩
      have ep : ((at_ + k : Nat) : Int) + 1 = ((at_ + (k + 1) : Nat) : Int) := by omega
      have hd2 : S.drop (at_ + (k + 1)) = numB (left / 128) ++ C := by
        rw [numB_big big] at hd
        exact drop_more hd
      obtain ⟨r1, e1⟩ := numB_hd (left / 128) C
      refine ⟨_, rfl, _, rfl, p, S, at_ + (k + 1), _, (by show [V.ref p, V.int (((at_ + k : Nat) : Int) + 1)] = _; rw [ep]), hp, drop_head (hd2.trans e1), ?_⟩
      refine ⟨(left / 128).toNat, by omega, k + 1, left / 128, num + (hdB left - 128) * worth, worth * 128, (by show [_, _, _, _, some (V.int (((at_ + k : Nat) : Int) + 1)), _] = _; rw [ep]), rfl, rfl, by omega, ?_, ?_, ?_, by omega, hd2, fun _ => by omega, ?_⟩
      · rw [← en, ehd]
        have d : left = 128 * (left / 128) + left % 128 := by omega
        have e3 : left * worth = (left / 128) * (worth * 128) + (left % 128) * worth := by
          conv => lhs; rw [d]
          rw [Int.add_mul, Int.mul_comm 128 (left / 128), Int.mul_assoc, Int.mul_comm 128 worth]
        rw [e3, show left % 128 + 128 - 128 = left % 128 by omega]
        omega
      · rw [ew, Int.pow_succ]
      · have : 0 ≤ (hdB left - 128) * worth := Int.mul_nonneg (by omega) (by omega)
        omega
      · rw [numB_big big, List.length_cons] at hl
        omega
    · have small : ¬ 127 < left := fun y => z (decide_eq_true (by
        unfold hdB
        rw [if_pos y]
        omega))
      have ehd : hdB left = left := by
        unfold hdB
        rw [if_neg small]
      rw [numB_small small] at hl
      have last : ∀ (b : Bool), (b = true → False) → b = false := fun b h => by cases b; rfl; exact absurd rfl h
      have wl : left * worth ≤ n := by omega
      refine ⟨_, rfl, rfl, _, rfl, ite2 (fun y => ?_) (fun _ => iteF ?_)⟩
      · have y0 : left = 0 := by
          have := V.int.inj (of_decide_eq_true y)
          rw [ehd] at this
          exact this
        refine ⟨_, rfl, _, rfl, _, _, rfl, rfl, _, rfl, ite2 (fun x => ?_) (fun _ => ?_)⟩
        · have := of_decide_eq_true x
          have hk' : 0 < k := by omega
          have := hk hk'
          omega
        · have t := q
          refine ⟨_, rfl, _, rfl, _, rfl, _, _, rfl, rfl, .inl ⟨by rw [ehd]; omega, by rw [ehd]; omega⟩, _, _, rfl, rfl, _, rfl, _, _, rfl, rfl, (show 2 ≤ sizeLine by rw [sizeLine_eq]; decide), fun H3 t3 s3 h3 => q _ _ s3 ?_⟩
          rw [ehd] at h3
          simp only [List.length_cons, List.length_nil] at hl
          rw [← hl, ← en]
          exact h3
      · refine ⟨_, rfl, _, rfl, _, rfl, _, _, rfl, rfl, .inl ⟨by rw [ehd]; omega, by rw [ehd]; omega⟩, _, _, rfl, rfl, _, rfl, _, _, rfl, rfl, (show 2 ≤ sizeLine by rw [sizeLine_eq]; decide), fun H3 t3 s3 h3 => q _ _ s3 ?_⟩
        rw [ehd] at h3
        simp only [List.length_cons, List.length_nil] at hl
        rw [← hl, ← en]
        exact h3
/-! ### fixed_bytes, read_fixed -/
def spFixed (K : PySem.W.Frag) : Sp := fun vs H Q _ => ∃ (n : Int) (k : Nat), vs = [.int n, .int (k : Int)] ∧ k ≤ 6 ∧ Tups K H ((low k n).reverse.map V.int) Q
def wFix (H : Hp) (n : Int) (k : Nat) (p : Addr) (m : Nat) (σ : L2.St) (H' : Hp) : Prop := ∃ j : Nat, σ = [some (.int n), some (.int (k : Int)), some (.ref p), some (.int (sh j n))] ∧ m = k - j ∧ j ≤ k ∧ Same H H' ∧ H' p = some (.lst ((low j n).map V.int))
theorem ok_fixed {f : Addr} {fd : FuncData} (Ev : Env K mg) (F : Fun K "fixed_bytes" "fixed_bytes" sFixedBytes f fd) : FnOk P w K mg base CX0 1 f fd ["n", "many"] (spFixed K) := by
  refine F.ok scFixedBytes (fun vs H Q E h => ?_) (fun cdv A outer s H vs Q E hr h => ?_)
  · obtain ⟨n, k, rfl, _⟩ := h; rfl
  · obtain ⟨n, k, rfl, k6, q⟩ := h
    refine ⟨_, (pss_cons (ps_set (i := 2) scFixedBytes.nd rfl (.inl rfl) (pe_lst pa_nil))
      (pss_cons (ps_set (i := 3) scFixedBytes.nd rfl (.inl rfl) (pv 0))
      (pss_cons (ps_while PassesOwn.never (pt_cmpR op_lt (pe_callB call_len_seq (by rfl) Ev.b_len PySem.boot_len (pa_cons (pv 2) pa_nil)) (pv 1) (nomark _))
        (pss_cons (ps_expr (pe_bm PySem.F.plainAttrs_list PySem.F.slot_list_append PySem.F.type_list_append mt_append (pv 2) (pa_cons (pe_op op_mod (pv 3) pe_int) pa_nil)))
        (pss_one (ps_set (i := 3) scFixedBytes.nd rfl (.inl rfl) (pe_op op_fdiv (pv 3) pe_int)))))
      (pss_one (ps_ret (pe_callTy call_tupleU (by rfl) Ev.b_tuple (by decide +kernel) (pa_cons (pe_revL (pv 2)) pa_nil))))))), ?_⟩
    refine ⟨Nat.zero_le _, fun p np => ?_⟩
    refine ⟨_, rfl, ?_⟩
    refine ⟨wFix H n k p, ⟨_, 0, rfl, rfl, Nat.zero_le _, grow np, upd_same⟩, fun m σ H' hW => ?_⟩
    obtain ⟨j, rfl, rfl, hj, sm, hp⟩ := hW
    refine ⟨_, rfl, p, _, rfl, .inl (SqL.of hp), _, rfl, _, _, rfl, rfl, _, rfl, ite2 (fun z => ?_) (fun z => ?_)⟩
    · have lt : j < k := by
        have := of_decide_eq_true z
        rw [List.length_map, low_len] at this
        omega
      refine ⟨fun σ' H'' => ∃ m', m' < k - j ∧ wFix H n k p m' σ' H'', fun σ' H'' h => h, ?_⟩
      refine ⟨_, rfl, .inl ⟨rfl, _, SqL.of hp⟩, _, rfl, _, 256, rfl, rfl, (show (0 : Int) < 256 by decide), p, _, _, rfl, rfl, hp, ?_, ?_⟩
      · exact small1000 (by rw [List.length_map, low_len]; omega)
      refine ⟨_, rfl, _, 256, rfl, rfl, ⟨by decide, by decide⟩, k - (j + 1), by omega, j + 1, ?_, rfl, lt, keep_lst sm np, ?_⟩
      · rw [sh_more]
        rfl
      · rw [upd_same, low_more, List.map_append]
        rfl
    · have ej : j = k := by
        have : ¬ (((low j n).map V.int).length : Int) < (k : Int) := fun y => z (decide_eq_true y)
        rw [List.length_map, low_len] at this
        omega
      subst ej
      refine ⟨_, rfl, p, _, rfl, SqL.of hp, fun p2 n2 => ?_⟩
      have h5 : SqL K (upd H' p2 (.lst ((low j n).map V.int).reverse)) p2 ((low j n).reverse.map V.int) := by
        rw [List.map_reverse]
        exact SqL.of upd_same
      exact ⟨p2, _, rfl, h5, fun H3 t s3 h3 => q _ _ (sm.trans ((grow n2).trans s3)) h3⟩
def spReadF (K : PySem.W.Frag) : Sp := fun vs H Q _ => ∃ (p : Addr) (S C : List Int) (at_ k : Nat) (n : Int), vs = [.ref p, .int (at_ : Int), .int (k : Int)] ∧ SqT K H p (S.map V.int) ∧ at_ ≤ 1000000 ∧ k ≤ 6 ∧ 0 ≤ n ∧ n < 256 ^ k ∧ S.drop at_ = (low k n).reverse ++ C ∧ Tups K H [.int n, .int ((at_ + k : Nat) : Int)] Q
theorem ok_readF {f : Addr} {fd : FuncData} (Ev : Env K mg) (CByteAt : Cal P w K mg base "byte_at" 1 ["some", "place"] (spByte K)) (F : Fun K "read_fixed" "read_fixed" sReadFixed f fd) : FnOk P w K mg base CX0 2 f fd ["some", "at", "many"] (spReadF K) := by
  refine F.ok scReadFixed (fun vs H Q E h => ?_) (fun cdv A outer s H vs Q E hr h => ?_)
  · obtain ⟨p, S, C, at_, k, n, rfl, _⟩ := h; rfl
  · obtain ⟨p, S, C, at_, k, n, rfl, hp, a6, k6, n0, n1, hS, q⟩ := h
    have lf : (low k n).reverse.length = k := by rw [List.length_reverse, low_len]
    refine ⟨_, (pss_cons (ps_set (i := 3) scReadFixed.nd rfl (.inl rfl) pe_int)
      (pss_cons (ps_for PassesOwn.never rfl (pi_range2 (by rfl) Ev.b_range (pa_cons (pv 1) (pa_cons (pe_op op_add (pv 1) (pv 2)) pa_nil))) (pg_name (i := 4) scReadFixed.nd rfl (.inl rfl))
        (pss_one (ps_set (i := 3) scReadFixed.nd rfl (.inl rfl) (pe_op op_add (pe_op op_mul (pv 3) pe_int) (pe_c CByteAt (hr.mono (by decide)) (pa_cons (pv 0) (pa_cons (pv 4) pa_nil)))))))
      (pss_one (ps_ret (pe_tupU (pa_cons (pv 3) (pa_cons (pe_op op_add (pv 1) (pv 2)) pa_nil))))))), ?_⟩
    refine ⟨_, rfl, _, rfl, _, rfl, _, _, rfl, rfl, _, _, rfl, ⟨by omega, by omega, by omega, by omega⟩, for_range (lo := (at_ : Int)) (fun i σ H' => ∃ y, σ = [some (.ref p), some (.int (at_ : Int)), some (.int (k : Int)), some (.int (val256 ((low k n).reverse.take i))), y] ∧ H' = H) ⟨none, rfl, rfl⟩ (fun i σ H' hi p' => ?_) (fun σ H' p' => ?_)⟩
    · obtain ⟨y, rfl, rfl⟩ := p'
      have ik : i < k := by omega
      have il : i < (low k n).reverse.length := by omega
      have gi : (low k n).reverse[i]? = some (low k n).reverse[i] := List.getElem?_eq_getElem il
      have gS : S[at_ + i]? = some (low k n).reverse[i] := by
        have := congrArg (·[i]?) hS
        simp only [List.getElem?_drop] at this
        rw [this, List.getElem?_append_left il, gi]
      have ep : (at_ : Int) + (i : Int) = ((at_ + i : Nat) : Int) := by omega
      rw [ep]
      refine ⟨_, rfl, _, _, rfl, rfl, .inr ⟨by decide, by decide⟩, _, rfl, _, rfl, p, S, at_ + i, _, rfl, hp, gS, _, _, rfl, rfl, some (.int ((at_ + i : Nat) : Int)), ?_, rfl⟩
      rw [val_take gi]
      rfl
    · obtain ⟨y, rfl, rfl⟩ := p'
      refine ⟨_, rfl, _, rfl, _, rfl, _, _, rfl, rfl, (show 2 ≤ sizeLine by rw [sizeLine_eq]; decide), fun H3 t3 s3 h3 => q _ _ s3 ?_⟩
      have en : ((at_ : Int) + (k : Int) - (at_ : Int)).toNat = k := by omega
      have ev : val256 ((low k n).reverse.take ((at_ : Int) + (k : Int) - (at_ : Int)).toNat) = n := by
        rw [en, List.take_of_length_le (by omega)]
        exact val_low k n n0 n1
      rw [ev] at h3
      have ep : ((at_ + k : Nat) : Int) = (at_ : Int) + (k : Int) := by omega
      rw [ep]
      exact h3
/-! ### the law's own bytes -/
def wLNum (K : PySem.W.Frag) (H : Hp) (n : Int) (m : Nat) (σ : L2.St) (H' : Hp) : Prop := ∃ (acc : List Int) (left : Int) (t : Addr), σ = [some (.int left), some (.ref t)] ∧ m = left.toNat ∧ Same H H' ∧ SqT K H' t (acc.map V.int) ∧ 0 ≤ left ∧ acc ++ numB left = numB n
theorem ok_lnum {f : Addr} {fd : FuncData} (Ev : Env K mg) (F : Fun K "_law_number" "_law_number" sLawNumber f fd) : FnOk P w K mg base CX0 1 f fd ["_law_n"] (spNumber K) := by
  refine F.ok scLawNumber (fun vs H Q E h => ?_) (fun cdv A outer s H vs Q E hr h => ?_)
  · obtain ⟨n, rfl, _⟩ := h; rfl
  · obtain ⟨n, rfl, n0, n1, q⟩ := h
    have few := numB_few n0 n1
    refine ⟨_, (pss_cons (ps_set (i := 1) scLawNumber.nd rfl (.inl rfl) (pe_tupU pa_nil))
      (pss_cons (ps_while PassesOwn.never (pt_cmpR op_gt (pv 0) pe_int (nomark _))
        (pss_cons (ps_set (i := 1) scLawNumber.nd rfl (.inl rfl) (pe_op op_catU (pv 1) (pe_tupU (pa_cons (pe_op op_add (pe_op op_mod (pv 0) pe_int) pe_int) pa_nil))))
        (pss_one (ps_set (i := 0) scLawNumber.nd rfl (.inl rfl) (pe_op op_fdiv (pv 0) pe_int)))))
      (pss_one (ps_ret (pe_op op_catU (pv 1) (pe_tupU (pa_cons (pv 0) pa_nil))))))), ?_⟩
    refine ⟨Nat.zero_le _, fun H1 t1 s1 h1 => ?_⟩
    refine ⟨wLNum K H n, ⟨_, [], n, t1, rfl, rfl, s1, h1, n0, rfl⟩, fun m σ H' hW => ?_⟩
    obtain ⟨acc, left, t, rfl, rfl, sm, ht, l0, ea⟩ := hW
    have la : acc.length + (numB left).length ≤ 6 := by
      rw [← List.length_append, ea]
      exact few
    have one : (1 : Nat) ≤ sizeLine := by rw [sizeLine_eq]; decide
    refine ⟨_, rfl, _, _, rfl, rfl, _, rfl, ite2 (fun z => ?_) (fun z => ?_)⟩
    · have big : 127 < left := of_decide_eq_true z
      refine ⟨fun σ' H'' => ∃ m', m' < left.toNat ∧ wLNum K H n m' σ' H'', fun σ' H'' h => h, ?_⟩
      refine ⟨_, rfl, _, rfl, _, 128, rfl, rfl, (show (0 : Int) < 128 by decide), _, _, rfl, rfl, one, fun H2 t2 s2 h2 => ?_⟩
      refine ⟨t, t2, _, _, rfl, rfl, keepT s2 ht, h2, ?_, fun H3 t3 s3 h3 => ?_⟩
      · exact Nat.le_of_lt (small1000 (by rw [List.length_map]; simp only [List.length_cons, List.length_nil]; omega))
      refine ⟨_, rfl, _, 128, rfl, rfl, ⟨by decide, by decide⟩, (left / 128).toNat, by omega, acc ++ [left % 128 + 128], left / 128, t3, rfl, rfl, sm.trans (s2.trans s3), ?_, by omega, ?_⟩
      · rw [List.map_append]
        exact h3
      · rw [← ea, numB_big big, List.append_assoc]
        rfl
    · have small : ¬ 127 < left := fun k => z (decide_eq_true k)
      rw [numB_small small] at ea
      refine ⟨_, rfl, _, rfl, one, fun H2 t2 s2 h2 => ?_⟩
      refine ⟨t, t2, _, _, rfl, rfl, keepT s2 ht, h2, ?_, fun H3 t3 s3 h3 => q _ _ (sm.trans (s2.trans s3)) ?_⟩
      · exact Nat.le_of_lt (small1000 (by rw [List.length_map]; simp only [List.length_cons, List.length_nil]; omega))
      · rw [← ea, List.map_append]
        exact h3
theorem ok_lfix {f : Addr} {fd : FuncData} (Ev : Env K mg) (F : Fun K "_law_fixed" "_law_fixed" sLawFixed f fd) : FnOk P w K mg base CX0 1 f fd ["_law_n", "_law_many"] (spFixed K) := by
  refine F.ok scLawFixed (fun vs H Q E h => ?_) (fun cdv A outer s H vs Q E hr h => ?_)
  · obtain ⟨n, k, rfl, _⟩ := h; rfl
  · obtain ⟨n, k, rfl, k6, q⟩ := h
    refine ⟨_, (pss_cons (ps_set (i := 2) scLawFixed.nd rfl (.inl rfl) (pe_tupU pa_nil))
      (pss_cons (ps_for PassesOwn.never rfl (pi_range1 (by rfl) Ev.b_range (pa_cons (pv 1) pa_nil)) (pg_name (i := 3) scLawFixed.nd rfl (.inl rfl))
        (pss_cons (ps_set (i := 2) scLawFixed.nd rfl (.inl rfl) (pe_op op_catU (pe_tupU (pa_cons (pe_op op_mod (pv 0) pe_int) pa_nil)) (pv 2)))
        (pss_one (ps_set (i := 0) scLawFixed.nd rfl (.inl rfl) (pe_op op_fdiv (pv 0) pe_int)))))
      (pss_one (ps_ret (pv 2))))), ?_⟩
    refine ⟨Nat.zero_le _, fun H1 t1 s1 h1 => ?_⟩
    refine ⟨_, rfl, _, rfl, by omega, by omega, for_range (lo := 0) (fun i σ H' => ∃ (t : Addr) (y : Option V), σ = [some (.int (sh i n)), some (.int (k : Int)), some (.ref t), y] ∧ Same H H' ∧ SqT K H' t ((low i n).reverse.map V.int)) ⟨t1, none, rfl, s1, h1⟩ (fun i σ H' hi p => ?_) (fun σ H' p => ?_)⟩
    · obtain ⟨t, y, rfl, sm, ht⟩ := p
      have ik : i < 6 := by omega
      refine ⟨_, rfl, _, 256, rfl, rfl, (show (0 : Int) < 256 by decide), (show 1 ≤ sizeLine by rw [sizeLine_eq]; decide), fun H2 t2 s2 h2 => ?_⟩
      refine ⟨_, rfl, t2, t, _, _, rfl, rfl, h2, keepT s2 ht, ?_, fun H3 t3 s3 h3 => ?_⟩
      · exact Nat.le_of_lt (small1000 (by rw [List.length_map, List.length_reverse, low_len]; simp only [List.length_cons, List.length_nil]; omega))
      refine ⟨_, rfl, _, 256, rfl, rfl, ⟨by decide, by decide⟩, t3, some (.int (0 + (i : Int))), ?_, sm.trans (s2.trans s3), ?_⟩
      · rw [sh_more]
        rfl
      · rw [low_more, List.reverse_append]
        exact h3
    · obtain ⟨t, y, rfl, sm, ht⟩ := p
      refine ⟨_, rfl, q _ _ sm ?_⟩
      rw [Int.toNat_natCast] at ht
      exact ht
/-! ### the law -/
def spLaw (K : PySem.W.Frag) : Sp := fun vs H Q _ => ∃ (a : Addr) (ns : List Int), vs = [.ref a] ∧ SqL K H a (ns.map V.int) ∧ ns.length ≤ 63 ∧ ∀ H', Q (.bl true) H'
theorem pow7 {d : Int} (h0 : 0 ≤ d) (h1 : d < 7) : ∃ pw : Int, atI [V.int 1, .int 128, .int 16384, .int 2097152, .int 268435456, .int 34359738368, .int 4398046511104] d = some (.int pw) ∧ 1 ≤ pw ∧ pw ≤ 4398046511104 := by
  have : d = 0 ∨ d = 1 ∨ d = 2 ∨ d = 3 ∨ d = 4 ∨ d = 5 ∨ d = 6 := by omega
  rcases this with rfl | rfl | rfl | rfl | rfl | rfl | rfl
  · exact ⟨1, rfl, by decide, by decide⟩
  · exact ⟨128, rfl, by decide, by decide⟩
  · exact ⟨16384, rfl, by decide, by decide⟩
  · exact ⟨2097152, rfl, by decide, by decide⟩
  · exact ⟨268435456, rfl, by decide, by decide⟩
  · exact ⟨34359738368, rfl, by decide, by decide⟩
  · exact ⟨4398046511104, rfl, by decide, by decide⟩
theorem pow6 {k : Nat} (h : k < 6) : atI [V.int 256, .int 65536, .int 16777216, .int 4294967296, .int 1099511627776, .int 281474976710656] ((k : Int) + 1 - 1) = some (.int (256 ^ (k + 1))) := by
  have : k = 0 ∨ k = 1 ∨ k = 2 ∨ k = 3 ∨ k = 4 ∨ k = 5 := by omega
  rcases this with rfl | rfl | rfl | rfl | rfl | rfl <;> rfl
theorem ok_law {f : Addr} {fd : FuncData} (Ev : Env K mg) (CNumberBytes : Cal P w K mg base "number_bytes" 1 ["n"] (spNumber K)) (CReadNumber : Cal P w K mg base "read_number" 2 ["some", "at"] (spRead K)) (CFixedBytes : Cal P w K mg base "fixed_bytes" 1 ["n", "many"] (spFixed K)) (CReadFixed : Cal P w K mg base "read_fixed" 2 ["some", "at", "many"] (spReadF K))
    (CLawD : Cal P w K mg base "_law_d" 1 ["_law_cell", "_law_place", "_law_many"] spD) (CLawSame : Cal P w K mg base "_law_same" 2 ["_law_told", "_law_due"] (spSameT K)) (CLawNumber : Cal P w K mg base "_law_number" 1 ["_law_n"] (spNumber K)) (CLawFixed : Cal P w K mg base "_law_fixed" 1 ["_law_n", "_law_many"] (spFixed K)) (F : Fun K "law" "law" sLaw f fd) :
    FnOk P w K mg base CX0 3 f fd ["_law_script"] (spLaw K) := by
  refine F.ok scLaw (fun vs H Q E h => ?_) (fun cdv A outer s H vs Q E hr h => ?_)
  · obtain ⟨a, ns, rfl, _⟩ := h; rfl
  · obtain ⟨a, ns, rfl, hS, hlen, q⟩ := h
    refine ⟨_, (pss_cons (ps_set (i := 1) scLaw.nd rfl (.inl rfl) (pe_callTy call_tupleU (by rfl) Ev.b_tuple (by decide +kernel) (pa_cons (pe_lc (own := [("_law_one", 8)]) (g := gName 8) (tt := tYes) (by rfl) scLaw.nd (pi_list (pe_slice sl_list (pv 0) po_none (po_some pe_int))) (blkOk_by (own := [("_law_one", 8)]) (N := nLaw) (sc := defScope sLaw) (by decide +kernel)) (fun _ _ _ _ _ => (pg_name (i := 8) scLaw.nd rfl (.inl rfl))) (fun _ _ _ _ _ => pts_nil) (fun _ _ _ _ _ => (pe_op op_mod (pv 8) pe_int))) pa_nil)))
      (pss_cons (ps_for PassesOwn.never rfl (pi_list (pe_slice sl_list (pv 0) po_none (po_some pe_int))) (pg_name (i := 2) scLaw.nd rfl (.inl rfl))
        (pss_cons (ps_set (i := 3) scLaw.nd rfl (.inl rfl) (pe_op op_mod (pv 2) pe_int))
        (pss_cons (ps_if (pt_cmpR op_eq (pe_c CLawD (hr.mono (by decide)) (pa_cons (pv 2) (pa_cons pe_int (pa_cons pe_int pa_nil)))) pe_int (nomark _))
          (pss_cons (ps_set (i := 7) scLaw.nd rfl (.inl rfl) (pe_ix ix_list (pe_lst (pa_cons pe_int (pa_cons pe_int (pa_cons pe_int (pa_cons pe_int (pa_cons pe_int (pa_cons pe_int (pa_cons pe_int pa_nil)))))))) (pe_c CLawD (hr.mono (by decide)) (pa_cons (pv 2) (pa_cons pe_int (pa_cons pe_int pa_nil)))) (fun _ _ => rfl)))
          (pss_cons (ps_set (i := 3) scLaw.nd rfl (.inl rfl) (pe_callB (call_max2 rfl) (by rfl) Ev.b_max (by decide +kernel) (pa_cons (pe_op op_sub (pe_op op_sub (pv 7) pe_int) (pe_c CLawD (hr.mono (by decide)) (pa_cons (pv 2) (pa_cons pe_int (pa_cons pe_int pa_nil))))) (pa_cons pe_int pa_nil))))
          (pss_one (ps_if (PW.pt (pw_and (pt_cmpR op_eq (pe_c CLawD (hr.mono (by decide)) (pa_cons (pv 2) (pa_cons pe_int (pa_cons pe_int pa_nil)))) pe_int (nomark _)) (pw_and1 (pt_cmpR op_lt (pv 7) pe_int (nomark _)))))
            (pss_one (ps_set (i := 3) scLaw.nd rfl (.inl rfl) (pv 7)))
            pss_nil))))
          pss_nil)
        (pss_cons (ps_set (i := 4) scLaw.nd rfl (.inl rfl) (pe_c CLawNumber (hr.mono (by decide)) (pa_cons (pv 3) pa_nil)))
        (pss_cons (ps_set (i := 5) scLaw.nd rfl (.inl rfl) (pe_op op_catU (pe_op op_catU (pv 1) (pv 4)) (pe_revT (pv 1))))
        (pss_cons (ps_if (pt_not (pt_val (pe_c CLawSame (hr.mono (by decide)) (pa_cons (pe_c CNumberBytes (hr.mono (by decide)) (pa_cons (pv 3) pa_nil)) (pa_cons (pv 4) pa_nil)))))
          (pss_one (ps_ret pe_bl))
          pss_nil)
        (pss_cons (ps_if (pt_not (pt_val (pe_c CLawSame (hr.mono (by decide)) (pa_cons (pe_c CReadNumber (hr.mono (by decide)) (pa_cons (pv 5) (pa_cons (pe_callB call_len_seq (by rfl) Ev.b_len PySem.boot_len (pa_cons (pv 1) pa_nil)) pa_nil))) (pa_cons (pe_tupU (pa_cons (pv 3) (pa_cons (pe_op op_add (pe_callB call_len_seq (by rfl) Ev.b_len PySem.boot_len (pa_cons (pv 1) pa_nil)) (pe_callB call_len_seq (by rfl) Ev.b_len PySem.boot_len (pa_cons (pv 4) pa_nil))) pa_nil))) pa_nil)))))
          (pss_one (ps_ret pe_bl))
          pss_nil)
        (pss_cons (ps_set (i := 6) scLaw.nd rfl (.inl rfl) (pe_op op_add (pe_c CLawD (hr.mono (by decide)) (pa_cons (pv 2) (pa_cons pe_int (pa_cons pe_int pa_nil)))) pe_int))
        (pss_cons (ps_set (i := 3) scLaw.nd rfl (.inl rfl) (pe_op op_mod (pv 2) (pe_ix ix_list (pe_lst (pa_cons pe_int (pa_cons pe_int (pa_cons pe_int (pa_cons pe_int (pa_cons pe_int (pa_cons pe_int pa_nil))))))) (pe_op op_sub (pv 6) pe_int) (fun _ _ => rfl))))
        (pss_cons (ps_set (i := 4) scLaw.nd rfl (.inl rfl) (pe_c CLawFixed (hr.mono (by decide)) (pa_cons (pv 3) (pa_cons (pv 6) pa_nil))))
        (pss_cons (ps_set (i := 5) scLaw.nd rfl (.inl rfl) (pe_op op_catU (pe_op op_catU (pv 1) (pv 4)) (pv 1)))
        (pss_cons (ps_if (pt_not (pt_val (pe_c CLawSame (hr.mono (by decide)) (pa_cons (pe_c CFixedBytes (hr.mono (by decide)) (pa_cons (pv 3) (pa_cons (pv 6) pa_nil))) (pa_cons (pv 4) pa_nil)))))
          (pss_one (ps_ret pe_bl))
          pss_nil)
        (pss_one (ps_if (pt_not (pt_val (pe_c CLawSame (hr.mono (by decide)) (pa_cons (pe_c CReadFixed (hr.mono (by decide)) (pa_cons (pv 5) (pa_cons (pe_callB call_len_seq (by rfl) Ev.b_len PySem.boot_len (pa_cons (pv 1) pa_nil)) (pa_cons (pv 6) pa_nil)))) (pa_cons (pe_tupU (pa_cons (pv 3) (pa_cons (pe_op op_add (pe_callB call_len_seq (by rfl) Ev.b_len PySem.boot_len (pa_cons (pv 1) pa_nil)) (pv 6)) pa_nil))) pa_nil)))))
          (pss_one (ps_ret pe_bl))
          pss_nil))))))))))))))
      (pss_one (ps_ret pe_bl)))), ?_⟩
    have c7 : cutV (ns.map V.int) none (some 7) = (ns.take 7).map V.int := cut_to ns 7
    have c20 : cutV (ns.map V.int) none (some 20) = (ns.take 20).map V.int := cut_to ns 20
    refine ⟨_, rfl, 7, rfl, a, _, rfl, hS, fun p np => ⟨p, rfl, ⟨_, SqL.of upd_same⟩, fun D nD => ?_⟩⟩
    rw [c7] at nD ⊢
    refine lc_row (xs := (ns.take 7).map V.int) (ys := ((ns.take 7).map (· % 256)).map V.int) nD (SqL.of upd_same) ?_ ?_ (fun _ => rfl) (fun i x y H2 R hx hy sm r => ?_) (fun H2 sm h2 => ⟨D, _, rfl, SqL.of h2, fun H3 t3 s3 h3 => ?_⟩)
    · rw [List.length_map, List.length_map, List.length_map]
    · rw [List.length_map, List.length_take]
      exact Nat.le_of_lt (small1000 (by omega))
    · obtain ⟨n, hn, rfl⟩ := got hx
      have ey : y = .int (n % 256) := by
        rw [List.getElem?_map, List.getElem?_map, hn] at hy
        exact (Option.some.inj hy).symm
      subst ey
      exact ⟨_, rfl, n, 256, rfl, rfl, (show (0 : Int) < 256 by decide), r _ (Same.refl _)⟩
    have sH3 : Same H H3 := ((grow np).trans sm).trans s3
    obtain ⟨B, eB⟩ : ∃ B : List Int, B = (ns.take 7).map (· % 256) := ⟨_, rfl⟩
    have lB : B.length ≤ 7 := by rw [eB, List.length_map, List.length_take]; omega
    rw [← eB] at h3
    refine ⟨_, rfl, 20, rfl, a, _, rfl, sH3.seq hS, fun p4 n4 => ?_⟩
    rw [c20]
    have s4 : Same H3 (upd H3 p4 (.lst ((ns.take 20).map V.int))) := grow n4
    have h4 : SqL K (upd H3 p4 (.lst ((ns.take 20).map V.int))) p4 ((ns.take 20).map V.int) := SqL.of upd_same
    have hB4 := keepT s4 h3
    generalize upd H3 p4 (.lst ((ns.take 20).map V.int)) = H4 at s4 h4 hB4
    refine ⟨p4, rfl, ⟨_, h4⟩, for_list (xs := (ns.take 20).map V.int) (fun i σ H' => ∃ y2 y3 y4 y5 y6 y7 y8, σ = [some (.ref a), some (.ref t3), y2, y3, y4, y5, y6, y7, y8] ∧ Same H4 H') ⟨_, _, _, _, _, _, _, rfl, Same.refl _⟩ (fun i σ H' _ p => ?_) (fun i x σ H5 hx p => ?_) (fun σ H' p => q _)⟩
    · obtain ⟨_, _, _, _, _, _, _, _, e⟩ := p
      exact e.seq h4
    obtain ⟨y2, y3, y4, y5, y6, y7, y8, rfl, sm5⟩ := p
    obtain ⟨c, hc, rfl⟩ := got hx
    have big0 : (0 : Int) < 4398046511104 := by decide
    refine ⟨_, rfl, _, 4398046511104, rfl, rfl, big0, ?_⟩
    have m0 := Int.emod_nonneg c (show (4398046511104 : Int) ≠ 0 by decide)
    have m1 := Int.emod_lt_of_pos c big0
    dsimp only [gName]
    refine seq_by (t := tIfS _ _ _) (fun σ H' => ∃ (n : Int) (y7 : Option V), σ = [some (.ref a), some (.ref t3), some (.int c), some (.int n), y4, y5, y6, y7, y8] ∧ Same H5 H' ∧ 0 ≤ n ∧ n < 4398046511104) (fun σ H6 p => ?_) (fun go => ?_)
    · obtain ⟨n, y7, rfl, sm6, n0, n1⟩ := p
      have s46 : Same H4 H6 := sm5.trans sm6
      have hB6 := keepT s46 hB4
      have few := numB_few n0 n1
      refine ⟨_, rfl, n, rfl, n0, n1, fun H7 t7 s7 h7 => ?_⟩
      have hB7 := keepT s7 hB6
      refine ⟨_, rfl, _, rfl, t3, t7, _, _, rfl, rfl, hB7, h7, ?_, fun H8 t8 s8 h8 => ?_⟩
      · exact Nat.le_of_lt (small1000 (by rw [List.length_map, List.length_map]; omega))
      have hB8 := keepT s8 hB7
      refine ⟨_, rfl, t3, _, rfl, hB8, fun H9 t9 s9 h9 => ?_⟩
      refine ⟨t8, t9, _, _, rfl, rfl, keepT s9 h8, h9, ?_, fun Ha ta sa ha => ?_⟩
      · exact Nat.le_of_lt (small1000 (by rw [List.length_append, List.length_reverse, List.length_map, List.length_map]; omega))
      have ha' : SqT K Ha ta ((B ++ numB n ++ B.reverse).map V.int) := by
        rw [List.map_append, List.map_append, List.map_reverse]; exact ha
      have s7a : Same H7 Ha := s8.trans (s9.trans sa)
      have h7a := keepT s7a h7
      have hBa := keepT s7a hB7
      refine ⟨_, rfl, n, rfl, n0, n1, fun Hb tb sb hb => ?_⟩
      refine ⟨_, rfl, tb, t7, _, rfl, hb, keepT sb h7a, by omega, fun Hc sc => ⟨true, rfl, iteF ?_⟩⟩
      have sac : Same Ha Hc := sb.trans sc
      have hBc := keepT sac hBa
      have drop1 : (B ++ numB n ++ B.reverse).drop B.length = numB n ++ B.reverse := by
        rw [List.append_assoc, List.drop_left]
      refine ⟨_, rfl, _, rfl, t3, _, rfl, .inr hBc, ta, B ++ numB n ++ B.reverse, B.reverse, B.length, n, by rw [List.length_map]; rfl, keepT sac ha', n0, n1, drop1, fun Hd td sd hd => ?_⟩
      refine ⟨_, rfl, _, rfl, t3, _, rfl, .inr (keepT sd hBc), _, rfl, t7, _, rfl, .inr (keepT (sac.trans sd) h7a), _, _, rfl, rfl, (show 2 ≤ sizeLine by rw [sizeLine_eq]; decide), fun He te se he => ?_⟩
      have he' : SqT K He te (([n, ((B.length + (numB n).length : Nat) : Int)] : List Int).map V.int) := by
        rw [Int.natCast_add]
        rw [List.length_map, List.length_map] at he
        exact he
      refine ⟨td, te, [n, ((B.length + (numB n).length : Nat) : Int)], rfl, keepT se hd, he', by simp, fun Hf sf => ⟨true, rfl, iteF ?_⟩⟩
      -- fixed bytes
      refine ⟨_, rfl, c, 5, 6, rfl, by decide, by decide, by decide, fun d d0 d1 => ⟨_, _, rfl, rfl, ?_⟩⟩
      obtain ⟨k, rfl⟩ : ∃ k : Nat, d = (k : Int) := ⟨d.toNat, by omega⟩
      have k6 : k < 6 := by omega
      refine ⟨_, rfl, (show 6 ≤ sizeLine by rw [sizeLine_eq]; decide), fun pl nl => ?_⟩
      have pp : (0 : Int) < 256 ^ (k + 1) := Int.pow_pos (by decide)
      refine ⟨_, rfl, _, _, rfl, rfl, pl, _, _, _, rfl, rfl, SqL.of upd_same, pow6 k6, _, _, rfl, rfl, pp, ?_⟩
      have sl := grow (o := .lst [V.int 256, .int 65536, .int 16777216, .int 4294967296, .int 1099511627776, .int 281474976710656]) nl
      have r0 := Int.emod_nonneg c (Int.ne_of_gt pp)
      have r1 := Int.emod_lt_of_pos c pp
      generalize upd Hf pl (.lst [V.int 256, .int 65536, .int 16777216, .int 4294967296, .int 1099511627776, .int 281474976710656]) = Hg at sl
      have sag : Same Ha Hg := sac.trans (sd.trans (se.trans (sf.trans sl)))
      have hBg := keepT sag hBa
      obtain ⟨e, ee⟩ : ∃ e, e = c % 256 ^ (k + 1) := ⟨_, rfl⟩
      rw [← ee] at r0 r1
      refine ⟨_, rfl, _, rfl, e, k + 1, by rw [ee]; rfl, by omega, fun Hh th sh' hh => ?_⟩
      have hBh := keepT sh' hBg
      refine ⟨_, rfl, _, rfl, t3, th, _, _, rfl, rfl, hBh, hh, ?_, fun Hi ti si hi => ?_⟩
      · exact Nat.le_of_lt (small1000 (by rw [List.length_map, List.length_map, List.length_reverse, low_len]; omega))
      refine ⟨_, rfl, ti, t3, _, _, rfl, rfl, hi, keepT si hBh, ?_, fun Hj tj sj hj => ?_⟩
      · exact Nat.le_of_lt (small1000 (by rw [List.length_append, List.length_map, List.length_map, List.length_reverse, low_len]; omega))
      have hj' : SqT K Hj tj ((B ++ (low (k + 1) e).reverse ++ B).map V.int) := by
        rw [List.map_append, List.map_append]; exact hj
      have shj : Same Hh Hj := si.trans sj
      have hhj := keepT shj hh
      have hBj := keepT shj hBh
      refine ⟨_, rfl, _, rfl, e, k + 1, by rw [ee]; rfl, by omega, fun Hk tk sk hk => ?_⟩
      refine ⟨_, rfl, tk, th, _, rfl, hk, keepT sk hhj, by rw [List.length_reverse, low_len]; omega, fun Hl sl' => ⟨true, rfl, iteF ?_⟩⟩
      have sjl : Same Hj Hl := sk.trans sl'
      have hBl := keepT sjl hBj
      have drop2 : (B ++ (low (k + 1) e).reverse ++ B).drop B.length = (low (k + 1) e).reverse ++ B := by
        rw [List.append_assoc, List.drop_left]
      refine ⟨_, rfl, _, rfl, t3, _, rfl, .inr hBl, _, rfl, tj, B ++ (low (k + 1) e).reverse ++ B, B, B.length, k + 1, e, by rw [List.length_map]; rfl, keepT sjl hj', by omega, by omega, r0, r1, drop2, fun Hm tm sm' hm => ?_⟩
      refine ⟨_, rfl, _, rfl, t3, _, rfl, .inr (keepT sm' hBl), _, rfl, _, _, rfl, rfl, (show 2 ≤ sizeLine by rw [sizeLine_eq]; decide), fun Hn tn sn hn => ?_⟩
      have hn' : SqT K Hn tn (([e, ((B.length + (k + 1) : Nat) : Int)] : List Int).map V.int) := by
        rw [Int.natCast_add, ee]
        rw [List.length_map] at hn
        exact hn
      refine ⟨tm, tn, [e, ((B.length + (k + 1) : Nat) : Int)], rfl, keepT sn hm, hn', by simp, fun Ho so => ⟨true, rfl, iteF ?_⟩⟩
      exact ⟨_, _, _, _, _, _, _, rfl, s46.trans (s7.trans (s7a.trans (sag.trans (sh'.trans (shj.trans (sjl.trans (sm'.trans (sn.trans so))))))))⟩
    · refine ⟨_, rfl, c, 1, 3, rfl, by decide, by decide, by decide, fun d d0 d1 => ⟨rfl, _, rfl, ite2 (fun _ => ?_) (fun _ => go _ _ ⟨_, _, rfl, Same.refl _, m0, m1⟩)⟩⟩
      refine ⟨(show 7 ≤ sizeLine by rw [sizeLine_eq]; decide), fun pl nl => ?_⟩
      refine ⟨_, rfl, c, 3, 7, rfl, by decide, by decide, by decide, fun d2 e0 e1 => ?_⟩
      obtain ⟨pw, ap, w0, w1⟩ := pow7 e0 e1
      refine ⟨pl, _, _, _, rfl, rfl, SqL.of upd_same, ap, ?_⟩
      have sl := grow (o := .lst [V.int 1, .int 128, .int 16384, .int 2097152, .int 268435456, .int 34359738368, .int 4398046511104]) nl
      refine ⟨_, rfl, _, _, rfl, rfl, _, rfl, c, 21, 2, rfl, by decide, by decide, by decide, fun d3 f0 f1 => ?_⟩
      refine ⟨_, _, rfl, rfl, _, _, rfl, ?_⟩
      have hmax : 0 ≤ (if (0 : Int) > pw - 1 - d3 then 0 else pw - 1 - d3) ∧ (if (0 : Int) > pw - 1 - d3 then 0 else pw - 1 - d3) < 4398046511104 := by
        split <;> omega
      refine ⟨_, rfl, c, 42, 2, rfl, by decide, by decide, by decide, fun d4 g0 g1 => ⟨rfl, _, rfl, ite2 (fun _ => ?_) (fun _ => iteF (go _ _ ⟨_, _, rfl, sl, hmax.1, hmax.2⟩))⟩⟩
      refine ⟨_, rfl, _, _, rfl, rfl, _, rfl, ite2 (fun y => ?_) (fun _ => go _ _ ⟨_, _, rfl, sl, hmax.1, hmax.2⟩)⟩
      have lt : pw < 4398046511104 := of_decide_eq_true y
      exact ⟨_, rfl, go _ _ ⟨pw, _, rfl, sl, by omega, lt⟩⟩
end
/-! ### the end -/
theorem all_mk {l : PySem.W.OpenLaw} {w : World} {K : PySem.W.Frag} {h : Heap} {mg : Str → Option Value} {fa fn0 fn1 fn2 fn3 fn4 fn5 fn6 fn8 fn9 fn10 : Addr} (X : K.In h) (G : h.Ns mainGlobals mg) (hfa : mg "law" = some (.ref fa))
    {od0 an0 od1 an1 od2 an2 od3 an3 od4 an4 od5 an5 od6 an6 od8 an8 od9 an9 od10 an10 : Option Addr} {sl0 sl1 sl2 sl3 sl4 sl5 sl6 sl8 sl9 sl10 : Array (Option Value)} {oc0 kV0 dc0 pm0 cd0 ct0 oc1 kV1 dc1 pm1 cd1 ct1 oc2 kV2 dc2 pm2 cd2 ct2 oc3 kV3 dc3 pm3 cd3 ct3 oc4 kV4 dc4 pm4 cd4 ct4 oc5 kV5 dc5 pm5 cd5 ct5 oc6 kV6 dc6 pm6 cd6 ct6 oc8 kV8 dc8 pm8 cd8 ct8 oc9 kV9 dc9 pm9 cd9 ct9 oc10 kV10 dc10 pm10 cd10 ct10 : Value} {t_MOST_BYTES : Tok}
    (a0 : PySem.W.nsIn K mainGlobals "number_bytes" = some (some (.ref fn0))) (l0 : K.lookup fn0 = some ⟨oc0, od0, .func (PySem.W.fnOf "number_bytes" "number_bytes" (defArgs sNumberBytes) (defBody sNumberBytes) (defScope sNumberBytes) .none kV0 dc0 pm0 an0 cd0 ct0), sl0⟩) (c0 : PySem.W.codeIn K cd0 "number_bytes" = true) (k0 : PySem.W.keepIn K (.ref fn0) = true)
    (a1 : PySem.W.nsIn K mainGlobals "byte_at" = some (some (.ref fn1))) (l1 : K.lookup fn1 = some ⟨oc1, od1, .func (PySem.W.fnOf "byte_at" "byte_at" (defArgs sByteAt) (defBody sByteAt) (defScope sByteAt) .none kV1 dc1 pm1 an1 cd1 ct1), sl1⟩) (c1 : PySem.W.codeIn K cd1 "byte_at" = true) (k1 : PySem.W.keepIn K (.ref fn1) = true)
    (a2 : PySem.W.nsIn K mainGlobals "read_number" = some (some (.ref fn2))) (l2 : K.lookup fn2 = some ⟨oc2, od2, .func (PySem.W.fnOf "read_number" "read_number" (defArgs sReadNumber) (defBody sReadNumber) (defScope sReadNumber) .none kV2 dc2 pm2 an2 cd2 ct2), sl2⟩) (c2 : PySem.W.codeIn K cd2 "read_number" = true) (k2 : PySem.W.keepIn K (.ref fn2) = true)
    (a3 : PySem.W.nsIn K mainGlobals "fixed_bytes" = some (some (.ref fn3))) (l3 : K.lookup fn3 = some ⟨oc3, od3, .func (PySem.W.fnOf "fixed_bytes" "fixed_bytes" (defArgs sFixedBytes) (defBody sFixedBytes) (defScope sFixedBytes) .none kV3 dc3 pm3 an3 cd3 ct3), sl3⟩) (c3 : PySem.W.codeIn K cd3 "fixed_bytes" = true) (k3 : PySem.W.keepIn K (.ref fn3) = true)
    (a4 : PySem.W.nsIn K mainGlobals "read_fixed" = some (some (.ref fn4))) (l4 : K.lookup fn4 = some ⟨oc4, od4, .func (PySem.W.fnOf "read_fixed" "read_fixed" (defArgs sReadFixed) (defBody sReadFixed) (defScope sReadFixed) .none kV4 dc4 pm4 an4 cd4 ct4), sl4⟩) (c4 : PySem.W.codeIn K cd4 "read_fixed" = true) (k4 : PySem.W.keepIn K (.ref fn4) = true)
    (a5 : PySem.W.nsIn K mainGlobals "_law_d" = some (some (.ref fn5))) (l5 : K.lookup fn5 = some ⟨oc5, od5, .func (PySem.W.fnOf "_law_d" "_law_d" (defArgs sLawD) (defBody sLawD) (defScope sLawD) .none kV5 dc5 pm5 an5 cd5 ct5), sl5⟩) (c5 : PySem.W.codeIn K cd5 "_law_d" = true) (k5 : PySem.W.keepIn K (.ref fn5) = true)
    (a6 : PySem.W.nsIn K mainGlobals "_law_same" = some (some (.ref fn6))) (l6 : K.lookup fn6 = some ⟨oc6, od6, .func (PySem.W.fnOf "_law_same" "_law_same" (defArgs sLawSame) (defBody sLawSame) (defScope sLawSame) .none kV6 dc6 pm6 an6 cd6 ct6), sl6⟩) (c6 : PySem.W.codeIn K cd6 "_law_same" = true) (k6 : PySem.W.keepIn K (.ref fn6) = true)
    (a8 : PySem.W.nsIn K mainGlobals "_law_number" = some (some (.ref fn8))) (l8 : K.lookup fn8 = some ⟨oc8, od8, .func (PySem.W.fnOf "_law_number" "_law_number" (defArgs sLawNumber) (defBody sLawNumber) (defScope sLawNumber) .none kV8 dc8 pm8 an8 cd8 ct8), sl8⟩) (c8 : PySem.W.codeIn K cd8 "_law_number" = true) (k8 : PySem.W.keepIn K (.ref fn8) = true)
    (a9 : PySem.W.nsIn K mainGlobals "_law_fixed" = some (some (.ref fn9))) (l9 : K.lookup fn9 = some ⟨oc9, od9, .func (PySem.W.fnOf "_law_fixed" "_law_fixed" (defArgs sLawFixed) (defBody sLawFixed) (defScope sLawFixed) .none kV9 dc9 pm9 an9 cd9 ct9), sl9⟩) (c9 : PySem.W.codeIn K cd9 "_law_fixed" = true) (k9 : PySem.W.keepIn K (.ref fn9) = true)
    (a10 : PySem.W.nsIn K mainGlobals "law" = some (some (.ref fn10))) (l10 : K.lookup fn10 = some ⟨oc10, od10, .func (PySem.W.fnOf "law" "law" (defArgs sLaw) (defBody sLaw) (defScope sLaw) .none kV10 dc10 pm10 an10 cd10 ct10), sl10⟩) (c10 : PySem.W.codeIn K cd10 "law" = true) (k10 : PySem.W.keepIn K (.ref fn10) = true)
    (z_all : PySem.W.nsIn K mainGlobals "all" = some none)
    (z_bool : PySem.W.nsIn K mainGlobals "bool" = some none)
    (z_int : PySem.W.nsIn K mainGlobals "int" = some none)
    (z_isinstance : PySem.W.nsIn K mainGlobals "isinstance" = some none)
    (z_len : PySem.W.nsIn K mainGlobals "len" = some none)
    (z_max : PySem.W.nsIn K mainGlobals "max" = some none)
    (z_range : PySem.W.nsIn K mainGlobals "range" = some none)
    (z_str : PySem.W.nsIn K mainGlobals "str" = some none)
    (z_tuple : PySem.W.nsIn K mainGlobals "tuple" = some none)
    (z_zip : PySem.W.nsIn K mainGlobals "zip" = some none)
    (g_MOST_BYTES : PySem.W.nsIn K mainGlobals "MOST_BYTES" = some (some (.int 6 t_MOST_BYTES))) :
    ∃ fd : FuncData, (∀ (s : Shared) (v : Value), BindsTo s fd ⟨[v], []⟩ [("_law_script", v)]) ∧ ∀ base : Heap, K.In base → base.Ns mainGlobals mg → FnOk l.prog w K mg base CX0 3 fa fd ["_law_script"] (spLaw K) := by
  have e := hfa.symm.trans (PySem.W.mg_of X G a10)
  cases e
  have Ev : Env K mg := ⟨PySem.W.mg_none_of X G z_all, PySem.W.mg_none_of X G z_bool, PySem.W.mg_none_of X G z_int, PySem.W.mg_none_of X G z_isinstance, PySem.W.mg_none_of X G z_len, PySem.W.mg_none_of X G z_max, PySem.W.mg_none_of X G z_range, PySem.W.mg_none_of X G z_str, PySem.W.mg_none_of X G z_tuple, PySem.W.mg_none_of X G z_zip, ⟨_, PySem.W.mg_of X G g_MOST_BYTES⟩⟩
  have F0 := fun_mk (st := sNumberBytes) l0 c0 k0
  have F1 := fun_mk (st := sByteAt) l1 c1 k1
  have F2 := fun_mk (st := sReadNumber) l2 c2 k2
  have F3 := fun_mk (st := sFixedBytes) l3 c3 k3
  have F4 := fun_mk (st := sReadFixed) l4 c4 k4
  have F5 := fun_mk (st := sLawD) l5 c5 k5
  have F6 := fun_mk (st := sLawSame) l6 c6 k6
  have F8 := fun_mk (st := sLawNumber) l8 c8 k8
  have F9 := fun_mk (st := sLawFixed) l9 c9 k9
  have F10 := fun_mk (st := sLaw) l10 c10 k10
  refine ⟨PySem.W.fnOf "law" "law" (defArgs sLaw) (defBody sLaw) (defScope sLaw) .none kV10 dc10 pm10 an10 cd10 ct10, fun s v => .of_eq rfl, fun base _ _ => ?_⟩
  have C_0 : Cal l.prog w K mg base "number_bytes" 1 ["n"] (spNumber K) := ⟨_, _, ok_number Ev  F0, PySem.W.mg_of X G a0, k0, F0.binds fun _ _ _ _ _ _ us hl => match us, hl with | [_], _ => rfl⟩
  have C_1 : Cal l.prog w K mg base "byte_at" 1 ["some", "place"] (spByte K) := ⟨_, _, ok_byte Ev  F1, PySem.W.mg_of X G a1, k1, F1.binds fun _ _ _ _ _ _ us hl => match us, hl with | [_, _], _ => rfl⟩
  have C_2 : Cal l.prog w K mg base "read_number" 2 ["some", "at"] (spRead K) := ⟨_, _, ok_read Ev C_1 F2, PySem.W.mg_of X G a2, k2, F2.binds fun _ _ _ _ _ _ us hl => match us, hl with | [_, _], _ => rfl⟩
  have C_3 : Cal l.prog w K mg base "fixed_bytes" 1 ["n", "many"] (spFixed K) := ⟨_, _, ok_fixed Ev  F3, PySem.W.mg_of X G a3, k3, F3.binds fun _ _ _ _ _ _ us hl => match us, hl with | [_, _], _ => rfl⟩
  have C_4 : Cal l.prog w K mg base "read_fixed" 2 ["some", "at", "many"] (spReadF K) := ⟨_, _, ok_readF Ev C_1 F4, PySem.W.mg_of X G a4, k4, F4.binds fun _ _ _ _ _ _ us hl => match us, hl with | [_, _, _], _ => rfl⟩
  have C_5 : Cal l.prog w K mg base "_law_d" 1 ["_law_cell", "_law_place", "_law_many"] spD := ⟨_, _, ok_d Ev  F5, PySem.W.mg_of X G a5, k5, F5.binds fun _ _ _ _ _ _ us hl => match us, hl with | [_, _, _], _ => rfl⟩
  have C_6 : Cal l.prog w K mg base "_law_same" 1 ["_law_told", "_law_due"] spSame := ⟨_, _, ok_same Ev  F6, PySem.W.mg_of X G a6, k6, F6.binds fun _ _ _ _ _ _ us hl => match us, hl with | [_, _], _ => rfl⟩
  have C_7 : Cal l.prog w K mg base "_law_same" 2 ["_law_told", "_law_due"] (spSameT K) := ⟨_, _, ok_sameT Ev C_6 F6, PySem.W.mg_of X G a6, k6, F6.binds fun _ _ _ _ _ _ us hl => match us, hl with | [_, _], _ => rfl⟩
  have C_8 : Cal l.prog w K mg base "_law_number" 1 ["_law_n"] (spNumber K) := ⟨_, _, ok_lnum Ev  F8, PySem.W.mg_of X G a8, k8, F8.binds fun _ _ _ _ _ _ us hl => match us, hl with | [_], _ => rfl⟩
  have C_9 : Cal l.prog w K mg base "_law_fixed" 1 ["_law_n", "_law_many"] (spFixed K) := ⟨_, _, ok_lfix Ev  F9, PySem.W.mg_of X G a9, k9, F9.binds fun _ _ _ _ _ _ us hl => match us, hl with | [_, _], _ => rfl⟩
  exact ok_law Ev C_0 C_2 C_3 C_4 C_5 C_7 C_8 C_9 F10
end Fc
open PySem PySem.W PyProof.Rows
set_option maxHeartbeats 0 in
theorem PySem.Challenge.cw_filecrate_k01_numbers_holds : PySem.Challenge.rw_filecrate_k01_numbers.Holds := by
  w_on; o_law; k_head; (case hw => w_witness2)
  k_fill
  refine L2.walk_of (l := PySem.Challenge.rw_filecrate_k01_numbers) (n := 63) (k := 3) (x := "_law_script") (CX := fun _ => L2.CX0) (sp := fun w => Fc.spLaw _) rfl (by decide) rfl ⟨rfl, by decide, by decide⟩ (fun w h Y => PySem.W.kIn_of Y) ?F (fun _ _ a ns hl _ hS => ⟨a, ns, rfl, hS, hl, fun _ => rfl⟩) (fun _ _ _ _ _ h => h)
  case F =>
    intro w mg fa h KX G hmg
    refine' Fc.all_mk KX G hmg ?a0 ?l0 ?c0 ?k0 ?a1 ?l1 ?c1 ?k1 ?a2 ?l2 ?c2 ?k2 ?a3 ?l3 ?c3 ?k3 ?a4 ?l4 ?c4 ?k4 ?a5 ?l5 ?c5 ?k5 ?a6 ?l6 ?c6 ?k6 ?a8 ?l8 ?c8 ?k8 ?a9 ?l9 ?c9 ?k9 ?a10 ?l10 ?c10 ?k10 ?z_all ?z_bool ?z_int ?z_isinstance ?z_len ?z_max ?z_range ?z_str ?z_tuple ?z_zip ?g_MOST_BYTES
    (case a0 => k_is); (case l0 => k_is); (case c0 => k_is); (case k0 => k_is); (case a1 => k_is); (case l1 => k_is); (case c1 => k_is); (case k1 => k_is); (case a2 => k_is); (case l2 => k_is); (case c2 => k_is); (case k2 => k_is); (case a3 => k_is); (case l3 => k_is); (case c3 => k_is); (case k3 => k_is); (case a4 => k_is); (case l4 => k_is); (case c4 => k_is); (case k4 => k_is); (case a5 => k_is); (case l5 => k_is); (case c5 => k_is); (case k5 => k_is); (case a6 => k_is); (case l6 => k_is); (case c6 => k_is); (case k6 => k_is); (case a8 => k_is); (case l8 => k_is); (case c8 => k_is); (case k8 => k_is); (case a9 => k_is); (case l9 => k_is); (case c9 => k_is); (case k9 => k_is); (case a10 => k_is); (case l10 => k_is); (case c10 => k_is); (case k10 => k_is); (case z_all => k_is); (case z_bool => k_is); (case z_int => k_is); (case z_isinstance => k_is); (case z_len => k_is); (case z_max => k_is); (case z_range => k_is); (case z_str => k_is); (case z_tuple => k_is); (case z_zip => k_is); (case g_MOST_BYTES => k_is)
