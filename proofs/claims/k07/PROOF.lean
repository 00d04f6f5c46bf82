import PyProof.Rows.All
import Wide.All
import OpenK.AllK
import Wide.FinOn
import HandS.ForMost
import HandS.IsInst
import HandS.TupAny
import HandS.TupMul
import HandS.Zip
import HandS.Style
import PySem.Challenge.RW_filecrate_k07_whole_checks_tell_changes
set_option Elab.async false
set_option linter.all false
set_option maxRecDepth 100000
set_option maxHeartbeats 4000000
namespace Fc
open PySem PySem.Spec PyProof.Rows L2

/-! ### heaps that only grow -/
theorem grow {H : Hp} {p : Addr} {o : HO} (n : H p = none) : Same H (upd H p o) := by
  intro b u e
  have hb : b ≠ p := ne_of_none e n
  rw [upd_ne hb, e]
theorem keepT {K : PySem.W.Frag} {H H' : Hp} {a : Addr} {xs : List V} (e : Same H H') (h : SqT K H a xs) : SqT K H' a xs := by
  rcases h with (h | ⟨o, h⟩) | h
  · left; left; exact e a _ h
  · left; right; exact ⟨o, e a _ h⟩
  · right; exact h
/-- behind it a tuple of these, and all that stood -/
def Tups (K : PySem.W.Frag) (H : Hp) (xs : List V) (Q : VK) : Prop := ∀ H' p, Same H H' → SqT K H' p xs → Q (.ref p) H'
theorem Tups.new {K : PySem.W.Frag} {H : Hp} {xs : List V} {Q : VK} (h : Tups K H xs Q) {p : Addr} (n : H p = none) : Q (.ref p) (upd H p (.tup xs)) := h _ _ (grow n) (SqT.of upd_same)
theorem Tups.old {K : PySem.W.Frag} {H : Hp} {xs ys : List V} {Q : VK} (h : Tups K H xs Q) {p : Addr} (e : SqT K H p ys) (eq : ys = xs) : Q (.ref p) H := by
  subst eq
  exact h _ _ (Same.refl H) e
theorem PEweak {X : Cx} {e : Expr} {t u : TE} (h : PE X e t) (w : ∀ σ H Q, u σ H Q → t σ H Q) : PE X e u := ⟨fun pins s σ H Q I q => h.run pins s σ H Q I (w σ H Q q)⟩
def upA (t : TA) : TA := fun σ H Q => ∃ R, t σ H R ∧ ∀ vs H', R vs H' → Q vs H'
theorem PAup {X : Cx} {es : List Expr} {t : TA} (h : PA X es t) : PA X es (upA t) := ⟨fun ps pins s σ H Q I q => by
  obtain ⟨R, q1, q2⟩ := q
  refine thn (h.run ps pins s σ H R I q1) fun us s' ⟨vs, H', I', r, k⟩ => ⟨vs, H', I', r, q2 _ _ k⟩⟩

/-! ### rules whose reading says Tups -/
section
variable {X : Cx}
def rCatU (K : PySem.W.Frag) : R2 := fun x y H Q => ∃ a b xs ys, x = .ref a ∧ y = .ref b ∧ SqT K H a xs ∧ SqT K H b ys ∧ xs.length + ys.length ≤ sizeLine ∧ Tups K H (xs ++ ys) Q
theorem op_catU : OpR X (binaryOp .Add) (rCatU X.K) := by
  intro pins s σ H x y v u Q I rx ry h
  obtain ⟨a, b, xs, ys, rfl, rfl, ha, hb, hz, q⟩ := h
  refine op_catA pins s σ H _ _ v u Q I rx ry ⟨a, b, xs, ys, rfl, rfl, ha, hb, hz, fun e => ?_, fun _ e => ?_, fun _ _ p n => q.new n⟩
  · subst e; exact q.old hb rfl
  · subst e; exact q.old ha (List.append_nil xs).symm
def rSlU (K : PySem.W.Frag) : V → Option Int → Option Int → Hp → VK → Prop := fun x lo hi H Q => ∃ a xs, x = .ref a ∧ SqT K H a xs ∧ Tups K H (cutV xs lo hi) Q
theorem sl_tupU : SlR X (rSlU X.K) := by
  intro pins s σ H x v vl vu lo hi sl Q I rx hs pl pu h
  obtain ⟨a, xs, rfl, hx, q⟩ := h
  refine sl_tupA pins s σ H _ v vl vu lo hi sl Q I rx hs pl pu ⟨a, xs, rfl, hx, fun e => q.old hx ?_, fun _ p n => q.new n⟩
  unfold cutV
  rw [e.1, e.2, List.drop_zero, Nat.sub_zero, List.take_length]
def tTupU (K : PySem.W.Frag) (t : TA) : TE := fun σ H Q => t σ H fun xs H1 => xs.length ≤ sizeLine ∧ Tups K H1 xs Q
theorem pe_tupU {es : List Expr} {x1 : Nat} {pos : Pos} {t : TA} (h : PA X es t) : PE X (.Tuple es x1 pos) (tTupU X.K t) :=
  PEweak (pe_tup (PAup h)) fun σ H Q q => ⟨_, q, fun vs H' k => ⟨k.1, fun p n => k.2.new n⟩⟩
theorem call_divmodU : CallR X (.builtin "divmod") (fun xs H Q => ∃ i j, xs = [.int i, .int j] ∧ CDiv i j ∧ Tups X.K H [.int (i / j), .int (i % j)] Q) := by
  intro pins s σ H xs us Q I r h
  obtain ⟨i, j, e, c, q⟩ := h
  exact call_divmod pins s σ H xs us Q I r ⟨i, j, e, c, fun p n => q.new n⟩
theorem call_tupleU : CallR X (.type "tuple") (fun xs H Q => ∃ p ys, xs = [.ref p] ∧ SqL X.K H p ys ∧ Tups X.K H ys Q) := by
  intro pins s σ H xs us Q I r h
  obtain ⟨p, ys, e, hp, q⟩ := h
  exact call_tuple_of pins s σ H xs us Q I r ⟨p, ys, e, .inl ⟨hp, fun l n => q.new n⟩⟩
theorem pe_globI {x : Str} {n : Int} {pos : Pos} (hg : Gl X x) (h : ∃ t, X.mg x = some (.int n t)) (hd : (x == ("__debug__" : Str)) = false := by decide) : PE X (.Name x pos) (tC (.int n)) := by
  obtain ⟨t, e⟩ := h
  exact pe_glob hg e ⟨t, rfl⟩ hd
def tGT (K : PySem.W.Frag) (xs : List V) : TE := fun _ H Q => ∀ a, (∀ H', SqT K H' a xs) → Q (.ref a) H
theorem pe_globT {x : Str} {xs : List V} {pos : Pos} (hg : Gl X x) (h : ∃ a, X.mg x = some (.ref a) ∧ ∀ H', SqT X.K H' a xs) (hd : (x == ("__debug__" : Str)) = false := by decide) : PE X (.Name x pos) (tGT X.K xs) := by
  obtain ⟨a, e, q⟩ := h
  exact PEweak (pe_glob (v := .ref a) hg e rfl hd) fun σ H Q k => k a q
theorem pe_btype {x : Str} {n : String} {pos : Pos} (hg : Gl X x) (hm : X.mg x = none) (hv : bootBuiltins x = some (.type n)) (hn : x ≠ "__name__" := by decide) (hd : (x == ("__debug__" : Str)) = false := by decide) : PE X (.Name x pos) (tC (.ty n)) := pe_bltn hg hm hv rfl hn hd
end

/-! ### a def that is called -/
structure Cal (P : Program) (w : World) (K : PySem.W.Frag) (mg : Str → Option Value) (base : Heap) (x : Str) (k : Nat) (ps : List Str) (sp : Sp) : Prop where
  ex : ∃ f fd, FnOk P w K mg base CX0 k f fd ps sp ∧ mg x = some (.ref f) ∧ PySem.W.keepIn K (.ref f) = true ∧ Binds K fd ps []
theorem pe_c {X : Cx} {x : Str} {k : Nat} {ps : List Str} {sp : Sp} {p pos : Pos} {e : Expr} {es : List Expr} {t : TA} (C : Cal X.prog X.w X.K X.mg X.base x k ps sp) (hr : Room k X.A) (ha : PA X (e :: es) t) (hg : Gl X x := by rfl) (hdb : (x == ("__debug__" : Str)) = false := by decide)
    (he : starEach (e :: es) X.env = (false, eval e X.env) :: starEach es X.env := by rfl) (hpl : (backTo pos (starEach es X.env)).any (·.1) = false := by rfl) : PE X (.Call (.Name x p) (e :: es) [] pos) (tCall sp [] E0 t) := by
  obtain ⟨f, fd, F, m, kp, b⟩ := C.ex
  exact pe_call F hr hg m kp b .nil pass0 ha hdb he hpl

/-! ### joining ways -/
theorem seq_by {t u : TS} {D : Ends} {σ : L2.St} {H : Hp} (P : L2.St → Hp → Prop) (h2 : ∀ σ H, P σ H → u D σ H) (h1 : (∀ σ H, P σ H → u D σ H) → t { D with nx := u D } σ H) : tSeq t u D σ H := h1 h2

theorem seq_c {v : V} {i : Nat} {u : TS} {D : Ends} {σ : L2.St} {H : Hp} (h : u D (σ.set i (some v)) H) : tSeq (tAsg (tC v) (gName i)) u D σ H := h

/-! ### isinstance -/
theorem k_ii {K : PySem.W.Frag} : PySem.W.kitOne K (.type "int") (.type "int") = some true := kit_ty (by decide +kernel)
theorem k_ib {K : PySem.W.Frag} : PySem.W.kitOne K (.type "int") (.type "bool") = some false := kit_ty (by decide +kernel)
theorem k_it {K : PySem.W.Frag} : PySem.W.kitOne K (.type "int") (.type "tuple") = some false := kit_ty (by decide +kernel)
theorem k_is' {K : PySem.W.Frag} : PySem.W.kitOne K (.type "int") (.type "str") = some false := kit_ty (by decide +kernel)
theorem k_tb {K : PySem.W.Frag} : PySem.W.kitOne K (.type "tuple") (.type "bool") = some false := kit_ty (by decide +kernel)
theorem k_tt {K : PySem.W.Frag} : PySem.W.kitOne K (.type "tuple") (.type "tuple") = some true := kit_ty (by decide +kernel)
theorem k_sb {K : PySem.W.Frag} : PySem.W.kitOne K (.type "str") (.type "bool") = some false := kit_ty (by decide +kernel)
theorem k_st {K : PySem.W.Frag} : PySem.W.kitOne K (.type "str") (.type "tuple") = some false := kit_ty (by decide +kernel)
theorem k_ss {K : PySem.W.Frag} : PySem.W.kitOne K (.type "str") (.type "str") = some true := kit_ty (by decide +kernel)
theorem ty_tup {K : PySem.W.Frag} {H : Hp} {a : Addr} {xs : List V} (h : SqT K H a xs) : TyX K H (.ref a) (.type "tuple") := by
  rcases h with (h | ⟨o, h⟩) | ⟨o, its, n, h, c, _⟩
  · exact .base (.tup h)
  · exact .fTuple h
  · exact .kTuple h c

/-! ### cuts of whole numbers -/
theorem cut_to (ns : List Int) (k : Nat) : cutV (ns.map V.int) none (some (k : Int)) = (ns.take k).map V.int := by
  unfold cutV
  rw [HT.sIx_none, HT.sIx_nat, List.drop_zero, Nat.sub_zero, List.length_map, List.map_take]
  by_cases h : k ≤ ns.length
  · rw [Nat.min_eq_left h]
  · have h' : ns.length ≤ k := by omega
    rw [Nat.min_eq_right h', List.take_of_length_le (by rw [List.length_map]; omega), List.take_of_length_le (by rw [List.length_map]; omega)]
theorem cut_from (ns : List Int) (k : Nat) : cutV (ns.map V.int) (some (k : Int)) none = (ns.drop k).map V.int := by
  unfold cutV
  rw [HT.sIx_none, HT.sIx_nat, List.length_map, List.map_drop]
  by_cases h : k ≤ ns.length
  · rw [Nat.min_eq_left h]
    exact List.take_of_length_le (by rw [List.length_drop, List.length_map]; omega)
  · have h' : ns.length ≤ k := by omega
    rw [Nat.min_eq_right h', List.drop_of_length_le (by rw [List.length_map]; omega), List.drop_of_length_le (by rw [List.length_map]; omega), List.take_nil]
theorem cut_mid (ns : List Int) (i j : Nat) : cutV (ns.map V.int) (some (i : Int)) (some (j : Int)) = ((ns.drop i).take (j - i)).map V.int := by
  unfold cutV
  rw [HT.sIx_nat, HT.sIx_nat, List.length_map, List.map_take, List.map_drop]
  by_cases h : i ≤ ns.length
  · rw [Nat.min_eq_left h]
    by_cases g : j ≤ ns.length
    · rw [Nat.min_eq_left g]
    · have g' : ns.length ≤ j := by omega
      rw [Nat.min_eq_right g', List.take_of_length_le (by rw [List.length_drop, List.length_map]; omega), List.take_of_length_le (by rw [List.length_drop, List.length_map]; omega)]
  · have h' : ns.length ≤ i := by omega
    rw [Nat.min_eq_right h', List.drop_of_length_le (by rw [List.length_map]; omega), List.drop_of_length_le (by rw [List.length_map]; omega), List.take_nil, List.take_nil]

/-! ### a comprehension whose items are told by a row -/
theorem lc_row {K : PySem.W.Frag} {a : Addr} {xs ys : List V} {te : TE} {vs : List Nat} {σ : L2.St} {H1 : Hp} {D : Addr} {j : Nat} {Qd : Hp → Prop} (nD : H1 D = none) (hs : SqL K H1 a xs) (hy : ys.length = xs.length) (hz : xs.length ≤ sizeLine)
    (hw : ∀ x, wipe ((wipe σ vs).set j (some x)) vs = wipe σ vs)
    (turn : ∀ (i : Nat) (x y : V) (H : Hp) (R : V → Hp → Prop), xs[i]? = some x → ys[i]? = some y → Same H1 H → (∀ H', Same H H' → R y H') → te ((wipe σ vs).set j (some x)) H R) (hd : ∀ H', Same H1 H' → H' D = some (.lst ys) → Qd H') :
    ∃ W : Nat → Nat → Hp → Prop, (∃ m, W 0 m (upd H1 D (.lst []))) ∧ ∀ i m H, W i m H →
      ((Itl K a).stop i H ∧ Qd H) ∨ ((Itl K a).go i H ∧ ∃ Nx : Hp → Prop, (∀ H', Nx H' → ∃ m', m' < m ∧ W (i + 1) m' H') ∧ ∀ x H', (Itl K a).yld i H x H' → gName j x (wipe σ vs) H' fun σ2 H2 => wipe σ2 vs = wipe σ vs ∧ tYes σ2 H2 fun b H3 =>
        if b = true then te σ2 H3 fun y H4 => ∃ acc, H4 D = some (.lst acc) ∧ acc.length < sizeLine ∧ Nx (upd H4 D (.lst (acc ++ [y]))) else Nx H3) := by
  refine lc_list (xs := xs) (fun i H => Same H1 H ∧ H D = some (.lst (ys.take i))) ⟨grow nD, upd_same⟩ (fun i H _ p => p.1.seq hs) (fun i x H hx p => ?_) (fun H p => hd H p.1 ?_)
  · have hi : i < xs.length := (List.getElem?_eq_some_iff.mp hx).1
    have hiy : i < ys.length := by omega
    refine ⟨hw x, ?_⟩
    unfold tYes
    dsimp only
    rw [if_pos rfl]
    refine turn i x ys[i] H _ hx (List.getElem?_eq_getElem hiy) p.1 fun H' sm => ⟨ys.take i, sm _ _ p.2, ?_, ?_, ?_⟩
    · rw [List.length_take]; omega
    · intro b o e
      have hb : b ≠ D := ne_of_none e nD
      rw [upd_ne hb]
      exact sm _ _ (p.1 _ _ e)
    · rw [upd_same, List.take_add_one, List.getElem?_eq_getElem hiy]
      rfl
  · have := p.2
    rw [← hy, List.take_length] at this
    exact this
end Fc

namespace Fc
open PySem PySem.Spec L2 PyProof.Rows
/-! ### the check, in plain numbers -/
def turn (d : Int) : Int := d + 4096 * (1 - 2 * (d / 4096 % 2)) + 32 * (1 - 2 * (d / 32 % 2)) + (1 - 2 * (d % 2))
theorem low33 : ∀ a : Fin 256, (((a.val ^^^ 33 : Nat)) : Int) = (a.val : Int) + 32 * (1 - 2 * ((a.val : Int) / 32 % 2)) + (1 - 2 * ((a.val : Int) % 2)) := by decide +kernel
theorem high16 : ∀ a : Fin 256, (((a.val ^^^ 16 : Nat)) : Int) = (a.val : Int) + 16 * (1 - 2 * ((a.val : Int) / 16 % 2)) := by decide +kernel
theorem xor_turn {d : Int} (h0 : 0 ≤ d) (h1 : d < 65536) : Builtin.bitXor d 4129 = turn d := by
  rw [Bits.bitXor_pp h0 (by decide)]
  have e : d = (d.toNat : Int) := by omega
  generalize d.toNat = n at e
  subst e
  have hn : n < 65536 := by omega
  have e1 : (n ^^^ 4129) / 2 ^ 8 = n / 2 ^ 8 ^^^ 4129 / 2 ^ 8 := Nat.xor_div_two_pow
  have e2 : (n ^^^ 4129) % 2 ^ 8 = n % 2 ^ 8 ^^^ 4129 % 2 ^ 8 := Nat.xor_mod_two_pow
  have l := low33 ⟨n % 256, by omega⟩
  have h := high16 ⟨n / 256, by omega⟩
  dsimp only at l h
  have e1' : (n ^^^ 4129) / 256 = n / 256 ^^^ 16 := e1
  have e2' : (n ^^^ 4129) % 256 = n % 256 ^^^ 33 := e2
  rw [← e1'] at h
  rw [← e2'] at l
  show ((n ^^^ 4129 : Nat) : Int) = turn n
  generalize n ^^^ 4129 = x at l h
  obtain ⟨a, ea⟩ : ∃ a, a = n / 256 := ⟨_, rfl⟩
  obtain ⟨b, eb⟩ : ∃ b, b = n % 256 := ⟨_, rfl⟩
  rw [← ea] at h
  rw [← eb] at l
  have en : n = 256 * a + b := by omega
  have hb : b < 256 := by omega
  clear e1 e2 e1' e2' ea eb
  subst en
  have g1 : (256 * a + b) / 4096 = a / 16 := by
    rw [show 4096 = 256 * 16 from rfl, ← Nat.div_div_eq_div_mul]
    congr 1
    omega
  have f1 : ((256 * a + b : Nat) : Int) / 4096 % 2 = (a : Int) / 16 % 2 := by omega
  have f2 : ((256 * a + b : Nat) : Int) / 32 % 2 = (b : Int) / 32 % 2 := by omega
  have f3 : ((256 * a + b : Nat) : Int) % 2 = (b : Int) % 2 := by omega
  unfold turn
  rw [f1, f2, f3]
  generalize (a : Int) / 16 % 2 = u at h
  generalize (b : Int) / 32 % 2 = v at l
  generalize (b : Int) % 2 = w at l
  omega
theorem and_all : ∀ a : Fin 256, ∀ u ∈ [128, 64, 32, 16, 8, 4, 2, 1], (decide (0 < (a.val &&& u))) = decide (a.val / u % 2 = 1) := by decide +kernel
def units : List Int := [128, 64, 32, 16, 8, 4, 2, 1]
theorem and_unit {x u : Int} (h : 0 ≤ x ∧ x < 256) (hu : u ∈ units) : decide (0 < Builtin.bitAnd x u) = decide (x / u % 2 = 1) := by
  have hp : 0 ≤ u := by
    simp only [units, List.mem_cons, List.not_mem_nil, or_false] at hu
    omega
  rw [bitAnd_pp h.1 hp]
  have e : x = (x.toNat : Int) := by omega
  have eu : u = (u.toNat : Int) := by omega
  have a := and_all ⟨x.toNat, by omega⟩ u.toNat (by
    simp only [units, List.mem_cons, List.not_mem_nil, or_false] at hu ⊢
    omega)
  dsimp only at a
  have b1 : decide (0 < ((x.toNat &&& u.toNat : Nat) : Int)) = decide (0 < (x.toNat &&& u.toNat)) := by
    rw [Bool.eq_iff_iff]
    simp only [decide_eq_true_eq]
    omega
  rw [b1, a, Bool.eq_iff_iff]
  simp only [decide_eq_true_eq]
  have ed : x / u = ((x.toNat / u.toNat : Nat) : Int) := by
    rw [Int.natCast_ediv, ← e, ← eu]
  rw [ed]
  omega
/-- the mark behind a bit, 0 or 1 -/
def nextI (m b : Int) : Int := if (b = 1) ↔ (32768 ≤ m) then m * 2 % 65536 else turn (m * 2 % 65536)
theorem nextI_in (m b : Int) : 0 ≤ nextI m b ∧ nextI m b < 65536 := by
  unfold nextI turn
  split <;> omega
def byteI (m x : Int) : Int := units.foldl (fun m u => nextI m (x / u % 2)) m
def chk (m : Int) (ns : List Int) : Int := ns.foldl byteI m
theorem fold_in (x : Int) : ∀ (us : List Int) (m : Int), 0 ≤ m ∧ m < 65536 → 0 ≤ us.foldl (fun m u => nextI m (x / u % 2)) m ∧ us.foldl (fun m u => nextI m (x / u % 2)) m < 65536
  | [], m, h => h
  | u :: r, m, h => fold_in x r _ (nextI_in m _)
theorem chk_in : ∀ (ns : List Int) (m : Int), 0 ≤ m ∧ m < 65536 → 0 ≤ chk m ns ∧ chk m ns < 65536
  | [], m, h => h
  | x :: r, m, h => chk_in r _ (fold_in x units m h)
theorem chk_app (m : Int) (A B : List Int) : chk (chk m A) B = chk m (A ++ B) := (List.foldl_append).symm
theorem fold_take {α β : Type} {g : β → α → β} {b : β} {l : List α} {i : Nat} {x : α} (h : l[i]? = some x) : (l.take (i + 1)).foldl g b = g ((l.take i).foldl g b) x := by
  rw [List.take_add_one, h, Option.toList_some, List.foldl_append]
  rfl
/-! ### the check by a row of sixteen bits -/
def valL (l : List Int) : Int := l.foldl (fun n b => n * 2 + b) 0
def turnAt (l : List Int) (k : Int) : List Int := l.set k.toNat (1 - l.getD k.toNat 0)
def stepL (l : List Int) (f : Bool) : List Int := if f then [3, 10, 15].foldl turnAt (l.drop 1 ++ [0]) else l.drop 1 ++ [0]
def Bits16 (l : List Int) : Prop := l.length = 16 ∧ ∀ b ∈ l, 0 ≤ b ∧ b ≤ 1
theorem sixteen {l : List Int} (h : l.length = 16) : ∃ a b c d e f g i j k m n o p q r : Int, l = [a, b, c, d, e, f, g, i, j, k, m, n, o, p, q, r] := by
  match l, h with
  | [a, b, c, d, e, f, g, i, j, k, m, n, o, p, q, r], _ => exact ⟨a, b, c, d, e, f, g, i, j, k, m, n, o, p, q, r, rfl⟩
theorem stepL_ok {l : List Int} (h : Bits16 l) {x : Int} (hx : 0 ≤ x ∧ x ≤ 1) : Bits16 (stepL l (!decide (l.getD 0 0 = x))) ∧ valL (stepL l (!decide (l.getD 0 0 = x))) = nextI (valL l) x := by
  obtain ⟨a, b, c, d, e, f, g, i, j, k, m, n, o, p, q, r, rfl⟩ := sixteen h.1
  have ha := h.2 a (by simp)
  have hb := h.2 b (by simp)
  have hc := h.2 c (by simp)
  have hd := h.2 d (by simp)
  have he := h.2 e (by simp)
  have hf := h.2 f (by simp)
  have hg := h.2 g (by simp)
  have hi := h.2 i (by simp)
  have hj := h.2 j (by simp)
  have hk := h.2 k (by simp)
  have hm := h.2 m (by simp)
  have hn := h.2 n (by simp)
  have ho := h.2 o (by simp)
  have hp := h.2 p (by simp)
  have hq := h.2 q (by simp)
  have hr := h.2 r (by simp)
  have v : valL [a, b, c, d, e, f, g, i, j, k, m, n, o, p, q, r] = 32768 * a + (16384 * b + 8192 * c + 4096 * d + 2048 * e + 1024 * f + 512 * g + 256 * i + 128 * j + 64 * k + 32 * m + 16 * n + 8 * o + 4 * p + 2 * q + r) := by
    simp only [valL, List.foldl_cons, List.foldl_nil]
    omega
  have top : (32768 ≤ valL [a, b, c, d, e, f, g, i, j, k, m, n, o, p, q, r]) ↔ a = 1 := by
    rw [v]
    omega
  by_cases z : a = x
  · have s : stepL [a, b, c, d, e, f, g, i, j, k, m, n, o, p, q, r] (!decide (([a, b, c, d, e, f, g, i, j, k, m, n, o, p, q, r] : List Int).getD 0 0 = x)) = [b, c, d, e, f, g, i, j, k, m, n, o, p, q, r, 0] := by
      show stepL _ (!decide (a = x)) = _
      rw [decide_eq_true z]
      rfl
    rw [s]
    refine ⟨⟨rfl, ?_⟩, ?_⟩
    · intro y hy
      simp only [List.mem_cons, List.not_mem_nil, or_false] at hy
      rcases hy with rfl | rfl | rfl | rfl | rfl | rfl | rfl | rfl | rfl | rfl | rfl | rfl | rfl | rfl | rfl | rfl <;> first | assumption | exact ⟨by decide, by decide⟩
    · unfold nextI
      rw [if_pos (by rw [top, z])]
      rw [v]
      simp only [valL, List.foldl_cons, List.foldl_nil]
      omega
  · have s : stepL [a, b, c, d, e, f, g, i, j, k, m, n, o, p, q, r] (!decide (([a, b, c, d, e, f, g, i, j, k, m, n, o, p, q, r] : List Int).getD 0 0 = x)) = [b, c, d, 1 - e, f, g, i, j, k, m, 1 - n, o, p, q, r, 1 - 0] := by
      show stepL _ (!decide (a = x)) = _
      rw [decide_eq_false z]
      rfl
    rw [s]
    refine ⟨⟨rfl, ?_⟩, ?_⟩
    · intro y hy
      simp only [List.mem_cons, List.not_mem_nil, or_false] at hy
      rcases hy with rfl | rfl | rfl | rfl | rfl | rfl | rfl | rfl | rfl | rfl | rfl | rfl | rfl | rfl | rfl | rfl <;> first | assumption | omega
    · unfold nextI
      rw [if_neg (by rw [top]; omega)]
      have d2 : valL [a, b, c, d, e, f, g, i, j, k, m, n, o, p, q, r] * 2 % 65536 = 2 * (16384 * b + 8192 * c + 4096 * d + 2048 * e + 1024 * f + 512 * g + 256 * i + 128 * j + 64 * k + 32 * m + 16 * n + 8 * o + 4 * p + 2 * q + r) := by
        rw [v]
        omega
      rw [d2]
      simp only [valL, List.foldl_cons, List.foldl_nil]
      unfold turn
      have t1 : 2 * (16384 * b + 8192 * c + 4096 * d + 2048 * e + 1024 * f + 512 * g + 256 * i + 128 * j + 64 * k + 32 * m + 16 * n + 8 * o + 4 * p + 2 * q + r) / 4096 % 2 = e := by omega
      have t2 : 2 * (16384 * b + 8192 * c + 4096 * d + 2048 * e + 1024 * f + 512 * g + 256 * i + 128 * j + 64 * k + 32 * m + 16 * n + 8 * o + 4 * p + 2 * q + r) / 32 % 2 = n := by omega
      have t3 : 2 * (16384 * b + 8192 * c + 4096 * d + 2048 * e + 1024 * f + 512 * g + 256 * i + 128 * j + 64 * k + 32 * m + 16 * n + 8 * o + 4 * p + 2 * q + r) % 2 = 0 := by omega
      rw [t1, t2, t3]
      omega
end Fc

namespace Fc
open PySem PySem.Spec L2 PyProof.Rows
/-! ### the check tells which sixteen bits came -/
def flagN (m : Nat) (b : Bool) : Bool := b != decide (32768 ≤ m)
def nextN (m : Nat) (b : Bool) : Nat := if flagN m b then (2 * m % 65536) ^^^ 4129 else 2 * m % 65536
theorem nextN_lt (m : Nat) (b : Bool) : nextN m b < 65536 := by
  unfold nextN
  split
  · exact Nat.xor_lt_two_pow (n := 16) (Nat.mod_lt _ (by decide)) (by decide)
  · exact Nat.mod_lt _ (by decide)
theorem xor_cancel {a b c : Nat} (h : a ^^^ c = b ^^^ c) : a = b := by
  have := congrArg (· ^^^ c) h
  simpa [Nat.xor_assoc] using this
theorem nextN_odd (m : Nat) (b : Bool) : nextN m b % 2 = if flagN m b then 1 else 0 := by
  unfold nextN
  split
  · have e : ((2 * m % 65536) ^^^ 4129) % 2 ^ 1 = (2 * m % 65536) % 2 ^ 1 ^^^ 4129 % 2 ^ 1 := Nat.xor_mod_two_pow
    have z : 2 * m % 65536 % 2 ^ 1 = 0 := by omega
    rw [z] at e
    exact e
  · omega
theorem back_one {m m' : Nat} {b b' : Bool} {j : Nat} (hj : j + 1 ≤ 16) (h : nextN m b % 2 ^ (j + 1) = nextN m' b' % 2 ^ (j + 1)) : flagN m b = flagN m' b' ∧ m % 2 ^ j = m' % 2 ^ j := by
  have hp : nextN m b % 2 = nextN m' b' % 2 := by
    have d : 2 ∣ 2 ^ (j + 1) := ⟨2 ^ j, by rw [Nat.pow_succ, Nat.mul_comm]⟩
    have h1 := congrArg (· % 2) h
    simp only [Nat.mod_mod_of_dvd _ d] at h1
    exact h1
  rw [nextN_odd, nextN_odd] at hp
  have hf : flagN m b = flagN m' b' := by
    cases e1 : flagN m b <;> cases e2 : flagN m' b' <;> rw [e1, e2] at hp <;> simp at hp <;> rfl
  refine ⟨hf, ?_⟩
  have dd : 2 ^ (j + 1) ∣ 65536 := by
    have : (65536 : Nat) = 2 ^ (j + 1) * 2 ^ (16 - (j + 1)) := by
      rw [← Nat.pow_add, Nat.add_sub_cancel' hj]
    exact ⟨_, this⟩
  have key : 2 * m % 65536 % 2 ^ (j + 1) = 2 * m' % 65536 % 2 ^ (j + 1) := by
    unfold nextN at h
    rw [← hf] at h
    cases e : flagN m b
    · rw [e] at h
      exact h
    · rw [e] at h
      simp only [if_true] at h
      rw [Nat.xor_mod_two_pow, Nat.xor_mod_two_pow] at h
      exact xor_cancel h
  rw [Nat.mod_mod_of_dvd _ dd, Nat.mod_mod_of_dvd _ dd, Nat.pow_succ, Nat.mul_comm (2 ^ j) 2, Nat.mul_mod_mul_left, Nat.mul_mod_mul_left] at key
  omega
def runN (m : Nat) (bs : List Bool) : Nat := bs.foldl nextN m
def Flags : Nat → List Bool → Nat → List Bool → Prop
  | m, b :: r, m', b' :: r' => flagN m b = flagN m' b' ∧ Flags (nextN m b) r (nextN m' b') r'
  | _, _, _, _ => True
theorem back_all : ∀ (bs bs' : List Bool) (m m' j : Nat), bs.length = bs'.length → bs.length + j ≤ 16 → runN m bs % 2 ^ (bs.length + j) = runN m' bs' % 2 ^ (bs.length + j) → Flags m bs m' bs' ∧ m % 2 ^ j = m' % 2 ^ j
  | [], [], m, m', j, _, _, h => by
    refine ⟨by unfold Flags; trivial, ?_⟩
    have z : ([] : List Bool).length + j = j := by simp
    rw [z] at h
    exact h
  | b :: r, b' :: r', m, m', j, hl, hj, h => by
    have hl' : r.length = r'.length := Nat.succ.inj hl
    have e : (b :: r).length + j = r.length + (j + 1) := by rw [List.length_cons]; omega
    rw [e] at hj h
    have ih := back_all r r' (nextN m b) (nextN m' b') (j + 1) hl' hj h
    have one := back_one (by omega) ih.2
    exact ⟨⟨one.1, ih.1⟩, one.2⟩
  | [], _ :: _, _, _, _, hl, _, _ => by cases hl
  | _ :: _, [], _, _, _, hl, _, _ => by cases hl
theorem flags_same : ∀ (bs bs' : List Bool) (m : Nat), bs.length = bs'.length → Flags m bs m bs' → bs = bs'
  | [], [], _, _, _ => rfl
  | b :: r, b' :: r', m, hl, h => by
    have e : b = b' := by
      have h1 := h.1
      unfold flagN at h1
      generalize decide (32768 ≤ m) = d at h1
      revert h1
      cases b <;> cases b' <;> cases d <;> decide
    subst e
    rw [flags_same r r' (nextN m b) (Nat.succ.inj hl) h.2]
  | [], _ :: _, _, hl, _ => by cases hl
  | _ :: _, [], _, hl, _ => by cases hl
theorem bits_told {bs bs' : List Bool} {m : Nat} (hl : bs.length = bs'.length) (hz : bs.length ≤ 16) (h : runN m bs = runN m bs') : bs = bs' :=
  flags_same bs bs' m hl (back_all bs bs' m m 0 hl (by omega) (by rw [h])).1
theorem mark_told : ∀ (bs : List Bool) {m m' : Nat}, m < 65536 → m' < 65536 → runN m bs = runN m' bs → m = m'
  | [], _, _, _, _, h => h
  | b :: r, m, m', h1, h2, h => by
    have e := mark_told r (nextN_lt m b) (nextN_lt m' b) h
    have o := back_one (b := b) (b' := b) (j := 15) (by decide) (congrArg (· % 2 ^ 16) e)
    have f := o.1
    unfold flagN at f
    have t : decide (32768 ≤ m) = decide (32768 ≤ m') := by
      cases b <;> cases e1 : decide (32768 ≤ m) <;> cases e2 : decide (32768 ≤ m') <;> rw [e1, e2] at f <;> first | rfl | cases f
    have t' : (32768 ≤ m) ↔ (32768 ≤ m') := by
      constructor
      · intro z
        rw [decide_eq_true z] at t
        exact of_decide_eq_true t.symm
      · intro z
        rw [decide_eq_true z] at t
        exact of_decide_eq_true t
    have o2 : m % 32768 = m' % 32768 := o.2
    omega
/-! ### of bytes -/
def bitOf (x u : Int) : Bool := decide (x / u % 2 = 1)
def bits8 (x : Int) : List Bool := units.map (bitOf x)
theorem nextI_N {m : Int} (x u : Int) (h0 : 0 ≤ m) (h1 : m < 65536) : nextI m (x / u % 2) = ((nextN m.toNat (bitOf x u) : Nat) : Int) := by
  obtain ⟨n, rfl⟩ : ∃ n : Nat, m = (n : Int) := ⟨m.toNat, by omega⟩
  have d0 : (n : Int) * 2 % 65536 = ((2 * n % 65536 : Nat) : Int) := by omega
  have dl : 2 * n % 65536 < 65536 := Nat.mod_lt _ (by decide)
  have tr : turn ((n : Int) * 2 % 65536) = (((2 * n % 65536) ^^^ 4129 : Nat) : Int) := by
    rw [d0, ← xor_turn (by omega) (by omega), Bits.bitXor_pp (by omega) (by decide)]
    rfl
  rw [Int.toNat_natCast]
  unfold nextI nextN flagN bitOf
  by_cases z : x / u % 2 = 1
  · by_cases t : 32768 ≤ n
    · rw [if_pos ⟨fun _ => by omega, fun _ => z⟩, decide_eq_true z, decide_eq_true t, d0]
      rfl
    · rw [if_neg (fun k => t (by have := k.mp z; omega)), decide_eq_true z, decide_eq_false t, tr]
      rfl
  · by_cases t : 32768 ≤ n
    · rw [if_neg (fun k => z (k.mpr (by omega))), decide_eq_false z, decide_eq_true t, tr]
      rfl
    · rw [if_pos ⟨fun k => absurd k z, fun k => absurd (by omega) t⟩, decide_eq_false z, decide_eq_false t, d0]
      rfl
theorem fold_N (x : Int) : ∀ (us : List Int) (m : Int), 0 ≤ m → m < 65536 → us.foldl (fun m u => nextI m (x / u % 2)) m = ((runN m.toNat (us.map (bitOf x)) : Nat) : Int)
  | [], m, h0, _ => by show m = ((m.toNat : Nat) : Int); omega
  | u :: r, m, h0, h1 => by
    show r.foldl (fun m u => nextI m (x / u % 2)) (nextI m (x / u % 2)) = ((runN (nextN m.toNat (bitOf x u)) (r.map (bitOf x)) : Nat) : Int)
    have b := nextI_in m (x / u % 2)
    rw [fold_N x r _ b.1 b.2, nextI_N x u h0 h1, Int.toNat_natCast]
theorem byteI_N {m : Int} (x : Int) (h : 0 ≤ m ∧ m < 65536) : byteI m x = ((runN m.toNat (bits8 x) : Nat) : Int) := fold_N x units m h.1 h.2
theorem sum8 : ∀ a : Fin 256, (a.val : Int) = 128 * (if (a.val : Int) / 128 % 2 = 1 then 1 else 0) + 64 * (if (a.val : Int) / 64 % 2 = 1 then 1 else 0) + 32 * (if (a.val : Int) / 32 % 2 = 1 then 1 else 0) + 16 * (if (a.val : Int) / 16 % 2 = 1 then 1 else 0) + 8 * (if (a.val : Int) / 8 % 2 = 1 then 1 else 0) + 4 * (if (a.val : Int) / 4 % 2 = 1 then 1 else 0) + 2 * (if (a.val : Int) / 2 % 2 = 1 then 1 else 0) + (if (a.val : Int) / 1 % 2 = 1 then 1 else 0) := by decide +kernel
def of8 : List Bool → Int
  | [a, b, c, d, e, f, g, h] => 128 * (if a then 1 else 0) + 64 * (if b then 1 else 0) + 32 * (if c then 1 else 0) + 16 * (if d then 1 else 0) + 8 * (if e then 1 else 0) + 4 * (if f then 1 else 0) + 2 * (if g then 1 else 0) + (if h then 1 else 0)
  | _ => 0
theorem of8_bits {x : Int} (h : 0 ≤ x ∧ x < 256) : of8 (bits8 x) = x := by
  have s := sum8 ⟨x.toNat, by omega⟩
  dsimp only at s
  rw [Int.toNat_of_nonneg h.1] at s
  show 128 * (if bitOf x 128 then 1 else 0) + 64 * (if bitOf x 64 then 1 else 0) + 32 * (if bitOf x 32 then 1 else 0) + 16 * (if bitOf x 16 then 1 else 0) + 8 * (if bitOf x 8 then 1 else 0) + 4 * (if bitOf x 4 then 1 else 0) + 2 * (if bitOf x 2 then 1 else 0) + (if bitOf x 1 then 1 else 0) = x
  simp only [bitOf, decide_eq_true_eq]
  exact s.symm
theorem bits8_inj {x y : Int} (hx : 0 ≤ x ∧ x < 256) (hy : 0 ≤ y ∧ y < 256) (h : bits8 x = bits8 y) : x = y := by
  rw [← of8_bits hx, ← of8_bits hy, h]
theorem two_told {m x1 x2 y1 y2 : Int} (hm : 0 ≤ m ∧ m < 65536) (h1 : 0 ≤ x1 ∧ x1 < 256) (h2 : 0 ≤ x2 ∧ x2 < 256) (g1 : 0 ≤ y1 ∧ y1 < 256) (g2 : 0 ≤ y2 ∧ y2 < 256) (h : byteI (byteI m x1) x2 = byteI (byteI m y1) y2) : x1 = y1 ∧ x2 = y2 := by
  have b1 : 0 ≤ byteI m x1 ∧ byteI m x1 < 65536 := fold_in x1 units m hm
  have b2 : 0 ≤ byteI m y1 ∧ byteI m y1 < 65536 := fold_in y1 units m hm
  rw [byteI_N x2 b1, byteI_N y2 b2, byteI_N x1 hm, byteI_N y1 hm, Int.toNat_natCast, Int.toNat_natCast] at h
  have e : runN m.toNat (bits8 x1 ++ bits8 x2) = runN m.toNat (bits8 y1 ++ bits8 y2) := by
    unfold runN at h ⊢
    rw [List.foldl_append, List.foldl_append]
    omega
  have k := bits_told (bs := bits8 x1 ++ bits8 x2) (bs' := bits8 y1 ++ bits8 y2) rfl (show (bits8 x1 ++ bits8 x2).length ≤ 16 from Nat.le_refl 16) e
  have k2 := List.append_inj k rfl
  exact ⟨bits8_inj h1 g1 k2.1, bits8_inj h2 g2 k2.2⟩
theorem one_told {m x y : Int} (hm : 0 ≤ m ∧ m < 65536) (h1 : 0 ≤ x ∧ x < 256) (g1 : 0 ≤ y ∧ y < 256) (h : byteI m x = byteI m y) : x = y :=
  (two_told (x2 := 0) (y2 := 0) hm h1 (by decide) g1 (by decide) (by rw [h])).1
theorem chk_told : ∀ (B : List Int) {m m' : Int}, 0 ≤ m ∧ m < 65536 → 0 ≤ m' ∧ m' < 65536 → chk m B = chk m' B → m = m'
  | [], _, _, _, _, h => h
  | x :: r, m, m', h1, h2, h => by
    have e : byteI m x = byteI m' x := chk_told r (fold_in x units m h1) (fold_in x units m' h2) h
    rw [byteI_N x h1, byteI_N x h2] at e
    have k := mark_told (bits8 x) (m := m.toNat) (m' := m'.toNat) (by omega) (by omega) (by omega)
    omega
theorem other_one {A B : List Int} {x y : Int} (h1 : 0 ≤ x ∧ x < 256) (g1 : 0 ≤ y ∧ y < 256) (h : chk 65535 (A ++ [y] ++ B) = chk 65535 (A ++ x :: B)) : y = x := by
  have hm := chk_in A 65535 (by decide)
  have e1 : chk 65535 (A ++ [y] ++ B) = chk (byteI (chk 65535 A) y) B := by
    unfold chk
    rw [List.foldl_append, List.foldl_append]
    rfl
  have e2 : chk 65535 (A ++ x :: B) = chk (byteI (chk 65535 A) x) B := by
    unfold chk
    rw [List.foldl_append]
    rfl
  rw [e1, e2] at h
  exact one_told hm g1 h1 (chk_told B (fold_in y units _ hm) (fold_in x units _ hm) h)
theorem other_two {A B : List Int} {x1 x2 y1 y2 : Int} (h1 : 0 ≤ x1 ∧ x1 < 256) (h2 : 0 ≤ x2 ∧ x2 < 256) (g1 : 0 ≤ y1 ∧ y1 < 256) (g2 : 0 ≤ y2 ∧ y2 < 256) (h : chk 65535 (A ++ [y1, y2] ++ B) = chk 65535 (A ++ x1 :: x2 :: B)) : y1 = x1 ∧ y2 = x2 := by
  have hm := chk_in A 65535 (by decide)
  have e1 : chk 65535 (A ++ [y1, y2] ++ B) = chk (byteI (byteI (chk 65535 A) y1) y2) B := by
    unfold chk
    rw [List.foldl_append, List.foldl_append]
    rfl
  have e2 : chk 65535 (A ++ x1 :: x2 :: B) = chk (byteI (byteI (chk 65535 A) x1) x2) B := by
    unfold chk
    rw [List.foldl_append]
    rfl
  rw [e1, e2] at h
  exact two_told hm g1 g2 h1 h2 (chk_told B (fold_in y2 units _ (fold_in y1 units _ hm)) (fold_in x2 units _ (fold_in x1 units _ hm)) h)
end Fc

namespace Fc
open PySem PySem.Spec L2 PyProof.Rows
/-! ### tuples of whole numbers, compared -/
theorem lay_ints : ∀ (A : List Int), PyData.canLayAll0 (A.map PyData.int) = true
  | [] => by simp [PyData.canLayAll0]
  | a :: r => by
    rw [List.map_cons, PyData.canLayAll0, lay_ints r]
    simp [PyData.canLay0]
theorem deep_ints : ∀ (A : List Int), PyData.depthAll (A.map PyData.int) = 0
  | [] => by simp [PyData.depthAll]
  | a :: r => by
    rw [List.map_cons, PyData.depthAll, deep_ints r]
    simp [PyData.depth]
theorem shape_ints (A : List Int) : SeqAt.shaped (.tuple (A.map PyData.int)) = true := by
  unfold SeqAt.shaped
  rw [PyData.canLay0, lay_ints, PyData.depth, deep_ints]
  rfl
theorem dp_all (K : PySem.W.Frag) (H : Hp) : ∀ (A : List Int), DpAll K H (A.map V.int) (A.map PyData.int)
  | [] => .nil
  | a :: r => .cons (.int a) (dp_all K H r)
theorem dp_ints {K : PySem.W.Frag} {H : Hp} {p : Addr} {A : List Int} (h : SqT K H p (A.map V.int)) : Dp K H (.ref p) (.tuple (A.map PyData.int)) := .tup h (dp_all K H A)
theorem eqvAll_ints : ∀ (A B : List Int), PyData.eqvAll (A.map PyData.int) (B.map PyData.int) = decide (A = B)
  | [], [] => by simp [PyData.eqvAll]
  | [], b :: r => by simp [PyData.eqvAll]
  | a :: r, [] => by simp [PyData.eqvAll]
  | a :: r, b :: t => by
    rw [List.map_cons, List.map_cons, PyData.eqvAll, eqvAll_ints r t, Bool.eq_iff_iff]
    simp [PyData.eqv]
theorem eqv_tup (A B : List Int) : PyData.eqv (.tuple (A.map PyData.int)) (.tuple (B.map PyData.int)) = decide (A = B) := by
  rw [← eqvAll_ints]
  simp only [PyData.eqv]
end Fc

namespace Fc
open PySem PySem.Spec L2 PyProof.Rows
def topS (i : Nat) : Stmt := PySem.Challenge.pw_filecrate_k07_whole_checks_tell_changes.main.body.getD i (.Pass ⟨0, 0, 0, 0⟩)
abbrev sCheckOf : Stmt := topS 6
abbrev nCheckOf : List Str := ["some"]
theorem scCheckOf : FnScope nCheckOf ["some"] (defScope sCheckOf) := ⟨rfl, rfl, rfl, by decide +kernel, rfl, by decide +kernel, by decide +kernel⟩
abbrev sCheckOn : Stmt := topS 7
abbrev nCheckOn : List Str := ["before", "some", "mark", "byte", "bit"]
theorem scCheckOn : FnScope nCheckOn ["before", "some"] (defScope sCheckOn) := ⟨rfl, rfl, rfl, by decide +kernel, rfl, by decide +kernel, by decide +kernel⟩
abbrev sNextMark : Stmt := topS 8
abbrev nNextMark : List Str := ["mark", "bit_is_set", "top_is_set", "doubled"]
theorem scNextMark : FnScope nNextMark ["mark", "bit_is_set"] (defScope sNextMark) := ⟨rfl, rfl, rfl, by decide +kernel, rfl, by decide +kernel, by decide +kernel⟩
abbrev sLawD : Stmt := topS 10
abbrev nLawD : List Str := ["_law_cell", "_law_place", "_law_many", "_law_number"]
theorem scLawD : FnScope nLawD ["_law_cell", "_law_place", "_law_many"] (defScope sLawD) := ⟨rfl, rfl, rfl, by decide +kernel, rfl, by decide +kernel, by decide +kernel⟩
abbrev sLawFew : Stmt := topS 11
abbrev nLawFew : List Str := ["_law_script", "_law_begin", "_law_end", "_law_cell", "_law_wide", "_law_one"]
theorem scLawFew : FnScope nLawFew ["_law_script", "_law_begin", "_law_end"] (defScope sLawFew) := ⟨rfl, rfl, rfl, by decide +kernel, rfl, by decide +kernel, by decide +kernel⟩
abbrev sLaw : Stmt := topS 12
abbrev nLaw : List Str := ["_law_script", "_law_some", "_law_before", "_law_place", "_law_new", "_law_more", "_law_one", "_law_turned"]
theorem scLaw : FnScope nLaw ["_law_script"] (defScope sLaw) := ⟨rfl, rfl, rfl, by decide +kernel, rfl, by decide +kernel, by decide +kernel⟩
structure Env (K : PySem.W.Frag) (mg : Str → Option Value) : Prop where
  b_bool : mg "bool" = none
  b_int : mg "int" = none
  b_isinstance : mg "isinstance" = none
  b_len : mg "len" = none
  b_range : mg "range" = none
  b_tuple : mg "tuple" = none
  g_BITS_OF_BYTE : ∃ a, mg "BITS_OF_BYTE" = some (.ref a) ∧ ∀ H, SqT K H a [.int 128, .int 64, .int 32, .int 16, .int 8, .int 4, .int 2, .int 1]
  g_FIRST_MARK : ∃ t, mg "FIRST_MARK" = some (.int 65535 t)
  g_MARK_LIMIT : ∃ t, mg "MARK_LIMIT" = some (.int 65536 t)
  g_TOP_BIT : ∃ t, mg "TOP_BIT" = some (.int 32768 t)
  g_TURNED_BITS : ∃ t, mg "TURNED_BITS" = some (.int 4129 t)

theorem got {ns : List Int} {i : Nat} {x : V} (h : (ns.map V.int)[i]? = some x) : ∃ n, ns[i]? = some n ∧ x = .int n := by
  rw [List.getElem?_map] at h
  cases e : ns[i]? with
  | none => rw [e] at h; cases h
  | some n =>
    rw [e] at h
    exact ⟨n, rfl, (Option.some.inj h).symm⟩
section
variable {P : Program} {w : World} {mg : Str → Option Value} {K : PySem.W.Frag} {base : Heap}
/-! ### next_mark, check_on, check_of -/
def spNext : Sp := fun vs H Q _ => ∃ (m : Int) (b : Bool), vs = [.int m, .bl b] ∧ 0 ≤ m ∧ m < 65536 ∧ Q (.int (nextI m (if b then 1 else 0))) H
theorem ok_next {f : Addr} {fd : FuncData} (Ev : Env K mg) (F : Fun K "next_mark" "next_mark" sNextMark f fd) : FnOk P w K mg base CX0 1 f fd ["mark", "bit_is_set"] spNext := by
  refine F.ok scNextMark (fun vs H Q E h => ?_) (fun cdv A outer s H vs Q E hr h => ?_)
  · obtain ⟨m, b, rfl, _⟩ := h; rfl
  · obtain ⟨m, b, rfl, m0, m1, q⟩ := h
    refine ⟨_, (pss_cons (ps_set (i := 2) scNextMark.nd rfl (.inl rfl) (pe_cmpR op_ge (pv 0) (pe_globI (by rfl) Ev.g_TOP_BIT) (nomark _)))
      (pss_cons (ps_set (i := 3) scNextMark.nd rfl (.inl rfl) (pe_op op_mod (pe_op op_mul (pv 0) pe_int) (pe_globI (by rfl) Ev.g_MARK_LIMIT)))
      (pss_cons (ps_if (pt_cmpR op_ne (pv 1) (pv 2) (nomark _))
        (pss_one (ps_ret (pe_op op_xor (pv 3) (pe_globI (by rfl) Ev.g_TURNED_BITS))))
        pss_nil)
      (pss_one (ps_ret (pv 3)))))), ?_⟩
    refine ⟨_, rfl, _, _, rfl, rfl, ?_⟩
    refine ⟨_, rfl, _, _, rfl, rfl, .inr ⟨by decide, by decide⟩, _, 65536, rfl, rfl, (show (0 : Int) < 65536 by decide), ?_⟩
    have hd : 0 ≤ m * 2 % 65536 ∧ m * 2 % 65536 < 65536 := by omega
    refine ⟨_, rfl, _, rfl, rfl, _, rfl, ite2 (fun e => ?_) (fun e => ?_)⟩
    · refine ⟨_, rfl, _, _, rfl, rfl, ?_⟩
      have z : ¬ (((if b then (1 : Int) else 0) = 1) ↔ 32768 ≤ m) := by
        rw [dec_bl] at e
        cases b
        · simp at e
          simp
          omega
        · simp at e
          simp
          omega
      have ez : nextI m (if b then 1 else 0) = turn (m * 2 % 65536) := by
        unfold nextI
        rw [if_neg z]
      rw [ez, ← xor_turn hd.1 hd.2] at q
      exact q
    · refine ⟨_, rfl, ?_⟩
      have z : (((if b then (1 : Int) else 0) = 1) ↔ 32768 ≤ m) := by
        rw [dec_bl] at e
        cases b
        · simp at e
          simp
          omega
        · simp at e
          simp
          omega
      have ez : nextI m (if b then 1 else 0) = m * 2 % 65536 := by
        unfold nextI
        rw [if_pos z]
      rw [ez] at q
      exact q
def spOn (K : PySem.W.Frag) : Sp := fun vs H Q _ => ∃ (m : Int) (a : Addr) (ns : List Int), vs = [.int m, .ref a] ∧ 0 ≤ m ∧ m < 65536 ∧ SqT K H a (ns.map V.int) ∧ (∀ x ∈ ns, 0 ≤ x ∧ x < 256) ∧ Q (.int (chk m ns)) H
theorem ok_on {f : Addr} {fd : FuncData} (Ev : Env K mg) (CNextMark : Cal P w K mg base "next_mark" 1 ["mark", "bit_is_set"] spNext) (F : Fun K "check_on" "check_on" sCheckOn f fd) : FnOk P w K mg base CX0 2 f fd ["before", "some"] (spOn K) := by
  refine F.ok scCheckOn (fun vs H Q E h => ?_) (fun cdv A outer s H vs Q E hr h => ?_)
  · obtain ⟨m, a, ns, rfl, _⟩ := h; rfl
  · obtain ⟨m, a, ns, rfl, m0, m1, hT, hx, q⟩ := h
    refine ⟨_, (pss_cons (ps_set (i := 2) scCheckOn.nd rfl (.inl rfl) (pv 0))
      (pss_cons (ps_for PassesOwn.never rfl (pi_tup (pv 1)) (pg_name (i := 3) scCheckOn.nd rfl (.inl rfl))
        (pss_one (ps_for PassesOwn.never rfl (pi_tup (pe_globT (by rfl) Ev.g_BITS_OF_BYTE)) (pg_name (i := 4) scCheckOn.nd rfl (.inl rfl))
          (pss_one (ps_set (i := 2) scCheckOn.nd rfl (.inl rfl) (pe_c CNextMark (hr.mono (by decide)) (pa_cons (pv 2) (pa_cons (pe_cmpR op_gt (pe_op op_and (pv 3) (pv 4)) pe_int (nomark _)) pa_nil))))))))
      (pss_one (ps_ret (pv 2))))), ?_⟩
    refine ⟨_, rfl, ?_⟩
    refine ⟨_, rfl, a, rfl, ⟨_, hT⟩, for_tup (xs := ns.map V.int) (fun i σ H' => ∃ y3 y4, σ = [some (.int m), some (.ref a), some (.int (chk m (ns.take i))), y3, y4] ∧ H' = H) ⟨none, none, rfl, rfl⟩ (fun i σ H' _ p => ?_) (fun i x σ H' hi p => ?_) (fun σ H' p => ?_)⟩
    · obtain ⟨_, _, _, rfl⟩ := p
      exact hT
    · obtain ⟨y3, y4, rfl, rfl⟩ := p
      obtain ⟨n, hn, rfl⟩ := got hi
      have nb := hx n (List.mem_of_getElem? hn)
      have cb := chk_in (ns.take i) m ⟨m0, m1⟩
      refine fun ba hba => ⟨ba, rfl, ⟨_, hba _⟩, for_tup (xs := units.map V.int) (fun j σ H'' => ∃ y4, σ = [some (.int m), some (.ref a), some (.int ((units.take j).foldl (fun m u => nextI m (n / u % 2)) (chk m (ns.take i)))), some (.int n), y4] ∧ H'' = H') ⟨y4, rfl, rfl⟩ (fun _ _ _ _ _ => hba _) (fun j x σ H'' hj p => ?_) (fun σ H'' p => ?_)⟩
      · obtain ⟨z4, rfl, rfl⟩ := p
        obtain ⟨u, hu, rfl⟩ := got hj
        have fb := fold_in n (units.take j) _ cb
        refine ⟨_, rfl, _, rfl, _, rfl, _, _, rfl, rfl, _, _, rfl, rfl, _, _, rfl, fb.1, fb.2, some (.int u), ?_, rfl⟩
        have hn2 : n / u % 2 = 0 ∨ n / u % 2 = 1 := by omega
        rw [fold_take hu, and_unit nb (List.mem_of_getElem? hu)]
        rcases hn2 with z | z
        · rw [z]
          rfl
        · rw [z]
          rfl
      · obtain ⟨z4, rfl, rfl⟩ := p
        refine ⟨some (.int n), z4, ?_, rfl⟩
        rw [show chk m (ns.take (i + 1)) = byteI (chk m (ns.take i)) n from fold_take hn]
        rfl
    · obtain ⟨y3, y4, rfl, rfl⟩ := p
      rw [List.length_map, List.take_length]
      exact ⟨_, rfl, q⟩
def spOf (K : PySem.W.Frag) : Sp := fun vs H Q _ => ∃ (a : Addr) (ns : List Int), vs = [.ref a] ∧ SqT K H a (ns.map V.int) ∧ (∀ x ∈ ns, 0 ≤ x ∧ x < 256) ∧ ∀ H', Same H H' → Q (.int (chk 65535 ns)) H'
theorem ok_of {f : Addr} {fd : FuncData} (Ev : Env K mg) (CCheckOn : Cal P w K mg base "check_on" 2 ["before", "some"] (spOn K)) (F : Fun K "check_of" "check_of" sCheckOf f fd) : FnOk P w K mg base CX0 3 f fd ["some"] (spOf K) := by
  refine F.ok scCheckOf (fun vs H Q E h => ?_) (fun cdv A outer s H vs Q E hr h => ?_)
  · obtain ⟨a, ns, rfl, _⟩ := h; rfl
  · obtain ⟨a, ns, rfl, hT, hx, q⟩ := h
    refine ⟨_, (pss_one (ps_ret (pe_c CCheckOn (hr.mono (by decide)) (pa_cons (pe_globI (by rfl) Ev.g_FIRST_MARK) (pa_cons (pv 0) pa_nil))))), ?_⟩
    exact ⟨_, rfl, 65535, a, ns, rfl, by decide, by decide, hT, hx, q _ (Same.refl _)⟩
/-! ### a draw -/
def spD : Sp := fun vs H Q _ => ∃ c p m : Int, vs = [.int c, .int p, .int m] ∧ 0 ≤ p ∧ p < 1000 ∧ 0 < m ∧ ∀ d : Int, 0 ≤ d → d < m → Q (.int d) H
theorem ok_d {f : Addr} {fd : FuncData} (Ev : Env K mg) (F : Fun K "_law_d" "_law_d" sLawD f fd) : FnOk P w K mg base CX0 1 f fd ["_law_cell", "_law_place", "_law_many"] spD := by
  refine F.ok scLawD (fun vs H Q E h => ?_) (fun cdv A outer s H vs Q E hr h => ?_)
  · obtain ⟨c, p, m, rfl, _⟩ := h; rfl
  · obtain ⟨c, p, m, rfl, p0, p1, hm, q⟩ := h
    refine ⟨_, (pss_cons (ps_set (i := 3) scLawD.nd rfl (.inl rfl) (pe_op op_mod (pe_op op_add (pv 0) (pe_op op_mul pe_int (pv 1))) pe_int))
      (pss_cons (ps_set (i := 3) scLawD.nd rfl (.inl rfl) (pe_op op_mod (pe_op op_mul (pe_op op_mod (pe_op op_mul (pv 3) (pv 3)) pe_int) pe_int) pe_int))
      (pss_one (ps_ret (pe_op op_mod (pe_op op_fdiv (pv 3) pe_int) (pv 2)))))), ?_⟩
    refine ⟨_, rfl, _, rfl, _, _, rfl, rfl, .inl ⟨by decide, by decide⟩, _, _, rfl, rfl, _, 4294967291, rfl, rfl, (show (0 : Int) < 4294967291 by decide), ?_⟩
    have b := Int.emod_lt_of_pos (c + 104729 * p) (show (0 : Int) < 4294967291 by decide)
    have b' := Int.emod_nonneg (c + 104729 * p) (show (4294967291 : Int) ≠ 0 by decide)
    refine ⟨_, rfl, _, rfl, _, _, rfl, rfl, .inl ⟨by omega, by omega⟩, _, 4294967279, rfl, rfl, (show (0 : Int) < 4294967279 by decide), _, 48271, rfl, rfl, .inr ⟨by decide, by decide⟩, _, 4294967291, rfl, rfl, (show (0 : Int) < 4294967291 by decide), ?_⟩
    refine ⟨_, rfl, _, 64, rfl, rfl, ⟨by decide, by decide⟩, _, rfl, _, _, rfl, rfl, hm, q _ (Int.emod_nonneg _ (Int.ne_of_gt hm)) (Int.emod_lt_of_pos _ hm)⟩

/-! ### the law's bytes -/
def spFew (K : PySem.W.Frag) : Sp := fun vs H Q _ => ∃ (a : Addr) (ns : List Int) (b e : Nat), vs = [.ref a, .int (b : Int), .int (e : Int)] ∧ SqL K H a (ns.map V.int) ∧ ns.length ≤ 63 ∧ ∀ bs : List Int, (∀ x ∈ bs, 0 ≤ x ∧ x < 256) → bs.length = min (e - b) (ns.length - b) → Tups K H (bs.map V.int) Q
theorem ok_few {f : Addr} {fd : FuncData} (Ev : Env K mg) (CLawD : Cal P w K mg base "_law_d" 1 ["_law_cell", "_law_place", "_law_many"] spD) (F : Fun K "_law_few" "_law_few" sLawFew f fd) : FnOk P w K mg base CX0 2 f fd ["_law_script", "_law_begin", "_law_end"] (spFew K) := by
  refine F.ok scLawFew (fun vs H Q E h => ?_) (fun cdv A outer s H vs Q E hr h => ?_)
  · obtain ⟨a, ns, b, e, rfl, _⟩ := h; rfl
  · obtain ⟨a, ns, b, e, rfl, hS, hz, q⟩ := h
    refine ⟨_, (pss_cons (ps_set (i := 3) scLawFew.nd rfl (.inr rfl) pe_int)
      (pss_cons (ps_if (pt_truth (pv 0) (by intro _; rfl))
        (pss_one (ps_set (i := 3) scLawFew.nd rfl (.inr rfl) (pe_ix ix_list (pv 0) pe_int (fun _ _ => rfl))))
        pss_nil)
      (pss_cons (ps_set (i := 4) scLawFew.nd rfl (.inr rfl) (pe_ix ix_list (pe_lst (pa_cons pe_int (pa_cons pe_int (pa_cons pe_int (pa_cons pe_int pa_nil))))) (pe_c CLawD (hr.mono (by decide)) (pa_cons (pv 3) (pa_cons pe_int (pa_cons pe_int pa_nil)))) (fun _ _ => rfl)))
      (pss_one (ps_ret (pe_callTy call_tupleU (by rfl) Ev.b_tuple (by decide +kernel) (pa_cons (pe_lc (own := [("_law_one", 5)]) (g := gName 5) (tt := tYes) (by rfl) scLawFew.nd (pi_list (pe_slice sl_list (pv 0) (po_some (pv 1)) (po_some (pv 2)))) (blkOk_by (own := [("_law_one", 5)]) (N := nLawFew) (sc := defScope sLawFew) (by decide +kernel)) (fun _ _ _ _ _ => (pg_name (i := 5) scLawFew.nd rfl (.inl rfl))) (fun _ _ _ _ _ => pts_nil) (fun _ _ _ _ _ => (pe_op op_mod (pe_op op_add (pe_op op_mod (pv 5) (pv 4)) (pe_op op_fdiv (pv 3) pe_int)) pe_int))) pa_nil))))))), ?_⟩
    refine seq_c (v := .int 0) (i := 3) ?_
    dsimp only
    refine seq_by (t := tIfS _ _ _) (fun σ H' => H' = H ∧ ∃ c : Int, σ = [some (.ref a), some (.int (b : Int)), some (.int (e : Int)), some (.int c), none, none]) (fun σ H' p => ?_) (fun go => ?_)
    · obtain ⟨rfl, c, rfl⟩ := p
      refine ⟨(show 4 ≤ sizeLine by rw [sizeLine_eq]; decide), fun pl nl => ?_⟩
      refine ⟨_, rfl, _, _, _, rfl, by decide, by decide, by decide, fun d d0 d1 => ?_⟩
      have hw : ∃ wd : Int, atI [V.int 2, .int 3, .int 5, .int 256] d = some (.int wd) ∧ 0 < wd := by
        have : d = 0 ∨ d = 1 ∨ d = 2 ∨ d = 3 := by omega
        rcases this with rfl | rfl | rfl | rfl
        · exact ⟨2, rfl, by decide⟩
        · exact ⟨3, rfl, by decide⟩
        · exact ⟨5, rfl, by decide⟩
        · exact ⟨256, rfl, by decide⟩
      obtain ⟨wd, aw, pw⟩ := hw
      refine ⟨pl, _, _, _, rfl, rfl, SqL.of upd_same, aw, ?_⟩
      have s1 : Same H' (upd H' pl (.lst [V.int 2, .int 3, .int 5, .int 256])) := grow nl
      generalize upd H' pl (.lst [V.int 2, .int 3, .int 5, .int 256]) = H1 at s1
      refine ⟨_, rfl, _, rfl, (b : Int), rfl, _, rfl, (e : Int), rfl, a, _, rfl, s1.seq hS, fun p np => ⟨p, rfl, ⟨_, SqL.of upd_same⟩, fun D nD => ?_⟩⟩
      rw [cut_mid] at nD ⊢
      obtain ⟨bs, ebs⟩ : ∃ bs : List Int, bs = ((ns.drop b).take (e - b)).map fun n => (n % wd + c / 4) % 256 := ⟨_, rfl⟩
      have hbs : ∀ x ∈ bs, 0 ≤ x ∧ x < 256 := by
        intro x hx
        rw [ebs] at hx
        obtain ⟨y, _, rfl⟩ := List.mem_map.mp hx
        omega
      have lbs : bs.length = ((ns.drop b).take (e - b)).length := by rw [ebs, List.length_map]
      have lbs2 : bs.length = min (e - b) (ns.length - b) := by rw [lbs, List.length_take, List.length_drop]
      refine lc_row (xs := ((ns.drop b).take (e - b)).map V.int) (ys := bs.map V.int) nD (SqL.of upd_same) ?_ ?_ (fun _ => rfl) (fun i x y H2 R hx hy sm r => ?_) (fun H2 sm h2 => ?_)
      · rw [List.length_map, List.length_map, lbs]
      · rw [List.length_map, List.length_take, List.length_drop]
        exact Nat.le_of_lt (small1000 (by omega))
      · obtain ⟨n, hn, rfl⟩ := got hx
        have ey : y = .int ((n % wd + c / 4) % 256) := by
          rw [ebs, List.getElem?_map, List.getElem?_map, hn] at hy
          exact (Option.some.inj hy).symm
        subst ey
        exact ⟨_, rfl, _, rfl, _, _, rfl, rfl, pw, _, rfl, _, 4, rfl, rfl, ⟨by decide, by decide⟩, _, _, rfl, rfl, _, 256, rfl, rfl, (show (0 : Int) < 256 by decide), r _ (Same.refl _)⟩
      · exact ⟨D, _, rfl, SqL.of h2, fun H3 t s3 h3 => q bs hbs lbs2 _ _ (s1.trans (((grow np).trans sm).trans s3)) h3⟩
    · refine ⟨_, rfl, _, .inl ⟨_, hS, rfl⟩, ite2 (fun z => ?_) (fun _ => go _ _ ⟨rfl, 0, rfl⟩)⟩
      have hns : 0 < ns.length := by
        cases ns with
        | nil => cases z
        | cons x r => exact Nat.zero_lt_succ _
      have g0 : (ns.map V.int)[0]? = some (.int ns[0]) := by rw [List.getElem?_map, List.getElem?_eq_getElem hns]; rfl
      exact ⟨_, rfl, a, _, 0, _, rfl, rfl, hS, at_of (j := 0) rfl g0, go _ _ ⟨rfl, _, rfl⟩⟩

/-! ### the law -/
theorem same_one {bs : List Int} {i : Nat} {y : Int} (hi : i < bs.length) (hbs : ∀ x ∈ bs, 0 ≤ x ∧ x < 256) (hy : 0 ≤ y ∧ y < 256) : chk 65535 (bs.take i ++ [y] ++ bs.drop (i + 1)) = chk 65535 bs ↔ bs.take i ++ [y] ++ bs.drop (i + 1) = bs := by
  have em : bs = bs.take i ++ bs[i] :: bs.drop (i + 1) := by rw [← List.drop_eq_getElem_cons hi, List.take_append_drop]
  constructor
  · intro h
    rw [show chk 65535 bs = chk 65535 (bs.take i ++ bs[i] :: bs.drop (i + 1)) from congrArg _ em] at h
    have e := other_one (hbs _ (List.getElem_mem hi)) hy h
    rw [e, List.append_assoc]
    exact em.symm
  · intro h
    rw [h]
theorem same_two {bs : List Int} {i : Nat} {y z : Int} (hi : i + 1 < bs.length) (hbs : ∀ x ∈ bs, 0 ≤ x ∧ x < 256) (hy : 0 ≤ y ∧ y < 256) (hz : 0 ≤ z ∧ z < 256) : chk 65535 (bs.take i ++ [y, z] ++ bs.drop (i + 2)) = chk 65535 bs ↔ bs.take i ++ [y, z] ++ bs.drop (i + 2) = bs := by
  have hi0 : i < bs.length := by omega
  have em : bs = bs.take i ++ bs[i] :: bs[i + 1] :: bs.drop (i + 2) := by rw [← List.drop_eq_getElem_cons hi, ← List.drop_eq_getElem_cons hi0, List.take_append_drop]
  constructor
  · intro h
    rw [show chk 65535 bs = chk 65535 (bs.take i ++ bs[i] :: bs[i + 1] :: bs.drop (i + 2)) from congrArg _ em] at h
    have e := other_two (hbs _ (List.getElem_mem hi0)) (hbs _ (List.getElem_mem hi)) hy hz h
    rw [e.1, e.2, List.append_assoc]
    exact em.symm
  · intro h
    rw [h]
def spLaw (K : PySem.W.Frag) : Sp := fun vs H Q _ => ∃ (a : Addr) (ns : List Int), vs = [.ref a] ∧ SqL K H a (ns.map V.int) ∧ ns.length ≤ 63 ∧ ∀ H', Q (.bl true) H'
theorem ok_law {f : Addr} {fd : FuncData} (Ev : Env K mg) (CCheckOf : Cal P w K mg base "check_of" 3 ["some"] (spOf K)) (CLawFew : Cal P w K mg base "_law_few" 2 ["_law_script", "_law_begin", "_law_end"] (spFew K)) (F : Fun K "law" "law" sLaw f fd) :
    FnOk P w K mg base CX0 4 f fd ["_law_script"] (spLaw K) := by
  refine F.ok scLaw (fun vs H Q E h => ?_) (fun cdv A outer s H vs Q E hr h => ?_)
  · obtain ⟨a, ns, rfl, _⟩ := h; rfl
  · obtain ⟨a, ns, rfl, hS, hlen, q⟩ := h
    refine ⟨_, (pss_cons (ps_set (i := 1) scLaw.nd rfl (.inl rfl) (pe_c CLawFew (hr.mono (by decide)) (pa_cons (pv 0) (pa_cons pe_int (pa_cons pe_int pa_nil)))))
      (pss_cons (ps_set (i := 2) scLaw.nd rfl (.inl rfl) (pe_c CCheckOf (hr.mono (by decide)) (pa_cons (pv 1) pa_nil)))
      (pss_cons (ps_if (PW.pt (pw_or (pt_not (pt_val (pe_callB call_isi (by rfl) Ev.b_isinstance (by decide +kernel) (pa_cons (pv 2) (pa_cons (pe_btype (n := "int") (by rfl) Ev.b_int (by decide +kernel)) pa_nil))))) (pw_or (pt_val (pe_callB call_isi (by rfl) Ev.b_isinstance (by decide +kernel) (pa_cons (pv 2) (pa_cons (pe_btype (n := "bool") (by rfl) Ev.b_bool (by decide +kernel)) pa_nil)))) (pw_or1 (pt_not (pt_chain op_le op_lt pe_int (pv 2) pe_int))))))
        (pss_one (ps_ret pe_bl))
        pss_nil)
      (pss_cons (ps_for PassesOwn.never rfl (pi_range1 (by rfl) Ev.b_range (pa_cons (pe_callB call_len_seq (by rfl) Ev.b_len PySem.boot_len (pa_cons (pv 1) pa_nil)) pa_nil)) (pg_name (i := 3) scLaw.nd rfl (.inl rfl))
        (pss_cons (ps_set (i := 4) scLaw.nd rfl (.inl rfl) (pe_tupU (pa_cons (pe_op op_mod (pe_op op_fdiv (pe_ix ix_list (pv 0) pe_int (fun _ _ => rfl)) (pe_op op_add (pv 3) pe_int)) pe_int) (pa_cons (pe_op op_mod (pe_op op_fdiv (pe_ix ix_list (pv 0) pe_int (fun _ _ => rfl)) (pe_op op_add (pv 3) pe_int)) pe_int) pa_nil))))
        (pss_cons (ps_for PassesOwn.never rfl (pi_tup (pe_tupU (pa_cons pe_int (pa_cons pe_int pa_nil)))) (pg_name (i := 5) scLaw.nd rfl (.inl rfl))
          (pss_cons (ps_set (i := 7) scLaw.nd rfl (.inl rfl) (pe_op op_catU (pe_op op_catU (pe_slice sl_tupU (pv 1) po_none (po_some (pv 3))) (pe_slice sl_tupU (pv 4) po_none (po_some (pv 5)))) (pe_slice sl_tupU (pv 1) (po_some (pe_op op_add (pv 3) (pv 5))) po_none)))
          (pss_one (ps_if (PW.pt (pw_and (pt_cmpR op_eq (pe_callB call_len_seq (by rfl) Ev.b_len PySem.boot_len (pa_cons (pv 7) pa_nil)) (pe_callB call_len_seq (by rfl) Ev.b_len PySem.boot_len (pa_cons (pv 1) pa_nil)) (nomark _)) (pw_and1 (pt_cmpR op_ne (pe_cmpR op_eq (pe_c CCheckOf (hr.mono (by decide)) (pa_cons (pv 7) pa_nil)) (pv 2) (nomark _)) (pe_cmpR (op_eqD hr.units) (pv 7) (pv 1) (nomark _)) (nomark _)))))
            (pss_one (ps_ret pe_bl))
            pss_nil))))
        (pss_cons (ps_set (i := 6) scLaw.nd rfl (.inl rfl) (pe_ix ix_tup (pv 1) (pv 3) (fun _ _ => rfl)))
        (pss_cons (ps_set (i := 7) scLaw.nd rfl (.inl rfl) (pe_op op_catU (pe_op op_catU (pe_slice sl_tupU (pv 1) po_none (po_some (pv 3))) (pe_tupU (pa_cons (pe_op op_mod (pe_op op_add (pe_op op_add (pv 6) pe_int) (pe_op op_mod (pe_ix ix_list (pv 0) pe_int (fun _ _ => rfl)) pe_int)) pe_int) pa_nil))) (pe_slice sl_tupU (pv 1) (po_some (pe_op op_add (pv 3) pe_int)) po_none)))
        (pss_one (ps_if (pt_cmpR op_eq (pe_c CCheckOf (hr.mono (by decide)) (pa_cons (pv 7) pa_nil)) (pv 2) (nomark _))
          (pss_one (ps_ret pe_bl))
          pss_nil)))))))
      (pss_one (ps_ret pe_bl)))))), ?_⟩
    refine ⟨_, rfl, a, ns, 3, 24, rfl, hS, hlen, fun bs hbs lbs H1 p1 s1 h1 => ?_⟩
    have b1 : bs.length ≤ 21 := by rw [lbs]; omega
    refine ⟨_, rfl, p1, bs, rfl, h1, hbs, fun H2 s2 => ?_⟩
    have cb := chk_in bs 65535 (by decide)
    refine ⟨.int (chk 65535 bs), rfl, _, _, _, _, true, rfl, .ty "int", .base (.int _), k_ii, true, rfl, iteF ?_⟩
    refine ⟨.int (chk 65535 bs), rfl, _, _, _, _, false, rfl, .ty "bool", .base (.int _), k_ib, false, rfl, iteF ?_⟩
    refine ⟨.int (chk 65535 bs), rfl, _, _, rfl, rfl, true, congrArg V.bl (decide_eq_true cb.1), iteT ?_⟩
    refine ⟨_, _, rfl, rfl, true, congrArg V.bl (decide_eq_true cb.2), iteF ?_⟩
    refine ⟨_, rfl, p1, _, rfl, .inr (keepT s2 h1), _, rfl, by omega, by rw [List.length_map]; omega, for_range (lo := 0) (fun i σ H' => ∃ y3 y4 y5 y6 y7, σ = [some (.ref a), some (.ref p1), some (.int (chk 65535 bs)), y3, y4, y5, y6, y7] ∧ Same H1 H') ⟨none, none, none, none, none, rfl, s2⟩ (fun i σ H4 hi p => ?_) (fun σ H4 p => q _)⟩
    obtain ⟨y3, y4, y5, y6, y7, rfl, sm4⟩ := p
    have hk : i < bs.length := by
      rw [List.length_map] at hi
      omega
    have hns : 3 < ns.length := by
      rw [lbs] at hk
      omega
    have e0 : (0 : Int) + (i : Int) = ((i : Nat) : Int) := by omega
    rw [e0]
    have hb4 : SqT K H4 p1 (bs.map V.int) := keepT sm4 h1
    have hS4 : SqL K H4 a (ns.map V.int) := (s1.trans sm4).seq hS
    have g1 : (ns.map V.int)[1]? = some (.int ns[1]) := by rw [List.getElem?_map, List.getElem?_eq_getElem (by omega)]; rfl
    have g2 : (ns.map V.int)[2]? = some (.int ns[2]) := by rw [List.getElem?_map, List.getElem?_eq_getElem (by omega)]; rfl
    refine ⟨_, rfl, a, _, 1, _, rfl, rfl, hS4, at_of (j := 1) rfl g1, _, rfl, _, _, rfl, rfl, _, _, rfl, rfl, ⟨by omega, by omega⟩, _, 256, rfl, rfl, (show (0 : Int) < 256 by decide), ?_⟩
    refine ⟨_, rfl, a, _, 2, _, rfl, rfl, hS4, at_of (j := 2) rfl g2, _, rfl, _, _, rfl, rfl, _, _, rfl, rfl, ⟨by omega, by omega⟩, _, 256, rfl, rfl, (show (0 : Int) < 256 by decide), (show 2 ≤ sizeLine by rw [sizeLine_eq]; decide), fun H5 p5 s5 h5 => ?_⟩
    obtain ⟨u, eu⟩ : ∃ u, u = ns[1] / ((i : Int) + 1) % 256 := ⟨_, rfl⟩
    obtain ⟨v, ev⟩ : ∃ v, v = ns[2] / ((i : Int) + 1) % 256 := ⟨_, rfl⟩
    have hu : 0 ≤ u ∧ u < 256 := by omega
    have hv : 0 ≤ v ∧ v < 256 := by omega
    have h5' : SqT K H5 p5 (([u, v] : List Int).map V.int) := by
      rw [eu, ev]
      exact h5
    refine ⟨(show 2 ≤ sizeLine by rw [sizeLine_eq]; decide), fun H6 p6 s6 h6 => ?_⟩
    refine ⟨p6, rfl, ⟨_, h6⟩, for_tup (xs := ([1, 2] : List Int).map V.int) (fun j σ H' => ∃ y5 y7, σ = [some (.ref a), some (.ref p1), some (.int (chk 65535 bs)), some (.int (i : Int)), some (.ref p5), y5, y6, y7] ∧ Same H6 H') ⟨y5, y7, rfl, Same.refl _⟩ (fun j σ H' _ p => ?_) (fun j x σ H7 hj p => ?_) (fun σ H7 p => ?_)⟩
    · obtain ⟨_, _, _, e⟩ := p
      exact keepT e h6
    · obtain ⟨z5, z7, rfl, sm7⟩ := p
      obtain ⟨mm, hmm, rfl⟩ := got hj
      have mem : mm ∈ ([1, 2] : List Int) := List.mem_of_getElem? hmm
      obtain ⟨m, rfl, hm⟩ : ∃ m : Nat, mm = (m : Int) ∧ (m = 1 ∨ m = 2) := by
        simp only [List.mem_cons, List.not_mem_nil, or_false] at mem
        rcases mem with rfl | rfl
        · exact ⟨1, rfl, .inl rfl⟩
        · exact ⟨2, rfl, .inr rfl⟩
      have s47 : Same H4 H7 := s5.trans (s6.trans sm7)
      have hb7 := keepT s47 hb4
      have h57 := keepT (s6.trans sm7) h5'
      refine ⟨_, rfl, _, rfl, (i : Int), rfl, p1, _, rfl, hb7, fun H8 p8 s8 h8 => ?_⟩
      rw [cut_to] at h8
      refine ⟨_, rfl, _, rfl, (m : Int), rfl, p5, _, rfl, keepT s8 h57, fun H9 p9 s9 h9 => ?_⟩
      rw [cut_to] at h9
      refine ⟨p8, p9, _, _, rfl, rfl, keepT s9 h8, h9, ?_, fun Ha pa sa ha => ?_⟩
      · exact Nat.le_of_lt (small1000 (by rw [List.length_map, List.length_map, List.length_take, List.length_take]; simp only [List.length_cons, List.length_nil]; omega))
      refine ⟨_, rfl, _, rfl, _, rfl, _, _, rfl, rfl, _, rfl, p1, _, rfl, keepT (s8.trans (s9.trans sa)) hb7, fun Hb pb sb hb => ?_⟩
      have em : (i : Int) + (m : Int) = ((i + m : Nat) : Int) := by omega
      rw [em, cut_from] at hb
      refine ⟨pa, pb, _, _, rfl, rfl, keepT sb ha, hb, ?_, fun Hc pc sc hc => ?_⟩
      · exact Nat.le_of_lt (small1000 (by rw [List.length_append, List.length_map, List.length_map, List.length_map, List.length_take, List.length_take, List.length_drop]; simp only [List.length_cons, List.length_nil]; omega))
      have hc' : SqT K Hc pc ((bs.take i ++ ([u, v] : List Int).take m ++ bs.drop (i + m)).map V.int) := by
        rw [List.map_append, List.map_append]; exact hc
      have s7c : Same H7 Hc := s8.trans (s9.trans (sa.trans (sb.trans sc)))
      have hbc := keepT s7c hb7
      have fin : ∀ (H' : Hp) (w5 w7 : Option V), Same Hc H' → ∃ y5 y7, [some (V.ref a), some (V.ref p1), some (V.int (chk 65535 bs)), some (V.int (i : Int)), some (V.ref p5), w5, y6, w7] = [some (V.ref a), some (V.ref p1), some (V.int (chk 65535 bs)), some (V.int (i : Int)), some (V.ref p5), y5, y6, y7] ∧ Same H6 H' :=
        fun H' w5 w7 e => ⟨w5, w7, rfl, sm7.trans (s7c.trans e)⟩
      refine ⟨_, rfl, pc, _, rfl, .inr hc', _, rfl, p1, _, rfl, .inr hbc, rfl, _, rfl, ite2 (fun e => ?_) (fun _ => iteF (fin _ _ _ (Same.refl _)))⟩
      have el : (bs.take i ++ ([u, v] : List Int).take m ++ bs.drop (i + m)).length = bs.length := by
        have := V.int.inj (of_decide_eq_true e)
        rw [List.length_map, List.length_map] at this
        omega
      have rng : ∀ x ∈ bs.take i ++ ([u, v] : List Int).take m ++ bs.drop (i + m), 0 ≤ x ∧ x < 256 := by
        intro x hx
        rcases List.mem_append.mp hx with hx | hx
        · rcases List.mem_append.mp hx with hx | hx
          · exact hbs x (List.mem_of_mem_take hx)
          · have hx := List.mem_of_mem_take hx
            simp only [List.mem_cons, List.not_mem_nil, or_false] at hx
            rcases hx with rfl | rfl
            · exact hu
            · exact hv
        · exact hbs x (List.mem_of_mem_drop hx)
      have same : chk 65535 (bs.take i ++ ([u, v] : List Int).take m ++ bs.drop (i + m)) = chk 65535 bs ↔ bs.take i ++ ([u, v] : List Int).take m ++ bs.drop (i + m) = bs := by
        rcases hm with rfl | rfl
        · exact same_one hk hbs hu
        · refine same_two ?_ hbs hu hv
          rw [List.length_append, List.length_append, List.length_take, List.length_drop] at el
          simp only [List.take, List.length_cons, List.length_nil] at el
          omega
      refine ⟨_, rfl, pc, _, rfl, hc', rng, fun Hd sd => ?_⟩
      refine ⟨_, rfl, rfl, _, rfl, _, rfl, _, _, dp_ints (keepT sd hc'), dp_ints (keepT sd hbc), shape_ints _, shape_ints _, rfl, _, rfl, ite2 (fun z => ?_) (fun _ => fin _ _ _ sd)⟩
      rw [eqv_tup, dec_int, dec_bl] at z
      have zz : (chk 65535 (bs.take i ++ ([u, v] : List Int).take m ++ bs.drop (i + m)) == chk 65535 bs) = decide (bs.take i ++ ([u, v] : List Int).take m ++ bs.drop (i + m) = bs) := by
        rw [Bool.eq_iff_iff, beq_iff_eq, decide_eq_true_eq]
        exact same
      rw [zz] at z
      simp at z
    · obtain ⟨z5, z7, rfl, sm7⟩ := p
      have s47 : Same H4 H7 := s5.trans (s6.trans sm7)
      have hb7 := keepT s47 hb4
      have hS7 := s47.seq hS4
      have gk : (bs.map V.int)[i]? = some (.int bs[i]) := by rw [List.getElem?_map, List.getElem?_eq_getElem hk]; rfl
      have ck := hbs bs[i] (List.getElem_mem hk)
      refine ⟨_, rfl, _, rfl, p1, _, _, _, rfl, rfl, hb7, atI_nat gk, ?_⟩
      refine ⟨_, rfl, _, rfl, (i : Int), rfl, p1, _, rfl, hb7, fun H8 p8 s8 h8 => ?_⟩
      rw [cut_to] at h8
      refine ⟨_, rfl, _, _, rfl, rfl, _, rfl, a, _, 1, _, rfl, rfl, s8.seq hS7, at_of (j := 1) rfl g1, _, 255, rfl, rfl, (show (0 : Int) < 255 by decide), _, _, rfl, rfl, _, 256, rfl, rfl, (show (0 : Int) < 256 by decide), (show 1 ≤ sizeLine by rw [sizeLine_eq]; decide), fun H9 p9 s9 h9 => ?_⟩
      obtain ⟨y, ey⟩ : ∃ y, y = (bs[i] + 1 + ns[1] % 255) % 256 := ⟨_, rfl⟩
      have hy : 0 ≤ y ∧ y < 256 ∧ y ≠ bs[i] := by omega
      refine ⟨p8, p9, _, _, rfl, rfl, keepT s9 h8, h9, ?_, fun Ha pa sa ha => ?_⟩
      · exact Nat.le_of_lt (small1000 (by rw [List.length_map, List.length_take]; simp only [List.length_cons, List.length_nil]; omega))
      refine ⟨_, rfl, _, rfl, _, _, rfl, rfl, _, rfl, p1, _, rfl, keepT (s8.trans (s9.trans sa)) hb7, fun Hb pb sb hb => ?_⟩
      have e1 : (i : Int) + 1 = ((i + 1 : Nat) : Int) := by omega
      rw [e1, cut_from] at hb
      refine ⟨pa, pb, _, _, rfl, rfl, keepT sb ha, hb, ?_, fun Hc pc sc hc => ?_⟩
      · exact Nat.le_of_lt (small1000 (by rw [List.length_append, List.length_map, List.length_map, List.length_take, List.length_drop]; simp only [List.length_cons, List.length_nil]; omega))
      have hc' : SqT K Hc pc ((bs.take i ++ [y] ++ bs.drop (i + 1)).map V.int) := by
        rw [List.map_append, List.map_append, ey]; exact hc
      have rng : ∀ x ∈ bs.take i ++ [y] ++ bs.drop (i + 1), 0 ≤ x ∧ x < 256 := by
        intro x hx
        rcases List.mem_append.mp hx with hx | hx
        · rcases List.mem_append.mp hx with hx | hx
          · exact hbs x (List.mem_of_mem_take hx)
          · rw [List.mem_singleton.mp hx]
            exact ⟨hy.1, hy.2.1⟩
        · exact hbs x (List.mem_of_mem_drop hx)
      refine ⟨_, rfl, pc, _, rfl, hc', rng, fun Hd sd => ?_⟩
      refine ⟨_, rfl, rfl, _, rfl, ite2 (fun e => ?_) (fun _ => ⟨_, _, _, _, _, rfl, sm4.trans (s47.trans (s8.trans (s9.trans (sa.trans (sb.trans (sc.trans sd))))))⟩)⟩
      have e' : chk 65535 (bs.take i ++ [y] ++ bs.drop (i + 1)) = chk 65535 bs := V.int.inj (of_decide_eq_true e)
      have em : bs = bs.take i ++ bs[i] :: bs.drop (i + 1) := by rw [← List.drop_eq_getElem_cons hk, List.take_append_drop]
      rw [show chk 65535 bs = chk 65535 (bs.take i ++ bs[i] :: bs.drop (i + 1)) from congrArg _ em] at e'
      exact absurd (other_one ck ⟨hy.1, hy.2.1⟩ e') hy.2.2
end
/-! ### the end -/
theorem all_mk {l : PySem.W.OpenLaw} {w : World} {K : PySem.W.Frag} {h : Heap} {mg : Str → Option Value} {fa fn0 fn1 fn2 fn3 fn4 fn5 : Addr} (X : K.In h) (G : h.Ns mainGlobals mg) (hfa : mg "law" = some (.ref fa))
    {od0 an0 od1 an1 od2 an2 od3 an3 od4 an4 od5 an5 : Option Addr} {sl0 sl1 sl2 sl3 sl4 sl5 : Array (Option Value)} {oc0 kV0 dc0 pm0 cd0 ct0 oc1 kV1 dc1 pm1 cd1 ct1 oc2 kV2 dc2 pm2 cd2 ct2 oc3 kV3 dc3 pm3 cd3 ct3 oc4 kV4 dc4 pm4 cd4 ct4 oc5 kV5 dc5 pm5 cd5 ct5 : Value} {at_BITS_OF_BYTE : Addr} {dd_BITS_OF_BYTE : Option Addr} {nn_BITS_OF_BYTE : Nat} {so_BITS_OF_BYTE : Array (Option Value)} {t_BITS_OF_BYTE0 t_BITS_OF_BYTE1 t_BITS_OF_BYTE2 t_BITS_OF_BYTE3 t_BITS_OF_BYTE4 t_BITS_OF_BYTE5 t_BITS_OF_BYTE6 t_BITS_OF_BYTE7 : Tok} {t_FIRST_MARK : Tok} {t_MARK_LIMIT : Tok} {t_TOP_BIT : Tok} {t_TURNED_BITS : Tok}
    (a0 : PySem.W.nsIn K mainGlobals "next_mark" = some (some (.ref fn0))) (l0 : K.lookup fn0 = some ⟨oc0, od0, .func (PySem.W.fnOf "next_mark" "next_mark" (defArgs sNextMark) (defBody sNextMark) (defScope sNextMark) .none kV0 dc0 pm0 an0 cd0 ct0), sl0⟩) (c0 : PySem.W.codeIn K cd0 "next_mark" = true) (k0 : PySem.W.keepIn K (.ref fn0) = true)
    (a1 : PySem.W.nsIn K mainGlobals "check_on" = some (some (.ref fn1))) (l1 : K.lookup fn1 = some ⟨oc1, od1, .func (PySem.W.fnOf "check_on" "check_on" (defArgs sCheckOn) (defBody sCheckOn) (defScope sCheckOn) .none kV1 dc1 pm1 an1 cd1 ct1), sl1⟩) (c1 : PySem.W.codeIn K cd1 "check_on" = true) (k1 : PySem.W.keepIn K (.ref fn1) = true)
    (a2 : PySem.W.nsIn K mainGlobals "check_of" = some (some (.ref fn2))) (l2 : K.lookup fn2 = some ⟨oc2, od2, .func (PySem.W.fnOf "check_of" "check_of" (defArgs sCheckOf) (defBody sCheckOf) (defScope sCheckOf) .none kV2 dc2 pm2 an2 cd2 ct2), sl2⟩) (c2 : PySem.W.codeIn K cd2 "check_of" = true) (k2 : PySem.W.keepIn K (.ref fn2) = true)
    (a3 : PySem.W.nsIn K mainGlobals "_law_d" = some (some (.ref fn3))) (l3 : K.lookup fn3 = some ⟨oc3, od3, .func (PySem.W.fnOf "_law_d" "_law_d" (defArgs sLawD) (defBody sLawD) (defScope sLawD) .none kV3 dc3 pm3 an3 cd3 ct3), sl3⟩) (c3 : PySem.W.codeIn K cd3 "_law_d" = true) (k3 : PySem.W.keepIn K (.ref fn3) = true)
    (a4 : PySem.W.nsIn K mainGlobals "_law_few" = some (some (.ref fn4))) (l4 : K.lookup fn4 = some ⟨oc4, od4, .func (PySem.W.fnOf "_law_few" "_law_few" (defArgs sLawFew) (defBody sLawFew) (defScope sLawFew) .none kV4 dc4 pm4 an4 cd4 ct4), sl4⟩) (c4 : PySem.W.codeIn K cd4 "_law_few" = true) (k4 : PySem.W.keepIn K (.ref fn4) = true)
    (a5 : PySem.W.nsIn K mainGlobals "law" = some (some (.ref fn5))) (l5 : K.lookup fn5 = some ⟨oc5, od5, .func (PySem.W.fnOf "law" "law" (defArgs sLaw) (defBody sLaw) (defScope sLaw) .none kV5 dc5 pm5 an5 cd5 ct5), sl5⟩) (c5 : PySem.W.codeIn K cd5 "law" = true) (k5 : PySem.W.keepIn K (.ref fn5) = true)
    (z_bool : PySem.W.nsIn K mainGlobals "bool" = some none)
    (z_int : PySem.W.nsIn K mainGlobals "int" = some none)
    (z_isinstance : PySem.W.nsIn K mainGlobals "isinstance" = some none)
    (z_len : PySem.W.nsIn K mainGlobals "len" = some none)
    (z_range : PySem.W.nsIn K mainGlobals "range" = some none)
    (z_tuple : PySem.W.nsIn K mainGlobals "tuple" = some none)
    (g_BITS_OF_BYTE : PySem.W.nsIn K mainGlobals "BITS_OF_BYTE" = some (some (.ref at_BITS_OF_BYTE))) (h_BITS_OF_BYTE : K.lookup at_BITS_OF_BYTE = some ⟨.type "tuple", dd_BITS_OF_BYTE, .seq #[.int 128 t_BITS_OF_BYTE0, .int 64 t_BITS_OF_BYTE1, .int 32 t_BITS_OF_BYTE2, .int 16 t_BITS_OF_BYTE3, .int 8 t_BITS_OF_BYTE4, .int 4 t_BITS_OF_BYTE5, .int 2 t_BITS_OF_BYTE6, .int 1 t_BITS_OF_BYTE7] nn_BITS_OF_BYTE, so_BITS_OF_BYTE⟩)
    (g_FIRST_MARK : PySem.W.nsIn K mainGlobals "FIRST_MARK" = some (some (.int 65535 t_FIRST_MARK)))
    (g_MARK_LIMIT : PySem.W.nsIn K mainGlobals "MARK_LIMIT" = some (some (.int 65536 t_MARK_LIMIT)))
    (g_TOP_BIT : PySem.W.nsIn K mainGlobals "TOP_BIT" = some (some (.int 32768 t_TOP_BIT)))
    (g_TURNED_BITS : PySem.W.nsIn K mainGlobals "TURNED_BITS" = some (some (.int 4129 t_TURNED_BITS))) :
    ∃ fd : FuncData, (∀ (s : Shared) (v : Value), BindsTo s fd ⟨[v], []⟩ [("_law_script", v)]) ∧ ∀ base : Heap, K.In base → base.Ns mainGlobals mg → FnOk l.prog w K mg base CX0 4 fa fd ["_law_script"] (spLaw K) := by
  have e := hfa.symm.trans (PySem.W.mg_of X G a5)
  cases e
  have Ev : Env K mg := ⟨PySem.W.mg_none_of X G z_bool, PySem.W.mg_none_of X G z_int, PySem.W.mg_none_of X G z_isinstance, PySem.W.mg_none_of X G z_len, PySem.W.mg_none_of X G z_range, PySem.W.mg_none_of X G z_tuple, ⟨_, PySem.W.mg_of X G g_BITS_OF_BYTE, fun _ => .inr ⟨_, _, _, h_BITS_OF_BYTE, rfl, rfl, (show 8 ≤ sizeLine by rw [sizeLine_eq]; decide), (.cons ⟨_, rfl⟩ (.cons ⟨_, rfl⟩ (.cons ⟨_, rfl⟩ (.cons ⟨_, rfl⟩ (.cons ⟨_, rfl⟩ (.cons ⟨_, rfl⟩ (.cons ⟨_, rfl⟩ (.cons ⟨_, rfl⟩ .nil))))))))⟩⟩, ⟨_, PySem.W.mg_of X G g_FIRST_MARK⟩, ⟨_, PySem.W.mg_of X G g_MARK_LIMIT⟩, ⟨_, PySem.W.mg_of X G g_TOP_BIT⟩, ⟨_, PySem.W.mg_of X G g_TURNED_BITS⟩⟩
  have F0 := fun_mk (st := sNextMark) l0 c0 k0
  have F1 := fun_mk (st := sCheckOn) l1 c1 k1
  have F2 := fun_mk (st := sCheckOf) l2 c2 k2
  have F3 := fun_mk (st := sLawD) l3 c3 k3
  have F4 := fun_mk (st := sLawFew) l4 c4 k4
  have F5 := fun_mk (st := sLaw) l5 c5 k5
  refine ⟨PySem.W.fnOf "law" "law" (defArgs sLaw) (defBody sLaw) (defScope sLaw) .none kV5 dc5 pm5 an5 cd5 ct5, fun s v => .of_eq rfl, fun base _ _ => ?_⟩
  have C_0 : Cal l.prog w K mg base "next_mark" 1 ["mark", "bit_is_set"] spNext := ⟨_, _, ok_next Ev  F0, PySem.W.mg_of X G a0, k0, F0.binds fun _ _ _ _ _ _ us hl => match us, hl with | [_, _], _ => rfl⟩
  have C_1 : Cal l.prog w K mg base "check_on" 2 ["before", "some"] (spOn K) := ⟨_, _, ok_on Ev C_0 F1, PySem.W.mg_of X G a1, k1, F1.binds fun _ _ _ _ _ _ us hl => match us, hl with | [_, _], _ => rfl⟩
  have C_2 : Cal l.prog w K mg base "check_of" 3 ["some"] (spOf K) := ⟨_, _, ok_of Ev C_1 F2, PySem.W.mg_of X G a2, k2, F2.binds fun _ _ _ _ _ _ us hl => match us, hl with | [_], _ => rfl⟩
  have C_3 : Cal l.prog w K mg base "_law_d" 1 ["_law_cell", "_law_place", "_law_many"] spD := ⟨_, _, ok_d Ev  F3, PySem.W.mg_of X G a3, k3, F3.binds fun _ _ _ _ _ _ us hl => match us, hl with | [_, _, _], _ => rfl⟩
  have C_4 : Cal l.prog w K mg base "_law_few" 2 ["_law_script", "_law_begin", "_law_end"] (spFew K) := ⟨_, _, ok_few Ev C_3 F4, PySem.W.mg_of X G a4, k4, F4.binds fun _ _ _ _ _ _ us hl => match us, hl with | [_, _, _], _ => rfl⟩
  exact ok_law Ev C_2 C_4 F5
end Fc
open PySem PySem.W PyProof.Rows
set_option maxHeartbeats 0 in
theorem PySem.Challenge.cw_filecrate_k07_whole_checks_tell_changes_holds : PySem.Challenge.rw_filecrate_k07_whole_checks_tell_changes.Holds := by
  w_on; o_law; k_head; (case hw => w_witness2)
  k_fill
  refine L2.walk_of (l := PySem.Challenge.rw_filecrate_k07_whole_checks_tell_changes) (n := 63) (k := 4) (x := "_law_script") (CX := fun _ => L2.CX0) (sp := fun w => Fc.spLaw _) rfl (by decide) rfl ⟨rfl, by decide, by decide⟩ (fun w h Y => PySem.W.kIn_of Y) ?F (fun _ _ a ns hl _ hS => ⟨a, ns, rfl, hS, hl, fun _ => rfl⟩) (fun _ _ _ _ _ h => h)
  case F =>
    intro w mg fa h KX G hmg
    refine' Fc.all_mk KX G hmg ?a0 ?l0 ?c0 ?k0 ?a1 ?l1 ?c1 ?k1 ?a2 ?l2 ?c2 ?k2 ?a3 ?l3 ?c3 ?k3 ?a4 ?l4 ?c4 ?k4 ?a5 ?l5 ?c5 ?k5 ?z_bool ?z_int ?z_isinstance ?z_len ?z_range ?z_tuple ?g_BITS_OF_BYTE ?h_BITS_OF_BYTE ?g_FIRST_MARK ?g_MARK_LIMIT ?g_TOP_BIT ?g_TURNED_BITS
    (case a0 => k_is); (case l0 => k_is); (case c0 => k_is); (case k0 => k_is); (case a1 => k_is); (case l1 => k_is); (case c1 => k_is); (case k1 => k_is); (case a2 => k_is); (case l2 => k_is); (case c2 => k_is); (case k2 => k_is); (case a3 => k_is); (case l3 => k_is); (case c3 => k_is); (case k3 => k_is); (case a4 => k_is); (case l4 => k_is); (case c4 => k_is); (case k4 => k_is); (case a5 => k_is); (case l5 => k_is); (case c5 => k_is); (case k5 => k_is); (case z_bool => k_is); (case z_int => k_is); (case z_isinstance => k_is); (case z_len => k_is); (case z_range => k_is); (case z_tuple => k_is); (case g_BITS_OF_BYTE => k_is); (case h_BITS_OF_BYTE => k_is); (case g_FIRST_MARK => k_is); (case g_MARK_LIMIT => k_is); (case g_TOP_BIT => k_is); (case g_TURNED_BITS => k_is)
