/- The text of a state, as a function; and the state of such a text is that state again. The text of any state whose places are within the width. The document's own answers for places (layer 1): a contract each, over places and none. -/
import Derived.Test.YtdocclkphffpkaaGreatMerge14
import Derived.Test.YtdocclkphffpkaaGreatLfLeaves
import Derived.Test.YtdocclkphffpkaaGreatLfSound
import Derived.Test.YtdocclkphffpkaaGreatMerge9
import Derived.Test.YtdocclkphffpkaaGreatMerge5
namespace Go.Proofs.YtdocclkphffpkaaGreat
open Go.RowKit

/-- The number of a place of width b; 0: none. -/
def codeOf (b : Nat) : Pl → Nat
  | none => 0
  | some p => p.1 * b + p.2 + 1
/-- The places are within width b. -/
def Narrow (b : Nat) (Z : Nat → Nat → Pl) : Prop := ∀ i j q, Z i j = some q → q.1 < 24 ∧ q.2 < b
theorem code_lt {b : Nat} {p : Pl} (hb : b ≤ 16) (h : ∀ q, p = some q → q.1 < 24 ∧ q.2 < b) : codeOf b p < 65536 := by
  cases p with
  | none => show 0 < 65536; omega
  | some q =>
    have h2 := h q rfl
    have : q.1 * b ≤ 23 * 16 := Nat.mul_le_mul (by omega) hb
    show q.1 * b + q.2 + 1 < 65536
    omega
theorem plOf_code {b : Nat} {p : Pl} (h1 : 1 ≤ b) (hb : b ≤ 16) (h : ∀ q, p = some q → q.1 < 24 ∧ q.2 < b) : plOf b (codeOf b p) = p := by
  cases p with
  | none =>
    have e : codeOf b none = 0 := rfl
    rw [e]
    unfold plOf
    rw [if_neg (by omega)]
  | some q =>
    obtain ⟨h2, h3⟩ := h q rfl
    have hm : q.1 * b ≤ 23 * b := Nat.mul_le_mul_right b (by omega)
    have e : codeOf b (some q) = q.1 * b + q.2 + 1 := rfl
    rw [e]
    unfold plOf
    rw [if_pos ⟨⟨h1, hb⟩, by omega, by omega⟩]
    congr 1
    refine Prod.ext ?_ ?_
    · show (q.1 * b + q.2 + 1 - 1) / b = q.1
      rw [Nat.add_sub_cancel, Nat.mul_comm, Nat.mul_add_div (by omega), Nat.div_eq_of_lt h3, Nat.add_zero]
    · show (q.1 * b + q.2 + 1 - 1) % b = q.2
      rw [Nat.add_sub_cancel, Nat.mul_comm, Nat.mul_add_mod, Nat.mod_eq_of_lt h3]

/-- The text of the first i entries. -/
def tx (b : Nat) (K S M : Nat → Nat) (Z : Nat → Nat → Pl) : Nat → Nat × (Nat → Nat)
  | 0 => (0, z0)
  | i + 1 => ((tx b K S M Z i).1 + 2 + M i * 2, behind (behind (tx b K S M Z i).2 (tx b K S M Z i).1 (pair (K i) (S i))) ((tx b K S M Z i).1 + 2) (rowB (fun j => codeOf b (Z i j)) 2))
theorem tx_next (b : Nat) (K S M : Nat → Nat) (Z : Nat → Nat → Pl) (i : Nat) : tx b K S M Z (i + 1) = ((tx b K S M Z i).1 + 2 + M i * 2, behind (behind (tx b K S M Z i).2 (tx b K S M Z i).1 (pair (K i) (S i))) ((tx b K S M Z i).1 + 2) (rowB (fun j => codeOf b (Z i j)) 2)) := rfl
theorem tx_len_le (b : Nat) (K S M : Nat → Nat) (Z : Nat → Nat → Pl) {i j : Nat} (h : i ≤ j) : (tx b K S M Z i).1 ≤ (tx b K S M Z j).1 := by
  induction j with
  | zero => obtain rfl : i = 0 := by omega
            exact Nat.le_refl _
  | succ j ih =>
    by_cases e : i = j + 1
    · subst e; exact Nat.le_refl _
    · have := ih (by omega)
      rw [tx_next]
      show _ ≤ (tx b K S M Z j).1 + 2 + M j * 2
      omega
theorem tx_small {b : Nat} {K S M : Nat → Nat} {Z : Nat → Nat → Pl} (hK : ∀ i, i < 8 → K i < 256 ∧ S i < 256) {i : Nat} (hi : i ≤ 8) : ∀ t, t < (tx b K S M Z i).1 → (tx b K S M Z i).2 t < 256 := by
  induction i with
  | zero => intro t ht; exact absurd ht (by show ¬ t < 0; omega)
  | succ i ih =>
    intro t ht
    rw [tx_next] at ht ⊢
    refine behind_lt (n := (tx b K S M Z i).1 + 2) (m := M i * 2) (behind_lt (ih (by omega)) fun t ht => ?_) (fun t _ => dig_lt _ _ _) t ht
    unfold pair
    have := hK i (by omega)
    split <;> omega
/-- What stands in a text stays behind its later entries. -/
theorem tx_stay (b : Nat) (K S M : Nat → Nat) (Z : Nat → Nat → Pl) {i j t : Nat} (h : i ≤ j) (ht : t < (tx b K S M Z i).1) : (tx b K S M Z j).2 t = (tx b K S M Z i).2 t := by
  induction j with
  | zero => obtain rfl : i = 0 := by omega
            rfl
  | succ j ih =>
    by_cases e : i = j + 1
    · subst e; rfl
    · have hl := tx_len_le b K S M Z (show i ≤ j by omega)
      rw [tx_next]
      show behind (behind (tx b K S M Z j).2 (tx b K S M Z j).1 _) ((tx b K S M Z j).1 + 2) _ t = _
      rw [behind_low (by omega), behind_low (by omega)]
      exact ih (by omega)
theorem tx_kind (b : Nat) (K S M : Nat → Nat) (Z : Nat → Nat → Pl) {i j : Nat} (h : i < j) : (tx b K S M Z j).2 (tx b K S M Z i).1 = K i := by
  rw [tx_stay b K S M Z (show i + 1 ≤ j by omega) (by rw [tx_next]; show _ < _ + 2 + _; omega), tx_next]
  show behind (behind _ _ _) _ _ _ = _
  rw [behind_low (by omega), behind_high (Nat.le_refl _), Nat.sub_self]
  rfl
theorem tx_size (b : Nat) (K S M : Nat → Nat) (Z : Nat → Nat → Pl) {i j : Nat} (h : i < j) : (tx b K S M Z j).2 ((tx b K S M Z i).1 + 1) = S i := by
  rw [tx_stay b K S M Z (show i + 1 ≤ j by omega) (by rw [tx_next]; show _ < _ + 2 + _; omega), tx_next]
  show behind (behind _ _ _) _ _ _ = _
  rw [behind_low (by omega), behind_high (by omega), Nat.add_sub_cancel_left]
  rfl
theorem tx_code (b : Nat) (K S M : Nat → Nat) (Z : Nat → Nat → Pl) {i j t : Nat} (h : i < j) (ht : t < M i * 2) : (tx b K S M Z j).2 ((tx b K S M Z i).1 + (2 + t)) = rowB (fun j => codeOf b (Z i j)) 2 t := by
  rw [tx_stay b K S M Z (show i + 1 ≤ j by omega) (by rw [tx_next]; show _ < _ + 2 + _; omega), tx_next]
  show behind (behind _ _ _) _ _ _ = _
  rw [behind_high (by omega), show (tx b K S M Z i).1 + (2 + t) - ((tx b K S M Z i).1 + 2) = t by omega]

/-- The places at which volumes begin. -/
theorem vpos_tx {b : Nat} {K S M : Nat → Nat} {Z : Nat → Nat → Pl} (hM : ∀ i, i < 8 → M i = S i) {i : Nat} (hi : i ≤ 8) : vpos (tx b K S M Z 8).1 (tx b K S M Z 8).2 i = (tx b K S M Z i).1 := by
  induction i with
  | zero => rfl
  | succ i ih =>
    have h1 := ih (by omega)
    show vpos _ _ i + vstep _ _ (vpos _ _ i) = _
    rw [h1]
    unfold vstep
    rw [tx_size b K S M Z (show i < 8 by omega)]
    have hl := tx_len_le b K S M Z (show i + 1 ≤ 8 by omega)
    rw [tx_next b K S M Z i] at hl ⊢
    have hm := hM i (by omega)
    have hl : (tx b K S M Z i).1 + 2 + M i * 2 ≤ (tx b K S M Z 8).1 := hl
    show _ = (tx b K S M Z i).1 + 2 + M i * 2
    rw [hm] at hl ⊢
    omega
theorem vstep_tx {b : Nat} {K S M : Nat → Nat} {Z : Nat → Nat → Pl} (hM : ∀ i, i < 8 → M i = S i) {i : Nat} (hi : i < 8) : vstep (tx b K S M Z 8).1 (tx b K S M Z 8).2 (tx b K S M Z i).1 = 2 + 2 * S i := by
  unfold vstep
  rw [tx_size b K S M Z hi]
  have hl := tx_len_le b K S M Z (show i + 1 ≤ 8 by omega)
  rw [tx_next b K S M Z i] at hl
  have hm := hM i hi
  have hl : (tx b K S M Z i).1 + 2 + M i * 2 ≤ (tx b K S M Z 8).1 := hl
  rw [hm] at hl
  omega
theorem vols_tx {b : Nat} {K S M : Nat → Nat} {Z : Nat → Nat → Pl} (hM : ∀ i, i < 8 → M i = S i) {nv : Nat} (h : Vols (tx b K S M Z 8).1 (tx b K S M Z 8).2 nv) : nv = 8 := by
  by_cases h8 : nv < 8
  · have h2 := h.2.2 h8
    rw [vpos_tx hM (by omega)] at h2
    have hl := tx_len_le b K S M Z (show nv + 1 ≤ 8 by omega)
    rw [tx_next b K S M Z nv] at hl
    have hl : (tx b K S M Z nv).1 + 2 + M nv * 2 ≤ (tx b K S M Z 8).1 := hl
    omega
  · have := h.1
    omega
/-- The state of a state's text. -/
theorem st_tx {b : Nat} {K S M : Nat → Nat} {Z : Nat → Nat → Pl} (h1 : 1 ≤ b) (hb : b ≤ 16) (hM : ∀ i, i < 8 → M i = S i) (hZ : Narrow b Z) {nv : Nat} (h : Vols (tx b K S M Z 8).1 (tx b K S M Z 8).2 nv) {i : Nat} (hi : i < 8) :
    stK (tx b K S M Z 8).1 (tx b K S M Z 8).2 nv i = K i ∧ stS (tx b K S M Z 8).1 (tx b K S M Z 8).2 nv i = S i ∧ stM (tx b K S M Z 8).1 (tx b K S M Z 8).2 nv i = M i ∧
      ∀ j, j < M i → stZ b (tx b K S M Z 8).1 (tx b K S M Z 8).2 i j = Z i j := by
  obtain rfl := vols_tx hM h
  have hv := vpos_tx (b := b) (Z := Z) (K := K) hM (show i ≤ 8 by omega)
  refine ⟨?_, ?_, ?_, fun j hj => ?_⟩
  · unfold stK
    rw [if_pos hi, hv, tx_kind b K S M Z hi]
  · unfold stS
    rw [if_pos hi, hv, tx_size b K S M Z hi]
  · unfold stM
    rw [if_pos hi, hv, vstep_tx hM hi, hM i hi]
    unfold halves
    rw [if_pos (by omega)]
    omega
  · unfold stZ
    rw [hv]
    have hc : rowN (fun t => (tx b K S M Z 8).2 ((tx b K S M Z i).1 + (2 + t))) 2 j = rowN (rowB (fun j => codeOf b (Z i j)) 2) 2 j := by
      unfold rowN
      exact val_congr fun t ht => tx_code b K S M Z hi (by omega)
    rw [hc, rowN_rowB (by have := code_lt hb (hZ i j); show _ < 65536; exact this)]
    exact plOf_code h1 hb (hZ i j)
/-- Like states have like texts. -/
theorem tx_congr {b : Nat} {K S M K' S' M' : Nat → Nat} {Z Z' : Nat → Nat → Pl} {n : Nat} (hn : n ≤ 8) (h : ∀ i, i < 8 → K i = K' i ∧ S i = S' i ∧ M i = M' i ∧ ∀ j, j < M i → Z i j = Z' i j) :
    (tx b K S M Z n).1 = (tx b K' S' M' Z' n).1 ∧ ∀ t, t < (tx b K S M Z n).1 → (tx b K S M Z n).2 t = (tx b K' S' M' Z' n).2 t := by
  induction n with
  | zero => exact ⟨rfl, fun t ht => absurd ht (by show ¬ t < 0; omega)⟩
  | succ n ih =>
    obtain ⟨e, hs⟩ := ih (by omega)
    obtain ⟨h1, h2, h3, h4⟩ := h n (by omega)
    rw [tx_next, tx_next]
    refine ⟨by show _ + 2 + _ = _ + 2 + _; rw [e, h3], fun t ht => ?_⟩
    have ht : t < (tx b K S M Z n).1 + 2 + M n * 2 := ht
    show behind (behind _ _ _) _ _ t = behind (behind _ _ _) _ _ t
    rw [← e, ← h1, ← h2]
    by_cases c1 : t < (tx b K S M Z n).1 + 2
    · rw [behind_low c1, behind_low c1]
      by_cases c2 : t < (tx b K S M Z n).1
      · rw [behind_low c2, behind_low c2]; exact hs t c2
      · rw [behind_high (by omega), behind_high (by omega)]
    · rw [behind_high (by omega), behind_high (by omega)]
      unfold rowB
      show dig (codeOf b (Z n _)) 2 _ = dig (codeOf b (Z' n _)) 2 _
      rw [h4 _ (by omega)]
end Go.Proofs.YtdocclkphffpkaaGreat

namespace Go.Proofs.YtdocclkphffpkaaGreat
open Go.RowKit

theorem neg_zero_order : (FloatKind.f64.format.order 13830554455654793216 0 == some .gt || FloatKind.f64.format.order 13830554455654793216 0 == some .eq) = false := by decide +kernel
theorem index_none (m : Int) (w : World) : Calls Tryz.prog 117 #[.float .f64 13830554455654793216, .int .i64 m] w fun e w' => e = .returned (.tuple #[.int .i64 0, .bool false]) ∧ w = w' := by
  have h1 := neg_zero_order
  go_enter Tryz.func117, Tryz.ntmps117
  go_wp2
  go_ret2
  exact ⟨rfl, rfl⟩
theorem parts_none (w : World) : Calls Tryz.prog 107 #[.complex .f64 13830554455654793216 0] w fun e w' => (∃ a b, e = .returned (.tuple #[.int .i64 a, .int .i64 b, .int .i64 2])) ∧ w = w' := by
  go_enter Tryz.func107, Tryz.ntmps107
  go_wp2_with fail
  with_reducible refine (index_none _ _).mono ?_
  rintro e w' ⟨rfl, rfl⟩
  go_wp2
  go_ret3
  exact ⟨⟨_, _, rfl⟩, rfl⟩
theorem flat_none (b : Int) (w : World) (h1 : 1 ≤ b) (h2 : b ≤ 16) : Calls Tryz.prog 92 #[.complex .f64 13830554455654793216 0, .int .i64 b] w fun e w' => e = .returned (.tuple #[.int .i64 0, .int .i64 2]) ∧ w = w' := by
  go_enter Tryz.func92, Tryz.ntmps92
  go_wp2_with fail
  refine (width_any b _ h1 h2).mono ?_
  rintro e w' ⟨rfl, rfl⟩
  go_wp2_with fail
  with_reducible refine (parts_none _).mono ?_
  rintro e w' ⟨⟨a, c, rfl⟩, rfl⟩
  go_wp2
  go_ret2
  exact ⟨rfl, rfl⟩
theorem numberOf_any (p : Pl) (b : Nat) (w : World) (h1 : 1 ≤ b) (h2 : b ≤ 16) (h : ∀ q, p = some q → q.1 < 24 ∧ q.2 < b) :
    Calls Tryz.prog 68 #[zval p, .int .i64 (b : Int)] w fun e w' => e = .returned (.int .i64 (codeOf b p : Int)) ∧ w = w' := by
  cases p with
  | none =>
    show Calls Tryz.prog 68 #[.complex .f64 13830554455654793216 0, .int .i64 (b : Int)] w _
    go_enter Tryz.func68, Tryz.ntmps68
    go_wp2_with fail
    refine (flat_none b _ (by omega) (by omega)).mono ?_
    rintro e w' ⟨rfl, rfl⟩
    go_wp2
    go_ret
    exact ⟨rfl, rfl⟩
  | some q =>
    obtain ⟨a, c⟩ := q
    obtain ⟨ha, hc⟩ := h _ rfl
    have ha : a < 24 := ha
    have hc : c < b := hc
    have hm : (a : Int) * (b : Int) ≤ 24 * 16 := Int.mul_le_mul (by omega) (by omega) (by omega) (by omega)
    have hm0 : 0 ≤ (a : Int) * (b : Int) := Int.mul_nonneg (by omega) (by omega)
    have e : ((codeOf b (some (a, c)) : Nat) : Int) = (a : Int) * b + c + 1 := by
      show ((a * b + c + 1 : Nat) : Int) = _
      rw [Int.natCast_add, Int.natCast_add, Int.natCast_mul]
      rfl
    show Calls Tryz.prog 68 #[.complex .f64 (fl a) (fl c), .int .i64 (b : Int)] w _
    rw [e]
    clear e h
    go_enter Tryz.func68, Tryz.ntmps68
    go_wp2_with fail
    refine (flat_any a c b _ ha (by omega) (by omega) (by omega)).mono ?_
    rintro e w' ⟨rfl, rfl⟩
    go_wp2
    go_ret
    exact ⟨rfl, rfl⟩

theorem own_block_lt {w : World} {base n g : Nat} {v : Value} {f : Nat → Nat} (h : Own w base v n f) (hg : v.ownBlock = some g) : g < w.heap.size := by
  rcases h.2 with ⟨rfl, _⟩ | ⟨k, cap, cur, rfl, _, hk, _⟩
  · cases hg
  · obtain rfl : k = g := by simpa [Value.ownBlock] using hg
    exact (Array.getElem?_eq_some_iff.1 hk).1
theorem wrap_u8 {x : Nat} (h : x < 256) : IntKind.u8.wrap (x : Int) = (x : Int) := by
  unfold IntKind.wrap
  simp [IntKind.signed, IntKind.bits]
  omega
theorem tx_most {b : Nat} {K S M : Nat → Nat} {Z : Nat → Nat → Pl} (hM : ∀ i, i < 8 → M i ≤ 1000) {i : Nat} (hi : i ≤ 8) : (tx b K S M Z i).1 ≤ 2002 * i := by
  induction i with
  | zero => exact Nat.le_refl _
  | succ i ih =>
    have := ih (by omega)
    have := hM i (by omega)
    rw [tx_next b K S M Z i]
    show (tx b K S M Z i).1 + 2 + M i * 2 ≤ _
    omega

set_option maxRecDepth 20000 in
set_option maxHeartbeats 1000000 in
theorem text_any (K S M : Nat → Nat) (V : Nat → Value) (Z : Nat → Nat → Pl) (b : Nat) (w : World) (h1 : 1 ≤ b) (h2 : b ≤ 16) (hr : ∀ i, i < 8 → ReadsZ w (V i) (M i) (Z i)) (hZ : Narrow b Z) (hM : ∀ i, i < 8 → M i ≤ 1000) (hK : ∀ i, i < 8 → K i < 256 ∧ S i < 256) :
    Calls Tryz.prog 46 #[.agg (scells K S V).toArray, .int .i64 (b : Int)] w fun e w' => ∃ v, e = .returned v ∧ Reads w' v (tx b K S M Z 8).1 (tx b K S M Z 8).2 ∧ Below w.heap.size w w' := by
  have ZB := Lib.hid (st_new w K S V)
  have B0 : Hid (Below w.heap.size w (w.alloc (.cells (scells K S V).toArray 32))) := Lib.hid ((Below.refl _ w).alloc (Nat.le_refl _) _)
  have HR := Lib.hid hr
  have HZ := Lib.hid hZ
  have HM := Lib.hid hM
  have HK := Lib.hid hK
  clear hr hZ hM hK
  go_enter Tryz.func46, Tryz.ntmps46
  go_wp2_with (refine wpList_load_mid rfl 28 (.tmp 12) rfl w.heap.size 0 rfl (ecells K S) _ (StIs.entries ZB.out) Tryz.underlying28 rfl (entries_len _ _) ?_)
  go_loopw [4, 14] (fun v x wr => ∃ i : Nat, i ≤ 8 ∧ x = .int .i64 (i : Int) ∧ StIs wr w.heap.size K S V ∧ Own wr (w.heap.size + 1) v (tx b K S M Z i).1 (tx b K S M Z i).2 ∧ Below w.heap.size w wr) (fun _ x _ => 8 - (intOf x).toNat)
  case atStart => exact ⟨0, by omega, rfl, ZB.out, own_none _ _ _, B0.out⟩
  case round =>
    clear ZB B0
    obtain ⟨i, hi, rfl, hs, ho, hb⟩ := hrel
    have HS := Lib.hid hs
    have HO := Lib.hid ho
    have HB := Lib.hid hb
    clear hs ho hb
    by_cases h8 : i < 8
    · have hx := fun w => run_entry w K S h8
      obtain ⟨A, c, ev, q1, q2, q3, -⟩ := HR.out i h8
      obtain ⟨x, ex⟩ : ∃ x, x = K i := ⟨_, rfl⟩
      obtain ⟨y, ey⟩ : ∃ y, y = S i := ⟨_, rfl⟩
      obtain ⟨n, en⟩ : ∃ n, n = M i := ⟨_, rfl⟩
      rw [← ex, ← ey] at hx
      rw [← en] at ev q1
      have hn1000 : n ≤ 1000 := by rw [en]; exact HM.out i h8
      have hx256 : x < 256 := by rw [ex]; exact (HK.out i h8).1
      have hy256 : y < 256 := by rw [ey]; exact (HK.out i h8).2
      have ix : IntKind.u8.wrap (x : Int) = (x : Int) := wrap_u8 hx256
      have iy : IntKind.u8.wrap (y : Int) = (y : Int) := wrap_u8 hy256
      obtain ⟨w2, hw2⟩ : ∃ w2, w2 = wr.alloc (.cells #[.int .i64 (x : Int), .int .i64 (y : Int)] 27) := ⟨_, rfl⟩
      have hb2 : Below wr.heap.size wr w2 := by rw [hw2]; exact (Below.refl _ _).alloc (Nat.le_refl _) _
      have hrc : w2.cell? ⟨w.heap.size, 16 + i, none⟩ = some (.slice A n c) := by rw [← ev]; exact StIs.row (HS.out.below hb2) h8
      have hc0 : w2.cell? ⟨wr.heap.size, 0, none⟩ = some (.int .i64 (x : Int)) := by rw [hw2, World.cell?_alloc_mark]; rfl
      have hc1 : w2.cell? ⟨wr.heap.size, 1, none⟩ = some (.int .i64 (y : Int)) := by rw [hw2, World.cell?_alloc_mark]; rfl
      have HRI : Hid (ReadsZ w (.slice A n c) n (Z i)) := Lib.hid (by rw [← ev, en]; exact HR.out i h8)
      have S2 := Lib.hid (HS.out.below hb2)
      have O2 : Hid (Own w2 (w.heap.size + 1) u4 (tx b K S M Z i).1 (tx b K S M Z i).2) := Lib.hid (owns_later HO.out hb2)
      have UB : Hid (∀ g, u4.ownBlock = some g → g < wr.heap.size) := Lib.hid fun g hg => own_block_lt HO.out hg
      have C0 := Lib.hid hc0
      have C1 := Lib.hid hc1
      have B3 := Lib.hid (HB.out.trans (hb2.mono HB.out.size))
      have EX := Lib.hid ex
      have EY := Lib.hid ey
      have EN := Lib.hid en
      have LW : Hid (wr.heap.size < w2.heap.size) := Lib.hid (by rw [hw2, World.size_alloc]; omega)
      clear hb2 ev ex ey en hc0 hc1
      have hrc2 : (wr.alloc (.cells #[.int .i64 (x : Int), .int .i64 (y : Int)] 27)).cell? ⟨w.heap.size, 16 + i, none⟩ = some (.slice A n c) := by rw [← hw2]; exact hrc
      have HW2 := Lib.hid hw2
      clear hw2 hrc
      have d8 : decide ((i : Int) < 8) = true := by simp; omega
      go_wp2
      clear hrc2 hx d8
      rw [← HW2.out]
      go_loopw [7, 23] (fun u x wq => ∃ j : Nat, j ≤ n ∧ x = .int .i64 (j : Int) ∧ OwnI wq w2.heap.size u j (fun t => (codeOf b (Z i t) : Int)) ∧ Below w2.heap.size w2 wq) (fun _ x _ => n - (intOf x).toNat)
      case atStart => exact ⟨0, by omega, rfl, World.ownsRow_nil _ _ _ _, Below.refl _ _⟩
      case round =>
        obtain ⟨j, hj, rfl, hu, hbq⟩ := hrel
        have HU := Lib.hid hu
        have HBQ := Lib.hid hbq
        have BW : Hid (Below w.heap.size w wr) := Lib.hid (B3.out.trans (hbq.mono B3.out.size))
        clear hu hbq
        by_cases hlt : j < n
        · obtain ⟨ad, rfl⟩ := HRI.out.addr (by omega)
          have hc := (HRI.out.below BW.out).at_ hlt
          have NO := Lib.hid (fun w => numberOf_any (Z i j) b w h1 h2 (HZ.out i j))
          obtain ⟨X, eX⟩ : ∃ X, X = zre (Z i j) := ⟨_, rfl⟩
          obtain ⟨Y, eY⟩ : ∃ Y, Y = zim (Z i j) := ⟨_, rfl⟩
          obtain ⟨z, ez⟩ : ∃ z : Int, z = (codeOf b (Z i j) : Int) := ⟨_, rfl⟩
          have ezv : zval (Z i j) = .complex .f64 X Y := by rw [eX, eY]; rfl
          rw [ezv] at hc NO
          rw [← ez] at NO
          obtain ⟨v', w', r1, r2, r3, r4⟩ := run_int 114 HU.out ez (by omega) HBQ.out.size
          have R1 := Lib.hid r1
          have FIN : Hid (OwnI w' w2.heap.size v' (j + 1) (fun t => (codeOf b (Z i t) : Int)) ∧ Below w2.heap.size w2 w') := Lib.hid ⟨r2, (HU.out.alloc (.cells #[.int .i64 z] 3)).below (HBQ.out.alloc HBQ.out.size (.cells #[.int .i64 z] 3)) (Nat.le_refl _) (by rw [World.size_alloc]; have := HBQ.out.size; omega) r4⟩
          clear eX eY ez ezv r1 r2 r3 r4
          go_wp2_with fail
          with_reducible refine (NO.out _).mono ?_
          rintro e w6 ⟨rfl, rfl⟩
          clear hc
          go_wp2_with (at_builtin; refine Lib.wpList_append_run _ rfl (.tmp 27) (.tmp 31) _ _ rfl _ _ rfl rfl v' w' R1.out ?_)
          go_roundw
          case rel => exact ⟨j + 1, by omega, by go_num, FIN.out⟩
          case measure => simp [intOf]; omega
        · obtain rfl : j = n := by omega
          have hri := OwnI.reads HU.out fun t ht => by have := code_lt h2 (HZ.out i t); omega
          obtain ⟨A7, c7, e7, p1, p2, p3, p4⟩ := hri
          subst e7
          have P4 := Lib.hid p4
          have S3 := Lib.hid (S2.out.below HBQ.out)
          have O3 : Hid (Own wr (w.heap.size + 1) u4 (tx b K S M Z i).1 (tx b K S M Z i).2) := Lib.hid (owns_later O2.out HBQ.out)
          have c0 := Lib.hid (cell_later HBQ.out C0.out)
          have c1 := Lib.hid (cell_later HBQ.out C1.out)
          have WQ : Hid (w2.heap.size ≤ wr.heap.size) := Lib.hid HBQ.out.size
          clear p4 HU HBQ S2 O2 C0 C1
          go_wp2_with fail
          refine (row_own 2 A7 j c7 (fun t => codeOf b (Z i t)) wr (by omega) (by omega) (by omega) (by omega) (fun t _ => by have := code_lt h2 (HZ.out i t); show _ < 65536; exact this) P4.out).mono ?_
          rintro e w3 ⟨v3, rfl, hv3, hb3⟩
          have S4 := Lib.hid (S3.out.below hb3)
          have d0 := cell_later hb3 c0.out
          have d1 := cell_later hb3 c1.out
          have O4 : Hid (Own w3 (w.heap.size + 1) u4 (tx b K S M Z i).1 (tx b K S M Z i).2) := Lib.hid (owns_later O3.out hb3)
          have B4 := Lib.hid (BW.out.trans (hb3.mono BW.out.size))
          have V3 := Lib.hid hv3
          clear hb3 hv3 S3 O3 c0 c1
          have L3 := S4.out.lt
          have tm := tx_most (b := b) (K := K) (S := S) (Z := Z) HM.out (show i ≤ 8 by omega)
          have hb4 : Below (w.heap.size + 1) w3 (w3.alloc (.cells #[.int .u8 (x : Int), .int .u8 (y : Int)] 5)) := (Below.refl _ _).alloc L3 _
          obtain ⟨v4, w4, r4, o4, -, g4⟩ := run_bytes (c := 2) 44 (O4.out.alloc (.cells #[.int .u8 (x : Int), .int .u8 (y : Int)] 5)) (pair_new w3 x y hx256 hy256) (by intro e; cases e) (by omega) (by have := L3; simp; omega)
          have hb5 : Below (w.heap.size + 1) w3 w4 := (O4.out.alloc (.cells #[.int .u8 (x : Int), .int .u8 (y : Int)] 5)).grown_below hb4 (Nat.le_refl _) (Nat.le_trans L3 hb4.size) g4
          have s4 : w.heap.size + 1 ≤ w4.heap.size := Nat.le_trans L3 hb5.size
          have v34 : Own w4 wr.heap.size v3 (j * 2) (rowB (fun t => codeOf b (Z i t)) 2) := by
            refine ⟨V3.out.1, V3.out.2.imp id fun ⟨g, cap, cur, e, hbg, hg, rest⟩ => ⟨g, cap, cur, e, hbg, ?_, rest⟩⟩
            have hlt : g < w3.heap.size := (Array.getElem?_eq_some_iff.1 hg).1
            rw [g4.block g (by rw [World.size_alloc]; omega) (fun ev => by
              have := UB.out _ ev.symm
              have := LW.out
              have := WQ.out
              omega), heap_alloc_old w3 _ hlt]
            exact hg
          obtain ⟨A5, n5, e5, p51, p52, p53, p55⟩ := Own.reads v34 (fun t _ => dig_lt _ _ _)
          obtain ⟨v6, w6, r6, o6, -, g6⟩ := run_bytes (A := A5) (m := j * 2) (c := n5) 44 o4 p55 p53 (by omega) s4
          have hb6 : Below (w.heap.size + 1) w3 w6 := o4.grown_below hb5 (Nat.le_refl _) s4 g6
          have R4 := Lib.hid r4
          have R6 := Lib.hid r6
          have O6 : Hid (Own w6 (w.heap.size + 1) v6 (tx b K S M Z (i + 1)).1 (tx b K S M Z (i + 1)).2) := Lib.hid (by
            rw [tx_next b K S M Z i, ← EX.out, ← EY.out, ← EN.out]
            exact o6)
          have S6 : Hid (StIs w6 w.heap.size K S V) := Lib.hid ((hb6.block w.heap.size (by omega)).trans S4.out)
          have B6 : Hid (Below w.heap.size w w6) := Lib.hid (B4.out.trans (hb6.mono (by omega)))
          subst e5
          clear hb4 r4 o4 g4 hb5 p51 p52 p53 p55 v34 s4 r6 o6 g6 hb6 V3 O4 S4 B4 tm
          go_wp2_with (first
            | (at_builtin; refine Lib.wpList_append_run _ rfl (.tmp 39) (.tmp 46) _ _ rfl _ _ rfl rfl _ _ R4.out ?_)
            | (at_builtin; refine Lib.wpList_append_run _ rfl (.tmp 48) (.tmp 49) _ _ rfl _ _ rfl rfl _ _ R6.out ?_))
          go_roundw
          case rel => exact ⟨i + 1, by omega, by go_num, S6.out, O6.out, B6.out⟩
          case measure => simp [intOf]; omega
    · obtain rfl : i = 8 := by omega
      go_wp2
      go_ret
      exact ⟨_, rfl, Own.reads HO.out (tx_small HK.out (Nat.le_refl _)), HB.out⟩
end Go.Proofs.YtdocclkphffpkaaGreat

namespace Go.Proofs.YtdocclkphffpkaaGreat
open Go.RowKit

/-- The number that the document's part answers. -/
def partI (a m : Nat) : Int := if a < m then (a : Int) else -1

set_option maxRecDepth 20000 in
theorem part_fl (a m : Nat) (w : World) (ha : a < 25) (hm : m < 25) :
    Calls Tryz.prog 77 #[.float .f64 (fl a), .int .i64 (m : Int)] w fun e w' => e = .returned (.int .i64 (partI a m)) ∧ w = w' := by
  go_enter Tryz.func77, Tryz.ntmps77
  go_wp2_with fail
  go_loopw [5] (fun v wr => ∃ i : Nat, i ≤ m ∧ i ≤ a ∧ v = .int .i64 (i : Int) ∧ wr = w) (fun v _ => m - (intOf v).toNat)
  case atStart => exact ⟨0, by omega, by omega, rfl, rfl⟩
  case round =>
    obtain ⟨i, hi, hia, rfl, rfl⟩ := hrel
    by_cases hlt : i < m
    · by_cases he : i = a
      · subst he
        have h1 := fl_eq i ha
        rw [← fl_cast] at h1 ⊢
        go_wp2
        go_ret
        unfold partI
        rw [if_pos hlt]
        exact ⟨rfl, rfl⟩
      · have h1 : (FloatKind.f64.format.order (fl a) (floatOfInt .f64 (i : Int)) == some .eq) = false := by
          rw [fl_cast, fl_order a i ha (by omega)]
          have : compare a i = .gt := by rw [Nat.compare_eq_gt]; omega
          rw [this]; rfl
        go_wp2
        go_roundw
        case rel => exact ⟨i + 1, by omega, by omega, by go_num, trivial⟩
        case measure => simp [intOf]; omega
    · obtain rfl : i = m := by omega
      go_wp2
      go_ret
      unfold partI
      rw [if_neg (by omega)]
      exact ⟨rfl, rfl⟩

set_option maxRecDepth 20000 in
theorem part_none (m : Nat) (w : World) (hm : m < 25) :
    Calls Tryz.prog 77 #[.float .f64 13830554455654793216, .int .i64 (m : Int)] w fun e w' => e = .returned (.int .i64 (-1)) ∧ w = w' := by
  go_enter Tryz.func77, Tryz.ntmps77
  go_wp2_with fail
  go_loopw [5] (fun v wr => ∃ i : Nat, i ≤ m ∧ v = .int .i64 (i : Int) ∧ wr = w) (fun v _ => m - (intOf v).toNat)
  case atStart => exact ⟨0, by omega, rfl, rfl⟩
  case round =>
    obtain ⟨i, hi, rfl, rfl⟩ := hrel
    by_cases hlt : i < m
    · have h1 : (FloatKind.f64.format.order 13830554455654793216 (floatOfInt .f64 (i : Int)) == some .eq) = false := by
        rw [fl_cast, order_none_some i (by omega)]; rfl
      go_wp2
      go_roundw
      case rel => exact ⟨i + 1, by omega, by go_num, trivial⟩
      case measure => simp [intOf]; omega
    · obtain rfl : i = m := by omega
      go_wp2
      go_ret
      exact ⟨rfl, rfl⟩

theorem refParts_some (a b : Nat) (w : World) (ha : a < 24) (hb : b < 16) :
    Calls Tryz.prog 51 #[.complex .f64 (fl a) (fl b)] w fun e w' => e = .returned (.tuple #[.int .i64 (a : Int), .int .i64 (b : Int), .int .i64 0]) ∧ w = w' := by
  have e1 : partI a 24 = (a : Int) := by unfold partI; rw [if_pos ha]
  have e2 : partI b 16 = (b : Int) := by unfold partI; rw [if_pos hb]
  go_enter Tryz.func51, Tryz.ntmps51
  go_wp2_with fail
  refine (part_fl a 24 _ (by omega) (by omega)).mono ?_
  rintro e w' ⟨rfl, rfl⟩
  rw [e1]
  go_wp2_with fail
  refine (part_fl b 16 _ (by omega) (by omega)).mono ?_
  rintro e w' ⟨rfl, rfl⟩
  rw [e2]
  clear e1 e2
  go_wp2
  go_ret3
  exact ⟨rfl, rfl⟩

theorem refParts_none (w : World) :
    Calls Tryz.prog 51 #[.complex .f64 13830554455654793216 0] w fun e w' => e = .returned (.tuple #[.int .i64 0, .int .i64 0, .int .i64 2]) ∧ w = w' := by
  have e2 : partI 0 16 = ((0 : Nat) : Int) := by unfold partI; rw [if_pos (by omega)]
  go_enter Tryz.func51, Tryz.ntmps51
  go_wp2_with fail
  refine (part_none 24 _ (by omega)).mono ?_
  rintro e w' ⟨rfl, rfl⟩
  go_wp2_with fail
  refine (part_fl 0 16 _ (by omega) (by omega)).mono ?_
  rintro e w' ⟨rfl, rfl⟩
  rw [e2]
  clear e2
  go_wp2
  go_ret3
  exact ⟨rfl, rfl⟩

theorem refWhole_any (p : Pl) (hp : Good p) (w : World) :
    Calls Tryz.prog 31 #[zval p] w fun e w' => e = .returned (.bool p.isSome) ∧ w = w' := by
  cases p with
  | none =>
    show Calls Tryz.prog 31 #[.complex .f64 13830554455654793216 0] w _
    go_enter Tryz.func31, Tryz.ntmps31
    go_wp2_with fail
    refine (refParts_none _).mono ?_
    rintro e w' ⟨rfl, rfl⟩
    go_wp2
    go_ret
    exact ⟨rfl, rfl⟩
  | some q =>
    obtain ⟨ha, hb⟩ := hp _ rfl
    show Calls Tryz.prog 31 #[.complex .f64 (fl q.1) (fl q.2)] w _
    go_enter Tryz.func31, Tryz.ntmps31
    go_wp2_with fail
    refine (refParts_some _ _ _ ha hb).mono ?_
    rintro e w' ⟨rfl, rfl⟩
    go_wp2
    go_ret
    exact ⟨rfl, rfl⟩

/-- Flat at a place: its number, or that it is out of the width. -/
theorem refFlat_some (a c : Nat) (b : Int) (w : World) (ha : a < 24) (hc : c < 16) (h1 : 1 ≤ b) (h2 : b ≤ 16) (h : (c : Int) < b) :
    Calls Tryz.prog 41 #[.complex .f64 (fl a) (fl c), .int .i64 b] w fun e w' => e = .returned (.tuple #[.int .i64 ((a : Int) * b + c), .int .i64 0]) ∧ w = w' := by
  have hm : (a : Int) * b ≤ 24 * 16 := Int.mul_le_mul (by omega) h2 (by omega) (by omega)
  have hm0 : 0 ≤ (a : Int) * b := Int.mul_nonneg (by omega) (by omega)
  have hlt : ¬ b ≤ (c : Int) := by omega
  go_enter Tryz.func41, Tryz.ntmps41
  go_wp2_with fail
  refine (refParts_some _ _ _ ha hc).mono ?_
  rintro e w' ⟨rfl, rfl⟩
  go_wp2
  go_ret2
  exact ⟨rfl, rfl⟩

theorem refFlat_out (a c : Nat) (b : Int) (w : World) (ha : a < 24) (hc : c < 16) (h1 : 1 ≤ b) (h2 : b ≤ 16) (h : b ≤ (c : Int)) :
    Calls Tryz.prog 41 #[.complex .f64 (fl a) (fl c), .int .i64 b] w fun e w' => e = .returned (.tuple #[.int .i64 0, .int .i64 5]) ∧ w = w' := by
  go_enter Tryz.func41, Tryz.ntmps41
  go_wp2_with fail
  refine (refParts_some _ _ _ ha hc).mono ?_
  rintro e w' ⟨rfl, rfl⟩
  go_wp2
  go_ret2
  exact ⟨rfl, rfl⟩

theorem refMake_any (x y : Int) (w : World) :
    Calls Tryz.prog 38 #[.int .i64 x, .int .i64 y] w fun e w' => e = .returned (.complex .f64 (floatOfInt .f64 x) (floatOfInt .f64 y)) ∧ w' = w := by
  go_enter Tryz.func38, Tryz.ntmps38
  go_wp2
  go_ret
  exact ⟨rfl, rfl⟩

/-- Which place the document's Place answers: 0 too where there is none. -/
def refPl (b n : Nat) : Pl := if (1 ≤ b ∧ b ≤ 16) ∧ n < 24 * b then some (n / b, n % b) else some (0, 0)
theorem refPl_good (b n : Nat) : Good (refPl b n) := by
  intro q hq
  unfold refPl at hq
  split at hq
  · rename_i h
    cases hq
    exact ⟨Nat.div_lt_of_lt_mul (by rw [Nat.mul_comm]; exact h.2), Nat.lt_of_lt_of_le (Nat.mod_lt _ (by omega)) h.1.2⟩
  · cases hq
    exact ⟨by decide, by decide⟩

theorem refPlace_any (n b : Nat) (w : World) (hn : n < 65536) (hb : b < 256) :
    Calls Tryz.prog 18 #[.int .i64 (n : Int), .int .i64 (b : Int)] w fun e w' => (∃ x, e = .returned (.tuple #[zval (refPl b n), .int .i64 x])) ∧ ∃ k, w' = w.drewN k := by
  by_cases h : 1 ≤ b ∧ b ≤ 16
  · by_cases h2 : n < 24 * b
    · have e : refPl b n = some (n / b, n % b) := by unfold refPl; rw [if_pos ⟨h, h2⟩]
      have h0 : ¬ (b : Int) = 0 := by omega
      have hq0 : 0 ≤ (n : Int) / b := Int.ediv_nonneg (by omega) (by omega)
      have hq1 : (n : Int) / b < 24 := Int.ediv_lt_of_lt_mul (by omega) (by omega)
      have hr0 : 0 ≤ (n : Int) % b := Int.emod_nonneg _ h0
      have hr1 : (n : Int) % b < b := Int.emod_lt_of_pos _ (by omega)
      have q : IntKind.i64.wrap ((n : Int).tdiv b) = (n : Int) / b := by rw [Int.tdiv_eq_ediv_of_nonneg (by omega)]; exact IntWalk.i64_in _ (by omega)
      have r : (n : Int).tmod b = (n : Int) % b := Int.tmod_eq_emod_of_nonneg (by omega)
      have hlt : ¬ 24 * (b : Int) ≤ (n : Int) := by omega
      have hz : zval (refPl b n) = .complex .f64 (floatOfInt .f64 ((n : Int) / b)) (floatOfInt .f64 ((n : Int) % b)) := by rw [e]; rfl
      have HZ := Lib.hid hz
      clear e hz
      go_enter Tryz.func18, Tryz.ntmps18
      go_wp2_with fail
      go_quiet ((go_at_call 38; exact Calls.quiet_of_same (refMake_any _ _ _)))
      go_wp2
      go_ret2
      exact ⟨⟨0, by rw [HZ.out]; rfl⟩, ⟨_, rfl⟩⟩
    · have e : refPl b n = some (0, 0) := by unfold refPl; rw [if_neg (by omega)]
      have hz : zval (refPl b n) = .complex .f64 0 0 := by rw [e]; rfl
      have HZ := Lib.hid hz
      clear e hz
      have hlt : 24 * (b : Int) ≤ (n : Int) := by omega
      go_enter Tryz.func18, Tryz.ntmps18
      go_wp2
      go_ret2
      exact ⟨⟨5, by rw [HZ.out]; rfl⟩, ⟨0, rfl⟩⟩
  · have e : refPl b n = some (0, 0) := by unfold refPl; rw [if_neg (by omega)]
    have hz : zval (refPl b n) = .complex .f64 0 0 := by rw [e]; rfl
    have HZ := Lib.hid hz
    clear e hz
    rcases (by omega : (b : Int) < 1 ∨ (¬ (b : Int) < 1 ∧ 16 < (b : Int))) with h3 | ⟨h3, h4⟩
    all_goals
      go_enter Tryz.func18, Tryz.ntmps18
      go_wp2
      go_ret2
      exact ⟨⟨1, by rw [HZ.out]; rfl⟩, ⟨0, rfl⟩⟩
end Go.Proofs.YtdocclkphffpkaaGreat

