
/- The statements' first facts: two deltas are saved and loaded. -/
import Derived.Test.YtmgeifolgdgapaaSpSaveOk
namespace Go.Proofs.Ytmgeifolgdgapaa
open Go.RowKit

/-- The first two deltas. -/
def dsA (i : Nat) : Del := if i = 0 then ⟨1, 0, 0, 3, 0, 0⟩ else ⟨2, 0, 0, 0, 0, 0⟩
theorem dsA_valid (i : Nat) : Valid (dsA i) := by
  unfold dsA
  split <;> (dsimp only [Valid]; omega)
def cellsA : Array Value := #[.int .i64 1, .int .i64 0, .int .i64 0, .int .i64 3, .complex .f64 0 0, .int .i64 2, .int .i64 0, .int .i64 0, .int .i64 0, .complex .f64 0 0]
theorem dsA_reads {W : World} {b : Nat} (h : W.heap[b]? = some (.cells cellsA 52 (0, 0))) : ReadsD W (.slice (some ⟨b, 0, none⟩) 2 2) 2 dsA := by
  refine ⟨_, _, rfl, Nat.le_refl _, by omega, (by intro e; cases e), fun i hi => ⟨_, rfl, fun j hj u hu => ?_⟩⟩
  rw [add_nil, cell_of_row _ _ _ _ _ _ h]
  rw [← hu]
  rcases (by omega : i = 0 ∨ i = 1) with rfl | rfl <;> rcases (by omega : j = 0 ∨ j = 1 ∨ j = 2 ∨ j = 3 ∨ j = 4) with rfl | rfl | rfl | rfl | rfl <;> first | rfl | (show some _ = some _; rw [fl_nil])
theorem dsA_laid (w : World) {F : Nat → Prop} (hF : ¬ F w.heap.size) (W : World) (a : Apart F (w.alloc (.cells cellsA 52)) W) : ReadsD W (.slice (some ⟨w.heap.size, 0, none⟩) 2 2) 2 dsA :=
  dsA_reads ((a.block w.heap.size (by simp) hF).trans (heap_alloc_new w _))

/-- The device behind that. -/
def devA : Dev := { fresh 60 with loose := [spW 9 0 2 dsA 0] }
theorem devA_log0 : devA.log 0 = spP 9 0 2 dsA 0 := by
  show lays _ [spW 9 0 2 dsA 0] 24 = _
  rw [lays_cons, lays_nil]
  unfold lay
  rw [if_pos (by rfl)]
  rfl
theorem devA_log1 : devA.log 1 = fun _ => 0 := by
  show lays _ [spW 9 0 2 dsA 0] 25 = _
  rw [lays_cons, lays_nil]
  unfold lay
  rw [if_neg (by show ¬ 25 = 24 + (0 + 0); omega)]
  rfl
theorem spA_is : IsSp (devA.log 0) 9 0 := by
  rw [devA_log0]
  unfold spP
  rw [show dlen 2 0 = 2 from rfl]
  exact spS_is (by omega) (by omega) fun i _ => dsA_valid _
theorem spA_not : ¬ IsSp (devA.log 1) 9 1 := fun h => by
  have h1 := h.1
  rw [devA_log1] at h1
  exact absurd h1 (by decide)
theorem spA_count : spC devA.log 1 = 2 := by
  show 0 + devA.log 0 5 = 2
  rw [devA_log0]
  unfold spP
  rw [show dlen 2 0 = 2 from rfl, spS_count (by omega)]
theorem spA_del {i : Nat} (hi : i < 2) : spD devA.log 1 i = dsA i := by
  show (if i < 0 then _ else sdel (devA.log 0) (i - 0)) = _
  rw [if_neg (by omega), devA_log0]
  unfold spP
  rw [show dlen 2 0 = 2 from rfl, Nat.sub_zero, spS_del (by omega) (fun j _ => dsA_valid _) hi]
  rw [Nat.zero_mul, Nat.zero_add]

/-- What Load answers of it. -/
theorem loadA_any {w : World} {base g h : Nat} {L : Value} (d : IsDev w base g h L devA) :
    Calls Try.prog 8 #[.pointer (some ⟨g, 0, none⟩), .int .i64 9] w fun e w' => Below w.heap.size w w' ∧ ∃ ad c, e = .returned (.tuple #[.slice (some ad) 2 c, .int .i64 1, .int .i64 0]) ∧ w'.cell? ⟨ad.block, ad.off + 5, none⟩ = some (.int .i64 2) := by
  have hh := spLoad_any d rfl 9 (by omega)
  refine Calls.mono hh fun e w' hx => ?_
  obtain ⟨hb, n, hn, hl, hs, hcase⟩ := hx
  have n0 : n ≠ 0 := fun e0 => by
    subst e0
    rcases hcase with ⟨h1, _⟩ | ⟨_, h1, _⟩
    · exact (h1 (by omega)).2 spA_is
    · exact absurd h1 (by show ¬ 60 ≤ 24 + 0; omega)
  have n1 : ¬ 1 < n := fun e1 => spA_not (hl 1 e1)
  obtain rfl : n = 1 := by omega
  rcases hcase with ⟨_, v, rfl, hv⟩ | ⟨_, h1, _⟩
  · have hr := hv.reads
    rw [spA_count] at hr
    obtain ⟨A, c, rfl, _, _, _, hc⟩ := hr
    obtain ⟨ad, rfl, hj⟩ := hc 1 (by omega)
    refine ⟨hb, ad, c, rfl, ?_⟩
    have h5 := hj 0 (by omega) (.int .i64 2) (by rw [spA_del (by omega)]; rfl)
    exact h5
  · exact absurd h1 (by show ¬ 60 ≤ 24 + 1; omega)

theorem saveA_any {w : World} {base g h : Nat} {L : Value} (d : IsDev w base g h L (fresh 60)) :
    Calls Try.prog 14 #[.pointer (some ⟨g, 0, none⟩), .int .i64 9, .int .i64 0, .slice (some ⟨w.heap.size, 0, none⟩) 2 2] (w.alloc (.cells cellsA 52)) fun e w' =>
      e = .returned (.tuple #[.int .i64 1, .int .i64 0]) ∧ Apart (foot g h L) (w.alloc (.cells cellsA 52)) w' ∧ ∃ L', IsDev w' base g h L' devA := by
  have hb : Below w.heap.size w (w.alloc (.cells cellsA 52)) := (Below.refl _ _).alloc (Nat.le_refl _) _
  have hh := spSave_ok (d.below hb) ⟨rfl, rfl⟩ 9 0 2 2 ⟨w.heap.size, 0, none⟩ dsA (by omega) (by omega) (by show 0 + 1 ≤ 16; omega) (by show 24 + (0 + 1) ≤ 60; omega) (by show 0 ≤ 1000000; omega)
    (fun W a => dsA_laid w (fun hf => by have := (d.lt _ hf).2; omega) W a) fun i _ => dsA_valid i
  refine Calls.mono hh fun e w' hx => ?_
  obtain ⟨he, ha, L', hd, _⟩ := hx
  exact ⟨he, ha, L', hd⟩

set_option maxRecDepth 100000 in
set_option maxHeartbeats 1000000 in
theorem awake_any (w : World) : Calls Try.prog 6 #[] w (Fresh (.bool true) w) := by
  have N : Hid (Calls Try.prog 5 #[.int .i64 60] w (Born 60 w)) := Lib.hid (dev_new_ok 60 w (by omega) (by omega))
  go_enter Try.func6, Try.ntmps6
  go_wp2_with fail
  with_reducible refine N.out.mono ?_
  rintro e w1 ⟨g, h, rfl, hd, hb⟩
  have SV := Lib.hid (saveA_any hd)
  have HD := Lib.hid hd
  have HB := Lib.hid hb
  clear hd hb N
  unfold cellsA at SV
  go_wp2_with fail
  with_reducible refine SV.out.mono ?_
  rintro e w2 ⟨rfl, ha, L', hd2⟩
  have LD := Lib.hid (loadA_any hd2)
  have B2 : Hid (Below w.heap.size w w2) := Lib.hid ((HB.out.alloc HB.out.size _).trans (ha.below (by have := HB.out.size; simp; omega) fun k hk hf => by have := (HD.out.lt _ hf).1; omega))
  clear ha hd2 SV
  go_wp2_with fail
  with_reducible refine LD.out.mono ?_
  rintro e w3 ⟨hb3, ad, c, rfl, hc⟩
  have B3 : Hid (Below w.heap.size w w3) := Lib.hid (B2.out.trans (hb3.mono B2.out.size))
  clear hb3
  go_wp2
  go_ret
  exact ⟨rfl, B3.out⟩
end Go.Proofs.Ytmgeifolgdgapaa
