/- The first facts, which the statements of package leaf ask. -/
import Derived.Test.YtilknndcaoljnaaLfFacts
import Derived.Test.YtilknndcaoljnaaLfDecode
import Derived.Test.YtilknndcaoljnaaLfRefSound
import Derived.Test.YtilknndcaoljnaaLfSort
import Derived.Test.YtilknndcaoljnaaLfText
import Derived.Test.YtilknndcaoljnaaLfCount
namespace Go.Proofs.Ytilknndcaoljnaa
open Go.RowKit

/-- The first pages. -/
def firstP : Nat → Nat → Nat := encF 6 2 5 16 z0
theorem first_lt (i j : Nat) : firstP i j < 256 := encF_lt (fun _ _ => by simp) i j
theorem first_s : firstP 0 8 = 6 := by unfold firstP; rw [encF_head]; exact headF_s (by omega)
theorem first_b : firstP 0 9 = 2 := by unfold firstP; rw [encF_head]; exact headF_b (by omega)
theorem first_n : firstP 0 10 = 1 := by unfold firstP; rw [encF_head, headF_count (by decide)]; rfl
theorem first_seq : seqIn (firstP 0) = 5 := by unfold firstP; rw [encF_head]; exact headF_seq (by omega)
theorem first_header : Header 64 (firstP 0) := by unfold firstP; rw [encF_head]; exact headF_header (by omega) (by omega) (by decide)

theorem read_first (v : Value) (W : World) (hv : ReadsP W v 2 (fun _ => 64) firstP) :
    Calls Try.prog 28 #[v] W fun e w' => ∃ K S V, e = .returned (.tuple #[.agg (scells K S V).toArray, .agg #[.int .i64 ((6 : Nat) : Int), .int .i64 ((2 : Nat) : Int)], .int .i64 ((5 : Nat) : Int)]) ∧ (K = z0 ∧ S = z0 ∧ V = zV) ∧ Below W.heap.size W w' := by
  have h := read_good v 1 (fun _ => 64) firstP W hv first_header first_n (Nat.le_refl _) (fun K S V _ => K = z0 ∧ S = z0 ∧ V = zV) (fun k hk W' u hW hu => by
    obtain rfl : k = 1 := sound_enc (s := 6) (b := 2) (seq := 5) (n := 16) (f := z0) hk
    have hj := join_text 5 16 z0 1 (Nat.le_refl _)
    have hu2 : Reads W' u 16 z0 := by
      have e1 : (joinL ((List.range 1).map (dpart fun i => firstP (i + 1)))).1 = 16 := hj.1
      rw [e1] at hu
      exact hu.congr fun i hi => hj.2 i hi
    exact (state_zero u (firstP 0 9) W' hu2).mono fun e w' he => ⟨z0, z0, zV, he.1, ⟨rfl, rfl, rfl⟩, fun _ _ => rfl, he.2⟩)
    (fun K S V _ _ h _ _ _ => h)
  rw [first_s, first_b, first_seq] at h
  exact h

theorem decode_first (v : Value) (w : World) (hv : ReadsP w v 2 (fun _ => 64) firstP) :
    Calls Try.prog 14 #[v] w (Fresh (.tuple #[.agg (scells z0 z0 zV).toArray, .agg #[.int .i64 6, .int .i64 2], .int .i64 5, .int .i64 0]) w) := by
  have hg : Geo ((6 : Nat) : Int) ((2 : Nat) : Int) := ⟨⟨by omega, by omega⟩, by omega, by omega⟩
  refine (decode_good v 2 (fun _ => 64) firstP 6 2 5 16 z0 w (by omega) (by omega) (by omega) (by omega) (by omega) (fun _ _ => by simp) hv (fun K S V _ => K = z0 ∧ S = z0 ∧ V = zV)
    (fun _ _ _ _ _ h _ => h) (fun K S V W h i _ => by obtain ⟨-, -, rfl⟩ := h; rfl) (fun W _ hW => read_first v W (hv.below hW)) (fun K S V W h => ?_) (fun K S V W h => ?_) ⟨rfl, fun i _ => ⟨rfl, fun _ _ => rfl⟩⟩).mono ?_
  · obtain ⟨rfl, rfl, rfl⟩ := h
    exact fit_none _ _ W hg
  · obtain ⟨rfl, rfl, rfl⟩ := h
    exact text_none _ W
  · rintro e w' ⟨K, S, V, rfl, ⟨rfl, rfl, rfl⟩, hb⟩
    exact ⟨rfl, hb⟩

set_option maxRecDepth 100000 in
set_option maxHeartbeats 1000000 in
theorem awake_any (w : World) : Calls Try.prog 6 #[] w (Fresh (.bool true) w) := by
  have hzs := zero_state
  have hzp := plat_zero
  have hg : Geo ((6 : Nat) : Int) ((2 : Nat) : Int) := ⟨⟨by omega, by omega⟩, by omega, by omega⟩
  have hg := Lib.hid hg
  go_enter Try.func6, Try.ntmps6
  go_wp2_with fail
  refine (encode_fits z0 z0 zV 6 2 5 16 z0 w (by omega) (by omega) (by omega) (by omega) (by omega) (fun W _ => fit_none _ _ W hg.out) (fun W _ => text_none _ W)).mono ?_
  rintro e w1 ⟨v1, rfl, hp1, hb1⟩
  obtain ⟨A1, c1, e1⟩ := hp1.shape
  have e2 : v1 = .slice A1 2 c1 := e1
  subst e2
  have R1 : Hid (ReadsP w1 (.slice A1 2 c1) 2 (fun _ => 64) firstP) := Lib.hid (hp1.reads (fun i _ j _ => first_lt i j))
  have B1 := Lib.hid hb1
  clear hp1 hb1 e1
  go_wp2_with fail
  refine (decode_first _ w1 R1.out).mono ?_
  rintro e w2 ⟨rfl, hb2⟩
  have R2 := Lib.hid (R1.out.below hb2)
  have B2 := Lib.hid (B1.out.trans (hb2.mono B1.out.size))
  obtain ⟨w3, hw3⟩ : ∃ w3, w3 = (w2.alloc (.cells (scells z0 z0 zV).toArray 44)).alloc (.cells #[.int .i64 0, .int .i64 0] 46) := ⟨_, rfl⟩
  have b3 : Below w2.heap.size w2 w3 := by rw [hw3]; exact ((Below.refl _ w2).alloc (Nat.le_refl _) _).alloc (by simp) _
  have S3 : Hid (StIs w3 w2.heap.size z0 z0 zV) := Lib.hid (by rw [hw3]; exact (st_new w2 z0 z0 zV).below ((Below.refl _ _).alloc (Nat.le_refl _) _))
  have P3 : Hid (RowIs w3 (w2.heap.size + 1) 46 (fun _ => .int .i64 0) 2) := Lib.hid (by
    rw [hw3]
    have h := row_new (w2.alloc (.cells (scells z0 z0 zV).toArray 44)) 46 (fun _ => .int .i64 0) 2 [.int .i64 0, .int .i64 0] rfl (fun i hi => by rcases (by omega : i = 0 ∨ i = 1) with rfl | rfl <;> rfl)
    rw [World.size_alloc] at h
    exact h)
  have B3 := Lib.hid (B2.out.trans (b3.mono B2.out.size))
  have R3 := Lib.hid (R2.out.below b3)
  have RT : w3.there w2.heap.size 0 (scells z0 z0 zV).toArray.size := StIs.there_ S3.out
  have s3 : w3.setCells w2.heap.size 0 (scells z0 z0 zV) = w3 := StIs.still S3.out
  have V1 : (scells z0 z0 zV).toArray.all (·.oneCell') = true := scells_one fun _ _ => rfl
  have p0 : w3.cell? ⟨w2.heap.size + 1, 0, none⟩ = some (.int .i64 0) := RowIs.cell P3.out (i := 0) (by omega)
  have f0 := RowIs.free P3.out 0
  have f1 := RowIs.free P3.out 1
  have P4 : Hid (RowIs (w3.setCell ⟨w2.heap.size + 1, 0, none⟩ (.int .i64 6)) (w2.heap.size + 1) 46 (fun i => if i = 0 then .int .i64 6 else .int .i64 0) 2) := Lib.hid (P3.out.set_ (fun _ => by simp) (fun i _ hi => by simp [hi]))
  have P5 : Hid (RowIs ((w3.setCell ⟨w2.heap.size + 1, 0, none⟩ (.int .i64 6)).setCell ⟨w2.heap.size + 1, 1, none⟩ (.int .i64 2)) (w2.heap.size + 1) 46 (fun i => if i = 0 then .int .i64 6 else .int .i64 2) 2) := Lib.hid (P4.out.set_ (fun _ => by simp) (fun i hi hk => by rw [if_pos (show i = 0 by omega), if_pos (show i = 0 by omega)]))
  have p2 : (w3.setCell ⟨w2.heap.size + 1, 0, none⟩ (.int .i64 6)).cell? ⟨w2.heap.size + 1, 1, none⟩ = some (.int .i64 0) := RowIs.cell P4.out (i := 1) (by omega)
  have f2 := RowIs.free P4.out 1
  obtain ⟨w5, hw5⟩ : ∃ w5, w5 = (w3.setCell ⟨w2.heap.size + 1, 0, none⟩ (.int .i64 6)).setCell ⟨w2.heap.size + 1, 1, none⟩ (.int .i64 2) := ⟨_, rfl⟩
  have a5 : Apart (fun k => k = w2.heap.size + 1) w3 w5 := by
    rw [hw5]
    exact ((Apart.refl (fun k => k = w2.heap.size + 1) w3).setCell (p := ⟨w2.heap.size + 1, 0, none⟩) (fun _ => rfl) _).setCell (p := ⟨w2.heap.size + 1, 1, none⟩) (fun _ => rfl) _
  have P6 : Hid (RowIs w5 (w2.heap.size + 1) 46 (fun i => if i = 0 then .int .i64 6 else .int .i64 2) 2) := Lib.hid (by rw [hw5]; exact P5.out)
  have S5 : Hid (StIs w5 w2.heap.size z0 z0 zV) := Lib.hid (RowIs.apart S3.out a5 (by omega))
  have R5 : Hid (ReadsP w5 (.slice A1 2 c1) 2 (fun _ => 64) firstP) := Lib.hid (R2.out.below (b3.trans (a5.below b3.size fun i hi e => by omega)))
  have B5 : Hid (Below w.heap.size w w5) := Lib.hid (B3.out.trans (a5.below B3.out.size fun i hi e => by have := B2.out.size; omega))
  obtain ⟨ad, u, rfl, hcu, hru⟩ := R5.out.page_at (i := 0) (by omega)
  have cu : w5.cell? ad = some u := by simpa [Addr.add] using hcu
  have RU := Lib.hid hru
  obtain ⟨Au, cu', eu, -⟩ := id hru
  subst eu
  have q0 : w5.cell? ⟨w2.heap.size + 1, 0, none⟩ = some (.int .i64 6) := RowIs.cell P6.out (i := 0) (by omega)
  have CU := Lib.hid cu
  clear b3 a5 P4 P5 S3 P3 R3 R2 R1 B3 B2 B1 hcu hru cu
  go_wp2_with (first
    | (rw [← hw3]; clear hw3; refine wpList_store_mid rfl 44 (.tmp 3) (.tmp 19) rfl w2.heap.size 0 (scells z0 z0 zV).toArray rfl rfl RT (state_len' _ _ _) V1 ?_; rw [show (scells z0 z0 zV).toArray.toList = scells z0 z0 zV from rfl, s3]; clear s3 RT V1)
    | (rw [← hw5]; clear hw5 p0 p2 f0 f1 f2; have cu := CU.out))
  with_reducible refine (count_any _ 64 (firstP 0) w5 RU.out).mono ?_
  rintro e w6 ⟨⟨-, rfl⟩ | ⟨hno, rfl⟩, hb6⟩
  · rw [first_n, first_seq]
    have S6 := Lib.hid (S5.out.below hb6)
    have B6 := Lib.hid (B5.out.trans (hb6.mono B5.out.size))
    have q6 := cell_later hb6 q0
    have B7 := Lib.hid (P6.out.below hb6)
    clear hb6 q0 cu RU R5 CU
    go_wp2_with (refine BigFrame.wpList_want (by rfl) (fun _ hK => wp_load_mid 44 (.tmp 3) rfl w2.heap.size 0 rfl (scells z0 z0 zV) _ (StIs.whole S6.out) Try.underlying44 rfl (state_len _ _ _) (hK _ _ ?_)))
    with_reducible refine (refSound_none w6).mono ?_
    rintro e w7 ⟨rfl, hb7⟩
    have q7 := cell_later hb7 q6
    have B8 := Lib.hid (B6.out.trans (hb7.mono B6.out.size))
    clear q6 hb7
    go_wp2
    go_ret
    exact ⟨rfl, B8.out⟩
  · exact absurd first_header hno
end Go.Proofs.Ytilknndcaoljnaa
