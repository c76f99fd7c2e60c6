/- Flush; New; Crash. -/
import Derived.Test.YtcnoadikkfedaaaBasinGet
namespace Go.Proofs.Ytcnoadikkfedaaa
open Go.RowKit

/-- What Flush answers: the device behind it, or none the wiser. -/
def Flushed (w : World) (base g h : Nat) (L : Value) (D : Dev) (e : Ending) (w' : World) : Prop :=
  Apart (fun k => k = g ∨ k = h) w w' ∧
    ((D.power.1 = true ∧ e = .returned (.int .i64 0) ∧ IsDev w' base g h (.slice none 0 0) (D.power.2.settle (fun _ => true))) ∨
      (D.power.1 = false ∧ e = .returned (.int .i64 10) ∧ IsDev w' base g h L D.power.2))

theorem flush_any {w : World} {base g h : Nat} {L : Value} {D : Dev} (d : IsDev w base g h L D) :
    Calls Try.prog 16 #[.pointer (some ⟨g, 0, none⟩)] w (Flushed w base g h L D) := by
  have HD := Lib.hid d
  clear d
  go_enter Try.func16, Try.ntmps16
  go_wp2_with fail
  refine (powered_any HD.out).mono ?_
  rintro e w1 ⟨rfl, hd, ha⟩
  have D1 := Lib.hid hd
  have A1 := Lib.hid ha
  clear hd ha
  by_cases hp : D.power.1 = true
  · have HP := Lib.hid hp
    rw [hp]
    clear hp
    go_wp2_with fail
    refine (settle_yes D1.out).mono ?_
    rintro e w2 ⟨rfl, hd, ha⟩
    have D2 := Lib.hid hd
    have A2 := Lib.hid ha
    clear hd ha
    go_wp2
    go_ret
    exact ⟨(A1.out.mono fun _ _ e => .inl e).trans A2.out fun _ _ e => e, .inl ⟨HP.out, rfl, D2.out⟩⟩
  · have hp' : D.power.1 = false := by simpa using hp
    have HP := Lib.hid hp'
    rw [hp']
    clear hp hp'
    go_wp2
    go_ret
    exact ⟨A1.out.mono fun _ _ e => .inl e, .inr ⟨HP.out, rfl, D1.out⟩⟩

/-- A device of n sectors of bytes 0. -/
def fresh (n : Nat) : Dev := ⟨n, fun _ _ => 0, [], false, false, 0⟩
def Born (n : Nat) (w : World) (e : Ending) (w' : World) : Prop :=
  ∃ g h, e = .returned (.tuple #[.pointer (some ⟨g, 0, none⟩), .int .i64 0]) ∧ IsDev w' w.heap.size g h (.slice none 0 0) (fresh n) ∧ Below w.heap.size w w'

theorem sector_three : (Try.prog.info? 67).map (fun i => (i.zero, i.size, i.bytes)) = some (some (.agg (cellsOf (fun _ => 0) 64).toArray), 64, 64) := by kernel_rfl
theorem make_sectors (n : Nat) (hn : n ≤ 424) (u : World) :
    ∃ w', (Instr.makeSlice 59 (.int .i64 (n : Int)) (.int .i64 (n : Int))).run Try.prog u = .ok (.slice (some ⟨u.heap.size, 0, none⟩) n n) w' ∧ RowIs w' u.heap.size 67 (scell fun _ _ => 0) (n * 64) ∧ Below u.heap.size u w' ∧ w'.heap.size = u.heap.size + 1 := by
  obtain ⟨i0, hi, hz0, hz1, hz2⟩ := info_parts sector_three
  have h := run_make (P := Try.prog) u 59 67 i0 _ Try.underlying59 hi hz0 .i64 .i64 (n : Int) (n : Int) (by omega) (Int.le_refl _) (by rw [hz2]; omega) (by omega)
  rw [hz1, Int.toNat_natCast] at h
  refine ⟨_, h, ?_, (Below.refl _ _).alloc (Nat.le_refl _) _, by simp⟩
  unfold RowIs
  rw [heap_alloc_new]
  congr 2
  apply Array.ext'
  unfold madeCells
  simp only [Array.toList_map, Array.toList_range]
  apply List.map_congr_left
  intro i _
  have hz : (cellsOf (fun _ => 0) 64).toArray.size = 64 := by simp [cellsOf_length]
  show (cellsOf (fun _ => 0) 64).toArray[i % (cellsOf (fun _ => 0) 64).toArray.size]! = .int .u8 0
  rw [hz]
  have hi : i % 64 < 64 := by omega
  have h5 := cellsOf_at (fun _ => 0) hi
  have h6 : (cellsOf (fun _ => 0) 64).toArray[i % 64]? = some (.int .u8 0) := by rw [List.getElem?_toArray]; exact h5
  show (cellsOf (fun _ => 0) 64).toArray[i % 64]! = .int .u8 0
  rw [Array.getElem!_eq_getD, Array.getD_eq_getD_getElem?, h6]
  rfl

theorem new_arg (z : Int) (w : World) (h : ¬ (1 ≤ z ∧ z ≤ 424)) :
    Calls Try.prog 8 #[.int .i64 z] w fun e w' => e = .returned (.tuple #[.pointer none, .int .i64 1]) ∧ w = w' := by
  by_cases h1 : z < 1
  · go_enter Try.func8, Try.ntmps8
    go_wp2
    go_ret2
    exact ⟨rfl, rfl⟩
  · have h2 : 424 < z := by omega
    have d1 : decide (z < 1) = false := by simpa using h1
    clear h
    go_enter Try.func8, Try.ntmps8
    go_wp2
    go_ret2
    exact ⟨rfl, rfl⟩

theorem new_ok (n : Nat) (w : World) (h1 : 1 ≤ n) (h2 : n ≤ 424) :
    Calls Try.prog 8 #[.int .i64 (n : Int)] w (Born n w) := by
  obtain ⟨w1, hmk, hr, hb, hs⟩ := make_sectors n h2 w
  have HR := Lib.hid hr
  have HB := Lib.hid hb
  have HS := Lib.hid hs
  have d1 : ¬ (n : Int) < 1 := by omega
  have d2 : ¬ (424 : Int) < (n : Int) := by omega
  clear hr hb hs
  go_enter Try.func8, Try.ntmps8
  go_wp2
  go_ret2
  refine ⟨w1.heap.size, w.heap.size, rfl, ?_, HB.out.alloc HB.out.size _⟩
  have hne : w1.heap.size ≠ w.heap.size := by have := HS.out; omega
  exact ⟨heap_alloc_new _ _, HR.out.below ((Below.refl _ _).alloc (Nat.le_refl _) _), World.ownsRow_nil _ _ _ _, HB.out.size, Nat.le_refl _, hne, (by intro e; cases e), (by intro e; cases e), ⟨h1, h2⟩, (fun _ _ _ _ => by show (0 : Nat) < 256; omega), (fun x hx => by cases hx), by show (_ : Int) ≤ 0; omega, by show (0 : Int) ≤ _; omega, fun h => by cases h⟩

/-- Does the list name write t? -/
def named (Z : List Int) (i t : Nat) : Bool := decide ((t : Int) ∈ Z.take i)
theorem named_next {Z : List Int} {i t : Nat} (hi : i < Z.length) : named Z (i + 1) t = (named Z i t || decide ((t : Int) = Z[i])) := by
  unfold named
  rw [List.take_succ_eq_append_getElem hi]
  rw [Bool.eq_iff_iff]
  simp only [List.mem_append, List.mem_singleton, decide_eq_true_eq, Bool.or_eq_true]

theorem bool_info : (Try.prog.info? 4).map (fun i => (i.zero, i.size, i.bytes)) = some (some (.bool false), 1, 1) := by kernel_rfl
theorem make_marks (n : Nat) (hn : n ≤ 281474976710656) (u : World) :
    ∃ w', (Instr.makeSlice 54 (.int .i64 (n : Int)) (.int .i64 (n : Int))).run Try.prog u = .ok (.slice (some ⟨u.heap.size, 0, none⟩) n n) w' ∧ RowIs w' u.heap.size 4 (fun _ => .bool false) n ∧ Below u.heap.size u w' ∧ w'.heap.size = u.heap.size + 1 := by
  obtain ⟨i0, hi, hz0, hz1, hz2⟩ := info_parts bool_info
  have h := run_make (P := Try.prog) u 54 4 i0 _ Try.underlying54 hi hz0 .i64 .i64 (n : Int) (n : Int) (by omega) (Int.le_refl _) (by rw [hz2]; omega) (by omega)
  rw [hz1, Int.toNat_natCast, Nat.mul_one] at h
  refine ⟨_, h, ?_, (Below.refl _ _).alloc (Nat.le_refl _) _, by simp⟩
  unfold RowIs
  rw [heap_alloc_new]
  congr 2
  apply Array.ext'
  unfold madeCells
  simp only [Array.toList_map, Array.toList_range]
  apply List.map_congr_left
  intro i _
  simp [Nat.mod_one, Value.cells]

/-- The device behind a crash that spares those writes that the list names. -/
def Dev.crash (D : Dev) (Z : List Int) : Dev := { D.settle (fun t => named Z Z.length t) with off := false, limited := false, left := 0 }
def Crashed (w : World) (base g h : Nat) (D : Dev) (Z : List Int) (e : Ending) (w' : World) : Prop :=
  e = .returned (.tuple #[]) ∧ IsDev w' base g h (.slice none 0 0) (D.crash Z) ∧ Apart (fun k => k = g ∨ k = h) w w'

def Marking (w w1 : World) (m : Nat) (Z : List Int) (v : Value) (wr : World) : Prop :=
  ∃ i, i ≤ Z.length ∧ v = .int .i64 (i : Int) ∧ RowIs wr w.heap.size 4 (fun t => .bool (named Z i t)) m ∧ Below w.heap.size w wr ∧ Apart (fun k => k = w.heap.size) w1 wr

theorem RowIs.marks {w : World} {g n : Nat} {T : TypeId} {p : Nat → Bool} (h : RowIs w g T (fun t => .bool (p t)) n) : MarksAt w (some ⟨g, 0, none⟩) n p :=
  fun i hi => ⟨_, rfl, by rw [add_nil]; exact h.cell hi⟩

theorem crash_any {w : World} {base g h : Nat} {L : Value} {D : Dev} (d : IsDev w base g h L D) {A : Option Addr} {n c : Nat} {Z : List Int} (s : IntsIn w .i64 A n c Z) (hm : D.loose.length ≤ 281474976710656) :
    Calls Try.prog 19 #[.pointer (some ⟨g, 0, none⟩), .slice A n c] w (Crashed w base g h D Z) := by
  obtain ⟨-, c1, -, -, -, -⟩ := d.cells
  obtain ⟨AL, cap, rfl, hlc, hcm, hA⟩ := d.slice
  have HD := Lib.hid d
  have HI := Lib.hid s
  obtain ⟨m, hmm⟩ : ∃ m, m = D.loose.length := ⟨_, rfl⟩
  rw [← hmm] at c1 hlc hA hm
  have HM := Lib.hid hmm
  obtain ⟨w1, hmk, hr, hb, hsz⟩ := make_marks m hm w
  have HR := Lib.hid hr
  have HB := Lib.hid hb
  have HS := Lib.hid hsz
  have hn : n ≤ 9223372036854775807 := by have := s.cap; have := s.most; omega
  have HL := Lib.hid s.len
  clear d s hmm hr hb hsz hA
  go_enter Try.func19, Try.ntmps19
  go_wp2
  clear hmk c1
  go_loopw [17] (fun v wr => Marking w (w1.alloc (.cells #[.slice (some ⟨w.heap.size, 0, none⟩) m m] 54)) m Z v wr) (fun v _ => n - (intOf v).toNat)
  case atStart => exact ⟨0, Nat.zero_le _, rfl, (HR.out.below ((Below.refl _ _).alloc (Nat.le_refl _) _)).congr (fun i _ => by simp [named]), HB.out.alloc HB.out.size _, Apart.refl _ _⟩
  case round =>
    obtain ⟨i, hi, rfl, hr, hb, ha⟩ := hrel
    have R1 := Lib.hid hr
    have B1 := Lib.hid hb
    have A1 := Lib.hid ha
    rw [HL.out] at hi
    have cv : wr.cell? ⟨w1.heap.size, 0, none⟩ = some (.slice (some ⟨w.heap.size, 0, none⟩) m m) := by
      have h8 := HS.out
      have h9 := ha.block w1.heap.size (by simp) (by omega)
      rw [heap_alloc_new] at h9
      rw [cell_of_row _ _ _ _ _ _ h9]; rfl
    clear hr hb ha
    by_cases h0 : i < n
    · obtain ⟨ad, rfl⟩ := HI.out.addr (by omega)
      have hiZ : i < Z.length := by have := HL.out; omega
      obtain ⟨z, hzz⟩ : ∃ z, z = Z[i] := ⟨_, rfl⟩
      have hz : wr.cell? (ad.add i) = some (.int .i64 z) := by
        have h8 := HI.out.cell ad rfl i h0
        rw [List.getD_eq_getElem?_getD, List.getElem?_eq_getElem hiZ] at h8
        rw [hzz]
        exact cell_later B1.out h8
      have HZ := Lib.hid hzz
      clear hzz
      by_cases hz0 : 0 ≤ z
      · obtain ⟨t, rfl⟩ := Int.eq_ofNat_of_zero_le hz0
        by_cases hz1 : t < m
        · have ct := R1.out.cell (i := t) hz1
          have cf := R1.out.free t
          go_wp2
          clear ct cf hz cv
          go_roundw
          case rel =>
            refine ⟨i + 1, by omega, by go_num, R1.out.set_ (fun _ => ?_) (fun u _ hu => ?_), B1.out.setCell (Nat.le_refl _) _, A1.out.setCell (fun _ => rfl) _⟩
            · rw [named_next hiZ, ← HZ.out]; simp
            · rw [named_next hiZ, ← HZ.out]
              have : decide ((u : Int) = (t : Int)) = false := by simp; omega
              rw [this, Bool.or_false]
          case measure => simp [intOf]; omega
        · go_wp2
          clear hz cv
          go_roundw
          case rel =>
            refine ⟨i + 1, by omega, by go_num, R1.out.congr fun u hu => ?_, B1.out, A1.out⟩
            rw [named_next hiZ, ← HZ.out]
            have : decide ((u : Int) = (t : Int)) = false := by simp; omega
            rw [this, Bool.or_false]
          case measure => simp [intOf]; omega
      · have hd : decide (0 ≤ z) = false := by simpa using hz0
        go_wp2
        clear hz cv hd
        go_roundw
        case rel =>
          refine ⟨i + 1, by omega, by go_num, R1.out.congr fun u hu => ?_, B1.out, A1.out⟩
          rw [named_next hiZ, ← HZ.out]
          have : decide ((u : Int) = z) = false := by simp; omega
          rw [this, Bool.or_false]
        case measure => simp [intOf]; omega
    · obtain rfl : i = n := by omega
      have D1 := Lib.hid (HD.out.below B1.out)
      have hlt := (HD.out.lt h (.inr (.inl rfl))).2
      have h8 := HS.out
      have hk : ∀ W, Apart (fun k => k = h) wr W → W.cell? ⟨w1.heap.size, 0, none⟩ = some (.slice (some ⟨w.heap.size, 0, none⟩) m m) ∧ MarksAt W (some ⟨w.heap.size, 0, none⟩) m (fun t => named Z Z.length t) := fun W aW => by
        refine ⟨?_, ?_⟩
        · rw [World.cell?_of_block (aW.block w1.heap.size (World.block_lt_of_cell? wr _ cv) (by omega))]
          exact cv
        · have h7 := R1.out.apart aW (by omega)
          rw [HL.out]
          exact h7.marks
      have HK := Lib.hid hk
      clear hk h8
      go_wp2_with fail
      refine (settle_some D1.out HK.out (by have := HM.out; omega)).mono ?_
      rintro e w3 ⟨rfl, hd, ha⟩
      obtain ⟨-, -, c2, c3, c4, cf⟩ := hd.cells
      have f2 := cf 2
      have f3 := cf 3
      have f4 := cf 4
      have D3 := Lib.hid hd
      have A3 := Lib.hid ha
      clear hd ha cf cv
      go_wp2
      go_end0
      have ha := ((apart_set w3 g 2 (.bool false)).trans (apart_set _ g 3 (.bool false)) (fun _ _ e => e)).trans (apart_set _ g 4 (.int .i64 0)) (fun _ _ e => e)
      refine ⟨rfl, D3.out.head_ ha ?_ rfl rfl rfl ⟨by show (_ : Int) ≤ 0; omega, by show (0 : Int) ≤ _; omega, fun _ => by show (0 : Int) ≤ 0; omega⟩, ?_⟩
      · rw [heap_setCell_same _ g 4 _ _ _ (heap_setCell_same _ g 3 _ _ _ (heap_setCell_same w3 g 2 _ _ _ D3.out.head))]; rfl
      · exact (((Apart.of_below (F := fun k => k = g ∨ k = h) B1.out)).trans A3.out fun _ _ e => e).trans ha fun _ _ e => .inl e
end Go.Proofs.Ytcnoadikkfedaaa
