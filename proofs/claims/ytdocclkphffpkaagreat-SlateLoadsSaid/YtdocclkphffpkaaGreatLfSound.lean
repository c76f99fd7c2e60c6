/- Sound, of a state whose places are places or none. -/
import Derived.Test.YtdocclkphffpkaaGreatMerge9
import Derived.Test.YtdocclkphffpkaaGreatMerge5
import Derived.Deep.CutRange
namespace Go.Proofs.YtdocclkphffpkaaGreat
open Go.RowKit

theorem unfit_good (p : Pl) (hp : Good p) (w : World) : Calls Tryz.prog 104 #[zval p] w fun e w' => e = .returned (.bool false) ∧ w = w' := by
  cases p with
  | none =>
    have h1 := order_none
    have h2 := order_zero
    show Calls Tryz.prog 104 #[.complex .f64 13830554455654793216 0] w _
    go_enter Tryz.func104, Tryz.ntmps104
    go_wp2
    go_ret
    exact ⟨rfl, rfl⟩
  | some p =>
    obtain ⟨a, b⟩ := p
    obtain ⟨ha, hb⟩ := hp _ rfl
    have ha : a < 24 := ha
    have hb : b < 16 := hb
    have h1 := order_some_none a (by omega)
    show Calls Tryz.prog 104 #[.complex .f64 (fl a) (fl b)] w _
    have W1 : ∀ w, Calls Tryz.prog 113 #[.complex .f64 (fl a) (fl b)] w fun e w' => e = .returned (.bool true) ∧ w = w' := fun w => by
      go_enter Tryz.func113, Tryz.ntmps113
      go_wp2_with fail
      refine (parts_any a b _ ha hb).mono ?_
      rintro e w' ⟨rfl, rfl⟩
      go_wp2
      go_ret
      exact ⟨rfl, rfl⟩
    have W1 := Lib.hid W1
    go_enter Tryz.func104, Tryz.ntmps104
    go_wp2_with fail
    with_reducible refine (W1.out _).mono ?_
    rintro e w' ⟨rfl, rfl⟩
    go_wp2
    go_ret
    exact ⟨rfl, rfl⟩

theorem index_good (v : Value) (n : Nat) (Z : Nat → Pl) (w : World) (h : ReadsZ w v n Z) (hg : ∀ i, Good (Z i)) :
    Calls Tryz.prog 112 #[v, .func (.func 104) #[] #[]] w fun e w' => e = .returned (.int .i64 (-1)) ∧ w = w' := by
  obtain ⟨A, c, rfl, q1, q2, q3, q4⟩ := id h
  have H := Lib.hid h
  clear h q4
  go_enter Tryz.func112, Tryz.ntmps112
  go_wp2
  go_loopw [8] (fun x wr => (∃ i : Nat, i ≤ n ∧ x = .int .i64 (i : Int)) ∧ w = wr) (fun x _ => n - (intOf x).toNat)
  case atStart => exact ⟨⟨0, by omega, rfl⟩, rfl⟩
  case round =>
    obtain ⟨⟨i, hi, rfl⟩, rfl⟩ := hrel
    by_cases hlt : i < n
    · obtain ⟨ad, rfl⟩ := H.out.addr (by omega)
      have hc := H.out.at_ hlt
      have U := Lib.hid (fun w => unfit_good (Z i) (hg i) w)
      obtain ⟨X, eX⟩ : ∃ X, X = zre (Z i) := ⟨_, rfl⟩
      obtain ⟨Y, eY⟩ : ∃ Y, Y = zim (Z i) := ⟨_, rfl⟩
      have ez : zval (Z i) = .complex .f64 X Y := by rw [eX, eY]; rfl
      rw [ez] at hc U
      clear eX eY ez
      go_wp2_with fail
      with_reducible refine (U.out _).mono ?_
      rintro e w' ⟨rfl, rfl⟩
      clear hc
      go_wp2
      go_roundw
      case rel => exact ⟨⟨i + 1, by omega, by go_num⟩, by first | trivial | rfl⟩
      case measure => simp [intOf]; omega
    · obtain rfl : i = n := by omega
      go_wp2
      go_ret
      exact ⟨rfl, rfl⟩
theorem contains_good (v : Value) (n : Nat) (Z : Nat → Pl) (w : World) (h : ReadsZ w v n Z) (hg : ∀ i, Good (Z i)) :
    Calls Tryz.prog 103 #[v, .func (.func 104) #[] #[]] w fun e w' => e = .returned (.bool false) ∧ w = w' := by
  have I := Lib.hid (index_good v n Z w h hg)
  obtain ⟨A, c, rfl, -⟩ := h
  go_enter Tryz.func103, Tryz.ntmps103
  go_wp2_with fail
  with_reducible refine I.out.mono ?_
  rintro e w' ⟨rfl, rfl⟩
  go_wp2
  go_ret
  exact ⟨rfl, rfl⟩

/-- An entry that a sound state may have. -/
def EntryA (k s : Nat) : Prop := (k = 0 ∧ s = 0) ∨ ((k = 1 ∨ k = 2) ∧ 1 ≤ s ∧ s ≤ 32)
theorem size_any (s : Nat) (w : World) : Calls Tryz.prog 111 #[.int .i64 (s : Int)] w fun e w' => (∃ x, e = .returned (.bool x) ∧ (x = true ↔ 1 ≤ s ∧ s ≤ 32)) ∧ w = w' := by
  by_cases h1 : 1 ≤ s
  · by_cases h2 : s ≤ 32
    · have d1 : decide ((1 : Int) ≤ (s : Int)) = true := by simp; omega
      have d2 : decide ((s : Int) ≤ 32) = true := by simp; omega
      go_enter Tryz.func111, Tryz.ntmps111
      go_wp2
      go_ret
      exact ⟨⟨_, rfl, by simp; omega⟩, rfl⟩
    · have d1 : decide ((1 : Int) ≤ (s : Int)) = true := by simp; omega
      have d2 : decide ((s : Int) ≤ 32) = false := by simp; omega
      go_enter Tryz.func111, Tryz.ntmps111
      go_wp2
      go_ret
      exact ⟨⟨_, rfl, by simp; omega⟩, rfl⟩
  · have d1 : decide ((1 : Int) ≤ (s : Int)) = false := by simp; omega
    go_enter Tryz.func111, Tryz.ntmps111
    go_wp2
    go_ret
    exact ⟨⟨_, rfl, by simp; omega⟩, rfl⟩
theorem entry_any (k s : Nat) (w : World) :
    Calls Tryz.prog 102 #[.agg #[.int .i64 (k : Int), .int .i64 (s : Int)]] w fun e w' => (∃ x, e = .returned (.bool x) ∧ (x = true ↔ EntryA k s)) ∧ Below w.heap.size w w' := by
  have c0 : (w.alloc (.cells #[.int .i64 (k : Int), .int .i64 (s : Int)] 27)).cell? ⟨w.heap.size, 0, none⟩ = some (.int .i64 (k : Int)) := by rw [World.cell?_alloc_mark]; rfl
  have c1 : (w.alloc (.cells #[.int .i64 (k : Int), .int .i64 (s : Int)] 27)).cell? ⟨w.heap.size, 1, none⟩ = some (.int .i64 (s : Int)) := by rw [World.cell?_alloc_mark]; rfl
  have B0 : Hid (Below w.heap.size w (w.alloc (.cells #[.int .i64 (k : Int), .int .i64 (s : Int)] 27))) := Lib.hid ((Below.refl _ _).alloc (Nat.le_refl _) _)
  by_cases h0 : k = 0
  · subst h0
    by_cases hs : s = 0
    · subst hs
      go_enter Tryz.func102, Tryz.ntmps102
      go_wp2
      go_ret
      exact ⟨⟨_, rfl, by unfold EntryA; simp⟩, B0.out⟩
    · have e1 : ((s : Int) == 0) = false := by simp; omega
      go_enter Tryz.func102, Tryz.ntmps102
      go_wp2
      go_ret
      exact ⟨⟨_, rfl, by unfold EntryA; simp; omega⟩, B0.out⟩
  · by_cases h1 : k = 1
    · subst h1
      go_enter Tryz.func102, Tryz.ntmps102
      go_wp2_with fail
      with_reducible refine (size_any s _).mono ?_
      rintro e w' ⟨⟨x, rfl, hx⟩, rfl⟩
      have HX := Lib.hid hx
      clear hx
      go_wp2
      go_ret
      exact ⟨⟨_, rfl, by rw [HX.out]; unfold EntryA; omega⟩, B0.out⟩
    · by_cases h2 : k = 2
      · subst h2
        go_enter Tryz.func102, Tryz.ntmps102
        go_wp2_with fail
        with_reducible refine (size_any s _).mono ?_
        rintro e w' ⟨⟨x, rfl, hx⟩, rfl⟩
        have HX := Lib.hid hx
        clear hx
        go_wp2
        go_ret
        exact ⟨⟨_, rfl, by rw [HX.out]; unfold EntryA; omega⟩, B0.out⟩
      · have e0 : ((k : Int) == 0) = false := by simp; omega
        have e1 : ((k : Int) == 1) = false := by simp; omega
        have e2 : ((k : Int) == 2) = false := by simp; omega
        have HN := Lib.hid (And.intro h0 (And.intro h1 h2))
        clear h0 h1 h2
        go_enter Tryz.func102, Tryz.ntmps102
        go_wp2
        go_ret
        exact ⟨⟨_, rfl, by have := HN.out; unfold EntryA; simp; omega⟩, B0.out⟩
theorem entry_yes {k s : Nat} (h : EntryA k s) (w : World) : Calls Tryz.prog 102 #[.agg #[.int .i64 (k : Int), .int .i64 (s : Int)]] w (Fresh (.bool true) w) :=
  (entry_any k s w).mono fun e w' ⟨⟨x, he, hx⟩, hb⟩ => ⟨by rw [he, hx.2 h], hb⟩
theorem entry_no {k s : Nat} (h : ¬ EntryA k s) (w : World) : Calls Tryz.prog 102 #[.agg #[.int .i64 (k : Int), .int .i64 (s : Int)]] w (Fresh (.bool false) w) :=
  (entry_any k s w).mono fun e w' ⟨⟨x, he, hx⟩, hb⟩ => ⟨by rw [he, (show x = false by cases x with | false => rfl | true => exact absurd (hx.1 rfl) h)], hb⟩

/-- A state whose kinds, sizes and lengths are those of a sound one. -/
def SoundA (K S M : Nat → Nat) : Prop := ∀ i, i < 8 → EntryA (K i) (S i) ∧ M i = S i

set_option maxRecDepth 100000 in
set_option maxHeartbeats 1000000 in
theorem sound_any (K S M : Nat → Nat) (V : Nat → Value) (Z : Nat → Nat → Pl) (w : World) (hr : ∀ i, i < 8 → ReadsZ w (V i) (M i) (Z i)) (hg : ∀ i j, Good (Z i j)) :
    Calls Tryz.prog 89 #[.agg (scells K S V).toArray] w fun e w' => (∃ x, e = .returned (.bool x) ∧ (x = true ↔ SoundA K S M)) ∧ Below w.heap.size w w' := by
  have ZB := Lib.hid (st_new w K S V)
  have B0 : Hid (Below w.heap.size w (w.alloc (.cells (scells K S V).toArray 32))) := Lib.hid ((Below.refl _ w).alloc (Nat.le_refl _) _)
  have HR := Lib.hid hr
  have HG := Lib.hid hg
  clear hr hg
  go_enter Tryz.func89, Tryz.ntmps89
  go_wp2_with (refine wpList_load_mid rfl 28 (.tmp 5) rfl w.heap.size 0 rfl (ecells K S) _ (StIs.entries ZB.out) Tryz.underlying28 rfl (entries_len _ _) ?_)
  go_loopw [7] (fun v wr => ∃ i : Nat, i ≤ 8 ∧ v = .int .i64 (i : Int) ∧ StIs wr w.heap.size K S V ∧ Below w.heap.size w wr ∧ ∀ j, j < i → EntryA (K j) (S j) ∧ M j = S j) (fun v _ => 8 - (intOf v).toNat)
  case atStart => exact ⟨0, by omega, rfl, ZB.out, B0.out, fun j hj => absurd hj (by omega)⟩
  case round =>
    clear ZB B0
    obtain ⟨i, hi, rfl, hs, hb, hp⟩ := hrel
    have HS := Lib.hid hs
    have HB := Lib.hid hb
    have HP := Lib.hid hp
    clear hs hb hp
    by_cases h8 : i < 8
    · have hx := fun w => run_entry w K S h8
      obtain ⟨A, c, ev, q1, q2, q3, q4⟩ := HR.out i h8
      obtain ⟨x, ex⟩ : ∃ x, x = K i := ⟨_, rfl⟩
      obtain ⟨y, ey⟩ : ∃ y, y = S i := ⟨_, rfl⟩
      obtain ⟨m, em⟩ : ∃ m, m = M i := ⟨_, rfl⟩
      rw [← ex, ← ey] at hx
      rw [← em] at ev
      obtain ⟨w2, hw2⟩ : ∃ w2, w2 = wr.alloc (.cells #[.int .i64 (x : Int), .int .i64 (y : Int)] 27) := ⟨_, rfl⟩
      have hc0 : w2.cell? ⟨wr.heap.size, 0, none⟩ = some (.int .i64 (x : Int)) := by rw [hw2, World.cell?_alloc_mark]; rfl
      have hc1 : w2.cell? ⟨wr.heap.size, 1, none⟩ = some (.int .i64 (y : Int)) := by rw [hw2, World.cell?_alloc_mark]; rfl
      have hb2 : Below wr.heap.size wr w2 := by rw [hw2]; exact (Below.refl _ _).alloc (Nat.le_refl _) _
      have hr : w2.cell? ⟨w.heap.size, 16 + i, none⟩ = some (.slice A m c) := by rw [← ev]; exact StIs.row (HS.out.below hb2) h8
      have l0 : ∀ z : Later w2, z.val.cell? ⟨wr.heap.size, 0, none⟩ = some (.int .i64 (x : Int)) := fun z => cell_later z.ext hc0
      have l1 : ∀ z : Later w2, z.val.cell? ⟨wr.heap.size, 1, none⟩ = some (.int .i64 (y : Int)) := fun z => cell_later z.ext hc1
      have lr : ∀ z : Later w2, z.val.cell? ⟨w.heap.size, 16 + i, none⟩ = some (.slice A m c) := fun z => cell_later z.ext hr
      have B2 := Lib.hid (HB.out.trans (hb2.mono HB.out.size))
      have S2 := Lib.hid (HS.out.below hb2)
      have EX := Lib.hid ex
      have EY := Lib.hid ey
      have EM := Lib.hid em
      have EV := Lib.hid ev
      clear hc0 hc1 hb2 hr ex ey em ev q3 q4
      by_cases he : EntryA x y
      · have E := Lib.hid he
        clear he
        by_cases hm : m = y
        · have M := Lib.hid hm
          have d : ((m : Int) != (y : Int)) = false := by simp; omega
          clear hm
          go_wp2
          rw [← hw2]
          clear hw2
          refine region_later (by kernel_rfl) (by kernel_rfl) ?_
          repeat (go_big_quiet_step (first
            | (go_at_call 102; exact later_fresh (fun W => entry_yes E.out W))))
          refine wpQuiet_nil ?_
          rintro w9 ⟨⟨w3, hb3⟩, hw9⟩
          obtain rfl : w9 = w3 := hw9
          have S3 := Lib.hid (S2.out.below hb3)
          have B3 := Lib.hid (B2.out.trans (hb3.mono B2.out.size))
          have c3 : w9.cell? ⟨w.heap.size, 16 + i, none⟩ = some (.slice A m c) := by rw [← EV.out]; exact StIs.row S3.out h8
          clear l0 l1 lr hb3
          go_wp2_with fail
          have hz := (HR.out i h8).below B3.out
          rw [EV.out] at hz
          rw [← EM.out] at hz
          with_reducible refine (contains_good _ _ _ _ hz (HG.out i)).mono ?_
          rintro e w' ⟨rfl, rfl⟩
          clear c3 hz
          go_wp2
          go_roundw
          case rel => exact ⟨i + 1, by omega, by go_num, S3.out, B3.out, fun j hj => by
            by_cases hji : j < i
            · exact HP.out j hji
            · obtain rfl : j = i := by omega
              rw [← EX.out, ← EY.out, ← EM.out]
              exact ⟨E.out, M.out⟩⟩
          case measure => simp [intOf]; omega
        · have M := Lib.hid hm
          have d : ((m : Int) != (y : Int)) = true := by simp; omega
          clear hm
          go_wp2
          rw [← hw2]
          clear hw2
          refine region_later (by kernel_rfl) (by kernel_rfl) ?_
          repeat (go_big_quiet_step (first
            | (go_at_call 102; exact later_fresh (fun W => entry_yes E.out W))))
          refine wpQuiet_nil ?_
          rintro w9 ⟨⟨w3, hb3⟩, hw9⟩
          obtain rfl : w9 = w3 := hw9
          have B3 := Lib.hid (B2.out.trans (hb3.mono B2.out.size))
          clear l0 l1 lr hb3
          go_wp2
          go_ret
          exact ⟨⟨_, rfl, ⟨fun h => (by cases h), fun h => by
            have := (h i h8).2
            rw [← EM.out, ← EY.out] at this
            exact absurd this M.out⟩⟩, B3.out⟩
      · have E := Lib.hid he
        clear he
        go_wp2
        rw [← hw2]
        clear hw2
        refine region_later (by kernel_rfl) (by kernel_rfl) ?_
        repeat (go_big_quiet_step (first
          | (go_at_call 102; exact later_fresh (fun W => entry_no E.out W))))
        refine wpQuiet_nil ?_
        rintro w9 ⟨⟨w3, hb3⟩, hw9⟩
        obtain rfl : w9 = w3 := hw9
        have B3 := Lib.hid (B2.out.trans (hb3.mono B2.out.size))
        clear l0 l1 lr hb3
        go_wp2
        go_ret
        exact ⟨⟨_, rfl, ⟨fun h => (by cases h), fun h => by
          have := (h i h8).1
          rw [← EX.out, ← EY.out] at this
          exact absurd this E.out⟩⟩, B3.out⟩
    · obtain rfl : i = 8 := by omega
      go_wp2
      go_ret
      exact ⟨⟨_, rfl, ⟨fun _ => HP.out, fun _ => rfl⟩⟩, HB.out⟩
end Go.Proofs.YtdocclkphffpkaaGreat
