/- The first facts, which the statements of package chooser ask. -/
import Derived.Test.YtiolhdilfjomcaaChPick
namespace Go.Proofs.Ytiolhdilfjomcaa
open Go.RowKit

def liveA : Nat → Int | 0 => 4 | 1 => 3 | 2 => 1 | 3 => 0 | 4 => 2 | _ => 4
def zeroA : Nat → Int := fun _ => 0
def butA : Nat → Int := fun _ => 2
theorem lt6 {t : Nat} (h : t < 6) : t = 0 ∨ t = 1 ∨ t = 2 ∨ t = 3 ∨ t = 4 ∨ t = 5 := by omega
theorem liveA_in (i : Nat) (h : i < 6) : 0 ≤ liveA i ∧ liveA i ≤ 4 := by
  have : ∀ i : Fin 6, 0 ≤ liveA i.val ∧ liveA i.val ≤ 4 := by decide
  exact this ⟨i, h⟩
theorem live_awake : Live 6 4 6 liveA := ⟨⟨by omega, by omega⟩, rfl, liveA_in⟩
theorem ages_awake : Ages 6 6 zeroA := ⟨rfl, fun i _ => by unfold zeroA; omega⟩
theorem pick_awake : IsPick (cand liveA butA 4 1) (overS liveA zeroA 4) (underS liveA 4) 6 4 where
  lt := by omega
  can := by decide
  top := fun i hi => by
    have : ∀ i : Fin 6, cand liveA butA 4 1 i.val = true → rel (overS liveA zeroA 4 i.val) (underS liveA 4 i.val) (overS liveA zeroA 4 4) (underS liveA 4 4) ≤ 0 := by decide
    exact this ⟨i, hi⟩
  first := fun i hi => by
    have : ∀ i : Fin 4, cand liveA butA 4 1 i.val = true → rel (overS liveA zeroA 4 i.val) (underS liveA 4 i.val) (overS liveA zeroA 4 4) (underS liveA 4 4) < 0 := by decide
    exact this ⟨i, hi⟩
theorem ints_lit {W : World} {g n : Nat} {f : Nat → Int} (hw : ∀ i, i < n → -9223372036854775808 ≤ f i ∧ f i ≤ 9223372036854775807) (h : ∀ i, i < n → W.cell? ((⟨g, 0, none⟩ : Addr).add i) = some (.int .i64 (f i))) : IntsAt W (some ⟨g, 0, none⟩) n f :=
  ⟨hw, fun i hi => ⟨_, rfl, h i hi⟩⟩

theorem awake_any (w : World) : Calls Try.prog 10 #[] w (Fresh (.bool true) w) := by
  have hm : ∀ u, (Instr.makeSlice 24 (.int .i64 6) (.int .i64 6)).run Try.prog u = .ok (.slice (some ⟨u.heap.size, 0, none⟩) 6 6) (u.alloc (.cells (intsOf zeroA 6).toArray 3)) := make_ints 6 (by omega)
  go_enter Try.func10, Try.ntmps10
  go_wp2_with fail
  refine (pick_ok (A := some _) (B := some _) (D := some _) 6 6 1 _ live_awake ages_awake (ints_lit ?_ ?_) (ints_lit ?_ ?_) (ints_lit ?_ ?_) (by omega) pick_awake).mono ?_
  · exact fun i hi => by have := liveA_in i hi; omega
  · intro t ht
    rcases lt6 ht with rfl | rfl | rfl | rfl | rfl | rfl
    all_goals
      go_simp
      rfl
  · exact fun i hi => by unfold zeroA; omega
  · intro t ht
    rcases lt6 ht with rfl | rfl | rfl | rfl | rfl | rfl
    all_goals
      go_simp
      rfl
  · exact fun i hi => by unfold butA; omega
  · intro t ht
    obtain rfl : t = 0 := by omega
    go_simp
    rfl
  rintro e w1 ⟨rfl, hb⟩
  have HB : Hid (Below w.heap.size w w1) := Lib.hid ((((Below.refl _ _).alloc (Nat.le_refl _) _).alloc (by simp) _).alloc (by simp; omega) _ |>.trans (hb.mono (by simp; omega)))
  clear hb hm
  go_wp2_with fail
  refine (gain_ok (A := some _) (L := liveA) 6 1 _ live_awake (ints_lit ?_ ?_) (by omega)).mono ?_
  · exact fun i hi => by have := liveA_in i hi; omega
  · intro t ht
    rcases lt6 ht with rfl | rfl | rfl | rfl | rfl | rfl
    all_goals
      go_simp
      rfl
  rintro e w2 ⟨rfl, hb⟩
  have H2 : Hid (Below w.heap.size w w2) := Lib.hid ((HB.out.alloc HB.out.size _).trans (hb.mono (by have := HB.out.size; simp; omega)))
  clear hb
  have h1 : (4 : Int) - liveA 1 = 1 := by decide
  rw [h1]
  go_wp2
  go_ret
  exact ⟨rfl, H2.out⟩
end Go.Proofs.Ytiolhdilfjomcaa
