/- slices.EqualFunc of two rows of pages. -/
import Derived.Test.YtdocclkphffpkaaGreatMerge6
import Derived.Test.YtdocclkphffpkaaGreatLfPages
namespace Go.Proofs.YtdocclkphffpkaaGreat
open Go.RowKit

/-- The same pages? -/
def SameP (N M : Nat) (L L' : Nat → Nat) (F F' : Nat → Nat → Nat) : Prop := N = M ∧ ∀ i, i < N → L i = L' i ∧ ∀ j, j < L i → F i j = F' i j

theorem sameFunc_any (v u : Value) (N M : Nat) (L L' : Nat → Nat) (F F' : Nat → Nat → Nat) (w : World) (hv : ReadsP w v N L F) (hu : ReadsP w u M L' F') :
    Calls Tryz.prog 58 #[v, u, .func (.func 59) #[] #[]] w fun e w' => ∃ b, e = .returned (.bool b) ∧ (b = true ↔ SameP N M L L' F F') ∧ w = w' := by
  have V := Lib.hid hv
  have U := Lib.hid hu
  obtain ⟨A, c, rfl, v1, v2, v3, v4⟩ := hv
  obtain ⟨B, d, rfl, u1, u2, u3, u4⟩ := hu
  have HV := Lib.hid v4
  have HU := Lib.hid u4
  clear v4 u4
  by_cases hNM : N = M
  · subst hNM
    have hne : ((N : Int) != (N : Int)) = false := by simp
    go_enter Tryz.func58, Tryz.ntmps58
    go_wp2
    go_loopw [17] (fun x wr => ∃ k : Nat, k ≤ N ∧ x = .int .i64 (k : Int) ∧ w = wr ∧ ∀ i, i < k → L i = L' i ∧ ∀ j, j < L i → F i j = F' i j) (fun x _ => N - (intOf x).toNat)
    case atStart => exact ⟨0, by omega, rfl, by first | exact rfl | trivial, fun i hi => absurd hi (by omega)⟩
    case round =>
      obtain ⟨k, hk, rfl, rfl, hp⟩ := hrel
      have HP := Lib.hid hp
      clear hp
      by_cases hlt : k < N
      · obtain ⟨ad, x, rfl, cx, rx⟩ := HV.out k hlt
        obtain ⟨bd, y, rfl, cy, ry⟩ := HU.out k hlt
        have RX := Lib.hid rx
        have RY := Lib.hid ry
        obtain ⟨A1, n1, e1, _⟩ := id rx
        obtain ⟨B1, m1, e2, _⟩ := id ry
        clear rx ry
        subst e1 e2
        go_wp2_with fail
        with_reducible refine (equal_any _ _ _ _ _ _ _ RX.out RY.out).mono ?_
        rintro e w' ⟨b, rfl, hb, rfl⟩
        have HB := Lib.hid hb
        clear hb cx cy
        cases b with
        | false =>
          go_wp2
          go_ret
          exact ⟨_, rfl, ⟨fun h => (by cases h), fun h => absurd (HB.out.2 (h.2 k hlt)) (by simp)⟩, rfl⟩
        | true =>
          go_wp2
          go_roundw
          case rel => exact ⟨k + 1, by omega, by go_num, by first | exact rfl | trivial, fun i hi => by
            by_cases hik : i < k
            · exact HP.out i hik
            · obtain rfl : i = k := by omega
              exact HB.out.1 (by simp)⟩
          case measure => simp [intOf]; omega
      · obtain rfl : k = N := by omega
        go_wp2
        go_ret
        exact ⟨_, rfl, ⟨fun _ => ⟨rfl, HP.out⟩, fun _ => rfl⟩, rfl⟩
  · have hne : ((N : Int) != (M : Int)) = true := by simp; omega
    have hn2 : ((N : Int) == (M : Int)) = false := by simp; omega
    have HN := Lib.hid hNM
    clear hNM
    go_enter Tryz.func58, Tryz.ntmps58
    go_wp2
    go_ret
    exact ⟨_, rfl, ⟨fun h => (by cases h), fun h => absurd h.1 HN.out⟩, rfl⟩
end Go.Proofs.YtdocclkphffpkaaGreat
