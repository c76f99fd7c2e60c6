/- The document's own answer for a number of bytes: a contract each. -/
import Derived.Test.YtilknndcaoljnaaLfCell
namespace Go.Proofs.Ytilknndcaoljnaa
open Go.RowKit

theorem refGet_arg (v : Value) (t s : Int) (w : World) (h : ¬ (1 ≤ s ∧ s ≤ 4)) :
    Calls Try.prog 22 #[v, .int .i64 t, .int .i64 s] w fun e w' => e = .returned (.tuple #[.int .i64 0, .int .i64 1]) ∧ w = w' := by
  by_cases h1 : s < 1
  · go_enter Try.func22, Try.ntmps22
    go_wp2
    go_ret2
    exact ⟨rfl, rfl⟩
  · have h2 : 4 < s := by omega
    go_enter Try.func22, Try.ntmps22
    go_wp2
    go_ret2
    exact ⟨rfl, rfl⟩

theorem refGet_short (A : Option Addr) (n c : Nat) (t : Int) (k : Nat) (w : World) (_hn : n ≤ 9223372036854775807) (h1 : 1 ≤ k) (h4 : k ≤ 4) (h : ¬ (0 ≤ t ∧ t + k ≤ n)) :
    Calls Try.prog 22 #[.slice A n c, .int .i64 t, .int .i64 (k : Int)] w fun e w' => e = .returned (.tuple #[.int .i64 0, .int .i64 3]) ∧ w = w' := by
  have d1 : decide ((k : Int) < 1) = false := by simp; omega
  have d4 : decide ((4 : Int) < (k : Int)) = false := by simp; omega
  by_cases h0 : t < 0
  · go_enter Try.func22, Try.ntmps22
    go_wp2
    go_ret2
    exact ⟨rfl, rfl⟩
  · have d0 : decide (t < 0) = false := by simp; omega
    by_cases h5 : (n : Int) < t
    · clear h
      go_enter Try.func22, Try.ntmps22
      go_wp2
      go_ret2
      exact ⟨rfl, rfl⟩
    · have d5 : decide ((n : Int) < t) = false := by simp; omega
      have d6 : (n : Int) - t < (k : Int) := by omega
      have d7 : (0 : Int) ≤ t := by omega
      have d8 : t ≤ (n : Int) := by omega
      clear h h0 h5
      go_enter Try.func22, Try.ntmps22
      go_wp2
      go_ret2
      exact ⟨rfl, rfl⟩

theorem refGet_ok (A : Option Addr) (n c : Nat) (f : Nat → Nat) (t k : Nat) (w : World) (hc : n ≤ c) (hm : c ≤ 9223372036854775807) (h1 : 1 ≤ k) (h4 : k ≤ 4) (ht : t + k ≤ n) (h : BytesAt w A n f) :
    Calls Try.prog 22 #[.slice A n c, .int .i64 (t : Int), .int .i64 (k : Int)] w fun e w' => e = .returned (.tuple #[.int .i64 (val (fun j => f (t + j)) k : Int), .int .i64 0]) ∧ w = w' := by
  obtain ⟨ad, rfl⟩ := h.addr (by omega)
  have H := Lib.hid h
  have d0 : decide ((t : Int) < 0) = false := by simp
  have d1 : decide ((k : Int) < 1) = false := by simp; omega
  have d4 : decide ((4 : Int) < (k : Int)) = false := by simp; omega
  have d5 : decide ((n : Int) < (t : Int)) = false := by simp; omega
  have d6 : decide ((n : Int) - (t : Int) < (k : Int)) = false := by simp; omega
  clear h
  go_enter Try.func22, Try.ntmps22
  go_wp2
  go_loop [8, 9] (fun x y => ∃ i : Nat, i ≤ k ∧ x = .int .i64 (val (fun j => f (t + j)) i : Int) ∧ y = .int .i64 (i : Int)) (fun _ y => k - (intOf y).toNat)
  case atStart => exact ⟨0, by omega, rfl, rfl⟩
  case round =>
    obtain ⟨i, hi, rfl, rfl⟩ := hrel
    obtain ⟨x, hx⟩ : ∃ x, x = val (fun j => f (t + j)) i := ⟨_, rfl⟩
    rw [← hx]
    have hxl : x ≤ 4294967296 := by
      have h2 := val_lt (f := fun j => f (t + j)) (k := i) (fun j hj => H.out.small _ (by omega))
      have h3 := pow_le_four (k := i) (by omega)
      omega
    by_cases hk : i < k
    · have hc0 := H.out.at_ (i := t + i) (by omega)
      have hz := H.out.small (t + i) (by omega)
      obtain ⟨z, ez⟩ : ∃ z, z = f (t + i) := ⟨_, rfl⟩
      rw [← ez] at hc0 hz
      have EZ := Lib.hid ez
      have HX := Lib.hid hx
      clear ez hx
      have hti : (t : Int) + (i : Int) < (n : Int) := by omega
      go_wp2
      clear hc0 hz
      go_round
      case rel => exact ⟨i + 1, by omega, by simp only [val]; rw [← HX.out, ← EZ.out]; go_num, by go_num⟩
      case measure => simp [intOf]; omega
    · obtain rfl : i = k := by omega
      have HX := Lib.hid hx
      clear hx
      go_wp2
      go_ret2
      exact ⟨by rw [← HX.out]; rfl, rfl⟩

end Go.Proofs.Ytilknndcaoljnaa
