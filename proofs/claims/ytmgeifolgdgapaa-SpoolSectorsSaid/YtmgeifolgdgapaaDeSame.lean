
/- The statement's same: of rows of deltas that are alike. -/
import Derived.Test.YtmgeifolgdgapaaDeRows
namespace Go.Proofs.Ytmgeifolgdgapaa
open Go.RowKit

theorem run_equal_self (w : World) (d : Nat) {a b : Nat} (ha : a < 25) (hb : b < 25) : (Op.equalIn (d + 1) 50 (.complex .f64 (fl a) (fl b)) (.complex .f64 (fl a) (fl b))).run Try.prog w = .ok true w := by
  have h1 : (Op.equalIn (d + 1) 50 (.complex .f64 (fl a) (fl b)) (.complex .f64 (fl a) (fl b))).run Try.prog w = .ok (Op.floatEq .f64 (fl a) (fl a) && Op.floatEq .f64 (fl b) (fl b)) w := by
    simp only [Op.equalIn, Sem.run_bind, run_underlying Try.underlying50 w, Result.andThen_ok]
    rfl
  rw [h1]
  unfold Op.floatEq
  rw [fl_eq a ha, fl_eq b hb]
  rfl
theorem drewN_twice (w : World) (q m : Nat) : (w.drewN q).drewN m = w.drewN (q + m) := by
  unfold World.drewN
  simp [Nat.add_assoc]
theorem ReadsD.five {w : World} {ad : Addr} {n c : Nat} {ds : Nat → Del} (h : ReadsD w (.slice (some ad) n c) n ds) {i : Nat} (hi : i < n) :
    w.cell? (ad.add (i * 5)) = some (.int .i64 ((ds i).kind : Int)) ∧ w.cell? ⟨(ad.add (i * 5)).block, (ad.add (i * 5)).off + 1, none⟩ = some (.int .i64 ((ds i).vol : Int)) ∧ w.cell? ⟨(ad.add (i * 5)).block, (ad.add (i * 5)).off + 2, none⟩ = some (.int .i64 ((ds i).other : Int)) ∧
      w.cell? ⟨(ad.add (i * 5)).block, (ad.add (i * 5)).off + 3, none⟩ = some (.int .i64 ((ds i).block : Int)) ∧ w.cell? ⟨(ad.add (i * 5)).block, (ad.add (i * 5)).off + 4, none⟩ = some (.complex .f64 (fl (ds i).a) (fl (ds i).b)) := by
  obtain ⟨A, c', e, _, _, _, hs⟩ := h
  obtain ⟨ad', e1, hc⟩ := hs i hi
  cases e
  cases e1
  have g : ∀ j, j < 5 → ∀ x, (ds i).cells[j]? = some x → w.cell? ((ad.add (i * 5)).add j) = some x := fun j hj x hx => by rw [Addr.add_add]; exact hc j hj x hx
  exact ⟨by have := g 0 (by omega) _ rfl; simpa [Addr.add] using this, g 1 (by omega) _ rfl, g 2 (by omega) _ rfl, g 3 (by omega) _ rfl, g 4 (by omega) _ rfl⟩

set_option maxRecDepth 100000 in
set_option maxHeartbeats 1000000 in
theorem same_any (v u : Value) (n : Nat) (ds : Nat → Del) (w : World) (hv : ReadsD w v n ds) (hu : ReadsD w u n ds) (hg : ∀ i, i < n → Valid (ds i)) :
    Calls Try.prog 12 #[v, u] w fun e w' => e = .returned (.bool true) ∧ Below w.heap.size w w' := by
  obtain ⟨A, c, rfl, q1, q2, q3, -⟩ := id hv
  obtain ⟨B, c', rfl, r1, r2, r3, -⟩ := id hu
  have HV := Lib.hid hv
  have HU := Lib.hid hu
  have HG := Lib.hid hg
  clear hv hu hg
  go_enter Try.func12, Try.ntmps12
  go_wp2
  go_loopw [5] (fun x wr => ∃ i : Nat, i ≤ n ∧ x = .int .i64 (i : Int) ∧ ∃ q, w.drewN q = wr) (fun x _ => n - (intOf x).toNat)
  case atStart => exact ⟨0, Nat.zero_le _, rfl, 0, rfl⟩
  case round =>
    obtain ⟨i, hi, rfl, q, hq⟩ := hrel
    by_cases h0 : i < n
    · have hb : Below w.heap.size w wr := by rw [← hq]; exact below_drewN (Below.refl _ _) q
      have RV := HV.out.below hb
      have RU := HU.out.below hb
      obtain ⟨ad, rfl⟩ : ∃ ad, A = some ad := by
        obtain ⟨A', c2, e, _, _, _, hs⟩ := RV
        obtain ⟨ad, e1, _⟩ := hs i h0
        cases e
        exact ⟨ad, e1⟩
      obtain ⟨bd, rfl⟩ : ∃ bd, B = some bd := by
        obtain ⟨A', c2, e, _, _, _, hs⟩ := RU
        obtain ⟨bd, e1, _⟩ := hs i h0
        cases e
        exact ⟨bd, e1⟩
      obtain ⟨c0, c1, c2, c3, c4⟩ := RV.five h0
      obtain ⟨d0, d1, d2, d3, d4⟩ := RU.five h0
      have sm := valid_small (HG.out i h0)
      obtain ⟨y, ey⟩ : ∃ y, y = ds i := ⟨_, rfl⟩
      rw [← ey] at c0 c1 c2 c3 c4 d0 d1 d2 d3 d4 sm
      have eqs := fun w => run_equal_self w 9998 (a := y.a) (b := y.b) (by omega) (by omega)
      obtain ⟨k, v, o, m, a, b⟩ := y
      dsimp only at c0 c1 c2 c3 c4 d0 d1 d2 d3 d4 eqs
      have HQ := Lib.hid hq
      clear ey sm RV RU hb hq
      go_wp2
      go_quiet (fail)
      go_wp2
      refine ⟨⟨i + 1, by omega, by go_num, q + nq, ?_⟩, by simp [intOf]; omega⟩
      rw [← HQ.out]
      exact (drewN_twice _ _ _).symm
    · obtain rfl : i = n := by omega
      have hb : Below w.heap.size w wr := by rw [← hq]; exact below_drewN (Below.refl _ _) q
      have HB := Lib.hid hb
      clear hb hq
      go_wp2
      go_ret
      exact ⟨rfl, HB.out⟩
end Go.Proofs.Ytmgeifolgdgapaa
