/- Rows of deltas of the call's own: one more; read. The statement's same: of rows of deltas that are alike. -/
import Derived.Test.YtmgeifolgdgapaaMerge6
import Derived.Maps.AppendAt
namespace Go.Proofs.Ytmgeifolgdgapaa
open Go.RowKit

theorem delta_info : (Try.prog.info? 52).map (fun i => (i.zero, i.size, i.bytes)) = some (some noDel, 5, 48) := by kernel_rfl
/-- The cells of the first n deltas. -/
def dcells (ds : Nat → Del) (n : Nat) : List Value := (List.range n).flatMap fun i => (ds i).cells
theorem dcells_next (ds : Nat → Del) (n : Nat) : dcells ds n ++ (ds n).cells = dcells ds (n + 1) := by
  unfold dcells
  rw [List.range_succ, List.flatMap_append]
  simp
theorem dcells_congr {ds es : Nat → Del} {n : Nat} (h : ∀ i, i < n → ds i = es i) : dcells ds n = dcells es n := by
  induction n with
  | zero => rfl
  | succ n ih => rw [← dcells_next, ← dcells_next, ih fun i hi => h i (by omega), h n (by omega)]
theorem dcells_length (ds : Nat → Del) (n : Nat) : (dcells ds n).length = n * 5 := by
  induction n with
  | zero => rfl
  | succ n ih => rw [← dcells_next, List.length_append, ih]; show n * 5 + 5 = _; omega
theorem dcells_at (ds : Nat → Del) {n i j : Nat} (hi : i < n) (hj : j < 5) : (dcells ds n)[i * 5 + j]? = (ds i).cells[j]? := by
  induction n with
  | zero => omega
  | succ n ih =>
    rw [← dcells_next]
    by_cases h : i < n
    · rw [List.getElem?_append_left (by rw [dcells_length]; omega)]
      exact ih h
    · obtain rfl : i = n := by omega
      rw [List.getElem?_append_right (by rw [dcells_length]; omega), dcells_length, Nat.add_sub_cancel_left]

/-- A row of the call's own, of just these deltas. -/
def OwnD (w : World) (base : Nat) (v : Value) (n : Nat) (ds : Nat → Del) : Prop := w.ownsRow base 52 5 v n (dcells ds n)
theorem ownD_none (w : World) (base : Nat) (ds : Nat → Del) : OwnD w base (.slice none 0 0) 0 ds := World.ownsRow_nil _ _ _ _
theorem OwnD.below_ {w w' : World} {base n : Nat} {v : Value} {ds : Nat → Del} (h : OwnD w base v n ds) (hb : Below w.heap.size w w') : OwnD w' base v n ds := owns_later h hb
theorem OwnD.congr {w : World} {base n : Nat} {v : Value} {ds es : Nat → Del} (h : OwnD w base v n ds) (he : ∀ i, i < n → ds i = es i) : OwnD w base v n es := by
  unfold OwnD at h ⊢
  rw [← dcells_congr he]
  exact h
theorem OwnD.shape {w : World} {base n : Nat} {v : Value} {ds : Nat → Del} (h : OwnD w base v n ds) : ∃ A c, v = .slice A n c := by
  rcases h.2 with ⟨rfl, rfl⟩ | ⟨b, cap, cur, rfl, _⟩ <;> exact ⟨_, _, rfl⟩
theorem OwnD.own {w : World} {base n k : Nat} {v : Value} {ds : Nat → Del} (h : OwnD w base v n ds) (hk : v.ownBlock = some k) : base ≤ k ∧ k < w.heap.size := World.ownsRow.lt h k hk

/-- Deltas that are read: delta i lies in five cells. -/
def ReadsD (w : World) (v : Value) (n : Nat) (ds : Nat → Del) : Prop :=
  ∃ A c, v = .slice A n c ∧ n ≤ c ∧ c ≤ 9223372036854775807 ∧ (A = none → c = 0) ∧ ∀ i, i < n → ∃ ad, A = some ad ∧ ∀ j, j < 5 → ∀ x, (ds i).cells[j]? = some x → w.cell? (ad.add (i * 5 + j)) = some x
theorem ReadsD.below {w w' : World} {v : Value} {n : Nat} {ds : Nat → Del} (h : ReadsD w v n ds) (hb : Below w.heap.size w w') : ReadsD w' v n ds := by
  obtain ⟨A, c, e, h1, h2, h3, hs⟩ := h
  exact ⟨A, c, e, h1, h2, h3, fun i hi => by obtain ⟨ad, e1, hc⟩ := hs i hi; exact ⟨ad, e1, fun j hj x hx => cell_later hb (hc j hj x hx)⟩⟩
theorem OwnD.reads {w : World} {base n : Nat} {v : Value} {ds : Nat → Del} (h : OwnD w base v n ds) : ReadsD w v n ds := by
  have h0 := h
  rcases h.2 with ⟨rfl, rfl⟩ | ⟨g, cap, cur, rfl, _, hg, hnc, hm, _⟩
  · exact ⟨none, 0, rfl, Nat.le_refl _, by omega, fun _ => rfl, fun i hi => absurd hi (Nat.not_lt_zero i)⟩
  · exact ⟨_, cap, rfl, hnc, by unfold maxLen at hm; omega, (by intro e; cases e), fun i hi => ⟨_, rfl, fun j hj x hx => World.ownsRow.cells h0 (g := g) rfl (i * 5 + j) x (by rw [dcells_at ds hi hj]; exact hx)⟩⟩

theorem Del.cells_one (d : Del) : ∀ x ∈ d.cells, x.oneCell' = true := by
  intro x hx
  unfold Del.cells at hx
  simp at hx
  rcases hx with rfl | rfl | rfl | rfl | rfl <;> rfl
/-- One delta more. -/
theorem run_del {w : World} {base n : Nat} {v : Value} {ds : Nat → Del} (ty : TypeId) (h : OwnD w base v n ds) (hm : (n + 1) * 48 ≤ 140737488355328) (hb : base ≤ w.heap.size) :
    ∃ v' w', (Builtin.append_ #[32, 32] ty #[v, .slice (some ⟨w.heap.size, 0, none⟩) 1 1]).run Try.prog (w.alloc (.cells (ds n).cells.toArray 52)) = .ok v' w' ∧ OwnD w' base v' (n + 1) ds ∧
      (w.alloc (.cells (ds n).cells.toArray 52)).grownBy w' v.ownBlock := by
  obtain ⟨i0, hi, hz0, hz1, hz2⟩ := info_parts delta_info
  have h3 := World.ownsRow.alloc h (.cells (ds n).cells.toArray 52)
  obtain ⟨v', w', r1, r2, r3, r4⟩ := run_append_own (P := Try.prog) (w.alloc (.cells (ds n).cells.toArray 52)) base 32 ty 52 i0 _ 5 48 Try.underlying32 hi hz0 hz1 hz2 rfl (by decide) v n _ h3 ⟨w.heap.size, 0, none⟩ 1 1 (ds n).cells rfl
    (fun j x hj => by
      rw [add_nil, World.cell?_alloc_mark]
      rw [List.getElem?_toArray]
      exact hj) (Del.cells_one _) (by unfold maxLen; omega) (by omega) (by simp; omega)
  rw [dcells_next] at r2
  exact ⟨v', w', r1, r2, r3⟩
end Go.Proofs.Ytmgeifolgdgapaa

namespace Go.Proofs.Ytmgeifolgdgapaa
open Go.RowKit

theorem run_equal_self (w : World) (d : Nat) {a b : Nat} (ha : a < 25) (hb : b < 25) : (Op.equalIn (d + 1) 50 (.complex .f64 (fl a) (fl b)) (.complex .f64 (fl a) (fl b))).run Try.prog w = .ok true w := by
  have h1 : (Op.equalIn (d + 1) 50 (.complex .f64 (fl a) (fl b)) (.complex .f64 (fl a) (fl b))).run Try.prog w = .ok (Op.floatEq .f64 (fl a) (fl a) && Op.floatEq .f64 (fl b) (fl b)) w := by
    simp only [Op.equalIn, Sem.run_bind, run_underlying Try.underlying50 w, Result.andThen_ok]
    rfl
  rw [h1]
  unfold Op.floatEq
  rw [fl_eq a ha, fl_eq b hb]
  rfl
theorem drewN_twice (w : World) (q m : Nat) : (w.drewN q).drewN m = w.drewN (q + m) := by
  unfold World.drewN
  simp [Nat.add_assoc]
theorem ReadsD.five {w : World} {ad : Addr} {n c : Nat} {ds : Nat → Del} (h : ReadsD w (.slice (some ad) n c) n ds) {i : Nat} (hi : i < n) :
    w.cell? (ad.add (i * 5)) = some (.int .i64 ((ds i).kind : Int)) ∧ w.cell? ⟨(ad.add (i * 5)).block, (ad.add (i * 5)).off + 1, none⟩ = some (.int .i64 ((ds i).vol : Int)) ∧ w.cell? ⟨(ad.add (i * 5)).block, (ad.add (i * 5)).off + 2, none⟩ = some (.int .i64 ((ds i).other : Int)) ∧
      w.cell? ⟨(ad.add (i * 5)).block, (ad.add (i * 5)).off + 3, none⟩ = some (.int .i64 ((ds i).block : Int)) ∧ w.cell? ⟨(ad.add (i * 5)).block, (ad.add (i * 5)).off + 4, none⟩ = some (.complex .f64 (fl (ds i).a) (fl (ds i).b)) := by
  obtain ⟨A, c', e, _, _, _, hs⟩ := h
  obtain ⟨ad', e1, hc⟩ := hs i hi
  cases e
  cases e1
  have g : ∀ j, j < 5 → ∀ x, (ds i).cells[j]? = some x → w.cell? ((ad.add (i * 5)).add j) = some x := fun j hj x hx => by rw [Addr.add_add]; exact hc j hj x hx
  exact ⟨by have := g 0 (by omega) _ rfl; simpa [Addr.add] using this, g 1 (by omega) _ rfl, g 2 (by omega) _ rfl, g 3 (by omega) _ rfl, g 4 (by omega) _ rfl⟩

set_option maxRecDepth 100000 in
set_option maxHeartbeats 1000000 in
theorem same_any (v u : Value) (n : Nat) (ds : Nat → Del) (w : World) (hv : ReadsD w v n ds) (hu : ReadsD w u n ds) (hg : ∀ i, i < n → Valid (ds i)) :
    Calls Try.prog 12 #[v, u] w fun e w' => e = .returned (.bool true) ∧ Below w.heap.size w w' := by
  obtain ⟨A, c, rfl, q1, q2, q3, -⟩ := id hv
  obtain ⟨B, c', rfl, r1, r2, r3, -⟩ := id hu
  have HV := Lib.hid hv
  have HU := Lib.hid hu
  have HG := Lib.hid hg
  clear hv hu hg
  go_enter Try.func12, Try.ntmps12
  go_wp2
  go_loopw [5] (fun x wr => ∃ i : Nat, i ≤ n ∧ x = .int .i64 (i : Int) ∧ ∃ q, w.drewN q = wr) (fun x _ => n - (intOf x).toNat)
  case atStart => exact ⟨0, Nat.zero_le _, rfl, 0, rfl⟩
  case round =>
    obtain ⟨i, hi, rfl, q, hq⟩ := hrel
    by_cases h0 : i < n
    · have hb : Below w.heap.size w wr := by rw [← hq]; exact below_drewN (Below.refl _ _) q
      have RV := HV.out.below hb
      have RU := HU.out.below hb
      obtain ⟨ad, rfl⟩ : ∃ ad, A = some ad := by
        obtain ⟨A', c2, e, _, _, _, hs⟩ := RV
        obtain ⟨ad, e1, _⟩ := hs i h0
        cases e
        exact ⟨ad, e1⟩
      obtain ⟨bd, rfl⟩ : ∃ bd, B = some bd := by
        obtain ⟨A', c2, e, _, _, _, hs⟩ := RU
        obtain ⟨bd, e1, _⟩ := hs i h0
        cases e
        exact ⟨bd, e1⟩
      obtain ⟨c0, c1, c2, c3, c4⟩ := RV.five h0
      obtain ⟨d0, d1, d2, d3, d4⟩ := RU.five h0
      have sm := valid_small (HG.out i h0)
      obtain ⟨y, ey⟩ : ∃ y, y = ds i := ⟨_, rfl⟩
      rw [← ey] at c0 c1 c2 c3 c4 d0 d1 d2 d3 d4 sm
      have eqs := fun w => run_equal_self w 9998 (a := y.a) (b := y.b) (by omega) (by omega)
      obtain ⟨k, v, o, m, a, b⟩ := y
      dsimp only at c0 c1 c2 c3 c4 d0 d1 d2 d3 d4 eqs
      have HQ := Lib.hid hq
      clear ey sm RV RU hb hq
      go_wp2
      go_quiet (fail)
      go_wp2
      refine ⟨⟨i + 1, by omega, by go_num, q + nq, ?_⟩, by simp [intOf]; omega⟩
      rw [← HQ.out]
      exact (drewN_twice _ _ _).symm
    · obtain rfl : i = n := by omega
      have hb : Below w.heap.size w wr := by rw [← hq]; exact below_drewN (Below.refl _ _) q
      have HB := Lib.hid hb
      clear hb hq
      go_wp2
      go_ret
      exact ⟨rfl, HB.out⟩
end Go.Proofs.Ytmgeifolgdgapaa

