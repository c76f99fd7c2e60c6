/- The document's own device: Put. -/
import Derived.Test.YtcnoadikkfedaaaRefSettle
import Derived.Test.YtcnoadikkfedaaaBasinPut
namespace Go.Proofs.Ytcnoadikkfedaaa
open Go.RowKit

/-- What Put answers. -/
def RWritten (w : World) (B g : Nat) (S L : Value) (D' : Dev) (x : Int) (e : Ending) (w' : World) : Prop :=
  ∃ L' y', e = .returned (.int .i64 x) ∧ IsRef w' B g S L' y' D' ∧ Apart (rfoot g S L) w w' ∧ ∀ k, L'.ownBlock = some k → L.ownBlock = some k ∨ w.heap.size ≤ k

theorem refPut_down {w : World} {B g : Nat} {S L : Value} {y : Int} {D : Dev} (d : IsRef w B g S L y D) (v : Value) (ho : D.off = true) :
    Calls Try.prog 13 #[.pointer (some ⟨g, 0, none⟩), v] w (RWritten w B g S L D 10) := by
  obtain ⟨-, -, -, c3, -⟩ := d.cells
  rw [ho] at c3
  have HD := Lib.hid d
  clear d
  go_enter Try.func13, Try.ntmps13
  go_wp2
  go_ret
  exact ⟨L, y, rfl, HD.out, Apart.refl _ _, fun _ e => .inl e⟩

theorem rwrite_info : (Try.prog.info? 71).map (fun i => (i.zero, i.size, i.bytes)) = some (some (.agg #[.int .i64 0, .string ⟨#[]⟩]), 2, 24) := by kernel_rfl

/-- A device behind an append to its writes. -/
theorem IsRef.pushed {w w7 : World} {B g g7 cap7 : Nat} {S L : Value} {y : Int} {D : Dev} {x : Wr} {o : Obj} (d : IsRef w B g S L y D) (hg : (w.alloc o).grownBy w7 L.ownBlock)
    (hown : w7.ownsRow B 71 2 (.slice (some ⟨g7, 0, none⟩) (D.loose.length + 1) cap7) (D.loose.length + 1) (rlcells D.loose ++ rwcells x)) (hat : L.ownBlock = some g7 ∨ g7 = (w.alloc o).heap.size) (hx : x.at_ < D.size) :
    IsRef (w7.setCell ⟨g, 1, none⟩ (.slice (some ⟨g7, 0, none⟩) (D.loose.length + 1) cap7)) B g S (.slice (some ⟨g7, 0, none⟩) (D.loose.length + 1) cap7) y { D with loose := D.loose ++ [x] } ∧
      Apart (rfoot g S L) w (w7.setCell ⟨g, 1, none⟩ (.slice (some ⟨g7, 0, none⟩) (D.loose.length + 1) cap7)) ∧ (L.ownBlock = some g7 ∨ w.heap.size ≤ g7) := by
  have hgw := (d.lt g (.inl rfl)).2
  have hs : (w.alloc o).heap.size = w.heap.size + 1 := by simp
  have ha : Apart (fun k => L.ownBlock = some k) w w7 := (Apart.of_below (F := fun k => L.ownBlock = some k) ((Below.refl w.heap.size w).alloc (Nat.le_refl _) o)).trans (G := fun k => L.ownBlock = some k)
    ⟨hg.os, hg.tape, hg.output, hg.size, fun k hk hne => hg.block k hk (fun e => hne e.symm)⟩ fun _ _ e => e
  have hg7g : g7 ≠ g := by
    rcases hat with h1 | h1
    · intro e; subst e; exact d.nl h1
    · omega
  have hh7 : w7.heap[g]? = w.heap[g]? := ha.block g hgw d.nl
  have hc := apart_set w7 g 1 (.slice (some ⟨g7, 0, none⟩) (D.loose.length + 1) cap7)
  refine ⟨⟨?_, ?_, ?_, d.bg, d.ns, ?_, ?_, d.size, ?_, d.left⟩, ?_, ?_⟩
  · rw [heap_setCell_same w7 g 1 _ _ _ (hh7.trans d.head)]; rfl
  · exact owns_apart (owns_apart d.sure ha fun k e h => d.sl k e h) hc fun k e h => d.ns (by rw [← h]; exact e)
  · have h1 : (D.loose ++ [x]).length = D.loose.length + 1 := by simp
    rw [h1, rlcells_snoc]
    exact owns_apart hown hc fun k e h => hg7g (by have : g7 = k := by simpa [Value.ownBlock] using e
                                                   omega)
  · intro e; exact hg7g (by simpa [Value.ownBlock] using e)
  · intro k hk e
    have : g7 = k := by simpa [Value.ownBlock] using e
    subst this
    rcases hat with h1 | h1
    · exact d.sl g7 hk h1
    · have := (d.sure.lt g7 hk).2; omega
  · intro z hz
    rcases List.mem_append.1 hz with hz | hz
    · exact d.loose z hz
    · rw [List.mem_singleton] at hz; subst hz; exact hx
  · exact (ha.mono fun k _ e => .inr (.inr e)).trans hc fun k _ e => .inl e
  · rcases hat with h1 | h1
    · exact .inl h1
    · exact .inr (by omega)

def RPutting (w : World) (B g : Nat) (S L : Value) (D : Dev) (x : Nat → Wr) (n : Nat) (u : Value) (wr : World) : Prop :=
  ∃ i L' y', i ≤ n ∧ u = .int .i64 (i : Int) ∧ (D.puts x i).1 = true ∧ IsRef wr B g S L' y' (D.puts x i).2 ∧ Apart (rfoot g S L) w wr ∧ (∀ k, L'.ownBlock = some k → L.ownBlock = some k ∨ w.heap.size ≤ k)

set_option maxHeartbeats 1600000 in
theorem refPut_len {w : World} {B g : Nat} {S L : Value} {y : Int} {D : Dev} (d : IsRef w B g S L y D) {A : Option Addr} {n c : Nat} {z : Nat → Int} {v : Nat → Value} {l : Nat → Nat} {f : Nat → Nat → Nat} (s : ∀ W, Apart (rfoot g S L) w W → WritesIn W A n z v l f)
    (hn : D.loose.length + n ≤ 1000000000000) (ho : D.off = false) (hl : anyB n (shortB l) = true) :
    Calls Try.prog 13 #[.pointer (some ⟨g, 0, none⟩), .slice A n c] w (RWritten w B g S L D 6) := by
  obtain ⟨c0, -, -, c3, -⟩ := d.cells
  obtain ⟨AS, capS, rfl, hS1, hS2, -⟩ := own_slice d.sure
  rw [ho] at c3
  have hs := d.size
  have HD := Lib.hid d
  have HS := Lib.hid s
  have HL := Lib.hid hl
  clear d s hl
  go_enter Try.func13, Try.ntmps13
  go_wp2
  go_loop [5] (fun u => ∃ i : Nat, i ≤ n ∧ u = .int .i64 (i : Int) ∧ ∀ j, j < i → shortB l j = false) (fun u => n - (intOf u).toNat)
  case atStart => exact ⟨0, Nat.zero_le _, rfl, fun j hj => absurd hj (by omega)⟩
  case round =>
    obtain ⟨i, hi, rfl, hno⟩ := hrel
    have HN := Lib.hid hno
    clear hno
    by_cases h0 : i < n
    · have s1 := HS.out w (Apart.refl _ _)
      obtain ⟨ad, rfl, e0, k1⟩ := s1.cell i h0
      obtain ⟨Av, cv, hv, -⟩ := s1.data i h0
      rw [← Addr.add_add, hv] at k1
      have e1 : w.cell? ⟨(ad.add (i * 2)).block, (ad.add (i * 2)).off + 1, none⟩ = some (.slice Av (l i) cv) := k1
      clear s1 e0 k1 hv
      by_cases hb : l i = 64
      · rw [hb] at e1
        have HE : Hid (shortB l i = false) := Lib.hid (by unfold shortB; simp [hb])
        clear hb
        go_wp2
        clear e1
        go_round
        case rel => exact ⟨i + 1, by omega, by go_num, fun j hj => by
          rcases Nat.lt_or_ge j i with h5 | h5
          · exact HN.out j h5
          · obtain rfl : j = i := by omega
            exact HE.out⟩
        case measure => simp [intOf]; omega
      · have hb' : ((l i : Int) != 64) = true := by simp; omega
        go_wp2
        go_ret
        exact ⟨L, y, rfl, HD.out, Apart.refl _ _, fun _ e => .inl e⟩
    · obtain rfl : n = i := by omega
      exact absurd (anyB_no HN.out) (by rw [HL.out]; simp)

set_option maxHeartbeats 1600000 in
theorem refPut_range {w : World} {B g : Nat} {S L : Value} {y : Int} {D : Dev} (d : IsRef w B g S L y D) {A : Option Addr} {n c : Nat} {z : Nat → Int} {v : Nat → Value} {l : Nat → Nat} {f : Nat → Nat → Nat} (s : ∀ W, Apart (rfoot g S L) w W → WritesIn W A n z v l f)
    (hn : D.loose.length + n ≤ 1000000000000) (ho : D.off = false) (hl : anyB n (shortB l) = false) (hr : anyB n (beyondB D z) = true) :
    Calls Try.prog 13 #[.pointer (some ⟨g, 0, none⟩), .slice A n c] w (RWritten w B g S L D 5) := by
  obtain ⟨c0, -, -, c3, -⟩ := d.cells
  obtain ⟨AS, capS, rfl, hS1, hS2, -⟩ := own_slice d.sure
  rw [ho] at c3
  have hs := d.size
  have HD := Lib.hid d
  have HS := Lib.hid s
  have HL := Lib.hid hl
  have HR := Lib.hid hr
  clear d s hl hr
  go_enter Try.func13, Try.ntmps13
  go_wp2
  go_loop [5] (fun u => ∃ i : Nat, i ≤ n ∧ u = .int .i64 (i : Int) ∧ ∀ j, j < i → shortB l j = false) (fun u => n - (intOf u).toNat)
  case atStart => exact ⟨0, Nat.zero_le _, rfl, fun j hj => absurd hj (by omega)⟩
  case round =>
    obtain ⟨i, hi, rfl, hno⟩ := hrel
    have HN := Lib.hid hno
    clear hno
    by_cases h0 : i < n
    · have s1 := HS.out w (Apart.refl _ _)
      obtain ⟨ad, rfl, e0, k1⟩ := s1.cell i h0
      obtain ⟨Av, cv, hv, -⟩ := s1.data i h0
      rw [← Addr.add_add, hv] at k1
      have e1 : w.cell? ⟨(ad.add (i * 2)).block, (ad.add (i * 2)).off + 1, none⟩ = some (.slice Av (l i) cv) := k1
      clear s1 e0 k1 hv
      have hl64 : l i = 64 := by
        have := anyB_false HL.out h0
        unfold shortB at this
        simpa using this
      rw [hl64] at e1
      have HE : Hid (shortB l i = false) := Lib.hid (anyB_false HL.out h0)
      clear hl64
      go_wp2
      clear e1
      go_round
      case rel => exact ⟨i + 1, by omega, by go_num, fun j hj => by
        rcases Nat.lt_or_ge j i with h5 | h5
        · exact HN.out j h5
        · obtain rfl : j = i := by omega
          exact HE.out⟩
      case measure => simp [intOf]; omega
    · obtain rfl : n = i := by omega
      go_wp2
      go_loopw [6] (fun u wr => ∃ i : Nat, i ≤ n ∧ u = .int .i64 (i : Int) ∧ (∀ j, j < i → beyondB D z j = false) ∧ ∃ q, w.drewN q = wr) (fun u _ => n - (intOf u).toNat)
      case atStart => exact ⟨0, Nat.zero_le _, rfl, fun j hj => absurd hj (by omega), 0, rfl⟩
      case round =>
        obtain ⟨i, hi, rfl, hno, q, rfl⟩ := hrel
        have HN2 := Lib.hid hno
        clear hno
        by_cases h0 : i < n
        · have s1 := HS.out w (Apart.refl _ _)
          obtain ⟨ad, rfl, e0, k1⟩ := s1.cell i h0
          have hzr := s1.range i h0
          have i0 : (i : Int) < (n : Int) := by omega
          have i1 : (0 : Int) ≤ (i : Int) := by omega
          clear s1 k1
          by_cases hb : beyondB D z i = true
          · have hz : z i < 0 ∨ (0 ≤ z i ∧ (D.size : Int) ≤ z i) := by
              unfold beyondB hasB at hb
              have h5 : decide (0 ≤ z i ∧ z i < D.size) = false := by
                cases h6 : decide (0 ≤ z i ∧ z i < D.size) with
                | true => rw [h6] at hb; cases hb
                | false => rfl
              have := of_decide_eq_false h5
              omega
            clear hb
            rcases hz with hz | ⟨hz, hz2⟩
            · have d0 : decide (z i < 0) = true := by simpa using hz
              go_wp2_with fail
              go_quiet (fail)
              go_wp2
              go_ret
              have h6 : Below w.heap.size w (w.drewN q) := below_drewN (Below.refl _ _) q
              exact ⟨L, y, rfl, HD.out.below (below_drewN h6 _), Apart.of_below (below_drewN h6 _), fun _ e => .inl e⟩
            · have d0 : decide (z i < 0) = false := by simp; omega
              have d1 : decide ((D.size : Int) ≤ z i) = true := by simpa using hz2
              go_wp2_with fail
              go_quiet (fail)
              go_wp2
              go_ret
              have h6 : Below w.heap.size w (w.drewN q) := below_drewN (Below.refl _ _) q
              exact ⟨L, y, rfl, HD.out.below (below_drewN h6 _), Apart.of_below (below_drewN h6 _), fun _ e => .inl e⟩
          · have hb' : beyondB D z i = false := by simpa using hb
            obtain ⟨t, hzt, htD⟩ := has_spec (by unfold beyondB at hb'; simpa using hb' : hasB D (z i) = true)
            have HE := Lib.hid hb'
            rw [hzt] at e0
            have d0 : decide ((t : Int) < 0) = false := by simp
            have d1 : decide ((D.size : Int) ≤ (t : Int)) = false := by simp; omega
            clear hzt hzr hb hb'
            go_wp2_with fail
            go_quiet (fail)
            go_wp2
            clear e0 d0 d1
            go_roundw
            case rel => exact ⟨i + 1, by omega, by go_num, fun j hj => by
              rcases Nat.lt_or_ge j i with h5 | h5
              · exact HN2.out j h5
              · obtain rfl : j = i := by omega
                exact HE.out, _, rfl⟩
            case measure => simp [intOf]; omega
        · obtain rfl : n = i := by omega
          exact absurd (anyB_no HN2.out) (by rw [HR.out]; simp)


end Go.Proofs.Ytcnoadikkfedaaa
