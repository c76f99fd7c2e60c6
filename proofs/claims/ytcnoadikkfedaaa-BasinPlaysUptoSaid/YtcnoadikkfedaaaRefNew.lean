/- The document's own device: New. -/
import Derived.Test.YtcnoadikkfedaaaRefWalks
import Derived.Deep.AppendLies
import Derived.Deep.RegionLaw
namespace Go.Proofs.Ytcnoadikkfedaaa
open Go.RowKit

theorem string_info : (Try.prog.info? 9).map (fun i => (i.zero, i.size, i.bytes)) = some (some (.string ⟨#[]⟩), 1, 16) := by kernel_rfl
/-- A sector of bytes 0, as a string. -/
def zeroText : ByteArray := str (fun _ => 0) 64
theorem zero_text (u : World) : (convert 37 9 (.slice (some ⟨u.heap.size, 0, none⟩) 64 64)).run Try.prog (u.alloc (.cells (cellsOf (fun _ => 0) 64).toArray 5)).drew = .ok (.string zeroText) (u.alloc (.cells (cellsOf (fun _ => 0) 64).toArray 5)).drew :=
  have h := (made_lies u 64).bytes (m := 64) (Nat.le_refl _) (fun _ _ => by omega)
  conv_str (w := (u.alloc (.cells (cellsOf (fun _ => 0) 64).toArray 5)).drew) 64 (⟨h.small, h.cell⟩ : BytesAt (u.alloc (.cells (cellsOf (fun _ => 0) 64).toArray 5)).drew _ _ _)

theorem keep_cell {w w7 : World} {b i : Nat} {v : Value} {own : Option Nat} (hg : w.grownBy w7 own) (h : w.cell? ⟨b, i, none⟩ = some v) (hb : b < w.heap.size) (hn : own ≠ some b) : w7.cell? ⟨b, i, none⟩ = some v := by
  rw [World.cell?_of_block (hg.block b hb (fun e => hn e.symm))]; exact h
theorem keep_free {w w7 : World} {b i : Nat} {own : Option Nat} (hg : w.grownBy w7 own) (h : w.frozen? ⟨b, i, none⟩ = false) (hb : b < w.heap.size) (hn : own ≠ some b) : w7.frozen? ⟨b, i, none⟩ = false := by
  rw [World.frozen?_of_block (hg.block b hb (fun e => hn e.symm))]; exact h

/-- How far New has come. -/
def Newing (w : World) (n : Nat) (v : Value) (wr : World) : Prop :=
  ∃ (i : Nat) (S : Value), i ≤ n ∧ v = .int .i64 (i : Int) ∧ wr.heap[w.heap.size]? = some (.cells #[S, .slice none 0 0, .int .i64 (-1), .bool false] 47 (0, 0)) ∧ wr.ownsRow w.heap.size 9 1 S i (rcells (fun _ _ => 0) i) ∧ S.ownBlock ≠ some w.heap.size ∧ Below w.heap.size w wr
def Made (n : Nat) (w : World) (e : Ending) (w' : World) : Prop :=
  ∃ g S, e = .returned (.pointer (some ⟨g, 0, none⟩)) ∧ IsRef w' w.heap.size g S (.slice none 0 0) (-1) (fresh n) ∧ Below w.heap.size w w'

theorem rcells_next (s : Nat → Nat → Nat) (n : Nat) : rcells s n ++ [text64 (s n)] = rcells s (n + 1) := by
  unfold rcells
  rw [List.range_succ, List.map_append]
  rfl
theorem newing_next {w wr W w7 : World} {n i g7 cap7 : Nat} {S : Value} (hh : wr.heap[w.heap.size]? = some (.cells #[S, .slice none 0 0, .int .i64 (-1), .bool false] 47 (0, 0))) (hb : Below w.heap.size w wr) (ns : S.ownBlock ≠ some w.heap.size)
    (hW : Below wr.heap.size wr W) (hown : w7.ownsRow w.heap.size 9 1 (.slice (some ⟨g7, 0, none⟩) (i + 1) cap7) (i + 1) (rcells (fun _ _ => 0) i ++ [.string zeroText])) (hg : W.grownBy w7 S.ownBlock) (hat : S.ownBlock = some g7 ∨ g7 = W.heap.size) (hi : i < n)
    (hS : ∀ k, S.ownBlock = some k → w.heap.size ≤ k) :
    Newing w n (.int .i64 ((i + 1 : Nat) : Int)) (w7.setCell ⟨w.heap.size, 0, none⟩ (.slice (some ⟨g7, 0, none⟩) (i + 1) cap7)) := by
  have hs : w.heap.size < wr.heap.size := (Array.getElem?_eq_some_iff.1 hh).1
  have hh7 : w7.heap[w.heap.size]? = _ := ((hg.block w.heap.size (by have := hW.size; omega) (fun e => ns e.symm)).trans (hW.block _ hs)).trans hh
  have hne : g7 ≠ w.heap.size := by
    rcases hat with h | h
    · intro e; subst e; exact ns h
    · have := hW.size; omega
  have hb7 : Below w.heap.size w w7 := (hb.trans (hW.mono (by omega))).grown hg (by have := hW.size; omega) hS
  refine ⟨i + 1, _, by omega, rfl, by rw [heap_setCell_same w7 w.heap.size 0 _ _ _ hh7]; rfl, ?_, fun e => hne (by simpa [Value.ownBlock] using e), hb7.setCell (Nat.le_refl _) _⟩
  rw [← rcells_next]
  exact owns_apart hown (apart_set w7 w.heap.size 0 _) fun k e h => hne (by have : g7 = k := by simpa [Value.ownBlock] using e
                                                                            omega)

set_option maxHeartbeats 1600000 in
theorem refNew_ok (n : Nat) (w : World) (h1 : 1 ≤ n) (h2 : n ≤ 424) : Calls Try.prog 11 #[.int .i64 (n : Int)] w (Made n w) := by
  have hmk : ∀ u : World, (Instr.makeSlice 37 (.int .i64 64) (.int .i64 64)).run Try.prog u = .ok (.slice (some ⟨u.heap.size, 0, none⟩) 64 64) (u.alloc (.cells (cellsOf (fun _ => 0) 64).toArray 5)) := fun u => make_bytes 64 (by omega) u
  obtain ⟨i0, j0, j1, j2, j3⟩ := info_parts string_info
  have I0 := Lib.hid (And.intro j0 (And.intro j1 (And.intro j2 j3)))
  clear j0 j1 j2 j3
  go_enter Try.func11, Try.ntmps11
  go_wp2
  go_loopw [4] (fun v wr => Newing w n v wr) (fun v _ => n - (intOf v).toNat)
  case atStart => exact ⟨0, .slice none 0 0, Nat.zero_le _, rfl, heap_alloc_new w _, World.ownsRow_nil _ _ _ _, (by intro e; cases e), (Below.refl _ _).alloc (Nat.le_refl _) _⟩
  case round =>
    obtain ⟨i, S, hi, rfl, hh, hown, hns, hb⟩ := hrel
    have HH := Lib.hid hh
    have HO := Lib.hid hown
    have NS := Lib.hid hns
    have HB := Lib.hid hb
    have l1 : w.heap.size < wr.heap.size := (Array.getElem?_eq_some_iff.1 hh).1
    clear hown hns hb
    by_cases h0 : i < n
    · have c0 : wr.cell? ⟨w.heap.size, 0, none⟩ = some S := by rw [cell_of_row _ _ _ _ _ _ hh]; rfl
      have c1 : (wr.alloc (.cells (cellsOf (fun _ => 0) 64).toArray 5)).cell? ⟨w.heap.size, 0, none⟩ = some S := cell_later ((Below.refl _ _).alloc (Nat.le_refl _) _) c0
      have c2 : ((wr.alloc (.cells (cellsOf (fun _ => 0) 64).toArray 5)).alloc (.cells #[.string zeroText] 9)).cell? ⟨w.heap.size, 0, none⟩ = some S := cell_later ((Below.refl _ _).alloc (Nat.le_refl _) _) c1
      have kc := zero_text wr
      have OW := Lib.hid ((World.ownsRow.alloc HO.out (.cells (cellsOf (fun _ => 0) 64).toArray 5)).alloc (.cells #[.string zeroText] 9))
      have C2 := Lib.hid c2
      have F2 : Hid (((wr.alloc (.cells (cellsOf (fun _ => 0) 64).toArray 5)).alloc (.cells #[.string zeroText] 9)).frozen? ⟨w.heap.size, 0, none⟩ = false) := Lib.hid (frozen_of_row _ _ _ _ _ (((((Below.refl wr.heap.size wr).alloc (Nat.le_refl _) (.cells (cellsOf (fun _ => 0) 64).toArray 5)).alloc (by simp) (.cells #[.string zeroText] 9)).block _ l1).trans HH.out))
      have S2 : Hid (((wr.alloc (.cells (cellsOf (fun _ => 0) 64).toArray 5)).alloc (.cells #[.string zeroText] 9)).heap.size = wr.heap.size + 2) := Lib.hid (by simp)
      have NW : Hid (∀ j u, [Value.string zeroText][j]? = some u → ((wr.alloc (.cells (cellsOf (fun _ => 0) 64).toArray 5)).alloc (.cells #[.string zeroText] 9)).cell? ((⟨wr.heap.size + 1, 0, none⟩ : Addr).add j) = some u) := Lib.hid (fun j u hu => World.news_of_block (cs := #[.string zeroText]) (heap_alloc2_new wr _ _) j u hu)
      have BW : Hid (w.heap.size ≤ ((wr.alloc (.cells (cellsOf (fun _ => 0) 64).toArray 5)).alloc (.cells #[.string zeroText] 9)).heap.size) := Lib.hid (by rw [S2.out]; omega)
      have GW : Hid (w.heap.size < ((wr.alloc (.cells (cellsOf (fun _ => 0) 64).toArray 5)).alloc (.cells #[.string zeroText] 9)).heap.size) := Lib.hid (by rw [S2.out]; omega)
      clear hh
      go_wp2
      go_region_law (refine step_append_lies _ rfl (.tmp 16) (.tmp 19) 44 rfl w.heap.size 9 i0 (.string ⟨#[]⟩) 1 16 Try.underlying44 I0.out.1 I0.out.2.1 I0.out.2.2.1 I0.out.2.2.2 rfl (by omega) S i _ rfl OW.out ⟨wr.heap.size + 1, 0, none⟩ 1 1 [.string zeroText] rfl rfl NW.out (fun u hu => by rw [List.mem_singleton] at hu; subst hu; rfl) (by omega) (by unfold maxLen; omega) (by omega) BW.out _ rfl ?_; intro g7 cap7 w7 hown7 hgrow7 hat7 hlt7; have k7 := keep_cell hgrow7 C2.out GW.out NS.out; have f7 := keep_free hgrow7 F2.out GW.out NS.out)
      all_goals have NN := Lib.hid (newing_next HH.out HB.out NS.out ((((Below.refl wr.heap.size wr).alloc (Nat.le_refl _) (.cells (cellsOf (fun _ => 0) 64).toArray 5)).alloc (by simp) (.cells #[.string zeroText] 9)).drew) hown7 hgrow7 hat7 h0 (fun k e => (HO.out.lt k e).1))
      all_goals clear hown7 hgrow7 hat7 hlt7 k7 f7 c0 c1 c2 kc
      all_goals go_wp2
      all_goals go_roundw
      case rel => exact NN.out
      case rel => exact NN.out
      case rel => exact NN.out
      case rel => exact NN.out
      all_goals (simp [intOf]; omega)
    · obtain rfl : i = n := by omega
      clear hh
      go_wp2
      go_ret
      refine ⟨w.heap.size, S, rfl, ⟨HH.out, HO.out, World.ownsRow_nil _ _ _ _, Nat.le_refl _, NS.out, (by intro e; cases e), (by intro k _ e; cases e), ⟨h1, h2⟩, (fun x hx => by cases hx), ⟨(fun h => by cases h), fun _ => by omega, by omega, by omega⟩⟩, HB.out⟩
end Go.Proofs.Ytcnoadikkfedaaa
