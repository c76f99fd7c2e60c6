/- The parts of a text, one for each leaf: what the iterator yields. -/
import Derived.RangeFuncNested
import Derived.RangeFuncBound
import Derived.RangeFuncBox
import Derived.RangeFuncCalls
import Derived.RangeFuncLeaves
import Derived.Shelf.Abstract
import Derived.Shelf.RegionOpen
import Derived.WalkKit
import Derived.OwnWalkIn
import Derived.TacticsInMore
import Derived.LoopNIn
import Derived.LoopIn
import Derived.Test.YtdocclkphffpkaaGreatMerge1
namespace Go.Proofs.YtdocclkphffpkaaGreat
open Go.RowKit Go.Shelf

attribute [local go_sem] Oper.semAt_some

/-- How many bytes of n part k has. -/
def plen (n k : Nat) : Nat := min 52 (n - k * 52)
theorem plen_le (n k : Nat) : plen n k ≤ 52 := Nat.min_le_left _ _
/-- Part k of a text of n bytes, as a slice. -/
def pval (A : Option Addr) (n c k : Nat) : Value :=
  match A with
  | none => .slice none 0 0
  | some ad => if k * 52 < n then .slice (some (ad.add (k * 52))) (plen n k) (c - k * 52) else .slice none 0 0
/-- How many parts there are. -/
def pcount (n : Nat) : Nat := (n + 51) / 52
theorem pcount_lt {n k : Nat} : k < pcount n ↔ k * 52 < n := by
  unfold pcount
  omega

/-- A round has left the box of the text, and all that lay below n₀, as it was. -/
def KeepsBox (n₀ Bs : Nat) (W W' : World) : Prop := Below n₀ W W' ∧ W'.heap[Bs]? = W.heap[Bs]?
theorem keepsBox_t {n₀ Bs : Nat} {A B C : World} (h : KeepsBox n₀ Bs A B) (k : KeepsBox n₀ Bs B C) : KeepsBox n₀ Bs A C := ⟨h.1.trans k.1, k.2.trans h.2⟩
theorem keepsBox_b {n₀ Bs : Nat} {w : World} (hn : n₀ ≤ w.heap.size) (hb : Bs < w.heap.size) (W : World) (l : Nat) (o o' : Obj) (hl : w.heap.size ≤ l) (h : W.heap[l]? = some o) (h1 : o.isCells = false) (h2 : o.isWalk = false) : KeepsBox n₀ Bs W (W.putObj l o') :=
  ⟨belowK_b hn W l o o' hl h h1 h2, World.putObj_heap_other (by omega)⟩

set_option maxRecDepth 100000 in
set_option maxHeartbeats 2000000 in
/-- The iterator's own function: it yields each part with its number, in order. -/
theorem parts1_in (F : Fence) (n : Nat) (hf : F.fn 95) (hro : F.round = none) (hn : 1 ≤ n) (l Bs n₀ : Nat) (A : Option Addr) (len cap : Nat) (hlen : len ≤ 9000000000000000) (hcap : len ≤ cap) (hA : A = none → len = 0)
    (J Jx : List Nat → World → Prop)
    (hY : ∀ pre (x : Nat) W, J pre W → pre.length < pcount len → YieldAt F (n - 1) Tryz.prog l #[.int .i64 (x : Int), pval A len cap x] W fun e W' =>
      (e = .returned (.bool true) ∧ J (pre ++ [x]) W' ∧ KeepsBox n₀ Bs W W') ∨ (e = .returned (.bool false) ∧ Jx (pre ++ [x]) W'))
    (W : World) (hBs : W.cell? ⟨Bs, 0, none⟩ = some (.slice A len cap)) (h0 : J [] W) :
    CallsIn F n Tryz.prog 95 #[.func (.yield l) #[] #[], .pointer (some ⟨Bs, 0, none⟩)] W fun e W' => (∃ v, e = .returned v) ∧
      ((∃ ys, ys = List.range (pcount len) ∧ J ys W') ∨ (∃ pre, (∃ k, k ≤ pcount len ∧ pre = List.range k) ∧ Jx pre W')) := by
  refine callsIn_of_wp Tryz.func95 rfl hf ?_ hro
  simp only [Tryz.ntmps95, List.size_toArray, List.length_cons, List.length_nil, Nat.reduceAdd, Nat.reduceSub, Array.replicate_succ, Array.replicate_zero, List.push_toArray, List.append_toArray, List.nil_append, List.cons_append]
  gi_wp2
  gi_loopw [3] (fun i wr => ∃ k : Nat, k ≤ pcount len ∧ i = .int .i64 k ∧ J (List.range k) wr ∧ wr.heap[Bs]? = W.heap[Bs]?)
    (fun i _ => pcount len - (intOf i).toNat)
  case atStart => exact ⟨0, Nat.zero_le _, rfl, h0, rfl⟩
  case round =>
    obtain ⟨k, hk, rfl, hJs, hnx⟩ := hrel
    have hcb : wr.cell? ⟨Bs, 0, none⟩ = some (.slice A len cap) := by rw [← hBs]; unfold World.cell?; rw [show wr.heap[(⟨Bs, 0, none⟩ : Addr).block]? = W.heap[(⟨Bs, 0, none⟩ : Addr).block]? from hnx]
    by_cases hlt : k < pcount len
    · have hlt2 := pcount_lt.1 hlt
      obtain ⟨fn, tmps, assign, body, hy, hR⟩ := hY _ k wr hJs (by rw [List.length_range]; exact hlt)
      cases A with
      | none => exact absurd (hA rfl) (by omega)
      | some ad =>
        simp only [pval, if_pos hlt2] at hy
        have H2 := Lib.hid hlt
        by_cases hfull : k * 52 + 52 ≤ len
        · have hq : plen len k = 52 := by unfold plen; omega
          rw [hq] at hy
          clear hlt hk hq
          gi_wp2
          refine hR.mono ?_
          rintro e W3 (⟨rfl, hJ3, hk3⟩ | ⟨rfl, hJx3⟩)
          · gi_wp2
            go_roundw
            case rel => exact ⟨k + 1, H2.out, by go_num, by rw [List.range_succ]; exact hJ3, hk3.2.trans hnx⟩
            case measure => have := H2.out; simp [intOf]; omega
          · gi_wp2
            refine bodyPost_ret (results_none rfl _ _ _) rfl ?_
            exact ⟨⟨_, rfl⟩, .inr ⟨_, ⟨k + 1, H2.out, List.range_succ.symm⟩, hJx3⟩⟩
        · have hq : plen len k = len - k * 52 := by unfold plen; omega
          rw [hq] at hy
          clear hlt hk hq
          gi_wp2
          refine hR.mono ?_
          rintro e W3 (⟨rfl, hJ3, hk3⟩ | ⟨rfl, hJx3⟩)
          · gi_wp2
            go_roundw
            case rel => exact ⟨k + 1, H2.out, by go_num, by rw [List.range_succ]; exact hJ3, hk3.2.trans hnx⟩
            case measure => have := H2.out; simp [intOf]; omega
          · gi_wp2
            refine bodyPost_ret (results_none rfl _ _ _) rfl ?_
            exact ⟨⟨_, rfl⟩, .inr ⟨_, ⟨k + 1, H2.out, List.range_succ.symm⟩, hJx3⟩⟩
    · have he : k = pcount len := by omega
      have hb : k ≤ 200000000000000 := by rw [he]; unfold pcount; omega
      have hd : decide ((k : Int) * 52 < (len : Int)) = false := by simp; rw [he]; unfold pcount; omega
      have E := Lib.hid he
      clear he hk hlt
      gi_wp2
      go_end0
      exact ⟨⟨_, rfl⟩, .inl ⟨_, by rw [← E.out], hJs⟩⟩

set_option maxHeartbeats 1000000 in
/-- parts: the text is boxed; the iterator holds the box. -/
theorem parts_in (F : Fence) (n : Nat) (hf : F.fn 70) (hro : F.round = none) (A : Option Addr) (m c : Nat) (w : World) :
    CallsIn F n Tryz.prog 70 #[.slice A m c] w fun e w' => e = .returned (.func (.func 95) #[] #[.pointer (some ⟨w.heap.size, 0, none⟩)]) ∧ w' = w.alloc (.cells #[.slice A m c] 44) := by
  refine callsIn_of_wp Tryz.func70 rfl hf ?_ hro
  simp only [Tryz.ntmps70, List.size_toArray, List.length_cons, List.length_nil, Nat.reduceAdd, Nat.reduceSub, Array.replicate_succ, Array.replicate_zero, List.push_toArray, List.append_toArray, List.nil_append, List.cons_append]
  gi_wp2
  go_ret
  exact ⟨rfl, rfl⟩

theorem parts_stops (F : Fence) (n : Nat) (hf : F.fn 95) (hro : F.round = none) (hn : 1 ≤ n) (Bs n₀ : Nat) (A : Option Addr) (len cap : Nat) (hlen : len ≤ 9000000000000000) (hcap : len ≤ cap) (hA : A = none → len = 0)
    (w : World) (hBs : Bs < w.heap.size) (hc : w.cell? ⟨Bs, 0, none⟩ = some (.slice A len cap)) :
    SeqStopsK F n Tryz.prog 95 #[.pointer (some ⟨Bs, 0, none⟩)] (fun x : Nat => #[Value.int .i64 (x : Int), pval A len cap x]) (KeepsBox n₀ Bs) (fun ys => ys = List.range (pcount len)) (fun pre => ∃ k, k ≤ pcount len ∧ pre = List.range k) (pcount len) w :=
  fun l J Jx W hW _ _ hY h0 => parts1_in F n hf hro hn l Bs n₀ A len cap hlen hcap hA J Jx hY W ((hW.cell (p := ⟨Bs, 0, none⟩) hBs).trans hc) h0
end Go.Proofs.YtdocclkphffpkaaGreat
