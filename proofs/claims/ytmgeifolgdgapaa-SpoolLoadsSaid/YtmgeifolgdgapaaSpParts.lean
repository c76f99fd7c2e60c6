
/- The parts of a row, each of so many elements: what spool's iterator yields, of bytes and of deltas. -/
import Derived.RangeFuncNested
import Derived.RangeFuncBound
import Derived.RangeFuncBox
import Derived.RangeFuncCalls
import Derived.RangeFuncLeaves
import Derived.Shelf.Abstract
import Derived.Shelf.RegionOpen
import Derived.WalkKit
import Derived.OwnWalkIn
import Derived.TacticsInMore
import Derived.LoopNIn
import Derived.LoopIn
import Derived.Test.YtmgeifolgdgapaaMerge3
namespace Go.Proofs.Ytmgeifolgdgapaa
open Go.RowKit Go.Shelf

attribute [local go_sem] Oper.semAt_some

/-- A round has left the two boxes, and all that lay below n₀, as it was. -/
def Keeps2 (n₀ b c : Nat) (W W' : World) : Prop := Below n₀ W W' ∧ W'.heap[b]? = W.heap[b]? ∧ W'.heap[c]? = W.heap[c]?
theorem keeps2_t {n₀ b c : Nat} {A B C : World} (h : Keeps2 n₀ b c A B) (k : Keeps2 n₀ b c B C) : Keeps2 n₀ b c A C := ⟨h.1.trans k.1, k.2.1.trans h.2.1, k.2.2.trans h.2.2⟩
theorem keeps2_b {n₀ b c : Nat} {w : World} (hn : n₀ ≤ w.heap.size) (hb : b < w.heap.size) (hc : c < w.heap.size) (W : World) (l : Nat) (o o' : Obj) (hl : w.heap.size ≤ l) (h : W.heap[l]? = some o) (h1 : o.isCells = false) (h2 : o.isWalk = false) : Keeps2 n₀ b c W (W.putObj l o') :=
  ⟨belowK_b hn W l o o' hl h h1 h2, World.putObj_heap_other (by omega), World.putObj_heap_other (by omega)⟩

/-- Five bytes: part k. -/
def bpart (ad : Addr) (c k : Nat) : Value := .slice (some (ad.add (k * 5))) 5 (c - k * 5)
theorem fin_next {N k : Nat} {pre : List (Fin N)} {x : Fin N} (h : pre.map (fun x => x.val) = List.range k) (hx : x.val = k) : (pre ++ [x]).map (fun x => x.val) = List.range (k + 1) := by
  rw [List.map_append, h, List.range_succ, ← hx]
  rfl
theorem fin_length {N k : Nat} {pre : List (Fin N)} (h : pre.map (fun x => x.val) = List.range k) : pre.length = k := by
  have := congrArg List.length h
  simpa using this

set_option maxRecDepth 100000 in
set_option maxHeartbeats 2000000 in
/-- The iterator's own function over bytes: it yields each five with their number, in order. -/
theorem bparts1_in (F : Fence) (n : Nat) (hf : F.fn 49) (hro : F.round = none) (hn : 1 ≤ n) (l B1 B2 n₀ : Nat) (ad : Addr) (N len cap : Nat) (hN : N ≤ 1000) (hlen : len = N * 5) (hcap : len ≤ cap)
    (J Jx : List (Fin N) → World → Prop)
    (hY : ∀ pre (x : Fin N) W, J pre W → pre.length < N → YieldAt F (n - 1) Try.prog l #[.int .i64 (x.val : Int), bpart ad cap x.val] W fun e W' =>
      (e = .returned (.bool true) ∧ J (pre ++ [x]) W' ∧ Keeps2 n₀ B1 B2 W W') ∨ (e = .returned (.bool false) ∧ Jx (pre ++ [x]) W'))
    (W : World) (h1 : W.cell? ⟨B1, 0, none⟩ = some (.int .i64 5)) (h2 : W.cell? ⟨B2, 0, none⟩ = some (.slice (some ad) len cap)) (h0 : J [] W) :
    CallsIn F n Try.prog 49 #[.func (.yield l) #[] #[], .pointer (some ⟨B1, 0, none⟩), .pointer (some ⟨B2, 0, none⟩)] W fun e W' => (∃ v, e = .returned v) ∧
      ((∃ ys : List (Fin N), ys.map (fun x => x.val) = List.range N ∧ J ys W') ∨ (∃ pre : List (Fin N), (∃ k, k ≤ N ∧ pre.map (fun x => x.val) = List.range k) ∧ Jx pre W')) := by
  refine callsIn_of_wp Try.func49 rfl hf ?_ hro
  simp only [Try.ntmps49, List.size_toArray, List.length_cons, List.length_nil, Nat.reduceAdd, Nat.reduceSub, Array.replicate_succ, Array.replicate_zero, List.push_toArray, List.append_toArray, List.nil_append, List.cons_append]
  gi_wp2
  gi_loopw [4] (fun i wr => ∃ k : Nat, k ≤ N ∧ i = .int .i64 k ∧ (∃ pre : List (Fin N), pre.map (fun x => x.val) = List.range k ∧ J pre wr) ∧ wr.heap[B1]? = W.heap[B1]? ∧ wr.heap[B2]? = W.heap[B2]?)
    (fun i _ => N - (intOf i).toNat)
  case atStart => exact ⟨0, Nat.zero_le _, rfl, ⟨[], rfl, h0⟩, rfl, rfl⟩
  case round =>
    obtain ⟨k, hk, rfl, ⟨pre, hpre, hJs⟩, hx1, hx2⟩ := hrel
    have hc1 : wr.cell? ⟨B1, 0, none⟩ = some (.int .i64 5) := by rw [← h1]; unfold World.cell?; rw [show wr.heap[(⟨B1, 0, none⟩ : Addr).block]? = W.heap[(⟨B1, 0, none⟩ : Addr).block]? from hx1]
    have hc2 : wr.cell? ⟨B2, 0, none⟩ = some (.slice (some ad) len cap) := by rw [← h2]; unfold World.cell?; rw [show wr.heap[(⟨B2, 0, none⟩ : Addr).block]? = W.heap[(⟨B2, 0, none⟩ : Addr).block]? from hx2]
    have X1 := Lib.hid hx1
    have X2 := Lib.hid hx2
    have HP := Lib.hid hpre
    clear hx1 hx2 hpre
    by_cases hlt : k < N
    · obtain ⟨x, hx⟩ : ∃ x : Fin (N), x.val = k := ⟨⟨k, hlt⟩, rfl⟩
      obtain ⟨fn, tmps, assign, body, hy, hR⟩ := hY pre x wr hJs (by rw [fin_length HP.out]; exact hlt)
      simp only [bpart, hx] at hy
      have HX := Lib.hid hx
      clear hx
      have hfull : k * 5 + 5 ≤ len := by omega
      have hin : k * 5 < len := by omega
      have hkb : k ≤ 1000 := by omega
      have HK := Lib.hid hk
      have HL := Lib.hid hlt
      have HE := Lib.hid hlen
      clear hlen hlt hk
      gi_wp2
      refine hR.mono ?_
      rintro e W3 (⟨rfl, hJ3, hk3⟩ | ⟨rfl, hJx3⟩)
      · gi_wp2
        go_roundw
        case rel => exact ⟨k + 1, HL.out, by go_num, ⟨_, fin_next HP.out HX.out, hJ3⟩, hk3.2.1.trans X1.out, hk3.2.2.trans X2.out⟩
        case measure => have := HL.out; simp [intOf]; omega
      · gi_wp2
        refine bodyPost_ret (results_none rfl _ _ _) rfl ?_
        exact ⟨⟨_, rfl⟩, .inr ⟨_, ⟨k + 1, HL.out, fin_next HP.out HX.out⟩, hJx3⟩⟩
    · have he : k = N := by omega
      have hb : k ≤ 1000 := by omega
      have hd : decide ((k : Int) * 5 < (len : Int)) = false := by simp; omega
      have E := Lib.hid he
      have HE := Lib.hid hlen
      clear he hk hlt hlen
      gi_wp2
      go_end0
      exact ⟨⟨_, rfl⟩, .inl ⟨_, by rw [HP.out, E.out], hJs⟩⟩

set_option maxHeartbeats 1000000 in
theorem bparts_in (F : Fence) (n : Nat) (hf : F.fn 32) (hro : F.round = none) (A : Option Addr) (m c : Nat) (z : Int) (w : World) :
    CallsIn F n Try.prog 32 #[.slice A m c, .int .i64 z] w fun e w' => e = .returned (.func (.func 49) #[] #[.pointer (some ⟨w.heap.size + 1, 0, none⟩), .pointer (some ⟨w.heap.size, 0, none⟩)]) ∧
      w' = (w.alloc (.cells #[.slice A m c] 28)).alloc (.cells #[.int .i64 z] 3) := by
  refine callsIn_of_wp Try.func32 rfl hf ?_ hro
  simp only [Try.ntmps32, List.size_toArray, List.length_cons, List.length_nil, Nat.reduceAdd, Nat.reduceSub, Array.replicate_succ, Array.replicate_zero, List.push_toArray, List.append_toArray, List.nil_append, List.cons_append]
  gi_wp2
  go_ret
  exact ⟨rfl, rfl⟩

theorem bparts_stops (F : Fence) (n : Nat) (hf : F.fn 49) (hro : F.round = none) (hn : 1 ≤ n) (B1 B2 n₀ : Nat) (ad : Addr) (N len cap : Nat) (hN : N ≤ 1000) (hlen : len = N * 5) (hcap : len ≤ cap)
    (w : World) (hb1 : B1 < w.heap.size) (hb2 : B2 < w.heap.size) (h1 : w.cell? ⟨B1, 0, none⟩ = some (.int .i64 5)) (h2 : w.cell? ⟨B2, 0, none⟩ = some (.slice (some ad) len cap)) :
    SeqStopsK F n Try.prog 49 #[.pointer (some ⟨B1, 0, none⟩), .pointer (some ⟨B2, 0, none⟩)] (fun x : Fin N => #[Value.int .i64 (x.val : Int), bpart ad cap x.val]) (Keeps2 n₀ B1 B2)
      (fun ys => ys.map (fun x => x.val) = List.range N) (fun pre => ∃ k, k ≤ N ∧ pre.map (fun x => x.val) = List.range k) N w :=
  fun l J Jx W hW _ _ hY h0 => bparts1_in F n hf hro hn l B1 B2 n₀ ad N len cap hN hlen hcap J Jx hY W ((hW.cell (p := ⟨B1, 0, none⟩) hb1).trans h1) ((hW.cell (p := ⟨B2, 0, none⟩) hb2).trans h2) h0

/-- How many deltas part k of n has, and how many parts there are. -/
def dlen (n k : Nat) : Nat := min 6 (n - k * 6)
def dcount (n : Nat) : Nat := (n + 5) / 6
theorem dcount_lt {n k : Nat} : k < dcount n ↔ k * 6 < n := by
  unfold dcount
  omega
def dpartV (ad : Addr) (n c k : Nat) : Value := .slice (some (ad.add (k * 6 * 5))) (dlen n k) (c - k * 6)

set_option maxRecDepth 100000 in
set_option maxHeartbeats 2000000 in
/-- The iterator's own function over deltas: it yields each six with their number, in order, and what is left. -/
theorem dparts1_in (F : Fence) (n : Nat) (hf : F.fn 45) (hro : F.round = none) (hn : 1 ≤ n) (l B1 B2 n₀ : Nat) (ad : Addr) (len cap : Nat) (hlen : len ≤ 1000000) (hcap : len ≤ cap)
    (J Jx : List (Fin (dcount len)) → World → Prop)
    (hY : ∀ pre (x : Fin (dcount len)) W, J pre W → pre.length < dcount len → YieldAt F (n - 1) Try.prog l #[.int .i64 (x.val : Int), dpartV ad len cap x.val] W fun e W' =>
      (e = .returned (.bool true) ∧ J (pre ++ [x]) W' ∧ Keeps2 n₀ B1 B2 W W') ∨ (e = .returned (.bool false) ∧ Jx (pre ++ [x]) W'))
    (W : World) (h1 : W.cell? ⟨B1, 0, none⟩ = some (.int .i64 6)) (h2 : W.cell? ⟨B2, 0, none⟩ = some (.slice (some ad) len cap)) (h0 : J [] W) :
    CallsIn F n Try.prog 45 #[.func (.yield l) #[] #[], .pointer (some ⟨B1, 0, none⟩), .pointer (some ⟨B2, 0, none⟩)] W fun e W' => (∃ v, e = .returned v) ∧
      ((∃ ys : List (Fin (dcount len)), ys.map (fun x => x.val) = List.range (dcount len) ∧ J ys W') ∨ (∃ pre : List (Fin (dcount len)), (∃ k, k ≤ dcount len ∧ pre.map (fun x => x.val) = List.range k) ∧ Jx pre W')) := by
  refine callsIn_of_wp Try.func45 rfl hf ?_ hro
  simp only [Try.ntmps45, List.size_toArray, List.length_cons, List.length_nil, Nat.reduceAdd, Nat.reduceSub, Array.replicate_succ, Array.replicate_zero, List.push_toArray, List.append_toArray, List.nil_append, List.cons_append]
  gi_wp2
  gi_loopw [4] (fun i wr => ∃ k : Nat, k ≤ dcount len ∧ i = .int .i64 k ∧ (∃ pre : List (Fin (dcount len)), pre.map (fun x => x.val) = List.range k ∧ J pre wr) ∧ wr.heap[B1]? = W.heap[B1]? ∧ wr.heap[B2]? = W.heap[B2]?)
    (fun i _ => dcount len - (intOf i).toNat)
  case atStart => exact ⟨0, Nat.zero_le _, rfl, ⟨[], rfl, h0⟩, rfl, rfl⟩
  case round =>
    obtain ⟨k, hk, rfl, ⟨pre, hpre, hJs⟩, hx1, hx2⟩ := hrel
    have hc1 : wr.cell? ⟨B1, 0, none⟩ = some (.int .i64 6) := by rw [← h1]; unfold World.cell?; rw [show wr.heap[(⟨B1, 0, none⟩ : Addr).block]? = W.heap[(⟨B1, 0, none⟩ : Addr).block]? from hx1]
    have hc2 : wr.cell? ⟨B2, 0, none⟩ = some (.slice (some ad) len cap) := by rw [← h2]; unfold World.cell?; rw [show wr.heap[(⟨B2, 0, none⟩ : Addr).block]? = W.heap[(⟨B2, 0, none⟩ : Addr).block]? from hx2]
    have X1 := Lib.hid hx1
    have X2 := Lib.hid hx2
    have HP := Lib.hid hpre
    clear hx1 hx2 hpre
    by_cases hlt : k < dcount len
    · have hlt2 := dcount_lt.1 hlt
      obtain ⟨x, hx⟩ : ∃ x : Fin (dcount len), x.val = k := ⟨⟨k, hlt⟩, rfl⟩
      obtain ⟨fn, tmps, assign, body, hy, hR⟩ := hY pre x wr hJs (by rw [fin_length HP.out]; exact hlt)
      simp only [dpartV, hx] at hy
      have HX := Lib.hid hx
      clear hx
      have HL := Lib.hid hlt
      by_cases hfull : k * 6 + 6 ≤ len
      · have hq : dlen len k = 6 := by unfold dlen; omega
        rw [hq] at hy
        clear hlt hk hq
        gi_wp2
        refine hR.mono ?_
        rintro e W3 (⟨rfl, hJ3, hk3⟩ | ⟨rfl, hJx3⟩)
        · gi_wp2
          go_roundw
          case rel => exact ⟨k + 1, HL.out, by go_num, ⟨_, fin_next HP.out HX.out, hJ3⟩, hk3.2.1.trans X1.out, hk3.2.2.trans X2.out⟩
          case measure => have := HL.out; simp [intOf]; omega
        · gi_wp2
          refine bodyPost_ret (results_none rfl _ _ _) rfl ?_
          exact ⟨⟨_, rfl⟩, .inr ⟨_, ⟨k + 1, HL.out, fin_next HP.out HX.out⟩, hJx3⟩⟩
      · have hq : dlen len k = len - k * 6 := by unfold dlen; omega
        rw [hq] at hy
        clear hlt hk hq
        gi_wp2
        refine hR.mono ?_
        rintro e W3 (⟨rfl, hJ3, hk3⟩ | ⟨rfl, hJx3⟩)
        · gi_wp2
          go_roundw
          case rel => exact ⟨k + 1, HL.out, by go_num, ⟨_, fin_next HP.out HX.out, hJ3⟩, hk3.2.1.trans X1.out, hk3.2.2.trans X2.out⟩
          case measure => have := HL.out; simp [intOf]; omega
        · gi_wp2
          refine bodyPost_ret (results_none rfl _ _ _) rfl ?_
          exact ⟨⟨_, rfl⟩, .inr ⟨_, ⟨k + 1, HL.out, fin_next HP.out HX.out⟩, hJx3⟩⟩
    · have he : k = dcount len := by omega
      have hb : k ≤ 1000000 := by rw [he]; unfold dcount; omega
      have hd : decide ((k : Int) * 6 < (len : Int)) = false := by simp; rw [he]; unfold dcount; omega
      have E := Lib.hid he
      clear he hk hlt
      gi_wp2
      go_end0
      exact ⟨⟨_, rfl⟩, .inl ⟨_, by rw [HP.out, E.out], hJs⟩⟩

set_option maxHeartbeats 1000000 in
theorem dparts_in (F : Fence) (n : Nat) (hf : F.fn 29) (hro : F.round = none) (A : Option Addr) (m c : Nat) (z : Int) (w : World) :
    CallsIn F n Try.prog 29 #[.slice A m c, .int .i64 z] w fun e w' => e = .returned (.func (.func 45) #[] #[.pointer (some ⟨w.heap.size + 1, 0, none⟩), .pointer (some ⟨w.heap.size, 0, none⟩)]) ∧
      w' = (w.alloc (.cells #[.slice A m c] 32)).alloc (.cells #[.int .i64 z] 3) := by
  refine callsIn_of_wp Try.func29 rfl hf ?_ hro
  simp only [Try.ntmps29, List.size_toArray, List.length_cons, List.length_nil, Nat.reduceAdd, Nat.reduceSub, Array.replicate_succ, Array.replicate_zero, List.push_toArray, List.append_toArray, List.nil_append, List.cons_append]
  gi_wp2
  go_ret
  exact ⟨rfl, rfl⟩

theorem dparts_stops (F : Fence) (n : Nat) (hf : F.fn 45) (hro : F.round = none) (hn : 1 ≤ n) (B1 B2 n₀ : Nat) (ad : Addr) (len cap : Nat) (hlen : len ≤ 1000000) (hcap : len ≤ cap)
    (w : World) (hb1 : B1 < w.heap.size) (hb2 : B2 < w.heap.size) (h1 : w.cell? ⟨B1, 0, none⟩ = some (.int .i64 6)) (h2 : w.cell? ⟨B2, 0, none⟩ = some (.slice (some ad) len cap)) :
    SeqStopsK F n Try.prog 45 #[.pointer (some ⟨B1, 0, none⟩), .pointer (some ⟨B2, 0, none⟩)] (fun x : Fin (dcount len) => #[Value.int .i64 (x.val : Int), dpartV ad len cap x.val]) (Keeps2 n₀ B1 B2)
      (fun ys => ys.map (fun x => x.val) = List.range (dcount len)) (fun pre => ∃ k, k ≤ dcount len ∧ pre.map (fun x => x.val) = List.range k) (dcount len) w :=
  fun l J Jx W hW _ _ hY h0 => dparts1_in F n hf hro hn l B1 B2 n₀ ad len cap hlen hcap J Jx hY W ((hW.cell (p := ⟨B1, 0, none⟩) hb1).trans h1) ((hW.cell (p := ⟨B2, 0, none⟩) hb2).trans h2) h0
end Go.Proofs.Ytmgeifolgdgapaa
