/- The parts that leaves hold: what the iterator yields. -/
import Derived.Test.YtdocclkphffpkaaGreatMerge11
import Derived.Test.YtdocclkphffpkaaGreatMerge6
import Derived.WalkKit
import Derived.OwnWalkIn
import Derived.TacticsInMore
import Derived.LoopNIn
import Derived.LoopIn
namespace Go.Proofs.YtdocclkphffpkaaGreat
open Go.RowKit Go.Shelf

attribute [local go_sem] Oper.semAt_some

/-- How many bytes a leaf says that it has, as far as there are so many. -/
def dlen (f : Nat → Nat) : Nat := min (6 + f 5) 60 - 6
/-- What leaf i hands over. -/
def dpart (F : Nat → Nat → Nat) (i : Nat) : Nat × (Nat → Nat) := (dlen (F i), fun j => F i (6 + j))
/-- The first k leaves are sealed, and the next one is none, or there is none. -/
def Sound (N : Nat) (L : Nat → Nat) (F : Nat → Nat → Nat) (k : Nat) : Prop := k ≤ N ∧ (∀ i, i < k → Sealed (L i) (F i)) ∧ (k < N → ¬ Sealed (L k) (F k))
/-- A part that is handed over: the slice, and what it reads as. -/
abbrev Part := Value × (Nat × (Nat → Nat))
def PartOk (x : Part) (W : World) : Prop := Reads W x.1 x.2.1 x.2.2 ∧ x.2.1 ≤ 60

set_option maxRecDepth 100000 in
set_option maxHeartbeats 2000000 in
theorem partsOf1_in (F0 : Fence) (n : Nat) (hw : F0 = Fence.wide) (hn : 1 ≤ n) (l Bs : Nat) (v : Value) (N : Nat) (L : Nat → Nat) (F : Nat → Nat → Nat) (J : List Part → World → Prop) (W : World) (n₀ : Nat)
    (hJ : AbidesFrom W.heap.size J)
    (hY : ∀ pre (x : Part) X, J pre X → pre.length < N → PartOk x X → YieldAt F0 (n - 1) Tryz.prog l #[x.1] X fun e Y => e = .returned (.bool true) ∧ J (pre ++ [x]) Y ∧ Below n₀ X Y)
    (hn₀ : n₀ ≤ W.heap.size) (hBs : W.cell? ⟨Bs, 0, none⟩ = some v) (hv : ReadsP W v N L F) (hlow : ∀ X, Below n₀ W X → ReadsP X v N L F) (h0 : J [] W) :
    CallsIn F0 n Tryz.prog 98 #[.func (.yield l) #[] #[], .pointer (some ⟨Bs, 0, none⟩)] W fun e Y => (∃ v, e = .returned v) ∧ ∃ xs, (∃ k, Sound N L F k ∧ xs.map (·.2) = (List.range k).map (dpart F)) ∧ J xs Y := by
  subst hw
  obtain ⟨A, c, rfl, v1, v2, v3, v4⟩ := hv
  refine callsIn_of_wp Tryz.func98 rfl trivial ?_ rfl
  simp only [Tryz.ntmps98, List.size_toArray, List.length_cons, List.length_nil, Nat.reduceAdd, Nat.reduceSub, Array.replicate_succ, Array.replicate_zero, List.push_toArray, List.append_toArray, List.nil_append, List.cons_append]
  gi_wp2
  clear v4
  gi_loopw [10] (fun i wr => ∃ (k : Nat) (pre : List Part), k ≤ N ∧ i = .int .i64 k ∧ pre.length = k ∧ pre.map (·.2) = (List.range k).map (dpart F) ∧ (∀ i, i < k → Sealed (L i) (F i)) ∧ J pre wr ∧ Below n₀ W wr)
    (fun i _ => N - (intOf i).toNat)
  case atStart => exact ⟨0, [], Nat.zero_le _, rfl, rfl, rfl, fun i hi => absurd hi (by omega), h0, Below.refl _ _⟩
  case round =>
    obtain ⟨k, pre, hk, rfl, hpl, hpm, hsl, hJs, hb⟩ := hrel
    by_cases hlt : k < N
    · obtain ⟨ad, u, rfl, hcu, hru⟩ := (hlow wr hb).page_at hlt
      have RU := Lib.hid hru
      gi_wp2_with fail
      refine ⟨trivial, ?_⟩
      refine (callsIn_wide.2 (open_any u (L k) (F k) wr RU.out)).mono ?_
      rintro e W1 (⟨hs, hg⟩ | ⟨hs, x, hx, rfl, hb1⟩)
      · have hsm : ∀ i, i < 60 → F k i < 256 := by
          obtain ⟨_, _, _, _, _, _, p⟩ := RU.out
          have := hs.1
          exact fun i hi => p.small i (by omega)
        obtain ⟨v1', rfl, hr, hb1⟩ := hg.reads hsm
        obtain ⟨A1, c1, rfl, q1, q2, q3, q4⟩ := hr
        obtain ⟨bd, rfl⟩ := q4.addr (by omega)
        obtain ⟨z, hz⟩ : ∃ z, z = F k 5 := ⟨_, rfl⟩
        have hz256 : z < 256 := by rw [hz]; exact hsm 5 (by omega)
        have h5 : W1.cell? ⟨bd.block, bd.off + 5, none⟩ = some (.int .u8 (z : Int)) := by rw [hz]; exact q4.at_ (i := 5) (by omega)
        have hJ1 := abides_below hJ hJs (hb1.mono (Nat.le_refl _))
        have HB1 : Hid (Below n₀ W W1) := Lib.hid (hb.trans (hb1.mono (Nat.le_trans hn₀ hb.size)))
        have HS : Hid (∀ i, i < k + 1 → Sealed (L i) (F i)) := Lib.hid fun i hi => by
          by_cases hik : i < k
          · exact hsl i hik
          · obtain rfl : i = k := by omega
            exact hs
        have ok : PartOk (.slice (some ⟨bd.block, bd.off + 6, none⟩) (dlen (F k)) (c1 - 6), dpart F k) W1 := by
          refine ⟨⟨_, _, rfl, ?_, by omega, (by intro e; cases e), fun i hi => hsm _ ?_, fun i hi => ⟨_, rfl, ?_⟩⟩, by show dlen (F k) ≤ 60; unfold dlen; omega⟩
          · show dlen (F k) ≤ c1 - 6
            unfold dlen; omega
          · have hi2 : i < dlen (F k) := hi
            unfold dlen at hi2; omega
          · have hi2 : i < dlen (F k) := hi
            have h := q4.at_ (i := 6 + i) (by unfold dlen at hi2; omega)
            rw [← Addr.add_add] at h
            exact h
        obtain ⟨fn, tmps, assign, body, hy, hR⟩ := hY pre _ W1 hJ1 (by omega) ok
        dsimp only at hy
        have HM : Hid ((pre ++ [(Value.slice (some ⟨bd.block, bd.off + 6, none⟩) (dlen (F k)) (c1 - 6), dpart F k)]).map (·.2) = (List.range (k + 1)).map (dpart F)) := Lib.hid (by rw [List.map_append, hpm, List.range_succ, List.map_append]; rfl)
        have HZ := Lib.hid hz
        clear ok hsl hpm hs hg hsm q4 hJ1 hJs hb1 hb hz hru
        by_cases h54 : 6 + z ≤ 60
        · have hdl : dlen (F k) = z := by unfold dlen; rw [← HZ.out]; omega
          rw [hdl] at hy
          gi_wp2
          refine hR.mono ?_
          rintro e W3 ⟨rfl, hJ3, hk3⟩
          gi_wp2
          go_roundw
          case rel => exact ⟨k + 1, _, hlt, by go_num, by rw [List.length_append, hpl]; rfl, HM.out, HS.out, hJ3, HB1.out.trans hk3⟩
          case measure => simp [intOf]; omega
        · have hdl : dlen (F k) = 54 := by unfold dlen; rw [← HZ.out]; omega
          rw [hdl] at hy
          gi_wp2
          refine hR.mono ?_
          rintro e W3 ⟨rfl, hJ3, hk3⟩
          gi_wp2
          go_roundw
          case rel => exact ⟨k + 1, _, hlt, by go_num, by rw [List.length_append, hpl]; rfl, HM.out, HS.out, hJ3, HB1.out.trans hk3⟩
          case measure => simp [intOf]; omega
      · have hx2 : (x == 0) = false := by simpa using hx
        have hx3 : (x != 0) = true := by simp [hx]
        have hJ1 := abides_below hJ hJs (hb1.mono (Nat.le_refl _))
        clear hx hJs
        gi_wp2
        refine bodyPost_ret (results_none (by rfl) _ _ _) rfl ?_
        exact ⟨⟨_, rfl⟩, pre, ⟨k, ⟨hk, hsl, fun _ => hs⟩, hpm⟩, hJ1⟩
    · obtain rfl : k = N := by omega
      gi_wp2
      go_end0
      exact ⟨⟨_, rfl⟩, pre, ⟨k, ⟨Nat.le_refl _, hsl, fun h => absurd h (by omega)⟩, hpm⟩, hJs⟩

set_option maxHeartbeats 1000000 in
theorem partsOf_in (F : Fence) (n : Nat) (hf : F.fn 81) (hro : F.round = none) (A : Option Addr) (m c : Nat) (w : World) :
    CallsIn F n Tryz.prog 81 #[.slice A m c] w fun e w' => e = .returned (.func (.func 98) #[] #[.pointer (some ⟨w.heap.size, 0, none⟩)]) ∧ w' = w.alloc (.cells #[.slice A m c] 22) := by
  refine callsIn_of_wp Tryz.func81 rfl hf ?_ hro
  simp only [Tryz.ntmps81, List.size_toArray, List.length_cons, List.length_nil, Nat.reduceAdd, Nat.reduceSub, Array.replicate_succ, Array.replicate_zero, List.push_toArray, List.append_toArray, List.nil_append, List.cons_append]
  gi_wp2
  go_ret
  exact ⟨rfl, rfl⟩

theorem partsOf_tells (n : Nat) (hn : 1 ≤ n) (Bs : Nat) (v : Value) (N : Nat) (L : Nat → Nat) (F : Nat → Nat → Nat) (w0 w : World) (hBs : Bs < w.heap.size) (hc : w.cell? ⟨Bs, 0, none⟩ = some v) (hb : Below w0.heap.size w0 w) (hv : ReadsP w0 v N L F) :
    Tells Fence.wide n Tryz.prog 98 #[.pointer (some ⟨Bs, 0, none⟩)] (fun x : Part => #[x.1]) (Below w0.heap.size) PartOk (fun xs => ∃ k, Sound N L F k ∧ xs.map (·.2) = (List.range k).map (dpart F)) N w :=
  fun l J W hW hJ hY h0 => partsOf1_in Fence.wide n rfl hn l Bs v N L F J W w0.heap.size hJ hY (Nat.le_trans hb.size hW.size) ((hW.cell (p := ⟨Bs, 0, none⟩) hBs).trans hc) ((hv.below hb).below hW)
    (fun _ hX => hv.below (hb.trans ((hW.mono hb.size).trans hX))) h0
end Go.Proofs.YtdocclkphffpkaaGreat
