/- The volumes of a text: what the iterator yields. -/
import Derived.Test.YtdocclkphffpkaaGreatMerge11
import Derived.WalkKit
import Derived.OwnWalkIn
import Derived.TacticsInMore
import Derived.LoopNIn
import Derived.LoopIn
namespace Go.Proofs.YtdocclkphffpkaaGreat
open Go.RowKit Go.Shelf

attribute [local go_sem] Oper.semAt_some

/-- Where volume k begins in a text of n bytes f, and how many bytes it has. -/
def vstep (n : Nat) (f : Nat → Nat) (p : Nat) : Nat := min (2 + 2 * f (p + 1)) (n - p)
def vpos (n : Nat) (f : Nat → Nat) : Nat → Nat
  | 0 => 0
  | k + 1 => vpos n f k + vstep n f (vpos n f k)
def vol (n : Nat) (f : Nat → Nat) (k : Nat) : Nat × (Nat → Nat) := (vstep n f (vpos n f k), fun j => f (vpos n f k + j))
/-- The text has k volumes: each but the last begins with two bytes at least. -/
def Vols (n : Nat) (f : Nat → Nat) (k : Nat) : Prop := k ≤ 8 ∧ (∀ i, i < k → vpos n f i + 2 ≤ n) ∧ (k < 8 → ¬ vpos n f k + 2 ≤ n)
theorem vpos_le (n : Nat) (f : Nat → Nat) (k : Nat) : vpos n f k ≤ n := by
  induction k with
  | zero => exact Nat.zero_le _
  | succ k ih => unfold vpos vstep; omega

/-- A volume that is handed over: its id, the slice, and what it reads as. -/
abbrev Vol := Nat × (Value × (Nat × (Nat → Nat)))
def VolOk (n : Nat) (f : Nat → Nat) (x : Vol) (W : World) : Prop := Reads W x.2.1 x.2.2.1 x.2.2.2 ∧ x.1 < 8 ∧ vpos n f x.1 + 2 ≤ n ∧ x.2.2 = vol n f x.1

set_option maxRecDepth 100000 in
set_option maxHeartbeats 2000000 in
theorem volumes1_in (n0 : Nat) (hn : 1 ≤ n0) (l Bs : Nat) (v : Value) (n : Nat) (f : Nat → Nat) (J : List Vol → World → Prop) (W : World) (n₀ : Nat)
    (hY : ∀ pre (x : Vol) X, J pre X → pre.length < 8 → VolOk n f x X → YieldAt Fence.wide (n0 - 1) Tryz.prog l #[.int .i64 (x.1 : Int), x.2.1] X fun e Y => e = .returned (.bool true) ∧ J (pre ++ [x]) Y ∧ Below n₀ X Y)
    (hBs : W.cell? ⟨Bs, 0, none⟩ = some v) (hlow : ∀ X, Below n₀ W X → Reads X v n f) (h0 : J [] W) :
    CallsIn Fence.wide n0 Tryz.prog 109 #[.func (.yield l) #[] #[], .pointer (some ⟨Bs, 0, none⟩)] W fun e Y => (∃ v, e = .returned v) ∧ ∃ xs, (∃ k, Vols n f k ∧ xs.map (fun x => (x.1, x.2.2)) = (List.range k).map fun i => (i, vol n f i)) ∧ J xs Y := by
  obtain ⟨A, c, rfl, -⟩ := id (hlow W (Below.refl _ _))
  refine callsIn_of_wp Tryz.func109 rfl trivial ?_ rfl
  simp only [Tryz.ntmps109, List.size_toArray, List.length_cons, List.length_nil, Nat.reduceAdd, Nat.reduceSub, Array.replicate_succ, Array.replicate_zero, List.push_toArray, List.append_toArray, List.nil_append, List.cons_append]
  gi_wp2
  gi_loopw [3, 7] (fun r i wr => ∃ (k : Nat) (pre : List Vol), k ≤ 8 ∧ i = .int .i64 k ∧ pre.length = k ∧ pre.map (fun x => (x.1, x.2.2)) = (List.range k).map (fun i => (i, vol n f i)) ∧ (∀ i, i < k → vpos n f i + 2 ≤ n) ∧
      (∀ X, Below n₀ W X → Reads X r (n - vpos n f k) fun j => f (vpos n f k + j)) ∧ J pre wr ∧ Below n₀ W wr)
    (fun _ i _ => 8 - (intOf i).toNat)
  case atStart => exact ⟨0, [], Nat.zero_le _, rfl, rfl, rfl, fun i hi => absurd hi (by omega), fun X hX => by
    have h := hlow X hX
    show Reads X _ (n - 0) fun j => f (0 + j)
    exact (show Reads X _ n _ from h).congr fun i _ => by rw [Nat.zero_add], h0, Below.refl _ _⟩
  case round =>
    obtain ⟨k, pre, hk, rfl, hpl, hpm, hvs, hrd, hJs, hb⟩ := hrel
    obtain ⟨p, hp⟩ : ∃ p, p = vpos n f k := ⟨_, rfl⟩
    have hpn : p ≤ n := by rw [hp]; exact vpos_le _ _ _
    rw [← hp] at hrd
    obtain ⟨m, hm⟩ : ∃ m, m = n - p := ⟨_, rfl⟩
    rw [← hm] at hrd
    have hr1 := hrd wr hb
    obtain ⟨B, d, rfl, q1, q2, q3, q4⟩ := id hr1
    have HP := Lib.hid hp
    have HM := Lib.hid hm
    have HVS := Lib.hid hvs
    have HPM := Lib.hid hpm
    have HRD := Lib.hid hrd
    clear hp hm hvs hpm hrd hr1
    by_cases h8 : k < 8
    · by_cases h2 : 2 ≤ m
      · obtain ⟨bd, rfl⟩ := q4.addr (by omega)
        obtain ⟨z, hz⟩ : ∃ z, z = f (p + 1) := ⟨_, rfl⟩
        have hz256 : z < 256 := by rw [hz]; exact q4.small 1 (by omega)
        have c1 : wr.cell? ⟨bd.block, bd.off + 1, none⟩ = some (.int .u8 (z : Int)) := by rw [hz]; exact q4.at_ (i := 1) (by omega)
        obtain ⟨e, he⟩ : ∃ e, e = vstep n f p := ⟨_, rfl⟩
        have he2 : 2 ≤ e ∧ e ≤ m := by rw [he]; unfold vstep; have := HM.out; omega
        have ok : VolOk n f (k, .slice (some bd) e d, vol n f k) wr := by
          refine ⟨?_, h8, by rw [← HP.out]; have := HM.out; omega, rfl⟩
          show Reads wr (.slice (some bd) e d) (vstep n f (vpos n f k)) fun j => f (vpos n f k + j)
          rw [← HP.out, ← he]
          exact ⟨_, _, rfl, by omega, q2, (by intro e; cases e), q4.first he2.2⟩
        obtain ⟨fn, tmps, assign, body, hy, hR⟩ := hY pre _ wr hJs (by omega) ok
        dsimp only at hy
        have HPM2 : Hid ((pre ++ [(k, Value.slice (some bd) e d, vol n f k)]).map (fun x => (x.1, x.2.2)) = (List.range (k + 1)).map fun i => (i, vol n f i)) := Lib.hid (by rw [List.map_append, HPM.out, List.range_succ, List.map_append]; rfl)
        have HVS2 : Hid (∀ i, i < k + 1 → vpos n f i + 2 ≤ n) := Lib.hid fun i hi => by
          by_cases hik : i < k
          · exact HVS.out i hik
          · obtain rfl : i = k := by omega
            rw [← HP.out]; have := HM.out; omega
        have HPS : Hid (vpos n f (k + 1) = p + e) := Lib.hid (by show vpos n f k + vstep n f (vpos n f k) = p + e; rw [← HP.out, ← he])
        -- what is left
        have HR2 : Hid (∀ B' d', (d ≠ e → B' = some (bd.add e) ∧ d' = d - e) → (d = e → d' = 0) → ∀ X, Below n₀ W X → Reads X (.slice B' (m - e) d') (n - vpos n f (k + 1)) fun j => f (vpos n f (k + 1) + j)) := Lib.hid fun B' d' h1 h2 X hX => by
          have hme : n - vpos n f (k + 1) = m - e := by rw [HPS.out]; have := HM.out; omega
          rw [hme, HPS.out]
          obtain ⟨_, _, e', _, _, _, s4⟩ := HRD.out X hX
          cases e'
          by_cases hde : d = e
          · have h3 := h2 hde
            subst h3
            refine ⟨_, _, rfl, by omega, by omega, fun _ => rfl, fun i hi => absurd hi (by omega), fun i hi => absurd hi (by omega)⟩
          · obtain ⟨rfl, rfl⟩ := h1 hde
            refine ⟨_, _, rfl, by omega, by omega, (by intro e; cases e), fun i hi => ?_, fun i hi => ⟨_, rfl, ?_⟩⟩
            · show f (p + e + i) < 256
              rw [Nat.add_assoc]
              exact s4.small (e + i) (by omega)
            · rw [Addr.add_add, Nat.add_assoc]
              exact s4.at_ (by omega)
        have HE := Lib.hid he
        have HZ := Lib.hid hz
        clear ok he hz q4
        by_cases hfull : 2 + 2 * z ≤ m
        · have h1 : 2 + 2 * (z : Int) = (e : Int) := by
            have h3 := HE.out
            unfold vstep at h3
            have h4 := HZ.out
            have h5 := HM.out
            rw [← h4] at h3
            omega
          have h6 : ((e : Int) ≤ (m : Int)) := by omega
          clear hfull
          gi_wp2
          refine hR.mono ?_
          rintro e' W3 ⟨rfl, hJ3, hk3⟩
          by_cases hde : d = e
          · subst hde
            have hz0 : m - d = 0 := by omega
            have hl := HR2.out (some bd) 0 (fun h => absurd rfl h) (fun _ => rfl)
            rw [hz0] at hl
            have HL := Lib.hid hl
            clear hl hz0
            gi_wp2
            go_roundw
            case rel => exact ⟨k + 1, _, h8, by go_num, by rw [List.length_append, hpl]; rfl, HPM2.out, HVS2.out, HL.out, hJ3, hb.trans hk3⟩
            case measure => simp [intOf]; omega
          · gi_wp2
            go_roundw
            case rel => exact ⟨k + 1, _, h8, by go_num, by rw [List.length_append, hpl]; rfl, HPM2.out, HVS2.out, HR2.out _ _ (fun _ => ⟨rfl, rfl⟩) (fun h => absurd h hde), hJ3, hb.trans hk3⟩
            case measure => simp [intOf]; omega
        · have hem : e = m := by
            have h3 := HE.out
            unfold vstep at h3
            have h4 := HZ.out
            have h5 := HM.out
            rw [← h4] at h3
            omega
          subst hem
          gi_wp2
          refine hR.mono ?_
          rintro e' W3 ⟨rfl, hJ3, hk3⟩
          by_cases hde : d = e
          · subst hde
            have hl := HR2.out (some bd) 0 (fun h => absurd rfl h) (fun _ => rfl)
            rw [Nat.sub_self] at hl
            have HL := Lib.hid hl
            clear hl
            gi_wp2
            go_roundw
            case rel => exact ⟨k + 1, _, h8, by go_num, by rw [List.length_append, hpl]; rfl, HPM2.out, HVS2.out, HL.out, hJ3, hb.trans hk3⟩
            case measure => simp [intOf]; omega
          · have hl := HR2.out (some (bd.add e)) (d - e) (fun _ => ⟨rfl, rfl⟩) (fun h => absurd h hde)
            rw [Nat.sub_self] at hl
            have HL := Lib.hid hl
            clear hl
            gi_wp2
            go_roundw
            case rel => exact ⟨k + 1, _, h8, by go_num, by rw [List.length_append, hpl]; rfl, HPM2.out, HVS2.out, HL.out, hJ3, hb.trans hk3⟩
            case measure => simp [intOf]; omega
      · have hm2 : m < 2 := by omega
        gi_wp2
        refine bodyPost_ret (results_none (by rfl) _ _ _) rfl ?_
        exact ⟨⟨_, rfl⟩, pre, ⟨k, ⟨hk, HVS.out, fun _ => by rw [← HP.out]; have := HM.out; omega⟩, HPM.out⟩, hJs⟩
    · obtain rfl : k = 8 := by omega
      gi_wp2
      go_end0
      exact ⟨⟨_, rfl⟩, pre, ⟨8, ⟨Nat.le_refl _, HVS.out, fun h => absurd h (by omega)⟩, HPM.out⟩, hJs⟩

set_option maxHeartbeats 1000000 in
theorem volumes_in (F : Fence) (n : Nat) (hf : F.fn 99) (hro : F.round = none) (A : Option Addr) (m c : Nat) (w : World) :
    CallsIn F n Tryz.prog 99 #[.slice A m c] w fun e w' => e = .returned (.func (.func 109) #[] #[.pointer (some ⟨w.heap.size, 0, none⟩)]) ∧ w' = w.alloc (.cells #[.slice A m c] 44) := by
  refine callsIn_of_wp Tryz.func99 rfl hf ?_ hro
  simp only [Tryz.ntmps99, List.size_toArray, List.length_cons, List.length_nil, Nat.reduceAdd, Nat.reduceSub, Array.replicate_succ, Array.replicate_zero, List.push_toArray, List.append_toArray, List.nil_append, List.cons_append]
  gi_wp2
  go_ret
  exact ⟨rfl, rfl⟩

theorem volumes_tells (n0 : Nat) (hn : 1 ≤ n0) (Bs : Nat) (v : Value) (n : Nat) (f : Nat → Nat) (w0 w : World) (hBs : Bs < w.heap.size) (hc : w.cell? ⟨Bs, 0, none⟩ = some v) (hb : Below w0.heap.size w0 w) (hv : Reads w0 v n f) :
    Tells Fence.wide n0 Tryz.prog 109 #[.pointer (some ⟨Bs, 0, none⟩)] (fun x : Vol => #[Value.int .i64 (x.1 : Int), x.2.1]) (Below w0.heap.size) (VolOk n f) (fun xs => ∃ k, Vols n f k ∧ xs.map (fun x => (x.1, x.2.2)) = (List.range k).map fun i => (i, vol n f i)) 8 w :=
  fun l J W hW _ hY h0 => volumes1_in n0 hn l Bs v n f J W w0.heap.size hY ((hW.cell (p := ⟨Bs, 0, none⟩) hBs).trans hc) (fun _ hX => hv.below (hb.trans ((hW.mono hb.size).trans hX))) h0
end Go.Proofs.YtdocclkphffpkaaGreat
