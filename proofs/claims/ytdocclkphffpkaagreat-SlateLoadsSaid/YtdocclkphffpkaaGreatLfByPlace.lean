/- byPlace, of any state whose places are places or none: which keys its map has. -/
import Derived.Test.YtdocclkphffpkaaGreatPlGroup
import Derived.Test.YtdocclkphffpkaaGreatMerge9
import Derived.Lib.AppendZeros
namespace Go.Proofs.YtdocclkphffpkaaGreat
open Go.RowKit

theorem wpList_mapEntry_run {P : Program} {w : World} {ops : Array Oper} {rest : List Oper} {o : Oper} {a : Act} {Q : Exit → Act → World → Prop} (hgd : o.guard = none) (m x : Operand) (t : TypeId)
    (ho : o.op = .mapEntry t m x) (vm vx : Value) (hm : a.eval m = vm) (hx : a.eval x = vx) (v' : Value) (w' : World) (hr : (Instr.mapEntry t vm vx).run P w = .ok v' w') (h : wpList P ops Q rest (a.put o.dst v') w') : wpList P ops Q (o :: rest) a w :=
  wpList_plain hgd fun _ hK => by
    unfold Oper.wp
    simp only [execOp, ho, hm, hx, hr, Sem.run_bind, Sem.run_pure, Result.andThen_ok]
    exact hK _ _ h
theorem wpList_entryStore_run {P : Program} {w : World} {ops : Array Oper} {rest : List Oper} {o : Oper} {a : Act} {Q : Exit → Act → World → Prop} (hgd : o.guard = none) (m s x : Operand) (t : TypeId)
    (ho : o.op = .entryStore t m s x) (vm vs vx : Value) (hm : a.eval m = vm) (hs : a.eval s = vs) (hx : a.eval x = vx) (w' : World) (hr : (Instr.entryStore t vm vs vx).run P w = .ok () w') (h : wpList P ops Q rest (a.put o.dst undef) w') : wpList P ops Q (o :: rest) a w :=
  wpList_plain hgd fun _ hK => by
    unfold Oper.wp
    simp only [execOp, ho, hm, hs, hx, hr, Sem.run_bind, Sem.run_pure, Result.andThen_ok]
    exact hK _ _ h

/-- A place that some block has, of those of the first i volumes and the first j blocks of the next. -/
def HasP (M : Nat → Nat) (Z : Nat → Nat → Pl) (i j : Nat) (p : Spot) : Prop := (∃ i' j', i' < i ∧ j' < M i' ∧ Z i' j' = some p) ∨ ∃ j', j' < j ∧ Z i j' = some p
/-- The keys of the map in block b are these. -/
def PlaceMap (W : World) (b : Nat) (N : Nat) (H : Spot → Prop) : Prop := ∃ E es, MapZ W b (b + 1) N E es ∧ ∀ p, p ∈ E ↔ H p
theorem PlaceMap.later {X Y : World} {b N : Nat} {H : Spot → Prop} (h : PlaceMap X b N H) (hb : Below X.heap.size X Y) : PlaceMap Y b N H := by
  obtain ⟨E, es, h1, h2⟩ := h
  exact ⟨E, es, h1.later hb, h2⟩
theorem hasP_next {M : Nat → Nat} {Z : Nat → Nat → Pl} {i : Nat} {p : Spot} : HasP M Z i (M i) p ↔ HasP M Z (i + 1) 0 p := by
  constructor
  · rintro (⟨i', j', h1, h2, h3⟩ | ⟨j', h1, h2⟩)
    · exact .inl ⟨i', j', by omega, h2, h3⟩
    · exact .inl ⟨i, j', by omega, h1, h2⟩
  · rintro (⟨i', j', h1, h2, h3⟩ | ⟨j', h1, _⟩)
    · by_cases h : i' = i
      · subst h; exact .inr ⟨j', h2, h3⟩
      · exact .inl ⟨i', j', by omega, h2, h3⟩
    · omega
theorem hasP_none {M : Nat → Nat} {Z : Nat → Nat → Pl} {i j : Nat} {p : Spot} (h : Z i j = none) : HasP M Z i (j + 1) p ↔ HasP M Z i j p := by
  constructor
  · rintro (h1 | ⟨j', h1, h2⟩)
    · exact .inl h1
    · by_cases e : j' = j
      · subst e; rw [h] at h2; cases h2
      · exact .inr ⟨j', by omega, h2⟩
  · rintro (h1 | ⟨j', h1, h2⟩)
    · exact .inl h1
    · exact .inr ⟨j', by omega, h2⟩
theorem hasP_some {M : Nat → Nat} {Z : Nat → Nat → Pl} {i j : Nat} {p q : Spot} (h : Z i j = some q) : HasP M Z i (j + 1) p ↔ HasP M Z i j p ∨ p = q := by
  constructor
  · rintro (h1 | ⟨j', h1, h2⟩)
    · exact .inl (.inl h1)
    · by_cases e : j' = j
      · subst e; rw [h] at h2; exact .inr (Option.some.inj h2).symm
      · exact .inl (.inr ⟨j', by omega, h2⟩)
  · rintro ((h1 | ⟨j', h1, h2⟩) | rfl)
    · exact .inl h1
    · exact .inr ⟨j', by omega, h2⟩
    · exact .inr ⟨j, by omega, h⟩
theorem PlaceMap.congr {W : World} {b N N' : Nat} {H H' : Spot → Prop} (h : PlaceMap W b N H) (hn : N ≤ N') (he : ∀ p, H p ↔ H' p) : PlaceMap W b N' H' := by
  obtain ⟨E, es, h1, h2⟩ := h
  exact ⟨E, es, ⟨h1.obj, h1.keys, fun j e x => (h1.own j e x).more hn, h1.apt, h1.nodup⟩, fun p => (h2 p).trans (he p)⟩

set_option maxRecDepth 100000 in
set_option maxHeartbeats 1000000 in
theorem byPlace_any (K S M : Nat → Nat) (V : Nat → Value) (Z : Nat → Nat → Pl) (w : World) (hr : ∀ i, i < 8 → ReadsZ w (V i) (M i) (Z i)) (hg : ∀ i j, Good (Z i j)) (hM : ∀ i, i < 8 → M i ≤ 1000) :
    Calls Tryz.prog 90 #[.agg (scells K S V).toArray] w fun e w' => e = .returned (.map (some (w.heap.size + 1))) ∧ PlaceMap w' (w.heap.size + 1) 10000 (HasP M Z 8 0) ∧ Below w.heap.size w w' := by
  have hmm := @run_makeMap Tryz.prog
  have ZB := Lib.hid ((st_new w K S V).below ((Below.refl _ _).alloc (Nat.le_refl _) (.map #[] 0)))
  have B0 : Hid (Below w.heap.size w ((w.alloc (.cells (scells K S V).toArray 32)).alloc (.map #[] 0))) := Lib.hid (((Below.refl _ w).alloc (Nat.le_refl _) _).alloc (by simp) _)
  have M0 : Hid (PlaceMap ((w.alloc (.cells (scells K S V).toArray 32)).alloc (.map #[] 0)) (w.heap.size + 1) 0 (HasP M Z 0 0)) := Lib.hid (by
    have := heap_alloc_new (w.alloc (.cells (scells K S V).toArray 32)) (.map #[] 0)
    rw [World.size_alloc] at this
    exact ⟨[], #[], ⟨this, KeysAre.nil, fun j e he => (by cases he), fun i j e e' _ he => (by cases he), List.nodup_nil⟩, fun p => ⟨fun h => (by cases h), fun h => by
      rcases h with ⟨_, _, h, _⟩ | ⟨_, h, _⟩ <;> omega⟩⟩)
  have HR := Lib.hid hr
  have HG := Lib.hid hg
  have HM := Lib.hid hM
  clear hr hg hM
  go_enter Tryz.func90, Tryz.ntmps90
  go_wp2_with (refine wpList_load_mid rfl 30 (.tmp 9) rfl w.heap.size 16 rfl (vcells V) _ (StIs.places ZB.out) Tryz.underlying30 rfl (rows_len _) ?_)
  go_loopw [11] (fun v wr => ∃ i : Nat, i ≤ 8 ∧ v = .int .i64 (i : Int) ∧ PlaceMap wr (w.heap.size + 1) (1000 * i) (HasP M Z i 0) ∧ Below w.heap.size w wr ∧ w.heap.size + 2 ≤ wr.heap.size) (fun v _ => 8 - (intOf v).toNat)
  case atStart => exact ⟨0, by omega, rfl, M0.out, B0.out, by simp⟩
  case round =>
    clear ZB B0 M0
    obtain ⟨i, hi, rfl, hm, hb, hsz⟩ := hrel
    have HMP := Lib.hid hm
    have HB := Lib.hid hb
    have HSZ := Lib.hid hsz
    clear hm hb hsz
    by_cases h8 : i < 8
    · have hx := fun w => run_row w V h8
      obtain ⟨A, c, ev, q1, q2, q3, q4⟩ := HR.out i h8
      obtain ⟨n, en⟩ : ∃ n, n = M i := ⟨_, rfl⟩
      rw [← en] at ev q1
      rw [ev] at hx
      have HRI : Hid (ReadsZ w (.slice A n c) n (Z i)) := Lib.hid (by rw [← ev, en]; exact HR.out i h8)
      have EN := Lib.hid en
      clear ev q4 en
      have d8 : decide ((i : Int) < 8) = true := by simp; omega
      go_wp2
      clear hx d8
      go_loopw [17] (fun v wq => ∃ j : Nat, j ≤ n ∧ v = .int .i64 (j : Int) ∧ PlaceMap wq (w.heap.size + 1) (1000 * i + j) (HasP M Z i j) ∧ Below w.heap.size w wq ∧ w.heap.size + 2 ≤ wq.heap.size) (fun v _ => n - (intOf v).toNat)
      case atStart => exact ⟨0, by omega, rfl, HMP.out, HB.out, HSZ.out⟩
      case round =>
        clear HMP HB HSZ
        obtain ⟨j, hj, rfl, hm, hb, hsz⟩ := hrel
        have HMP := Lib.hid hm
        have HB := Lib.hid hb
        have HSZ := Lib.hid hsz
        clear hm hb hsz
        by_cases hlt : j < n
        · obtain ⟨ad, rfl⟩ := HRI.out.addr (by omega)
          have hc := (HRI.out.below HB.out).at_ hlt
          cases hz : Z i j with
          | none =>
            have HZ := Lib.hid hz
            rw [hz] at hc
            have hc2 : wr.cell? (ad.add j) = some (Value.complex .f64 13830554455654793216 0) := hc
            clear hc
            have h1 := order_none
            have h2 := order_zero
            clear hz
            go_wp2
            go_roundw
            case rel => exact ⟨j + 1, by omega, by go_num, HMP.out.congr (by omega) fun p => (hasP_none HZ.out).symm, HB.out, HSZ.out⟩
            case measure => simp [intOf]; omega
          | some p =>
            have HZ := Lib.hid hz
            have hok : SpotOk p := HG.out i j p hz
            rw [hz] at hc
            have hc2 : wr.cell? (ad.add j) = some (Value.complex .f64 (fl p.1) (fl p.2)) := hc
            clear hc
            have h1 := order_some_none p.1 (by have := hok.1; omega)
            obtain ⟨E, es, m1, m2⟩ := HMP.out
            obtain ⟨v, st, W2, v', W3, W4, r1, r2, r3, ⟨es', r4⟩, r5, r6⟩ := group_step m1 hok (by omega) HSZ.out (by have := HM.out i h8; have := EN.out; omega) (i : Int) (j : Int)
            have R1 := Lib.hid r1
            have R2 := Lib.hid r2
            have R3 := Lib.hid r3
            have FIN : Hid (PlaceMap W4 (w.heap.size + 1) (1000 * i + (j + 1)) (HasP M Z i (j + 1)) ∧ Below w.heap.size w W4 ∧ w.heap.size + 2 ≤ W4.heap.size) := Lib.hid (by
              refine ⟨⟨_, es', r4, fun q => ?_⟩, HB.out.trans (r5.mono (by omega)), Nat.le_trans HSZ.out r5.size⟩
              rw [hasP_some HZ.out, ← m2 q]
              split
              · rename_i hin
                exact ⟨fun h => .inl h, fun h => by rcases h with h | rfl; exact h; exact hin⟩
              · rw [List.mem_append, List.mem_singleton])
            clear hz r1 r2 r3 r4 r5 r6 m1 m2 HMP
            go_wp2_with (first
              | (refine wpList_mapEntry_run rfl (.tmp 24) (.tmp 25) MT rfl _ _ rfl rfl _ W2 R1.out ?_)
              | (refine Lib.wpList_append_run _ rfl (.tmp 26) (.tmp 30) _ _ rfl _ _ rfl rfl v' W3 R2.out ?_)
              | (refine wpList_entryStore_run rfl (.tmp 24) (.tmp 33) (.tmp 32) MT rfl _ _ _ rfl rfl rfl W4 R3.out ?_))
            go_roundw
            case rel => exact ⟨j + 1, by omega, by go_num, FIN.out⟩
            case measure => simp [intOf]; omega
        · obtain rfl : j = n := by omega
          go_wp2
          go_roundw
          case rel => exact ⟨i + 1, by omega, by go_num, HMP.out.congr (by have := HM.out i h8; have := EN.out; omega) fun p => by rw [EN.out]; exact hasP_next, HB.out, HSZ.out⟩
          case measure => simp [intOf]; omega
    · obtain rfl : i = 8 := by omega
      go_wp2
      go_ret
      exact ⟨rfl, HMP.out.congr (by omega) fun _ => Iff.rfl, HB.out⟩
end Go.Proofs.YtdocclkphffpkaaGreat
