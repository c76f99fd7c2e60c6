/- Pages read from a device, in a row of the call's own; a state and a geometry in two blocks. Sectors behind one another, as the package reads them. Pages written into sectors behind one another and made durable, while the power is on for good. Save of a state that fits, while the power is on for good. What the package reads of one area. -/
import Derived.Test.YtdocclkphffpkaaGreatMerge18
import Derived.Test.YtdocclkphffpkaaGreatMerge10
import Derived.Test.YtdocclkphffpkaaGreatMerge14
import Derived.Test.YtdocclkphffpkaaGreatMerge15
import Derived.Test.YtdocclkphffpkaaGreatMerge13
import Derived.Test.YtdocclkphffpkaaGreatMerge17
namespace Go.Proofs.YtdocclkphffpkaaGreat
open Go.RowKit

/-- A page that was read from a device. -/
def PageB (w : World) (base : Nat) (u : Value) (f : Nat → Nat) : Prop := ∃ k, u = .slice (some ⟨k, 0, none⟩) 64 64 ∧ RowIs w k 73 (fun i => .int .u8 (f i : Int)) 64 ∧ base ≤ k
theorem PageB.below_ {w w' : World} {base : Nat} {u : Value} {f : Nat → Nat} (h : PageB w base u f) (hb : Below w.heap.size w w') : PageB w' base u f := by
  obtain ⟨k, e, h1, h2⟩ := h
  exact ⟨k, e, h1.below hb, h2⟩
theorem PageB.base {w : World} {base base' : Nat} {u : Value} {f : Nat → Nat} (h : PageB w base u f) (hb : base' ≤ base) : PageB w base' u f := by
  obtain ⟨k, e, h1, h2⟩ := h
  exact ⟨k, e, h1, by omega⟩
theorem PageB.reads {w : World} {base : Nat} {u : Value} {f : Nat → Nat} (h : PageB w base u f) (hf : ∀ j, j < 64 → f j < 256) : Reads w u 64 f := by
  obtain ⟨k, rfl, h1, _⟩ := h
  exact ⟨_, 64, rfl, Nat.le_refl _, by omega, (by intro e; cases e), got_bytes h1 hf⟩
theorem PageB.one {w : World} {base : Nat} {u : Value} {f : Nat → Nat} (h : PageB w base u f) : u.oneCell' = true := by
  obtain ⟨k, rfl, _⟩ := h
  rfl

/-- A row of pages that were read from a device. -/
def SecP (w : World) (base : Nat) (v : Value) (N : Nat) (F : Nat → Nat → Nat) : Prop :=
  ∃ us : List Value, w.ownsRow base 44 1 v N us ∧ ∀ i, i < N → ∃ u, us[i]? = some u ∧ PageB w base u (F i)
theorem SecP.nil (w : World) (base : Nat) (F : Nat → Nat → Nat) : SecP w base (.slice none 0 0) 0 F := ⟨[], World.ownsRow_nil _ _ _ _, fun i hi => absurd hi (Nat.not_lt_zero i)⟩
theorem SecP.below_ {w w' : World} {base : Nat} {v : Value} {N : Nat} {F : Nat → Nat → Nat} (h : SecP w base v N F) (hb : Below w.heap.size w w') : SecP w' base v N F := by
  obtain ⟨us, h1, h2⟩ := h
  exact ⟨us, owns_later h1 hb, fun i hi => by obtain ⟨u, e, hp⟩ := h2 i hi; exact ⟨u, e, hp.below_ hb⟩⟩
theorem SecP.reads {w : World} {base : Nat} {v : Value} {N : Nat} {F : Nat → Nat → Nat} (h : SecP w base v N F) (hF : ∀ i, i < N → ∀ j, j < 64 → F i j < 256) : ReadsP w v N (fun _ => 64) F := by
  obtain ⟨us, h1, h2⟩ := h
  have h0 := h1
  rcases h1.2 with ⟨rfl, rfl⟩ | ⟨g, cap, cur, rfl, _, hg, hnc, hm, _⟩
  · exact ⟨none, 0, rfl, Nat.le_refl _, by omega, fun _ => rfl, fun i hi => absurd hi (Nat.not_lt_zero i)⟩
  · refine ⟨_, cap, rfl, hnc, by unfold maxLen at hm; omega, (by intro e; cases e), fun i hi => ?_⟩
    obtain ⟨u, e, hr⟩ := h2 i hi
    exact ⟨_, u, rfl, World.ownsRow.cells h0 (g := g) rfl i _ e, hr.reads (hF i hi)⟩
theorem SecP.shape {w : World} {base : Nat} {v : Value} {N : Nat} {F : Nat → Nat → Nat} (h : SecP w base v N F) : ∃ B c, v = .slice B N c := by
  obtain ⟨us, h1, _⟩ := h
  rcases h1.2 with ⟨rfl, rfl⟩ | ⟨g, cap, cur, rfl, _⟩ <;> exact ⟨_, _, rfl⟩
theorem SecP.own {w : World} {base : Nat} {v : Value} {N : Nat} {F : Nat → Nat → Nat} (h : SecP w base v N F) {k : Nat} (hk : v.ownBlock = some k) : base ≤ k ∧ k < w.heap.size := by
  obtain ⟨us, h1, _⟩ := h
  exact h1.lt k hk
/-- A row of one page. -/
theorem sec_new {w : World} {base : Nat} {u : Value} {F : Nat → Nat → Nat} (hu : PageB w base u (F 0)) (hb : base ≤ w.heap.size) : SecP (w.alloc (.cells #[u] 44)) base (.slice (some ⟨w.heap.size, 0, none⟩) 1 1) 1 F :=
  ⟨[u], ⟨rfl, .inr ⟨w.heap.size, 1, #[u], rfl, hb, heap_alloc_new w _, Nat.le_refl _, by unfold maxLen; omega, rfl, rfl⟩⟩, fun i hi => by
    obtain rfl : i = 0 := by omega
    exact ⟨u, rfl, hu.below_ ((Below.refl _ _).alloc (Nat.le_refl _) _)⟩⟩

theorem sec_kept {w w' : World} {base : Nat} {v : Value} {N : Nat} {us : List Value} (h : w.ownsRow base 44 1 v N us) (hg : w.grownBy w' v.ownBlock) {g : Nat} {cs : Array Value} {fr : Nat × Nat} (hc : w.heap[g]? = some (.cells cs 73 fr)) : w'.heap[g]? = w.heap[g]? := by
  refine hg.block g (Array.getElem?_eq_some_iff.1 hc).1 fun e => ?_
  rcases h.2 with ⟨rfl, _⟩ | ⟨k, cap, cur, rfl, _, hk, _⟩
  · cases e
  · have : g = k := by simpa [Value.ownBlock] using e
    subst this
    rw [hc] at hk
    cases hk
theorem PageB.kept {w w' : World} {base : Nat} {u : Value} {f : Nat → Nat} (h : PageB w base u f) (hk : ∀ (g : Nat) (cs : Array Value) (fr : Nat × Nat), w.heap[g]? = some (.cells cs 73 fr) → w'.heap[g]? = w.heap[g]?) : PageB w' base u f := by
  obtain ⟨k, e, h1, h2⟩ := h
  exact ⟨k, e, (hk k _ _ h1).trans h1, h2⟩

/-- One page more. -/
theorem run_sec {w : World} {base N : Nat} {v u : Value} {F : Nat → Nat → Nat} (ty : TypeId) (h : SecP w base v N F) (hu : PageB w base u (F N)) (hm : (N + 1) * 24 ≤ 140737488355328) (hb : base ≤ w.heap.size) :
    ∃ v' w', (Builtin.append_ #[22, 22] ty #[v, .slice (some ⟨w.heap.size, 0, none⟩) 1 1]).run Tryz.prog (w.alloc (.cells #[u] 44)) = .ok v' w' ∧ SecP w' base v' (N + 1) F ∧
      (w.alloc (.cells #[u] 44)).grownBy w' v.ownBlock := by
  obtain ⟨i0, hi, hz0, hz1, hz2⟩ := info_parts page_info
  obtain ⟨us, h1, h2⟩ := h
  have h3 := World.ownsRow.alloc h1 (.cells #[u] 44)
  obtain ⟨v', w', r1, r2, r3, r4⟩ := run_append_own (P := Tryz.prog) (w.alloc (.cells #[u] 44)) base 22 ty 44 i0 _ 1 24 Tryz.underlying22 hi hz0 hz1 hz2 rfl (by decide) v N _ h3 ⟨w.heap.size, 0, none⟩ 1 1 [u] rfl
    (fun j x hj => by
      obtain ⟨hl, he⟩ := List.getElem?_eq_some_iff.1 hj
      have : j = 0 := by simpa using hl
      subst this
      rw [add_nil, World.cell?_alloc_mark]
      simpa using he) (fun x hx => by simp at hx; subst hx; exact hu.one) (by unfold maxLen; omega) (by omega) (by simp; omega)
  have hN : us.length = N := by have := h1.1; omega
  refine ⟨v', w', r1, ⟨us ++ [u], r2, fun i hi' => ?_⟩, r3⟩
  have hk : ∀ (g : Nat) (cs : Array Value) (fr : Nat × Nat), (w.alloc (.cells #[u] 44)).heap[g]? = some (.cells cs 73 fr) → w'.heap[g]? = (w.alloc (.cells #[u] 44)).heap[g]? := fun g cs fr hg => sec_kept h3 r3 hg
  by_cases hlt : i < N
  · obtain ⟨x, e, hr⟩ := h2 i hlt
    exact ⟨x, by rw [List.getElem?_append_left (by omega)]; exact e, (hr.below_ ((Below.refl _ _).alloc (Nat.le_refl _) _)).kept hk⟩
  · obtain rfl : i = N := by omega
    exact ⟨u, by rw [List.getElem?_append_right (by omega)]; simp [hN], (hu.below_ ((Below.refl _ _).alloc (Nat.le_refl _) _)).kept hk⟩
theorem sec_grown {w w' w0 : World} {base N : Nat} {v u : Value} {F : Nat → Nat → Nat} (h : SecP w base v N F) (hb : Below w0.heap.size w0 w) (hB : w0.heap.size ≤ base) (hg : (w.alloc (.cells #[u] 44)).grownBy w' v.ownBlock) : Below w0.heap.size w0 w' :=
  (hb.alloc hb.size _).trans ⟨hg.os, hg.tape, hg.output, hg.size, fun k hk => hg.block k (by have := hb.size; simp; omega) fun e => by
    have := (h.own e.symm).1
    omega⟩

/-- A state and a geometry lie in blocks p and q. -/
structure Cells2 (w : World) (p q : Nat) (K S : Nat → Nat) (V : Nat → Value) (s b : Int) : Prop where
  st : StIs w p K S V
  pl : RowIs w q 34 (fun i => if i = 0 then .int .i64 s else .int .i64 b) 2
theorem Cells2.below {w w' : World} {p q : Nat} {K S : Nat → Nat} {V : Nat → Value} {s b : Int} (h : Cells2 w p q K S V s b) (hb : Below w.heap.size w w') : Cells2 w' p q K S V s b := ⟨h.st.below hb, RowIs.below h.pl hb⟩
theorem Cells2.ne {w : World} {p q : Nat} {K S : Nat → Nat} {V : Nat → Value} {s b : Int} (h : Cells2 w p q K S V s b) : p ≠ q := fun e => by
  subst e
  have h1 := h.st
  have h2 := h.pl
  unfold StIs at h1
  unfold RowIs at h1 h2
  rw [h1] at h2
  cases h2
theorem Cells2.lt {w : World} {p q : Nat} {K S : Nat → Nat} {V : Nat → Value} {s b : Int} (h : Cells2 w p q K S V s b) : p < w.heap.size ∧ q < w.heap.size := ⟨RowIs.lt h.st, RowIs.lt h.pl⟩
theorem Cells2.s_ {w : World} {p q : Nat} {K S : Nat → Nat} {V : Nat → Value} {s b : Int} (h : Cells2 w p q K S V s b) : w.cell? ⟨q, 0, none⟩ = some (.int .i64 s) := RowIs.cell h.pl (i := 0) (by omega)
theorem Cells2.b_ {w : World} {p q : Nat} {K S : Nat → Nat} {V : Nat → Value} {s b : Int} (h : Cells2 w p q K S V s b) : w.cell? ⟨q, 1, none⟩ = some (.int .i64 b) := RowIs.cell h.pl (i := 1) (by omega)
theorem Cells2.apart {w w' : World} {p q : Nat} {K S : Nat → Nat} {V : Nat → Value} {s b : Int} {F : Nat → Prop} (h : Cells2 w p q K S V s b) (a : Apart F w w') (hp : ¬ F p) (hq : ¬ F q) : Cells2 w' p q K S V s b := ⟨RowIs.apart h.st a hp, RowIs.apart h.pl a hq⟩

/-- Both are given anew. -/
structure Turned (w w4 w' : World) (p q : Nat) (K S : Nat → Nat) (V : Nat → Value) (s b s0 b0 : Int) : Prop where
  e4 : w4 = w.setCells p 0 (scells K S V)
  e : w' = (w4.setCell ⟨q, 0, none⟩ (.int .i64 s)).setCell ⟨q, 1, none⟩ (.int .i64 b)
  there : w.there p 0 (scells K S V).toArray.size
  c : Cells2 w' p q K S V s b
  p0 : w4.cell? ⟨q, 0, none⟩ = some (.int .i64 s0)
  p1 : w4.cell? ⟨q, 1, none⟩ = some (.int .i64 b0)
  f0 : w4.frozen? ⟨q, 0, none⟩ = false
  f1 : w4.frozen? ⟨q, 1, none⟩ = false
  p2 : (w4.setCell ⟨q, 0, none⟩ (.int .i64 s)).cell? ⟨q, 1, none⟩ = some (.int .i64 b0)
  f2 : (w4.setCell ⟨q, 0, none⟩ (.int .i64 s)).frozen? ⟨q, 1, none⟩ = false
  apart : Apart (fun k => k = p ∨ k = q) w w'

theorem Cells2.turn {w : World} {p q : Nat} {K0 S0 : Nat → Nat} {V0 : Nat → Value} {s0 b0 : Int} (h : Cells2 w p q K0 S0 V0 s0 b0) (K S : Nat → Nat) (V : Nat → Value) (s b : Int) : ∃ w4 w', Turned w w4 w' p q K S V s b s0 b0 := by
  have hne := h.ne
  obtain ⟨w4, hw4, st4, a4⟩ := store_state (K' := K) (S' := S) (V' := V) h.st
  have P4 : RowIs w4 q 34 (fun i => if i = 0 then .int .i64 s0 else .int .i64 b0) 2 := RowIs.apart h.pl a4 (Ne.symm hne)
  have P5 : RowIs (w4.setCell ⟨q, 0, none⟩ (.int .i64 s)) q 34 (fun i => if i = 0 then .int .i64 s else .int .i64 b0) 2 := P4.set_ (fun _ => by simp) (fun i _ hi => by simp [hi])
  have P6 : RowIs ((w4.setCell ⟨q, 0, none⟩ (.int .i64 s)).setCell ⟨q, 1, none⟩ (.int .i64 b)) q 34 (fun i => if i = 0 then .int .i64 s else .int .i64 b) 2 := P5.set_ (fun _ => by simp) (fun i hi hk => by rw [if_pos (show i = 0 by omega), if_pos (show i = 0 by omega)])
  have a6 : Apart (fun k => k = q) w4 ((w4.setCell ⟨q, 0, none⟩ (.int .i64 s)).setCell ⟨q, 1, none⟩ (.int .i64 b)) :=
    ((Apart.refl (fun k => k = q) w4).setCell (p := ⟨q, 0, none⟩) (fun _ => rfl) _).setCell (p := ⟨q, 1, none⟩) (fun _ => rfl) _
  exact ⟨w4, _, hw4, rfl, StIs.there_ h.st, ⟨RowIs.apart st4 a6 hne, P6⟩, RowIs.cell P4 (i := 0) (by omega), RowIs.cell P4 (i := 1) (by omega), RowIs.free P4 0, RowIs.free P4 1, RowIs.cell P5 (i := 1) (by omega), RowIs.free P5 1,
    (a4.mono fun i _ e => .inl e).trans a6 fun i _ e => .inr e⟩
theorem Cells2.still {w : World} {p q : Nat} {K S : Nat → Nat} {V : Nat → Value} {s b : Int} (h : Cells2 w p q K S V s b) : w.setCells p 0 (scells K S V) = w ∧ w.setCell ⟨q, 0, none⟩ (.int .i64 s) = w ∧ w.setCell ⟨q, 1, none⟩ (.int .i64 b) = w :=
  ⟨StIs.still h.st, RowIs.still h.pl (by omega) (by rfl), RowIs.still h.pl (by omega) (by rfl)⟩

/-- What a row of places of the call's own reads is the same, whatever earlier blocks turn. -/
theorem OwnZ.apart {w w' : World} {base n : Nat} {v : Value} {Z : Nat → Pl} {F : Nat → Prop} (h : OwnZ w base v n Z) (a : Apart F w w') (hF : ∀ k, F k → k < base) : OwnZ w' base v n Z :=
  ownZ_cells h fun g cs fr hg hc => a.block g (Array.getElem?_eq_some_iff.1 hc).1 fun e => by
    have h1 := (h.lt hg).1
    have h2 := hF g e
    omega
/-- A state and a geometry, new, without anything. -/
theorem cells2_new (w : World) : Cells2 ((w.alloc (.cells (scells z0 z0 zV).toArray 32)).alloc (.cells #[.int .i64 0, .int .i64 0] 34)) w.heap.size (w.heap.size + 1) z0 z0 zV 0 0 := by
  refine ⟨(st_new w z0 z0 zV).below ((Below.refl _ _).alloc (Nat.le_refl _) _), ?_⟩
  have h := row_new (w.alloc (.cells (scells z0 z0 zV).toArray 32)) 34 (fun i => if i = 0 then .int .i64 0 else .int .i64 0) 2 [.int .i64 0, .int .i64 0] rfl (fun i hi => by rcases (by omega : i = 0 ∨ i = 1) with rfl | rfl <;> rfl)
  rw [World.size_alloc] at h
  exact h
theorem Two.cells {W w3 w4 w5 : World} {K S : Nat → Nat} {V : Nat → Value} {s b : Int} (h : Two W w3 w4 w5 K S V s b) : Cells2 w5 W.heap.size (W.heap.size + 1) K S V s b := by
  obtain ⟨y4, y5, t⟩ := (cells2_new W).turn K S V s b
  have e4 : w4 = y4 := by rw [h.e4, t.e4, h.e3]
  have e5 : w5 = y5 := by rw [h.e5, t.e, e4]
  rw [e5]
  exact t.c
theorem Cells2.load_s {w : World} {p q : Nat} {K S : Nat → Nat} {V : Nat → Value} {s b : Int} (h : Cells2 w p q K S V s b) : (loadVar 32 ⟨p, 0, none⟩).run Tryz.prog w = .ok (.agg (scells K S V).toArray) w := run_loadVar_mid _ _ _ _ (scells K S V) _ (StIs.whole h.st) Tryz.underlying32 rfl (state_len _ _ _)
theorem Cells2.load_p {w : World} {p q : Nat} {K S : Nat → Nat} {V : Nat → Value} {s b : Int} (h : Cells2 w p q K S V s b) : (loadVar 34 ⟨q, 0, none⟩).run Tryz.prog w = .ok (.agg #[.int .i64 s, .int .i64 b]) w := run_loadVar_mid _ _ _ _ [.int .i64 s, .int .i64 b] _ (RowIs.range h.pl (by simp) (fun j hj => by
    have : j = 0 ∨ j = 1 := by simp at hj; omega
    rcases this with rfl | rfl <;> rfl)) Tryz.underlying34 rfl plat_size
end Go.Proofs.YtdocclkphffpkaaGreat

namespace Go.Proofs.YtdocclkphffpkaaGreat
open Go.RowKit

theorem first_sector (k : Nat) (w : World) (hk : k ≤ 2) :
    Calls Tryz.prog 29 #[.int .i64 (k : Int)] w fun e w' => e = .returned (.int .i64 ((12 * k : Nat) : Int)) ∧ w = w' := by
  obtain ⟨z, hz⟩ : ∃ z : Nat, z = 12 * k := ⟨_, rfl⟩
  have e : (k : Int) * 12 = (z : Int) := by omega
  rw [← hz]
  clear hz
  go_enter Tryz.func29, Tryz.ntmps29
  go_wp2
  go_ret
  exact ⟨by first | rfl | go_num | (congr 2; omega), rfl⟩

/-- The device has it, and how that is spelled. -/
theorem hasB_no {D : Dev} {z : Int} (h : (D.size : Int) ≤ z) : hasB D z = false := by
  unfold hasB
  simp
  omega

set_option maxRecDepth 20000 in
theorem secs_any {w : World} {base g h : Nat} {L : Value} {D : Dev} (d : IsDev w base g h L D) (ho : D.off = false) (t n : Nat) (ht : t ≤ 1000) (hn1 : 1 ≤ n) (hn : n ≤ 1000) :
    Calls Tryz.prog 34 #[.pointer (some ⟨g, 0, none⟩), .int .i64 (t : Int), .int .i64 (n : Int)] w fun e w' =>
      ((t + n ≤ D.size ∧ ∃ v, e = .returned (.tuple #[v, .int .i64 0]) ∧ SecP w' w.heap.size v n (fun i => D.view (t + i))) ∨
        (D.size < t + n ∧ e = .returned (.tuple #[.slice none 0 0, .int .i64 5]))) ∧ Below w.heap.size w w' := by
  have HD := Lib.hid d
  have HO := Lib.hid ho
  obtain ⟨z, hz⟩ : ∃ z, z = D.size := ⟨_, rfl⟩
  have HZ := Lib.hid hz
  rw [← hz]
  clear d ho hz
  go_enter Tryz.func34, Tryz.ntmps34
  go_wp2
  go_loopw [6, 12] (fun v x wr => ∃ i : Nat, i ≤ n ∧ x = .int .i64 (i : Int) ∧ SecP wr w.heap.size v i (fun i => D.view (t + i)) ∧ (i = 0 ∨ t + i ≤ z) ∧ Below w.heap.size w wr) (fun _ x _ => n - (intOf x).toNat)
  case atStart => exact ⟨0, Nat.zero_le _, rfl, SecP.nil _ _ _, .inl rfl, Below.refl _ _⟩
  case round =>
    obtain ⟨i, hi, rfl, hs, hle, hb⟩ := hrel
    have HS := Lib.hid hs
    have HB := Lib.hid hb
    have HL := Lib.hid hle
    clear hs hb hle
    by_cases hin : i < n
    · by_cases hti : t + i < z
      · have G : Hid (Calls Tryz.prog 14 #[.pointer (some ⟨g, 0, none⟩), .int .i64 ((t : Int) + (i : Int))] wr (Got (D.view (t + i)) wr)) :=
          Lib.hid (by have h := dev_get_ok (HD.out.below HB.out) (t := t + i) HO.out (by rw [← HZ.out]; exact hti); rw [Int.natCast_add] at h; exact h)
        go_wp2_with fail
        with_reducible refine G.out.mono ?_
        rintro e w2 ⟨k, rfl, hk, hkw, hb2⟩
        have B2 : Hid (Below w.heap.size w w2) := Lib.hid (HB.out.trans (hb2.mono HB.out.size))
        have hp : PageB w2 w.heap.size (.slice (some ⟨k, 0, none⟩) 64 64) (D.view (t + i)) := ⟨k, rfl, hk, Nat.le_trans HB.out.size hkw⟩
        obtain ⟨v3, w3, r3, s3, g3⟩ := run_sec 22 (HS.out.below_ hb2) hp (by omega) B2.out.size
        have R3 := Lib.hid r3
        have S3 := Lib.hid s3
        have B3 : Hid (Below w.heap.size w w3) := Lib.hid (sec_grown (HS.out.below_ hb2) B2.out (Nat.le_refl _) g3)
        have LT := Lib.hid hti
        clear hk hkw hb2 hp r3 s3 g3 hti G
        go_wp2_with (at_builtin; refine Lib.wpList_append_run _ rfl (.tmp 26) (.tmp 28) _ _ rfl _ _ rfl rfl _ _ R3.out ?_)
        go_roundw
        case rel => exact ⟨i + 1, by omega, by go_num, S3.out, .inr (by have := LT.out; omega), B3.out⟩
        case measure => simp [intOf]; omega
      · have G : Hid (Calls Tryz.prog 14 #[.pointer (some ⟨g, 0, none⟩), .int .i64 ((t : Int) + (i : Int))] wr fun e w' => e = .returned (.tuple #[.slice none 0 0, .int .i64 5]) ∧ wr = w') :=
          Lib.hid (dev_get_range (HD.out.below HB.out) _ HO.out (hasB_no (by rw [← HZ.out]; omega)))
        have LT : Hid (z < t + n) := Lib.hid (by omega)
        clear hti
        go_wp2_with fail
        with_reducible refine G.out.mono ?_
        rintro e w2 ⟨rfl, rfl⟩
        go_wp2
        go_ret2
        exact ⟨.inr ⟨LT.out, rfl⟩, HB.out⟩
    · obtain rfl : i = n := by omega
      go_wp2
      go_ret2
      exact ⟨.inl ⟨by have := HL.out; omega, _, rfl, HS.out⟩, HB.out⟩
end Go.Proofs.YtdocclkphffpkaaGreat

namespace Go.Proofs.YtdocclkphffpkaaGreat
open Go.RowKit

/-- A device whose power does not go. -/
structure Dev.Free (D : Dev) : Prop where
  on : D.off = false
  un : D.limited = false

/-- Put of one write whose bytes lie anywhere, but in no block of the device's. -/
theorem put_slice {w : World} {base g h q t : Nat} {L u : Value} {D : Dev} {f : Nat → Nat} (d : IsDev w base g h L D) (hq : w.heap[q]? = some (.cells #[.int .i64 (t : Int), u] 47 (0, 0)))
    (hu : ∀ W, Apart (foot g h L) w W → Reads W u 64 f) (nq : ¬ foot g h L q) (ht : t < D.size) (hl : D.loose.length ≤ 100000000000) (ho : D.off = false) :
    Calls Tryz.prog 11 #[.pointer (some ⟨g, 0, none⟩), .slice (some ⟨q, 0, none⟩) 1 1] w (Written w base g h L (D.put1 ⟨t, f⟩).2 (D.put1Code ⟨t, f⟩)) := by
  have hqw : q < w.heap.size := (Array.getElem?_eq_some_iff.1 hq).1
  have s : ∀ W, Apart (foot g h L) w W → WritesIn W (some ⟨q, 0, none⟩) 1 (fun _ => (t : Int)) (fun _ => u) (fun _ => 64) (fun _ => f) := fun W a => by
    have hq' := (a.block q hqw nq).trans hq
    refine ⟨fun i hi => ⟨_, rfl, ?_, ?_⟩, fun _ _ => hu W a, fun i hi => ?_⟩
    · obtain rfl : i = 0 := by omega
      rw [add_nil, cell_of_row _ _ _ _ _ _ hq']; rfl
    · obtain rfl : i = 0 := by omega
      rw [add_nil, cell_of_row _ _ _ _ _ _ hq']; rfl
    · have := d.size.2
      show -9223372036854775808 ≤ (t : Int) ∧ (t : Int) ≤ 9223372036854775807
      omega
  have h1 := dev_put_ok (c := 1) d s (by omega) ho (anyB_no fun i _ => by unfold shortB; simp) (anyB_no fun i _ => by unfold beyondB hasB; simp; omega)
  have e : D.puts (fun _ => ⟨((t : Int)).toNat, f⟩) 1 = D.put1 ⟨t, f⟩ := by
    show (if (D.puts _ 0).1 = true then (D.puts _ 0).2.put1 _ else _) = _
    rw [if_pos (by rfl)]
    rfl
  have e2 : D.putsCode (fun _ => ⟨((t : Int)).toNat, f⟩) 1 = D.put1Code ⟨t, f⟩ := by
    unfold Dev.putsCode Dev.put1Code
    rw [e]
  rw [e, e2] at h1
  exact h1

/-- The same, of a write that was just laid. -/
theorem put_new {w : World} {base g h t : Nat} {L u : Value} {D : Dev} {f : Nat → Nat} (d : IsDev w base g h L D) (hu : ∀ W, Apart (foot g h L) w W → Reads W u 64 f) (ht : t < D.size) (hl : D.loose.length ≤ 100000000000) (hf : D.Free) :
    Calls Tryz.prog 11 #[.pointer (some ⟨g, 0, none⟩), .slice (some ⟨w.heap.size, 0, none⟩) 1 1] (w.alloc (.cells #[.int .i64 (t : Int), u] 47)) (Written w base g h L { D with loose := D.loose ++ [⟨t, f⟩] } 0) := by
  have hx : Below w.heap.size w (w.alloc (.cells #[.int .i64 (t : Int), u] 47)) := (Below.refl _ _).alloc (Nat.le_refl _) _
  have ax : Apart (foot g h L) w (w.alloc (.cells #[.int .i64 (t : Int), u] 47)) := Apart.of_below hx
  refine (put_slice (q := w.heap.size) (d.below hx) (heap_alloc_new w _) (fun W a => hu W (ax.trans a fun _ _ e => e)) (fun hh => by have := (d.lt _ hh).2; omega) ht hl hf.on).mono ?_
  rintro e w' ⟨L', rfl, hd, ha, ho⟩
  obtain ⟨e1, e2⟩ := put1_free hf.on hf.un ⟨t, f⟩
  rw [e1] at hd
  refine ⟨L', by rw [e2], hd, ax.trans ha (fun _ _ e => e), fun k e => (ho k e).imp id fun h5 => ?_⟩
  have := hx.size
  omega

/-- Pages that stay, whatever is written into the device. -/
def Held (P : World → Prop) (v : Value) (N : Nat) (F : Nat → Nat → Nat) : Prop :=
  ∃ (A : Option Addr) (c : Nat) (U : Nat → Value), v = .slice A N c ∧ N ≤ c ∧ c ≤ 9223372036854775807 ∧ (A = none → c = 0) ∧ ∀ W, P W → ∀ i, i < N → ∃ ad, A = some ad ∧ W.cell? (ad.add i) = some (U i) ∧ Reads W (U i) 64 (F i)
theorem Held.mono {P Q : World → Prop} {v : Value} {N : Nat} {F : Nat → Nat → Nat} (h : Held P v N F) (hq : ∀ W, Q W → P W) : Held Q v N F := by
  obtain ⟨A, c, U, e, h1, h2, h3, h4⟩ := h
  exact ⟨A, c, U, e, h1, h2, h3, fun W hW => h4 W (hq W hW)⟩
/-- Pages of the call's own are held, as long as nothing turns their blocks. -/
theorem own_held {w : World} {base : Nat} {v : Value} {N : Nat} {F : Nat → Nat → Nat} (h : OwnP w base v N (fun _ => 64) F) (hF : ∀ i, i < N → ∀ j, j < 64 → F i j < 256) {G : Nat → Prop} (hG : ∀ k, G k → k < base) : Held (Apart G w) v N F := by
  obtain ⟨us, h1, h2⟩ := h
  have h0 := h1
  have hk : ∀ W, Apart G w W → ∀ k, base ≤ k → k < w.heap.size → W.heap[k]? = w.heap[k]? := fun W a k hb hk => a.block k hk fun e => by have := hG k e; omega
  rcases h1.2 with ⟨rfl, rfl⟩ | ⟨g, cap, cur, rfl, hgb, hg, hnc, hm, hr⟩
  · exact ⟨none, 0, fun _ => undef, rfl, Nat.le_refl _, by omega, fun _ => rfl, fun W _ i hi => absurd hi (Nat.not_lt_zero i)⟩
  · refine ⟨_, cap, fun i => us.getD i undef, rfl, hnc, by unfold maxLen at hm; omega, (by intro e; cases e), fun W a i hi => ?_⟩
    obtain ⟨u, e, hr'⟩ := h2 i hi
    have eu : us.getD i undef = u := by rw [List.getD_eq_getElem?_getD, e]; rfl
    have hgw : g < w.heap.size := (Array.getElem?_eq_some_iff.1 hg).1
    refine ⟨_, rfl, ?_, ?_⟩
    · have hc := World.ownsRow.cells h0 (g := g) rfl i _ e
      show W.cell? _ = some (us.getD i undef)
      rw [eu]
      rw [add_nil] at hc ⊢
      rw [World.cell?_of_block (hk W a g hgb hgw)]
      exact hc
    · show Reads W (us.getD i undef) 64 (F i)
      rw [eu]
      obtain ⟨g2, cap2, cur2, e2, q1, q2, q3, q4, q5⟩ := hr'
      exact Row.reads (B := base) ⟨g2, cap2, cur2, e2, q1, q2, q3, (hk W a g2 q1 (Array.getElem?_eq_some_iff.1 q4).1).trans q4, q5⟩ (hF i hi)

/-- What is written: n pages from sector t on. -/
def pagesAt (t : Nat) (F : Nat → Nat → Nat) (n : Nat) : List Wr := (List.range n).map fun j => ⟨t + j, F j⟩
theorem pagesAt_next (t : Nat) (F : Nat → Nat → Nat) (n : Nat) : pagesAt t F n ++ [⟨t + n, F n⟩] = pagesAt t F (n + 1) := by
  unfold pagesAt
  rw [List.range_succ, List.map_append]
  rfl
theorem pagesAt_length (t : Nat) (F : Nat → Nat → Nat) (n : Nat) : (pagesAt t F n).length = n := by simp [pagesAt]
theorem lays_pages (s : Nat → Nat → Nat) (t : Nat) (F : Nat → Nat → Nat) (n i : Nat) : lays s (pagesAt t F n) i = if t ≤ i ∧ i < t + n then F (i - t) else s i := by
  induction n with
  | zero => rw [if_neg (by omega)]; rfl
  | succ n ih =>
    rw [← pagesAt_next, lays_snoc]
    unfold lay
    by_cases e : i = t + n
    · rw [if_pos e, if_pos (by omega), e, Nat.add_sub_cancel_left]
    · rw [if_neg e, ih]
      by_cases c : t ≤ i ∧ i < t + n
      · rw [if_pos c, if_pos (by omega)]
      · rw [if_neg c, if_neg (by omega)]

/-- The device behind that. -/
def Dev.wrote (D : Dev) (t n : Nat) (F : Nat → Nat → Nat) : Dev := { D with sure := fun i => if t ≤ i ∧ i < t + n then F (i - t) else D.view i, loose := [] }
theorem wrote_view (D : Dev) (t n : Nat) (F : Nat → Nat → Nat) (i : Nat) : (D.wrote t n F).view i = if t ≤ i ∧ i < t + n then F (i - t) else D.view i := rfl
theorem wrote_free {D : Dev} (h : D.Free) (t n : Nat) (F : Nat → Nat → Nat) : (D.wrote t n F).Free := ⟨h.on, h.un⟩
theorem settled_pages (D : Dev) (h : D.Free) (t n : Nat) (F : Nat → Nat → Nat) :
    (({ D with loose := D.loose ++ pagesAt t F n } : Dev).power.1 = true) ∧ ({ D with loose := D.loose ++ pagesAt t F n } : Dev).power.2.settle (fun _ => true) = D.wrote t n F := by
  have e := power_free (D := { D with loose := D.loose ++ pagesAt t F n }) h.on h.un
  rw [e]
  refine ⟨rfl, ?_⟩
  unfold Dev.settle Dev.wrote
  have e1 : keptTo (D.loose ++ pagesAt t F n) (fun _ => true) (D.loose ++ pagesAt t F n).length = D.loose ++ pagesAt t F n := by
    rw [keptTo_all _ _ (Nat.le_refl _), List.take_length]
  show Dev.mk _ (lays D.sure (keptTo (D.loose ++ pagesAt t F n) (fun _ => true) (D.loose ++ pagesAt t F n).length)) _ _ _ _ = Dev.mk _ _ _ _ _ _
  rw [e1, lays_append]
  congr 1
  funext i
  exact lays_pages _ _ _ _ _

/-- So many of them are written. -/
def Wrote (w : World) (base g h t : Nat) (L : Value) (D : Dev) (F : Nat → Nat → Nat) (i : Nat) (wr : World) : Prop :=
  ∃ L', IsDev wr base g h L' { D with loose := D.loose ++ pagesAt t F i } ∧ Apart (foot g h L) w wr ∧ ∀ k, L'.ownBlock = some k → L.ownBlock = some k ∨ w.heap.size ≤ k

set_option maxRecDepth 100000 in
set_option maxHeartbeats 1000000 in
theorem write_free {w : World} {base g h t N : Nat} {L v : Value} {D : Dev} {F : Nat → Nat → Nat} (d : IsDev w base g h L D) (hf : D.Free) (hv : Held (Apart (foot g h L) w) v N F) (ht : t + N ≤ D.size) (hl : D.loose.length ≤ 1000000) :
    Calls Tryz.prog 30 #[.pointer (some ⟨g, 0, none⟩), .int .i64 (t : Int), v] w fun e w' =>
      e = .returned (.int .i64 0) ∧ IsDev w' base g h (.slice none 0 0) (D.wrote t N F) ∧ Apart (foot g h L) w w' := by
  obtain ⟨A, c, U, rfl, h1, h2, h3, h4⟩ := hv
  have H4 := Lib.hid h4
  have HD := Lib.hid d
  have HF := Lib.hid hf
  have tb : t ≤ 424 := by have := d.size; omega
  have nb : N ≤ 424 := by have := d.size; omega
  have HT := Lib.hid ht
  have HL := Lib.hid hl
  clear h4 d hf ht hl
  go_enter Tryz.func30, Tryz.ntmps30
  go_wp2
  go_loopw [12] (fun x wr => ∃ i : Nat, i ≤ N ∧ x = .int .i64 (i : Int) ∧ Wrote w base g h t L D F i wr) (fun x _ => N - (intOf x).toNat)
  case atStart => exact ⟨0, Nat.zero_le _, rfl, L, by have e : pagesAt t F 0 = [] := rfl; rw [e, List.append_nil]; exact HD.out, Apart.refl _ _, fun _ e => .inl e⟩
  case round =>
    obtain ⟨i, hi, rfl, L', hd, ha, ho⟩ := hrel
    have DD := Lib.hid hd
    have AA := Lib.hid ha
    have OO := Lib.hid ho
    by_cases hin : i < N
    · have hfoot : ∀ k, k < w.heap.size → foot g h L' k → foot g h L k := fun k hk hf => by
        rcases hf with e | e | e
        · exact .inl e
        · exact .inr (.inl e)
        · rcases ho k e with e2 | e2
          · exact .inr (.inr e2)
          · omega
      have FO := Lib.hid hfoot
      obtain ⟨ad, rfl, hcu, hru⟩ := H4.out wr ha i hin
      obtain ⟨Au, cu, eu, -⟩ := id hru
      have G : Hid (Calls Tryz.prog 11 #[.pointer (some ⟨g, 0, none⟩), .slice (some ⟨wr.heap.size, 0, none⟩) 1 1] (wr.alloc (.cells #[.int .i64 ((t : Int) + (i : Int)), U i] 47)) (Written wr base g h L' { D with loose := D.loose ++ pagesAt t F (i + 1) } 0)) := Lib.hid (by
        have k := put_new (t := t + i) (u := U i) (f := F i) hd (fun W a => by
          obtain ⟨_, e, _, hr⟩ := H4.out W (ha.trans a fun k hk hf => hfoot k hk hf) i hin
          exact hr) (by have := HT.out; show _ < D.size; omega) (by show (D.loose ++ pagesAt t F i).length ≤ _; rw [List.length_append, pagesAt_length]; have := HL.out; omega) ⟨HF.out.on, HF.out.un⟩
        rw [Int.natCast_add] at k
        rw [← pagesAt_next, ← List.append_assoc]
        exact k)
      rw [eu] at G hcu
      clear hd ha ho hru hfoot
      go_wp2_with fail
      with_reducible refine G.out.mono ?_
      rintro e w2 ⟨L2, rfl, hd2, ha2, ho2⟩
      have W2 : Hid (Wrote w base g h t L D F (i + 1) w2) := Lib.hid ⟨L2, hd2, AA.out.trans ha2 (fun k hk hf => FO.out k hk hf), fun k e => by
        rcases ho2 k e with e2 | e2
        · exact OO.out k e2
        · exact .inr (Nat.le_trans AA.out.size e2)⟩
      clear hd2 ha2 ho2 hcu G
      go_wp2
      go_roundw
      case rel => exact ⟨i + 1, by omega, by go_num, W2.out⟩
      case measure => simp [intOf]; omega
    · obtain rfl : i = N := by omega
      clear hd ha ho
      go_wp2_with fail
      with_reducible refine (dev_flush_any DD.out).mono ?_
      rintro e w2 ⟨ha2, hcase⟩
      have hs := settled_pages D HF.out t i F
      rcases hcase with ⟨_, rfl, hd2⟩ | ⟨hno, _⟩
      · rw [hs.2] at hd2
        have D2 := Lib.hid hd2
        have A2 : Hid (Apart (foot g h L) w w2) := Lib.hid (AA.out.trans ha2 fun k _ e => by
          rcases e with e | e
          · exact .inl e
          · exact .inr (.inl e))
        clear hd2 ha2 hs
        go_wp2
        go_ret
        exact ⟨rfl, D2.out, A2.out⟩
      · exact absurd hno (by rw [hs.1]; simp)
end Go.Proofs.YtdocclkphffpkaaGreat

namespace Go.Proofs.YtdocclkphffpkaaGreat
open Go.RowKit

/-- All but the first; the first. -/
theorem Held.tail {P : World → Prop} {g N c : Nat} {F : Nat → Nat → Nat} (h : Held P (.slice (some ⟨g, 0, none⟩) (N + 1) c) (N + 1) F) : Held P (.slice (some ⟨g, 1, none⟩) N (c - 1)) N (fun i => F (i + 1)) := by
  obtain ⟨A, c', U, e, h1, h2, h3, h4⟩ := h
  cases e
  refine ⟨_, _, fun i => U (i + 1), rfl, by omega, by omega, (by intro e; cases e), fun W hW i hi => ?_⟩
  obtain ⟨ad', e, hc, hr⟩ := h4 W hW (i + 1) (by omega)
  cases e
  refine ⟨_, rfl, ?_, hr⟩
  have e2 : (⟨g, 1, none⟩ : Addr).add i = (⟨g, 0, none⟩ : Addr).add (i + 1) := by
    have h := Addr.add_add ⟨g, 0, none⟩ 1 i
    rw [Nat.add_comm 1 i] at h
    exact h
  rw [e2]
  exact hc
theorem Held.first {P : World → Prop} {ad : Addr} {N c m : Nat} {F : Nat → Nat → Nat} (h : Held P (.slice (some ad) N c) N F) (hm : m ≤ N) : Held P (.slice (some ad) m c) m F := by
  obtain ⟨A, c', U, e, h1, h2, h3, h4⟩ := h
  cases e
  exact ⟨_, _, U, rfl, by omega, h2, h3, fun W hW i hi => h4 W hW i (by omega)⟩

/-- The device behind the Save of these pages. -/
def Dev.saved (D : Dev) (t m : Nat) (F : Nat → Nat → Nat) : Dev := (D.wrote (t + 1) m fun i => F (i + 1)).wrote t 1 F
theorem saved_view (D : Dev) (t m : Nat) (F : Nat → Nat → Nat) (i : Nat) : (D.saved t m F).view i = if t ≤ i ∧ i < t + (m + 1) then F (i - t) else D.view i := by
  unfold Dev.saved
  rw [wrote_view, wrote_view]
  by_cases h0 : t ≤ i ∧ i < t + 1
  · rw [if_pos h0, if_pos (by omega)]
  · rw [if_neg h0]
    by_cases h1 : t + 1 ≤ i ∧ i < t + 1 + m
    · rw [if_pos h1, if_pos (by omega), show i - (t + 1) + 1 = i - t by omega]
    · rw [if_neg h1, if_neg (by omega)]

set_option maxRecDepth 100000 in
set_option maxHeartbeats 1000000 in
theorem save_fits {w : World} {base g h : Nat} {L : Value} {D : Dev} (d : IsDev w base g h L D) (hf : D.Free) (hl : D.loose.length ≤ 1000000)
    (K S : Nat → Nat) (V : Nat → Value) (s b seq n : Nat) (f : Nat → Nat) (hs : s < 256) (hb : b < 256) (h1 : 1 ≤ seq) (h2 : seq ≤ 1073741824) (hn1 : 1 ≤ n) (hn : n ≤ 10000) (hsm : ∀ i, i < n → f i < 256) (hV : ∀ i, i < 8 → (V i).oneCell' = true)
    (hfit : ∀ W, Below w.heap.size w W → Calls Tryz.prog 45 #[.agg (scells K S V).toArray, .agg #[.int .i64 (s : Int), .int .i64 (b : Int)]] W (Fresh (.int .i64 0) W))
    (htext : ∀ W, Below w.heap.size w W → Calls Tryz.prog 46 #[.agg (scells K S V).toArray, .int .i64 (b : Int)] W fun e w' => ∃ v, e = .returned v ∧ Reads w' v n f ∧ Below W.heap.size W w')
    (hroom : 12 * (seq % 2) + (pcount n + 1) ≤ D.size) :
    Calls Tryz.prog 12 #[.pointer (some ⟨g, 0, none⟩), .agg (scells K S V).toArray, .agg #[.int .i64 (s : Int), .int .i64 (b : Int)], .int .i64 (seq : Int)] w fun e w' =>
      e = .returned (.int .i64 0) ∧ IsDev w' base g h (.slice none 0 0) (D.saved (12 * (seq % 2)) (pcount n) (encF s b seq n f)) ∧ Apart (foot g h L) w w' := by
  obtain ⟨w1, hw1⟩ : ∃ w1, w1 = (w.alloc (.cells (scells K S V).toArray 32)).alloc (.cells #[.int .i64 (s : Int), .int .i64 (b : Int)] 34) := ⟨_, rfl⟩
  have hb1 : Below w.heap.size w w1 := by rw [hw1]; exact ((Below.refl _ w).alloc (Nat.le_refl _) _).alloc (by simp) _
  have B1 := Lib.hid hb1
  have S1 : Hid (StIs w1 w.heap.size K S V) := Lib.hid (by rw [hw1]; exact (st_new w K S V).below ((Below.refl _ _).alloc (Nat.le_refl _) _))
  have q0 : w1.cell? ⟨w.heap.size + 1, 0, none⟩ = some (.int .i64 (s : Int)) := by rw [hw1, ← World.size_alloc w (.cells (scells K S V).toArray 32), World.cell?_alloc_mark]; rfl
  have q1 : w1.cell? ⟨w.heap.size + 1, 1, none⟩ = some (.int .i64 (b : Int)) := by rw [hw1, ← World.size_alloc w (.cells (scells K S V).toArray 32), World.cell?_alloc_mark]; rfl
  have DD := Lib.hid (d.below hb1)
  have FD := Lib.hid d.lt
  have HF := Lib.hid hf
  have EN := Lib.hid (encode_fits K S V s b seq n f w1 hs hb h1 h2 hn (fun W hW => hfit W (hb1.trans (hW.mono hb1.size))) (fun W hW => htext W (hb1.trans (hW.mono hb1.size))))
  have HSM := Lib.hid hsm
  obtain ⟨m, hm⟩ : ∃ m, m = pcount n := ⟨_, rfl⟩
  obtain ⟨k, hk⟩ : ∃ k, k = seq % 2 := ⟨_, rfl⟩
  obtain ⟨t, ht⟩ : ∃ t, t = 12 * k := ⟨_, rfl⟩
  have hm1 : 1 ≤ m := by rw [hm]; unfold pcount; omega
  have e1 : (seq : Int) % 2 = (k : Int) := by omega
  have F1 := Lib.hid (first_sector k · (by omega))
  rw [← hk, ← ht, ← hm]
  rw [← hk, ← ht, ← hm] at hroom
  rw [← ht] at F1
  rw [← hm] at EN
  have HR := Lib.hid hroom
  have HL := Lib.hid hl
  have tb : t ≤ 12 := by omega
  have V1 := scells_one hV (K := K) (S := S)
  clear d hf hl hfit htext hroom hb1 hn1 hn hsm hs hb h1 h2 hm hk ht hV
  go_enter Tryz.func12, Tryz.ntmps12
  go_wp2_with (rw [← hw1]; clear hw1; refine wpList_load_mid rfl 32 (.tmp 5) rfl w.heap.size 0 rfl (scells K S V) _ (StIs.whole S1.out) Tryz.underlying32 rfl (state_len _ _ _) ?_)
  with_reducible refine EN.out.mono ?_
  rintro e w2 ⟨v, rfl, hp, hb2⟩
  have hsh : ∃ g6 c6, v = .slice (some ⟨g6, 0, none⟩) (m + 1) c6 := by
    obtain ⟨us, o, _⟩ := hp
    rcases o.2 with ⟨_, e0⟩ | ⟨g6, c6, _, e6, _⟩
    · omega
    · exact ⟨g6, c6, e6⟩
  obtain ⟨g6, c6, rfl⟩ := hsh
  have hb12 : Below w.heap.size w w2 := B1.out.trans (hb2.mono B1.out.size)
  have hheld : Held (Apart (foot g h L) w2) (.slice (some ⟨g6, 0, none⟩) (m + 1) c6) (m + 1) (encF s b seq n f) :=
    own_held hp (fun i _ j _ => encF_lt HSM.out i j) fun j hj => by have := (FD.out j hj).2; have := B1.out.size; omega
  have hc6 : m + 1 ≤ c6 := by
    obtain ⟨A, c', U, e, q1, _⟩ := hheld
    cases e
    exact q1
  have D2 := Lib.hid (DD.out.below hb2)
  have B2 := Lib.hid hb12
  have W1 := Lib.hid (write_free D2.out HF.out (t := t + 1) (N := m) hheld.tail (by have := HR.out; omega) HL.out)
  rw [show ((t + 1 : Nat) : Int) = (t : Int) + 1 by omega] at W1
  have HH := Lib.hid hheld
  have hc1 : ¬ c6 = 1 := by omega
  clear hp hb2 hb12 hheld EN S1 DD q0 q1 V1
  go_wp2_with fail
  with_reducible refine (F1.out w2).mono ?_
  rintro e w' ⟨rfl, rfl⟩
  go_wp2_with fail
  with_reducible refine W1.out.mono ?_
  rintro e w3 ⟨rfl, hd3, ha3⟩
  have hh3 : Held (Apart (foot g h (.slice none 0 0)) w3) (.slice (some ⟨g6, 0, none⟩) 1 c6) 1 (encF s b seq n f) :=
    (HH.out.first (by omega)).mono fun W a => ha3.trans a fun k _ e => by
      rcases e with e | e | e
      · exact .inl e
      · exact .inr (.inl e)
      · cases e
  have W2 := Lib.hid (write_free hd3 (wrote_free HF.out _ _ _) (t := t) (N := 1) hh3 (by show _ ≤ D.size; have := HR.out; omega) (by show (0 : Nat) ≤ _; omega))
  have A3 := Lib.hid ha3
  clear hd3 ha3 hh3 W1 HH
  go_wp2_with fail
  with_reducible refine W2.out.mono ?_
  rintro e w4 ⟨rfl, hd4, ha4⟩
  have D4 := Lib.hid hd4
  have A4 : Hid (Apart (foot g h L) w w4) := Lib.hid (((Apart.of_below (F := foot g h L) B2.out).trans A3.out fun _ _ e => e).trans ha4 fun k _ e => by
    rcases e with e | e | e
    · exact .inl e
    · exact .inr (.inl e)
    · cases e)
  clear hd4 ha4 W2 A3
  go_wp2
  go_ret
  exact ⟨rfl, D4.out, A4.out⟩
end Go.Proofs.YtdocclkphffpkaaGreat

namespace Go.Proofs.YtdocclkphffpkaaGreat
open Go.RowKit

theorem area_small {w : World} {base g h : Nat} {L : Value} {D : Dev} (d : IsDev w base g h L D) {k n : Nat} (hn : 12 * k + n ≤ D.size) : ∀ i, i < n → ∀ j, j < 64 → D.area k i j < 256 := fun i hi => d.small (by omega)

set_option maxRecDepth 100000 in
set_option maxHeartbeats 1000000 in
theorem load_any {w : World} {base g h : Nat} {L : Value} {D : Dev} (d : IsDev w base g h L D) (ho : D.off = false) (k : Nat) (hk : k < 2) :
    Calls Tryz.prog 15 #[.pointer (some ⟨g, 0, none⟩), .int .i64 (k : Int)] w (AreaA D k w) := by
  have hzs := zero_state
  have hzp := plat_zero
  obtain ⟨w1, hw1⟩ : ∃ w1, w1 = (w.alloc (.cells (scells z0 z0 zV).toArray 32)).alloc (.cells #[.int .i64 0, .int .i64 0] 34) := ⟨_, rfl⟩
  have B1 : Hid (Below w.heap.size w w1) := Lib.hid (by rw [hw1]; exact ((Below.refl _ w).alloc (Nat.le_refl _) _).alloc (by simp) _)
  have C1 : Hid (Cells2 w1 w.heap.size (w.heap.size + 1) z0 z0 zV 0 0) := Lib.hid (by rw [hw1]; exact cells2_new w)
  have D1 : Hid (IsDev w1 base g h L D) := Lib.hid (d.below B1.out)
  have DW := Lib.hid d
  have HO := Lib.hid ho
  have SZ : Hid (w1.heap.size = w.heap.size + 2) := Lib.hid (by rw [hw1]; simp)
  have V0 : (scells z0 z0 zV).toArray.all (·.oneCell') = true := scells_one fun _ _ => rfl
  obtain ⟨t, ht⟩ : ∃ t, t = 12 * k := ⟨_, rfl⟩
  have F1 := Lib.hid fun w => first_sector k w (by omega)
  rw [← ht] at F1
  have TH := Lib.hid ht
  clear d ho ht
  go_enter Tryz.func15, Tryz.ntmps15
  go_wp2_with fail
  rw [← hw1]
  clear hw1
  with_reducible refine (F1.out w1).mono ?_
  rintro e w2 ⟨rfl, rfl⟩
  by_cases hin : t < D.size
  · have IN := Lib.hid hin
    clear hin
    go_wp2_with fail
    with_reducible refine (dev_get_ok D1.out HO.out IN.out).mono ?_
    rintro e w2 ⟨kb, rfl, hkb, hkw, hb2⟩
    have B2 : Hid (Below w.heap.size w w2) := Lib.hid (B1.out.trans (hb2.mono B1.out.size))
    have P2 : Hid (PageB w2 w1.heap.size (.slice (some ⟨kb, 0, none⟩) 64 64) (D.area k 0)) := Lib.hid ⟨kb, rfl, by unfold Dev.area; rw [Nat.add_zero, ← TH.out]; exact hkb, hkw⟩
    have C2 := Lib.hid (C1.out.below hb2)
    have D2 := Lib.hid (D1.out.below hb2)
    have R2 : Hid (Reads w2 (.slice (some ⟨kb, 0, none⟩) 64 64) 64 (D.area k 0)) := Lib.hid (P2.out.reads (area_small DW.out (n := 1) (by have := IN.out; have := TH.out; omega) 0 (by omega)))
    have S2 := Lib.hid hb2.size
    clear hkb hkw hb2
    go_wp2_with fail
    with_reducible refine (count_any _ 64 (D.area k 0) w2 R2.out).mono ?_
    rintro e w3 ⟨hcase, hb3⟩
    have B3 : Hid (Below w.heap.size w w3) := Lib.hid (B2.out.trans (hb3.mono B2.out.size))
    have C3 := Lib.hid (C2.out.below hb3)
    have D3 := Lib.hid (D2.out.below hb3)
    have S3 : Hid (w.heap.size + 2 ≤ w3.heap.size) := Lib.hid (by have := hb3.size; have := S2.out; have := SZ.out; omega)
    clear hb3 R2 C2 D2 B2 P2 S2 C1 D1 B1
    rcases hcase with ⟨hh, rfl⟩ | ⟨hno, rfl⟩
    · by_cases hq : seqIn (D.area k 0) % 2 = k
      · have HH := Lib.hid hh
        have HQ := Lib.hid hq
        obtain ⟨m, hm⟩ : ∃ m, m = D.area k 0 10 := ⟨_, rfl⟩
        obtain ⟨q, hqq⟩ : ∃ q, q = seqIn (D.area k 0) := ⟨_, rfl⟩
        rw [← hm, ← hqq]
        have e1 : ((q : Int) % 2 != (k : Int)) = false := by rw [hqq]; simp; omega
        have M1 := Lib.hid hm
        clear hh hq hm hqq
        go_wp2_with fail
        with_reducible refine (F1.out w3).mono ?_
        rintro e w4 ⟨rfl, rfl⟩
        have m11 : m ≤ 11 := by rw [M1.out]; exact HH.out.2.2.2
        have G := Lib.hid (secs_any D3.out HO.out t (1 + m) (by have := TH.out; omega) (by omega) (by omega))
        rw [show ((1 + m : Nat) : Int) = 1 + (m : Int) by omega] at G
        go_wp2_with fail
        clear m11
        with_reducible refine G.out.mono ?_
        rintro e w4 ⟨hcase, hb4⟩
        have B4 : Hid (Below w.heap.size w w4) := Lib.hid (B3.out.trans (hb4.mono B3.out.size))
        have C4 := Lib.hid (C3.out.below hb4)
        have S4 : Hid (w.heap.size + 2 ≤ w4.heap.size) := Lib.hid (by have := hb4.size; have := S3.out; omega)
        clear hb4 C3 B3 D3 G e1
        rcases hcase with ⟨hle, v, rfl, hsec⟩ | ⟨hlt, rfl⟩
        · have hle' : 12 * k + (D.area k 0 10 + 1) ≤ D.size := by rw [← M1.out, ← TH.out]; omega
          have HL := Lib.hid hle'
          have hR : ReadsP w4 v (D.area k 0 10 + 1) (fun _ => 64) (D.area k) := by
            have h := hsec.reads (fun i hi j hj => DW.out.small (by omega) j hj)
            rw [Nat.add_comm 1 m, M1.out, TH.out] at h
            exact h
          have HR := Lib.hid hR
          obtain ⟨Av, cv, rfl⟩ := hsec.shape
          clear hsec hle hle' hR
          go_wp2_with fail
          with_reducible refine (decode_any _ _ _ _ _ HR.out).mono ?_
          rintro e w5 hd
          obtain ⟨hb5, s, b, q', x, K, S, M, Z, V, rfl, hz, hcase⟩ := area_decoded (B4.out) HL.out HQ.out hd
          have hbD := hd.2
          have C5 := C4.out.below hbD
          obtain ⟨w6, w7, tn⟩ := C5.turn K S V (s : Int) (b : Int)
          have HZ : Hid (∀ i, i < 8 → OwnZ w7 w.heap.size (V i) (M i) (Z i)) := Lib.hid fun i hi => ((hz i hi).apart tn.apart (fun j e => by have := S4.out; omega)).base (by have := S4.out; omega)
          have V1 := scells_one (fun i hi => (hz i hi).one) (K := K) (S := S)
          have RT := tn.there
          have hw6 := tn.e4
          have hw7 := tn.e
          have p0 := tn.p0
          have p1 := tn.p1
          have p2 := tn.p2
          have f0 := tn.f0
          have f1 := tn.f1
          have f2 := tn.f2
          have LS := Lib.hid tn.c.load_s
          have LP := Lib.hid tn.c.load_p
          have B7 : Hid (Below w.heap.size w w7) := Lib.hid (hb5.trans (tn.apart.below hb5.size fun i hi e => by omega))
          have CA := Lib.hid hcase
          clear hd hz hcase C5 tn hbD hb5
          go_wp2_with (first
            | (refine wpList_store_mid rfl 32 (.tmp 4) (.tmp 55) rfl w.heap.size 0 (scells K S V).toArray rfl rfl RT (state_len' _ _ _) V1 ?_; rw [show (scells K S V).toArray.toList = scells K S V from rfl, ← hw6]; clear hw6 RT V1)
            | (rw [← hw7]; clear hw7 p0 p1 p2 f0 f1 f2))
          refine bodyPost_ret (results_cells22 (fn := Tryz.f15) rfl _ _ ⟨w.heap.size, 0, none⟩ ⟨w.heap.size + 1, 0, none⟩ _ _ rfl rfl LS.out LP.out) rfl ?_
          exact ⟨B7.out, s, b, q', x, K, S, M, Z, V, rfl, HZ.out, CA.out⟩
        · have LA : Hid (Lacks D k) := Lib.hid fun s b q' K S M Z hf => by
            have := hf.2.1
            rw [← M1.out, ← TH.out] at this
            omega
          have RT : w4.there w.heap.size 0 (scells z0 z0 zV).toArray.size := StIs.there_ C4.out.st
          have p0 := C4.out.s_
          have p1 := C4.out.b_
          have f0 := RowIs.free C4.out.pl 0
          have f1 := RowIs.free C4.out.pl 1
          have LS := Lib.hid C4.out.load_s
          have LP := Lib.hid C4.out.load_p
          obtain ⟨s3, s4, s5⟩ := C4.out.still
          clear hlt
          go_wp2_with (refine wpList_store_mid rfl 32 (.tmp 4) (.tmp 50) rfl w.heap.size 0 (scells z0 z0 zV).toArray rfl rfl RT (state_len' _ _ _) V0 ?_; rw [show (scells z0 z0 zV).toArray.toList = scells z0 z0 zV from rfl, s3]; clear s3 RT V0)
          refine bodyPost_ret (results_cells22 (fn := Tryz.f15) rfl _ _ ⟨w.heap.size, 0, none⟩ ⟨w.heap.size + 1, 0, none⟩ _ _ rfl rfl LS.out LP.out) rfl ?_
          exact area_none 5 (by omega) LA.out B4.out
      · have LA : Hid (Lacks D k) := Lib.hid fun s b q' K S M Z hf => hq (by rw [hf.header.2]; exact hf.1)
        have e1 : ((seqIn (D.area k 0) : Int) % 2 != (k : Int)) = true := by simp; omega
        obtain ⟨m, hm⟩ : ∃ m, m = D.area k 0 10 := ⟨_, rfl⟩
        obtain ⟨q, hqq⟩ : ∃ q, q = seqIn (D.area k 0) := ⟨_, rfl⟩
        rw [← hqq] at e1
        rw [← hm, ← hqq]
        have RT : w3.there w.heap.size 0 (scells z0 z0 zV).toArray.size := StIs.there_ C3.out.st
        have p0 := C3.out.s_
        have p1 := C3.out.b_
        have f0 := RowIs.free C3.out.pl 0
        have f1 := RowIs.free C3.out.pl 1
        have LS := Lib.hid C3.out.load_s
        have LP := Lib.hid C3.out.load_p
        obtain ⟨s3, s4, s5⟩ := C3.out.still
        clear hh hq hm hqq
        go_wp2_with (refine wpList_store_mid rfl 32 (.tmp 4) (.tmp 37) rfl w.heap.size 0 (scells z0 z0 zV).toArray rfl rfl RT (state_len' _ _ _) V0 ?_; rw [show (scells z0 z0 zV).toArray.toList = scells z0 z0 zV from rfl, s3]; clear s3 RT V0)
        refine bodyPost_ret (results_cells22 (fn := Tryz.f15) rfl _ _ ⟨w.heap.size, 0, none⟩ ⟨w.heap.size + 1, 0, none⟩ _ _ rfl rfl LS.out LP.out) rfl ?_
        exact area_none 11 (by omega) LA.out B3.out
    · have LA : Hid (Lacks D k) := Lib.hid fun s b q' K S M Z hf => hno hf.header.1
      have RT : w3.there w.heap.size 0 (scells z0 z0 zV).toArray.size := StIs.there_ C3.out.st
      have p0 := C3.out.s_
      have p1 := C3.out.b_
      have f0 := RowIs.free C3.out.pl 0
      have f1 := RowIs.free C3.out.pl 1
      have LS := Lib.hid C3.out.load_s
      have LP := Lib.hid C3.out.load_p
      obtain ⟨s3, s4, s5⟩ := C3.out.still
      clear hno
      go_wp2_with (refine wpList_store_mid rfl 32 (.tmp 4) (.tmp 37) rfl w.heap.size 0 (scells z0 z0 zV).toArray rfl rfl RT (state_len' _ _ _) V0 ?_; rw [show (scells z0 z0 zV).toArray.toList = scells z0 z0 zV from rfl, s3]; clear s3 RT V0)
      refine bodyPost_ret (results_cells22 (fn := Tryz.f15) rfl _ _ ⟨w.heap.size, 0, none⟩ ⟨w.heap.size + 1, 0, none⟩ _ _ rfl rfl LS.out LP.out) rfl ?_
      exact area_none 11 (by omega) LA.out B3.out
  · have LA : Hid (Lacks D k) := Lib.hid fun s b q' K S M Z hf => by
      have := hf.2.1
      rw [← TH.out] at this
      omega
    have G := Lib.hid (dev_get_range D1.out (t : Int) HO.out (hasB_no (by omega)))
    have RT : w1.there w.heap.size 0 (scells z0 z0 zV).toArray.size := StIs.there_ C1.out.st
    have p0 := C1.out.s_
    have p1 := C1.out.b_
    have f0 := RowIs.free C1.out.pl 0
    have f1 := RowIs.free C1.out.pl 1
    have LS := Lib.hid C1.out.load_s
    have LP := Lib.hid C1.out.load_p
    obtain ⟨s3, s4, s5⟩ := C1.out.still
    clear hin
    go_wp2_with fail
    with_reducible refine G.out.mono ?_
    rintro e w2 ⟨rfl, rfl⟩
    go_wp2_with (refine wpList_store_mid rfl 32 (.tmp 4) (.tmp 20) rfl w.heap.size 0 (scells z0 z0 zV).toArray rfl rfl RT (state_len' _ _ _) V0 ?_; rw [show (scells z0 z0 zV).toArray.toList = scells z0 z0 zV from rfl, s3]; clear s3 RT V0)
    refine bodyPost_ret (results_cells22 (fn := Tryz.f15) rfl _ _ ⟨w.heap.size, 0, none⟩ ⟨w.heap.size + 1, 0, none⟩ _ _ rfl rfl LS.out LP.out) rfl ?_
    exact area_none 5 (by omega) LA.out B1.out
end Go.Proofs.YtdocclkphffpkaaGreat

