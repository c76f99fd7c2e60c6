
/- One write at a time; the first facts; no device. -/
import Derived.Test.YtmgeifolgdgapaaDvPut
namespace Go.Proofs.Ytmgeifolgdgapaa
open Go.RowKit

def Dev.put1Code (D : Dev) (x : Wr) : Int := if (D.put1 x).1 = true then 0 else 10
set_option maxRecDepth 100000 in
/-- Put of one write that lies in two blocks of its own. -/
theorem dev_put_one {w : World} {base g h q b cap t : Nat} {L : Value} {D : Dev} {f : Nat → Nat} (d : IsDev w base g h L D) (hq : w.heap[q]? = some (.cells #[.int .i64 (t : Int), .slice (some ⟨b, 0, none⟩) 64 cap] 31 (0, 0)))
    (hb : BytesAt w (some ⟨b, 0, none⟩) 64 f) (hc : 64 ≤ cap ∧ cap ≤ 9223372036854775807) (nq : ¬ foot g h L q) (nb : ¬ foot g h L b) (ht : t < D.size) (hl : D.loose.length ≤ 100000000000) :
    Calls Try.prog 7 #[.pointer (some ⟨g, 0, none⟩), .slice (some ⟨q, 0, none⟩) 1 1] w (Written w base g h L (D.put1 ⟨t, f⟩).2 (D.put1Code ⟨t, f⟩)) := by
  by_cases ho : D.off = true
  · have e : D.put1 ⟨t, f⟩ = (false, D) := by unfold Dev.put1 Dev.power; simp [ho]
    have e2 : D.put1Code ⟨t, f⟩ = 10 := by unfold Dev.put1Code; rw [e]; rfl
    rw [e2, e]
    exact dev_put_down d _ ho
  · have ho' : D.off = false := by simpa using ho
    have hqw : q < w.heap.size := (Array.getElem?_eq_some_iff.1 hq).1
    have hbw : b < w.heap.size := World.block_lt_of_cell? w _ (hb.at_ (i := 0) (by omega))
    have s : ∀ W, Apart (foot g h L) w W → WritesIn W (some ⟨q, 0, none⟩) 1 (fun _ => (t : Int)) (fun _ => .slice (some ⟨b, 0, none⟩) 64 cap) (fun _ => 64) (fun _ => f) := fun W a => by
      have hq' := (a.block q hqw nq).trans hq
      refine ⟨fun i hi => ⟨_, rfl, ?_, ?_⟩, fun i hi => ⟨_, _, rfl, hc.1, hc.2, (by intro e; cases e), hb.small, fun j hj => ⟨_, rfl, ?_⟩⟩, fun i hi => ?_⟩
      · obtain rfl : i = 0 := by omega
        rw [add_nil, cell_of_row _ _ _ _ _ _ hq']; rfl
      · obtain rfl : i = 0 := by omega
        rw [add_nil, cell_of_row _ _ _ _ _ _ hq']; rfl
      · have h1 := hb.at_ hj
        rw [add_nil] at h1 ⊢
        rw [World.cell?_of_block (a.block b hbw nb)]
        exact h1
      · have := d.size.2
        show -9223372036854775808 ≤ (t : Int) ∧ (t : Int) ≤ 9223372036854775807
        omega
    have h1 := dev_put_ok (c := 1) d s (by omega) ho' (anyB_no fun i _ => by unfold shortB; simp) (anyB_no fun i _ => by unfold beyondB hasB; simp; omega)
    have e : D.puts (fun i => ⟨((t : Int)).toNat, f⟩) 1 = D.put1 ⟨t, f⟩ := by
      show (if (D.puts _ 0).1 = true then (D.puts _ 0).2.put1 _ else _) = _
      rw [if_pos (by rfl)]
      rfl
    have e2 : D.putsCode (fun i => ⟨((t : Int)).toNat, f⟩) 1 = D.put1Code ⟨t, f⟩ := by
      unfold Dev.putsCode Dev.put1Code
      rw [e]
    rw [e, e2] at h1
    exact h1

theorem i64_wf {a : Int} (h : (Lit.int .i64 a).wf = true) : -9223372036854775808 ≤ a ∧ a ≤ 9223372036854775807 := by
  simpa [Lit.wf, IntKind.min, IntKind.max, IntKind.signed, IntKind.bits] using h
theorem u8_wf {a : Int} (h : (Lit.int .u8 a).wf = true) : 0 ≤ a ∧ a ≤ 255 := by
  simpa [Lit.wf, IntKind.min, IntKind.max, IntKind.signed, IntKind.bits] using h
/-- An empty list of numbers. -/
theorem ints_none (w : World) (k : IntKind) : IntsIn w k none 0 0 [] := ⟨rfl, Nat.le_refl _, by omega, fun _ => ⟨rfl, rfl⟩, (fun ad h => by cases h), (fun z hz => by cases hz)⟩

theorem IntsIn.below {w w' : World} {k : IntKind} {A : Option Addr} {n c : Nat} {Z : List Int} (h : IntsIn w k A n c Z) (b : Below w.heap.size w w') : IntsIn w' k A n c Z :=
  ⟨h.len, h.cap, h.most, h.bare, fun ad e t ht => cell_later b (h.cell ad e t ht), h.wf⟩
theorem keptTo_sub {l : List Wr} {p : Nat → Bool} : ∀ {n : Nat} {x : Wr}, x ∈ keptTo l p n → x ∈ l
  | 0, x, h => by simp [keptTo] at h
  | n + 1, x, h => by
    unfold keptTo at h
    rcases List.mem_append.1 h with h | h
    · exact keptTo_sub h
    · split at h
      · have h2 : l[n]? = some x := by simpa [Option.mem_toList] using h
        exact List.mem_of_getElem? h2
      · cases h
/-- What a sector holds behind some writes: what it held, or one of them. -/
theorem lays_cases (s : Nat → Nat → Nat) (l : List Wr) (i : Nat) : lays s l i = s i ∨ ∃ x, x ∈ l ∧ x.at_ = i ∧ lays s l i = x.data := by
  induction l using snoc_ind with
  | nil => exact .inl rfl
  | snoc l x ih =>
    rw [lays_snoc]
    unfold lay
    by_cases e : i = x.at_
    · rw [if_pos e]; exact .inr ⟨x, by simp, e.symm, rfl⟩
    · rw [if_neg e]
      rcases ih with h | ⟨y, hy, h1, h2⟩
      · exact .inl h
      · exact .inr ⟨y, by simp [hy], h1, h2⟩

set_option maxRecDepth 100000 in
theorem none_get (z : Int) (w : World) : Calls Try.prog 9 #[.pointer none, .int .i64 z] w fun e w' => e = .returned (.tuple #[.slice none 0 0, .int .i64 1]) ∧ w = w' := by
  go_enter Try.func9, Try.ntmps9
  go_wp2
  go_ret2
  exact ⟨rfl, rfl⟩
set_option maxRecDepth 100000 in
theorem none_put (v : Value) (w : World) : Calls Try.prog 7 #[.pointer none, v] w (Fresh (.int .i64 1) w) := by
  go_enter Try.func7, Try.ntmps7
  go_wp2
  go_ret
  exact ⟨rfl, (Below.refl _ _).alloc (Nat.le_refl _) _⟩
theorem power_free {D : Dev} (h1 : D.off = false) (h2 : D.limited = false) : D.power = (true, D) := by
  unfold Dev.power
  rw [if_neg (by rw [h1]; simp), if_pos h2]
theorem put1_free {D : Dev} (h1 : D.off = false) (h2 : D.limited = false) (x : Wr) : D.put1 x = (true, { D with loose := D.loose ++ [x] }) ∧ D.put1Code x = 0 := by
  have e : D.put1 x = (true, { D with loose := D.loose ++ [x] }) := by
    unfold Dev.put1
    rw [power_free h1 h2]
    rfl
  exact ⟨e, by unfold Dev.put1Code; rw [e]; rfl⟩

set_option maxRecDepth 100000 in
/-- Put of one write of 64 bytes that were just filled, while the power is on for good. -/
theorem dev_put_free {w w5 : World} {base g h b t : Nat} {f : Nat → Nat} {L : Value} {D : Dev} (d : IsDev w base g h L D) (hb : Below w.heap.size w w5) (hl : Lies w5 b f 64) (hbw : w.heap.size ≤ b) (hx : ∀ j, j < 64 → f j < 256) (ht : t < D.size) (hn : D.loose.length ≤ 100000000000)
    (h1 : D.off = false) (h2 : D.limited = false) :
    Calls Try.prog 7 #[.pointer (some ⟨g, 0, none⟩), .slice (some ⟨w5.heap.size, 0, none⟩) 1 1] (w5.alloc (.cells #[.int .i64 (t : Int), .slice (some ⟨b, 0, none⟩) 64 64] 31))
      (Written w base g h L { D with loose := D.loose ++ [⟨t, f⟩] } 0) := by
  have hx5 : Below w5.heap.size w5 (w5.alloc (.cells #[.int .i64 (t : Int), .slice (some ⟨b, 0, none⟩) 64 64] 31)) := (Below.refl _ _).alloc (Nat.le_refl _) _
  have hfd := d.lt
  have hlt := hl.lt
  refine (dev_put_one (q := w5.heap.size) (b := b) (cap := 64) (t := t) (f := f) ((d.below hb).below hx5) (heap_alloc_new w5 _) ((hl.bytes (Nat.le_refl _) hx).below hx5) (by omega) ?_ ?_ ht hn).mono ?_
  · intro hh; have := (hfd _ hh).2; have := hb.size; omega
  · intro hh; have := (hfd _ hh).2; omega
  rintro e w' ⟨L', rfl, hd, ha, ho⟩
  obtain ⟨e1, e2⟩ := put1_free h1 h2 ⟨t, f⟩
  rw [e1] at hd
  have hw : Below w.heap.size w (w5.alloc (.cells #[.int .i64 (t : Int), .slice (some ⟨b, 0, none⟩) 64 64] 31)) := hb.trans (hx5.mono hb.size)
  refine ⟨L', by rw [e2], hd, (Apart.of_below (F := foot g h L) hw).trans ha (fun _ _ e => e), fun k e => (ho k e).imp id fun h5 => ?_⟩
  have := hw.size
  omega

/-- A block that is none of the device's. -/
theorem Lies.apart {w w' : World} {b n : Nat} {f : Nat → Nat} {F : Nat → Prop} (h : Lies w b f n) (a : Apart F w w') (hf : ¬ F b) : Lies w' b f n := (a.block b h.lt hf).trans h
theorem dcell_apart {w w' : World} {p : Addr} {v : Value} {F : Nat → Prop} (a : Apart F w w') (h : w.cell? p = some v) (hf : ¬ F p.block) : w'.cell? p = some v := by
  rw [World.cell?_of_block (a.block p.block (World.block_lt_of_cell? w _ h) hf)]
  exact h

/-- A sector that was read, as bytes. -/
theorem got_bytes {w : World} {k : Nat} {f : Nat → Nat} (h : RowIs w k 57 (fun i => .int .u8 (f i : Int)) 64) (hf : ∀ j, j < 64 → f j < 256) : BytesAt w (some ⟨k, 0, none⟩) 64 f :=
  ⟨hf, fun i hi => ⟨_, rfl, by rw [add_nil]; exact h.cell hi⟩⟩
theorem lays_small {n : Nat} {s : Nat → Nat → Nat} : ∀ {l : List Wr} (_ : ∀ i, i < n → ∀ j, j < 64 → s i j < 256) (_ : ∀ x ∈ l, ∀ j, j < 64 → x.data j < 256), ∀ i, i < n → ∀ j, j < 64 → lays s l i j < 256 := by
  intro l h1 h2
  induction l using snoc_ind with
  | nil => exact h1
  | snoc l x ih =>
    rw [lays_snoc]
    intro i hi j hj
    unfold lay
    by_cases e : i = x.at_
    · rw [if_pos e]; exact h2 x (by simp) j hj
    · rw [if_neg e]; exact ih (fun y hy => h2 y (by simp [hy])) i hi j hj
theorem IsDev.small {w : World} {base g h : Nat} {L : Value} {D : Dev} (d : IsDev w base g h L D) {t : Nat} (ht : t < D.size) : ∀ j, j < 64 → D.view t j < 256 :=
  lays_small d.sure (fun x hx => (d.loose x hx).2) t ht

/-- 64 bytes, of which the first is 7. -/
def seven (j : Nat) : Nat := if j = 0 then 7 else 0

end Go.Proofs.Ytmgeifolgdgapaa
