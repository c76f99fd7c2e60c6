/- The device and the document's own one, side by side: each call turns both alike. -/
import Derived.Test.YtcnoadikkfedaaaActs
namespace Go.Proofs.Ytcnoadikkfedaaa
open Go.RowKit

/-- A device and a ref lie apart, in blocks made since w0. -/
structure Both (w0 w : World) (g h r : Nat) (S L R : Value) (y : Int) (D E : Dev) : Prop where
  dev : IsDev w w0.heap.size g h L D
  ref : IsRef w w0.heap.size r S R y E
  apart : ∀ k, foot g h L k → ¬ rfoot r S R k
  below : Below w0.heap.size w0 w

theorem Both.turn {w0 w w' : World} {g h r : Nat} {S L L' R : Value} {y : Int} {D D' E : Dev} (b : Both w0 w g h r S L R y D E) (d' : IsDev w' w0.heap.size g h L' D') (a : Apart (foot g h L) w w')
    (ho : ∀ k, L'.ownBlock = some k → L.ownBlock = some k ∨ w.heap.size ≤ k) : Both w0 w' g h r S L' R y D' E where
  dev := d'
  ref := b.ref.apart a fun k hk hf => b.apart k hf hk
  apart := fun k hk hr => by
    have hlt := (b.ref.lt k hr).2
    rcases hk with e | e | e
    · exact b.apart k (.inl e) hr
    · exact b.apart k (.inr (.inl e)) hr
    · rcases ho k e with e | e
      · exact b.apart k (.inr (.inr e)) hr
      · omega
  below := b.below.trans (a.below b.below.size fun k hk hf => by have := (b.dev.lt k hf).1; omega)
theorem Both.turnRef {w0 w w' : World} {g h r : Nat} {S L R R' : Value} {y y' : Int} {D E E' : Dev} (b : Both w0 w g h r S L R y D E) (d' : IsRef w' w0.heap.size r S R' y' E') (a : Apart (rfoot r S R) w w')
    (ho : ∀ k, R'.ownBlock = some k → R.ownBlock = some k ∨ w.heap.size ≤ k) : Both w0 w' g h r S L R' y' D E' where
  dev := b.dev.apart a fun k hk hf => b.apart k hk hf
  ref := d'
  apart := fun k hk hr => by
    have hlt := (b.dev.lt k hk).2
    rcases hr with e | e | e
    · exact b.apart k hk (.inl e)
    · exact b.apart k hk (.inr (.inl e))
    · rcases ho k e with e | e
      · exact b.apart k hk (.inr (.inr e))
      · omega
  below := b.below.trans (a.below b.below.size fun k hk hf => by have := (b.ref.lt k hf).1; omega)
theorem Both.later {w0 w w' : World} {g h r : Nat} {S L R : Value} {y : Int} {D E : Dev} (b : Both w0 w g h r S L R y D E) (k : Below w.heap.size w w') : Both w0 w' g h r S L R y D E :=
  ⟨b.dev.below k, b.ref.below k, b.apart, b.below.trans (k.mono b.below.size)⟩
/-- What came in is there still, whatever the device's calls turn. -/
theorem Both.keeps {w0 w : World} {g h r : Nat} {S L R : Value} {y : Int} {D E : Dev} (b : Both w0 w g h r S L R y D E) {w' : World} (a : Apart (foot g h L) w w') : Below w0.heap.size w0 w' :=
  b.below.trans (a.below b.below.size fun k hk hf => by have := (b.dev.lt k hf).1; omega)
theorem Both.keepsRef {w0 w : World} {g h r : Nat} {S L R : Value} {y : Int} {D E : Dev} (b : Both w0 w g h r S L R y D E) {w' : World} (a : Apart (rfoot r S R) w w') : Below w0.heap.size w0 w' :=
  b.below.trans (a.below b.below.size fun k hk hf => by have := (b.ref.lt k hf).1; omega)
theorem owns_base {w : World} {B B' : Nat} {e : TypeId} {size : Nat} {v : Value} {n : Nat} {xs : List Value} (h : w.ownsRow B e size v n xs) (hB : B' ≤ B) : w.ownsRow B' e size v n xs := by
  refine ⟨h.1, ?_⟩
  rcases h.2 with h2 | ⟨k, cap, cur, e, hb0, rest⟩
  · exact .inl h2
  · exact .inr ⟨k, cap, cur, e, by omega, rest⟩
theorem IsRef.base {w : World} {B B' g : Nat} {S L : Value} {y : Int} {D : Dev} (d : IsRef w B g S L y D) (hB : B' ≤ B) : IsRef w B' g S L y D :=
  ⟨d.head, owns_base d.sure hB, owns_base d.own hB, by have := d.bg; omega, d.ns, d.nl, d.sl, d.size, d.loose, d.left⟩
/-- A new ref beside a device. -/
theorem Both.make {w0 w w' : World} {g h r : Nat} {S L R : Value} {y : Int} {D E : Dev} (d : IsDev w w0.heap.size g h L D) (hb : Below w0.heap.size w0 w) (d' : IsRef w' w.heap.size r S R y E) (k : Below w.heap.size w w') : Both w0 w' g h r S L R y D E where
  dev := d.below k
  ref := d'.base hb.size
  apart := fun i hi hr => by have h1 := (d.lt i hi).2; have h2 := (d'.lt i hr).1; omega
  below := hb.trans (k.mono hb.size)

theorem ints_later {w w' : World} {k : IntKind} {A : Option Addr} {n c : Nat} {Z : List Int} (h : IntsIn w k A n c Z) (b : Below w.heap.size w w') : IntsIn w' k A n c Z := h.below b

/-! ### Put -/
def ActData.wr (x : ActData) (i : Nat) : Wr := ⟨(x.z i).toNat, x.f i⟩
def Dev.putCode (D : Dev) (x : ActData) : Int := if D.off = true then 10 else if anyB x.n (shortB x.l) = true then 6 else if anyB x.n (beyondB D x.z) = true then 5 else D.putsCode x.wr x.n
def Dev.putDone (D : Dev) (x : ActData) : Dev := if D.off = true then D else if anyB x.n (shortB x.l) = true then D else if anyB x.n (beyondB D x.z) = true then D else (D.puts x.wr x.n).2
theorem putDone_same (D : Dev) (x : ActData) : (D.putDone x).size = D.size ∧ (D.putDone x).loose.length ≤ D.loose.length + x.n := by
  unfold Dev.putDone
  split
  · exact ⟨rfl, Nat.le_add_right _ _⟩
  · split
    · exact ⟨rfl, Nat.le_add_right _ _⟩
    · split
      · exact ⟨rfl, Nat.le_add_right _ _⟩
      · exact ⟨(puts_same D x.wr x.n).1, (puts_same D x.wr x.n).2.1⟩

def PutBoth (w0 w : World) (g h r : Nat) (S L R : Value) (y : Int) (D E : Dev) (x : ActData) (e : Ending) (w' : World) : Prop :=
  ∃ L', e = .returned (.int .i64 (D.putCode x)) ∧ Both w0 w' g h r S L' R y (D.putDone x) E ∧ Apart (foot g h L) w w'
theorem put_both {w0 w : World} {g h r : Nat} {S L R : Value} {y : Int} {D E : Dev} (b : Both w0 w g h r S L R y D E) {x : ActData} (s : WritesIn w0 x.A x.n x.z x.v x.l x.f) (hn : D.loose.length + x.n ≤ 1000000000000) :
    Calls Try.prog 12 #[.pointer (some ⟨g, 0, none⟩), .slice x.A x.n x.c] w (PutBoth w0 w g h r S L R y D E x) := by
  have hs : ∀ W, Apart (foot g h L) w W → WritesIn W x.A x.n x.z x.v x.l x.f := fun W a => s.below (b.keeps a)
  by_cases h1 : D.off = true
  · refine (put_down b.dev _ h1).mono ?_
    rintro e w' ⟨L', rfl, hd, ha, ho⟩
    exact ⟨L', by rw [Dev.putCode, if_pos h1], by rw [Dev.putDone, if_pos h1]; exact b.turn hd ha ho, ha⟩
  · have h1' : D.off = false := by simpa using h1
    by_cases h2 : anyB x.n (shortB x.l) = true
    · refine (put_len b.dev (s.below b.below) (by omega) h1' h2).mono ?_
      rintro e w' ⟨L', rfl, hd, ha, ho⟩
      exact ⟨L', by rw [Dev.putCode, if_neg h1, if_pos h2], by rw [Dev.putDone, if_neg h1, if_pos h2]; exact b.turn hd ha ho, ha⟩
    · have h2' : anyB x.n (shortB x.l) = false := by simpa using h2
      by_cases h3 : anyB x.n (beyondB D x.z) = true
      · refine (put_range b.dev (s.below b.below) (by omega) h1' h2' h3).mono ?_
        rintro e w' ⟨L', rfl, hd, ha, ho⟩
        exact ⟨L', by rw [Dev.putCode, if_neg h1, if_neg h2, if_pos h3], by rw [Dev.putDone, if_neg h1, if_neg h2, if_pos h3]; exact b.turn hd ha ho, ha⟩
      · have h3' : anyB x.n (beyondB D x.z) = false := by simpa using h3
        refine (put_ok b.dev hs hn h1' h2' h3').mono ?_
        rintro e w' ⟨L', rfl, hd, ha, ho⟩
        exact ⟨L', by rw [Dev.putCode, if_neg h1, if_neg h2, if_neg h3]; rfl, by rw [Dev.putDone, if_neg h1, if_neg h2, if_neg h3]; exact b.turn hd ha ho, ha⟩

def RPutBoth (w0 : World) (g h r : Nat) (S L : Value) (D E : Dev) (x : ActData) (e : Ending) (w' : World) : Prop :=
  ∃ R' y', e = .returned (.int .i64 (E.putCode x)) ∧ Both w0 w' g h r S L R' y' D (E.putDone x)
theorem refPut_both {w0 w : World} {g h r : Nat} {S L R : Value} {y : Int} {D E : Dev} (b : Both w0 w g h r S L R y D E) {x : ActData} (s : WritesIn w0 x.A x.n x.z x.v x.l x.f) (hn : E.loose.length + x.n ≤ 1000000000000) :
    Calls Try.prog 13 #[.pointer (some ⟨r, 0, none⟩), .slice x.A x.n x.c] w (RPutBoth w0 g h r S L D E x) := by
  have hs : ∀ W, Apart (rfoot r S R) w W → WritesIn W x.A x.n x.z x.v x.l x.f := fun W a => s.below (b.keepsRef a)
  by_cases h1 : E.off = true
  · refine (refPut_down b.ref _ h1).mono ?_
    rintro e w' ⟨R', y', rfl, hd, ha, ho⟩
    exact ⟨R', y', by rw [Dev.putCode, if_pos h1], by rw [Dev.putDone, if_pos h1]; exact b.turnRef hd ha ho⟩
  · have h1' : E.off = false := by simpa using h1
    by_cases h2 : anyB x.n (shortB x.l) = true
    · refine (refPut_len b.ref hs hn h1' h2).mono ?_
      rintro e w' ⟨R', y', rfl, hd, ha, ho⟩
      exact ⟨R', y', by rw [Dev.putCode, if_neg h1, if_pos h2], by rw [Dev.putDone, if_neg h1, if_pos h2]; exact b.turnRef hd ha ho⟩
    · have h2' : anyB x.n (shortB x.l) = false := by simpa using h2
      by_cases h3 : anyB x.n (beyondB E x.z) = true
      · refine (refPut_range b.ref hs hn h1' h2' h3).mono ?_
        rintro e w' ⟨R', y', rfl, hd, ha, ho⟩
        exact ⟨R', y', by rw [Dev.putCode, if_neg h1, if_neg h2, if_pos h3], by rw [Dev.putDone, if_neg h1, if_neg h2, if_pos h3]; exact b.turnRef hd ha ho⟩
      · have h3' : anyB x.n (beyondB E x.z) = false := by simpa using h3
        refine (refPut_ok b.ref hs hn h1' h2' h3' x.wr rfl).mono ?_
        rintro e w' ⟨R', y', rfl, hd, ha, ho⟩
        exact ⟨R', y', by rw [Dev.putCode, if_neg h1, if_neg h2, if_neg h3], by rw [Dev.putDone, if_neg h1, if_neg h2, if_neg h3]; exact b.turnRef hd ha ho⟩

/-! ### Get -/
def Dev.getCode (D : Dev) (z : Int) : Int := if D.off = true then 10 else if hasB D z = true then 0 else 5
def Dev.getText (D : Dev) (z : Int) : ByteArray := if D.off = true then ⟨#[]⟩ else if hasB D z = true then str (D.view z.toNat) 64 else ⟨#[]⟩
def GetBoth (w : World) (D : Dev) (z : Int) (e : Ending) (w' : World) : Prop :=
  ∃ A n c, e = .returned (.tuple #[.slice A n c, .int .i64 (D.getCode z)]) ∧ (∀ W, Below w'.heap.size w' W → (convert 37 9 (.slice A n c)).run Try.prog W = .ok (.string (D.getText z)) W) ∧ Below w.heap.size w w'
theorem get_both {w : World} {base g h : Nat} {L : Value} {D : Dev} (d : IsDev w base g h L D) (z : Int) :
    Calls Try.prog 14 #[.pointer (some ⟨g, 0, none⟩), .int .i64 z] w (GetBoth w D z) := by
  by_cases h1 : D.off = true
  · refine (get_down d z h1).mono ?_
    rintro e w' ⟨rfl, rfl⟩
    exact ⟨none, 0, 0, by rw [Dev.getCode, if_pos h1], fun W _ => by rw [Dev.getText, if_pos h1]; exact conv_nil W 0, Below.refl _ _⟩
  · have h1' : D.off = false := by simpa using h1
    by_cases h2 : hasB D z = true
    · obtain ⟨t, rfl, ht⟩ := has_spec h2
      refine (get_ok d h1' ht).mono ?_
      rintro e w' ⟨k, rfl, hk, hkw, hb⟩
      refine ⟨_, _, _, by rw [Dev.getCode, if_neg h1, if_pos h2], fun W hW => ?_, hb⟩
      rw [Dev.getText, if_neg h1, if_pos h2]
      exact conv_str 64 (got_bytes (hk.below hW) (d.small ht))
    · have h2' : hasB D z = false := by simpa using h2
      refine (get_range d z h1' h2').mono ?_
      rintro e w' ⟨rfl, rfl⟩
      exact ⟨none, 0, 0, by rw [Dev.getCode, if_neg h1, if_neg h2], fun W _ => by rw [Dev.getText, if_neg h1, if_neg h2]; exact conv_nil W 0, Below.refl _ _⟩
theorem refGet_both {w : World} {B g : Nat} {S L : Value} {y : Int} {D : Dev} (d : IsRef w B g S L y D) (z : Int) :
    Calls Try.prog 15 #[.pointer (some ⟨g, 0, none⟩), .int .i64 z] w fun e w' => e = .returned (.tuple #[.string (D.getText z), .int .i64 (D.getCode z)]) ∧ w = w' := by
  by_cases h1 : D.off = true
  · refine (refGet_down d z h1).mono ?_
    rintro e w' ⟨rfl, rfl⟩
    exact ⟨by rw [Dev.getCode, Dev.getText, if_pos h1, if_pos h1], rfl⟩
  · have h1' : D.off = false := by simpa using h1
    by_cases h2 : hasB D z = true
    · obtain ⟨t, rfl, ht⟩ := has_spec h2
      refine (refGet_ok d h1' ht).mono ?_
      rintro e w' ⟨rfl, rfl⟩
      exact ⟨by rw [Dev.getCode, Dev.getText, if_neg h1, if_neg h1, if_pos h2, if_pos h2]; rfl, rfl⟩
    · have h2' : hasB D z = false := by simpa using h2
      refine (refGet_range d z h1' h2').mono ?_
      rintro e w' ⟨rfl, rfl⟩
      exact ⟨by rw [Dev.getCode, Dev.getText, if_neg h1, if_neg h1, if_neg h2, if_neg h2], rfl⟩

/-! ### Flush, Crash, Fail -/
def Dev.flushCode (D : Dev) : Int := if D.power.1 = true then 0 else 10
def Dev.flushDone (D : Dev) : Dev := if D.power.1 = true then D.power.2.settle (fun _ => true) else D.power.2
theorem flushDone_same (D : Dev) : D.flushDone.size = D.size ∧ D.flushDone.loose.length ≤ D.loose.length := by
  obtain ⟨p1, p2, -⟩ := power_same D
  unfold Dev.flushDone
  split
  · exact ⟨p1, Nat.zero_le _⟩
  · exact ⟨p1, by rw [p2]; exact Nat.le_refl _⟩
theorem flush_both {w0 w : World} {g h r : Nat} {S L R : Value} {y : Int} {D E : Dev} (b : Both w0 w g h r S L R y D E) :
    Calls Try.prog 16 #[.pointer (some ⟨g, 0, none⟩)] w fun e w' => ∃ L', e = .returned (.int .i64 D.flushCode) ∧ Both w0 w' g h r S L' R y D.flushDone E := by
  refine (flush_any b.dev).mono ?_
  rintro e w' ⟨ha, hr⟩
  have ha' : Apart (foot g h L) w w' := ha.mono fun k _ e => by
    rcases e with e | e
    · exact .inl e
    · exact .inr (.inl e)
  rcases hr with ⟨hp, rfl, hd⟩ | ⟨hp, rfl, hd⟩
  · exact ⟨_, by rw [Dev.flushCode, if_pos hp], by rw [Dev.flushDone, if_pos hp]; exact b.turn hd ha' (by intro k e; cases e)⟩
  · exact ⟨_, by rw [Dev.flushCode, if_neg (by rw [hp]; simp)], by rw [Dev.flushDone, if_neg (by rw [hp]; simp)]; exact b.turn hd ha' (fun k e => .inl e)⟩
theorem refFlush_both {w0 w : World} {g h r : Nat} {S L R : Value} {y : Int} {D E : Dev} (b : Both w0 w g h r S L R y D E) :
    Calls Try.prog 17 #[.pointer (some ⟨r, 0, none⟩)] w fun e w' => ∃ R' y', e = .returned (.int .i64 E.flushCode) ∧ Both w0 w' g h r S L R' y' D E.flushDone := by
  refine (refFlush_any b.ref).mono ?_
  rintro e w' ⟨ha, y', hr⟩
  rcases hr with ⟨hp, rfl, hd⟩ | ⟨hp, rfl, hd⟩
  · exact ⟨_, _, by rw [Dev.flushCode, if_pos hp], by rw [Dev.flushDone, if_pos hp]; exact b.turnRef hd ha (by intro k e; cases e)⟩
  · exact ⟨_, _, by rw [Dev.flushCode, if_neg (by rw [hp]; simp)], by rw [Dev.flushDone, if_neg (by rw [hp]; simp)]; exact b.turnRef hd ha (fun k e => .inl e)⟩
theorem crash_both {w0 w : World} {g h r : Nat} {S L R : Value} {y : Int} {D E : Dev} (b : Both w0 w g h r S L R y D E) {A : Option Addr} {n c : Nat} {Z : List Int} (s : IntsIn w0 .i64 A n c Z) (hm : D.loose.length ≤ 281474976710656) :
    Calls Try.prog 19 #[.pointer (some ⟨g, 0, none⟩), .slice A n c] w fun e w' => e = .returned (.tuple #[]) ∧ Both w0 w' g h r S (.slice none 0 0) R y (D.crash Z) E ∧ Apart (foot g h L) w w' := by
  refine (crash_any b.dev (s.below b.below) hm).mono ?_
  rintro e w' ⟨rfl, hd, ha⟩
  have ha' : Apart (foot g h L) w w' := ha.mono fun k _ e => by
    rcases e with e | e
    · exact .inl e
    · exact .inr (.inl e)
  exact ⟨rfl, b.turn hd ha' (by intro k e; cases e), ha'⟩
theorem refCrash_both {w0 w : World} {g h r : Nat} {S L R : Value} {y : Int} {D E : Dev} (b : Both w0 w g h r S L R y D E) {A : Option Addr} {n c : Nat} {Z : List Int} (s : IntsIn w0 .i64 A n c Z) :
    Calls Try.prog 20 #[.pointer (some ⟨r, 0, none⟩), .slice A n c] w fun e w' => e = .returned (.tuple #[]) ∧ Both w0 w' g h r S L (.slice none 0 0) (-1) D (E.crash Z) := by
  refine (refCrash_any b.ref (fun W a => s.below (b.keepsRef a))).mono ?_
  rintro e w' ⟨rfl, hd, ha⟩
  exact ⟨rfl, b.turnRef hd ha (by intro k e; cases e)⟩
def Dev.failed (D : Dev) (z : Int) : Dev := { D with limited := decide (0 ≤ z), left := z }
theorem fail_both {w0 w : World} {g h r : Nat} {S L R : Value} {y : Int} {D E : Dev} (b : Both w0 w g h r S L R y D E) {z : Int} (hz : -9223372036854775808 ≤ z ∧ z ≤ 9223372036854775807) :
    Calls Try.prog 18 #[.pointer (some ⟨g, 0, none⟩), .int .i64 z] w fun e w' => e = .returned (.tuple #[]) ∧ Both w0 w' g h r S L R y (D.failed z) E ∧ Apart (foot g h L) w w' := by
  refine (fail_any b.dev z hz).mono ?_
  rintro e w' ⟨rfl, hd, ha⟩
  have ha' : Apart (foot g h L) w w' := ha.mono fun k _ e => .inl e
  exact ⟨rfl, b.turn hd ha' (fun k e => .inl e), ha'⟩
theorem left_both {w0 w : World} {g h r : Nat} {S L R : Value} {y : Int} {D E : Dev} (b : Both w0 w g h r S L R y D E) {z : Int} (hz : -9223372036854775808 ≤ z ∧ z ≤ 9223372036854775807) : Both w0 (w.setCell ⟨r, 2, none⟩ (.int .i64 z)) g h r S L R z D (E.failed z) := by
  have ha := apart_set w r 2 (.int .i64 z)
  refine b.turnRef (b.ref.head_ ha (by rw [heap_setCell_same w r 2 _ _ _ b.ref.head]; rfl) rfl rfl rfl ⟨fun h => ⟨rfl, ?_⟩, fun h => ?_, hz.1, hz.2⟩) (ha.mono fun k _ e => .inl e) (fun k e => .inl e)
  · simpa [Dev.failed] using h
  · have : decide (0 ≤ z) = false := h
    simpa using this
end Go.Proofs.Ytcnoadikkfedaaa
