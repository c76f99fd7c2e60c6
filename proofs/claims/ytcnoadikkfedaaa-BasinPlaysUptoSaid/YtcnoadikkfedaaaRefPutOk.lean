/- The document's own device: Put, performed. -/
import Derived.Test.YtcnoadikkfedaaaRefPut
namespace Go.Proofs.Ytcnoadikkfedaaa
open Go.RowKit

theorem cell_grown {w w7 : World} {p : Addr} {v : Value} {own : Option Nat} (hg : w.grownBy w7 own) (h : w.cell? p = some v) (hn : own ≠ some p.block) : w7.cell? p = some v := by
  rw [World.cell?_of_block (hg.block p.block (World.block_lt_of_cell? w _ h) (fun e => hn e.symm))]; exact h
/-- As long as all are performed the power is on. -/
theorem puts_on {D : Dev} {x : Nat → Wr} (h : D.off = false) : ∀ i, (D.puts x i).1 = true → (D.puts x i).2.off = false
  | 0, _ => h
  | i + 1, hp => by
    by_cases h1 : (D.puts x i).1 = true
    · have h2 := puts_on h i h1
      by_cases h3 : (D.puts x i).2.power.1 = true
      · rw [power_pushed h1 h3]
        show (D.puts x i).2.power.2.off = false
        unfold Dev.power at h3 ⊢
        rw [if_neg (by rw [h2]; simp)] at h3 ⊢
        split
        · exact h2
        · rename_i h4
          rw [if_neg h4] at h3
          split
          · rename_i h5; rw [if_pos h5] at h3; cases h3
          · exact h2
      · have h6 : D.puts x (i + 1) = (false, (D.puts x i).2.power.2) := by
          show (if (D.puts x i).1 = true then (D.puts x i).2.put1 (x i) else D.puts x i) = _
          rw [if_pos h1]
          unfold Dev.put1
          rw [if_neg h3]
        rw [h6] at hp; cases hp
    · have h6 : D.puts x (i + 1) = D.puts x i := by
        show (if (D.puts x i).1 = true then (D.puts x i).2.put1 (x i) else D.puts x i) = _
        rw [if_neg h1]
      rw [h6] at hp
      exact absurd hp h1

set_option maxHeartbeats 1600000 in
theorem refPut_ok {w : World} {B g : Nat} {S L : Value} {y : Int} {D : Dev} (d : IsRef w B g S L y D) {A : Option Addr} {n c : Nat} {z : Nat → Int} {v : Nat → Value} {l : Nat → Nat} {f : Nat → Nat → Nat} (s : ∀ W, Apart (rfoot g S L) w W → WritesIn W A n z v l f)
    (hn : D.loose.length + n ≤ 1000000000000) (ho : D.off = false) (hl : anyB n (shortB l) = false) (hr : anyB n (beyondB D z) = false) (x : Nat → Wr) (hx : x = fun i => ⟨(z i).toNat, f i⟩) :
    Calls Try.prog 13 #[.pointer (some ⟨g, 0, none⟩), .slice A n c] w (RWritten w B g S L (D.puts x n).2 (D.putsCode x n)) := by
  obtain ⟨c0, -, -, c3, -⟩ := d.cells
  obtain ⟨AS, capS, rfl, hS1, hS2, -⟩ := own_slice d.sure
  rw [ho] at c3
  have hs := d.size
  have HD := Lib.hid d
  have HS := Lib.hid s
  have HL := Lib.hid hl
  have HR := Lib.hid hr
  have HX := Lib.hid hx
  have HO := Lib.hid ho
  obtain ⟨i9, j0, j1, j2, j3⟩ := info_parts rwrite_info
  have I9 := Lib.hid (And.intro j0 (And.intro j1 (And.intro j2 j3)))
  clear d s hl hr hx j0 j1 j2 j3
  go_enter Try.func13, Try.ntmps13
  go_wp2
  go_loop [5] (fun u => ∃ i : Nat, i ≤ n ∧ u = .int .i64 (i : Int) ∧ ∀ j, j < i → shortB l j = false) (fun u => n - (intOf u).toNat)
  case atStart => exact ⟨0, Nat.zero_le _, rfl, fun j hj => absurd hj (by omega)⟩
  case round =>
    obtain ⟨i, hi, rfl, hno⟩ := hrel
    have HN := Lib.hid hno
    clear hno
    by_cases h0 : i < n
    · have s1 := HS.out w (Apart.refl _ _)
      obtain ⟨ad, rfl, e0, k1⟩ := s1.cell i h0
      obtain ⟨Av, cv, hv, -⟩ := s1.data i h0
      rw [← Addr.add_add, hv] at k1
      have e1 : w.cell? ⟨(ad.add (i * 2)).block, (ad.add (i * 2)).off + 1, none⟩ = some (.slice Av (l i) cv) := k1
      clear s1 e0 k1 hv
      have hl64 : l i = 64 := by
        have := anyB_false HL.out h0
        unfold shortB at this
        simpa using this
      rw [hl64] at e1
      have HE : Hid (shortB l i = false) := Lib.hid (anyB_false HL.out h0)
      clear hl64
      go_wp2
      clear e1
      go_round
      case rel => exact ⟨i + 1, by omega, by go_num, fun j hj => by
        rcases Nat.lt_or_ge j i with h5 | h5
        · exact HN.out j h5
        · obtain rfl : j = i := by omega
          exact HE.out⟩
      case measure => simp [intOf]; omega
    · obtain rfl : n = i := by omega
      go_wp2
      go_loopw [6] (fun u wr => ∃ i : Nat, i ≤ n ∧ u = .int .i64 (i : Int) ∧ (∀ j, j < i → beyondB D z j = false) ∧ ∃ q, w.drewN q = wr) (fun u _ => n - (intOf u).toNat)
      case atStart => exact ⟨0, Nat.zero_le _, rfl, fun j hj => absurd hj (by omega), 0, rfl⟩
      case round =>
        obtain ⟨i, hi, rfl, hno, q, rfl⟩ := hrel
        have HN2 := Lib.hid hno
        clear hno
        by_cases h0 : i < n
        · have s1 := HS.out w (Apart.refl _ _)
          obtain ⟨ad, rfl, e0, k1⟩ := s1.cell i h0
          have hzr := s1.range i h0
          have i0 : (i : Int) < (n : Int) := by omega
          have i1 : (0 : Int) ≤ (i : Int) := by omega
          clear s1 k1
          obtain ⟨t, hzt, htD⟩ := has_spec (by
            have := anyB_false HR.out h0
            unfold beyondB at this
            simpa using this : hasB D (z i) = true)
          have HE : Hid (beyondB D z i = false) := Lib.hid (anyB_false HR.out h0)
          rw [hzt] at e0
          have d0 : decide ((t : Int) < 0) = false := by simp
          have d1 : decide ((D.size : Int) ≤ (t : Int)) = false := by simp; omega
          clear hzt hzr
          go_wp2_with fail
          go_quiet (fail)
          go_wp2
          clear e0 d0 d1
          go_roundw
          case rel => exact ⟨i + 1, by omega, by go_num, fun j hj => by
            rcases Nat.lt_or_ge j i with h5 | h5
            · exact HN2.out j h5
            · obtain rfl : j = i := by omega
              exact HE.out, _, rfl⟩
          case measure => simp [intOf]; omega
        · obtain rfl : n = i := by omega
          go_wp2
          clear c0 c3
          go_loopw [7] (fun u wr => RPutting w B g (.slice AS D.size capS) L D x n u wr) (fun u _ => n - (intOf u).toNat)
          case atStart =>
            have h6 : Below w.heap.size w (w.drewN q) := below_drewN (Below.refl _ _) q
            exact ⟨0, L, y, Nat.zero_le _, rfl, rfl, HD.out.below h6, Apart.of_below h6, fun k e => .inl e⟩
          case round =>
            obtain ⟨i, L', y', hi, rfl, hp, hd, ha, hown⟩ := hrel
            have D1 := Lib.hid hd
            have A1 := Lib.hid ha
            have O1 := Lib.hid hown
            have P1 := Lib.hid hp
            have hoff : (D.puts x i).2.off = false ∨ (D.puts x i).2.off = true := by cases (D.puts x i).2.off <;> simp
            clear hd ha hown hp
            by_cases h0 : i < n
            · have s1 := HS.out wr A1.out
              obtain ⟨ad, rfl, e0, k1⟩ := s1.cell i h0
              obtain ⟨Av, cv, hv, -⟩ := s1.data i h0
              have hl64 : l i = 64 := by
                have := anyB_false HL.out h0
                unfold shortB at this
                simpa using this
              rw [hl64] at hv
              obtain ⟨t, hzt, htD⟩ := has_spec (by
                have := anyB_false HR.out h0
                unfold beyondB at this
                simpa using this : hasB D (z i) = true)
              have HV := Lib.hid hv
              have HT := Lib.hid hzt
              have H64 := Lib.hid hl64
              have OF : Hid ((D.puts x i).2.off = false) := Lib.hid (puts_on HO.out i P1.out)
              have i0 : (i : Int) < (n : Int) := by omega
              have i1 : (0 : Int) ≤ (i : Int) := by omega
              clear s1 e0 k1 hv hzt hl64 hoff
              go_wp2_with fail
              refine (spend_any D1.out OF.out).mono ?_
              rintro e w4 ⟨y4, rfl, hd, ha⟩
              have D4 := Lib.hid hd
              have A4 : Hid (Apart (rfoot g (.slice AS D.size capS) L) w w4) := Lib.hid (A1.out.trans ha fun _ _ e => .inl e)
              clear hd ha
              by_cases hpw : (D.puts x i).2.power.1 = true
              · have PW := Lib.hid hpw
                rw [hpw]
                have E0 : Hid (∀ w', Apart (rfoot g (.slice AS D.size capS) L) w w' → w'.cell? (ad.add (i * 2)) = some (.int .i64 (t : Int))) := Lib.hid (fun w' hw => by
                  obtain ⟨ad', had, e0, -⟩ := (HS.out w' hw).cell i h0
                  obtain rfl := Option.some.inj had
                  rwa [HT.out] at e0)
                have E1 : Hid (∀ w', Apart (rfoot g (.slice AS D.size capS) L) w w' → w'.cell? ⟨(ad.add (i * 2)).block, (ad.add (i * 2)).off + 1, none⟩ = some (.slice Av 64 cv)) := Lib.hid (fun w' hw => by
                  obtain ⟨ad', had, -, k1⟩ := (HS.out w' hw).cell i h0
                  obtain rfl := Option.some.inj had
                  rw [← Addr.add_add, HV.out] at k1
                  exact k1)
                obtain ⟨T, hT⟩ : ∃ T, T = str (f i) 64 := ⟨_, rfl⟩
                have KC : Hid (∀ w', Apart (rfoot g (.slice AS D.size capS) L) w w' → (convert 37 9 (.slice Av 64 cv)).run Try.prog w' = .ok (.string T) w') := Lib.hid (fun w' hw => by
                  obtain ⟨Av', cv', hv', -, -, -, hby⟩ := (HS.out w' hw).data i h0
                  rw [HV.out, H64.out] at hv'
                  obtain ⟨rfl, -, rfl⟩ : Av = Av' ∧ 64 = 64 ∧ cv = cv' := by simpa using hv'
                  rw [H64.out] at hby
                  rw [hT]
                  exact conv_str cv hby)
                have HTT := Lib.hid hT
                obtain ⟨-, c1, -, -, cf⟩ := D4.out.cells
                have f1 := cf 1
                have D4d := Lib.hid (D4.out.below ((Below.refl _ _).drew))
                have bx : Hid (Below w4.heap.size w4 (w4.alloc (.cells #[.int .i64 (t : Int), .string T] 71))) := Lib.hid ((Below.refl _ _).alloc (Nat.le_refl _) _)
                have c1a : (w4.alloc (.cells #[.int .i64 (t : Int), .string T] 71)).cell? ⟨g, 1, none⟩ = some L' := cell_later bx.out c1
                have C1 := Lib.hid c1a
                have F1 := Lib.hid (D4.out.below bx.out).cells.2.2.2.2
                have WO := Lib.hid (World.ownsRow.alloc D4d.out.own (.cells #[.int .i64 (t : Int), .string T] 71))
                have NW : Hid (∀ j u, [Value.int .i64 (t : Int), .string T][j]? = some u → (w4.drew.alloc (.cells #[.int .i64 (t : Int), .string T] 71)).cell? ((⟨w4.heap.size, 0, none⟩ : Addr).add j) = some u) := Lib.hid (fun j u hu => World.news_of_block (cs := #[.int .i64 (t : Int), .string T]) (heap_alloc_new w4.drew _) j u hu)
                have OC : Hid (∀ u ∈ [Value.int .i64 (t : Int), .string T], u.oneCell' = true) := Lib.hid (fun u hu => by
                  rcases List.mem_cons.1 hu with rfl | hu
                  · rfl
                  · rw [List.mem_singleton] at hu; subst hu; rfl)
                have LN : Hid ((D.puts x i).2.power.2.loose.length ≤ 1000000000000) := Lib.hid (by
                  have h1 := (puts_same D x i).2.1
                  have h2 := (power_same (D.puts x i).2).2.1
                  rw [h2]; omega)
                have GL := Lib.hid ((D4.out.lt g (.inl rfl)))
                have BW : Hid (B ≤ (w4.drew.alloc (.cells #[.int .i64 (t : Int), .string T] 71)).heap.size) := Lib.hid (by have := GL.out; simp; omega)
                have GS : Hid (g < (w4.alloc (.cells #[.int .i64 (t : Int), .string T] 71)).heap.size) := Lib.hid (by have := GL.out; simp; omega)
                have XI : Hid ((⟨t, f i⟩ : Wr).at_ < (D.puts x i).2.power.2.size) := Lib.hid (by
                  have h1 := (puts_same D x i).1
                  have h2 := (power_same (D.puts x i).2).1
                  show t < _
                  rw [h2, h1]; exact htD)
                have A4s := Lib.hid A4.out.size
                clear hT cf hpw
                go_wp2
                refine wp_region_noPanic ?_
                refine wp_region_held_drew (S := fun w' => Apart (rfoot g (.slice AS D.size capS) L) w w') (by kernel_rfl) A4.out.drew (fun hH => ?_)
                refine wpAnyH_take (i := 0) (v := .pointer (some ⟨g, 0, none⟩)) rfl (by kernel_rfl) (by kernel_rfl) (by kernel_rfl) (fun _ _ _ h => h) (Or.inl ⟨by rfl, fun w' hS => by go_simp⟩) hH ?_
                simp only [Act.put, List.setIfInBounds_toArray]
                refine wpAnyH_take (i := 1) (v := .pointer (some ⟨g, 0, none⟩)) rfl (by kernel_rfl) (by kernel_rfl) (by kernel_rfl) (fun _ _ _ h => h) (Or.inl ⟨by rfl, fun w' hS => by go_simp⟩) hH ?_
                simp only [Act.put]
                refine wpAnyH_take (i := 2) (v := .pointer (some ⟨g, 0, none⟩)) rfl (by kernel_rfl) (by kernel_rfl) (by kernel_rfl) (fun _ _ _ h => h) (Or.inl ⟨by rfl, fun w' hS => by go_simp⟩) hH ?_
                simp only [Act.put]
                refine wpAnyH_take (i := 3) (v := .pointer (some ⟨g, 1, none⟩)) rfl (by kernel_rfl) (by kernel_rfl) (by kernel_rfl) (fun _ _ _ h => h) (Or.inl ⟨by rfl, fun w' hS => by go_simp⟩) hH ?_
                simp only [Act.put]
                refine wpAnyH_take (i := 5) (v := .slice (some ad) n c) rfl (by kernel_rfl) (by kernel_rfl) (by kernel_rfl) (fun _ _ _ h => h) (Or.inl ⟨by rfl, fun w' hS => by go_simp⟩) hH ?_
                simp only [Act.put]
                refine wpAnyH_take (i := 6) (v := .int .i64 (i : Int)) rfl (by kernel_rfl) (by kernel_rfl) (by kernel_rfl) (fun _ _ _ h => h) (Or.inl ⟨by rfl, fun w' hS => by go_simp⟩) hH ?_
                simp only [Act.put]
                refine wpAnyH_take (i := 7) (v := .pointer (some (ad.add (i * 2)))) rfl (by kernel_rfl) (by kernel_rfl) (by kernel_rfl) (fun _ _ _ h => h) (Or.inl ⟨by rfl, fun w' hS => by go_simp⟩) hH ?_
                simp only [Act.put]
                refine wpAnyH_take (i := 8) (v := .pointer (some (ad.add (i * 2)))) rfl (by kernel_rfl) (by kernel_rfl) (by kernel_rfl) (fun _ _ _ h => h) (Or.inl ⟨by rfl, fun w' hS => by go_simp⟩) hH ?_
                simp only [Act.put]
                refine wpAnyH_take (i := 9) (v := .int .i64 (t : Int)) rfl (by kernel_rfl) (by kernel_rfl) (by kernel_rfl) (fun _ _ _ h => h) (Or.inl ⟨by rfl, fun w' hS => by have s1 := E0.out w' hS; go_simp⟩) hH ?_
                simp only [Act.put]
                refine wpAnyH_take (i := 10) (v := .slice (some ad) n c) rfl (by kernel_rfl) (by kernel_rfl) (by kernel_rfl) (fun _ _ _ h => h) (Or.inl ⟨by rfl, fun w' hS => by go_simp⟩) hH ?_
                simp only [Act.put]
                refine wpAnyH_take (i := 11) (v := .int .i64 (i : Int)) rfl (by kernel_rfl) (by kernel_rfl) (by kernel_rfl) (fun _ _ _ h => h) (Or.inl ⟨by rfl, fun w' hS => by go_simp⟩) hH ?_
                simp only [Act.put]
                refine wpAnyH_take (i := 12) (v := .pointer (some (ad.add (i * 2)))) rfl (by kernel_rfl) (by kernel_rfl) (by kernel_rfl) (fun _ _ _ h => h) (Or.inl ⟨by rfl, fun w' hS => by go_simp⟩) hH ?_
                simp only [Act.put]
                refine wpAnyH_take (i := 13) (v := .pointer (some ⟨(ad.add (i * 2)).block, (ad.add (i * 2)).off + 1, none⟩)) rfl (by kernel_rfl) (by kernel_rfl) (by kernel_rfl) (fun _ _ _ h => h) (Or.inl ⟨by rfl, fun w' hS => by go_simp⟩) hH ?_
                simp only [Act.put]
                refine wpAnyH_take (i := 14) (v := .slice Av 64 cv) rfl (by kernel_rfl) (by kernel_rfl) (by kernel_rfl) (fun _ _ _ h => h) (Or.inl ⟨by rfl, fun w' hS => by have s1 := E1.out w' hS; go_simp⟩) hH ?_
                simp only [Act.put]
                refine wpAnyH_take (i := 15) (v := .string T) rfl (by kernel_rfl) (by kernel_rfl) (by kernel_rfl) (fun _ _ _ h => h) (Or.inl ⟨by rfl, fun w' hS => by have s1 := KC.out w' hS; go_simp⟩) hH ?_
                simp only [Act.put]
                refine wpAnyH_take (i := 16) (v := .agg #[.int .i64 (t : Int), .string T]) rfl (by kernel_rfl) (by kernel_rfl) (by kernel_rfl) (fun _ _ _ h => h) (Or.inl ⟨by rfl, fun w' hS => by go_simp⟩) hH ?_
                simp only [Act.put]
                refine wpAnyH_ready (rs := [4, 17]) (by kernel_rfl) (by simp) ?_
                refine AllReadyH.cons rfl (fun K hK => ?_) ?_
                · go_simp
                  refine hK.out _ _ hH (fun hH => ?_)
                  clear hK K
                  refine wpAnyH_ready (rs := [17]) (by kernel_rfl) (by simp) ?_
                  refine AllReadyH.cons rfl (fun K hK => ?_) AllReadyH.nil
                  go_simp
                  refine hK.out _ (w4.drew.alloc (.cells #[.int .i64 (t : Int), .string T] 71)) (hH.alloc _) (fun hH => ?_)
                  clear hK K
                  refine wpAnyH_ready (rs := [18]) (by kernel_rfl) (by simp) ?_
                  refine AllReadyH.cons rfl (fun K hK => ?_) AllReadyH.nil
                  refine step_append_lies _ rfl (.tmp 62) (.tmp 75) 45 rfl B 71 i9 (.agg #[.int .i64 0, .string ⟨#[]⟩]) 2 24 Try.underlying45 I9.out.1 I9.out.2.1 I9.out.2.2.1 I9.out.2.2.2 rfl (by omega) L' _ _ rfl WO.out ⟨w4.heap.size, 0, none⟩ 1 1 [.int .i64 (t : Int), .string T] rfl rfl NW.out OC.out (by omega) (by have := LN.out; unfold maxLen; omega) (by have := LN.out; omega) BW.out _ rfl ?_
                  intro g7 cap7 w7 hown7 hgrow7 hat7 hlt7
                  have P7 := Lib.hid (D4d.out.pushed (x := ⟨t, f i⟩) hgrow7 (by rw [show rwcells ⟨t, f i⟩ = [.int .i64 (t : Int), .string T] by rw [HTT.out]; rfl]; exact hown7) hat7 XI.out)
                  have k7 := keep_cell hgrow7 C1.out GS.out D4.out.nl
                  have f7 := keep_free hgrow7 (F1.out 1) GS.out D4.out.nl
                  have A7 : Hid (Apart (rfoot g (.slice AS D.size capS) L) w w7) := Lib.hid (((A4.out.drew).alloc _).trans (G := fun k => L'.ownBlock = some k) ⟨hgrow7.os, hgrow7.tape, hgrow7.output, hgrow7.size, fun k hk hne => hgrow7.block k hk (fun e => hne e.symm)⟩ fun k hk e => by
                    rcases O1.out k e with h5 | h5
                    · exact .inr (.inr h5)
                    · omega)
                  refine hK.out _ _ A7.out (fun hH => ?_)
                  clear hK K hown7 hgrow7 hat7 hlt7
                  refine wpAnyH_take (i := 19) (v := .pointer (some ⟨g, 0, none⟩)) rfl (by kernel_rfl) (by kernel_rfl) (by kernel_rfl) (fun _ _ _ h => h) (Or.inl ⟨by rfl, fun w' hS => by go_simp⟩) hH ?_
                  refine wpAnyH_take (i := 20) (v := .pointer (some ⟨g, 1, none⟩)) rfl (by kernel_rfl) (by kernel_rfl) (by kernel_rfl) (fun _ _ _ h => h) (Or.inl ⟨by rfl, fun w' hS => by go_simp⟩) hH ?_
                  refine wpAnyH_ready (rs := [21]) (by kernel_rfl) (by simp) ?_
                  refine AllReadyH.cons rfl (fun K hK => ?_) AllReadyH.nil
                  go_simp
                  refine hK.out _ _ (A7.out.setCell (p := ⟨g, 1, none⟩) (fun _ => .inl rfl) _) (fun hH => ?_)
                  have A8 := Lib.hid hH
                  clear hK K k7 f7 hH
                  refine wpAnyH_done (by kernel_rfl) ?_ _
                  refine NoPanic.normal ?_
                  go_wp2
                  go_roundw
                  case rel =>
                    have hxi : x i = ⟨t, f i⟩ := by rw [HX.out]; show (⟨(z i).toNat, f i⟩ : Wr) = _; rw [HT.out]; rfl
                    have hpp := power_pushed P1.out PW.out
                    rw [hxi] at hpp
                    refine ⟨i + 1, _, y4, by omega, by go_num, by rw [hpp], by rw [hpp]; exact P7.out.1, A8.out, fun k e => ?_⟩
                    have hk : k = g7 := by simp [Value.ownBlock] at e; exact e.symm
                    subst hk
                    rcases P7.out.2.2 with h5 | h5
                    · exact O1.out _ h5
                    · exact .inr (by have := A4s.out; have h6 : w4.heap.size ≤ k := h5; omega)
                  case measure => simp [intOf]; omega
                · refine AllReadyH.cons rfl (fun K hK => ?_) AllReadyH.nil
                  go_simp
                  refine hK.out _ (w4.drew.alloc (.cells #[.int .i64 (t : Int), .string T] 71)) (hH.alloc _) (fun hH => ?_)
                  clear hK K
                  refine wpAnyH_ready (rs := [4]) (by kernel_rfl) (by simp) ?_
                  refine AllReadyH.cons rfl (fun K hK => ?_) AllReadyH.nil
                  go_simp
                  refine hK.out _ (w4.drew.alloc (.cells #[.int .i64 (t : Int), .string T] 71)) hH (fun hH => ?_)
                  clear hK K
                  refine wpAnyH_ready (rs := [18]) (by kernel_rfl) (by simp) ?_
                  refine AllReadyH.cons rfl (fun K hK => ?_) AllReadyH.nil
                  refine step_append_lies _ rfl (.tmp 62) (.tmp 75) 45 rfl B 71 i9 (.agg #[.int .i64 0, .string ⟨#[]⟩]) 2 24 Try.underlying45 I9.out.1 I9.out.2.1 I9.out.2.2.1 I9.out.2.2.2 rfl (by omega) L' _ _ rfl WO.out ⟨w4.heap.size, 0, none⟩ 1 1 [.int .i64 (t : Int), .string T] rfl rfl NW.out OC.out (by omega) (by have := LN.out; unfold maxLen; omega) (by have := LN.out; omega) BW.out _ rfl ?_
                  intro g7 cap7 w7 hown7 hgrow7 hat7 hlt7
                  have P7 := Lib.hid (D4d.out.pushed (x := ⟨t, f i⟩) hgrow7 (by rw [show rwcells ⟨t, f i⟩ = [.int .i64 (t : Int), .string T] by rw [HTT.out]; rfl]; exact hown7) hat7 XI.out)
                  have k7 := keep_cell hgrow7 C1.out GS.out D4.out.nl
                  have f7 := keep_free hgrow7 (F1.out 1) GS.out D4.out.nl
                  have A7 : Hid (Apart (rfoot g (.slice AS D.size capS) L) w w7) := Lib.hid (((A4.out.drew).alloc _).trans (G := fun k => L'.ownBlock = some k) ⟨hgrow7.os, hgrow7.tape, hgrow7.output, hgrow7.size, fun k hk hne => hgrow7.block k hk (fun e => hne e.symm)⟩ fun k hk e => by
                    rcases O1.out k e with h5 | h5
                    · exact .inr (.inr h5)
                    · omega)
                  refine hK.out _ _ A7.out (fun hH => ?_)
                  clear hK K hown7 hgrow7 hat7 hlt7
                  refine wpAnyH_take (i := 19) (v := .pointer (some ⟨g, 0, none⟩)) rfl (by kernel_rfl) (by kernel_rfl) (by kernel_rfl) (fun _ _ _ h => h) (Or.inl ⟨by rfl, fun w' hS => by go_simp⟩) hH ?_
                  refine wpAnyH_take (i := 20) (v := .pointer (some ⟨g, 1, none⟩)) rfl (by kernel_rfl) (by kernel_rfl) (by kernel_rfl) (fun _ _ _ h => h) (Or.inl ⟨by rfl, fun w' hS => by go_simp⟩) hH ?_
                  refine wpAnyH_ready (rs := [21]) (by kernel_rfl) (by simp) ?_
                  refine AllReadyH.cons rfl (fun K hK => ?_) AllReadyH.nil
                  go_simp
                  refine hK.out _ _ (A7.out.setCell (p := ⟨g, 1, none⟩) (fun _ => .inl rfl) _) (fun hH => ?_)
                  have A8 := Lib.hid hH
                  clear hK K k7 f7 hH
                  refine wpAnyH_done (by kernel_rfl) ?_ _
                  refine NoPanic.normal ?_
                  go_wp2
                  go_roundw
                  case rel =>
                    have hxi : x i = ⟨t, f i⟩ := by rw [HX.out]; show (⟨(z i).toNat, f i⟩ : Wr) = _; rw [HT.out]; rfl
                    have hpp := power_pushed P1.out PW.out
                    rw [hxi] at hpp
                    refine ⟨i + 1, _, y4, by omega, by go_num, by rw [hpp], by rw [hpp]; exact P7.out.1, A8.out, fun k e => ?_⟩
                    have hk : k = g7 := by simp [Value.ownBlock] at e; exact e.symm
                    subst hk
                    rcases P7.out.2.2 with h5 | h5
                    · exact O1.out _ h5
                    · exact .inr (by have := A4s.out; have h6 : w4.heap.size ≤ k := h5; omega)
                  case measure => simp [intOf]; omega
              · have hpw' : (D.puts x i).2.power.1 = false := by simpa using hpw
                have PW := Lib.hid hpw'
                rw [hpw']
                clear hpw hpw'
                go_wp2
                go_ret
                have HC : D.putsCode x n = 10 ∧ (D.puts x n).2 = (D.puts x i).2.power.2 := by
                  have h6 : D.puts x (i + 1) = (false, (D.puts x i).2.power.2) := by
                    show (if (D.puts x i).1 = true then (D.puts x i).2.put1 (x i) else D.puts x i) = _
                    rw [if_pos P1.out]
                    unfold Dev.put1
                    rw [if_neg (by rw [PW.out]; simp)]
                  have h7 := puts_stop (D := D) (x := x) (i := i + 1) (by rw [h6]) n (by omega)
                  unfold Dev.putsCode
                  rw [h7, h6]
                  exact ⟨rfl, rfl⟩
                rw [HC.1, HC.2]
                exact ⟨L', y4, rfl, D4.out, A4.out, O1.out⟩
            · obtain rfl : n = i := by omega
              go_wp2
              go_ret
              have HC : D.putsCode x n = 0 := by unfold Dev.putsCode; rw [if_pos P1.out]
              rw [HC]
              exact ⟨L', y', rfl, D1.out, A1.out, O1.out⟩


end Go.Proofs.Ytcnoadikkfedaaa
