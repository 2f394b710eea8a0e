/- Round: the walk. -/
import Derived.Test.YtldongbimhngfaaKc5
import Derived.Test.YtldongbimhngfaaRg
namespace Go.Proofs.Ytldongbimhngfaa
open Go.RowKit
set_option linter.unusedVariables false
set_option linter.unusedSimpArgs false

/-- the instruction j of raw numbers -/
def rawIn (z : Nat → Int) (j : Nat) : Sc.In := ⟨pk (z (4 * j)) 256, pk (z (4 * j + 1)) 256, pk (z (4 * j + 2)) 256, pk (z (4 * j + 3)) 65536⟩
def rawL (z : Nat → Int) (m : Nat) : List Sc.In := (List.range m).map (rawIn z)
theorem rawL_succ (z : Nat → Int) (m : Nat) : rawL z (m + 1) = rawL z m ++ [rawIn z m] := by
  unfold rawL; rw [List.range_succ, List.map_append]; rfl
theorem rawL_len (z : Nat → Int) (m : Nat) : (rawL z m).length = m := by unfold rawL; simp
theorem rawL_fits (z : Nat → Int) (m : Nat) (h : m ≤ 1024) : Fits (rawL z m) := by
  refine ⟨by rw [rawL_len]; exact h, fun i hi => ?_⟩
  have e : (rawL z m)[i] = rawIn z i := by simp [rawL]
  rw [e]
  have h0 := pk_range (z (4 * i)) 256 (by omega)
  have h1 := pk_range (z (4 * i + 1)) 256 (by omega)
  have h2 := pk_range (z (4 * i + 2)) 256 (by omega)
  have h3 := pk_range (z (4 * i + 3)) 65536 (by omega)
  unfold InRng rawIn
  simp only
  omega
theorem neEmpty (D : ByteArray) (h : 0 < D.size) : D.toList.isEmpty = false := by
  obtain ⟨⟨l⟩⟩ := D
  match l, h with
  | e :: K, _ =>
    have : (ByteArray.mk (Array.mk (e :: K))).toList = e :: K := ByteArray.toList_mk (e :: K)
    rw [this]; rfl
theorem tooMuch (c : ByteArray) (n : Nat) (hn : c.size = 5 * n) (h : n ≤ 1024) : (n < 1024 → Sc.decE (c ++ ⟨#[120]⟩) = 3) ∧ Sc.decE (c ++ ⟨#[120]⟩) ≠ 0 ∧ Sc.sound (c ++ ⟨#[120]⟩) = (Sc.decE (c ++ ⟨#[120]⟩), 0) := by
  have hs : (c ++ ⟨#[120]⟩ : ByteArray).size = 5 * n + 1 := by rw [ByteArray.size_append, hn]; rfl
  have h1 : n < 1024 → Sc.decE (c ++ ⟨#[120]⟩) = 3 := by
    intro q; unfold Sc.decE; rw [hs, if_neg (by omega), if_neg (by omega)]
  have h2 : Sc.decE (c ++ ⟨#[120]⟩) ≠ 0 := by
    unfold Sc.decE; rw [hs]
    split
    · decide
    · rw [if_neg (by omega)]; decide
  exact ⟨h1, h2, by unfold Sc.sound; rw [if_neg h2]⟩

set_option maxRecDepth 100000 in
set_option maxHeartbeats 8000000 in
theorem round_walk (w : World) (la lr : Option Addr) (na ca nr cr : Nat) (za zr : Nat → Int) (hA : RawRow w w.heap.size la na za) (hR : RawRow w w.heap.size lr nr zr) (ma : na ≤ maxLen) (mr : nr ≤ maxLen) :
    Calls Try.prog 6 #[.slice la na ca, .slice lr nr cr] w fun e w' => e = .returned (.bool true) ∧ Below w.heap.size w w' := by
  have hC := code_any w la na ca za 1024 hA ma (by omega) (by omega)
  have HR := hid hR
  unfold maxLen at mr
  obtain ⟨iI, iI_e, iI_z, iI_s, iI_b⟩ := iIn_ex
  have iI_eq := hid iI_e
  clear iI_e hA hR
  go_enter Try.func6, Try.ntmps6
  go_wp2_with fail
  refine hC.mono ?_
  rintro e w1 ⟨v, n, rfl, hn1, hn2, hg1, ho1⟩
  clear hC
  obtain ⟨sa, sc, rfl⟩ := owns_slice ho1
  have hSL := codeP_sound na za n hn1 hn2
  have hlen := codeP_len na za n n
  generalize codeP na za n n = L at *
  subst hlen
  have hB := kBytes_any w1 sa sc L (InsAt.of_own rfl ho1) hSL
  have hsz := bytesOf_size L
  generalize bytesOf L = c at *
  have HG1 := hid hg1
  have hcs : c.size ≤ 5120 := by omega
  have hc0 : 0 < c.size := by omega
  obtain ⟨x1, x2, x3⟩ := tooMuch c L.length hsz hn2
  have hxs : (c ++ ⟨#[120]⟩ : ByteArray).size ≤ 6000 := by rw [ByteArray.size_append]; show c.size + 1 ≤ 6000; omega
  have hD := hid (fun w => decode_any w (c ++ ⟨#[120]⟩) (by unfold maxLen; omega))
  have hS := hid (fun w => sound_any w (c ++ ⟨#[120]⟩) (by unfold maxLen; omega))
  rw [x3] at hS
  have hLx : Sc.decL (c ++ ⟨#[120]⟩) = [] := by unfold Sc.decL; rw [if_neg x2]
  rw [hLx] at hD
  have X1 := hid x1
  have Hsz := hid hsz
  generalize hE : Sc.decE (c ++ ⟨#[120]⟩) = E at *
  clear hg1 ho1 hSL x1 x2 x3 hLx hsz hE
  go_wp2_with fail
  refine hB.mono ?_
  rintro e w2 ⟨rfl, hg2⟩
  clear hB
  have HG2 := hid (gb_trans HG1.out hg2)
  clear hg2 HG1
  go_wp2_with fail
  refine (hD.out _).mono ?_
  rintro e w3 ⟨sd, rfl, hg3, _⟩
  clear hD
  have HG3 := hid (gb_trans HG2.out hg3)
  clear hg3 HG2
  go_wp2_with fail
  refine (hS.out _).mono ?_
  rintro e w4 ⟨rfl, hg4⟩
  clear hS
  have HG4 := hid (gb_trans HG3.out hg4)
  clear hg4 HG3
  have hne := neEmpty c hc0
  have hcases : (L.length < 1024 ∧ E = 3) ∨ L.length = 1024 := by
    by_cases q : L.length < 1024
    · exact Or.inl ⟨q, X1.out q⟩
    · exact Or.inr (by omega)
  clear X1 hxs
  have HZ := hid hc0
  rcases hcases with ⟨hq, rfl⟩ | hq
  · have d51 : decide ((c.size : Int) < 5120) = true := by simp; have := Hsz.out; omega
    clear hc0
    go_wp2_with fail
    go_loopw [11, 12] (fun v i wr => ∃ m : Nat, m ≤ 1024 ∧ i = .int .i64 (4 * (m : Int)) ∧ w.grownBy wr none ∧ wr.ownsRow w.heap.size 46 4 v m (insCells (rawL zr m))) (fun _ i _ => 5000 - (intOf i).toNat)
    case atStart => exact ⟨0, Nat.zero_le _, rfl, HG4.out, World.ownsRow_nil _ _ _ _⟩
    case round =>
      obtain ⟨m, hm, rfl, hg, hown⟩ := hrel
      have HG := hid hg
      have hz := hg.size
      obtain ⟨va, vc, rfl⟩ := owns_slice hown
      by_cases hin : 4 * m + 3 < nr
      · by_cases hm4 : m < 1024
        · have d1 : decide (4 * (m : Int) + 3 < (nr : Int)) = true := by simp; omega
          have d2 : decide ((m : Int) < 1024) = true := by simp; omega
          have HRr := HR.out.keep hg (Nat.le_refl _) (fun _ h => by cases h)
          obtain ⟨b, off, rfl, hb, y0, p00, p01⟩ := HRr (4 * m) (by omega)
          obtain ⟨b1, off1, hbo1, _, y1, p10, p11⟩ := HRr (4 * m + 1) (by omega)
          obtain ⟨b2, off2, hbo2, _, y2, p20, p21⟩ := HRr (4 * m + 2) (by omega)
          obtain ⟨b3, off3, hbo3, _, y3, p30, p31⟩ := HRr (4 * m + 3) (by omega)
          cases hbo1
          cases hbo2
          cases hbo3
          have P0 := hid (fun w => pick_any w (zr (4 * m)) 256 p00 p01 (by omega) (by omega))
          have P1 := hid (fun w => pick_any w (zr (4 * m + 1)) 256 p10 p11 (by omega) (by omega))
          have P2 := hid (fun w => pick_any w (zr (4 * m + 2)) 256 p20 p21 (by omega) (by omega))
          have P3 := hid (fun w => pick_any w (zr (4 * m + 3)) 65536 p30 p31 (by omega) (by omega))
          have hsn := hid (rawL_succ zr m)
          have hri : Hid (rawIn zr m = ⟨pk (zr (4 * m)) 256, pk (zr (4 * m + 1)) 256, pk (zr (4 * m + 2)) 256, pk (zr (4 * m + 3)) 65536⟩) := rfl
          generalize pk (zr (4 * m)) 256 = q0 at *
          generalize pk (zr (4 * m + 1)) 256 = q1 at *
          generalize pk (zr (4 * m + 2)) 256 = q2 at *
          generalize pk (zr (4 * m + 3)) 65536 = q3 at *
          generalize zr (4 * m) = e0 at *
          generalize zr (4 * m + 1) = e1 at *
          generalize zr (4 * m + 2) = e2 at *
          generalize zr (4 * m + 3) = e3 at *
          have n0 : (4 * (m : Int)).toNat = 4 * m := by omega
          have n1 : (4 * (m : Int) + 1).toNat = 4 * m + 1 := by omega
          have n2 : (4 * (m : Int) + 2).toNat = 4 * m + 2 := by omega
          have n3 : (4 * (m : Int) + 3).toNat = 4 * m + 3 := by omega
          have j0 : (4 * (m : Int)) < (nr : Int) := by omega
          have j1 : (4 * (m : Int)) + 1 < (nr : Int) := by omega
          have j2 : (4 * (m : Int)) + 2 < (nr : Int) := by omega
          have j3 : (4 * (m : Int)) + 3 < (nr : Int) := by omega
          have i0 : (0 : Int) ≤ 4 * (m : Int) := by omega
          have i1 : (0 : Int) ≤ 4 * (m : Int) + 1 := by omega
          have i2 : (0 : Int) ≤ 4 * (m : Int) + 2 := by omega
          have i3 : (0 : Int) ≤ 4 * (m : Int) + 3 := by omega
          have k1 : IntKind.i64.wrap (4 * (m : Int) + 1) = 4 * (m : Int) + 1 := IntWalk.i64_in _ ⟨by omega, by omega⟩
          have k2 : IntKind.i64.wrap (4 * (m : Int) + 2) = 4 * (m : Int) + 2 := IntWalk.i64_in _ ⟨by omega, by omega⟩
          have k3 : IntKind.i64.wrap (4 * (m : Int) + 3) = 4 * (m : Int) + 3 := IntWalk.i64_in _ ⟨by omega, by omega⟩
          have l1 : wrap64 (4 * (m : Int) + 1) = 4 * (m : Int) + 1 := IntWalk.wrap64_in _ ⟨by omega, by omega⟩
          have l2 : wrap64 (4 * (m : Int) + 2) = 4 * (m : Int) + 2 := IntWalk.wrap64_in _ ⟨by omega, by omega⟩
          have l3 : wrap64 (4 * (m : Int) + 3) = 4 * (m : Int) + 3 := IntWalk.wrap64_in _ ⟨by omega, by omega⟩
          have Ho := hid hown
          clear hg hown HRr hne
          go_wp2_with fail
          refine wp_region_head 25 (by kernel_rfl) (by kernel_rfl) (v := .slice va m vc) rfl (fun _ _ _ h => h) (Or.inl ⟨by rfl, fun w => by rfl⟩) ?_
          have z0 : wr.drew.cell? ⟨b, off + 4 * m, none⟩ = some (.int .i64 e0) := y0
          have z1 : wr.drew.cell? ⟨b, off + (4 * m + 1), none⟩ = some (.int .i64 e1) := y1
          have z2 : wr.drew.cell? ⟨b, off + (4 * m + 2), none⟩ = some (.int .i64 e2) := y2
          have z3 : wr.drew.cell? ⟨b, off + (4 * m + 3), none⟩ = some (.int .i64 e3) := y3
          have O1 := hid (World.ownsRow.drew Ho.out)
          have G1 := hid (gb_drew HG.out)
          have hzd : w.heap.size ≤ wr.drew.heap.size := hz
          clear y0 y1 y2 y3 Ho HG
          generalize wr.drew = W at *
          intro ops2
          simp only [edged, List.modify_succ_cons, List.modify_zero_cons, List.take_succ_cons, List.take_zero, List.drop_succ_cons, List.drop_zero]
          still_step
          still_step
          still_step
          still_step
          still_call (P0.out _)
          still_step
          still_step
          still_step
          still_step
          still_step
          still_call (P1.out _)
          still_step
          still_step
          still_step
          still_step
          still_step
          still_call (P2.out _)
          still_step
          still_step
          still_step
          still_step
          still_step
          still_call (P3.out _)
          still_step
          refine wpStill_nil ?_
          clear z0 z1 z2 z3 P0 P1 P2 P3
          go_wp2_with (first
            | (at_builtin; refine wpList_append_own _ rfl (.tmp 69) (.tmp 94) 39 rfl w.heap.size 46 iI zIn 4 32 uIn iI_eq.out iI_z iI_s iI_b rfl (by decide) (.slice va m vc) m (insCells (rawL zr m)) rfl (O1.out.alloc _) ⟨W.heap.size, 0, none⟩ 1 1 [.int .i64 q0, .int .i64 q1, .int .i64 q2, .int .i64 q3] rfl rfl ?cA1 ?cA2 ?cA3 ?cA4 ?cA5 ?_)
            | fail)
          case cA1 => exact new_cells _ 46 #[.int .i64 q0, .int .i64 q1, .int .i64 q2, .int .i64 q3] _ rfl
          case cA2 => intro u hu; simp at hu; rcases hu with rfl | rfl | rfl | rfl <;> rfl
          case cA3 => unfold maxLen; omega
          case cA4 => omega
          case cA5 => simp; omega
          intro v7 w7 hown7 hgrow7 _
          have hlt7 := O1.out.lt
          have HG7 := hid (gb_grow (gb_alloc G1.out (.cells #[.int .i64 q0, .int .i64 q1, .int .i64 q2, .int .i64 q3] 46)) hgrow7 (fun j hj => (hlt7 j hj).1))
          have HO7 := hid hown7
          clear hown7 hgrow7 hlt7 O1 G1
          go_wp2_with fail
          go_roundw
          case rel =>
            refine ⟨m + 1, by omega, by go_num, HG7.out, ?_⟩
            rw [hsn.out, insCells_snoc, hri.out]
            exact HO7.out
          case measure => simp [intOf]; omega
        · have d1 : decide (4 * (m : Int) + 3 < (nr : Int)) = true := by simp; omega
          have d2 : decide ((m : Int) < 1024) = false := by simp; omega
          have hF := rawL_fits zr m hm
          have hl := rawL_len zr m
          have hEn := encode_any wr va vc (rawL zr m) (InsAt.of_own (n := m) (sc := vc) hl.symm hown) (by unfold maxLen; omega)
          rw [hF.encB, hF.encE, hl] at hEn
          have hbs := bytesOf_size (rawL zr m)
          rw [hl] at hbs
          have hDe := hid (fun w => decode_any w (bytesOf (rawL zr m)) (by unfold maxLen; omega))
          rw [hF.decL, hF.decE, hl] at hDe
          have Ho := hid hown
          have Hl := hid hl
          generalize bytesOf (rawL zr m) = t at *
          have hts : t.size ≤ 5120 := by omega
          have e5 : ((t.size : Int) == 5 * (m : Int)) = true := by simp; omega
          have HT := hid hbs
          clear hown hg hF hl hbs hne
          go_wp2_with fail
          refine hEn.mono ?_
          rintro e w5 ⟨rfl, hg5⟩
          clear hEn
          have O5 := hid (kept_none Ho.out hg5)
          have G5 := hid (gb_trans HG.out hg5)
          clear hg5 Ho HG
          go_wp2_with fail
          refine (hDe.out _).mono ?_
          rintro e w6 ⟨sb, rfl, hg6, ho6⟩
          clear hDe
          have G6 := hid (gb_trans G5.out hg6)
          have hSa := kSame_any w6 sb va m vc (rawL zr m) (InsAt.of_own (n := m) (sc := m) Hl.out.symm ho6) (InsAt.of_own (n := m) (sc := vc) Hl.out.symm (kept_none O5.out hg6)) (by rw [Hl.out]; exact hm)
          rw [Hl.out] at hSa
          clear hg6 ho6 O5 G5
          go_wp2_with fail
          refine hSa.mono ?_
          rintro e w8 ⟨rfl, hg8⟩
          clear hSa
          have G8 := hid (gb_trans G6.out hg8)
          clear hg8 G6
          go_wp2_with fail
          go_ret
          exact ⟨rfl, gb_below G8.out⟩
      · have d1 : decide (4 * (m : Int) + 3 < (nr : Int)) = false := by simp; omega
        have hF := rawL_fits zr m hm
        have hl := rawL_len zr m
        have hEn := encode_any wr va vc (rawL zr m) (InsAt.of_own (n := m) (sc := vc) hl.symm hown) (by unfold maxLen; omega)
        rw [hF.encB, hF.encE, hl] at hEn
        have hbs := bytesOf_size (rawL zr m)
        rw [hl] at hbs
        have hDe := hid (fun w => decode_any w (bytesOf (rawL zr m)) (by unfold maxLen; omega))
        rw [hF.decL, hF.decE, hl] at hDe
        have Ho := hid hown
        have Hl := hid hl
        generalize bytesOf (rawL zr m) = t at *
        have hts : t.size ≤ 5120 := by omega
        have e5 : ((t.size : Int) == 5 * (m : Int)) = true := by simp; omega
        have HT := hid hbs
        clear hown hg hF hl hbs hne
        go_wp2_with fail
        refine hEn.mono ?_
        rintro e w5 ⟨rfl, hg5⟩
        clear hEn
        have O5 := hid (kept_none Ho.out hg5)
        have G5 := hid (gb_trans HG.out hg5)
        clear hg5 Ho HG
        go_wp2_with fail
        refine (hDe.out _).mono ?_
        rintro e w6 ⟨sb, rfl, hg6, ho6⟩
        clear hDe
        have G6 := hid (gb_trans G5.out hg6)
        have hSa := kSame_any w6 sb va m vc (rawL zr m) (InsAt.of_own (n := m) (sc := m) Hl.out.symm ho6) (InsAt.of_own (n := m) (sc := vc) Hl.out.symm (kept_none O5.out hg6)) (by rw [Hl.out]; exact hm)
        rw [Hl.out] at hSa
        clear hg6 ho6 O5 G5
        go_wp2_with fail
        refine hSa.mono ?_
        rintro e w8 ⟨rfl, hg8⟩
        clear hSa
        have G8 := hid (gb_trans G6.out hg8)
        clear hg8 G6
        go_wp2_with fail
        go_ret
        exact ⟨rfl, gb_below G8.out⟩
  · have d51 : decide ((c.size : Int) < 5120) = false := by simp; have := Hsz.out; omega
    clear hc0
    go_wp2_with fail
    go_loopw [11, 12] (fun v i wr => ∃ m : Nat, m ≤ 1024 ∧ i = .int .i64 (4 * (m : Int)) ∧ w.grownBy wr none ∧ wr.ownsRow w.heap.size 46 4 v m (insCells (rawL zr m))) (fun _ i _ => 5000 - (intOf i).toNat)
    case atStart => exact ⟨0, Nat.zero_le _, rfl, HG4.out, World.ownsRow_nil _ _ _ _⟩
    case round =>
      obtain ⟨m, hm, rfl, hg, hown⟩ := hrel
      have HG := hid hg
      have hz := hg.size
      obtain ⟨va, vc, rfl⟩ := owns_slice hown
      by_cases hin : 4 * m + 3 < nr
      · by_cases hm4 : m < 1024
        · have d1 : decide (4 * (m : Int) + 3 < (nr : Int)) = true := by simp; omega
          have d2 : decide ((m : Int) < 1024) = true := by simp; omega
          have HRr := HR.out.keep hg (Nat.le_refl _) (fun _ h => by cases h)
          obtain ⟨b, off, rfl, hb, y0, p00, p01⟩ := HRr (4 * m) (by omega)
          obtain ⟨b1, off1, hbo1, _, y1, p10, p11⟩ := HRr (4 * m + 1) (by omega)
          obtain ⟨b2, off2, hbo2, _, y2, p20, p21⟩ := HRr (4 * m + 2) (by omega)
          obtain ⟨b3, off3, hbo3, _, y3, p30, p31⟩ := HRr (4 * m + 3) (by omega)
          cases hbo1
          cases hbo2
          cases hbo3
          have P0 := hid (fun w => pick_any w (zr (4 * m)) 256 p00 p01 (by omega) (by omega))
          have P1 := hid (fun w => pick_any w (zr (4 * m + 1)) 256 p10 p11 (by omega) (by omega))
          have P2 := hid (fun w => pick_any w (zr (4 * m + 2)) 256 p20 p21 (by omega) (by omega))
          have P3 := hid (fun w => pick_any w (zr (4 * m + 3)) 65536 p30 p31 (by omega) (by omega))
          have hsn := hid (rawL_succ zr m)
          have hri : Hid (rawIn zr m = ⟨pk (zr (4 * m)) 256, pk (zr (4 * m + 1)) 256, pk (zr (4 * m + 2)) 256, pk (zr (4 * m + 3)) 65536⟩) := rfl
          generalize pk (zr (4 * m)) 256 = q0 at *
          generalize pk (zr (4 * m + 1)) 256 = q1 at *
          generalize pk (zr (4 * m + 2)) 256 = q2 at *
          generalize pk (zr (4 * m + 3)) 65536 = q3 at *
          generalize zr (4 * m) = e0 at *
          generalize zr (4 * m + 1) = e1 at *
          generalize zr (4 * m + 2) = e2 at *
          generalize zr (4 * m + 3) = e3 at *
          have n0 : (4 * (m : Int)).toNat = 4 * m := by omega
          have n1 : (4 * (m : Int) + 1).toNat = 4 * m + 1 := by omega
          have n2 : (4 * (m : Int) + 2).toNat = 4 * m + 2 := by omega
          have n3 : (4 * (m : Int) + 3).toNat = 4 * m + 3 := by omega
          have j0 : (4 * (m : Int)) < (nr : Int) := by omega
          have j1 : (4 * (m : Int)) + 1 < (nr : Int) := by omega
          have j2 : (4 * (m : Int)) + 2 < (nr : Int) := by omega
          have j3 : (4 * (m : Int)) + 3 < (nr : Int) := by omega
          have i0 : (0 : Int) ≤ 4 * (m : Int) := by omega
          have i1 : (0 : Int) ≤ 4 * (m : Int) + 1 := by omega
          have i2 : (0 : Int) ≤ 4 * (m : Int) + 2 := by omega
          have i3 : (0 : Int) ≤ 4 * (m : Int) + 3 := by omega
          have k1 : IntKind.i64.wrap (4 * (m : Int) + 1) = 4 * (m : Int) + 1 := IntWalk.i64_in _ ⟨by omega, by omega⟩
          have k2 : IntKind.i64.wrap (4 * (m : Int) + 2) = 4 * (m : Int) + 2 := IntWalk.i64_in _ ⟨by omega, by omega⟩
          have k3 : IntKind.i64.wrap (4 * (m : Int) + 3) = 4 * (m : Int) + 3 := IntWalk.i64_in _ ⟨by omega, by omega⟩
          have l1 : wrap64 (4 * (m : Int) + 1) = 4 * (m : Int) + 1 := IntWalk.wrap64_in _ ⟨by omega, by omega⟩
          have l2 : wrap64 (4 * (m : Int) + 2) = 4 * (m : Int) + 2 := IntWalk.wrap64_in _ ⟨by omega, by omega⟩
          have l3 : wrap64 (4 * (m : Int) + 3) = 4 * (m : Int) + 3 := IntWalk.wrap64_in _ ⟨by omega, by omega⟩
          have Ho := hid hown
          clear hg hown HRr hne
          go_wp2_with fail
          refine wp_region_head 25 (by kernel_rfl) (by kernel_rfl) (v := .slice va m vc) rfl (fun _ _ _ h => h) (Or.inl ⟨by rfl, fun w => by rfl⟩) ?_
          have z0 : wr.drew.cell? ⟨b, off + 4 * m, none⟩ = some (.int .i64 e0) := y0
          have z1 : wr.drew.cell? ⟨b, off + (4 * m + 1), none⟩ = some (.int .i64 e1) := y1
          have z2 : wr.drew.cell? ⟨b, off + (4 * m + 2), none⟩ = some (.int .i64 e2) := y2
          have z3 : wr.drew.cell? ⟨b, off + (4 * m + 3), none⟩ = some (.int .i64 e3) := y3
          have O1 := hid (World.ownsRow.drew Ho.out)
          have G1 := hid (gb_drew HG.out)
          have hzd : w.heap.size ≤ wr.drew.heap.size := hz
          clear y0 y1 y2 y3 Ho HG
          generalize wr.drew = W at *
          intro ops2
          simp only [edged, List.modify_succ_cons, List.modify_zero_cons, List.take_succ_cons, List.take_zero, List.drop_succ_cons, List.drop_zero]
          still_step
          still_step
          still_step
          still_step
          still_call (P0.out _)
          still_step
          still_step
          still_step
          still_step
          still_step
          still_call (P1.out _)
          still_step
          still_step
          still_step
          still_step
          still_step
          still_call (P2.out _)
          still_step
          still_step
          still_step
          still_step
          still_step
          still_call (P3.out _)
          still_step
          refine wpStill_nil ?_
          clear z0 z1 z2 z3 P0 P1 P2 P3
          go_wp2_with (first
            | (at_builtin; refine wpList_append_own _ rfl (.tmp 69) (.tmp 94) 39 rfl w.heap.size 46 iI zIn 4 32 uIn iI_eq.out iI_z iI_s iI_b rfl (by decide) (.slice va m vc) m (insCells (rawL zr m)) rfl (O1.out.alloc _) ⟨W.heap.size, 0, none⟩ 1 1 [.int .i64 q0, .int .i64 q1, .int .i64 q2, .int .i64 q3] rfl rfl ?cB1 ?cB2 ?cB3 ?cB4 ?cB5 ?_)
            | fail)
          case cB1 => exact new_cells _ 46 #[.int .i64 q0, .int .i64 q1, .int .i64 q2, .int .i64 q3] _ rfl
          case cB2 => intro u hu; simp at hu; rcases hu with rfl | rfl | rfl | rfl <;> rfl
          case cB3 => unfold maxLen; omega
          case cB4 => omega
          case cB5 => simp; omega
          intro v7 w7 hown7 hgrow7 _
          have hlt7 := O1.out.lt
          have HG7 := hid (gb_grow (gb_alloc G1.out (.cells #[.int .i64 q0, .int .i64 q1, .int .i64 q2, .int .i64 q3] 46)) hgrow7 (fun j hj => (hlt7 j hj).1))
          have HO7 := hid hown7
          clear hown7 hgrow7 hlt7 O1 G1
          go_wp2_with fail
          go_roundw
          case rel =>
            refine ⟨m + 1, by omega, by go_num, HG7.out, ?_⟩
            rw [hsn.out, insCells_snoc, hri.out]
            exact HO7.out
          case measure => simp [intOf]; omega
        · have d1 : decide (4 * (m : Int) + 3 < (nr : Int)) = true := by simp; omega
          have d2 : decide ((m : Int) < 1024) = false := by simp; omega
          have hF := rawL_fits zr m hm
          have hl := rawL_len zr m
          have hEn := encode_any wr va vc (rawL zr m) (InsAt.of_own (n := m) (sc := vc) hl.symm hown) (by unfold maxLen; omega)
          rw [hF.encB, hF.encE, hl] at hEn
          have hbs := bytesOf_size (rawL zr m)
          rw [hl] at hbs
          have hDe := hid (fun w => decode_any w (bytesOf (rawL zr m)) (by unfold maxLen; omega))
          rw [hF.decL, hF.decE, hl] at hDe
          have Ho := hid hown
          have Hl := hid hl
          generalize bytesOf (rawL zr m) = t at *
          have hts : t.size ≤ 5120 := by omega
          have e5 : ((t.size : Int) == 5 * (m : Int)) = true := by simp; omega
          have HT := hid hbs
          clear hown hg hF hl hbs hne
          go_wp2_with fail
          refine hEn.mono ?_
          rintro e w5 ⟨rfl, hg5⟩
          clear hEn
          have O5 := hid (kept_none Ho.out hg5)
          have G5 := hid (gb_trans HG.out hg5)
          clear hg5 Ho HG
          go_wp2_with fail
          refine (hDe.out _).mono ?_
          rintro e w6 ⟨sb, rfl, hg6, ho6⟩
          clear hDe
          have G6 := hid (gb_trans G5.out hg6)
          have hSa := kSame_any w6 sb va m vc (rawL zr m) (InsAt.of_own (n := m) (sc := m) Hl.out.symm ho6) (InsAt.of_own (n := m) (sc := vc) Hl.out.symm (kept_none O5.out hg6)) (by rw [Hl.out]; exact hm)
          rw [Hl.out] at hSa
          clear hg6 ho6 O5 G5
          go_wp2_with fail
          refine hSa.mono ?_
          rintro e w8 ⟨rfl, hg8⟩
          clear hSa
          have G8 := hid (gb_trans G6.out hg8)
          clear hg8 G6
          go_wp2_with fail
          go_ret
          exact ⟨rfl, gb_below G8.out⟩
      · have d1 : decide (4 * (m : Int) + 3 < (nr : Int)) = false := by simp; omega
        have hF := rawL_fits zr m hm
        have hl := rawL_len zr m
        have hEn := encode_any wr va vc (rawL zr m) (InsAt.of_own (n := m) (sc := vc) hl.symm hown) (by unfold maxLen; omega)
        rw [hF.encB, hF.encE, hl] at hEn
        have hbs := bytesOf_size (rawL zr m)
        rw [hl] at hbs
        have hDe := hid (fun w => decode_any w (bytesOf (rawL zr m)) (by unfold maxLen; omega))
        rw [hF.decL, hF.decE, hl] at hDe
        have Ho := hid hown
        have Hl := hid hl
        generalize bytesOf (rawL zr m) = t at *
        have hts : t.size ≤ 5120 := by omega
        have e5 : ((t.size : Int) == 5 * (m : Int)) = true := by simp; omega
        have HT := hid hbs
        clear hown hg hF hl hbs hne
        go_wp2_with fail
        refine hEn.mono ?_
        rintro e w5 ⟨rfl, hg5⟩
        clear hEn
        have O5 := hid (kept_none Ho.out hg5)
        have G5 := hid (gb_trans HG.out hg5)
        clear hg5 Ho HG
        go_wp2_with fail
        refine (hDe.out _).mono ?_
        rintro e w6 ⟨sb, rfl, hg6, ho6⟩
        clear hDe
        have G6 := hid (gb_trans G5.out hg6)
        have hSa := kSame_any w6 sb va m vc (rawL zr m) (InsAt.of_own (n := m) (sc := m) Hl.out.symm ho6) (InsAt.of_own (n := m) (sc := vc) Hl.out.symm (kept_none O5.out hg6)) (by rw [Hl.out]; exact hm)
        rw [Hl.out] at hSa
        clear hg6 ho6 O5 G5
        go_wp2_with fail
        refine hSa.mono ?_
        rintro e w8 ⟨rfl, hg8⟩
        clear hSa
        have G8 := hid (gb_trans G6.out hg8)
        clear hg8 G6
        go_wp2_with fail
        go_ret
        exact ⟨rfl, gb_below G8.out⟩
end Go.Proofs.Ytldongbimhngfaa
