/- sievelaw: Codes: the walk. -/
import Derived.Test.YtpamlgdopmjooaaGreatCl6
import Derived.Test.YtpamlgdopmjooaaGreatCl3
namespace Go.Proofs.YtpamlgdopmjooaaGreat
open Go.RowKit
set_option linter.unusedVariables false
set_option linter.unusedSimpArgs false

/-- what is known of a step that came in, its list too -/
def OprOk2 (W : World) (o : Opr) : Prop := OprOk o ∧ ∃ L : List Sc.In, L.length = o.ll ∧ InsAt W o.la L ∧ (o.la = none → o.ll = 0 ∧ o.lc = 0) ∧ o.ll * 32 ≤ 140737488351232
theorem InsAt.below {w w' : World} {sa : Option Addr} {l : List Sc.In} {B : Nat} (h : InsAt w sa l) (hB : w.heap.size ≤ B) (hb : Below B w w') : InsAt w' sa l := by
  intro i hi
  obtain ⟨b, off, h1, h2, h3⟩ := h i hi
  exact ⟨b, off, h1, Nat.lt_of_lt_of_le h2 hb.size, fun j hj => (World.cell?_of_block (a := ⟨b, off + i * 4 + j, none⟩) (hb.block b (by omega))).trans (h3 j hj)⟩

set_option maxRecDepth 100000 in
set_option maxHeartbeats 4000000 in
theorem encode_law (w : World) (o : Opr) (ho : OprOk2 w o) :
    Calls Tryz.prog 15 #[.agg (opCells o)] w fun e w' => e = .returned (.bool true) ∧ w.grownBy w' none := by
  obtain ⟨_, L, hl, hI, hnil, hb⟩ := ho
  obtain ⟨kind, n, s, p, r, la, ll, lc⟩ := o
  simp only at hl hI hnil hb
  subst hl
  simp only [opCells]
  have HI := hid hI
  have hI1 := hI.keep (World.grownBy_alloc w (.cells #[.int .i64 kind, .int .i64 n, .string s, .string p, .string r, .slice la L.length lc] 31) none)
  have hLt := lent_any _ la lc L hI1 hnil hb
  have B0 := Blk.new w 31 #[.int .i64 kind, .int .i64 n, .string s, .string p, .string r, .slice la L.length lc]
  have HB0 := hid B0
  have hml : L.length ≤ maxLen := by unfold maxLen; omega
  clear hI hI1 B0 hnil
  go_enter Tryz.func15, Tryz.ntmps15
  go_wp2_with fail
  refine hLt.mono ?_
  rintro e w1 ⟨rfl, hg1, hB1⟩
  clear hLt
  simp only [World.size_alloc] at hB1
  have G1 := hid (gb_unalloc hg1)
  have HB1 := hid hB1
  have b5 := (HB0.out.keep hg1 (by simp)).cell 5
  simp at b5
  have HO1 := hid (HB0.out.keep hg1 (by simp))
  have hE := encode_any w1 (some ⟨w.heap.size + 1, 0, none⟩) (L.length + 2) L (InsAt.of_blk hB1) hml
  clear hg1 hB1 HB0
  go_wp2_with fail
  refine Calls.mono hE ?_
  rintro e w2 ⟨rfl, hg2⟩
  clear hE b5
  have G2 := hid (gb_trans G1.out hg2)
  have HB2 := hid (Blk.keep HB1.out hg2 (by simp))
  have HO2 := hid (Blk.keep HO1.out hg2 (by simp))
  have b5 := Blk.cell HO2.out 5
  simp at b5
  have hR := refEncode_any w2 la lc L (HI.out.keep G2.out) hml
  clear hg2 G1 HB1 HO1
  go_wp2_with fail
  refine hR.mono ?_
  rintro e w3 ⟨rfl, hg3⟩
  clear hR b5
  have G3 := hid (gb_trans G2.out hg3)
  have HO3 := hid (Blk.keep HO2.out hg3 (by simp))
  have b5 := Blk.cell HO3.out 5
  simp at b5
  have hW := whole_any w3 (w.heap.size + 1) la lc L (Blk.keep HB2.out hg3 (by simp)) (HI.out.keep G3.out) hb
  clear hg3 G2 HB2 HO2
  generalize (⟨(Sc.encB L).toArray⟩ : ByteArray) = c at *
  generalize Sc.encE L = E at *
  go_wp2_with fail
  refine hW.mono ?_
  rintro e w4 ⟨rfl, hg4⟩
  clear hW b5
  have G4 := hid (gb_trans G3.out hg4)
  clear hg4 G3
  go_wp2_with fail
  refine (num_any _ _).mono ?_
  rintro e w5 ⟨rfl, hw⟩
  subst hw
  go_wp2_with fail
  go_ret
  exact ⟨by simp, G4.out⟩

/-- what a step of a script does to the book -/
def StepEnd (base bb : Nat) (fs : List (Option Addr × Nat)) (w : World) (e : Ending) (w' : World) : Prop :=
  e = .returned (.bool true) ∧ (∃ fs', BookInv w' base bb fs' ∧ fs'.length ≤ fs.length + 1) ∧ Below base w w'

set_option maxRecDepth 100000 in
set_option maxHeartbeats 2000000 in
theorem plays_codes (w : World) (base bb : Nat) (fs : List (Option Addr × Nat)) (o : Opr) (hk : 3 ≤ o.kind) (hk2 : o.kind ≤ 4) (ho : OprOk2 w o) (h : BookInv w base bb fs) (hn : (fs.length + 1) * 24 ≤ 140737488355328) (hbb : base ≤ bb) (hbs : base ≤ w.heap.size) :
    Calls Tryz.prog 12 #[.pointer (some ⟨bb, 0, none⟩), .agg (opCells o)] w (StepEnd base bb fs w) := by
  have hc : o.kind = 3 ∨ o.kind = 4 := by omega
  rcases hc with hc | hc
  · have hI : InsAt w o.la _ := ho.2.choose_spec.2.1
    have ho1 : OprOk2 (w.alloc (.cells (opCells o) 31)) o := by
      obtain ⟨q1, L, q2, q3, q4, q5⟩ := ho
      exact ⟨q1, L, q2, q3.keep (World.grownBy_alloc w _ none), q4, q5⟩
    have hE := hid (encode_law _ o ho1)
    have HB := hid h
    clear ho1 hI ho h
    obtain ⟨kind, n, s, p, r, la, ll, lc⟩ := o
    simp only at hc
    subst hc
    simp only [opCells] at hE ⊢
    clear hk hk2
    go_enter Tryz.func12, Tryz.ntmps12
    go_wp2_with fail
    refine hE.out.mono ?_
    rintro e w1 ⟨rfl, hg⟩
    clear hE
    have G := hid (gb_unalloc hg)
    clear hg
    go_wp2_with fail
    go_ret
    exact ⟨rfl, ⟨fs, HB.out.keep G.out, by omega⟩, below_none G.out hbs⟩
  · have hE := hid (decode_inv (w.alloc (.cells (opCells o) 31)) base bb fs o ho.1 (h.keep (World.grownBy_alloc w _ none)) hn hbb (by simp; omega))
    clear ho h
    obtain ⟨kind, n, s, p, r, la, ll, lc⟩ := o
    simp only at hc
    subst hc
    simp only [opCells] at hE ⊢
    clear hk hk2
    go_enter Tryz.func12, Tryz.ntmps12
    go_wp2_with fail
    refine hE.out.mono ?_
    rintro e w1 ⟨rfl, ⟨x, hx⟩, hb⟩
    clear hE
    have HX := hid hx
    have HBl := hid hb
    clear hx hb
    go_wp2_with fail
    go_ret
    refine ⟨rfl, ⟨fs ++ [x], HX.out, by simp⟩, ?_⟩
    exact (below_none (World.grownBy_alloc w _ none) hbs).trans HBl.out

/-- a script as it lies, its lists too -/
def OpsAt2 (w : World) (sa : Option Addr) (ops : List Opr) : Prop :=
  ∀ i (hi : i < ops.length), OprOk2 w ops[i] ∧ ∃ b off, sa = some ⟨b, off, none⟩ ∧ b < w.heap.size ∧ ∀ j, j < 6 → w.cell? ⟨b, off + i * 6 + j, none⟩ = (opCells ops[i])[j]?

set_option maxRecDepth 100000 in
set_option maxHeartbeats 2000000 in
theorem upTo_inv (w : World) (sa : Option Addr) (sc : Nat) (ops : List Opr) (hops : OpsAt2 w sa ops) (hlen : ops.length ≤ 1599289640383) (lo hi : Int)
    (H : ∀ (wr : World) (base bb : Nat) (fs : List (Option Addr × Nat)) (o : Opr), lo ≤ o.kind → o.kind ≤ hi → OprOk2 wr o → BookInv wr base bb fs → (fs.length + 1) * 24 ≤ 140737488355328 → base ≤ bb → base ≤ wr.heap.size →
      Calls Tryz.prog 12 #[.pointer (some ⟨bb, 0, none⟩), .agg (opCells o)] wr (StepEnd base bb fs wr)) :
    Calls Tryz.prog 11 #[.slice sa ops.length sc, .int .i64 lo, .int .i64 hi] w fun e w' => e = .returned (.int .i64 (-1)) ∧ Below w.heap.size w w' := by
  have HH := hid H
  have HO := hid hops
  clear H hops
  go_enter Tryz.func11, Tryz.ntmps11
  go_wp2_with fail
  go_loopw [8] (fun i wr => ∃ (k : Nat) (fs : List (Option Addr × Nat)), k ≤ ops.length ∧ i = .int .i64 k ∧ Below w.heap.size w wr ∧ BookInv wr w.heap.size w.heap.size fs ∧ fs.length ≤ k ∧ w.heap.size < wr.heap.size) (fun i _ => ops.length - (intOf i).toNat)
  case atStart =>
    refine ⟨0, [], Nat.zero_le _, rfl, below_none (World.grownBy_alloc w _ none) (Nat.le_refl _), ⟨none, 0, Blk.new w _ _, World.ownsRow_nil _ _ _ _, fun k hk => by simp at hk⟩, Nat.le_refl _, by simp⟩
  case round =>
    obtain ⟨k, fs, hk, rfl, hg, hB, hfl, hz⟩ := hrel
    have HG := hid hg
    have HB := hid hB
    clear hg hB
    by_cases hlt : k < ops.length
    · obtain ⟨hok, b, off, rfl, hbl, hcell⟩ := HO.out k hlt
      have hbr : b < wr.heap.size := by omega
      have hcw : ∀ j, j < 6 → wr.cell? ⟨b, off + k * 6 + j, none⟩ = (opCells ops[k])[j]? := fun j hj =>
        (World.cell?_of_block (a := ⟨b, off + k * 6 + j, none⟩) (HG.out.block b hbl)).trans (hcell j hj)
      have hok2 : OprOk2 wr ops[k] := by
        obtain ⟨q1, L, q2, q3, q4, q5⟩ := hok
        exact ⟨q1, L, q2, q3.below (Nat.le_refl _) HG.out, q4, q5⟩
      have HP := fun wr base bb fs => HH.out wr base bb fs ops[k]
      have Hok := hid hok2
      clear hok hok2
      generalize ops[k] = o at *
      obtain ⟨kind, n, s, p, r, la, ll, lc⟩ := o
      have t0 := hcw 0 (by omega)
      have t1 := hcw 1 (by omega)
      have t2 := hcw 2 (by omega)
      have t3 := hcw 3 (by omega)
      have t4 := hcw 4 (by omega)
      have t5 := hcw 5 (by omega)
      simp [opCells] at t0 t1 t2 t3 t4 t5
      clear hcw hcell HO HH
      have HPh := hid HP
      clear HP
      by_cases q1 : lo ≤ kind
      · by_cases q2 : kind ≤ hi
        · have d1 : decide (lo ≤ kind) = true := by simp [q1]
          have d2 : decide (kind ≤ hi) = true := by simp [q2]
          go_wp2_with fail
          have hP := HPh.out (wr.alloc (.cells #[.int .i64 kind, .int .i64 n, .string s, .string p, .string r, .slice la ll lc] 31)) w.heap.size w.heap.size fs q1 q2
            (by obtain ⟨q1, L, q2, q3, q4, q5⟩ := Hok.out; exact ⟨q1, L, q2, q3.keep (World.grownBy_alloc wr _ none), q4, q5⟩) (HB.out.keep (World.grownBy_alloc wr _ none)) (by omega) (Nat.le_refl _) (by simp; omega)
          simp only [opCells] at hP
          refine hP.mono ?_
          rintro e w1 ⟨rfl, ⟨fs', hB1, hl1⟩, hb1⟩
          clear hP
          have HB1 := hid hB1
          have HL1 := hid ((HG.out.trans (below_none (World.grownBy_alloc wr (.cells #[.int .i64 kind, .int .i64 n, .string s, .string p, .string r, .slice la ll lc] 31) none) (by omega))).trans hb1)
          have hz1 : w.heap.size < w1.heap.size := by have := hb1.size; simp at this; omega
          have hHo := bookHolds_inv w1 w.heap.size w.heap.size fs' hB1 (by omega)
          clear hB1 hb1
          go_wp2_with fail
          refine hHo.mono ?_
          rintro e w2 ⟨rfl, hw⟩
          subst hw
          clear hHo
          go_wp2_with fail
          go_roundw
          case rel => exact ⟨k + 1, fs', by omega, by go_num, HL1.out, HB1.out, by omega, hz1⟩
          case measure => simp [intOf]; omega
        · have d1 : decide (lo ≤ kind) = true := by simp [q1]
          have d2 : decide (kind ≤ hi) = false := by simp; omega
          go_wp2_with fail
          go_roundw
          case rel => exact ⟨k + 1, fs, by omega, by go_num, HG.out.trans (below_none (World.grownBy_alloc wr _ none) (by omega)), HB.out.keep (World.grownBy_alloc wr _ none), by omega, by simp; omega⟩
          case measure => simp [intOf]; omega
      · have d1 : decide (lo ≤ kind) = false := by simp; omega
        go_wp2_with fail
        go_roundw
        case rel => exact ⟨k + 1, fs, by omega, by go_num, HG.out.trans (below_none (World.grownBy_alloc wr _ none) (by omega)), HB.out.keep (World.grownBy_alloc wr _ none), by omega, by simp; omega⟩
        case measure => simp [intOf]; omega
    · have hge : ops.length ≤ k := by omega
      go_wp2_with fail
      go_ret
      exact ⟨rfl, HG.out⟩

set_option maxHeartbeats 1000000 in
theorem codes_walk (w : World) (sa : Option Addr) (sc : Nat) (ops : List Opr) (hops : OpsAt2 w sa ops) (hlen : ops.length ≤ 1599289640383) :
    Calls Tryz.prog 5 #[.slice sa ops.length sc] w fun e w' => e = .returned (.bool true) ∧ Below w.heap.size w w' := by
  have hU := upTo_inv w sa sc ops hops hlen 3 4 (fun w base bb fs o h1 h2 ho hB hn hbb hbs => plays_codes w base bb fs o h1 h2 ho hB hn hbb hbs)
  clear hops
  go_enter Tryz.func5, Tryz.ntmps5
  go_wp2_with fail
  refine hU.mono ?_
  rintro e w1 ⟨rfl, hg⟩
  clear hU
  go_wp2_with fail
  go_ret
  exact ⟨rfl, hg⟩
end Go.Proofs.YtpamlgdopmjooaaGreat
