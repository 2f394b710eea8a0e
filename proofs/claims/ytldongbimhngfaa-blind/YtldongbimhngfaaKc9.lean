/- Blind: the walk. -/
import Derived.Test.YtldongbimhngfaaKc8
namespace Go.Proofs.Ytldongbimhngfaa
open Go.RowKit
set_option linter.unusedVariables false
set_option linter.unusedSimpArgs false

theorem uInt : Try.prog.underlying 22 = some (.slice 3) := by kernel_rfl
theorem iInt_ex : ∃ i, Try.prog.info? 3 = some i ∧ i.zero = some (.int .i64 0) ∧ i.size = 1 ∧ i.bytes = 8 := info_ex (by kernel_rfl)
/-- the first n numbers of a list -/
def numsV (ll : Nat) (z : Nat → Int) (n : Nat) : List Value := (List.range n).map fun i => .int .i64 (nzc ll z i)
theorem numsV_succ (ll : Nat) (z : Nat → Int) (n : Nat) : numsV ll z (n + 1) = numsV ll z n ++ [.int .i64 (nzc ll z n)] := by
  unfold numsV; rw [List.range_succ, List.map_append]; rfl
/-- the numbers with another at k -/
def zOther (ll : Nat) (z : Nat → Int) (k : Nat) (v : Int) (i : Nat) : Int := if i = k then v else nzc ll z i
theorem wd_other (ll : Nat) (z : Nat → Int) (k : Nat) (v : Int) (i : Nat) (hi : i < 10) (hk : i ≠ k) : wd 10 (zOther ll z k v) i = wd ll z i := by
  unfold wd zOther nzc
  rw [if_pos hi, if_neg hk]
  split
  · rfl
  · rfl
theorem blind_run (nr : Nat) (zr : Nat → Int) (L : List Sc.In) (hs : SoundList L) (k : Nat) (hk : k < 10) (v : Int) (hl : loadsB L (2 * (k : Int)) = false) :
    Sc.runL ⟨(recB nr zr 10).toArray⟩ L = Sc.runL ⟨(recB 10 (zOther nr zr k v) 10).toArray⟩ L := by
  refine runL_same _ _ L fun x hx h1 => ?_
  obtain ⟨i, hi, rfl⟩ := List.getElem_of_mem hx
  have hd := hs.doOk i hi
  have hev := hd.2.1 h1
  have h0 := hd.1.2.2.2.2.2.2.1
  obtain ⟨j, hj⟩ : ∃ j : Nat, L[i].k = 2 * (j : Int) := ⟨(L[i].k / 2).toNat, by omega⟩
  have hjk : j ≠ k := by
    rintro rfl
    unfold loadsB at hl
    rw [List.any_eq_false] at hl
    have := hl L[i] hx
    rw [h1, hj] at this
    simp at this
  rw [hj, rec_word nr zr j (by omega), rec_word 10 _ j (by omega), wd_other nr zr k v j (by omega) hjk]
theorem raw_other {w : World} {base g cap : Nat} {ll : Nat} {z : Nat → Int} {k : Nat} {v : Int} (hg : g < w.heap.size) (hc : ∀ i, i < 10 → w.cell? ⟨g, i, none⟩ = some (.int .i64 (zOther ll z k v i)))
    (hb : ∀ i, -9223372036854775808 ≤ nzc ll z i ∧ nzc ll z i ≤ 9223372036854775807) (v0 : -9223372036854775808 ≤ v) (v1 : v ≤ 9223372036854775807) : RawRow w w.heap.size (some ⟨g, 0, none⟩) 10 (zOther ll z k v) := by
  intro i hi
  refine ⟨g, 0, rfl, hg, by rw [Nat.zero_add]; exact hc i hi, ?_⟩
  have := hb i
  unfold zOther
  split <;> omega

theorem raw_later {w w1 : World} {B : Nat} {a : Option Addr} {len : Nat} {z : Nat → Int} (h : RawRow w B a len z) (hB : B ≤ w.heap.size) (hg : w.grownBy w1 none) : RawRow w1 w1.heap.size a len z := by
  intro i hi
  obtain ⟨b, off, h1, h2, h3, h4⟩ := (h.keep hg hB (fun _ h => by cases h)) i hi
  exact ⟨b, off, h1, by have := hg.size; omega, h3, h4⟩

set_option maxRecDepth 100000 in
set_option maxHeartbeats 4000000 in
theorem blind_walk (w : World) (la lr : Option Addr) (na ca nr cr : Nat) (za zr : Nat → Int) (wo va : Int) (hA : RawRow w w.heap.size la na za) (hR : RawRow w w.heap.size lr nr zr) (ma : na ≤ maxLen) (mr : nr ≤ maxLen)
    (o0 : -9223372036854775808 ≤ wo) (o1 : wo ≤ 9223372036854775807) (v0 : -9223372036854775808 ≤ va) (v1 : va ≤ 9223372036854775807) :
    Calls Try.prog 8 #[.slice la na ca, .slice lr nr cr, .int .i64 wo, .int .i64 va] w fun e w' => e = .returned (.bool true) ∧ Below w.heap.size w w' := by
  have hC := code_any w la na ca za 1024 hA ma (by omega) (by omega)
  have HR := hid hR
  have hP := hid (fun w => pick_any w wo 10 o0 o1 (by omega) (by omega))
  have hpk := pk_range wo 10 (by omega)
  have hbd := hid (fun i => nzc_bd hR i)
  obtain ⟨iN, iN_e, iN_z, iN_s, iN_b⟩ := iInt_ex
  have iN_eq := hid iN_e
  generalize pk wo 10 = kz at *
  obtain ⟨k, rfl⟩ := Int.eq_ofNat_of_zero_le hpk.1
  have hk10 : k < 10 := by omega
  clear iN_e hA hR hpk
  go_enter Try.func8, Try.ntmps8
  go_wp2_with fail
  refine hC.mono ?_
  rintro e w1 ⟨v, n, rfl, hn1, hn2, hg1, ho1⟩
  clear hC
  obtain ⟨sa, sc, rfl⟩ := owns_slice ho1
  have hSL := codeP_sound na za n hn1 hn2
  have hlen := codeP_len na za n n
  generalize codeP na za n n = L at *
  subst hlen
  have HSL := hid hSL
  have HG1 := hid hg1
  have Ho1 := hid ho1
  clear hg1 hSL ho1
  go_wp2_with fail
  refine (hP.out _).mono ?_
  rintro e w2 ⟨rfl, hw⟩
  subst hw
  clear hP
  go_wp2_with fail
  go_loopw [11, 12] (fun v i wr => ∃ m : Nat, m ≤ 10 ∧ i = .int .i64 m ∧ w2.grownBy wr none ∧ wr.ownsRow w2.heap.size 3 1 v m (numsV nr zr m)) (fun _ i _ => 10 - (intOf i).toNat)
  case atStart => exact ⟨0, Nat.zero_le _, rfl, gb_refl _ _, World.ownsRow_nil _ _ _ _⟩
  case round =>
    obtain ⟨m, hm, rfl, hg, hown⟩ := hrel
    have HG := hid hg
    have hz := hg.size
    by_cases hlt : m < 10
    · have hsn := hid (numsV_succ nr zr m)
      have hN := hid (numC_any wr lr nr cr zr w.heap.size (m : Int) ((HR.out.keep HG1.out (Nat.le_refl _) (fun _ h => by cases h)).keep hg HG1.out.size (fun _ h => by cases h)) mr (by omega) (by omega))
      rw [Int.toNat_natCast] at hN
      generalize nzc nr zr m = y at *
      clear hg
      go_wp2_with fail
      refine hN.out.mono ?_
      rintro e w3 ⟨rfl, hw⟩
      subst hw
      clear hN
      go_wp2_with (first
        | (at_builtin; refine wpList_append_own _ rfl _ _ 22 rfl w2.heap.size 3 iN (.int .i64 0) 1 8 uInt iN_eq.out iN_z iN_s iN_b rfl (by decide) u11 m (numsV nr zr m) rfl (hown.alloc _) ⟨w3.heap.size, 0, none⟩ 1 1 [.int .i64 y] rfl rfl ?c1 ?c2 ?c3 ?c4 ?c5 ?_)
        | fail)
      case c1 => exact new_cells _ 3 #[.int .i64 y] _ rfl
      case c2 => intro u hu; simp at hu; subst hu; rfl
      case c3 => unfold maxLen; omega
      case c4 => omega
      case c5 => simp; omega
      intro v4 w4 hown4 hgrow4 _
      have hlt1 := hown.lt
      have Hg4 := hid (gb_grow (gb_alloc HG.out (.cells #[.int .i64 y] 3)) hgrow4 (fun j hj => (hlt1 j hj).1))
      have Ho4 := hid hown4
      clear hgrow4 hown4 hown hlt1
      go_wp2_with fail
      go_roundw
      case rel =>
        refine ⟨m + 1, by omega, by go_num, Hg4.out, ?_⟩
        rw [hsn.out]
        exact Ho4.out
      case measure => simp [intOf]; omega
    · have hm10 : m = 10 := by omega
      subst hm10
      obtain ⟨g, cap, cur, hv, hgb, hgc, hcap, hcs, htk⟩ : ∃ g cap cur, u11 = .slice (some ⟨g, 0, none⟩) 10 cap ∧ w2.heap.size ≤ g ∧ Blk wr g 3 cur ∧ 10 ≤ cap ∧ cur.size = cap ∧ cur.toList.take 10 = numsV nr zr 10 := by
        rcases hown.2 with ⟨h1, h2⟩ | ⟨g, cap, cur, h1, h2, h3, h4, h5, h6, h7⟩
        · omega
        · exact ⟨g, cap, cur, h1, h2, h3, h4, by omega, h7⟩
      subst hv
      have hcell : ∀ i, i < 10 → wr.cell? ⟨g, i, none⟩ = some (.int .i64 (nzc nr zr i)) := by
        intro i hi
        rw [hgc.cell]
        have e2 : (cur.toList.take 10)[i]? = cur.toList[i]? := List.getElem?_take_of_lt hi
        rw [← Array.getElem?_toList, ← e2, htk]
        unfold numsV; simp [hi]
      have hck := hcell k hk10
      have hfz := hgc.fz
      have hgl := hgc.lt
      have e1 : ((k : Int)).toNat = k := by omega
      have Hcell := hid hcell
      have Hgc := hid hgc
      clear hown hcell hgc htk
      go_wp2_with fail
      have oL : (wr.setCell ⟨g, k, none⟩ (.int .i64 va)).ownsRow w.heap.size 46 4 (.slice sa L.length sc) L.length (insCells L) :=
        owns_set (kept_none Ho1.out HG.out) (fun e => by have := (Ho1.out.lt g e).2; omega) _ _
      have gL : w.grownBy (wr.setCell ⟨g, k, none⟩ (.int .i64 va)) none := gb_own (gb_trans HG1.out HG.out) (by have := HG1.out.size; omega) _ _
      have rO : RawRow (wr.setCell ⟨g, k, none⟩ (.int .i64 va)) (wr.setCell ⟨g, k, none⟩ (.int .i64 va)).heap.size (some ⟨g, 0, none⟩) 10 (zOther nr zr k va) := by
        refine raw_other (base := 0) (cap := 0) (by simpa [World.setCell] using hgl) ?_ hbd.out v0 v1
        intro i hi
        have hb := Blk.set Hgc.out k (.int .i64 va)
        rw [hb.cell]
        unfold zOther
        by_cases hik : i = k
        · subst hik
          rw [if_pos rfl, Array.getElem?_setIfInBounds, if_pos rfl, if_pos (by omega)]
        · rw [if_neg hik]
          have := Hcell.out i hi
          rw [Blk.cell Hgc.out] at this
          rw [Array.getElem?_setIfInBounds_ne (by omega)]
          exact this
      generalize wr.setCell ⟨g, k, none⟩ (.int .i64 va) = w5 at *
      have OL := hid oL
      have GL := hid gL
      have RO := hid rO
      have hle := HSL.out.1.1
      have hB := kBytes_any w5 sa sc L (InsAt.of_own rfl oL) HSL.out
      clear oL gL rO hck hfz hg Hcell Hgc HG Ho1
      refine hB.mono ?_
      rintro e w6 ⟨rfl, hg6⟩
      clear hB
      have G6 := hid (gb_trans GL.out hg6)
      have hRc := record_any w6 lr nr cr zr (raw_later HR.out (Nat.le_refl _) G6.out) mr
      have RO6 := hid (raw_later RO.out (Nat.le_refl _) hg6)
      have OL6 := hid (kept_none OL.out hg6)
      clear hg6 GL RO OL HR
      go_wp2_with fail
      refine hRc.mono ?_
      rintro e w7 ⟨rfl, hg7⟩
      clear hRc
      have G7 := hid (gb_trans G6.out hg7)
      have RO7 := hid (raw_later RO6.out (Nat.le_refl _) hg7)
      have OL7 := hid (kept_none OL6.out hg7)
      clear hg7 G6 RO6 OL6
      have hr20 := rec_size nr zr
      have hq20 := rec_size 10 (zOther nr zr k va)
      have HBl := hid (blind_run nr zr L HSL.out k hk10 va)
      generalize (⟨(recB nr zr 10).toArray⟩ : ByteArray) = r at *
      have hN := kRan_any w7 L r HSL.out hr20
      go_wp2_with fail
      refine hN.mono ?_
      rintro e w8 ⟨rfl, hg8⟩
      clear hN
      have G8 := hid (gb_trans G7.out hg8)
      have hRc := record_any w8 (some ⟨g, 0, none⟩) 10 cap (zOther nr zr k va) (raw_later RO7.out (Nat.le_refl _) hg8) (by unfold maxLen; omega)
      have OL8 := hid (kept_none OL7.out hg8)
      clear hg8 G7 RO7 OL7
      go_wp2_with fail
      refine Calls.mono hRc ?_
      rintro e w9 ⟨rfl, hg9⟩
      clear hRc
      generalize (⟨(recB 10 (zOther nr zr k va) 10).toArray⟩ : ByteArray) = q at *
      have G9 := hid (gb_trans G8.out hg9)
      have OL9 := hid (kept_none OL8.out hg9)
      clear hg9 G8 OL8
      have hN := kRan_any w9 L q HSL.out hq20
      go_wp2_with fail
      refine hN.mono ?_
      rintro e w10 ⟨rfl, hg10⟩
      clear hN
      have G10 := hid (gb_trans G9.out hg10)
      have hLd := loads_any w10 sa sc L (2 * (k : Int)) (InsAt.of_own rfl (kept_none OL9.out hg10)) hle
      clear hg10 G9 OL9
      go_wp2_with fail
      refine hLd.mono ?_
      rintro e w11 ⟨rfl, hw⟩
      subst hw
      clear hLd
      cases hlb : loadsB L (2 * (k : Int))
      · have he := HBl.out hlb
        rw [he]
        generalize Sc.runL q L = RV at *
        obtain ⟨a1, a2⟩ := RV
        clear HBl he hlb
        go_wp2_with fail
        go_ret
        exact ⟨by simp, gb_below G10.out⟩
      · generalize Sc.runL q L = RV at *
        generalize Sc.runL r L = RW at *
        obtain ⟨a1, a2⟩ := RV
        obtain ⟨b1, b2⟩ := RW
        clear HBl hlb
        go_wp2_with fail
        go_ret
        exact ⟨by simp, gb_below G10.out⟩
end Go.Proofs.Ytldongbimhngfaa
