/- Encode: the document's walk. -/
import Derived.Test.YtpamlgdopmjooaaGreatMd7
import Derived.Test.YtpamlgdopmjooaaGreatCd2
namespace Go.Proofs.YtpamlgdopmjooaaGreat
open Go.RowKit
set_option linter.unusedVariables false
set_option linter.unusedSimpArgs false

theorem conv_nil (w : World) : (convert 72 9 (.slice none 0 0)).run Tryz.prog w = .ok (.string ⟨#[]⟩) w := by
  simp [convert, go_sem, Conv.bytesToString]; rfl

set_option maxRecDepth 100000 in
set_option maxHeartbeats 8000000 in
theorem refEncode_any (w : World) (sa : Option Addr) (sc : Nat) (L : List Sc.In) (hI : InsAt w sa L) (hm : L.length ≤ maxLen) :
    Calls Tryz.prog 30 #[.slice sa L.length sc] w fun e w' => e = .returned (.tuple #[.string ⟨(Sc.encB L).toArray⟩, .int .i64 (Sc.encE L)]) ∧ w.grownBy w' none := by
  unfold maxLen at hm
  by_cases hl : 1024 < L.length
  · have hv : Hid (Sc.encE L = 1) := by unfold Hid Sc.encE; rw [if_pos hl]
    have hv2 : Hid (Sc.encB L = []) := by unfold Hid Sc.encB; rw [hv.out]; rfl
    clear hI
    go_enter Tryz.func30, Tryz.ntmps30
    go_wp2_with fail
    go_ret2
    rw [hv.out, hv2.out]
    exact ⟨rfl, gb_refl _ _⟩
  · have hle : L.length ≤ 1024 := by omega
    have hdef : Hid (Sc.encE L = if L.all Sc.inOk = true then 0 else 6) := by unfold Hid Sc.encE; rw [if_neg hl]
    have hdef2 : Hid (Sc.encB L = if Sc.encE L = 0 then L.flatMap Sc.inB else []) := rfl
    obtain ⟨iB, iB_e, iB_z, iB_s, iB_b⟩ := iBy_ex
    have iB_eq := hid iB_e
    have HI := hid hI
    clear iB_e hI hl hm
    go_enter Tryz.func30, Tryz.ntmps30
    go_wp2_with fail
    go_loopw [4, 5] (fun v i wr => ∃ (k : Nat), k ≤ L.length ∧ i = .int .i64 k ∧ w.grownBy wr none ∧ wr.ownsRow w.heap.size 5 1 v (5 * k) ((headB L k).map ByV) ∧ Hid (∀ i (h : i < L.length), i < k → Sc.inOk L[i] = true)) (fun _ i _ => L.length - (intOf i).toNat)
    case atStart => exact ⟨0, Nat.zero_le _, rfl, gb_refl _ _, World.ownsRow_nil _ _ _ _, fun i _ h => by omega⟩
    case round =>
      obtain ⟨k, hk, rfl, hg, hown, hall⟩ := hrel
      have HG := hid hg
      have hz := hg.size
      by_cases hlt : k < L.length
      · obtain ⟨b, off, rfl, hb, hcell⟩ := (HI.out.keep hg) k hlt
        have t0 := hcell 0 (by omega)
        have t1 := hcell 1 (by omega)
        have t2 := hcell 2 (by omega)
        have t3 := hcell 3 (by omega)
        have hsn := hid (headB_succ L k hlt)
        obtain ⟨X, hX⟩ : ∃ X, X = L[k] := ⟨_, rfl⟩
        rw [← hX] at t0 t1 t2 t3 hsn
        have HX := hid hX
        clear hX hcell hg
        have hbad : Sc.inOk X = false → Hid (Sc.encE L = 6 ∧ Sc.encB L = []) := by
          intro hok
          have hE : Sc.encE L = 6 := by
            rw [hdef.out, if_neg]
            intro q
            have := List.all_eq_true.1 q _ (List.getElem_mem hlt)
            rw [← HX.out, hok] at this
            cases this
          exact ⟨hE, by rw [hdef2.out, hE]; rfl⟩
        have hiff := inOk_iff X
        have hbv0 := inB_val X
        by_cases hok : Sc.inOk X = true
        · have hrg := hiff.1 hok
          have hbv := hid (hbv0 hrg)
          have Hok := hid hok
          obtain ⟨op, t, f, kk⟩ := X
          obtain ⟨r1, r2, r3, r4, r5, r6, r7, r8⟩ := hrg
          simp only at r1 r2 r3 r4 r5 r6 r7 r8 hbv
          simp [inCells] at t0 t1 t2 t3
          clear hbad hiff hbv0 hok
          have u1 := wrap8 op r1 (by omega)
          have u2 := wrap8 t r3 (by omega)
          have u3 := wrap8 f r5 (by omega)
          have u4' := wrap8 (kk % 256) (by omega) (by omega)
          have u5 := wrap8 (kk / 256) (by omega) (by omega)
          have XB := hid (Blk.new wr 35 #[.int .i64 op, .int .i64 t, .int .i64 f, .int .i64 kk])
          have ho0 := hown.alloc (.cells #[.int .i64 op, .int .i64 t, .int .i64 f, .int .i64 kk] 35)
          have Hg0 := hid (gb_alloc HG.out (.cells #[.int .i64 op, .int .i64 t, .int .i64 f, .int .i64 kk] 35))
          have hz0 : w.heap.size ≤ wr.heap.size + 1 := by omega
          clear hown
          go_wp2_with (first
            | (at_builtin; refine wpList_append_own _ rfl (.tmp 58) (.tmp 62) 72 rfl w.heap.size 5 iB (.int .u8 0) 1 1 uBy iB_eq.out iB_z iB_s iB_b rfl (by decide) u4 (5 * k) (((headB L k).map ByV)) rfl (ho0.alloc _) ⟨wr.heap.size + 1, 0, none⟩ 1 1 [.int .u8 op] rfl rfl ?a0 ?b0 ?c0 ?d0 ?e0 ?_)
            | fail)
          case a0 => exact new_cells _ 5 #[.int .u8 op] _ (by simp)
          case b0 => intro u hu; simp at hu; subst hu; rfl
          case c0 => unfold maxLen; omega
          case d0 => omega
          case e0 => simp; omega
          intro v1 w1 ho1 hgrow _
          have hlt0 := ho0.lt
          have Hg1 := hid (gb_grow (gb_alloc Hg0.out (.cells #[.int .u8 op] 5)) hgrow (fun j hj => (hlt0 j hj).1))
          have hz1 := Hg1.out.size
          have XB1 := hid (Blk.keep (Blk.alloc XB.out (.cells #[.int .u8 op] 5)) hgrow (owns_blk (ho0.alloc (.cells #[.int .u8 op] 5)) (Blk.alloc XB.out (.cells #[.int .u8 op] 5)) (by decide)))
          clear hgrow hlt0 ho0 Hg0 XB
          have x0 := Blk.cell XB1.out 0
          have x1 := Blk.cell XB1.out 1
          have x2 := Blk.cell XB1.out 2
          have x3 := Blk.cell XB1.out 3
          simp at x0 x1 x2 x3
          go_wp2_with (first
            | (at_builtin; refine wpList_append_own _ rfl (.tmp 64) (.tmp 68) 72 rfl w.heap.size 5 iB (.int .u8 0) 1 1 uBy iB_eq.out iB_z iB_s iB_b rfl (by decide) v1 (5 * k + 1) (((headB L k).map ByV) ++ [.int .u8 op]) rfl (ho1.alloc _) ⟨w1.heap.size, 0, none⟩ 1 1 [.int .u8 t] rfl rfl ?a1 ?b1 ?c1 ?d1 ?e1 ?_)
            | fail)
          case a1 => exact new_cells _ 5 #[.int .u8 t] _ rfl
          case b1 => intro u hu; simp at hu; subst hu; rfl
          case c1 => unfold maxLen; omega
          case d1 => omega
          case e1 => simp; omega
          intro v2 w2 ho2 hgrow _
          have hlt1 := ho1.lt
          have Hg2 := hid (gb_grow (gb_alloc Hg1.out (.cells #[.int .u8 t] 5)) hgrow (fun j hj => (hlt1 j hj).1))
          have hz2 := Hg2.out.size
          have XB2 := hid (Blk.keep (Blk.alloc XB1.out (.cells #[.int .u8 t] 5)) hgrow (owns_blk (ho1.alloc (.cells #[.int .u8 t] 5)) (Blk.alloc XB1.out (.cells #[.int .u8 t] 5)) (by decide)))
          clear hgrow hlt1 ho1 Hg1 XB1
          have x0 := Blk.cell XB2.out 0
          have x1 := Blk.cell XB2.out 1
          have x2 := Blk.cell XB2.out 2
          have x3 := Blk.cell XB2.out 3
          simp at x0 x1 x2 x3
          go_wp2_with (first
            | (at_builtin; refine wpList_append_own _ rfl (.tmp 70) (.tmp 74) 72 rfl w.heap.size 5 iB (.int .u8 0) 1 1 uBy iB_eq.out iB_z iB_s iB_b rfl (by decide) v2 (5 * k + 1 + 1) (((headB L k).map ByV) ++ [.int .u8 op, .int .u8 t]) rfl (ho2.alloc _) ⟨w2.heap.size, 0, none⟩ 1 1 [.int .u8 f] rfl rfl ?a2 ?b2 ?c2 ?d2 ?e2 ?_)
            | fail)
          case a2 => exact new_cells _ 5 #[.int .u8 f] _ rfl
          case b2 => intro u hu; simp at hu; subst hu; rfl
          case c2 => unfold maxLen; omega
          case d2 => omega
          case e2 => simp; omega
          intro v3 w3 ho3 hgrow _
          have hlt2 := ho2.lt
          have Hg3 := hid (gb_grow (gb_alloc Hg2.out (.cells #[.int .u8 f] 5)) hgrow (fun j hj => (hlt2 j hj).1))
          have hz3 := Hg3.out.size
          have XB3 := hid (Blk.keep (Blk.alloc XB2.out (.cells #[.int .u8 f] 5)) hgrow (owns_blk (ho2.alloc (.cells #[.int .u8 f] 5)) (Blk.alloc XB2.out (.cells #[.int .u8 f] 5)) (by decide)))
          clear hgrow hlt2 ho2 Hg2 XB2
          have x0 := Blk.cell XB3.out 0
          have x1 := Blk.cell XB3.out 1
          have x2 := Blk.cell XB3.out 2
          have x3 := Blk.cell XB3.out 3
          simp at x0 x1 x2 x3
          go_wp2_with (first
            | (at_builtin; refine wpList_append_own _ rfl (.tmp 76) (.tmp 81) 72 rfl w.heap.size 5 iB (.int .u8 0) 1 1 uBy iB_eq.out iB_z iB_s iB_b rfl (by decide) v3 (5 * k + 1 + 1 + 1) (((headB L k).map ByV) ++ [.int .u8 op, .int .u8 t, .int .u8 f]) rfl (ho3.alloc _) ⟨w3.heap.size, 0, none⟩ 1 1 [.int .u8 (kk % 256)] rfl rfl ?a3 ?b3 ?c3 ?d3 ?e3 ?_)
            | fail)
          case a3 => exact new_cells _ 5 #[.int .u8 (kk % 256)] _ rfl
          case b3 => intro u hu; simp at hu; subst hu; rfl
          case c3 => unfold maxLen; omega
          case d3 => omega
          case e3 => simp; omega
          intro v4 w4 ho4 hgrow _
          have hlt3 := ho3.lt
          have Hg4 := hid (gb_grow (gb_alloc Hg3.out (.cells #[.int .u8 (kk % 256)] 5)) hgrow (fun j hj => (hlt3 j hj).1))
          have hz4 := Hg4.out.size
          have XB4 := hid (Blk.keep (Blk.alloc XB3.out (.cells #[.int .u8 (kk % 256)] 5)) hgrow (owns_blk (ho3.alloc (.cells #[.int .u8 (kk % 256)] 5)) (Blk.alloc XB3.out (.cells #[.int .u8 (kk % 256)] 5)) (by decide)))
          clear hgrow hlt3 ho3 Hg3 XB3
          have x0 := Blk.cell XB4.out 0
          have x1 := Blk.cell XB4.out 1
          have x2 := Blk.cell XB4.out 2
          have x3 := Blk.cell XB4.out 3
          simp at x0 x1 x2 x3
          go_wp2_with (first
            | (at_builtin; refine wpList_append_own _ rfl (.tmp 83) (.tmp 88) 72 rfl w.heap.size 5 iB (.int .u8 0) 1 1 uBy iB_eq.out iB_z iB_s iB_b rfl (by decide) v4 (5 * k + 1 + 1 + 1 + 1) (((headB L k).map ByV) ++ [.int .u8 op, .int .u8 t, .int .u8 f, .int .u8 (kk % 256)]) rfl (ho4.alloc _) ⟨w4.heap.size, 0, none⟩ 1 1 [.int .u8 (kk / 256)] rfl rfl ?a4 ?b4 ?c4 ?d4 ?e4 ?_)
            | fail)
          case a4 => exact new_cells _ 5 #[.int .u8 (kk / 256)] _ rfl
          case b4 => intro u hu; simp at hu; subst hu; rfl
          case c4 => unfold maxLen; omega
          case d4 => omega
          case e4 => simp; omega
          intro v5 w5 ho5 hgrow _
          have hlt4 := ho4.lt
          have Hg5 := hid (gb_grow (gb_alloc Hg4.out (.cells #[.int .u8 (kk / 256)] 5)) hgrow (fun j hj => (hlt4 j hj).1))
          have hz5 := Hg5.out.size
          have XB5 := hid (Blk.keep (Blk.alloc XB4.out (.cells #[.int .u8 (kk / 256)] 5)) hgrow (owns_blk (ho4.alloc (.cells #[.int .u8 (kk / 256)] 5)) (Blk.alloc XB4.out (.cells #[.int .u8 (kk / 256)] 5)) (by decide)))
          clear hgrow hlt4 ho4 Hg4 XB4
          have Ho := hid ho5
          clear ho5
          go_wp2_with fail
          go_roundw
          case rel =>
            refine ⟨k + 1, by omega, by go_num, Hg5.out, ?_, ?_⟩
            · rw [hsn.out, List.map_append, hbv.out]
              have := Ho.out
              try simp only [List.append_assoc, List.cons_append, List.nil_append] at this
              exact this
            · intro i h hi
              by_cases hik : i < k
              · exact hall i h hik
              · have : i = k := by omega
                subst this
                rw [← HX.out]; exact Hok.out
          case measure => simp [intOf]; omega
        · have hok' : Sc.inOk X = false := by simpa using hok
          have hB := hbad hok'
          have hng : ¬ InRng X := fun q => hok (hiff.2 q)
          obtain ⟨op, t, f, kk⟩ := X
          unfold InRng at hng
          simp only at hng
          simp [inCells] at t0 t1 t2 t3
          clear hbad hiff hbv0 hok hok' hown
          have hcs : op < 0 ∨ (0 ≤ op ∧ 255 < op) ∨ (0 ≤ op ∧ op ≤ 255 ∧ t < 0) ∨ (0 ≤ op ∧ op ≤ 255 ∧ 0 ≤ t ∧ 255 < t) ∨ (0 ≤ op ∧ op ≤ 255 ∧ 0 ≤ t ∧ t ≤ 255 ∧ f < 0) ∨ (0 ≤ op ∧ op ≤ 255 ∧ 0 ≤ t ∧ t ≤ 255 ∧ 0 ≤ f ∧ 255 < f) ∨ (0 ≤ op ∧ op ≤ 255 ∧ 0 ≤ t ∧ t ≤ 255 ∧ 0 ≤ f ∧ f ≤ 255 ∧ kk < 0) ∨ (0 ≤ op ∧ op ≤ 255 ∧ 0 ≤ t ∧ t ≤ 255 ∧ 0 ≤ f ∧ f ≤ 255 ∧ 0 ≤ kk ∧ 65535 < kk) := by omega
          clear hng
          rcases hcs with h1 | ⟨h1, h2⟩ | ⟨h1, h2, h3⟩ | ⟨h1, h2, h3, h4⟩ | ⟨h1, h2, h3, h4, h5⟩ | ⟨h1, h2, h3, h4, h5, h6⟩ | ⟨h1, h2, h3, h4, h5, h6, h7⟩ | ⟨h1, h2, h3, h4, h5, h6, h7, h8⟩
          all_goals
            go_wp2_with fail
            go_ret2
            rw [hB.out.1, hB.out.2]
            exact ⟨rfl, gb_alloc HG.out _⟩
      · have hkn : k = L.length := by omega
        subst hkn
        have hE : Hid (Sc.encE L = 0) := by
          unfold Hid; rw [hdef.out, if_pos]
          rw [List.all_eq_true]
          intro x hx
          obtain ⟨i, hi, rfl⟩ := List.getElem_of_mem hx
          exact hall.out i hi hi
        have hE2 : Hid (Sc.encB L = headB L L.length) := by unfold Hid; rw [hdef2.out, if_pos hE.out, headB_all]
        obtain ⟨v0, c0, rfl⟩ := owns_slice hown
        have hcv : (convert 72 9 (.slice v0 (5 * L.length) c0)).run Tryz.prog wr = .ok (.string ⟨(headB L L.length).toArray⟩) wr := by
          rcases hown.2 with ⟨h1, h2⟩ | ⟨g, cap, cur, h1, h2, h3, h4, h5, h6, h7⟩
          · have e0 : L.length = 0 := by omega
            have e1 : L = [] := List.eq_nil_of_length_eq_zero e0
            subst e1
            rw [h1]
            exact conv_nil wr
          · have h1' := h1
            simp only [Value.slice.injEq] at h1
            obtain ⟨rfl, _, rfl⟩ := h1
            exact conv_back hown
        clear hown hdef hdef2 hg
        go_wp2_with fail
        go_ret2
        rw [hE.out, hE2.out]
        exact ⟨rfl, HG.out⟩
end Go.Proofs.YtpamlgdopmjooaaGreat
