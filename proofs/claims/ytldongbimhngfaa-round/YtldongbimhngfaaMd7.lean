/- Encode: the program's walk. -/
import Derived.Test.YtldongbimhngfaaMd3
namespace Go.Proofs.Ytldongbimhngfaa
open Go.RowKit
set_option linter.unusedVariables false
set_option linter.unusedSimpArgs false

def ByV (b : UInt8) : Value := .int .u8 (b.toNat : Int)
theorem uBy : Try.prog.underlying 62 = some (.slice 5) := by kernel_rfl
theorem iBy_ex : ∃ i, Try.prog.info? 5 = some i ∧ i.zero = some (.int .u8 0) ∧ i.size = 1 ∧ i.bytes = 1 := info_ex (by kernel_rfl)
theorem byv_of (n : Nat) (h : n < 256) : ByV n.toUInt8 = .int .u8 (n : Int) := by
  have : n.toUInt8.toNat = n := by simp; omega
  unfold ByV; rw [this]
theorem wrap8 (n : Int) (h0 : 0 ≤ n) (h1 : n < 256) : IntKind.u8.wrap n = n := IntWalk.u8_in n ⟨h0, by omega⟩
theorem inOk_iff (x : Sc.In) : Sc.inOk x = true ↔ InRng x := by unfold Sc.inOk InRng; simp
theorem inB_len (x : Sc.In) : (Sc.inB x).length = 5 := rfl
theorem inB_val (x : Sc.In) (h : InRng x) : (Sc.inB x).map ByV = [.int .u8 x.op, .int .u8 x.t, .int .u8 x.f, .int .u8 (x.k % 256), .int .u8 (x.k / 256)] := by
  obtain ⟨h1, h2, h3, h4, h5, h6, h7, h8⟩ := h
  have e1 := byv_of x.op.toNat (by omega)
  have e2 := byv_of x.t.toNat (by omega)
  have e3 := byv_of x.f.toNat (by omega)
  have e4 := byv_of (x.k.toNat % 256) (by omega)
  have e5 := byv_of (x.k.toNat / 256) (by omega)
  unfold Sc.inB
  simp only [List.map_cons, List.map_nil]
  rw [e1, e2, e3, e4, e5]
  have f1 : (x.op.toNat : Int) = x.op := by omega
  have f2 : (x.t.toNat : Int) = x.t := by omega
  have f3 : (x.f.toNat : Int) = x.f := by omega
  have f4 : ((x.k.toNat % 256 : Nat) : Int) = x.k % 256 := by omega
  have f5 : ((x.k.toNat / 256 : Nat) : Int) = x.k / 256 := by omega
  rw [f1, f2, f3, f4, f5]
/-- the bytes of the first k -/
def headB (l : List Sc.In) (k : Nat) : List UInt8 := (l.take k).flatMap Sc.inB
theorem headB_succ (l : List Sc.In) (k : Nat) (h : k < l.length) : headB l (k + 1) = headB l k ++ Sc.inB l[k] := by
  unfold headB
  rw [← List.take_append_getElem h, List.flatMap_append]
  simp
theorem headB_len (l : List Sc.In) (k : Nat) (h : k ≤ l.length) : (headB l k).length = 5 * k := by
  induction k with
  | zero => simp [headB]
  | succ k ih => rw [headB_succ l k (by omega), List.length_append, ih (by omega), inB_len]; omega
theorem headB_all (l : List Sc.In) : headB l l.length = l.flatMap Sc.inB := by unfold headB; rw [List.take_length]

set_option maxRecDepth 100000 in
set_option maxHeartbeats 2000000 in
theorem mFits_any (w : World) (x : Sc.In) :
    Calls Try.prog 55 #[.agg (inCells x)] w fun e w' => e = .returned (.bool (Sc.inOk x)) ∧ w.grownBy w' none := by
  obtain ⟨op, t, f, k⟩ := x
  simp only [inCells]
  have h1 := fun w => mWithin_any w op 255
  have h2 := fun w => mWithin_any w t 255
  have h3 := fun w => mWithin_any w f 255
  have h4 := fun w => mWithin_any w k 65535
  have hv0 : Hid (Sc.inOk ⟨op, t, f, k⟩ = (decide (0 ≤ op ∧ op ≤ 255) && (decide (0 ≤ t ∧ t ≤ 255) && (decide (0 ≤ f ∧ f ≤ 255) && decide (0 ≤ k ∧ k ≤ 65535))))) := by
    unfold Hid Sc.inOk; simp only [← Bool.decide_and]; exact decide_eq_decide.2 (by first | omega | (simp only; omega))
  generalize decide (0 ≤ op ∧ op ≤ 255) = a at *
  generalize decide (0 ≤ t ∧ t ≤ 255) = b at *
  generalize decide (0 ≤ f ∧ f ≤ 255) = c at *
  generalize decide (0 ≤ k ∧ k ≤ 65535) = d at *
  cases a
  · have hv : Hid (Sc.inOk ⟨op, t, f, k⟩ = false) := hv0
    clear hv0 h2 h3 h4
    go_enter Try.func55, Try.ntmps55
    go_wp2_with fail
    refine (h1 _).mono ?_
    rintro e w1 ⟨rfl, rfl⟩
    clear h1
    go_wp2_with fail
    go_ret
    rw [hv.out]
    exact ⟨rfl, gb_alloc (gb_refl _ _) _⟩
  cases b
  · have hv : Hid (Sc.inOk ⟨op, t, f, k⟩ = false) := hv0
    clear hv0 h3 h4
    go_enter Try.func55, Try.ntmps55
    go_wp2_with fail
    refine (h1 _).mono ?_
    rintro e w1 ⟨rfl, rfl⟩
    clear h1
    go_wp2_with fail
    refine (h2 _).mono ?_
    rintro e w1 ⟨rfl, rfl⟩
    clear h2
    go_wp2_with fail
    go_ret
    rw [hv.out]
    exact ⟨rfl, gb_alloc (gb_refl _ _) _⟩
  cases c
  · have hv : Hid (Sc.inOk ⟨op, t, f, k⟩ = false) := hv0
    clear hv0 h4
    go_enter Try.func55, Try.ntmps55
    go_wp2_with fail
    refine (h1 _).mono ?_
    rintro e w1 ⟨rfl, rfl⟩
    clear h1
    go_wp2_with fail
    refine (h2 _).mono ?_
    rintro e w1 ⟨rfl, rfl⟩
    clear h2
    go_wp2_with fail
    refine (h3 _).mono ?_
    rintro e w1 ⟨rfl, rfl⟩
    clear h3
    go_wp2_with fail
    go_ret
    rw [hv.out]
    exact ⟨rfl, gb_alloc (gb_refl _ _) _⟩
  have hv : Hid (Sc.inOk ⟨op, t, f, k⟩ = d) := hv0
  clear hv0
  go_enter Try.func55, Try.ntmps55
  go_wp2_with fail
  refine (h1 _).mono ?_
  rintro e w1 ⟨rfl, rfl⟩
  clear h1
  go_wp2_with fail
  refine (h2 _).mono ?_
  rintro e w1 ⟨rfl, rfl⟩
  clear h2
  go_wp2_with fail
  refine (h3 _).mono ?_
  rintro e w1 ⟨rfl, rfl⟩
  clear h3
  go_wp2_with fail
  refine (h4 _).mono ?_
  rintro e w1 ⟨rfl, rfl⟩
  clear h4
  go_wp2_with fail
  go_ret
  rw [hv.out]
  exact ⟨rfl, gb_alloc (gb_refl _ _) _⟩

theorem conv_back {w : World} {base : Nat} {g n cap : Nat} {bs : List UInt8} (h : w.ownsRow base 5 1 (.slice (some ⟨g, 0, none⟩) n cap) n (bs.map ByV)) :
    (convert 62 9 (.slice (some ⟨g, 0, none⟩) n cap)).run Try.prog w = .ok (.string ⟨bs.toArray⟩) w := by
  rcases h.2 with ⟨h1, h2⟩ | ⟨g', cap', cur, h1, h2, h3, h4, h5, h6, h7⟩
  · cases h1
  · simp only [Value.slice.injEq, Option.some.injEq, Addr.mk.injEq, and_true, true_and] at h1
    obtain ⟨rfl, rfl⟩ := h1
    have hl : bs.length = n := by have := h.1; simpa using this
    have := run_convert_bytes_back (P := Try.prog) w 62 9 5 ⟨g, 0, none⟩ cap bs Try.underlying62 Try.underlying5 Try.underlying9 (by
      intro j hj
      have e : (Addr.add ⟨g, 0, none⟩ j) = ⟨g, j, none⟩ := by
        unfold Addr.add
        split
        · next h0 => subst h0; rfl
        · simp
      rw [e]
      have e1 : w.cell? ⟨g, j, none⟩ = cur[j]? := by simp [World.cell?, h3]
      have e2 : (cur.toList.take (n * 1))[j]? = cur.toList[j]? := List.getElem?_take_of_lt (by omega)
      have e3 : (bs.map ByV)[j]? = some (ByV bs[j]) := by simp [hj]
      rw [e1, ← Array.getElem?_toList, ← e2, h7, e3]
      rfl)
    rw [hl] at this
    exact this

set_option maxRecDepth 100000 in
set_option maxHeartbeats 4000000 in
theorem mEncode_any (w : World) (sa : Option Addr) (sc : Nat) (L : List Sc.In) (hI : InsAt w sa L) (hm : L.length ≤ maxLen) :
    Calls Try.prog 43 #[.slice sa L.length sc] w fun e w' => e = .returned (.tuple #[.string ⟨(Sc.encB L).toArray⟩, .int .i64 (Sc.encE L)]) ∧ w.grownBy w' none := by
  unfold maxLen at hm
  by_cases hl : 1024 < L.length
  · have hv : Hid (Sc.encE L = 1) := by unfold Hid Sc.encE; rw [if_pos hl]
    have hv2 : Hid (Sc.encB L = []) := by unfold Hid Sc.encB; rw [hv.out]; rfl
    clear hI
    go_enter Try.func43, Try.ntmps43
    go_wp2_with fail
    go_ret2
    rw [hv.out, hv2.out]
    exact ⟨rfl, gb_refl _ _⟩
  · have hle : L.length ≤ 1024 := by omega
    have hdef : Hid (Sc.encE L = if L.all Sc.inOk = true then 0 else 6) := by unfold Hid Sc.encE; rw [if_neg hl]
    have hdef2 : Hid (Sc.encB L = if Sc.encE L = 0 then L.flatMap Sc.inB else []) := rfl
    obtain ⟨iB, iB_e, iB_z, iB_s, iB_b⟩ := iBy_ex
    have iB_eq := hid iB_e
    have HI := hid hI
    clear iB_e hI hl hm
    go_enter Try.func43, Try.ntmps43
    go_wp2_with (first
      | (at_make; refine wpList_make_own _ rfl _ _ 62 rfl w.heap.size 5 iB (.int .u8 0) 1 uBy iB_eq.out iB_z iB_s _ _ _ (5 * L.length) rfl rfl (by first | rfl | omega) (by rw [iB_b]; omega) (by unfold maxLen; omega) (Nat.le_refl _) ?_)
      | fail)
    intro w1 hown1 hgrow1
    have HG1 := hid hgrow1
    clear hgrow1
    go_wp2_with fail
    go_loopw [4, 5] (fun v i wr => ∃ (k : Nat), k ≤ L.length ∧ i = .int .i64 k ∧ v = .slice (some ⟨w.heap.size, 0, none⟩) (5 * k) (5 * L.length) ∧ w.grownBy wr none ∧ wr.ownsRow w.heap.size 5 1 (.slice (some ⟨w.heap.size, 0, none⟩) (5 * k) (5 * L.length)) (5 * k) ((headB L k).map ByV) ∧ Hid (∀ i (h : i < L.length), i < k → Sc.inOk L[i] = true)) (fun _ i _ => L.length - (intOf i).toNat)
    case atStart => exact ⟨0, Nat.zero_le _, rfl, rfl, HG1.out, hown1, fun i _ h => by omega⟩
    case round =>
      obtain ⟨k, hk, rfl, rfl, hg, hown, hall⟩ := hrel
      have HG := hid hg
      have hz := hg.size
      have hwl := (hown.lt w.heap.size rfl).2
      clear hown1 HG1
      by_cases hlt : k < L.length
      · obtain ⟨b, off, rfl, hb, hcell⟩ := (HI.out.keep hg) k hlt
        have t0 := hcell 0 (by omega)
        have t1 := hcell 1 (by omega)
        have t2 := hcell 2 (by omega)
        have t3 := hcell 3 (by omega)
        have hF := hid (fun w => mFits_any w L[k])
        have hsn := hid (headB_succ L k hlt)
        obtain ⟨X, hX⟩ : ∃ X, X = L[k] := ⟨_, rfl⟩
        rw [← hX] at hF t0 t1 t2 t3 hsn
        have HX := hid hX
        clear hX hcell hg
        by_cases hok : Sc.inOk X = true
        · have hrg := (inOk_iff X).1 hok
          have hbv := hid (inB_val X hrg)
          rw [hok] at hF
          obtain ⟨op, t, f, kk⟩ := X
          obtain ⟨r1, r2, r3, r4, r5, r6, r7, r8⟩ := hrg
          simp only at r1 r2 r3 r4 r5 r6 r7 r8 hbv
          simp [inCells] at t0 t1 t2 t3
          simp only [inCells] at hF
          have u1 := wrap8 op r1 (by omega)
          have u2 := wrap8 t r3 (by omega)
          have u3 := wrap8 f r5 (by omega)
          have u4 := wrap8 (kk % 256) (by omega) (by omega)
          have u5 := wrap8 (kk / 256) (by omega) (by omega)
          have Hok := hid hok
          clear hok
          go_wp2_with fail
          refine (hF.out _).mono ?_
          rintro e w2 ⟨rfl, hg2⟩
          have X2 := (Blk.new wr 46 #[.int .i64 op, .int .i64 t, .int .i64 f, .int .i64 kk]).keep hg2 (by simp)
          have x0 := X2.cell 0
          have x1 := X2.cell 1
          have x2 := X2.cell 2
          have x3 := X2.cell 3
          simp at x0 x1 x2 x3
          have ho2 := kept_none (hown.alloc (.cells #[.int .i64 op, .int .i64 t, .int .i64 f, .int .i64 kk] 46)) hg2
          have Hg2 := hid (gb_trans HG.out (gb_unalloc hg2))
          clear hF t0 t1 t2 t3 hg2 hown X2
          go_wp2_with (first
            | (at_builtin; refine wpList_append_fits _ rfl _ _ 62 rfl w.heap.size 5 iB 1 uBy iB_eq.out iB_s w.heap.size (5 * k) (5 * L.length) ((headB L k).map ByV) rfl (ho2.alloc _) ⟨w2.heap.size, 0, none⟩ 5 5 [.int .u8 op, .int .u8 t, .int .u8 f, .int .u8 (kk % 256), .int .u8 (kk / 256)] rfl rfl ?c1 ?c2 (by omega) ?_)
            | fail)
          case c1 => exact new_cells _ 5 #[.int .u8 op, .int .u8 t, .int .u8 f, .int .u8 (kk % 256), .int .u8 (kk / 256)] _ rfl
          case c2 => intro u hu; simp at hu; rcases hu with rfl | rfl | rfl | rfl | rfl <;> rfl
          intro w3 hown3 hgrow3
          have Ho3 := hid hown3
          have Hg3 := hid (gb_grow (gb_alloc Hg2.out (.cells #[.int .u8 op, .int .u8 t, .int .u8 f, .int .u8 (kk % 256), .int .u8 (kk / 256)] 5)) hgrow3 (fun j hj => by cases hj; exact Nat.le_refl _))
          clear hown3 hgrow3 ho2 x0 x1 x2 x3
          go_wp2_with fail
          go_roundw
          case rel =>
            refine ⟨k + 1, by omega, by go_num, rfl, Hg3.out, ?_, ?_⟩
            · rw [hsn.out, List.map_append, hbv.out]
              exact Ho3.out
            · intro i h hi
              by_cases hik : i < k
              · exact hall i h hik
              · have : i = k := by omega
                subst this
                rw [← HX.out]; exact Hok.out
          case measure => simp [intOf]; omega
        · have hok' : Sc.inOk X = false := by simpa using hok
          rw [hok'] at hF
          have hE : Hid (Sc.encE L = 6) := by
            unfold Hid; rw [hdef.out, if_neg]
            intro q
            apply hok
            rw [HX.out]
            exact List.all_eq_true.1 q _ (List.getElem_mem hlt)
          have hE2 : Hid (Sc.encB L = []) := by unfold Hid; rw [hdef2.out, hE.out]; rfl
          obtain ⟨op, t, f, kk⟩ := X
          simp [inCells] at t0 t1 t2 t3
          simp only [inCells] at hF
          clear hok hok' hown hdef hdef2
          go_wp2_with fail
          refine (hF.out _).mono ?_
          rintro e w2 ⟨rfl, hg2⟩
          clear hF
          go_wp2_with fail
          go_ret2
          rw [hE.out, hE2.out]
          exact ⟨rfl, gb_trans HG.out (gb_unalloc hg2)⟩
      · have hkn : k = L.length := by omega
        subst hkn
        have hE : Hid (Sc.encE L = 0) := by
          unfold Hid; rw [hdef.out, if_pos]
          rw [List.all_eq_true]
          intro x hx
          obtain ⟨i, hi, rfl⟩ := List.getElem_of_mem hx
          exact hall.out i hi hi
        have hE2 : Hid (Sc.encB L = headB L L.length) := by unfold Hid; rw [hdef2.out, if_pos hE.out, headB_all]
        have hcv := conv_back hown
        clear hown hdef hdef2 hg
        go_wp2_with fail
        go_ret2
        rw [hE.out, hE2.out]
        exact ⟨rfl, HG.out⟩

set_option maxHeartbeats 1000000 in
theorem encode_any (w : World) (sa : Option Addr) (sc : Nat) (L : List Sc.In) (hI : InsAt w sa L) (hm : L.length ≤ maxLen) :
    Calls Try.prog 29 #[.slice sa L.length sc] w fun e w' => e = .returned (.tuple #[.string ⟨(Sc.encB L).toArray⟩, .int .i64 (Sc.encE L)]) ∧ w.grownBy w' none := by
  have hJ := mEncode_any w sa sc L hI hm
  generalize Sc.encB L = X at *
  generalize Sc.encE L = Y at *
  clear hI
  go_enter Try.func29, Try.ntmps29
  go_wp2_with fail
  refine hJ.mono ?_
  rintro e w1 ⟨rfl, hg⟩
  clear hJ
  go_wp2_with fail
  go_ret2
  exact ⟨rfl, hg⟩

set_option maxHeartbeats 1000000 in
theorem decode_any (w : World) (c : ByteArray) (hc : c.size ≤ maxLen) :
    Calls Try.prog 27 #[.string c] w fun e w' => ∃ sa, e = .returned (.tuple #[.slice sa (Sc.decL c).length (Sc.decL c).length, .int .i64 (Sc.decE c)]) ∧ w.grownBy w' none ∧ w'.ownsRow w.heap.size 46 4 (.slice sa (Sc.decL c).length (Sc.decL c).length) (Sc.decL c).length (insCells (Sc.decL c)) := by
  have hJ := mDecode_any w c hc
  generalize Sc.decL c = X at *
  generalize Sc.decE c = Y at *
  go_enter Try.func27, Try.ntmps27
  go_wp2_with fail
  refine hJ.mono ?_
  rintro e w1 ⟨sa, rfl, hg, ho⟩
  clear hJ
  have Ho := hid ho
  clear ho
  go_wp2_with fail
  go_ret2
  exact ⟨sa, rfl, hg, Ho.out⟩
end Go.Proofs.Ytldongbimhngfaa
