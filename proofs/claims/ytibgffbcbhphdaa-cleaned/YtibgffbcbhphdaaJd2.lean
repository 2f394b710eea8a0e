import Derived.Test.YtibgffbcbhphdaaJd1
import Derived.Deep.RegionWith
namespace Go.Proofs.Ytibgffbcbhphdaa
open Go.RowKit
set_option linter.unusedVariables false
set_option linter.unusedSimpArgs false

theorem tmsCells_get (ts : List Sv.Tm) (k : Nat) (hk : k < ts.length) (j : Nat) (hj : j < 7) : (tmsCells ts)[k * 7 + j]? = (tmCells ts[k])[j]? := by
  induction ts generalizing k with
  | nil => simp at hk
  | cons x r ih =>
    have e : tmsCells (x :: r) = (tmCells x).toList ++ tmsCells r := by simp [tmsCells]
    have hl : (tmCells x).toList.length = 7 := by simp [tmCells]
    rw [e]
    cases k with
    | zero => rw [List.getElem?_append_left (by omega)]; simp
    | succ k =>
      rw [List.getElem?_append_right (by omega), hl]
      have : (k + 1) * 7 + j - 7 = k * 7 + j := by omega
      rw [this, ih k (by simpa using hk)]
      simp

theorem owns_tm {w : World} {base : Nat} {sa : Option Addr} {sc : Nat} {ts : List Sv.Tm} (h : w.ownsRow base 117 7 (.slice sa ts.length sc) ts.length (tmsCells ts)) (k : Nat) (hk : k < ts.length) :
    ∃ g, sa = some ⟨g, 0, none⟩ ∧ g < w.heap.size ∧ ∀ j, j < 7 → w.cell? ⟨g, k * 7 + j, none⟩ = (tmCells ts[k])[j]? := by
  rcases h.2 with ⟨h1, h2⟩ | ⟨g, cap, cur, h1, h2, h3, h4, h5, h6, h7⟩
  · omega
  · simp only [Value.slice.injEq] at h1
    refine ⟨g, h1.1, (Array.getElem?_eq_some_iff.1 h3).1, fun j hj => ?_⟩
    have e1 : w.cell? ⟨g, k * 7 + j, none⟩ = cur[k * 7 + j]? := by simp [World.cell?, h3]
    have e2 : (cur.toList.take (ts.length * 7))[k * 7 + j]? = cur.toList[k * 7 + j]? := List.getElem?_take_of_lt (by omega)
    rw [e1, ← tmsCells_get ts k hk j hj, ← h7, e2]
    simp

theorem Blk.drew {w : World} {b : Nat} {T : TypeId} {cs : Array Value} (h : Blk w b T cs) : Blk w.drew b T cs := h

/-- the block of a walk over terms -/
def WkAt (w : World) (wb : Nat) (v : Value) (r : ByteArray) (k : Nat) : Prop := Blk w wb 103 #[v, .string r, .int .i64 k]

set_option maxRecDepth 100000 in
set_option maxHeartbeats 1000000 in
theorem next_any (ts : List Sv.Tm) (hts : ∀ x ∈ ts, Sv.TmOk x) (hlen : ts.length ≤ 601) (r : ByteArray) (hr : r.size = 20) (base wb : Nat) (sa : Option Addr) (sc : Nat) (m : Nat) : ∀ (k : Nat) (w : World), ts.length - k ≤ m → k ≤ ts.length →
    WkAt w wb (.slice sa ts.length sc) r k → w.ownsRow base 117 7 (.slice sa ts.length sc) ts.length (tmsCells ts) →
    Calls Try.prog 66 #[.pointer (some ⟨wb, 0, none⟩)] w fun e w' => ∃ k', k ≤ k' ∧ k' ≤ ts.length ∧ e = .returned (.bool (Sv.hd (Sv.ev r (ts.drop k)))) ∧
      Hid (Sv.ev r (ts.drop k') = (Sv.ev r (ts.drop k)).tail) ∧ WkAt w' wb (.slice sa ts.length sc) r k' ∧ w.grownBy w' (some wb) := by
  induction m with
  | zero =>
    intro k w hm hk hW hown
    have hkl : k = ts.length := by omega
    have hE : Hid (ts.drop k = []) := by unfold Hid; rw [hkl]; simp
    have c0 := hW.cell 0
    have c2 := hW.cell 2
    simp at c0 c2
    have hd : decide ((ts.length : Int) ≤ (k : Int)) = true := by simp; omega
    have hW' := hid hW
    clear hW hkl hown
    go_enter Try.func66, Try.ntmps66
    go_wp2_with fail
    go_quiet (fail)
    go_wp2_with fail
    go_ret
    rw [hE.out]
    exact ⟨k, Nat.le_refl _, hk, rfl, by unfold Hid; rw [hE.out]; rfl, hW'.out, gb_drewN (gb_refl _ _) _⟩
  | succ m ih =>
    intro k w hm hk hW hown
    by_cases hkl : k = ts.length
    · have hE : Hid (ts.drop k = []) := by unfold Hid; rw [hkl]; simp
      have c0 := hW.cell 0
      have c2 := hW.cell 2
      simp at c0 c2
      have hd : decide ((ts.length : Int) ≤ (k : Int)) = true := by simp; omega
      have hW' := hid hW
      have hge : ts.length ≤ k := by omega
      clear hW hkl hown ih
      go_enter Try.func66, Try.ntmps66
      go_wp2_with fail
      go_quiet (fail)
      go_wp2_with fail
      go_ret
      rw [hE.out]
      exact ⟨k, Nat.le_refl _, hk, rfl, by unfold Hid; rw [hE.out]; rfl, hW'.out, gb_drewN (gb_refl _ _) _⟩
    · have hlt : k < ts.length := by omega
      have hE : Hid (ts.drop k = ts[k] :: ts.drop (k + 1)) := by unfold Hid; rw [List.drop_eq_getElem_cons hlt]
      have hok := hts ts[k] (List.getElem_mem hlt)
      obtain ⟨g, rfl, hg, hcell⟩ := owns_tm hown k hlt
      have hgw : some wb ≠ (Value.slice (some ⟨g, 0, none⟩) ts.length sc).ownBlock := owns_blk hown hW (by decide)
      have hgw' : g ≠ wb := by intro e; apply hgw; rw [e]; rfl
      generalize ts[k] = X at *
      obtain ⟨k0, k1, k2, k3, k4, k5, k6⟩ := X
      have t0 := hcell 0 (by omega)
      have t1 := hcell 1 (by omega)
      have t2 := hcell 2 (by omega)
      have t3 := hcell 3 (by omega)
      have t4 := hcell 4 (by omega)
      have t5 := hcell 5 (by omega)
      have t6 := hcell 6 (by omega)
      simp [tmCells] at t0 t1 t2 t3 t4 t5 t6
      have c0 := hW.cell 0
      have c1 := hW.cell 1
      have c2 := hW.cell 2
      have cf := hW.fz
      simp at c0 c1 c2
      have hd : decide ((ts.length : Int) ≤ (k : Int)) = false := by simp; omega
      have hwb := hW.lt
      have HI := hid ih
      have HW := hid hW
      have Ho := hid hown
      clear ih hcell hts hkl hW hown
      go_enter Try.func66, Try.ntmps66
      go_wp2_with fail
      go_quiet (fail)
      replace HW : Hid (WkAt (w.drewN nq) wb (.slice (some ⟨g, 0, none⟩) ts.length sc) r k) := HW.out
      replace Ho : Hid ((w.drewN nq).ownsRow base 117 7 (.slice (some ⟨g, 0, none⟩) ts.length sc) ts.length (tmsCells ts)) := Ho.out
      have Hg : Hid (w.grownBy (w.drewN nq) (some wb)) := gb_drewN (gb_refl _ _) _
      replace t0 := (rfl : (w.drewN nq).cell? _ = w.cell? _).trans t0
      replace t1 := (rfl : (w.drewN nq).cell? _ = w.cell? _).trans t1
      replace t2 := (rfl : (w.drewN nq).cell? _ = w.cell? _).trans t2
      replace t3 := (rfl : (w.drewN nq).cell? _ = w.cell? _).trans t3
      replace t4 := (rfl : (w.drewN nq).cell? _ = w.cell? _).trans t4
      replace t5 := (rfl : (w.drewN nq).cell? _ = w.cell? _).trans t5
      replace t6 := (rfl : (w.drewN nq).cell? _ = w.cell? _).trans t6
      replace c0 := (rfl : (w.drewN nq).cell? _ = w.cell? _).trans c0
      replace c1 := (rfl : (w.drewN nq).cell? _ = w.cell? _).trans c1
      replace c2 := (rfl : (w.drewN nq).cell? _ = w.cell? _).trans c2
      replace hwb : wb < (w.drewN nq).heap.size := hwb
      replace hg : g < (w.drewN nq).heap.size := hg
      clear cf
      generalize w.drewN nq = w1 at *
      go_wp2_with fail
      go_region
      have B1 : Blk (w1.alloc (.cells #[.int .i64 k0, .int .i64 k1, .int .i64 k2, .int .i64 k3, .int .i64 k4, .int .i64 k5, .int .i64 k6] 117)).drew w1.heap.size 117 #[.int .i64 k0, .int .i64 k1, .int .i64 k2, .int .i64 k3, .int .i64 k4, .int .i64 k5, .int .i64 k6] := Blk.new w1 _ _
      replace HW : Hid (WkAt (w1.alloc (.cells #[.int .i64 k0, .int .i64 k1, .int .i64 k2, .int .i64 k3, .int .i64 k4, .int .i64 k5, .int .i64 k6] 117)).drew wb (.slice (some ⟨g, 0, none⟩) ts.length sc) r k) := HW.out.alloc _
      replace Ho : Hid ((w1.alloc (.cells #[.int .i64 k0, .int .i64 k1, .int .i64 k2, .int .i64 k3, .int .i64 k4, .int .i64 k5, .int .i64 k6] 117)).drew.ownsRow base 117 7 (.slice (some ⟨g, 0, none⟩) ts.length sc) ts.length (tmsCells ts)) := Ho.out.alloc _
      replace Hg : Hid (w.grownBy (w1.alloc (.cells #[.int .i64 k0, .int .i64 k1, .int .i64 k2, .int .i64 k3, .int .i64 k4, .int .i64 k5, .int .i64 k6] 117)).drew (some wb)) := gb_drew (gb_alloc Hg.out _)
      have hB : w1.heap.size ≠ wb := by omega
      clear c0 c1 c2 t0 t1 t2 t3 t4 t5 t6 hwb hg
      generalize (w1.alloc (.cells #[.int .i64 k0, .int .i64 k1, .int .i64 k2, .int .i64 k3, .int .i64 k4, .int .i64 k5, .int .i64 k6] 117)).drew = w2 at *
      generalize w1.heap.size = b at *
      have c1 := HW.out.cell 1
      have c2 := HW.out.cell 2
      have cf := HW.out.fz 2
      have b0 := B1.cell 0
      have b1 := B1.cell 1
      have b2 := B1.cell 2
      have b3 := B1.cell 3
      have b4 := B1.cell 4
      have b5 := B1.cell 5
      have b6 := B1.cell 6
      simp at c1 c2 b0 b1 b2 b3 b4 b5 b6
      have hB' : wb ≠ b := fun e => hB e.symm
      have H3 : Hid (WkAt (w2.setCell ⟨wb, 2, none⟩ (.int .i64 ((k : Int) + 1))) wb (.slice (some ⟨g, 0, none⟩) ts.length sc) r (k + 1)) := by
        have := HW.out.set 2 (.int .i64 ((k : Int) + 1)); unfold Hid WkAt; simpa using this
      have O3 : Hid ((w2.setCell ⟨wb, 2, none⟩ (.int .i64 ((k : Int) + 1))).ownsRow base 117 7 (.slice (some ⟨g, 0, none⟩) ts.length sc) ts.length (tmsCells ts)) := owns_set Ho.out (fun e => hgw e.symm) _ _
      have G3 : Hid (w.grownBy (w2.setCell ⟨wb, 2, none⟩ (.int .i64 ((k : Int) + 1))) (some wb)) := gb_set Hg.out _ _
      clear HW Ho Hg
      by_cases q0 : k0 = 0
      · subst q0
        go_wp2_with fail
        go_ret
        rw [hE.out]
        exact ⟨k + 1, by omega, by omega, rfl, rfl, H3.out, G3.out⟩
      have q0' : (k0 == 0) = false := by simp [q0]
      by_cases q1 : k0 = 1
      · subst q1
        clear q0 q0'
        go_wp2_with fail
        refine (HI.out (k + 1) _ (by omega) (by omega) H3.out O3.out).mono ?_
        rintro e w4 ⟨k', hk1, hk2, rfl, hE1, H4, G4⟩
        go_wp2_with fail
        go_ret
        rw [hE.out]
        exact ⟨k', by omega, by omega, rfl, by unfold Hid; rw [hE1.out]; rfl, H4, gb_trans G3.out G4⟩
      have q1' : (k0 == 1) = false := by simp [q1]
      by_cases q2 : k0 = 2
      · subst q2
        clear q0 q0' q1 q1'
        go_wp2_with fail
        refine (HI.out (k + 1) _ (by omega) (by omega) H3.out O3.out).mono ?_
        rintro e w4 ⟨k', hk1, hk2, rfl, hE1, H4, G4⟩
        have O4 := O3.out.kept G4 (Or.inr fun e => hgw e.symm)
        go_wp2_with fail
        refine (HI.out k' _ (by omega) (by omega) H4 O4).mono ?_
        rintro e w5 ⟨k'', hk3, hk4, rfl, hE2, H5, G5⟩
        have hfin : Hid (Sv.ev r (ts.drop k) = (Sv.hd (Sv.ev r (ts.drop (k + 1))) && Sv.hd (Sv.ev r (ts.drop k'))) :: (Sv.ev r (ts.drop k')).tail) := by
          unfold Hid; rw [hE.out, hE1.out]; rfl
        generalize Sv.hd (Sv.ev r (ts.drop (k + 1))) = x1 at *
        generalize Sv.hd (Sv.ev r (ts.drop k')) = x2 at *
        cases x1
        all_goals
          go_wp2_with fail
          go_ret
          rw [hfin.out]
          exact ⟨k'', by omega, by omega, rfl, by unfold Hid; rw [hE2.out]; rfl, H5, gb_trans G3.out (gb_trans G4 G5)⟩
      have q2' : (k0 == 2) = false := by simp [q2]
      by_cases q3 : k0 = 3
      · subst q3
        clear q0 q0' q1 q1' q2 q2'
        go_wp2_with fail
        refine (HI.out (k + 1) _ (by omega) (by omega) H3.out O3.out).mono ?_
        rintro e w4 ⟨k', hk1, hk2, rfl, hE1, H4, G4⟩
        have O4 := O3.out.kept G4 (Or.inr fun e => hgw e.symm)
        go_wp2_with fail
        refine (HI.out k' _ (by omega) (by omega) H4 O4).mono ?_
        rintro e w5 ⟨k'', hk3, hk4, rfl, hE2, H5, G5⟩
        have hfin : Hid (Sv.ev r (ts.drop k) = (Sv.hd (Sv.ev r (ts.drop (k + 1))) || Sv.hd (Sv.ev r (ts.drop k'))) :: (Sv.ev r (ts.drop k')).tail) := by
          unfold Hid; rw [hE.out, hE1.out]; rfl
        generalize Sv.hd (Sv.ev r (ts.drop (k + 1))) = x1 at *
        generalize Sv.hd (Sv.ev r (ts.drop k')) = x2 at *
        cases x1
        all_goals
          go_wp2_with fail
          go_ret
          rw [hfin.out]
          exact ⟨k'', by omega, by omega, rfl, by unfold Hid; rw [hE2.out]; rfl, H5, gb_trans G3.out (gb_trans G4 G5)⟩
      have q3' : (k0 == 3) = false := by simp [q3]
      have hfin : Hid (Sv.ev r (ts.drop k) = Sv.cmp r ⟨k0, k1, k2, k3, k4, k5, k6⟩ :: Sv.ev r (ts.drop (k + 1))) := by
        unfold Hid; rw [hE.out, Sv.ev, if_neg q0, if_neg q1, if_neg q2, if_neg q3]
      have hC := fun w => compare_any w r ⟨k0, k1, k2, k3, k4, k5, k6⟩ hr hok
      simp only [tmCells] at hC
      clear q0 q1 q2 q3 HI
      go_wp2_with fail
      go_region_with (go_at_call 79; refine (hC _).mono ?_; rintro e w' ⟨rfl, hgc⟩)
      all_goals
        go_wp2_with fail
        go_ret
        rw [hfin.out]
        exact ⟨k + 1, by omega, by omega, rfl, rfl, (Blk.drew H3.out).keep hgc (by simp), gb_grow (gb_drew G3.out) hgc (by simp)⟩
end Go.Proofs.Ytibgffbcbhphdaa
