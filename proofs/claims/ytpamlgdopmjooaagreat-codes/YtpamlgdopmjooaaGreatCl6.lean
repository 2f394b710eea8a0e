/- sievelaw: a step that decodes. -/
import Derived.Test.YtpamlgdopmjooaaGreatCl5
import Derived.Test.YtpamlgdopmjooaaGreatCl1
import Derived.Test.YtpamlgdopmjooaaGreatCd1
import Derived.Test.YtpamlgdopmjooaaGreatMd7
namespace Go.Proofs.YtpamlgdopmjooaaGreat
open Go.RowKit
set_option linter.unusedVariables false
set_option linter.unusedSimpArgs false

theorem below_none {base : Nat} {a b : World} (h : a.grownBy b none) (hb : base ≤ a.heap.size) : Below base a b :=
  ⟨h.os, h.tape, h.output, h.size, fun k hk => h.block k (by omega) (by simp)⟩

set_option maxRecDepth 100000 in
set_option maxHeartbeats 4000000 in
theorem decode_inv (w : World) (base bb : Nat) (fs : List (Option Addr × Nat)) (o : Opr) (ho : OprOk o) (h : BookInv w base bb fs) (hn : (fs.length + 1) * 24 ≤ 140737488355328) (hbb : base ≤ bb) (hbs : base ≤ w.heap.size) :
    Calls Tryz.prog 16 #[.pointer (some ⟨bb, 0, none⟩), .agg (opCells o)] w fun e w' => e = .returned (.bool true) ∧ (∃ x, BookInv w' base bb (fs ++ [x])) ∧ Below base w w' := by
  obtain ⟨kind, n, s, p, r, la, ll, lc⟩ := o
  obtain ⟨h1, h2, h3⟩ := ho
  simp only at h1
  simp only [opCells]
  have hD := hid (fun w => decode_any w s h1)
  have hF := hid (fun w => refDecode_any w s h1)
  have hle := decL_le s
  have hold : Hid (∀ g, w.heap.size ≤ g → ∀ k (hk : k < fs.length), (fsV fs[k]).ownBlock ≠ some g) := by
    intro g hg k hk e
    obtain ⟨pa, pc, q1, q2, q3⟩ := h
    have := ((q3 k hk).1.lt g e).2
    omega
  have HB := hid h
  generalize Sc.decL s = L at *
  generalize Sc.decE s = E at *
  clear h h2 h3
  go_enter Tryz.func16, Tryz.ntmps16
  go_wp2_with fail
  refine (hD.out _).mono ?_
  rintro e w1 ⟨sa, rfl, hg1, ho1⟩
  have B0 := (Blk.new w 31 #[.int .i64 kind, .int .i64 n, .string s, .string p, .string r, .slice la ll lc]).keep hg1 (by simp)
  have c2 := B0.cell 2
  simp at c2
  have G1 := hid (gb_unalloc hg1)
  have O1 := hid ho1
  clear hD hg1 ho1 B0
  go_wp2_with fail
  refine (hF.out _).mono ?_
  rintro e w2 ⟨v2, rfl, hg2, ho2⟩
  obtain ⟨sb, sc, rfl⟩ := owns_slice ho2
  have o12 := kept_none O1.out hg2
  have G2 := hid (gb_trans G1.out hg2)
  have hS := lSame_any w2 sa sb L.length sc L (InsAt.of_own rfl o12) (InsAt.of_own rfl ho2) (by unfold maxLen; omega)
  have O2 := hid o12
  clear hF hg2 ho2 o12 O1 G1 c2
  go_wp2_with fail
  refine hS.mono ?_
  rintro e w3 ⟨rfl, hg3⟩
  clear hS
  have o3 := kept_none O2.out hg3
  have G3 := hid (gb_trans G2.out hg3)
  have hz3 := G3.out.size
  have hT := take_inv w3 base bb fs (HB.out.keep G3.out) hn hbb (by omega) L hle sa (owns_base o3 (by simp; omega)) (by
    intro g hg k hk
    refine hold.out g ?_ k hk
    have := (o3.lt g hg).1
    simp at this
    omega)
  clear hg3 o3 O2 G2
  go_wp2_with fail
  refine hT.mono ?_
  rintro e w4 ⟨rfl, hI4, hb4⟩
  clear hT
  have HI4 := hid hI4
  have HB4 := hid ((below_none G3.out hbs).trans hb4)
  clear hI4 hb4 G3
  go_wp2_with fail
  refine (num_any _ _).mono ?_
  rintro e w5 ⟨rfl, hw⟩
  subst hw
  go_wp2_with fail
  go_ret
  exact ⟨by simp, ⟨_, HI4.out⟩, HB4.out⟩
end Go.Proofs.YtpamlgdopmjooaaGreat
