/- sievelaw: a list that came out is taken. -/
import Derived.Test.YtpamlgdopmjooaaGreatCl4
namespace Go.Proofs.YtpamlgdopmjooaaGreat
open Go.RowKit
set_option linter.unusedVariables false
set_option linter.unusedSimpArgs false

/-- a list of which the first k are marked -/
def markedL (L : List Sc.In) (m : Sc.In) (k : Nat) : List Sc.In := List.replicate k m ++ L.drop k
theorem set4 (A B : List Value) (n : Nat) (hA : A.length = n) (a b c d a' b' c' d' : Value) :
    ((((A ++ (a :: b :: c :: d :: B)).set n a').set (n + 1) b').set (n + 2) c').set (n + 3) d' = A ++ (a' :: b' :: c' :: d' :: B) := by
  subst hA
  simp [List.set_append]
theorem marked_step (L : List Sc.In) (m : Sc.In) (k : Nat) (hk : k < L.length) :
    ((((insCells (markedL L m k)).set (k * 4) (.int .i64 m.op)).set (k * 4 + 1) (.int .i64 m.t)).set (k * 4 + 2) (.int .i64 m.f)).set (k * 4 + 3) (.int .i64 m.k) = insCells (markedL L m (k + 1)) := by
  have e1 : insCells (markedL L m k) = insCells (List.replicate k m) ++ (.int .i64 L[k].op :: .int .i64 L[k].t :: .int .i64 L[k].f :: .int .i64 L[k].k :: insCells (L.drop (k + 1))) := by
    have hd : L.drop k = L[k] :: L.drop (k + 1) := List.drop_eq_getElem_cons hk
    unfold markedL
    rw [hd]
    generalize L.drop (k + 1) = R
    generalize L[k] = X
    simp [insCells, inCells]
  have e2 : insCells (markedL L m (k + 1)) = insCells (List.replicate k m) ++ (.int .i64 m.op :: .int .i64 m.t :: .int .i64 m.f :: .int .i64 m.k :: insCells (L.drop (k + 1))) := by
    unfold markedL
    rw [List.replicate_succ']
    simp [insCells, inCells]
  rw [e1, e2]
  exact set4 _ _ _ (by rw [insCells_len]; simp) _ _ _ _ _ _ _ _
theorem stored4 {w : World} {base g n cap : Nat} {L : List Sc.In} {m : Sc.In} {k : Nat} (hk : k < L.length) (h : w.ownsRow base 35 4 (.slice (some ⟨g, 0, none⟩) n cap) n (insCells (markedL L m k))) :
    ((((w.setCell ⟨g, k * 4, none⟩ (.int .i64 m.op)).setCell ⟨g, k * 4 + 1, none⟩ (.int .i64 m.t)).setCell ⟨g, k * 4 + 2, none⟩ (.int .i64 m.f)).setCell ⟨g, k * 4 + 3, none⟩ (.int .i64 m.k)).ownsRow base 35 4 (.slice (some ⟨g, 0, none⟩) n cap) n (insCells (markedL L m (k + 1))) := by
  have h4 := ((((h.stored (k * 4) (.int .i64 m.op)).1.stored (k * 4 + 1) (.int .i64 m.t)).1.stored (k * 4 + 2) (.int .i64 m.f)).1.stored (k * 4 + 3) (.int .i64 m.k)).1
  rw [marked_step L m k hk] at h4
  exact h4
theorem gb4 {a b : World} {g : Nat} (h : a.grownBy b (some g)) (o1 o2 o3 o4 : Nat) (v1 v2 v3 v4 : Value) :
    a.grownBy ((((b.setCell ⟨g, o1, none⟩ v1).setCell ⟨g, o2, none⟩ v2).setCell ⟨g, o3, none⟩ v3).setCell ⟨g, o4, none⟩ v4) (some g) := gb_set (gb_set (gb_set (gb_set h _ _) _ _) _ _) _ _

theorem below_own {base : Nat} {a b : World} {g : Nat} (h : a.grownBy b (some g)) (hg : base ≤ g ∧ base ≤ a.heap.size) : Below base a b :=
  ⟨h.os, h.tape, h.output, h.size, fun k hk => h.block k (by omega) (by simp; omega)⟩
theorem below_take {base bb : Nat} {w w1 w2 : World} {o : Obj} {row : Option Nat} (hb : Below base w w1) (hg : (w1.alloc o).grownBy w2 row) (hr : ∀ j, row = some j → base ≤ j) (hbb : base ≤ bb) (hs : base ≤ w1.heap.size) (v : Value) : Below base w (w2.setCell ⟨bb, 0, none⟩ v) := by
  have h1 : Below base w1 (w2.setCell ⟨bb, 0, none⟩ v) := by
    refine ⟨hg.os, hg.tape, hg.output, ?_, fun k hk => ?_⟩
    · have := hg.size
      simp only [World.size_alloc] at this
      simp only [World.setCell, Array.size_modify]
      omega
    · rw [Below.heap_setCell _ _ _ _ (by simp; omega), hg.block k (by simp; omega) (fun e => by have := hr k e.symm; omega)]
      exact Below.heap_alloc _ _ _ (by omega)
  exact hb.trans h1
/-- what take does behind its loop -/
theorem book_take_end {w1 w2 : World} {base bb : Nat} {fs : List (Option Addr × Nat)} {pa : Option Addr} {pc : Nat} {x : Option Addr × Nat} {v' : Value}
    (hr : w1.ownsRow base 35 4 (fsV x) x.2 (insCells (List.replicate x.2 (markIn fs.length)))) (hx : x.2 ≤ 1024) (hB : Blk w1 bb 28 #[.slice pa fs.length pc])
    (hL : w1.ownsRow base 29 1 (.slice pa fs.length pc) fs.length (fs.map fsV))
    (hall : ∀ k (h : k < fs.length), w1.ownsRow base 35 4 (fsV fs[k]) fs[k].2 (insCells (List.replicate fs[k].2 (markIn k))) ∧ fs[k].2 ≤ 1024)
    (hown : w2.ownsRow base 29 1 v' (fs.length + 1) (fs.map fsV ++ [fsV x])) (hgrow : (w1.alloc (.cells #[fsV x] 29)).grownBy w2 (Value.slice pa fs.length pc).ownBlock) :
    BookInv (w2.setCell ⟨bb, 0, none⟩ v') base bb (fs ++ [x]) := by
  obtain ⟨pa', pc', rfl⟩ := owns_slice hown
  have hlen : (fs ++ [x]).length = fs.length + 1 := by simp
  have hL1 := hL.alloc (.cells #[fsV x] 29)
  have hB1 := hB.alloc (.cells #[fsV x] 29)
  have hB2 := hB1.keep hgrow (owns_blk hL1 hB1 (by decide))
  have keep : ∀ {v n xs}, w1.ownsRow base 35 4 v n xs → (w2.setCell ⟨bb, 0, none⟩ (.slice pa' (fs.length + 1) pc')).ownsRow base 35 4 v n xs := by
    intro v n xs h
    have h2 := (h.alloc (.cells #[fsV x] 29)).kept hgrow (owns_apart (h.alloc (.cells #[fsV x] 29)) hL1 (by decide))
    exact owns_set h2 (fun e => owns_blk h2 hB2 (by decide) e.symm) _ _
  refine ⟨pa', pc', ?_, ?_, ?_⟩
  · rw [hlen]
    have := hB2.set 0 (.slice pa' (fs.length + 1) pc')
    simpa using this
  · rw [hlen, List.map_append]
    exact owns_set hown (fun e => owns_blk hown hB2 (by decide) e.symm) _ _
  · intro k hk
    by_cases q : k < fs.length
    · rw [List.getElem_append_left q]
      exact ⟨keep (hall k q).1, (hall k q).2⟩
    · have : k = fs.length := by simp at hk; omega
      subst this
      rw [List.getElem_append_right (by omega)]
      simp only [Nat.sub_self, List.getElem_cons_zero]
      exact ⟨keep hr, hx⟩

set_option maxRecDepth 100000 in
set_option maxHeartbeats 4000000 in
theorem take_inv (w : World) (base bb : Nat) (fs : List (Option Addr × Nat)) (h : BookInv w base bb fs) (hn : (fs.length + 1) * 24 ≤ 140737488355328) (hbb : base ≤ bb) (hbs : base ≤ w.heap.size) (L : List Sc.In) (hL : L.length ≤ 1024) (sa : Option Addr)
    (hr : w.ownsRow base 35 4 (.slice sa L.length L.length) L.length (insCells L))
    (hfresh : ∀ g, (Value.slice sa L.length L.length).ownBlock = some g → ∀ k (hk : k < fs.length), (fsV fs[k]).ownBlock ≠ some g) :
    Calls Tryz.prog 35 #[.pointer (some ⟨bb, 0, none⟩), .slice sa L.length L.length] w fun e w' => e = .returned (.tuple #[]) ∧ BookInv w' base bb (fs ++ [(sa, L.length)]) ∧ Below base w w' := by
  obtain ⟨pa, pc, h1, h2, h3⟩ := h
  obtain ⟨iS, iS_e, iS_z, iS_s, iS_b⟩ := iSl_ex
  have iS_eq := hid iS_e
  have H1 := hid h1
  have H2 := hid h2
  have H3 := hid h3
  have Hr := hid hr
  have Hf := hid hfresh
  have c0 := h1.cell 0
  have cf := h1.fz
  simp at c0
  clear iS_e
  cases sa with
  | none =>
    have h0 : L.length = 0 := by
      rcases hr.2 with ⟨_, q⟩ | ⟨g, cap, cur, q, _⟩
      · exact q
      · cases q
    have hL0 : L = [] := List.eq_nil_of_length_eq_zero h0
    subst hL0
    have hLr := h2
    have hBr := h1
    have hrowE : w.ownsRow base 35 4 (fsV ((none : Option Addr), 0)) 0 (insCells (List.replicate 0 (markIn fs.length))) := World.ownsRow_nil _ _ _ _
    have hallE := h3
    have HrE := hid hrowE
    have HaE := hid hallE
    clear h1 h2 h3 hr hfresh H1 H2 H3 Hr Hf hrowE hallE
    go_enter Tryz.func35, Tryz.ntmps35
    go_wp2_with fail
    go_loopw [5] (fun i wr => i = .int .i64 0 ∧ wr = w) (fun _ _ => 0)
    case atStart => exact ⟨rfl, rfl⟩
    case round =>
      obtain ⟨rfl, rfl⟩ := hrel
      go_wp2_with (first
        | (at_builtin; refine wpList_append_own _ rfl (.tmp 29) (.tmp 31) 26 rfl base 29 iS (.slice none 0 0) 1 24 uLs iS_eq.out iS_z iS_s iS_b rfl (by decide) (.slice pa fs.length pc) fs.length (fs.map fsV) rfl (hLr.alloc _) ⟨wr.heap.size, 0, none⟩ 1 1 [.slice none 0 0] rfl rfl ?c1 ?c2 ?c3 ?c4 ?c5 ?_)
        | fail)
      case c1 => exact new_cells _ 29 #[.slice none 0 0] _ rfl
      case c2 => intro u hu; simp at hu; subst hu; rfl
      case c3 => unfold maxLen; omega
      case c4 => omega
      case c5 => simp; omega
      intro v7 w7 hown7 hgrow7 _
      obtain ⟨pa7, pc7, rfl⟩ := owns_slice hown7
      have hlt7 := hLr.lt
      have B7 := (Blk.alloc hBr (.cells #[.slice none 0 0] 29)).keep hgrow7 (owns_blk (hLr.alloc (.cells #[.slice none 0 0] 29)) (Blk.alloc hBr (.cells #[.slice none 0 0] 29)) (by decide))
      have q0 := B7.cell 0
      have qf := B7.fz
      simp at q0
      have HE := hid (book_take_end (x := ((none : Option Addr), 0)) HrE.out (by simp at hL ⊢ <;> omega) hBr hLr HaE.out hown7 hgrow7)
      have HBl := hid (below_take (Below.refl _ _) hgrow7 (fun j hj => (hlt7 j hj).1) hbb (by omega) (.slice pa7 (fs.length + 1) pc7))
      clear hown7 hgrow7 hlt7 B7 hLr hBr HrE HaE
      go_wp2_with fail
      go_end0
      exact ⟨rfl, HE.out, HBl.out⟩
  | some ad =>
    obtain ⟨g, rfl, hgb, hgl⟩ : ∃ g, ad = ⟨g, 0, none⟩ ∧ base ≤ g ∧ g < w.heap.size := by
      rcases hr.2 with ⟨q, _⟩ | ⟨g, cap, cur, q, q2, q3, _⟩
      · cases q
      · simp only [Value.slice.injEq, Option.some.injEq] at q
        exact ⟨g, q.1, q2, (Array.getElem?_eq_some_iff.1 q3).1⟩
    have hgB : bb ≠ g := by
      intro e; apply owns_blk hr h1 (by decide); rw [e]; rfl
    have hgP : (Value.slice pa fs.length pc).ownBlock ≠ some g := by
      rcases owns_apart h2 hr (by decide) with e | e
      · rw [e]; simp
      · exact e
    clear h1 h2 h3 hr hfresh
    go_enter Tryz.func35, Tryz.ntmps35
    go_wp2_with fail
    go_loopw [5] (fun i wr => ∃ k : Nat, k ≤ L.length ∧ i = .int .i64 k ∧ w.grownBy wr (some g) ∧ wr.ownsRow base 35 4 (.slice (some ⟨g, 0, none⟩) L.length L.length) L.length (insCells (markedL L (markIn fs.length) k))) (fun i _ => L.length - (intOf i).toNat)
    case atStart => exact ⟨0, Nat.zero_le _, rfl, gb_refl _ _, Hr.out⟩
    case round =>
      obtain ⟨k, hk, rfl, hg, hown⟩ := hrel
      have HG := hid hg
      have Ho := hid hown
      have hBr := H1.out.keep hg (by simpa using hgB)
      have d0 := hBr.cell 0
      have df := hBr.fz
      simp at d0
      have hzr := hg.size
      by_cases hlt : k < L.length
      · have hml : (markedL L (markIn fs.length) k).length = L.length := by unfold markedL; simp; omega
        obtain ⟨g', hgg, hgb', hgl', hcell⟩ := owns_in (l := markedL L (markIn fs.length) k) (by rw [hml]) hown k (by omega)
        cases hgg
        generalize (markedL L (markIn fs.length) k)[k]'(by omega) = X at *
        obtain ⟨xo, xt, xf, xk⟩ := X
        have t0 := hcell 0 (by omega)
        have t1 := hcell 1 (by omega)
        have t2 := hcell 2 (by omega)
        have t3 := hcell 3 (by omega)
        simp [inCells] at t0 t1 t2 t3
        have fz := fun j => hown.frozenAt j
        clear hcell hown hg hBr
        go_wp2_with fail
        go_roundw
        case rel =>
          have S4 := stored4 (m := markIn fs.length) (L := L) (k := k) hlt Ho.out
          have G4 := gb4 HG.out (k * 4) (k * 4 + 1) (k * 4 + 2) (k * 4 + 3) (.int .i64 (-1)) (.int .i64 0) (.int .i64 0) (.int .i64 (fs.length : Int))
          exact ⟨k + 1, by omega, by go_num, G4, S4⟩
        case measure => simp [intOf]; omega
      · have hkn : k = L.length := by omega
        subst hkn
        have hme : markedL L (markIn fs.length) L.length = List.replicate L.length (markIn fs.length) := by unfold markedL; simp
        rw [hme] at hown
        have hLr := H2.out.kept hg (Or.inr hgP)
        have hrowE : wr.ownsRow base 35 4 (fsV (some ⟨g, 0, none⟩, L.length)) L.length (insCells (List.replicate L.length (markIn fs.length))) := hown
        have hallE : ∀ k (h : k < fs.length), wr.ownsRow base 35 4 (fsV fs[k]) fs[k].2 (insCells (List.replicate fs[k].2 (markIn k))) ∧ fs[k].2 ≤ 1024 :=
          fun k h => ⟨(H3.out k h).1.kept hg (Or.inr (Hf.out g rfl k h)), (H3.out k h).2⟩
        have HrE := hid hrowE
        have HaE := hid hallE
        clear hown Ho hg hme hrowE hallE H2 H3 Hf
        go_wp2_with (first
          | (at_builtin; refine wpList_append_own _ rfl (.tmp 29) (.tmp 31) 26 rfl base 29 iS (.slice none 0 0) 1 24 uLs iS_eq.out iS_z iS_s iS_b rfl (by decide) (.slice pa fs.length pc) fs.length (fs.map fsV) rfl (hLr.alloc _) ⟨wr.heap.size, 0, none⟩ 1 1 [.slice (some ⟨g, 0, none⟩) L.length L.length] rfl rfl ?c1 ?c2 ?c3 ?c4 ?c5 ?_)
          | fail)
        case c1 => exact new_cells _ 29 #[.slice (some ⟨g, 0, none⟩) L.length L.length] _ rfl
        case c2 => intro u hu; simp at hu; subst hu; rfl
        case c3 => unfold maxLen; omega
        case c4 => omega
        case c5 => simp; omega
        intro v7 w7 hown7 hgrow7 _
        obtain ⟨pa7, pc7, rfl⟩ := owns_slice hown7
        have hlt7 := hLr.lt
        have B7 := (Blk.alloc hBr (.cells #[.slice (some ⟨g, 0, none⟩) L.length L.length] 29)).keep hgrow7 (owns_blk (hLr.alloc (.cells #[.slice (some ⟨g, 0, none⟩) L.length L.length] 29)) (Blk.alloc hBr (.cells #[.slice (some ⟨g, 0, none⟩) L.length L.length] 29)) (by decide))
        have q0 := B7.cell 0
        have qf := B7.fz
        simp at q0
        have HE := hid (book_take_end (x := (some ⟨g, 0, none⟩, L.length)) HrE.out (by simp at hL ⊢ <;> omega) hBr hLr HaE.out hown7 hgrow7)
        have HBl := hid (below_take (below_own HG.out (by omega)) hgrow7 (fun j hj => (hlt7 j hj).1) hbb (by omega) (.slice pa7 (fs.length + 1) pc7))
        clear hown7 hgrow7 hlt7 B7 hLr hBr HrE HaE
        go_wp2_with fail
        go_end0
        exact ⟨rfl, HE.out, HBl.out⟩
end Go.Proofs.YtpamlgdopmjooaaGreat
