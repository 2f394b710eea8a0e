import Derived.Test.YtibgffbcbhphdaaRd4
import Derived.Deep.LoopGhost
namespace Go.Proofs.Ytibgffbcbhphdaa
open Go.RowKit
set_option linter.unusedVariables false
set_option linter.unusedSimpArgs false

theorem u58 : Try.prog.underlying 90 = some (.slice 117) := by kernel_rfl
def zTm : Value := .agg #[.int .i64 0, .int .i64 0, .int .i64 0, .int .i64 0, .int .i64 0, .int .i64 0, .int .i64 0]
theorem info_ex {T : TypeId} {z : Value} {s b : Nat} (h : (Try.prog.info? T).map (fun i => (i.zero, i.size, i.bytes)) = some (some z, s, b)) : ∃ i, Try.prog.info? T = some i ∧ i.zero = some z ∧ i.size = s ∧ i.bytes = b := by
  obtain ⟨i, hi, he⟩ := Option.map_eq_some_iff.1 h
  simp only [Prod.mk.injEq] at he
  exact ⟨i, hi, he.1, he.2.1, he.2.2⟩
theorem iTm_ex : ∃ i, Try.prog.info? 117 = some i ∧ i.zero = some zTm ∧ i.size = 7 ∧ i.bytes = 56 := info_ex (by kernel_rfl)

/-- the cells of a list of terms -/
def tmsCells (ts : List Sv.Tm) : List Value := ts.flatMap fun x => (tmCells x).toList
theorem tmsCells_len (ts : List Sv.Tm) : (tmsCells ts).length = ts.length * 7 := by
  induction ts with
  | nil => rfl
  | cons x r ih => simp only [tmsCells, List.flatMap_cons, List.length_append, List.length_cons] at *; rw [ih]; simp [tmCells]; omega
theorem tmsCells_snoc (ts : List Sv.Tm) (x : Sv.Tm) : tmsCells (ts ++ [x]) = tmsCells ts ++ (tmCells x).toList := by
  simp [tmsCells]

theorem gb_grow {a b c : World} {r q : Option Nat} (h : a.grownBy b r) (k : b.grownBy c q) (hq : ∀ j, q = some j → a.heap.size ≤ j) : a.grownBy c r :=
  ⟨k.os.trans h.os, k.tape.trans h.tape, k.output.trans h.output, Nat.le_trans h.size k.size, fun i hi hr => (k.block i (Nat.lt_of_lt_of_le hi h.size) (fun e => by have := hq i e.symm; omega)).trans (h.block i hi hr)⟩
theorem RdAt.keep {w w' : World} {rb : Nat} {t : ByteArray} {s : Sv.St} (h : RdAt w rb t s) {r : Option Nat} (hg : w.grownBy w' r) (hr : some rb ≠ r) : RdAt w' rb t s := by
  have := h.lt
  unfold RdAt at *; rw [hg.block rb this hr]; exact h
theorem owns_set {w : World} {base : Nat} {e : TypeId} {size : Nat} {v : Value} {n : Nat} {xs : List Value} (h : w.ownsRow base e size v n xs) {b : Nat} (hb : v.ownBlock ≠ some b) (o : Nat) (u : Value) : (w.setCell ⟨b, o, none⟩ u).ownsRow base e size v n xs := by
  refine h.kept (row := some b) ⟨rfl, rfl, rfl, by simp [World.setCell], fun k hk hne => Below.heap_setCell _ _ _ _ (by intro e; apply hne; simp at e; rw [e])⟩ (Or.inr hb)

theorem new_cells (W : World) (T : TypeId) (cs : Array Value) (b : Nat) (hb : b = W.heap.size) : ∀ j u, cs.toList[j]? = some u → (W.alloc (.cells cs T)).cell? (Addr.add ⟨b, 0, none⟩ j) = some u := by
  intro j u h
  subst hb
  have := (Blk.new W T cs).cell j
  have e : (if j = 0 then (⟨W.heap.size, 0, none⟩ : Addr) else ⟨W.heap.size, j, none⟩) = ⟨W.heap.size, j, none⟩ := by
    split
    · next h0 => subst h0; rfl
    · rfl
  simp only [Addr.add, Nat.zero_add]
  rw [e, this, ← h]; simp

theorem Sv_short_p (t : ByteArray) (k : Int) (s : Sv.St) (hp : s.p ≤ t.size) : (Sv.short t k s).2.p ≤ t.size :=
  (Sv_word_p t _ (Sv_relation_p t s hp).1).1
set_option maxRecDepth 100000 in
theorem Sv_argument_p (t : ByteArray) (s : Sv.St) (hp : s.p ≤ t.size) : (Sv.argument t s).2.p ≤ t.size := by
  have h1 := (Sv_index_p t s hp).1
  unfold Sv.argument
  split
  · have := look_pos t (Sv.index t s).2 (by omega)
    exact Sv_value_p t _ (Sv_need_p t 61 _ (by omega) (Sv_value_p t _ this))
  · exact Sv_value_p t _ (Sv_relation_p t _ h1).1
set_option maxRecDepth 100000 in
theorem Sv_term_p (t : ByteArray) (s : Sv.St) (hp : s.p ≤ t.size) : (Sv.term t s).2.p ≤ t.size := by
  have hl := look_pos t s
  unfold Sv.term
  repeat' split
  all_goals first | (simp only; omega) | exact Sv_short_p t _ _ (hl (by omega)) | exact Sv_argument_p t _ (hl (by omega))


theorem digit_mono (t : ByteArray) (s : Sv.St) : s.p ≤ (Sv.digit t s).2.p := by
  unfold Sv.digit; repeat' split
  all_goals simp
theorem wordTo_mono (t : ByteArray) (s : Sv.St) (k : Nat) : s.p ≤ (Sv.wordTo t s k).2.p := by
  induction k with
  | zero => exact Nat.le_refl _
  | succ k ih => exact Nat.le_trans ih (digit_mono t _)
theorem word_mono (t : ByteArray) (s : Sv.St) : s.p ≤ (Sv.word t s).2.p := wordTo_mono t s 4
theorem value_mono (t : ByteArray) (s : Sv.St) : s.p ≤ (Sv.value t s).2.p := Nat.le_trans (word_mono t s) (word_mono t _)
theorem index_mono (t : ByteArray) (s : Sv.St) : s.p ≤ (Sv.index t s).2.p := by
  unfold Sv.index; split <;> simp
theorem relation_mono (t : ByteArray) (s : Sv.St) : s.p ≤ (Sv.relation t s).2.p := by
  unfold Sv.relation; repeat' split
  all_goals simp
theorem need_mono (t : ByteArray) (b : Int) (s : Sv.St) : s.p ≤ (Sv.need t b s).p := by
  unfold Sv.need; split <;> simp
theorem short_mono (t : ByteArray) (k : Int) (s : Sv.St) : s.p ≤ (Sv.short t k s).2.p := Nat.le_trans (relation_mono t s) (word_mono t _)
set_option maxRecDepth 100000 in
theorem argument_mono (t : ByteArray) (s : Sv.St) : s.p ≤ (Sv.argument t s).2.p := by
  have h1 := index_mono t s
  unfold Sv.argument
  split
  · have h2 := value_mono t ⟨(Sv.index t s).2.p + 1, (Sv.index t s).2.f⟩
    have h3 := need_mono t 61 (Sv.value t ⟨(Sv.index t s).2.p + 1, (Sv.index t s).2.f⟩).2
    have h4 := value_mono t (Sv.need t 61 (Sv.value t ⟨(Sv.index t s).2.p + 1, (Sv.index t s).2.f⟩).2)
    simp only at h2 h3 h4 ⊢
    omega
  · have h2 := relation_mono t (Sv.index t s).2
    have h3 := value_mono t (Sv.relation t (Sv.index t s).2).2
    simp only at h2 h3 ⊢
    omega
theorem term_adv (t : ByteArray) (s : Sv.St) (h : (Sv.term t s).2.f = false) : s.p + 1 ≤ (Sv.term t s).2.p := by
  have h1 := short_mono t 0 ⟨s.p + 1, s.f⟩
  have h2 := short_mono t 2 ⟨s.p + 1, s.f⟩
  have h3 := argument_mono t ⟨s.p + 1, s.f⟩
  unfold Sv.term at h ⊢
  repeat' split at h
  all_goals simp_all

theorem cond_stop (t : ByteArray) (n : Nat) (m : Int) (s : Sv.St) (h : m ≤ 0 ∨ s.f = true) : Sv.cond t n m s = ([], s) := by
  cases n with
  | zero => rfl
  | succ n => unfold Sv.cond; rw [if_neg (by rintro ⟨h1, h2⟩; rcases h with h | h; omega; rw [h2] at h; cases h)]
theorem cond_go (t : ByteArray) (n : Nat) (m : Int) (s : Sv.St) (h : 0 < m) (hf : s.f = false) : Sv.cond t (n + 1) m s =
    ((Sv.term t s).1 :: (Sv.cond t n (m - 1 + Sv.parts (Sv.term t s).1.kind) (Sv.term t s).2).1, (Sv.cond t n (m - 1 + Sv.parts (Sv.term t s).1.kind) (Sv.term t s).2).2) := by
  rw [Sv.cond, if_pos ⟨h, hf⟩]
theorem parts_range (k : Int) : 0 ≤ Sv.parts k ∧ Sv.parts k ≤ 2 := by
  unfold Sv.parts; repeat' split
  all_goals omega

set_option maxRecDepth 100000 in
set_option maxHeartbeats 1000000 in
theorem condition_any (w : World) (rb : Nat) (t : ByteArray) (s : Sv.St) (h : RdAt w rb t s) (hp : s.p ≤ t.size) (hs : t.size ≤ 600) :
    Calls Try.prog 77 #[.pointer (some ⟨rb, 0, none⟩)] w fun e w' => ∃ sv, e = .returned sv ∧ RdEnd w w' rb t (Sv.condition t s).2 ∧
      w'.ownsRow w.heap.size 117 7 sv (Sv.condition t s).1.length (tmsCells (Sv.condition t s).1) := by
  have hrb := h.lt
  obtain ⟨iTm, iTm_e, iTm_z, iTm_s, iTm_b⟩ := iTm_ex
  have iTm_eq : Hid (Try.prog.info? 117 = some iTm) := iTm_e
  clear iTm_e
  have HC : Hid (Sv.condition t s = Sv.cond t (t.size + 1) 1 s) := rfl
  generalize Sv.condition t s = C at *
  go_enter Try.func77, Try.ntmps77
  go_wp2_with fail
  go_loopg [3, 4] (t.size + 1) (fun g v i wr => ∃ (acc : List Sv.Tm) (m : Int) (s1 : Sv.St), i = .int .i64 m ∧ 0 ≤ m ∧ m ≤ acc.length + 1 ∧ acc.length + g = t.size + 1 ∧ s1.p ≤ t.size ∧ RdEnd w wr rb t s1 ∧ (s1.f = false → t.size + 1 ≤ s1.p + g) ∧
     Hid (C = (acc ++ (Sv.cond t g m s1).1, (Sv.cond t g m s1).2)) ∧ wr.ownsRow w.heap.size 117 7 v acc.length (tmsCells acc))
  case atStart =>
    exact ⟨[], 1, s, rfl, by omega, by simp, by simp, hp, ⟨h, gb_refl _ _⟩, fun _ => by omega, by rw [HC.out]; simp [Hid], World.ownsRow_nil _ _ _ _⟩
  case round =>
    obtain ⟨acc, m, s1, rfl, hm0, hm1, hlen, hp1, ⟨hr1, hg1⟩, hfu, hC, hown⟩ := hrel
    have c2 := hr1.c2
    by_cases hm : 0 < m
    · have hd : decide ((0:Int) < m) = true := by simp [hm]
      cases hf : s1.f
      · rw [hf] at c2
        have hHf : Hid (s1.f = false) := hf
        have hgk : t.size + 1 ≤ s1.p + gk := hfu hf
        clear hf hfu
        have hgk0 : gk ≠ 0 := by omega
        obtain ⟨g, rfl⟩ : ∃ g, gk = g + 1 := ⟨gk - 1, by omega⟩
        have hT := term_any wr rb t s1 hr1 hp1 hs
        have hTp := Sv_term_p t s1 hp1
        have hTa := term_adv t s1
        have hCg := cond_go t g m s1 hm hHf.out
        generalize hX : Sv.term t s1 = X at *
        have HX : Hid (Sv.term t s1 = X) := hX
        clear hX
        obtain ⟨⟨k0, k1, k2, k3, k4, k5, k6⟩, s2⟩ := X
        have HCg : Hid _ := hCg
        clear hCg
        have hvb : u3.ownBlock ≠ some rb := fun e => by have := (hown.lt rb e).1; omega
        have hpr := parts_range k0
        have hpr1 := hpr.1
        have hpr2 := hpr.2
        have hacc : acc.length ≤ 601 := by omega
        have hm2 : m ≤ 602 := by omega
        go_wp2_with fail
        refine hT.mono ?_
        clear hT
        rintro e w1 ⟨rfl, hr2, hg2⟩
        simp only [tmCells]
        have hz1 : wr.heap.size ≤ w1.heap.size := hg2.size
        have hown1 := hown.kept hg2 (Or.inr hvb)
        clear c2
        go_wp2_with (first
          | (at_builtin; refine wpList_append_own _ rfl _ _ 90 rfl w.heap.size 117 iTm zTm 7 56 u58 iTm_eq.out iTm_z iTm_s iTm_b rfl (by decide) u3 acc.length (tmsCells acc) rfl ((hown1.alloc _).alloc _) ⟨w1.heap.size + 1, 0, none⟩ 1 1 (tmCells ⟨k0, k1, k2, k3, k4, k5, k6⟩).toList rfl rfl ?c1 ?c2 ?c3 ?c4 ?c5 ?_)
          | fail)
        case c1 => exact new_cells _ _ _ _ (by simp)
        case c2 => intro u hu; simp [tmCells] at hu; rcases hu with rfl | rfl | rfl | rfl | rfl | rfl | rfl <;> rfl
        case c3 => unfold maxLen; omega
        case c4 => omega
        case c5 => have := hg1.size; simp; omega
        intro v' w2 hown2 hgrow _
        have hlt3 : ∀ k, u3.ownBlock = some k → w.heap.size ≤ k ∧ k < wr.heap.size := fun k hk => hown.lt k hk
        have hn1 : some w1.heap.size ≠ u3.ownBlock := fun e => by have := hlt3 _ e.symm; omega
        have hn2 : some rb ≠ u3.ownBlock := fun e => by have := hlt3 _ e.symm; omega
        have B1 := ((Blk.new w1 117 #[.int .i64 k0, .int .i64 k1, .int .i64 k2, .int .i64 k3, .int .i64 k4, .int .i64 k5, .int .i64 k6]).alloc (.cells #[.int .i64 k0, .int .i64 k1, .int .i64 k2, .int .i64 k3, .int .i64 k4, .int .i64 k5, .int .i64 k6] 117)).keep hgrow hn1
        have y0 := B1.cell 0
        simp at y0
        have hr3 := ((hr2.alloc (.cells #[.int .i64 k0, .int .i64 k1, .int .i64 k2, .int .i64 k3, .int .i64 k4, .int .i64 k5, .int .i64 k6] 117)).alloc (.cells #[.int .i64 k0, .int .i64 k1, .int .i64 k2, .int .i64 k3, .int .i64 k4, .int .i64 k5, .int .i64 k6] 117)).keep hgrow hn2
        have hg3 := gb_grow (gb_alloc (gb_alloc (gb_trans hg1 hg2) (.cells #[.int .i64 k0, .int .i64 k1, .int .i64 k2, .int .i64 k3, .int .i64 k4, .int .i64 k5, .int .i64 k6] 117)) (.cells #[.int .i64 k0, .int .i64 k1, .int .i64 k2, .int .i64 k3, .int .i64 k4, .int .i64 k5, .int .i64 k6] 117)) hgrow (fun j hj => (hlt3 j hj).1)
        clear hgrow hown hown1 hr1 hg1 hr2 hg2 B1
        go_wp2_with fail
        refine (parts_any _ _).mono ?_
        rintro e w3 ⟨rfl, rfl⟩
        go_wp2_with fail
        go_roundg g
        case measure => omega
        case rel =>
          refine ⟨acc ++ [⟨k0, k1, k2, k3, k4, k5, k6⟩], m - 1 + Sv.parts k0, s2, rfl, by omega, by simp; omega, by simp; omega, hTp, ⟨hr3, hg3⟩, ?_, ?_, ?_⟩
          · intro hf; have := hTa hf; omega
          · unfold Hid at *; rw [hC, HCg]; simp
          · rw [tmsCells_snoc]; simpa using hown2
      · rw [hf] at c2
        have hst := cond_stop t gk m s1 (Or.inr hf)
        have HC2 : Hid (C = (acc, s1)) := by unfold Hid at *; rw [hC, hst]; simp
        clear hst hC hf hfu HC
        go_wp2_with fail
        go_ret
        rw [HC2.out]
        exact ⟨_, rfl, ⟨hr1, hg1⟩, hown⟩
    · have hd : decide ((0:Int) < m) = false := by simp; omega
      have hst := cond_stop t gk m s1 (Or.inl (by omega))
      have HC2 : Hid (C = (acc, s1)) := by unfold Hid at *; rw [hC, hst]; simp
      clear hst hC hfu HC
      go_wp2_with fail
      go_ret
      rw [HC2.out]
      exact ⟨_, rfl, ⟨hr1, hg1⟩, hown⟩
end Go.Proofs.Ytibgffbcbhphdaa
