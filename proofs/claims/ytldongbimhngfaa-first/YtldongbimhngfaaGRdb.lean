import Derived.Test.YtldongbimhngfaaGRda
import Derived.Deep.LoopGhost
namespace Go.Proofs.Ytldongbimhngfaa
open Go.RowKit
set_option linter.unusedVariables false
set_option linter.unusedSimpArgs false

theorem u58 : Try.prog.underlying 92 = some (.slice 129) := by kernel_rfl
def zTm : Value := .agg #[.int .i64 0, .int .i64 0, .int .i64 0, .int .i64 0, .int .i64 0, .int .i64 0, .int .i64 0]
theorem info_ex {T : TypeId} {z : Value} {s b : Nat} (h : (Try.prog.info? T).map (fun i => (i.zero, i.size, i.bytes)) = some (some z, s, b)) : ∃ i, Try.prog.info? T = some i ∧ i.zero = some z ∧ i.size = s ∧ i.bytes = b := by
  obtain ⟨i, hi, he⟩ := Option.map_eq_some_iff.1 h
  simp only [Prod.mk.injEq] at he
  exact ⟨i, hi, he.1, he.2.1, he.2.2⟩
theorem iTm_ex : ∃ i, Try.prog.info? 129 = some i ∧ i.zero = some zTm ∧ i.size = 7 ∧ i.bytes = 56 := info_ex (by kernel_rfl)

/-- the cells of a list of terms -/
def tmsCells (ts : List Sv.Tm) : List Value := ts.flatMap fun x => (tmCells x).toList
theorem tmsCells_len (ts : List Sv.Tm) : (tmsCells ts).length = ts.length * 7 := by
  induction ts with
  | nil => rfl
  | cons x r ih => simp only [tmsCells, List.flatMap_cons, List.length_append, List.length_cons] at *; rw [ih]; simp [tmCells]; omega
theorem tmsCells_snoc (ts : List Sv.Tm) (x : Sv.Tm) : tmsCells (ts ++ [x]) = tmsCells ts ++ (tmCells x).toList := by
  simp [tmsCells]

theorem gb_grow {a b c : World} {r q : Option Nat} (h : a.grownBy b r) (k : b.grownBy c q) (hq : ∀ j, q = some j → a.heap.size ≤ j) : a.grownBy c r :=
  ⟨k.os.trans h.os, k.tape.trans h.tape, k.output.trans h.output, Nat.le_trans h.size k.size, fun i hi hr => (k.block i (Nat.lt_of_lt_of_le hi h.size) (fun e => by have := hq i e.symm; omega)).trans (h.block i hi hr)⟩
theorem RdAt.keep {w w' : World} {rb : Nat} {t : ByteArray} {s : Sv.St} (h : RdAt w rb t s) {r : Option Nat} (hg : w.grownBy w' r) (hr : some rb ≠ r) : RdAt w' rb t s := by
  have := h.lt
  unfold RdAt at *; rw [hg.block rb this hr]; exact h
theorem owns_set {w : World} {base : Nat} {e : TypeId} {size : Nat} {v : Value} {n : Nat} {xs : List Value} (h : w.ownsRow base e size v n xs) {b : Nat} (hb : v.ownBlock ≠ some b) (o : Nat) (u : Value) : (w.setCell ⟨b, o, none⟩ u).ownsRow base e size v n xs := by
  refine h.kept (row := some b) ⟨rfl, rfl, rfl, by simp [World.setCell], fun k hk hne => Below.heap_setCell _ _ _ _ (by intro e; apply hne; simp at e; rw [e])⟩ (Or.inr hb)

theorem new_cells (W : World) (T : TypeId) (cs : Array Value) (b : Nat) (hb : b = W.heap.size) : ∀ j u, cs.toList[j]? = some u → (W.alloc (.cells cs T)).cell? (Addr.add ⟨b, 0, none⟩ j) = some u := by
  intro j u h
  subst hb
  have := (Blk.new W T cs).cell j
  have e : (if j = 0 then (⟨W.heap.size, 0, none⟩ : Addr) else ⟨W.heap.size, j, none⟩) = ⟨W.heap.size, j, none⟩ := by
    split
    · next h0 => subst h0; rfl
    · rfl
  simp only [Addr.add, Nat.zero_add]
  rw [e, this, ← h]; simp

theorem Sv_short_p (t : ByteArray) (k : Int) (s : Sv.St) (hp : s.p ≤ t.size) : (Sv.short t k s).2.p ≤ t.size :=
  (Sv_word_p t _ (Sv_relation_p t s hp).1).1
set_option maxRecDepth 100000 in
theorem Sv_argument_p (t : ByteArray) (s : Sv.St) (hp : s.p ≤ t.size) : (Sv.argument t s).2.p ≤ t.size := by
  have h1 := (Sv_index_p t s hp).1
  unfold Sv.argument
  split
  · have := look_pos t (Sv.index t s).2 (by omega)
    exact Sv_value_p t _ (Sv_need_p t 61 _ (by omega) (Sv_value_p t _ this))
  · exact Sv_value_p t _ (Sv_relation_p t _ h1).1
set_option maxRecDepth 100000 in
theorem Sv_term_p (t : ByteArray) (s : Sv.St) (hp : s.p ≤ t.size) : (Sv.term t s).2.p ≤ t.size := by
  have hl := look_pos t s
  unfold Sv.term
  repeat' split
  all_goals first | (simp only; omega) | exact Sv_short_p t _ _ (hl (by omega)) | exact Sv_argument_p t _ (hl (by omega))


theorem digit_mono (t : ByteArray) (s : Sv.St) : s.p ≤ (Sv.digit t s).2.p := by
  unfold Sv.digit; repeat' split
  all_goals simp
theorem wordTo_mono (t : ByteArray) (s : Sv.St) (k : Nat) : s.p ≤ (Sv.wordTo t s k).2.p := by
  induction k with
  | zero => exact Nat.le_refl _
  | succ k ih => exact Nat.le_trans ih (digit_mono t _)
theorem word_mono (t : ByteArray) (s : Sv.St) : s.p ≤ (Sv.word t s).2.p := wordTo_mono t s 4
theorem value_mono (t : ByteArray) (s : Sv.St) : s.p ≤ (Sv.value t s).2.p := Nat.le_trans (word_mono t s) (word_mono t _)
theorem index_mono (t : ByteArray) (s : Sv.St) : s.p ≤ (Sv.index t s).2.p := by
  unfold Sv.index; split <;> simp
theorem relation_mono (t : ByteArray) (s : Sv.St) : s.p ≤ (Sv.relation t s).2.p := by
  unfold Sv.relation; repeat' split
  all_goals simp
theorem need_mono (t : ByteArray) (b : Int) (s : Sv.St) : s.p ≤ (Sv.need t b s).p := by
  unfold Sv.need; split <;> simp
theorem short_mono (t : ByteArray) (k : Int) (s : Sv.St) : s.p ≤ (Sv.short t k s).2.p := Nat.le_trans (relation_mono t s) (word_mono t _)
set_option maxRecDepth 100000 in
theorem argument_mono (t : ByteArray) (s : Sv.St) : s.p ≤ (Sv.argument t s).2.p := by
  have h1 := index_mono t s
  unfold Sv.argument
  split
  · have h2 := value_mono t ⟨(Sv.index t s).2.p + 1, (Sv.index t s).2.f⟩
    have h3 := need_mono t 61 (Sv.value t ⟨(Sv.index t s).2.p + 1, (Sv.index t s).2.f⟩).2
    have h4 := value_mono t (Sv.need t 61 (Sv.value t ⟨(Sv.index t s).2.p + 1, (Sv.index t s).2.f⟩).2)
    simp only at h2 h3 h4 ⊢
    omega
  · have h2 := relation_mono t (Sv.index t s).2
    have h3 := value_mono t (Sv.relation t (Sv.index t s).2).2
    simp only at h2 h3 ⊢
    omega
theorem term_adv (t : ByteArray) (s : Sv.St) (h : (Sv.term t s).2.f = false) : s.p + 1 ≤ (Sv.term t s).2.p := by
  have h1 := short_mono t 0 ⟨s.p + 1, s.f⟩
  have h2 := short_mono t 2 ⟨s.p + 1, s.f⟩
  have h3 := argument_mono t ⟨s.p + 1, s.f⟩
  unfold Sv.term at h ⊢
  repeat' split at h
  all_goals simp_all

theorem cond_stop (t : ByteArray) (n : Nat) (m : Int) (s : Sv.St) (h : m ≤ 0 ∨ s.f = true) : Sv.cond t n m s = ([], s) := by
  cases n with
  | zero => rfl
  | succ n => unfold Sv.cond; rw [if_neg (by rintro ⟨h1, h2⟩; rcases h with h | h; omega; rw [h2] at h; cases h)]
theorem cond_go (t : ByteArray) (n : Nat) (m : Int) (s : Sv.St) (h : 0 < m) (hf : s.f = false) : Sv.cond t (n + 1) m s =
    ((Sv.term t s).1 :: (Sv.cond t n (m - 1 + Sv.parts (Sv.term t s).1.kind) (Sv.term t s).2).1, (Sv.cond t n (m - 1 + Sv.parts (Sv.term t s).1.kind) (Sv.term t s).2).2) := by
  rw [Sv.cond, if_pos ⟨h, hf⟩]
theorem parts_range (k : Int) : 0 ≤ Sv.parts k ∧ Sv.parts k ≤ 2 := by
  unfold Sv.parts; repeat' split
  all_goals omega

set_option maxRecDepth 100000 in
set_option maxHeartbeats 1000000 in
theorem condition_any (w : World) (rb : Nat) (t : ByteArray) (s : Sv.St) (h : RdAt w rb t s) (hp : s.p ≤ t.size) (hs : t.size ≤ 600) :
    Calls Try.prog 90 #[.pointer (some ⟨rb, 0, none⟩)] w fun e w' => ∃ sv, e = .returned sv ∧ RdEnd w w' rb t (Sv.condition t s).2 ∧
      w'.ownsRow w.heap.size 129 7 sv (Sv.condition t s).1.length (tmsCells (Sv.condition t s).1) := by
  have hrb := h.lt
  obtain ⟨iTm, iTm_e, iTm_z, iTm_s, iTm_b⟩ := iTm_ex
  have iTm_eq : Hid (Try.prog.info? 129 = some iTm) := iTm_e
  clear iTm_e
  have HC : Hid (Sv.condition t s = Sv.cond t (t.size + 1) 1 s) := rfl
  generalize Sv.condition t s = C at *
  go_enter Try.func90, Try.ntmps90
  go_wp2_with fail
  go_loopg [3, 4] (t.size + 1) (fun g v i wr => ∃ (acc : List Sv.Tm) (m : Int) (s1 : Sv.St), i = .int .i64 m ∧ 0 ≤ m ∧ m ≤ acc.length + 1 ∧ acc.length + g = t.size + 1 ∧ s1.p ≤ t.size ∧ RdEnd w wr rb t s1 ∧ (s1.f = false → t.size + 1 ≤ s1.p + g) ∧
     Hid (C = (acc ++ (Sv.cond t g m s1).1, (Sv.cond t g m s1).2)) ∧ wr.ownsRow w.heap.size 129 7 v acc.length (tmsCells acc))
  case atStart =>
    exact ⟨[], 1, s, rfl, by omega, by simp, by simp, hp, ⟨h, gb_refl _ _⟩, fun _ => by omega, by rw [HC.out]; simp [Hid], World.ownsRow_nil _ _ _ _⟩
  case round =>
    obtain ⟨acc, m, s1, rfl, hm0, hm1, hlen, hp1, ⟨hr1, hg1⟩, hfu, hC, hown⟩ := hrel
    have c2 := hr1.c2
    by_cases hm : 0 < m
    · have hd : decide ((0:Int) < m) = true := by simp [hm]
      cases hf : s1.f
      · rw [hf] at c2
        have hHf : Hid (s1.f = false) := hf
        have hgk : t.size + 1 ≤ s1.p + gk := hfu hf
        clear hf hfu
        have hgk0 : gk ≠ 0 := by omega
        obtain ⟨g, rfl⟩ : ∃ g, gk = g + 1 := ⟨gk - 1, by omega⟩
        have hT := term_any wr rb t s1 hr1 hp1 hs
        have hTp := Sv_term_p t s1 hp1
        have hTa := term_adv t s1
        have hCg := cond_go t g m s1 hm hHf.out
        generalize hX : Sv.term t s1 = X at *
        have HX : Hid (Sv.term t s1 = X) := hX
        clear hX
        obtain ⟨⟨k0, k1, k2, k3, k4, k5, k6⟩, s2⟩ := X
        have HCg : Hid _ := hCg
        clear hCg
        have hvb : u3.ownBlock ≠ some rb := fun e => by have := (hown.lt rb e).1; omega
        have hpr := parts_range k0
        have hpr1 := hpr.1
        have hpr2 := hpr.2
        have hacc : acc.length ≤ 601 := by omega
        have hm2 : m ≤ 602 := by omega
        go_wp2_with fail
        refine hT.mono ?_
        clear hT
        rintro e w1 ⟨rfl, hr2, hg2⟩
        simp only [tmCells]
        have hz1 : wr.heap.size ≤ w1.heap.size := hg2.size
        have hown1 := hown.kept hg2 (Or.inr hvb)
        clear c2
        go_wp2_with (first
          | (at_builtin; refine wpList_append_own _ rfl _ _ 92 rfl w.heap.size 129 iTm zTm 7 56 u58 iTm_eq.out iTm_z iTm_s iTm_b rfl (by decide) u3 acc.length (tmsCells acc) rfl ((hown1.alloc _).alloc _) ⟨w1.heap.size + 1, 0, none⟩ 1 1 (tmCells ⟨k0, k1, k2, k3, k4, k5, k6⟩).toList rfl rfl ?c1 ?c2 ?c3 ?c4 ?c5 ?_)
          | fail)
        case c1 => exact new_cells _ _ _ _ (by simp)
        case c2 => intro u hu; simp [tmCells] at hu; rcases hu with rfl | rfl | rfl | rfl | rfl | rfl | rfl <;> rfl
        case c3 => unfold maxLen; omega
        case c4 => omega
        case c5 => have := hg1.size; simp; omega
        intro v' w2 hown2 hgrow _
        have hlt3 : ∀ k, u3.ownBlock = some k → w.heap.size ≤ k ∧ k < wr.heap.size := fun k hk => hown.lt k hk
        have hn1 : some w1.heap.size ≠ u3.ownBlock := fun e => by have := hlt3 _ e.symm; omega
        have hn2 : some rb ≠ u3.ownBlock := fun e => by have := hlt3 _ e.symm; omega
        have B1 := ((Blk.new w1 129 #[.int .i64 k0, .int .i64 k1, .int .i64 k2, .int .i64 k3, .int .i64 k4, .int .i64 k5, .int .i64 k6]).alloc (.cells #[.int .i64 k0, .int .i64 k1, .int .i64 k2, .int .i64 k3, .int .i64 k4, .int .i64 k5, .int .i64 k6] 129)).keep hgrow hn1
        have y0 := B1.cell 0
        simp at y0
        have hr3 := ((hr2.alloc (.cells #[.int .i64 k0, .int .i64 k1, .int .i64 k2, .int .i64 k3, .int .i64 k4, .int .i64 k5, .int .i64 k6] 129)).alloc (.cells #[.int .i64 k0, .int .i64 k1, .int .i64 k2, .int .i64 k3, .int .i64 k4, .int .i64 k5, .int .i64 k6] 129)).keep hgrow hn2
        have hg3 := gb_grow (gb_alloc (gb_alloc (gb_trans hg1 hg2) (.cells #[.int .i64 k0, .int .i64 k1, .int .i64 k2, .int .i64 k3, .int .i64 k4, .int .i64 k5, .int .i64 k6] 129)) (.cells #[.int .i64 k0, .int .i64 k1, .int .i64 k2, .int .i64 k3, .int .i64 k4, .int .i64 k5, .int .i64 k6] 129)) hgrow (fun j hj => (hlt3 j hj).1)
        clear hgrow hown hown1 hr1 hg1 hr2 hg2 B1
        go_wp2_with fail
        refine (parts_any _ _).mono ?_
        rintro e w3 ⟨rfl, rfl⟩
        go_wp2_with fail
        go_roundg g
        case measure => omega
        case rel =>
          refine ⟨acc ++ [⟨k0, k1, k2, k3, k4, k5, k6⟩], m - 1 + Sv.parts k0, s2, rfl, by omega, by simp; omega, by simp; omega, hTp, ⟨hr3, hg3⟩, ?_, ?_, ?_⟩
          · intro hf; have := hTa hf; omega
          · unfold Hid at *; rw [hC, HCg]; simp
          · rw [tmsCells_snoc]; simpa using hown2
      · rw [hf] at c2
        have hst := cond_stop t gk m s1 (Or.inr hf)
        have HC2 : Hid (C = (acc, s1)) := by unfold Hid at *; rw [hC, hst]; simp
        clear hst hC hf hfu HC
        go_wp2_with fail
        go_ret
        rw [HC2.out]
        exact ⟨_, rfl, ⟨hr1, hg1⟩, hown⟩
    · have hd : decide ((0:Int) < m) = false := by simp; omega
      have hst := cond_stop t gk m s1 (Or.inl (by omega))
      have HC2 : Hid (C = (acc, s1)) := by unfold Hid at *; rw [hC, hst]; simp
      clear hst hC hfu HC
      go_wp2_with fail
      go_ret
      rw [HC2.out]
      exact ⟨_, rfl, ⟨hr1, hg1⟩, hown⟩
end Go.Proofs.Ytldongbimhngfaa
namespace Go.Proofs.Ytldongbimhngfaa
open Go.RowKit
set_option linter.unusedVariables false
set_option linter.unusedSimpArgs false

theorem hid {p : Prop} (h : p) : Hid p := h

theorem owns_slice {w : World} {base : Nat} {e : TypeId} {size : Nat} {v : Value} {n : Nat} {xs : List Value} (h : w.ownsRow base e size v n xs) : ∃ a c, v = .slice a n c := by
  rcases h.2 with ⟨h1, h2⟩ | ⟨g, cap, cur, h1, _⟩
  · exact ⟨none, 0, by rw [h1, h2]⟩
  · exact ⟨_, _, h1⟩
theorem owns_base {w : World} {base base' : Nat} {e : TypeId} {size : Nat} {v : Value} {n : Nat} {xs : List Value} (h : w.ownsRow base e size v n xs) (hb : base' ≤ base) : w.ownsRow base' e size v n xs := by
  refine ⟨h.1, ?_⟩
  rcases h.2 with h | ⟨g, cap, cur, h1, h2, h3⟩
  · exact Or.inl h
  · exact Or.inr ⟨g, cap, cur, h1, by omega, h3⟩
/-- two rows of different element types lie in different blocks -/
theorem owns_apart {w : World} {b1 b2 : Nat} {e1 e2 : TypeId} {s1 s2 : Nat} {v1 v2 : Value} {n1 n2 : Nat} {xs1 xs2 : List Value} (h1 : w.ownsRow b1 e1 s1 v1 n1 xs1) (h2 : w.ownsRow b2 e2 s2 v2 n2 xs2) (he : e1 ≠ e2) : v1.ownBlock = none ∨ v1.ownBlock ≠ v2.ownBlock := by
  rcases h1.2 with ⟨rfl, _⟩ | ⟨g, cap, cur, rfl, _, hg, _⟩
  · exact Or.inl rfl
  · right
    rcases h2.2 with ⟨rfl, _⟩ | ⟨g', cap', cur', rfl, _, hg', _⟩
    · simp [Value.ownBlock]
    · simp only [Value.ownBlock, ne_eq, Option.some.injEq]
      rintro rfl
      rw [hg] at hg'
      simp only [Option.some.injEq, Obj.cells.injEq] at hg'
      exact he hg'.2.1
theorem owns_blk {w : World} {b1 : Nat} {e1 e2 : TypeId} {s1 : Nat} {v1 : Value} {n1 : Nat} {xs1 : List Value} {b : Nat} {cs : Array Value} (h1 : w.ownsRow b1 e1 s1 v1 n1 xs1) (h2 : Blk w b e2 cs) (he : e1 ≠ e2) : some b ≠ v1.ownBlock := by
  rcases h1.2 with ⟨rfl, _⟩ | ⟨g, cap, cur, rfl, _, hg, _⟩
  · simp [Value.ownBlock]
  · simp only [Value.ownBlock, ne_eq, Option.some.injEq]
    rintro rfl
    unfold Blk at h2
    rw [hg] at h2
    simp only [Option.some.injEq, Obj.cells.injEq] at h2
    exact he h2.2.1

theorem Sv_cond_p (t : ByteArray) (n : Nat) : ∀ (m : Int) (s : Sv.St), s.p ≤ t.size → (Sv.cond t n m s).2.p ≤ t.size ∧ s.p ≤ (Sv.cond t n m s).2.p := by
  induction n with
  | zero => intro m s hp; exact ⟨hp, Nat.le_refl _⟩
  | succ n ih =>
    intro m s hp
    by_cases h : 0 < m ∧ s.f = false
    · rw [cond_go t n m s h.1 h.2]
      have h1 := Sv_term_p t s hp
      have h2 := ih (m - 1 + Sv.parts (Sv.term t s).1.kind) _ h1
      refine ⟨h2.1, Nat.le_trans ?_ h2.2⟩
      have h3 := short_mono t 0 ⟨s.p + 1, s.f⟩
      have h4 := short_mono t 2 ⟨s.p + 1, s.f⟩
      have h5 := argument_mono t ⟨s.p + 1, s.f⟩
      simp only at h3 h4 h5
      unfold Sv.term
      repeat' split
      all_goals first | omega | (simp only; omega)
    · have hor : m ≤ 0 ∨ s.f = true := by
        by_cases hm : 0 < m
        · right
          cases hf : s.f
          · exact absurd ⟨hm, hf⟩ h
          · rfl
        · left; omega
      rw [cond_stop t _ m s hor]
      exact ⟨hp, Nat.le_refl _⟩
theorem Sv_condition_p (t : ByteArray) (s : Sv.St) (hp : s.p ≤ t.size) : (Sv.condition t s).2.p ≤ t.size ∧ s.p ≤ (Sv.condition t s).2.p := Sv_cond_p t _ _ s hp
theorem Sv_rule_p (t : ByteArray) (s : Sv.St) (hp : s.p ≤ t.size) : (Sv.rule t s).2.p ≤ t.size ∧ s.p ≤ (Sv.rule t s).2.p := by
  have h1 := Sv_condition_p t s hp
  have h2 := Sv_need_p t 58 _ (by omega) h1.1
  have h3 := need_mono t 58 (Sv.condition t s).2
  have h4 := word_mono t (Sv.need t 58 (Sv.condition t s).2)
  refine ⟨(Sv_word_p t _ h2).1, ?_⟩
  show s.p ≤ (Sv.word t (Sv.need t 58 (Sv.condition t s).2)).2.p
  omega

theorem owns_kept' {w w' : World} {base : Nat} {e : TypeId} {size : Nat} {v : Value} {n : Nat} {xs : List Value} {rb : Nat} (h : w.ownsRow base e size v n xs) (hg : w.grownBy w' (some rb)) (hrb : rb < base) : w'.ownsRow base e size v n xs :=
  h.kept hg (Or.inr fun e => by have := (h.lt rb e).1; omega)

set_option maxRecDepth 100000 in
set_option maxHeartbeats 1000000 in
theorem rule_any (w : World) (rb : Nat) (t : ByteArray) (s : Sv.St) (h : RdAt w rb t s) (hp : s.p ≤ t.size) (hs : t.size ≤ 600) :
    Calls Try.prog 71 #[.pointer (some ⟨rb, 0, none⟩)] w fun e w' => ∃ sa sc, e = .returned (.agg #[.slice sa (Sv.rule t s).1.1.length sc, .int .i64 (Sv.rule t s).1.2]) ∧ RdEnd w w' rb t (Sv.rule t s).2 ∧
      w'.ownsRow w.heap.size 129 7 (.slice sa (Sv.rule t s).1.1.length sc) (Sv.rule t s).1.1.length (tmsCells (Sv.rule t s).1.1) := by
  have hrb := h.lt
  have hne : w.heap.size ≠ rb := by omega
  have hv : Hid (Sv.rule t s = (((Sv.condition t s).1, (Sv.word t (Sv.need t 58 (Sv.condition t s).2)).1), (Sv.word t (Sv.need t 58 (Sv.condition t s).2)).2)) := rfl
  have hp1 := (Sv_condition_p t s hp).1
  go_enter Try.func71, Try.ntmps71
  go_wp2_with fail
  refine (condition_any _ rb t s (h.alloc _) hp hs).mono ?_
  rintro e w1 ⟨sv, rfl, ⟨hr1, hg1⟩, hown⟩
  have hown1 := owns_base hown (base' := w.heap.size + 1) (by simp)
  obtain ⟨sa, sc, rfl⟩ := owns_slice hown
  clear hown
  go_wp2_with fail
  refine (need_any _ rb t _ 58 hr1 hp1 hs).mono ?_
  rintro e w2 ⟨rfl, hr2, hg2⟩
  have hp2 := Sv_need_p t 58 _ (by omega) hp1
  replace hown1 := owns_kept' hown1 hg2 (by omega)
  go_wp2_with fail
  refine (word_any _ rb t _ hr2 hp2 hs).mono ?_
  rintro e w3 ⟨rfl, hr3, hg3⟩
  replace hown1 := owns_kept' hown1 hg3 (by omega)
  have B0 := (((Blk.new w _ _).keep hg1 (by simpa using hne)).keep hg2 (by simpa using hne)).keep hg3 (by simpa using hne)
  have y0 := B0.cell 0
  have y1 := B0.cell 1
  have yf := B0.fz
  simp at y0 y1
  have Hown := hid (hown1)
  clear hown1
  go_wp2_with fail
  refine bodyPost_ret (v := .agg #[.slice sa (Sv.condition t s).1.length sc, .int .i64 (Sv.word t (Sv.need t 58 (Sv.condition t s).2)).1]) (by simp [results, Try.results71, go_sem, y0, y1]) rfl ?_
  rw [hv.out]
  have hnb : ∀ sa, (Value.slice sa (Sv.condition t s).1.length sc).ownBlock = some w.heap.size → ¬ w3.ownsRow (w.heap.size + 1) 129 7 (.slice sa (Sv.condition t s).1.length sc) (Sv.condition t s).1.length (tmsCells (Sv.condition t s).1) := by
    intro sa he ho; have := (ho.lt _ he).1; omega
  refine ⟨sa, sc, rfl, ⟨(hr3.other hne _ _).other hne _ _, gb_own (gb_own (gb_trans (gb_trans (gb_unalloc hg1) hg2) hg3) (Nat.le_refl _) _ _) (Nat.le_refl _) _ _⟩, ?_⟩
  exact owns_base (owns_set (owns_set Hown.out (fun he => hnb _ he Hown.out) _ _) (fun he => hnb _ he Hown.out) _ _) (by omega)

theorem u44 : Try.prog.underlying 74 = some (.slice 94) := by kernel_rfl
def zRl : Value := .agg #[.slice none 0 0, .int .i64 0]
theorem iRl_ex : ∃ i, Try.prog.info? 94 = some i ∧ i.zero = some zRl ∧ i.size = 2 ∧ i.bytes = 32 := info_ex (by kernel_rfl)

/-- a rule as it lies: its slice of terms, its terms, its verdict -/
structure Rl where
  v : Value
  ts : List Sv.Tm
  k : Int
def rlCells (L : List Rl) : List Value := L.flatMap fun x => [x.v, .int .i64 x.k]
theorem rlCells_len (L : List Rl) : (rlCells L).length = L.length * 2 := by
  induction L with
  | nil => rfl
  | cons x r ih => simp only [rlCells, List.flatMap_cons, List.length_append, List.length_cons] at *; rw [ih]; simp; omega
theorem rlCells_snoc (L : List Rl) (x : Rl) : rlCells (L ++ [x]) = rlCells L ++ [x.v, .int .i64 x.k] := by simp [rlCells]
/-- the terms of each rule lie there -/
def AllTerms (w : World) (base : Nat) (L : List Rl) : Prop := ∀ x ∈ L, w.ownsRow base 129 7 x.v x.ts.length (tmsCells x.ts)
def PolAt (w : World) (base : Nat) (pv : Value) (R : List (List Sv.Tm × Int)) : Prop :=
  ∃ L : List Rl, L.map (fun x => (x.ts, x.k)) = R ∧ w.ownsRow base 94 2 pv L.length (rlCells L) ∧ AllTerms w base L
theorem AllTerms.keep {w w' : World} {base : Nat} {L : List Rl} {r : Option Nat} (h : AllTerms w base L) (hg : w.grownBy w' r) (hr : ∀ x ∈ L, x.v.ownBlock = none ∨ x.v.ownBlock ≠ r) : AllTerms w' base L :=
  fun x hx => (h x hx).kept hg (hr x hx)
theorem AllTerms.keepRb {w w' : World} {base : Nat} {L : List Rl} {rb : Nat} (h : AllTerms w base L) (hg : w.grownBy w' (some rb)) (hr : rb < base) : AllTerms w' base L :=
  fun x hx => owns_kept' (h x hx) hg hr
theorem AllTerms.alloc {w : World} {base : Nat} {L : List Rl} (h : AllTerms w base L) (o : Obj) : AllTerms (w.alloc o) base L := fun x hx => (h x hx).alloc o
theorem AllTerms.set {w : World} {base : Nat} {L : List Rl} (h : AllTerms w base L) {b : Nat} (hb : b < base) (o : Nat) (u : Value) : AllTerms (w.setCell ⟨b, o, none⟩ u) base L :=
  fun x hx => ownsRow_setCell_below (h x hx) (by simpa using hb) u

theorem rules_stop (t : ByteArray) (n : Nat) (s : Sv.St) (h : Sv.look t s ≠ 63) : Sv.rules t n s = ([], s) := by
  cases n with
  | zero => rfl
  | succ n => rw [Sv.rules, if_neg h]
theorem rules_go (t : ByteArray) (n : Nat) (s : Sv.St) (h : Sv.look t s = 63) : Sv.rules t (n + 1) s =
    ((Sv.rule t ⟨s.p + 1, s.f⟩).1 :: (Sv.rules t n (Sv.rule t ⟨s.p + 1, s.f⟩).2).1, (Sv.rules t n (Sv.rule t ⟨s.p + 1, s.f⟩).2).2) := by
  rw [Sv.rules, if_pos h]
theorem Sv_rules_p (t : ByteArray) (n : Nat) : ∀ (s : Sv.St), s.p ≤ t.size → (Sv.rules t n s).2.p ≤ t.size := by
  induction n with
  | zero => intro s hp; exact hp
  | succ n ih =>
    intro s hp
    by_cases h : Sv.look t s = 63
    · rw [rules_go t n s h]
      exact ih _ (Sv_rule_p t ⟨s.p + 1, s.f⟩ (look_pos t s (by omega))).1
    · rw [rules_stop t _ s h]; exact hp

set_option maxRecDepth 100000 in
set_option maxHeartbeats 1000000 in
theorem policy_any (w : World) (rb : Nat) (t : ByteArray) (s : Sv.St) (h : RdAt w rb t s) (hp : s.p ≤ t.size) (hs : t.size ≤ 600) :
    Calls Try.prog 60 #[.pointer (some ⟨rb, 0, none⟩)] w fun e w' => ∃ pa pc, e = .returned (.agg #[.slice pa (Sv.policy t s).1.1.length pc, .int .i64 (Sv.policy t s).1.2]) ∧ RdEnd w w' rb t (Sv.policy t s).2 ∧
      PolAt w' w.heap.size (.slice pa (Sv.policy t s).1.1.length pc) (Sv.policy t s).1.1 := by
  have hrb := h.lt
  have hne : w.heap.size ≠ rb := by omega
  have hne1 : w.heap.size + 1 ≠ rb := by omega
  have hv : Hid (Sv.policy t s = (((Sv.ruleList t s).1, (Sv.word t (Sv.need t 46 (Sv.ruleList t s).2)).1), Sv.needEnd t (Sv.word t (Sv.need t 46 (Sv.ruleList t s).2)).2)) := rfl
  have HC : Hid (Sv.ruleList t s = Sv.rules t (t.size + 1) s) := rfl
  obtain ⟨iRl, iRl_e, iRl_z, iRl_s, iRl_b⟩ := iRl_ex
  have iRl_eq := hid iRl_e
  clear iRl_e
  have hp1 : (Sv.ruleList t s).2.p ≤ t.size := Sv_rules_p t _ s hp
  generalize Sv.ruleList t s = C at *
  go_enter Try.func60, Try.ntmps60
  go_wp2_with fail
  go_loopg [] (t.size + 1) (fun g wr => ∃ (L : List Rl) (pa : Option Addr) (pc : Nat) (s1 : Sv.St), L.length + g = t.size + 1 ∧ s1.p ≤ t.size ∧ RdEnd w wr rb t s1 ∧ t.size + 1 ≤ s1.p + g ∧
     Hid (C = (L.map (fun x => (x.ts, x.k)) ++ (Sv.rules t g s1).1, (Sv.rules t g s1).2)) ∧
     Blk wr w.heap.size 76 #[.slice none 0 0, .int .i64 0] ∧ Blk wr (w.heap.size + 1) 76 #[.slice pa L.length pc, .int .i64 0] ∧
     wr.ownsRow (w.heap.size + 2) 94 2 (.slice pa L.length pc) L.length (rlCells L) ∧ AllTerms wr (w.heap.size + 2) L)
  case atStart =>
    refine ⟨[], none, 0, s, by simp, hp, ⟨(h.alloc _).alloc _, gb_alloc (gb_alloc (gb_refl _ _) _) _⟩, by omega, by rw [HC.out]; simp [Hid], (Blk.new w _ _).alloc _, ?_, World.ownsRow_nil _ _ _ _, fun x hx => by simp at hx⟩
    have := Blk.new (w.alloc (.cells #[.slice none 0 0, .int .i64 0] 76)) 76 #[.slice none 0 0, .int .i64 0]
    simpa using this
  case round =>
    obtain ⟨L, pa, pc, s1, hlen, hps, ⟨hr1, hg1⟩, hfu, hC, B0, B1, hown, hall⟩ := hrel
    by_cases hq : Sv.look t s1 = 63
    · have hQ : Hid (Sv.look t s1 = 63) := hq
      clear hq
      obtain ⟨g, rfl⟩ : ∃ g, gk = g + 1 := ⟨gk - 1, by omega⟩
      have hp2 : s1.p + 1 ≤ t.size := look_pos t s1 (by rw [hQ.out]; omega)
      have HG := rules_go t g s1 hQ.out
      have hR := Sv_rule_p t ⟨s1.p + 1, s1.f⟩ hp2
      have hRp1 := hR.1
      have hRp2 : s1.p + 1 ≤ (Sv.rule t ⟨s1.p + 1, s1.f⟩).2.p := hR.2
      have hL : L.length ≤ 600 := by omega
      clear hR
      go_wp2_with fail
      refine (take_yes _ rb t s1 63 hr1 hps hs hQ.out).mono ?_
      rintro e w1 ⟨rfl, hr2, hg2⟩
      go_wp2_with fail
      refine (rule_any _ rb t _ hr2 hp2 hs).mono ?_
      generalize Sv.rule t ⟨s1.p + 1, s1.f⟩ = X at *
      obtain ⟨⟨ts, k⟩, s2⟩ := X
      have HG' : Hid _ := HG
      clear HG
      rintro e w2 ⟨sa, sc, rfl, ⟨hr3, hg3⟩, hnew⟩
      simp only at hr3 hnew hRp1 hRp2
      have hz : w.heap.size + 2 ≤ wr.heap.size := by have := B1.lt; omega
      have hz1 := hg2.size
      have hz2 := hg3.size
      replace B0 := (B0.keep hg2 (by simpa using hne)).keep hg3 (by simpa using hne)
      replace B1 := (B1.keep hg2 (by simpa using hne1)).keep hg3 (by simpa using hne1)
      have hown1 := owns_kept' (owns_kept' hown hg2 (by omega)) hg3 (by omega)
      have hall1 := (hall.keepRb hg2 (by omega)).keepRb hg3 (by omega)
      have hnew1 := owns_base hnew (base' := w.heap.size + 2) (by omega)
      have hrow := hown1
      have y0 := B1.cell 0
      have y1 := B1.cell 1
      have yf := B1.fz
      simp at y0 y1
      have Hnew := hid (hnew1)
      have Hall := hid (hall1)
      have Hg : Hid (w.grownBy w2 (some rb)) := gb_trans (gb_trans hg1 hg2) hg3
      clear hnew hnew1 hall hall1 hown hr1 hr2 hg1 hg2 hg3
      have hlt1 : w.heap.size + 1 < w2.heap.size := by omega
      go_wp2_with (first
          | (at_builtin; refine wpList_append_own _ rfl _ _ 74 rfl (w.heap.size + 2) 94 iRl zRl 2 32 u44 iRl_eq.out iRl_z iRl_s iRl_b rfl (by decide) (.slice pa L.length pc) L.length (rlCells L) rfl ((hrow.alloc _).alloc _) ⟨w2.heap.size + 1, 0, none⟩ 1 1 [.slice sa ts.length sc, .int .i64 k] rfl rfl ?c1 ?c2 ?c3 ?c4 ?c5 ?_)
          | fail)
      case c1 => exact new_cells _ 94 #[.slice sa ts.length sc, .int .i64 k] _ (by simp)
      case c2 => intro u hu; simp at hu; rcases hu with rfl | rfl <;> rfl
      case c3 => unfold maxLen; omega
      case c4 => omega
      case c5 => simp; omega
      intro v' w3 hown2 hgrow _
      obtain ⟨pa', pc', rfl⟩ := owns_slice hown2
      have hlt3 := hrow.lt
      have hn0 := owns_blk hrow B0 (by decide)
      have hn1 := owns_blk hrow B1 (by decide)
      have hn2 : some rb ≠ (Value.slice pa L.length pc).ownBlock := fun e => by have := hlt3 _ e.symm; omega
      have O := fun w : World => (w.alloc (.cells #[.slice sa ts.length sc, .int .i64 k] 94)).alloc (.cells #[.slice sa ts.length sc, .int .i64 k] 94)
      replace B0 := ((B0.alloc (.cells #[.slice sa ts.length sc, .int .i64 k] 94)).alloc (.cells #[.slice sa ts.length sc, .int .i64 k] 94)).keep hgrow hn0
      replace B1 := ((B1.alloc (.cells #[.slice sa ts.length sc, .int .i64 k] 94)).alloc (.cells #[.slice sa ts.length sc, .int .i64 k] 94)).keep hgrow hn1
      have hr4 := ((hr3.alloc (.cells #[.slice sa ts.length sc, .int .i64 k] 94)).alloc (.cells #[.slice sa ts.length sc, .int .i64 k] 94)).keep hgrow hn2
      have Hg4 : Hid (w.grownBy w3 (some rb)) := gb_grow (gb_alloc (gb_alloc Hg.out (.cells #[.slice sa ts.length sc, .int .i64 k] 94)) (.cells #[.slice sa ts.length sc, .int .i64 k] 94)) hgrow (fun j hj => by have := (hlt3 j hj).1; omega)
      have Hnew4 := hid (((Hnew.out.alloc (.cells #[.slice sa ts.length sc, .int .i64 k] 94)).alloc (.cells #[.slice sa ts.length sc, .int .i64 k] 94)).kept hgrow (owns_apart Hnew.out hrow (by decide)))
      have Hall4 : Hid (AllTerms w3 (w.heap.size + 2) L) := ((Hall.out.alloc (.cells #[.slice sa ts.length sc, .int .i64 k] 94)).alloc (.cells #[.slice sa ts.length sc, .int .i64 k] 94)).keep hgrow (fun x hx => owns_apart (Hall.out x hx) hrow (by decide))
      have Hown2 := hid (hown2)
      clear hgrow hown2 hrow O y0 y1 yf Hg Hnew Hall hn0 hn1 hn2 hr3 hlt3
      have y0 := B1.cell 0
      have yf := B1.fz
      simp at y0
      go_wp2_with fail
      go_roundg g
      case measure => omega
      case rel =>
        refine ⟨L ++ [⟨.slice sa ts.length sc, ts, k⟩], pa', pc', s2, by simp; omega, hRp1, ⟨hr4.other hne1 _ _, gb_own Hg4.out (by omega) _ _⟩, by omega, ?_, B0.other (by omega) _ _, ?_, ?_, ?_⟩
        · unfold Hid at *; rw [hC, HG']; simp
        · have := B1.set 0 (.slice pa' (L.length + 1) pc'); simpa using this
        · rw [rlCells_snoc]
          have := ownsRow_setCell_below (a := ⟨w.heap.size + 1, 0, none⟩) Hown2.out (by simp) (.slice pa' (L.length + 1) pc')
          simpa using this
        · refine AllTerms.set ?_ (by omega) _ _
          intro x hx
          rcases List.mem_append.1 hx with hx | hx
          · exact Hall4.out x hx
          · simp at hx; subst hx; exact Hnew4.out
    · have HC2 : Hid (C = (L.map (fun x => (x.ts, x.k)), s1)) := by unfold Hid at *; rw [hC, rules_stop t gk s1 hq]; simp
      have hQ : Hid (Sv.look t s1 ≠ 63) := hq
      have hc1 : C.1.length = L.length := by rw [HC2.out]; simp
      have HC1 : Hid (C.1.length = L.length) := hc1
      have HC3 : Hid (C.2 = s1) := by rw [HC2.out]; rfl
      clear hq hC HC hc1
      go_wp2_with fail
      refine (take_no _ rb t s1 63 hr1 hps hs hQ.out).mono ?_
      rintro e w1 ⟨rfl, hr2, hg2⟩
      have hz : w.heap.size + 2 ≤ wr.heap.size := by have := B1.lt; omega
      replace B0 := B0.keep hg2 (by simpa using hne)
      replace B1 := B1.keep hg2 (by simpa using hne1)
      have hown1 := owns_kept' hown hg2 (by omega)
      have hall1 := hall.keepRb hg2 (by omega)
      have hg : w.grownBy w1 (some rb) := gb_trans hg1 hg2
      clear hown hall hr1 hg1 hg2
      go_wp2_with fail
      rw [← HC3.out] at hr2
      refine (need_any _ rb t _ 46 hr2 hp1 hs).mono ?_
      rintro e w2 ⟨rfl, hr3, hg2⟩
      have hp2 := Sv_need_p t 46 _ (by omega) hp1
      replace B0 := B0.keep hg2 (by simpa using hne)
      replace B1 := B1.keep hg2 (by simpa using hne1)
      replace hown1 := owns_kept' hown1 hg2 (by omega)
      replace hall1 := hall1.keepRb hg2 (by omega)
      replace hg := gb_trans hg hg2
      clear hr2 hg2
      go_wp2_with fail
      refine (word_any _ rb t _ hr3 hp2 hs).mono ?_
      rintro e w3 ⟨rfl, hr4, hg2⟩
      have hp3 := (Sv_word_p t _ hp2).1
      replace B0 := B0.keep hg2 (by simpa using hne)
      replace B1 := B1.keep hg2 (by simpa using hne1)
      replace hown1 := owns_kept' hown1 hg2 (by omega)
      replace hall1 := hall1.keepRb hg2 (by omega)
      replace hg := gb_trans hg hg2
      clear hr3 hg2
      have y1 := B1.cell 1
      have yf := B1.fz
      simp at y1
      go_wp2_with fail
      refine (needEnd_any _ rb t _ (hr4.other hne1 _ _) hp3 hs).mono ?_
      rintro e w4 ⟨rfl, hr5, hg2⟩
      clear y1 yf
      replace B0 := (B0.other (by omega : w.heap.size + 1 ≠ w.heap.size) _ _).keep hg2 (by simpa using hne)
      replace B1 := (B1.set 1 (.int .i64 (Sv.word t (Sv.need t 46 C.2)).1)).keep hg2 (by simpa using hne1)
      replace hown1 := owns_kept' (ownsRow_setCell_below (a := ⟨w.heap.size + 1, 1, none⟩) hown1 (by simp) (.int .i64 (Sv.word t (Sv.need t 46 C.2)).1)) hg2 (by omega)
      replace hall1 := (hall1.set (b := w.heap.size + 1) (by omega) 1 (.int .i64 (Sv.word t (Sv.need t 46 C.2)).1)).keepRb hg2 (by omega)
      replace hg := gb_trans (gb_own hg (by omega : w.heap.size ≤ w.heap.size + 1) 1 (.int .i64 (Sv.word t (Sv.need t 46 C.2)).1)) hg2
      simp at B1
      have y0 := B1.cell 0
      have y1 := B1.cell 1
      have yf := B1.fz
      have z0 := B0.cell 0
      have z1 := B0.cell 1
      have zf := B0.fz
      simp at y0 y1 z0 z1
      have Ho := hid (hown1)
      have Ha : Hid (AllTerms w4 (w.heap.size + 2) L) := hall1
      have Hg := hid (hg)
      clear hown1 hall1 hg hg2 hr4
      go_wp2_with fail
      refine bodyPost_ret (v := .agg #[.slice pa L.length pc, .int .i64 (Sv.word t (Sv.need t 46 C.2)).1]) (by simp [results, Try.results60, go_sem, z0, z1]) rfl ?_
      rw [hv.out]
      simp only [HC1.out]
      refine ⟨pa, pc, rfl, ⟨(hr5.other hne _ _).other hne _ _, gb_own (gb_own Hg.out (Nat.le_refl _) _ _) (Nat.le_refl _) _ _⟩, L, by rw [HC2.out], ?_, ?_⟩
      · exact owns_base (ownsRow_setCell_below (ownsRow_setCell_below Ho.out (by simp) _) (by simp) _) (by omega)
      · intro x hx
        exact owns_base ((AllTerms.set (AllTerms.set Ha.out (by omega) _ _) (by omega) _ _) x hx) (by omega)
end Go.Proofs.Ytldongbimhngfaa
namespace Go.Proofs.Ytldongbimhngfaa
open Go.RowKit
set_option linter.unusedVariables false
set_option linter.unusedSimpArgs false

theorem gb_none {a b : World} {rb : Nat} (h : a.grownBy b (some rb)) (hr : a.heap.size ≤ rb) : a.grownBy b none :=
  ⟨h.os, h.tape, h.output, h.size, fun k hk _ => h.block k hk (by simp; omega)⟩
theorem gb_below {a b : World} (h : a.grownBy b none) : Below a.heap.size a b := ⟨h.os, h.tape, h.output, h.size, fun k hk => h.block k hk (by simp)⟩

theorem PolAt.set {w : World} {B : Nat} {pv : Value} {R : List (List Sv.Tm × Int)} (h : PolAt w B pv R) {b : Nat} (hb : b < B) (o : Nat) (u : Value) : PolAt (w.setCell ⟨b, o, none⟩ u) B pv R := by
  obtain ⟨L, h1, h2, h3⟩ := h
  exact ⟨L, h1, ownsRow_setCell_below h2 (by simpa using hb) u, h3.set hb o u⟩
theorem PolAt.alloc {w : World} {B : Nat} {pv : Value} {R : List (List Sv.Tm × Int)} (h : PolAt w B pv R) (o : Obj) : PolAt (w.alloc o) B pv R := by
  obtain ⟨L, h1, h2, h3⟩ := h
  exact ⟨L, h1, h2.alloc o, h3.alloc o⟩
theorem PolAt.base {w : World} {B B' : Nat} {pv : Value} {R : List (List Sv.Tm × Int)} (h : PolAt w B pv R) (hb : B' ≤ B) : PolAt w B' pv R := by
  obtain ⟨L, h1, h2, h3⟩ := h
  exact ⟨L, h1, owns_base h2 hb, fun x hx => owns_base (h3 x hx) hb⟩
theorem PolAt.keep {w w' : World} {B : Nat} {pv : Value} {R : List (List Sv.Tm × Int)} (h : PolAt w B pv R) (hg : w.grownBy w' none) : PolAt w' B pv R := by
  obtain ⟨L, h1, h2, h3⟩ := h
  have hn : ∀ v : Value, v.ownBlock = none ∨ v.ownBlock ≠ none := fun v => by cases v.ownBlock <;> simp
  exact ⟨L, h1, h2.kept hg (hn _), fun x hx => (h3 x hx).kept hg (hn _)⟩

set_option maxRecDepth 100000 in
set_option maxHeartbeats 1000000 in
theorem parse_long (w : World) (t : ByteArray) (hm : t.size ≤ maxLen) (hs : 600 < t.size) :
    Calls Try.prog 50 #[.string t] w fun e w' => e = .returned (.tuple #[.agg #[.slice none 0 0, .int .i64 0], .int .i64 1, .int .i64 0]) ∧ w.grownBy w' none := by
  unfold maxLen at hm
  go_enter Try.func50, Try.ntmps50
  go_wp2
  refine bodyPost_ret (v := .tuple #[.agg #[.slice none 0 0, .int .i64 0], .int .i64 1, .int .i64 0]) (by simp [results, Try.results50, go_sem]) rfl ⟨rfl, ?_⟩
  exact gb_alloc (gb_refl _ _) _

set_option maxRecDepth 100000 in
set_option maxHeartbeats 1000000 in
theorem parse_ok (w : World) (t : ByteArray) (hs : t.size ≤ 600) (hf : Hid ((Sv.policy t ⟨0, false⟩).2.f = false)) :
    Calls Try.prog 50 #[.string t] w fun e w' => ∃ pa pc, e = .returned (.tuple #[.agg #[.slice pa (Sv.policy t ⟨0, false⟩).1.1.length pc, .int .i64 (Sv.policy t ⟨0, false⟩).1.2], .int .i64 0, .int .i64 0]) ∧ w.grownBy w' none ∧
      PolAt w' w.heap.size (.slice pa (Sv.policy t ⟨0, false⟩).1.1.length pc) (Sv.policy t ⟨0, false⟩).1.1 := by
  have hr0 : RdAt ((w.alloc (.cells #[.slice none 0 0, .int .i64 0] 76)).alloc (.cells #[.string t, .int .i64 0, .bool false] 88)) (w.heap.size + 1) t ⟨0, false⟩ := by
    have := Blk.new (w.alloc (.cells #[.slice none 0 0, .int .i64 0] 76)) 88 #[.string t, .int .i64 0, .bool false]
    unfold RdAt; unfold Blk at this; simpa using this
  have hP := policy_any _ (w.heap.size + 1) t ⟨0, false⟩ hr0 (Nat.zero_le _) hs
  generalize Sv.policy t ⟨0, false⟩ = X at *
  obtain ⟨⟨R, d⟩, s1⟩ := X
  go_enter Try.func50, Try.ntmps50
  go_wp2_with fail
  refine hP.mono ?_
  clear hP
  rintro e w1 ⟨pa, pc, rfl, ⟨hr1, hg1⟩, hpol⟩
  have c2 := hr1.c2
  simp only [hf.out] at c2
  have hz := hg1.size
  simp at hz
  have B0 := ((Blk.new w 76 #[.slice none 0 0, .int .i64 0]).alloc (.cells #[.string t, .int .i64 0, .bool false] 88)).keep hg1 (by simp)
  have y0 := B0.cell 0
  have y1 := B0.cell 1
  have yf := B0.fz
  simp at y0 y1
  have hlt1 : w.heap.size + 1 < w1.heap.size := by omega
  have hlt0 : w.heap.size < w1.heap.size := by omega
  have Hg := hid hg1
  have Hp := hid hpol
  clear hg1 hpol hr0
  go_wp2_with fail
  refine bodyPost_ret (v := .tuple #[.agg #[.slice pa R.length pc, .int .i64 d], .int .i64 0, .int .i64 0]) (by simp [results, Try.results50, go_sem, y0, y1, hlt0]) rfl ⟨pa, pc, rfl, ?_, ?_⟩
  · exact gb_alloc (gb_own (gb_own (gb_none (gb_unalloc (gb_unalloc Hg.out)) (by omega)) (Nat.le_refl _) _ _) (Nat.le_refl _) _ _) _
  · refine PolAt.base (B := w.heap.size + 2) ?_ (by omega)
    have := Hp.out
    simp only [World.size_alloc] at this
    exact ((this.set (by omega) _ _).set (by omega) _ _).alloc _

set_option maxRecDepth 100000 in
set_option maxHeartbeats 1000000 in
theorem parse_form (w : World) (t : ByteArray) (hs : t.size ≤ 600) (hf : Hid ((Sv.policy t ⟨0, false⟩).2.f = true)) :
    Calls Try.prog 50 #[.string t] w fun e w' => e = .returned (.tuple #[.agg #[.slice none 0 0, .int .i64 0], .int .i64 2, .int .i64 (Sv.policy t ⟨0, false⟩).2.p]) ∧ w.grownBy w' none := by
  have hr0 : RdAt ((w.alloc (.cells #[.slice none 0 0, .int .i64 0] 76)).alloc (.cells #[.string t, .int .i64 0, .bool false] 88)) (w.heap.size + 1) t ⟨0, false⟩ := by
    have := Blk.new (w.alloc (.cells #[.slice none 0 0, .int .i64 0] 76)) 88 #[.string t, .int .i64 0, .bool false]
    unfold RdAt; unfold Blk at this; simpa using this
  have hP := policy_any _ (w.heap.size + 1) t ⟨0, false⟩ hr0 (Nat.zero_le _) hs
  generalize Sv.policy t ⟨0, false⟩ = X at *
  obtain ⟨⟨R, d⟩, s1⟩ := X
  go_enter Try.func50, Try.ntmps50
  go_wp2_with fail
  refine hP.mono ?_
  clear hP
  rintro e w1 ⟨pa, pc, rfl, ⟨hr1, hg1⟩, hpol⟩
  have c1 := hr1.c1
  have c2 := hr1.c2
  simp only [hf.out] at c2
  have hz := hg1.size
  simp at hz
  have B0 := ((Blk.new w 76 #[.slice none 0 0, .int .i64 0]).alloc (.cells #[.string t, .int .i64 0, .bool false] 88)).keep hg1 (by simp)
  have y0 := B0.cell 0
  have y1 := B0.cell 1
  have yf := B0.fz
  simp at y0 y1
  have hlt1 : w.heap.size + 1 < w1.heap.size := by omega
  have hlt0 : w.heap.size < w1.heap.size := by omega
  have Hg := hid hg1
  clear hg1 hpol hr0
  go_wp2_with fail
  go_region
  go_wp2
  refine bodyPost_ret (v := .tuple #[.agg #[.slice none 0 0, .int .i64 0], .int .i64 2, .int .i64 s1.p]) (by simp [results, Try.results50, go_sem, y0, y1, hlt0]) rfl ⟨rfl, ?_⟩
  exact gb_drew (gb_alloc (gb_own (gb_own (gb_none (gb_unalloc (gb_unalloc Hg.out)) (by omega)) (Nat.le_refl _) _ _) (Nat.le_refl _) _ _) _)
end Go.Proofs.Ytldongbimhngfaa
