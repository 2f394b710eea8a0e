/- What Improve answers is what the document asks. -/
import Derived.Test.YtpamlgdopmjooaaGreatDn10
import Derived.Test.YtpamlgdopmjooaaGreatGIm
namespace Go.Proofs.YtpamlgdopmjooaaGreat
open Go.RowKit Sc
set_option linter.unusedVariables false
set_option linter.unusedSimpArgs false

theorem mem_waysN : ∀ (l : List In) (i : Nat) (y : Wy), y ∈ waysN i l ↔ ∃ j, ∃ h : j < l.length, y ∈ waysOf (i + j) l[j] := by
  intro l
  induction l with
  | nil => intro i y; simp [waysN]
  | cons x r ih =>
    intro i y
    simp only [waysN]
    rw [List.mem_append, ih]
    constructor
    · rintro (h | ⟨j, h1, h2⟩)
      · exact ⟨0, by simp, by simpa using h⟩
      · refine ⟨j + 1, by simpa using h1, ?_⟩
        have e : i + (j + 1) = i + 1 + j := by omega
        rw [e]; simpa using h2
    · rintro ⟨j, h1, h2⟩
      cases j with
      | zero => exact Or.inl (by simpa using h2)
      | succ j =>
        right
        refine ⟨j, by simpa using h1, ?_⟩
        have e : i + (j + 1) = i + 1 + j := by omega
        rw [e] at h2; simpa using h2
theorem mem_ways (L : List In) (y : Wy) : y ∈ Sc.ways L ↔ ∃ j, ∃ h : j < L.length, y ∈ waysOf j L[j] := by
  unfold Sc.ways; rw [mem_waysN]; simp
theorem waysOf_src (i : Nat) (x : In) (y : Wy) (h : y ∈ waysOf i x) : y.src = i := by
  unfold waysOf at h
  split at h
  · simp at h; rcases h with rfl | rfl <;> rfl
  · split at h
    · simp at h; subst h; rfl
    · split at h
      · simp at h
      · simp at h; subst h; rfl
theorem waysOf_tos (i : Nat) (x : In) (y : Wy) (h : y ∈ waysOf i x) : y.dst ∈ tos i x := by
  unfold waysOf at h; unfold tos
  split at h
  · next q => rw [if_pos q]; simp at h; rcases h with rfl | rfl <;> simp
  · next q =>
    rw [if_neg q]
    split at h
    · next q => rw [if_pos q]; simp at h; subst h; simp
    · next q =>
      rw [if_neg q]
      split at h
      · simp at h
      · next q => rw [if_neg q]; simp at h; subst h; simp
theorem tos_waysOf (i : Nat) (x : In) (to : Nat) (h : to ∈ tos i x) : ∃ y ∈ waysOf i x, y.dst = to := by
  unfold tos at h; unfold waysOf
  split at h
  · next q => rw [if_pos q]; simp at h ⊢; omega
  · next q =>
    rw [if_neg q]
    split at h
    · next q => rw [if_pos q]; simp at h ⊢; omega
    · next q =>
      rw [if_neg q]
      split at h
      · simp at h
      · next q => rw [if_neg q]; simp at h ⊢; omega
theorem reach_rch {L : List In} {j : Nat} : Sc.Reach L j ↔ Rch L j := by
  constructor
  · intro h
    refine h (fun j => Rch L j) Rch.zero (fun w hw ih => ?_)
    obtain ⟨i, hi, hy⟩ := (mem_ways L _).1 hw
    have hs := waysOf_src _ _ _ hy
    rw [hs] at ih
    exact Rch.step hi ih (waysOf_tos _ _ _ hy)
  · intro h
    refine h (fun j => Sc.Reach L j) Sc.Reach.zero (fun i to h ih ht => ?_)
    obtain ⟨y, hy, rfl⟩ := tos_waysOf _ _ _ ht
    have hs := waysOf_src _ _ _ hy
    refine Sc.Reach.step ((mem_ways L y).2 ⟨_, h, hy⟩) ?_
    rw [hs]; exact ih
/-- ways, and what is told along them -/
theorem edges_ways (num : Bool) (i : Nat) (x : In) (a : Int) (e : Nat × Int) : e ∈ edges i x (flow num x true a) (flow num x false a) ↔ ∃ y ∈ waysOf i x, e = (y.dst, flow num x y.yes a) := by
  unfold edges waysOf
  split
  · simp
    constructor
    · rintro (h | h)
      · exact Or.inr h
      · exact Or.inl h
    · rintro (h | h)
      · exact Or.inr h
      · exact Or.inl h
  · split
    · simp
    · split
      · simp
      · simp
/-- what comes together -/
def Meets (S : Int → Prop) (o : Option Int) : Prop := match o with
  | none => ∀ s, ¬ S s
  | some u => (∃ s, S s) ∧ (∀ v, (∀ s, S s → s = v) → u = v) ∧ ∀ s, S s → u = s ∨ u = -1
theorem meets_step {S : Int → Prop} {o : Option Int} (h : Meets S o) (v : Int) : Meets (fun s => S s ∨ s = v) (some (meet o v)) := by
  cases o with
  | none =>
    refine ⟨⟨v, Or.inr rfl⟩, fun w hw => hw v (Or.inr rfl), fun s hs => ?_⟩
    rcases hs with hs | hs
    · exact absurd hs (h s)
    · exact Or.inl hs.symm
  | some c =>
    obtain ⟨⟨s0, h0⟩, h1, h2⟩ := h
    show (∃ s, S s ∨ s = v) ∧ (∀ w, (∀ s, S s ∨ s = v → s = w) → (if v = c then v else -1) = w) ∧ ∀ s, S s ∨ s = v → (if v = c then v else -1) = s ∨ (if v = c then v else -1) = -1
    refine ⟨⟨v, Or.inr rfl⟩, fun w hw => ?_, fun s hs => ?_⟩
    · have hv := hw v (Or.inr rfl)
      have hc := h1 w fun s hs => hw s (Or.inl hs)
      rw [if_pos (by omega)]; exact hv
    · split
      · next q =>
        rcases hs with hs | hs
        · have := h2 s hs; omega
        · exact Or.inl hs.symm
      · exact Or.inr rfl
theorem meets_fold (L : List In) (B : List Bool) (num : Bool) (O : List Int) (i : Nat) : ∀ (W : List Wy) (o : Option Int) (S : Int → Prop), Meets S o →
    Meets (fun s => S s ∨ ∃ y ∈ W, y.dst = i ∧ rAt B y.src = true ∧ s = flow num (lAt L y.src) y.yes (oAt O y.src)) (W.foldl (intoV L B num O i) o) := by
  have congr : ∀ {S T : Int → Prop} {o : Option Int}, (∀ s, S s ↔ T s) → Meets S o → Meets T o := by
    intro S T o h hm
    have : S = T := funext fun s => propext (h s)
    rw [← this]; exact hm
  intro W
  induction W with
  | nil => intro o S h; exact congr (fun s => by simp) h
  | cons y W ih =>
    intro o S h
    simp only [List.foldl_cons]
    unfold intoV
    split
    · next q =>
      refine congr (fun s => ?_) (ih _ _ (meets_step h (flow num (lAt L y.src) y.yes (oAt O y.src))))
      constructor
      · rintro ((h1 | h1) | ⟨z, z1, z2⟩)
        · exact Or.inl h1
        · exact Or.inr ⟨y, by simp, q.1, q.2, h1⟩
        · exact Or.inr ⟨z, by simp [z1], z2⟩
      · rintro (h1 | ⟨z, z1, z2, z3, z4⟩)
        · exact Or.inl (Or.inl h1)
        · rcases List.mem_cons.1 z1 with rfl | z1
          · exact Or.inl (Or.inr z4)
          · exact Or.inr ⟨z, z1, z2, z3, z4⟩
    · next q =>
      refine congr (fun s => ?_) (ih _ _ h)
      constructor
      · rintro (h1 | ⟨z, z1, z2⟩)
        · exact Or.inl h1
        · exact Or.inr ⟨z, by simp [z1], z2⟩
      · rintro (h1 | ⟨z, z1, z2, z3, z4⟩)
        · exact Or.inl h1
        · rcases List.mem_cons.1 z1 with rfl | z1
          · exact absurd ⟨z2, z3⟩ q
          · exact Or.inr ⟨z, z1, z2, z3, z4⟩
theorem meets_one {S : Int → Prop} {u v : Int} (h0 : ∃ s, S s) (h1 : ∀ w, (∀ s, S s → s = w) → u = w) (h2 : ∀ s, S s → u = s ∨ u = -1) (k1 : ∀ w, (∀ s, S s → s = w) → v = w) (k2 : ∀ s, S s → v = s ∨ v = -1) : u = v := by
  obtain ⟨s0, hs0⟩ := h0
  by_cases q : ∀ s, S s → s = s0
  · rw [h1 s0 q, k1 s0 q]
  · have : ∃ s1, S s1 ∧ s1 ≠ s0 := by
      by_cases z : ∃ s1, S s1 ∧ s1 ≠ s0
      · exact z
      · exact absurd (fun s hs => by by_cases e : s = s0; exact e; exact absurd ⟨s, hs, e⟩ z) q
    obtain ⟨s1, a1, a2⟩ := this
    have e1 := h2 s0 hs0
    have e2 := h2 s1 a1
    have e3 := k2 s0 hs0
    have e4 := k2 s1 a1
    omega
theorem reachB_at {L : List In} {B : List Bool} (h : ReachB L B) (i : Nat) (hi : i < L.length) : rAt B i = true ↔ Rch L i := by
  have hl : i < B.length := by rw [h.1]; exact hi
  rw [rAt_in B i hl, h.2 i hl, reach_rch]
/-- what is known by the document is what the facts tell -/
theorem known_facts {L : List In} {B : List Bool} {O : List Int} {num : Bool} {b : Nat → Int} (hin : ∀ i (h : i < L.length), ∀ to ∈ tos i L[i], to < L.length) (hF : Facts L (fun x a => flow num x true a) (fun x a => flow num x false a) (cond num 0 (-1)) b) (hR : ReachB L B) (hK : KnownB L B num O) (hpos : 0 < L.length) :
    ∀ n q, q < n → q < L.length → b q ≠ -2 → oAt O q = b q := by
  have hf0 : (cond num 0 (-1) : Int) ≠ -2 := by cases num <;> decide
  intro n
  induction n with
  | zero => intro q h; omega
  | succ n ih =>
    intro q hq hl hb
    by_cases q0 : q = 0
    · subst q0; rw [hK.first, hF.zero]
    · rw [hK.at' q (by omega) hl]
      have hm := meets_fold L B num O q (Sc.ways L) none (fun _ => False) (fun s h => h)
      have hval : ∀ y ∈ Sc.ways L, y.dst = q → rAt B y.src = true → ∃ h : y.src < L.length, b y.src ≠ -2 ∧ y ∈ waysOf y.src L[y.src] ∧ flow num (lAt L y.src) y.yes (oAt O y.src) = flow num L[y.src] y.yes (b y.src) := by
        intro y hy hd hr
        obtain ⟨j, hj, hyj⟩ := (mem_ways L y).1 hy
        have hs := waysOf_src _ _ _ hyj
        subst hs
        have hon := tos_on _ _ _ (waysOf_tos _ _ _ hyj)
        have hb2 := facts_rch hF hf0 _ ((reachB_at hR _ hj).1 hr)
        refine ⟨hj, hb2, hyj, ?_⟩
        rw [lAt_in L _ hj, ih y.src (by omega) hj hb2]
      have hvl : ∀ i (h : i < L.length) e, b i ≠ -2 → e ∈ edges i L[i] (flow num L[i] true (b i)) (flow num L[i] false (b i)) → e.1 = q → ∃ y ∈ Sc.ways L, y.dst = q ∧ rAt B y.src = true ∧ e.2 = flow num (lAt L y.src) y.yes (oAt O y.src) := by
        intro i h e hbi he heq
        obtain ⟨y, hy, rfl⟩ := (edges_ways num i L[i] (b i) e).1 he
        have hs := waysOf_src _ _ _ hy
        have hon := tos_on _ _ _ (waysOf_tos _ _ _ hy)
        refine ⟨y, (mem_ways L y).2 ⟨i, h, hy⟩, heq, ?_, ?_⟩
        · rw [hs, reachB_at hR i h]; exact rch_facts hF (i + 1) i (by omega) hbi
        · simp only at heq
          rw [hs, lAt_in L i h, ih i (by omega) h hbi]
      obtain ⟨i0, hi0, e0, a1, a2, a3⟩ := hF.some q (by omega) hb
      unfold knownAt foldV
      cases hfo : (Sc.ways L).foldl (intoV L B num O q) none with
      | none =>
        rw [hfo] at hm
        obtain ⟨y, y1, y2, y3, y4⟩ := hvl i0 hi0 e0 a1 a2 a3
        exact absurd (Or.inr ⟨y, y1, y2, y3, y4⟩) (hm e0.2)
      | some u =>
        rw [hfo] at hm
        obtain ⟨m0, m1, m2⟩ := hm
        show u = b q
        refine meets_one m0 m1 m2 (fun w hw => ?_) (fun s hs => ?_)
        · refine hF.all q w (by omega) hb fun i h e hbi he heq => ?_
          obtain ⟨y, y1, y2, y3, y4⟩ := hvl i h e hbi he heq
          exact hw e.2 (Or.inr ⟨y, y1, y2, y3, y4⟩)
        · rcases hs with hs | ⟨y, y1, y2, y3, y4⟩
          · exact absurd hs (fun h => h)
          · obtain ⟨h, hb2, hyj, hv⟩ := hval y y1 y2 y3
            rw [hv] at y4
            have := hF.lead y.src h (y.dst, flow num L[y.src] y.yes (b y.src)) hb2 ((edges_ways num _ _ _ _).2 ⟨y, hyj, rfl⟩)
            simp only at this
            rw [y2, ← y4] at this
            exact this.2
theorem doneD_doc {L : List In} {B : List Bool} {O : List Int} (h : ∀ q, q < L.length → Rch L q) (hR : ReachB L B) : doneBy 100 L B O := by
  intro i hi
  have := (reachB_at hR i hi).2 (h i hi)
  unfold okAt
  simp [this]
theorem doneL_doc {L : List In} {B : List Bool} {O : List Int} (hs : SoundList L) (h : DoneL L) (hR : ReachB L B) (hK : KnownB L B false O) : doneBy 108 L B O := by
  obtain ⟨b, hF, hd⟩ := h
  intro i hi
  have hF2 : Facts L (fun x a => flow false x true a) (fun x a => flow false x false a) (cond false 0 (-1)) b := hF
  unfold okAt
  rw [lAt_in L i hi]
  cases hr : rAt B i
  · simp
  · have hb := facts_rch hF (by decide) i ((reachB_at hR i hi).1 hr)
    have hk := known_facts (num := false) (fun i h => hs.tos_in i h) hF2 hR hK hs.2.1 (i + 1) i (by omega) hi hb
    rw [hk]
    by_cases h1 : L[i].op = 1
    · have := hd i hi h1
      simp [h1, this]
    · simp [h1]
theorem doneK_doc {L : List In} {B : List Bool} {O : List Int} (hs : SoundList L) (h : DoneK L) (hR : ReachB L B) (hK : KnownB L B true O) : doneBy 107 L B O := by
  obtain ⟨b, hF, hd⟩ := h
  intro i hi
  have hF2 : Facts L (fun x a => flow true x true a) (fun x a => flow true x false a) (cond true 0 (-1)) b := hF
  unfold okAt
  rw [lAt_in L i hi]
  cases hr : rAt B i
  · simp
  · have hb := facts_rch hF (by decide) i ((reachB_at hR i hi).1 hr)
    have hk := known_facts (num := true) (fun i h => hs.tos_in i h) hF2 hR hK hs.2.1 (i + 1) i (by omega) hi hb
    rw [hk]
    by_cases h1 : isTest L[i].op = true ∨ L[i].op = 16
    · have := hd i hi h1
      have hd0 : decide (0 ≤ b i) = false := by simp; omega
      simp [hd0]
    · have e1 : isTest L[i].op = false := by
        cases q : isTest L[i].op
        · rfl
        · exact absurd (Or.inl q) h1
      have e2 : (L[i].op == 16) = false := by
        rw [beq_eq_false_iff_ne]; exact fun q => h1 (Or.inr q)
      simp [e1, e2]
theorem tidy_doc_from (L : List In) : ∀ (l : List In) (i : Nat), L.drop i = l → TidyS l → tidyN L i l = true := by
  intro l
  induction l with
  | nil => intro i _ _; rfl
  | cons x r ih =>
    intro i hd ht
    have hi : i < L.length := by
      by_cases q : i < L.length
      · exact q
      · rw [List.drop_eq_nil_of_le (by omega)] at hd; cases hd
    have hr : L.drop (i + 1) = r := by
      rw [List.drop_eq_getElem_cons hi] at hd
      exact (List.cons.inj hd).2
    simp only [tidyN]
    rw [ih (i + 1) hr ht.2.2, Bool.and_true]
    unfold tidyAt
    rw [if_neg (fun q => ht.1 q.1 q.2)]
    split
    · next h10 =>
      obtain ⟨k0, k1⟩ := ht.2.1 h10
      have hop : opAt L (i + 1 + x.k.toNat) = match r[x.k.toNat]? with | some y => y.op | none => 0 := by
        unfold opAt
        rw [← hr, List.getElem?_drop]
        cases L[i + 1 + x.k.toNat]? <;> rfl
      rw [hop]
      cases hy : r[x.k.toNat]? with
      | none => simp [k0]
      | some y =>
        obtain ⟨a1, a2, a3⟩ := k1 y hy
        simp [k0, a1, a2, a3]
    · rfl
theorem tidy_doc {L : List In} (h : TidyS L) : tidyB L = true := tidy_doc_from L L 0 (by simp) h
/-- the last pass -/
theorem last_imp (p : ByteArray) {L : List In} (hs : SoundList L) : ∀ n, (lastN p n = 0 → impN p L n = L) ∧ (lastN p n ≠ 0 → ∃ M, SoundList M ∧ impN p L n = passOf (lastN p n) M) := by
  intro n
  induction n with
  | zero => exact ⟨fun _ => rfl, fun h => absurd rfl h⟩
  | succ n ih =>
    simp only [lastN, impN]
    split
    · next h =>
      refine ⟨fun h0 => ?_, fun _ => ⟨_, (impN_better p hs n).sound, rfl⟩⟩
      rw [h0] at h; exact absurd h (by decide)
    · next h =>
      have hno : ∀ M, passOf (Sv.byteAt p n) M = M := by
        intro M
        unfold isPass at h
        simp at h
        unfold passOf
        rw [if_neg (by omega), if_neg (by omega), if_neg (by omega), if_neg (by omega)]
      refine ⟨fun h0 => ?_, fun h0 => ?_⟩
      · rw [hno]; exact ih.1 h0
      · rw [hno]; exact ih.2 h0
theorem imp_ok (code passes r : ByteArray) : ImpOk code passes (impOut code passes) (impErr code passes) r := by
  refine ⟨rfl, fun h => ?_, fun h => ?_⟩
  · have h' : impErr code passes ≠ 0 := h
    unfold impOut; rw [if_neg h']
  · have h' : impErr code passes = 0 := h
    obtain ⟨h1, h2, h3, h4, h5, h6, h7⟩ := impOut_sound code passes h'
    have hE := (sound_steps code h1).1
    have hl := last_imp passes h3 passes.size
    have hsz := bytesOf_size (impL passes (decL code))
    have hlen := h4.len
    have hdl := decL_len hE
    have hdc := decE_cases code
    have hcs : code.size = 5 * (decL code).length := by
      rcases hdc with ⟨_, _, q⟩ | ⟨q, _⟩
      · omega
      · exact absurd hE q
    refine ⟨by rw [h6], by rw [h5, hsz]; omega, fun h0 => ?_, fun hj => ?_, fun hd B O hR hK => ?_, ?_, ?_⟩
    · rw [h5]
      have : impL passes (decL code) = decL code := hl.1 h0
      rw [this]; exact bytes_decL code hE
    · rw [h7]
      obtain ⟨M, m1, m2⟩ := hl.2 (by unfold lastP at hj; rw [hj]; decide)
      have e : impL passes (decL code) = passOf (lastN passes passes.size) M := m2
      have hj' : lastN passes passes.size = 106 := hj
      rw [e, hj']
      show tidyB (passJ M) = true
      exact tidy_doc (passJ_tidy m1)
    · rw [h7] at hR hK ⊢
      have hs7 := h4.sound
      obtain ⟨M, m1, m2⟩ := hl.2 (by
        have : lastN passes passes.size = lastP passes := rfl
        rw [this]; omega)
      have e : impL passes (decL code) = passOf (lastP passes) M := m2
      rcases hd with q | q | q
      · rw [q] at e hK ⊢
        have e2 : impL passes (decL code) = passD M := e
        rw [e2] at hR ⊢
        exact doneD_doc (passD_good m1).2 hR
      · rw [q] at e hK ⊢
        have e2 : impL passes (decL code) = passL M := e
        have hK2 : KnownB (impL passes (decL code)) B false O := hK
        rw [e2] at hR hK2 hs7 ⊢
        exact doneL_doc hs7 (passL_done m1) hR hK2
      · rw [q] at e hK ⊢
        have e2 : impL passes (decL code) = passK M := e
        have hK2 : KnownB (impL passes (decL code)) B true O := hK
        rw [e2] at hR hK2 hs7 ⊢
        exact doneK_doc hs7 (passK_done m1) hR hK2
    · unfold runC
      rw [if_pos h1, h6, if_pos rfl]
      split <;> rfl
    · intro hr0
      by_cases hr : r.size = 20
      · have e1 : runC code r = ((runL r (decL code)).1, (runL r (decL code)).2, 0) := by unfold runC; rw [if_pos h1, if_pos hr]
        have e2 : runC (impOut code passes) r = ((runL r (impL passes (decL code))).1, (runL r (impL passes (decL code))).2, 0) := by unfold runC; rw [h6, if_pos rfl, if_pos hr, h7]
        rw [e1, e2]
        have := h4.runL h3 r
        exact ⟨this.1.symm, this.2⟩
      · unfold runC at hr0
        rw [if_pos h1, if_neg hr] at hr0
        cases hr0
end Go.Proofs.YtpamlgdopmjooaaGreat
