/- A region that draws its order: its head only reads, but for its first operation, which is a move that waits for nothing; its tail is forced. -/
import Derived.StillTailTactics
namespace Go.Proofs.Ytldongbimhngfaa
open Go
set_option linter.unusedVariables false

/-- the operation n waits for the first one too -/
def edged (l : List Oper) (n : Nat) : List Oper := l.modify n fun o => { o with after := o.after.push { on := 0, ground := .data } }

theorem edged_get (l : List Oper) (n i : Nat) : (edged l n)[i]? = (l[i]?).map fun o => if n = i then { o with after := o.after.push { on := 0, ground := .data } } else o := by
  unfold edged
  rw [List.getElem?_modify]
  cases l[i]? with
  | none => rfl
  | some o => by_cases h : n = i <;> simp [h]
theorem edged_len (l : List Oper) (n : Nat) : (edged l n).length = l.length := by unfold edged; simp
theorem edged_yielded (l : List Oper) (n : Nat) (t : Array Value) : yielded (edged l n).toArray t = yielded l.toArray t := by
  funext j
  unfold yielded
  have e : (((edged l n).toArray[j]?).bind (·.dst)) = ((l.toArray[j]?).bind (·.dst)) := by
    simp only [List.getElem?_toArray, edged_get]
    cases l[j]? with
    | none => rfl
    | some o => by_cases h : n = j <;> simp [h]
  rw [e]
theorem edged_wpOp {P : Program} {Q : Exit → Act → World → Prop} (l : List Oper) (n i : Nat) (K : Act → World → Prop) (a : Act) (w : World) (h : wpOp P (edged l n).toArray Q i K a w) : wpOp P l.toArray Q i K a w := by
  unfold wpOp at *
  rw [edged_yielded] at h
  simp only [List.getElem?_toArray, edged_get] at h ⊢
  cases hl : l[i]? with
  | none => rw [hl] at h; exact h
  | some o =>
    rw [hl] at h
    by_cases hn : n = i
    · simp only [Option.map_some, hn, if_true] at h
      exact h
    · simp only [Option.map_some, hn, if_false] at h
      exact h
theorem edged_ready (md : Region.Mode) (l : List Oper) (n : Nat) (listed : Array Bool) (h0 : listed.getD 0 false = true) (j : Nat) : j ∈ Region.ready md (edged l n).toArray listed ↔ j ∈ Region.ready md l.toArray listed := by
  rw [mem_ready, mem_ready]
  simp only [List.getElem?_toArray, edged_get]
  constructor
  · rintro ⟨h1, o, h2, h3⟩
    refine ⟨h1, ?_⟩
    cases hl : l[j]? with
    | none => rw [hl] at h2; cases h2
    | some o' =>
      rw [hl] at h2
      refine ⟨o', rfl, fun e he hb => ?_⟩
      by_cases hn : n = j
      · simp only [Option.map_some, hn, if_true, Option.some.injEq] at h2
        subst h2
        exact h3 e (by simp [he]) hb
      · simp only [Option.map_some, hn, if_false, Option.some.injEq] at h2
        subst h2
        exact h3 e he hb
  · rintro ⟨h1, o, h2, h3⟩
    refine ⟨h1, ?_⟩
    rw [h2]
    by_cases hn : n = j
    · refine ⟨{ o with after := o.after.push { on := 0, ground := .data } }, by simp [hn], fun e he hb => ?_⟩
      rcases Array.mem_push.1 he with he | he
      · exact h3 e he hb
      · subst he; exact h0
    · exact ⟨o, by simp [hn], h3⟩
theorem wpAny_edged {P : Program} {md : Region.Mode} {Q : Exit → Act → World → Prop} (l : List Oper) (n : Nat) : ∀ (fuel : Nat) (listed : Array Bool) (a : Act) (w : World), listed.getD 0 false = true → wpAny P md (edged l n).toArray Q fuel listed a w → wpAny P md l.toArray Q fuel listed a w := by
  intro fuel
  have nil : ∀ listed : Array Bool, listed.getD 0 false = true → (Region.ready md (edged l n).toArray listed = [] ↔ Region.ready md l.toArray listed = []) := by
    intro listed h0
    rw [List.eq_nil_iff_forall_not_mem, List.eq_nil_iff_forall_not_mem]
    exact ⟨fun h j hj => h j ((edged_ready md l n listed h0 j).2 hj), fun h j hj => h j ((edged_ready md l n listed h0 j).1 hj)⟩
  induction fuel with
  | zero => intro listed a w h0 h; exact ⟨(nil listed h0).1 h.1, h.2⟩
  | succ f ih =>
    intro listed a w h0 h
    refine ⟨fun hr => h.1 ((nil listed h0).2 hr), fun i hi => ?_⟩
    refine edged_wpOp l n i _ a w (wpOp_mono (fun a' w' h' => ih _ a' w' ?_ h') (h.2 i ((edged_ready md l n listed h0 i).2 hi)))
    by_cases hi0 : i = 0
    · subst hi0
      have hs : 0 < listed.size := by
        rcases Nat.lt_or_ge 0 listed.size with h | h
        · exact h
        · simp [Array.getElem?_eq_none h] at h0
      simp [hs]
    · rw [getD_set_ne false (by omega)]; exact h0

/-- what is asked of such a region, by reckoning alone -/
def regB (l : List Oper) (n : Nat) : Bool :=
  Region.noSelect l.toArray && Region.noSelect (edged l n).toArray && decide (0 < n) && decide (n < l.length) && Region.free .any l.toArray (Array.replicate l.toArray.size false) 0 && (Region.ready .any l.toArray (Array.replicate l.toArray.size false)).contains 0 &&
  (Region.ready .any (edged l n).toArray (Array.replicate (edged l n).toArray.size false)).contains 0 && Region.sinkB .any (edged l n).toArray n && Region.chainB .any (edged l n).toArray n &&
  Region.lexHead .any (edged l n).toArray (l.length - n) (n - 1) 1 ((Array.replicate (edged l n).toArray.size false).setIfInBounds 0 true)

theorem wp_region_head {P : Program} {id : Nat} {Q : Exit → Act → World → Prop} {a : Act} {w : World} {l : List Oper} (n : Nat) (hm : P.follows .mixedOrders = true) (hB : regB l n = true) {o0 : Oper} {v : Value} (h0 : l[0]? = some o0)
    (hQ : ∀ c a w, Q (.panic c) (a.put o0.dst v) w → Q (.panic c) a w) (hy : Yields P l.toArray o0 v a)
    (h : ∀ ops2, wpStill P ops2 w.drew (fun a' => wpList P ops2 Q ((edged l n).drop n) a' w.drew) ((l.take n).drop 1) (a.put o0.dst v)) : (Code.region id l.toArray true).wp P Q a w := by
  simp only [regB, Bool.and_eq_true, decide_eq_true_eq] at hB
  obtain ⟨⟨⟨⟨⟨⟨⟨⟨⟨b1, b2⟩, b3⟩, b4⟩, b5⟩, b6⟩, b7⟩, b8⟩, b9⟩, b10⟩ := hB
  have hlen := edged_len l n
  have htk : (edged l n).take n = l.take n := by
    refine List.ext_getElem? fun i => ?_
    rw [List.getElem?_take, List.getElem?_take]
    split
    · next hi => rw [edged_get]; cases l[i]? with
      | none => rfl
      | some o => simp [show ¬ n = i by omega]
    · rfl
  replace h := h (edged l n).toArray
  rw [← htk] at h
  have hsz : (edged l n).toArray.size = l.length := by simpa using hlen
  have hseg : (((edged l n).take n).drop 1).length = n - 1 := by simp [hlen]; omega
  refine wp_region_any hm ?_
  have hs1 : l.toArray.size = (l.length - 1) + 1 := by simp; omega
  rw [hs1]
  refine wpAny_take (i := 0) (oi := o0) (v := v) (by simpa using h0) b1 (by rw [← hs1]; exact b5) (by rw [← hs1]; exact b6) hQ hy ?_
  rw [← hs1]
  refine wpAny_edged l n _ _ _ _ (by simp; omega) ?_
  have inv0 : HeadInv .any (edged l n).toArray n (Array.replicate (edged l n).toArray.size false) :=
    ⟨by simp, fun j oj _ hl => (by rw [getD_replicate_false] at hl; cases hl), fun t _ ht => getD_in (by simpa using ht) (getD_replicate_false _ _)⟩
  have inv1 := inv0.set (i := 0) (by simpa using b7) b3
  have H := wpAnyL_lex (P := P) (md := .any) (g := l.length - n) (Lq := fun a' => wpList P (edged l n).toArray Q ((edged l n).drop n) a' { w with drawn := w.drawn + 1 }) b2 b8 b9 (by omega) (((edged l n).take n).drop 1) 1 _ (a.put o0.dst v) (fun j hj => by
    rw [hseg] at hj
    simp only [List.getElem?_drop, List.getElem?_take, List.getElem?_toArray]
    rw [if_pos (by omega)]) (by rw [hseg]; omega) inv1 (by rw [hseg]; exact b10) h
  have R := wpAny_of_head (Q' := Q) (g := l.length - n) (fun listed a' hL => by
    have hd : ((edged l n).drop n).length = l.length - n := by simp [hlen]
    have := wpAny_of_seq (md := .any) (Q' := Q) ((edged l n).drop n) n listed a' { w with drawn := w.drawn + 1 } (fun j => by simp [List.getElem?_drop]) (by rw [hd]; exact hL.1) hL.2
    rwa [hd] at this) _ _ _ H
  rw [hseg, show n - 1 + (l.length - n) = l.length - 1 by omega, hsz] at R
  have e1 : l.toArray.size = l.length := by simp
  rw [e1]
  exact R
end Go.Proofs.Ytldongbimhngfaa
