import Derived.Test.YtpamlgdopmjooaaGreatGIm
import Derived.Test.YtpamlgdopmjooaaGreatRp
import Derived.Test.YtpamlgdopmjooaaGreatGJd
import Derived.Test.YtpamlgdopmjooaaGreatGRdb
/- Compile, as plain functions: what is built of a policy, and that it judges as the policy does. -/
namespace Go.Proofs.YtpamlgdopmjooaaGreat.Sc
open Go.Proofs.YtpamlgdopmjooaaGreat.Sv (byteAt land wordAt Tm)
/-- a test that leads to the places of which s and u stand from there on -/
def cAddTest (op k : Int) (N : List In) (s u : Nat) : List In :=
  if s = u then jgo N s else ⟨op, ((N.length - s : Nat) : Int), ((N.length - u : Nat) : Int), k⟩ :: N
/-- a place within reach -/
def cNear (N : List In) (s : Nat) : List In × Nat := if N.length - s ≤ 15 then (N, s) else (jgo N s, (jgo N s).length)
def cTest (op k : Int) (N : List In) (y n : Nat) : List In :=
  cAddTest op k (cNear (cNear (cNear N y).1 n).1 (cNear N y).2).1 (cNear (cNear (cNear N y).1 n).1 (cNear N y).2).2 (cNear (cNear N y).1 n).2
def cLoad (w : Int) (N : List In) : List In := ⟨1, 0, 0, w⟩ :: N
def cOrder (x : Tm) (N : List In) (above equal below : Nat) : List In × Nat :=
  if x.mh = 0 then (N, equal)
  else (cLoad (x.word + 2) (cTest 12 x.wh (cTest 11 x.wh N equal below) above (cTest 11 x.wh N equal below).length),
    (cTest 12 x.wh (cTest 11 x.wh N equal below) above (cTest 11 x.wh N equal below).length).length + 1)
def cAnd (mask : Int) (N : List In) : List In := if mask = 65535 then N else ⟨5, 0, 0, mask⟩ :: N
def cBits (word mask want : Int) (N : List In) (y n : Nat) : List In × Nat :=
  if mask = 0 ∧ want = 0 then (N, y)
  else (cLoad word (cAnd mask (cTest 11 want N y n)), (cAnd mask (cTest 11 want N y n)).length + 1)
def cComp (x : Tm) (N : List In) (y n : Nat) : List In × Nat :=
  if x.rel = 1 then cOrder x (cLoad x.word (cTest 13 x.wl N n y)) n ((cTest 13 x.wl N n y).length + 1) y
  else if x.rel = 2 then cOrder x (cLoad x.word (cTest 12 x.wl N y n)) y ((cTest 12 x.wl N y n).length + 1) n
  else cBits (x.word + 2) x.mh x.wh (cBits x.word x.ml x.wl N y n).1 (cBits x.word x.ml x.wl N y n).2 n
/-- the terms behind m conditions -/
def skip : Nat → List Tm → List Tm
  | 0, l => l
  | _ + 1, [] => []
  | m + 1, x :: l => skip (m + (Sv.parts x.kind).toNat) l
def cCond : Nat → List Tm → List In → Nat → Nat → List In × Nat
  | 0, _, N, _, n => (N, n)
  | _ + 1, [], N, _, n => (N, n)
  | g + 1, x :: l, N, y, n =>
    if y = n then (N, n)
    else if x.kind = 0 then (N, y)
    else if x.kind = 1 then cCond g l N n y
    else if x.kind = 2 then cCond g l (cCond g (skip 1 l) N y n).1 (cCond g (skip 1 l) N y n).2 n
    else if x.kind = 3 then cCond g l (cCond g (skip 1 l) N y n).1 y (cCond g (skip 1 l) N y n).2
    else cComp x N y n
def cBuilt (q : List Tm × Int) (N : List In) : List In × Nat := cCond (q.1.length + 1) q.1 (⟨15, 0, 0, q.2⟩ :: N) (N.length + 1) N.length
def cRule (q : List Tm × Int) (N : List In) : List In := (cBuilt q N).1.drop ((cBuilt q N).1.length - (cBuilt q N).2)
def cRules (d : Int) : List (List Tm × Int) → List In
  | [] => [⟨15, 0, 0, d⟩]
  | q :: r => cRule q (cRules d r)
/-- how many instructions a term comes to at most -/
def wt (x : Tm) : Nat := if x.kind = 4 then (if x.word < 4 then 4 else 9) else 0
def wts : List Tm → Nat
  | [] => 0
  | x :: l => wt x + wts l
/-- a term as it is read -/
structure TmC (x : Tm) : Prop where
  kind : x.kind = 0 ∨ x.kind = 1 ∨ x.kind = 2 ∨ x.kind = 3 ∨ x.kind = 4
  word : 0 ≤ x.word ∧ x.word ≤ 16 ∧ x.word % 2 = 0
  mh : 0 ≤ x.mh ∧ x.mh ≤ 65535
  ml : 0 ≤ x.ml ∧ x.ml ≤ 65535
  wh : 0 ≤ x.wh ∧ x.wh ≤ 65535
  wl : 0 ≤ x.wl ∧ x.wl ≤ 65535
  low : x.rel = 1 ∨ x.rel = 2 → x.ml = 65535 ∧ (x.mh = 65535 ∨ (x.mh = 0 ∧ x.wh = 0))
  num : x.kind = 4 → x.word < 4 → x.mh = 0 ∧ x.wh = 0 ∧ x.ml = 65535
end Go.Proofs.YtpamlgdopmjooaaGreat.Sc
namespace Go.Proofs.YtpamlgdopmjooaaGreat
open Go.RowKit Sc
open Go.Proofs.YtpamlgdopmjooaaGreat.Sv (byteAt land wordAt Tm)
set_option linter.unusedVariables false
set_option linter.unusedSimpArgs false

/-- what is built as it must be -/
structure Gd (N : List In) : Prop where
  good : GoodL N
  tidy : TidyS N
theorem Gd.pos {N : List In} (h : Gd N) : 0 < N.length := good_pos h.good
def Ext (N M : List In) : Prop := ∃ P, M = P ++ N
theorem Ext.refl (N : List In) : Ext N N := ⟨[], rfl⟩
theorem Ext.cons (x : In) (N : List In) : Ext N (x :: N) := ⟨[x], rfl⟩
theorem Ext.trans {A B C : List In} (h : Ext A B) (k : Ext B C) : Ext A C := by
  obtain ⟨P, rfl⟩ := h; obtain ⟨Q, rfl⟩ := k; exact ⟨Q ++ P, by simp⟩
theorem Ext.len {N M : List In} (h : Ext N M) : N.length ≤ M.length := by obtain ⟨P, rfl⟩ := h; simp
theorem Ext.drop {N M : List In} (h : Ext N M) {s : Nat} (hs : s ≤ N.length) : M.drop (M.length - s) = N.drop (N.length - s) := by
  obtain ⟨P, rfl⟩ := h
  rw [List.length_append]
  have : P.length + N.length - s = P.length + (N.length - s) := by omega
  rw [this, ← List.drop_drop, List.drop_left]
/-- the run from the place of which s stand on ends with v -/
def To (r : ByteArray) (N : List In) (s : Nat) (m : Mc) (v : Int) : Prop := ∃ n, Ends r (N.drop (N.length - s)) m v n
theorem To.ext {r : ByteArray} {N M : List In} {s : Nat} {m : Mc} {v : Int} (h : To r N s m v) (hE : Ext N M) (hs : s ≤ N.length) : To r M s m v := by
  obtain ⟨n, h⟩ := h; exact ⟨n, by rw [hE.drop hs]; exact h⟩
theorem to_top {r : ByteArray} {N : List In} {m : Mc} {v : Int} : To r N N.length m v ↔ ∃ n, Ends r N m v n := by
  unfold To; rw [Nat.sub_self, List.drop_zero]
/-- how a place is -/
def Pl (N : List In) (s : Nat) : Prop := 1 ≤ s ∧ s ≤ N.length
theorem Pl.ext {N M : List In} {s : Nat} (h : Pl N s) (hE : Ext N M) : Pl M s := ⟨h.1, Nat.le_trans h.2 hE.len⟩

theorem jgo_ext {N : List In} {s : Nat} (h : jgo N s = N ∨ ∃ z, jgo N s = z :: N) : Ext N (jgo N s) ∧ (jgo N s).length ≤ N.length + 1 := by
  rcases h with h | ⟨z, h⟩ <;> rw [h]
  · exact ⟨Ext.refl _, by omega⟩
  · exact ⟨Ext.cons _ _, by simp⟩
structure NearOk (N : List In) (s : Nat) (a : List In × Nat) : Prop where
  gd : Gd a.1
  ext : Ext N a.1
  len : a.1.length ≤ N.length + 1
  pl : Pl a.1 a.2
  hop : a.1.length - a.2 ≤ 15
  to : ∀ r m v, To r N s m v → To r a.1 a.2 m v
  keep : N.length - s ≤ 15 → a = (N, s)
  top : ¬ N.length - s ≤ 15 → a.2 = a.1.length
theorem near_ok {N : List In} {s : Nat} (h : Gd N) (hl : N.length ≤ 1024) (hs : Pl N s) : NearOk N s (cNear N s) := by
  unfold cNear
  by_cases q : N.length - s ≤ 15
  · rw [if_pos q]
    exact ⟨h, Ext.refl _, by simp, hs, q, fun _ _ _ t => t, fun _ => rfl, fun k => absurd q k⟩
  · rw [if_neg q]
    obtain ⟨j1, j2, j3, j4⟩ := jgo_ok h.good h.tidy hl hs.1 hs.2
    obtain ⟨e1, e2⟩ := jgo_ext j3
    refine ⟨⟨j1, j2⟩, e1, e2, ⟨good_pos j1, Nat.le_refl _⟩, by simp, fun r m v t => ?_, fun k => absurd k q, fun _ => rfl⟩
    obtain ⟨n, t⟩ := t
    obtain ⟨n', _, t'⟩ := j4 r m v n t
    exact to_top.2 ⟨n', t'⟩
theorem yes_tf (op k t f t' f' a : Int) : yes ⟨op, t, f, k⟩ a = yes ⟨op, t', f', k⟩ a := rfl
structure TestOk (op k : Int) (N : List In) (y n : Nat) (M : List In) : Prop where
  gd : Gd M
  ext : Ext N M
  len : M.length ≤ N.length + 3
  len2 : y = N.length ∨ n = N.length → M.length ≤ N.length + 2
  to : ∀ r m v, To r N (if yes ⟨op, 0, 0, k⟩ m.a = true then y else n) m v → To r M M.length m v
theorem addTest_ok {op k : Int} {N : List In} {s u : Nat} (hop : isTest op = true) (hk : 0 ≤ k ∧ k ≤ 65535) (h : Gd N) (hl : N.length ≤ 1024) (hs : Pl N s) (hu : Pl N u) (h1 : N.length - s ≤ 15) (h2 : N.length - u ≤ 15) :
    Gd (cAddTest op k N s u) ∧ Ext N (cAddTest op k N s u) ∧ (cAddTest op k N s u).length ≤ N.length + 1 ∧
    ∀ r m v, To r N (if yes ⟨op, 0, 0, k⟩ m.a = true then s else u) m v → To r (cAddTest op k N s u) (cAddTest op k N s u).length m v := by
  have ht := test_ne _ hop
  unfold cAddTest
  by_cases q : s = u
  · rw [if_pos q]
    subst q
    obtain ⟨j1, j2, j3, j4⟩ := jgo_ok h.good h.tidy hl hs.1 hs.2
    obtain ⟨e1, e2⟩ := jgo_ext j3
    refine ⟨⟨j1, j2⟩, e1, e2, fun r m v t => ?_⟩
    rw [ite_self] at t
    obtain ⟨n, t⟩ := t
    obtain ⟨n', _, t'⟩ := j4 r m v n t
    exact to_top.2 ⟨n', t'⟩
  · rw [if_neg q]
    have s1 := hs.1
    have s2 := hs.2
    have u1 := hu.1
    have u2 := hu.2
    refine ⟨⟨good_cons (by unfold InRng; simp only; omega) ((wrong_iff _ _).2 ⟨by simp only; omega, fun q => by simp only at q; rw [hop] at q; exact absurd q (by decide), fun q => by simp only at q; omega, ?_, fun q => by simp only at q; omega, fun _ => by simp only; omega⟩) h.good, ⟨fun _ => by simp only; omega, fun q => by simp only at q; omega, h.tidy⟩⟩, Ext.cons _ _, by simp, fun r m v t => ?_⟩
    · unfold mayB
      simp only
      rw [if_neg (by omega), if_neg (by omega), if_neg (by omega), if_neg (by omega), if_neg (by omega)]
    · obtain ⟨n, t⟩ := t
      refine to_top.2 ⟨n + 1, Ends.step _ _ _ _ _ (by simp only; omega) (by simp only; omega) ?_⟩
      have e4 : Sc.hop ⟨op, ((N.length - s : Nat) : Int), ((N.length - u : Nat) : Int), k⟩ m.a = if yes ⟨op, 0, 0, k⟩ m.a = true then ((N.length - s : Nat) : Int) else ((N.length - u : Nat) : Int) := by
        unfold Sc.hop; simp only; rw [if_neg (by omega), if_pos hop]; rfl
      rw [e4, stepM_big r _ m (by simp only; omega)]
      by_cases hy : yes ⟨op, 0, 0, k⟩ m.a = true
      · rw [if_pos hy] at t ⊢; rw [Int.toNat_natCast]; exact t
      · rw [if_neg hy] at t ⊢; rw [Int.toNat_natCast]; exact t
theorem ctest_ok {op k : Int} {N : List In} {y n : Nat} (hop : isTest op = true) (hk : 0 ≤ k ∧ k ≤ 65535) (h : Gd N) (hl : N.length + 2 ≤ 1024) (hy : Pl N y) (hn : Pl N n) : TestOk op k N y n (cTest op k N y n) := by
  unfold cTest
  have A := near_ok h (by omega) hy
  generalize cNear N y = a at *
  obtain ⟨a1, a2⟩ := a
  have al := A.len
  have al2 := A.ext.len
  simp only at al al2
  have B := near_ok A.gd (by simp only; omega) (hn.ext A.ext)
  simp only at B ⊢
  generalize cNear a1 n = b at *
  obtain ⟨b1, b2⟩ := b
  have bl := B.len
  have bl2 := B.ext.len
  simp only at bl bl2
  have C := near_ok B.gd (by simp only; omega) (A.pl.ext B.ext)
  simp only at C ⊢
  generalize cNear b1 a2 = c at *
  obtain ⟨c1, c2⟩ := c
  have cl := C.len
  have cl2 := C.ext.len
  have ap := A.pl
  have bp := B.pl
  have cp := C.pl
  have ah := A.hop
  have bh := B.hop
  have ch := C.hop
  simp only at cl cl2 ap bp cp ah bh ch
  have ny := hy.2
  have nn := hn.2
  -- how much was built
  have hc : c1.length ≤ N.length + 2 ∧ (y = N.length ∨ n = N.length → c1.length ≤ N.length + 1) ∧ c1.length - b2 ≤ 15 := by
    by_cases qa : N.length - y ≤ 15
    · have ea := A.keep qa
      cases ea
      by_cases qb : N.length - n ≤ 15
      · have eb := B.keep qb
        cases eb
        have ec := C.keep qa
        cases ec
        exact ⟨by omega, fun _ => by omega, by omega⟩
      · have tb := B.top qb
        simp only at tb
        by_cases qc : b1.length - y ≤ 15
        · have ec := C.keep qc
          cases ec
          exact ⟨by omega, fun _ => by omega, by omega⟩
        · refine ⟨by omega, fun q => ?_, by omega⟩
          exfalso
          rcases q with q | q <;> omega
    · have ta := A.top qa
      simp only at ta
      have qc : b1.length - a2 ≤ 15 := by omega
      have ec := C.keep qc
      cases ec
      refine ⟨by omega, fun q => ?_, by omega⟩
      by_cases qb : a1.length - n ≤ 15
      · have eb := B.keep qb
        cases eb
        omega
      · exfalso; rcases q with q | q <;> omega
  obtain ⟨t1, t2, t3, t4⟩ := addTest_ok hop hk C.gd (by simp only; omega) C.pl (B.pl.ext C.ext) C.hop hc.2.2
  simp only at t1 t2 t3 t4 ⊢
  refine ⟨t1, (A.ext.trans B.ext).trans (C.ext.trans t2), by omega, fun q => by have := hc.2.1 q; omega, fun r m v t => t4 r m v ?_⟩
  split at t
  · next q =>
    rw [if_pos q]
    exact C.to r m v ((A.to r m v t).ext B.ext A.pl.2)
  · next q =>
    rw [if_neg q]
    exact (B.to r m v (t.ext A.ext nn)).ext C.ext B.pl.2
theorem yes11 (k a : Int) : (yes ⟨11, 0, 0, k⟩ a = true) ↔ a = k := by unfold yes; simp
theorem yes12 (k a : Int) : (yes ⟨12, 0, 0, k⟩ a = true) ↔ k < a := by unfold yes; simp
theorem yes13 (k a : Int) : (yes ⟨13, 0, 0, k⟩ a = true) ↔ k ≤ a := by unfold yes; simp
theorem load_gd {w : Int} {N : List In} (h : Gd N) (hw : 0 ≤ w ∧ w ≤ 18 ∧ w % 2 = 0) : Gd (cLoad w N) := by
  unfold cLoad
  refine ⟨good_cons (by unfold InRng; simp only; omega) ((wrong_iff _ _).2 ⟨by simp only; omega, fun _ => by simp only; omega, fun q => by simp only at q; omega, ?_, fun q => by simp only at q; omega, fun q => by simp only at q; exact absurd q (by decide)⟩) h.good, ⟨fun q => by simp only at q; exact absurd q (by decide), fun q => by simp only at q; omega, h.tidy⟩⟩
  have := hw.2.2
  unfold mayB
  simp [this, hw.2.1]
theorem load_to {r : ByteArray} {w : Int} {N : List In} {m : Mc} {v : Int} (h : To r N N.length { m with a := wordAt r w } v) : To r (cLoad w N) (N.length + 1) m v := by
  obtain ⟨n, h⟩ := to_top.1 h
  have : (cLoad w N).length = N.length + 1 := rfl
  rw [← this]
  refine to_top.2 ⟨n + 1, Ends.step _ _ _ _ _ (by simp only; omega) (by simp only; omega) ?_⟩
  exact h
theorem cand_ok {mask : Int} {N : List In} (h : Gd N) (hm : 0 ≤ mask ∧ mask ≤ 65535) : Gd (cAnd mask N) ∧ Ext N (cAnd mask N) ∧ (cAnd mask N).length ≤ N.length + 1 ∧ (mask = 65535 → (cAnd mask N).length = N.length) ∧
    ∀ r m v, 0 ≤ m.a → m.a < 65536 → To r N N.length { m with a := land m.a mask } v → To r (cAnd mask N) (cAnd mask N).length m v := by
  unfold cAnd
  by_cases q : mask = 65535
  · rw [if_pos q]
    refine ⟨h, Ext.refl _, by omega, fun _ => rfl, fun r m v h0 h1 t => ?_⟩
    rw [q, Sv.land_full _ h0 h1] at t
    exact t
  · rw [if_neg q]
    refine ⟨⟨good_cons (by unfold InRng; simp only; omega) ((wrong_iff _ _).2 ⟨by simp only; omega, fun _ => by simp only; omega, fun q => by simp only at q; omega, rfl, fun q => by simp only at q; omega, fun q => by simp only at q; exact absurd q (by decide)⟩) h.good, ⟨fun q => by simp only at q; exact absurd q (by decide), fun q => by simp only at q; omega, h.tidy⟩⟩, Ext.cons _ _, by simp, fun k => absurd k q, fun r m v h0 h1 t => ?_⟩
    obtain ⟨n, t⟩ := to_top.1 t
    exact to_top.2 ⟨n + 1, Ends.step _ _ _ _ _ (by simp only; omega) (by simp only; omega) t⟩
/-- from a place on, whatever the machine holds -/
def Tv (r : ByteArray) (N : List In) (s : Nat) (v : Int) : Prop := ∀ m, To r N s m v
theorem Tv.ext {r : ByteArray} {N M : List In} {s : Nat} {v : Int} (h : Tv r N s v) (hE : Ext N M) (hs : s ≤ N.length) : Tv r M s v := fun m => (h m).ext hE hs
/-- what is built of a question: where it begins, how much it is, where it leads -/
structure AskOk (N : List In) (y n : Nat) (c : Nat) (q : ByteArray → Bool) (a : List In × Nat) : Prop where
  gd : Gd a.1
  ext : Ext N a.1
  len : a.1.length ≤ N.length + c
  pl : Pl a.1 a.2
  to : ∀ r v, r.size = 20 → Tv r N (if q r = true then y else n) v → Tv r a.1 a.2 v
theorem cbits_ok {word mask want : Int} {N : List In} {y n : Nat} (hw : 0 ≤ word ∧ word ≤ 18 ∧ word % 2 = 0) (hm : 0 ≤ mask ∧ mask ≤ 65535) (hk : 0 ≤ want ∧ want ≤ 65535) (h : Gd N) (hl : N.length + 2 ≤ 1024) (hy : Pl N y) (hn : Pl N n)
    (c : Nat) (hc : c = (if y = N.length ∨ n = N.length then 2 else 3) + (if mask = 65535 then 1 else 2)) :
    AskOk N y n c (fun r => decide (land (wordAt r word) mask = want)) (cBits word mask want N y n) ∧ ((cBits word mask want N y n).2 = (cBits word mask want N y n).1.length ∨ cBits word mask want N y n = (N, y)) := by
  unfold cBits
  by_cases q : mask = 0 ∧ want = 0
  · rw [if_pos q]
    refine ⟨⟨h, Ext.refl _, by simp, hy, fun r v hr t => ?_⟩, Or.inr rfl⟩
    rw [q.1, q.2, if_pos (by simp [Sv.land_zero])] at t
    exact t
  · rw [if_neg q]
    have T := ctest_ok (op := 11) rfl hk h hl hy hn
    generalize cTest 11 want N y n = M at *
    obtain ⟨a1, a2, a3, a4, a5⟩ := cand_ok T.gd hm
    have tl := T.len
    have tl2 := T.len2
    refine ⟨⟨load_gd a1 hw, (T.ext.trans a2).trans (Ext.cons _ _), ?_, ⟨by omega, by simp [cLoad]⟩, fun r v hr t m => ?_⟩, Or.inl rfl⟩
    · show (cAnd mask M).length + 1 ≤ _
      subst hc
      by_cases q1 : y = N.length ∨ n = N.length
      · have := tl2 q1
        rw [if_pos q1]
        by_cases q2 : mask = 65535
        · have := a4 q2; rw [if_pos q2]; omega
        · rw [if_neg q2]; omega
      · rw [if_neg q1]
        by_cases q2 : mask = 65535
        · have := a4 q2; rw [if_pos q2]; omega
        · rw [if_neg q2]; omega
    · have hwr := wordAt_range hr hw.1 hw.2.1
      refine load_to (a5 r _ v hwr.1 hwr.2 (T.to r _ v ?_))
      simp only [decide_eq_true_eq] at t
      simp only [yes11]
      exact t _
end Go.Proofs.YtpamlgdopmjooaaGreat
/- Comparisons, conditions, rules: what is built of them judges as they do. -/
namespace Go.Proofs.YtpamlgdopmjooaaGreat
open Go.RowKit Sc
open Go.Proofs.YtpamlgdopmjooaaGreat.Sv (byteAt land wordAt Tm)
set_option linter.unusedVariables false
set_option linter.unusedSimpArgs false

theorem corder_ok {x : Tm} {N : List In} {A B C : Nat} (hx : TmC x) (hmh : x.mh = 65535) (h : Gd N) (hl : N.length + 5 ≤ 1024) (hA : Pl N A) (hB : B = N.length) (hC : Pl N C) :
    Gd (cOrder x N A B C).1 ∧ Ext N (cOrder x N A B C).1 ∧ (cOrder x N A B C).1.length ≤ N.length + 5 ∧ Pl (cOrder x N A B C).1 (cOrder x N A B C).2 ∧
    ∀ r v, r.size = 20 → Tv r N (if x.wh < wordAt r (x.word + 2) then A else if wordAt r (x.word + 2) = x.wh then B else C) v → Tv r (cOrder x N A B C).1 (cOrder x N A B C).2 v := by
  unfold cOrder
  rw [if_neg (by omega)]
  have hBp : Pl N B := by subst hB; exact ⟨h.pos, Nat.le_refl _⟩
  have T := ctest_ok (op := 11) rfl hx.wh h (by omega) hBp hC
  generalize cTest 11 x.wh N B C = M at *
  have l1 := T.len2 (Or.inl hB)
  have hMp : Pl M M.length := ⟨T.gd.pos, Nat.le_refl _⟩
  have T2 := ctest_ok (op := 12) rfl hx.wh T.gd (by omega) (hA.ext T.ext) hMp
  generalize cTest 12 x.wh M A M.length = K at *
  have l2 := T2.len2 (Or.inr rfl)
  have hw := hx.word
  refine ⟨load_gd T2.gd (by omega), (T.ext.trans T2.ext).trans (Ext.cons _ _), by show K.length + 1 ≤ _; omega, ⟨by simp only; omega, by simp [cLoad]⟩, fun r v hr t m => ?_⟩
  refine load_to (T2.to r _ v ?_)
  simp only [yes12]
  by_cases q1 : x.wh < wordAt r (x.word + 2)
  · rw [if_pos q1] at t ⊢
    exact (t _).ext T.ext hA.2
  · rw [if_neg q1] at t ⊢
    refine T.to r _ v ?_
    simp only [yes11]
    by_cases q2 : wordAt r (x.word + 2) = x.wh
    · rw [if_pos q2] at t ⊢; exact t _
    · rw [if_neg q2] at t ⊢; exact t _
theorem ccomp_ok {x : Tm} {N : List In} {y n : Nat} (hx : TmC x) (h4 : x.kind = 4) (h : Gd N) (hl : N.length + wt x ≤ 1024) (hy : Pl N y) (hn : Pl N n) :
    AskOk N y n (wt x) (fun r => Sv.cmp r x) (cComp x N y n) := by
  have hw := hx.word
  have hwt : wt x = if x.word < 4 then 4 else 9 := by unfold wt; rw [if_pos h4]
  have hwt4 : 4 ≤ wt x := by rw [hwt]; split <;> omega
  unfold cComp
  by_cases r1 : x.rel = 1
  · rw [if_pos r1]
    obtain ⟨hml, hmh⟩ := hx.low (Or.inl r1)
    have T := ctest_ok (op := 13) rfl hx.wl h (by omega) hn hy
    generalize cTest 13 x.wl N n y = M at *
    have tl := T.len
    have L := load_gd (w := x.word) T.gd (by omega)
    have LE : Ext N (cLoad x.word M) := T.ext.trans (Ext.cons _ _)
    have ll : (cLoad x.word M).length = M.length + 1 := rfl
    have lto : ∀ r v, r.size = 20 → Tv r N (if wordAt r x.word < x.wl then y else n) v → Tv r (cLoad x.word M) (M.length + 1) v := by
      intro r v hr t m
      refine load_to (T.to r _ v ?_)
      simp only [yes13]
      by_cases q : wordAt r x.word < x.wl
      · rw [if_pos q] at t; rw [if_neg (by omega)]; exact t _
      · rw [if_neg q] at t; rw [if_pos (by omega)]; exact t _
    rcases hmh with q | ⟨q, q2⟩
    · have hnw : ¬ x.word < 4 := fun k => by have := (hx.num h4 k).1; omega
      rw [if_neg hnw] at hwt
      obtain ⟨o1, o2, o3, o4, o5⟩ := corder_ok (A := n) (B := M.length + 1) (C := y) hx q L (by omega) (hn.ext LE) ll.symm (hy.ext LE)
      refine ⟨o1, LE.trans o2, by omega, o4, fun r v hr t => o5 r v hr ?_⟩
      have w1 := wordAt_range hr (k := x.word) (by omega) (by omega)
      have w2 := wordAt_range hr (k := x.word + 2) (by omega) (by omega)
      have e : Sv.cmp r x = Sv.lss (wordAt r (x.word + 2)) (wordAt r x.word) x.wh x.wl := by
        unfold Sv.cmp; rw [if_pos r1, q, hml, Sv.land_full _ w1.1 w1.2, Sv.land_full _ w2.1 w2.2]
      try simp only at t
      rw [e] at t
      unfold Sv.lss at t
      by_cases k1 : wordAt r (x.word + 2) = x.wh
      · rw [if_pos k1] at t
        rw [if_neg (by omega), if_pos k1]
        refine lto r v hr ?_
        simpa using t
      · rw [if_neg k1] at t
        by_cases k2 : x.wh < wordAt r (x.word + 2)
        · rw [if_pos k2]
          rw [if_neg (by simp; omega)] at t
          exact t.ext LE hn.2
        · rw [if_neg k2, if_neg k1]
          rw [if_pos (by simp; omega)] at t
          exact t.ext LE hy.2
    · have e0 : cOrder x (cLoad x.word M) n (M.length + 1) y = (cLoad x.word M, M.length + 1) := by unfold cOrder; rw [if_pos q]
      rw [e0]
      refine ⟨L, LE, by simp only [ll]; omega, ⟨by simp only; omega, by simp only [ll]; omega⟩, fun r v hr t => lto r v hr ?_⟩
      have w1 := wordAt_range hr (k := x.word) (by omega) (by omega)
      have e : Sv.cmp r x = decide (wordAt r x.word < x.wl) := by
        unfold Sv.cmp; rw [if_pos r1, q, hml, Sv.land_full _ w1.1 w1.2, Sv.land_zero, q2]; unfold Sv.lss; rw [if_pos rfl]
      try simp only at t
      rw [e] at t
      simpa using t
  · rw [if_neg r1]
    by_cases r2 : x.rel = 2
    · rw [if_pos r2]
      obtain ⟨hml, hmh⟩ := hx.low (Or.inr r2)
      have T := ctest_ok (op := 12) rfl hx.wl h (by omega) hy hn
      generalize cTest 12 x.wl N y n = M at *
      have tl := T.len
      have L := load_gd (w := x.word) T.gd (by omega)
      have LE : Ext N (cLoad x.word M) := T.ext.trans (Ext.cons _ _)
      have ll : (cLoad x.word M).length = M.length + 1 := rfl
      have lto : ∀ r v, r.size = 20 → Tv r N (if x.wl < wordAt r x.word then y else n) v → Tv r (cLoad x.word M) (M.length + 1) v := by
        intro r v hr t m
        refine load_to (T.to r _ v ?_)
        simp only [yes12]
        exact t _
      rcases hmh with q | ⟨q, q2⟩
      · have hnw : ¬ x.word < 4 := fun k => by have := (hx.num h4 k).1; omega
        rw [if_neg hnw] at hwt
        obtain ⟨o1, o2, o3, o4, o5⟩ := corder_ok (A := y) (B := M.length + 1) (C := n) hx q L (by omega) (hy.ext LE) ll.symm (hn.ext LE)
        refine ⟨o1, LE.trans o2, by omega, o4, fun r v hr t => o5 r v hr ?_⟩
        have w1 := wordAt_range hr (k := x.word) (by omega) (by omega)
        have w2 := wordAt_range hr (k := x.word + 2) (by omega) (by omega)
        have e : Sv.cmp r x = Sv.lss x.wh x.wl (wordAt r (x.word + 2)) (wordAt r x.word) := by
          unfold Sv.cmp; rw [if_neg r1, if_pos r2, q, hml, Sv.land_full _ w1.1 w1.2, Sv.land_full _ w2.1 w2.2]
        try simp only at t
        rw [e] at t
        unfold Sv.lss at t
        by_cases k1 : wordAt r (x.word + 2) = x.wh
        · rw [if_pos k1.symm] at t
          rw [if_neg (by omega), if_pos k1]
          refine lto r v hr ?_
          simpa using t
        · have k1' : ¬ x.wh = wordAt r (x.word + 2) := fun k => k1 k.symm
          rw [if_neg k1'] at t
          by_cases k2 : x.wh < wordAt r (x.word + 2)
          · rw [if_pos k2]
            rw [if_pos (by simp; omega)] at t
            exact t.ext LE hy.2
          · rw [if_neg k2, if_neg k1]
            rw [if_neg (by simp; omega)] at t
            exact t.ext LE hn.2
      · have e0 : cOrder x (cLoad x.word M) y (M.length + 1) n = (cLoad x.word M, M.length + 1) := by unfold cOrder; rw [if_pos q]
        rw [e0]
        refine ⟨L, LE, by simp only [ll]; omega, ⟨by simp only; omega, by simp only [ll]; omega⟩, fun r v hr t => lto r v hr ?_⟩
        have w1 := wordAt_range hr (k := x.word) (by omega) (by omega)
        have e : Sv.cmp r x = decide (x.wl < wordAt r x.word) := by
          unfold Sv.cmp; rw [if_neg r1, if_pos r2, q, hml, Sv.land_full _ w1.1 w1.2, Sv.land_zero, q2]; unfold Sv.lss; rw [if_pos rfl]
        try simp only at t
        rw [e] at t
        simpa using t
    · rw [if_neg r2]
      obtain ⟨B, bt⟩ := cbits_ok (word := x.word) (mask := x.ml) (want := x.wl) (by omega) hx.ml hx.wl h (by omega) hy hn _ rfl
      generalize cBits x.word x.ml x.wl N y n = b at *
      obtain ⟨b1, b2⟩ := b
      have bl := B.len
      simp only at bl bt ⊢
      have be : ∀ r, Sv.cmp r x = (decide (land (wordAt r (x.word + 2)) x.mh = x.wh) && decide (land (wordAt r x.word) x.ml = x.wl)) := by
        intro r; unfold Sv.cmp; rw [if_neg r1, if_neg r2]
      by_cases k : x.word < 4
      · obtain ⟨m1, m2, m3⟩ := hx.num h4 k
        have e0 : cBits (x.word + 2) x.mh x.wh b1 b2 n = (b1, b2) := by unfold cBits; rw [if_pos ⟨m1, m2⟩]
        rw [e0]
        rw [if_pos k] at hwt
        refine ⟨B.gd, B.ext, ?_, B.pl, fun r v hr t => B.to r v hr ?_⟩
        · rw [if_pos m3] at bl; simp only; split at bl <;> omega
        · try simp only at t ⊢
          rw [be, m1, m2, Sv.land_zero] at t
          simpa using t
      · rw [if_neg k] at hwt
        have hb : b1.length + 2 ≤ 1024 := by split at bl <;> split at bl <;> omega
        obtain ⟨D, _⟩ := cbits_ok (word := x.word + 2) (mask := x.mh) (want := x.wh) (by omega) hx.mh hx.wh B.gd hb B.pl (hn.ext B.ext) _ rfl
        have dl := D.len
        try simp only at dl
        refine ⟨D.gd, B.ext.trans D.ext, ?_, D.pl, fun r v hr t => D.to r v hr ?_⟩
        · rcases bt with bt | bt
          · try simp only at bt
            rw [if_pos (Or.inl bt)] at dl
            split at bl <;> split at bl <;> split at dl <;> omega
          · cases bt
            try simp only at dl
            split at dl <;> split at dl <;> omega
        · try simp only at t ⊢
          rw [be] at t
          by_cases k1 : land (wordAt r (x.word + 2)) x.mh = x.wh
          · rw [if_pos (by simp [k1])]
            refine B.to r v hr ?_
            simpa [k1] using t
          · rw [if_neg (by simp [k1])]
            rw [if_neg (by simp [k1])] at t
            exact t.ext B.ext hn.2
theorem ev_skip (r : ByteArray) : ∀ (l : List Tm) (m : Nat), (∀ x ∈ l, TmC x) → (Sv.ev r l).drop m = Sv.ev r (skip m l) := by
  intro l
  induction l with
  | nil => intro m _; cases m <;> simp [skip, Sv.ev]
  | cons x l ih =>
    intro m hl
    have ih := fun m => ih m (fun z hz => hl z (List.mem_cons_of_mem _ hz))
    cases m with
    | zero => rfl
    | succ m =>
      have hk := (hl x (by simp)).kind
      simp only [skip]
      rcases hk with k | k | k | k | k <;> simp only [Sv.ev, k, Sv.parts] <;> simp
      · exact ih m
      · exact ih (m + 1)
      · exact ih (m + 2)
      · exact ih (m + 2)
      · exact ih m
theorem tail_skip (r : ByteArray) (l : List Tm) (h : ∀ x ∈ l, TmC x) : (Sv.ev r l).tail = Sv.ev r (skip 1 l) := by rw [← ev_skip r l 1 h, List.drop_one]
theorem skip_mem : ∀ (l : List Tm) (m : Nat), ∀ x ∈ skip m l, x ∈ l := by
  intro l
  induction l with
  | nil => intro m x h; cases m <;> simp [skip] at h
  | cons z l ih =>
    intro m x h
    cases m with
    | zero => exact h
    | succ m => exact List.mem_cons_of_mem _ (ih _ x h)
theorem skip_len : ∀ (l : List Tm) (m : Nat), (skip m l).length ≤ l.length := by
  intro l
  induction l with
  | nil => intro m; cases m <;> simp [skip]
  | cons z l ih =>
    intro m
    cases m with
    | zero => exact Nat.le_refl _
    | succ m => have := ih (m + (Sv.parts z.kind).toNat); simp only [skip, List.length_cons]; omega
theorem skip_wts : ∀ (l : List Tm) (m : Nat), wts (skip m l) ≤ wts l := by
  intro l
  induction l with
  | nil => intro m; cases m <;> simp [skip]
  | cons z l ih =>
    intro m
    cases m with
    | zero => exact Nat.le_refl _
    | succ m => have := ih (m + (Sv.parts z.kind).toNat); simp only [skip, wts]; omega
theorem skip_skip : ∀ (l : List Tm) (a b : Nat), skip a (skip b l) = skip (b + a) l := by
  intro l
  induction l with
  | nil => intro a b; cases a <;> cases b <;> simp [skip]
  | cons z l ih =>
    intro a b
    cases b with
    | zero => simp [skip]
    | succ b =>
      have e : b + 1 + a = (b + a) + 1 := by omega
      rw [e]
      simp only [skip]
      rw [ih]
      congr 1
      omega
theorem ccond_ok : ∀ (g : Nat) (l : List Tm) (N : List In) (y n : Nat), l.length < g → (∀ x ∈ l, TmC x) → Gd N → N.length + wts l ≤ 1024 + wts (skip 1 l) → Pl N y → Pl N n →
    AskOk N y n (wts l - wts (skip 1 l)) (fun r => Sv.hd (Sv.ev r l)) (cCond g l N y n) := by
  intro g
  induction g with
  | zero => intro l N y n h; omega
  | succ g ih =>
    intro l N y n hg hl hN hw hy hn
    cases l with
    | nil =>
      simp only [cCond]
      exact ⟨hN, Ext.refl _, by simp, hn, fun r v hr t => by simpa [Sv.ev, Sv.hd] using t⟩
    | cons x l =>
      have hx := hl x (by simp)
      have hl' : ∀ x ∈ l, TmC x := fun z hz => hl z (List.mem_cons_of_mem _ hz)
      simp only [List.length_cons] at hg
      simp only [cCond]
      by_cases q : y = n
      · rw [if_pos q]
        refine ⟨hN, Ext.refl _, by simp, hn, fun r v hr t => ?_⟩
        rw [q, ite_self] at t
        exact t
      rw [if_neg q]
      have s2 : skip 1 (skip 1 l) = skip 2 l := skip_skip l 1 1
      have b1 := skip_wts l 1
      have b2 := skip_wts (skip 1 l) 1
      have b3 := skip_len l 1
      rw [s2] at b2
      rcases hx.kind with k | k | k | k | k
      · rw [if_pos k]
        exact ⟨hN, Ext.refl _, by simp, hy, fun r v hr t => by simpa [Sv.ev, Sv.hd, k] using t⟩
      · rw [if_neg (by omega), if_pos k]
        have e1 : skip 1 (x :: l) = skip 1 l := by simp [skip, k, Sv.parts]
        have e2 : wts (x :: l) = wts l := by simp [wts, wt, k]
        rw [e1, e2] at hw ⊢
        have A := ih l N n y (by omega) hl' hN hw hn hy
        refine ⟨A.gd, A.ext, A.len, A.pl, fun r v hr t => A.to r v hr ?_⟩
        have e3 : Sv.hd (Sv.ev r (x :: l)) = (!(Sv.hd (Sv.ev r l))) := by
          simp only [Sv.ev, k]; simp [Sv.hd]
        rw [e3] at t
        cases hb : Sv.hd (Sv.ev r l)
        · rw [hb] at t
          simpa using t
        · rw [hb] at t
          simpa using t
      · rw [if_neg (by omega), if_neg (by omega), if_pos k]
        have e1 : skip 1 (x :: l) = skip 2 l := by simp [skip, k, Sv.parts]
        have e2 : wts (x :: l) = wts l := by simp [wts, wt, k]
        rw [e1, e2] at hw ⊢
        have A := ih (skip 1 l) N y n (by omega) (fun z hz => hl' z (skip_mem l 1 z hz)) hN (by rw [s2]; omega) hy hn
        rw [s2] at A
        generalize cCond g (skip 1 l) N y n = a at *
        obtain ⟨a1, a2⟩ := a
        have al := A.len
        simp only at al ⊢
        have B := ih l a1 a2 n (by omega) hl' A.gd (by omega) A.pl (hn.ext A.ext)
        have bl := B.len
        refine ⟨B.gd, A.ext.trans B.ext, by omega, B.pl, fun r v hr t => B.to r v hr ?_⟩
        have e3 : Sv.hd (Sv.ev r (x :: l)) = (Sv.hd (Sv.ev r l) && Sv.hd (Sv.ev r (skip 1 l))) := by
          simp only [Sv.ev, k]; rw [tail_skip r l hl']; simp [Sv.hd]
        try simp only at t ⊢
        rw [e3] at t
        cases hb : Sv.hd (Sv.ev r l)
        · rw [hb] at t
          simp only [Bool.false_and] at t
          exact t.ext A.ext hn.2
        · rw [hb] at t
          simp only [Bool.true_and] at t
          exact A.to r v hr t
      · rw [if_neg (by omega), if_neg (by omega), if_neg (by omega), if_pos k]
        have e1 : skip 1 (x :: l) = skip 2 l := by simp [skip, k, Sv.parts]
        have e2 : wts (x :: l) = wts l := by simp [wts, wt, k]
        rw [e1, e2] at hw ⊢
        have A := ih (skip 1 l) N y n (by omega) (fun z hz => hl' z (skip_mem l 1 z hz)) hN (by rw [s2]; omega) hy hn
        rw [s2] at A
        generalize cCond g (skip 1 l) N y n = a at *
        obtain ⟨a1, a2⟩ := a
        have al := A.len
        simp only at al ⊢
        have B := ih l a1 y a2 (by omega) hl' A.gd (by omega) (hy.ext A.ext) A.pl
        have bl := B.len
        refine ⟨B.gd, A.ext.trans B.ext, by omega, B.pl, fun r v hr t => B.to r v hr ?_⟩
        have e3 : Sv.hd (Sv.ev r (x :: l)) = (Sv.hd (Sv.ev r l) || Sv.hd (Sv.ev r (skip 1 l))) := by
          simp only [Sv.ev, k]; rw [tail_skip r l hl']; simp [Sv.hd]
        try simp only at t ⊢
        rw [e3] at t
        cases hb : Sv.hd (Sv.ev r l)
        · rw [hb] at t
          simp only [Bool.false_or] at t
          exact A.to r v hr t
        · rw [hb] at t
          simp only [Bool.true_or] at t
          exact t.ext A.ext hy.2
      · rw [if_neg (by omega), if_neg (by omega), if_neg (by omega), if_neg (by omega)]
        have e1 : skip 1 (x :: l) = l := by simp [skip, k, Sv.parts]
        have e2 : wts (x :: l) = wt x + wts l := rfl
        rw [e1, e2] at hw ⊢
        have A := ccomp_ok (N := N) (y := y) (n := n) hx k hN (by omega) hy hn
        have al := A.len
        refine ⟨A.gd, A.ext, by omega, A.pl, fun r v hr t => A.to r v hr ?_⟩
        simpa [Sv.ev, k, Sv.hd] using t
/-- a rule as it is read -/
def RlC (q : List Tm × Int) : Prop := (∀ x ∈ q.1, TmC x) ∧ 0 ≤ q.2 ∧ q.2 ≤ 65535
def rwts : List (List Tm × Int) → Nat
  | [] => 1
  | q :: r => 1 + wts q.1 + rwts r
theorem ret_gd {v : Int} {N : List In} (h : N = [] ∨ Gd N) (hv : 0 ≤ v ∧ v ≤ 65535) : Gd (⟨15, 0, 0, v⟩ :: N) := by
  have hx : InRng ⟨15, 0, 0, v⟩ := by unfold InRng; simp only; omega
  have hw : ∀ left, wrongE ⟨15, 0, 0, v⟩ left = 0 := fun left => (wrong_iff _ _).2 ⟨by simp only; omega, fun _ => by simp only; omega, fun q => by simp only at q; omega, rfl, fun q => by simp only at q; omega, fun q => by simp only at q; exact absurd q (by decide)⟩
  rcases h with rfl | h
  · exact ⟨⟨hx, hw 0, Or.inl rfl⟩, ⟨fun q => by simp only at q; exact absurd q (by decide), fun q => by simp only at q; omega, trivial⟩⟩
  · exact ⟨good_cons hx (hw _) h.good, ⟨fun q => by simp only at q; exact absurd q (by decide), fun q => by simp only at q; omega, h.tidy⟩⟩
theorem ret_to (r : ByteArray) (v : Int) (N : List In) : Tv r (⟨15, 0, 0, v⟩ :: N) (N.length + 1) v := by
  intro m
  have : N.length + 1 = (⟨15, 0, 0, v⟩ :: N : List In).length := rfl
  rw [this]
  exact to_top.2 ⟨1, Ends.ret _ _ _ rfl⟩
theorem built_ok {q : List Tm × Int} {N : List In} (hq : RlC q) (h : Gd N) (hl : N.length + 1 + wts q.1 ≤ 1024) :
    AskOk (⟨15, 0, 0, q.2⟩ :: N) (N.length + 1) N.length (wts q.1 - wts (skip 1 q.1)) (fun r => Sv.hd (Sv.ev r q.1)) (cBuilt q N) := by
  have b1 := skip_wts q.1 1
  exact ccond_ok _ q.1 _ _ _ (by omega) hq.1 (ret_gd (Or.inr h) hq.2) (by simp only [List.length_cons]; omega) ⟨by omega, by simp⟩ ⟨h.pos, by simp⟩
theorem crule_ok {q : List Tm × Int} {N : List In} (hq : RlC q) (h : Gd N) (hl : N.length + 1 + wts q.1 ≤ 1024) :
    Gd (cRule q N) ∧ (cRule q N).length = (cBuilt q N).2 ∧ (cRule q N).length ≤ N.length + 1 + wts q.1 ∧ ∀ r v, r.size = 20 → Tv r N N.length v → Tv r (cRule q N) (cRule q N).length (if Sv.holds r q.1 = true then q.2 else v) := by
  have A := built_ok hq h hl
  unfold cRule
  generalize cBuilt q N = a at *
  obtain ⟨a1, a2⟩ := a
  have al := A.len
  have ap := A.pl
  obtain ⟨p1, p2⟩ := ap
  simp only [List.length_cons] at al p1 p2 ⊢
  have hdl : (a1.drop (a1.length - a2)).length = a2 := by rw [List.length_drop]; omega
  refine ⟨⟨good_drop _ A.gd.good (by omega), tidyS_drop _ A.gd.tidy⟩, hdl, by omega, fun r v hr t m => ?_⟩
  have : To r a1 a2 m (if Sv.holds r q.1 = true then q.2 else v) := by
    refine A.to r _ hr ?_ m
    unfold Sv.holds
    by_cases k : Sv.hd (Sv.ev r q.1) = true
    · rw [if_pos k, if_pos k]; exact ret_to r q.2 N
    · rw [if_neg k, if_neg k]; exact t.ext (Ext.cons _ _) (Nat.le_refl _)
  obtain ⟨n, e⟩ := this
  exact to_top.2 ⟨n, e⟩
theorem crules_ok (d : Int) (hd : 0 ≤ d ∧ d ≤ 65535) : ∀ (R : List (List Tm × Int)), (∀ q ∈ R, RlC q) → rwts R ≤ 1024 →
    Gd (cRules d R) ∧ (cRules d R).length ≤ rwts R ∧ ∀ r, r.size = 20 → Tv r (cRules d R) (cRules d R).length (Sv.verdict r d R) := by
  intro R
  induction R with
  | nil =>
    intro _ _
    exact ⟨ret_gd (Or.inl rfl) hd, by simp [cRules, rwts], fun r _ => ret_to r d []⟩
  | cons q R ih =>
    intro hR hw
    simp only [rwts] at hw ⊢
    obtain ⟨i1, i2, i3⟩ := ih (fun z hz => hR z (List.mem_cons_of_mem _ hz)) (by omega)
    obtain ⟨a1, a2, a3, a4⟩ := crule_ok (hR q (by simp)) i1 (by omega)
    exact ⟨a1, by simp only [cRules]; omega, fun r hr => by simpa only [cRules, Sv.verdict] using a4 r _ hr (i3 r hr)⟩
end Go.Proofs.YtpamlgdopmjooaaGreat
/- What is read of a policy: its terms, and that they come to no more instructions than it has bytes. -/
namespace Go.Proofs.YtpamlgdopmjooaaGreat
open Go.RowKit Sc
open Go.Proofs.YtpamlgdopmjooaaGreat.Sv (byteAt land wordAt Tm)
set_option linter.unusedVariables false
set_option linter.unusedSimpArgs false

theorem relCode_rng (c : Int) : Sv.relCode c = 0 ∨ Sv.relCode c = 1 ∨ Sv.relCode c = 2 := by
  unfold Sv.relCode; split
  · exact Or.inl rfl
  · split
    · exact Or.inr (Or.inl rfl)
    · exact Or.inr (Or.inr rfl)
theorem tm0_c (k : Int) (h : k = 0 ∨ k = 1 ∨ k = 2 ∨ k = 3) : TmC (Sv.tm0 k) ∧ wt (Sv.tm0 k) = 0 := by
  unfold Sv.tm0
  refine ⟨⟨by simp only; omega, by simp, by simp, by simp, by simp, by simp, fun q => by simp at q, fun q => by simp only at q; omega⟩, ?_⟩
  unfold wt
  rw [if_neg (by simp only; omega)]
theorem term_c (t : ByteArray) (p : Nat) (h : (Sv.term t ⟨p, false⟩).2.f = false) : TmC (Sv.term t ⟨p, false⟩).1 ∧ p + wt (Sv.term t ⟨p, false⟩).1 ≤ (Sv.term t ⟨p, false⟩).2.p := by
  unfold Sv.term at *
  by_cases h1 : Sv.look t ⟨p, false⟩ = 84
  · rw [if_pos h1] at h ⊢
    have := tm0_c 0 (by omega)
    exact ⟨this.1, by rw [this.2]; simp⟩
  rw [if_neg h1] at h ⊢
  by_cases h2 : Sv.look t ⟨p, false⟩ = 33
  · rw [if_pos h2] at h ⊢
    have := tm0_c 1 (by omega)
    exact ⟨this.1, by rw [this.2]; simp⟩
  rw [if_neg h2] at h ⊢
  by_cases h3 : Sv.look t ⟨p, false⟩ = 38
  · rw [if_pos h3] at h ⊢
    have := tm0_c 2 (by omega)
    exact ⟨this.1, by rw [this.2]; simp⟩
  rw [if_neg h3] at h ⊢
  by_cases h4 : Sv.look t ⟨p, false⟩ = 124
  · rw [if_pos h4] at h ⊢
    have := tm0_c 3 (by omega)
    exact ⟨this.1, by rw [this.2]; simp⟩
  rw [if_neg h4] at h ⊢
  have hsh : ∀ k : Int, (k = 0 ∨ k = 2) → (Sv.short t k ⟨p + 1, false⟩).2.f = false → TmC (Sv.short t k ⟨p + 1, false⟩).1 ∧ p + wt (Sv.short t k ⟨p + 1, false⟩).1 ≤ (Sv.short t k ⟨p + 1, false⟩).2.p := by
    intro k hk hf
    obtain ⟨a1, a2, a3, a4, a5⟩ := Sv.short_res t k (p + 1) hf
    rw [a1]
    refine ⟨⟨by simp, by simp only; omega, by simp, by simp, by simp, by simp only; omega, fun _ => ⟨rfl, Or.inr ⟨rfl, rfl⟩⟩, fun _ _ => ⟨rfl, rfl, rfl⟩⟩, ?_⟩
    unfold wt
    simp only
    rw [if_pos trivial, if_pos (by omega)]
    omega
  by_cases h5 : Sv.look t ⟨p, false⟩ = 110
  · rw [if_pos h5] at h ⊢
    exact hsh 0 (by omega) h
  rw [if_neg h5] at h ⊢
  by_cases h6 : Sv.look t ⟨p, false⟩ = 104
  · rw [if_pos h6] at h ⊢
    exact hsh 2 (by omega) h
  rw [if_neg h6] at h ⊢
  by_cases h7 : Sv.look t ⟨p, false⟩ = 97
  · rw [if_pos h7] at h ⊢
    obtain ⟨a1, a2, a3⟩ := Sv.argument_res t (p + 1) h
    rcases a3 with ⟨b1, b2, b3, b4, b5, b6, b7⟩ | ⟨b1, b2, b3, b4, b5, b6⟩
    · simp only at b7 ⊢
      rw [b7]
      refine ⟨⟨by simp, by simp only; omega, by simp only; omega, by simp only; omega, by simp only; omega, by simp only; omega, fun q => by simp at q, fun _ q => by simp only at q; omega⟩, ?_⟩
      unfold wt
      simp only
      rw [if_pos trivial, if_neg (by omega)]
      omega
    · simp only at b6 ⊢
      rw [b6]
      refine ⟨⟨by simp, by simp only; omega, by simp, by simp, by simp only; omega, by simp only; omega, fun _ => ⟨rfl, Or.inl rfl⟩, fun _ q => by simp only at q; omega⟩, ?_⟩
      unfold wt
      simp only
      rw [if_pos trivial, if_neg (by omega)]
      omega
  rw [if_neg h7] at h
  cases h
theorem st_eta (s : Sv.St) (h : s.f = false) : s = ⟨s.p, false⟩ := by cases s; simp only at h; subst h; rfl
theorem cond_c (t : ByteArray) : ∀ (n : Nat) (m : Int) (s : Sv.St), s.f = false → (Sv.cond t n m s).2.f = false → (∀ x ∈ (Sv.cond t n m s).1, TmC x) ∧ s.p + wts (Sv.cond t n m s).1 ≤ (Sv.cond t n m s).2.p := by
  intro n
  induction n with
  | zero => intro m s hs h; simp [Sv.cond, wts]
  | succ n ih =>
    intro m s hs h
    simp only [Sv.cond] at h ⊢
    by_cases q : 0 < m ∧ s.f = false
    · rw [if_pos q] at h ⊢
      by_cases hf : (Sv.term t s).2.f = false
      · obtain ⟨i1, i2⟩ := ih (m - 1 + Sv.parts (Sv.term t s).1.kind) (Sv.term t s).2 hf h
        have e := st_eta s hs
        rw [e] at hf
        obtain ⟨c1, c2⟩ := term_c t s.p hf
        rw [← e] at c1 c2
        refine ⟨fun x hx => ?_, ?_⟩
        · simp only [List.mem_cons] at hx
          rcases hx with rfl | hx
          · exact c1
          · exact i1 x hx
        · simp only [wts]
          omega
      · exfalso
        have hf' : (Sv.term t s).2.f = true := by simpa using hf
        rw [cond_stop t n _ _ (Or.inr hf')] at h
        simp only at h
        exact hf h
    · rw [if_neg q] at h ⊢
      simp [wts]
theorem condition_c (t : ByteArray) (s : Sv.St) (hs : s.f = false) (h : (Sv.condition t s).2.f = false) : (∀ x ∈ (Sv.condition t s).1, TmC x) ∧ s.p + wts (Sv.condition t s).1 ≤ (Sv.condition t s).2.p := cond_c t _ _ s hs h
theorem rule_c (t : ByteArray) (s : Sv.St) (hs : s.f = false) (h : (Sv.rule t s).2.f = false) : RlC (Sv.rule t s).1 ∧ s.p + wts (Sv.rule t s).1.1 + 5 ≤ (Sv.rule t s).2.p := by
  unfold Sv.rule at *
  simp only at h ⊢
  have hn : (Sv.need t 58 (Sv.condition t s).2).f = false := by
    cases q : (Sv.need t 58 (Sv.condition t s).2).f
    · rfl
    · rw [Sv.word_stays t _ q] at h; cases h
  have hc : (Sv.condition t s).2.f = false := by
    cases q : (Sv.condition t s).2.f
    · rfl
    · rw [Sv.need_stays t 58 (by omega) _ q] at hn; cases hn
  obtain ⟨c1, c2⟩ := condition_c t s hs hc
  have e := st_eta _ hc
  rw [e] at hn
  obtain ⟨n1, n2⟩ := Sv.need_res t 58 _ hn
  rw [e, n2] at h
  obtain ⟨w1, w2, w3, w4⟩ := Sv.word_ok t _ h
  rw [e, n2, w1]
  refine ⟨⟨?_, ?_, ?_⟩, ?_⟩
  · exact c1
  · exact w3
  · simp only; omega
  · simp only
    omega
theorem rules_c (t : ByteArray) : ∀ (n : Nat) (s : Sv.St), s.f = false → (Sv.rules t n s).2.f = false → (∀ q ∈ (Sv.rules t n s).1, RlC q) ∧ s.p + rwts (Sv.rules t n s).1 ≤ (Sv.rules t n s).2.p + 1 := by
  intro n
  induction n with
  | zero => intro s hs h; simp [Sv.rules, rwts]
  | succ n ih =>
    intro s hs h
    simp only [Sv.rules] at h ⊢
    by_cases q : Sv.look t s = 63
    · rw [if_pos q] at h ⊢
      by_cases hf : (Sv.rule t ⟨s.p + 1, s.f⟩).2.f = false
      · obtain ⟨i1, i2⟩ := ih _ hf h
        obtain ⟨c1, c2⟩ := rule_c t ⟨s.p + 1, s.f⟩ hs hf
        refine ⟨fun x hx => ?_, ?_⟩
        · simp only [List.mem_cons] at hx
          rcases hx with rfl | hx
          · exact c1
          · exact i1 x hx
        · simp only [rwts] at c2 ⊢
          omega
      · exfalso
        have hf' : (Sv.rule t ⟨s.p + 1, s.f⟩).2.f = true := by simpa using hf
        rw [rules_stop t n _ (by unfold Sv.look; rw [hf']; simp)] at h
        simp only at h
        exact hf h
    · rw [if_neg q] at h ⊢
      simp [rwts]
theorem policy_c (t : ByteArray) (h : (Sv.policy t ⟨0, false⟩).2.f = false) : (∀ q ∈ (Sv.policy t ⟨0, false⟩).1.1, RlC q) ∧ (0 ≤ (Sv.policy t ⟨0, false⟩).1.2 ∧ (Sv.policy t ⟨0, false⟩).1.2 ≤ 65535) ∧ rwts (Sv.policy t ⟨0, false⟩).1.1 ≤ t.size := by
  unfold Sv.policy at *
  simp only at h ⊢
  have hw : (Sv.word t (Sv.need t 46 (Sv.ruleList t ⟨0, false⟩).2)).2.f = false := by
    unfold Sv.needEnd at h
    split at h
    · cases h
    · exact h
  have hn : (Sv.need t 46 (Sv.ruleList t ⟨0, false⟩).2).f = false := by
    cases q : (Sv.need t 46 (Sv.ruleList t ⟨0, false⟩).2).f
    · rfl
    · rw [Sv.word_stays t _ q] at hw; cases hw
  have hc : (Sv.ruleList t ⟨0, false⟩).2.f = false := by
    cases q : (Sv.ruleList t ⟨0, false⟩).2.f
    · rfl
    · rw [Sv.need_stays t 46 (by omega) _ q] at hn; cases hn
  obtain ⟨c1, c2⟩ := rules_c t (t.size + 1) ⟨0, false⟩ rfl hc
  have e := st_eta _ hc
  rw [e] at hn
  obtain ⟨n1, n2⟩ := Sv.need_res t 46 _ hn
  rw [e, n2] at hw
  obtain ⟨w1, w2, w3, w4⟩ := Sv.word_ok t _ hw
  have c2' : 0 + rwts (Sv.ruleList t ⟨0, false⟩).1 ≤ (Sv.ruleList t ⟨0, false⟩).2.p + 1 := c2
  refine ⟨c1, ?_, by omega⟩
  rw [e, n2, w1]
  simp only
  omega
/-- the code of a policy -/
def compL (t : ByteArray) : List In := cRules (Sv.policy t ⟨0, false⟩).1.2 (Sv.policy t ⟨0, false⟩).1.1
theorem compL_ok (t : ByteArray) (hs : t.size ≤ 600) (h : (Sv.policy t ⟨0, false⟩).2.f = false) : SoundList (compL t) ∧ ∀ r, r.size = 20 → (runL r (compL t)).1 = Sv.verdict r (Sv.policy t ⟨0, false⟩).1.2 (Sv.policy t ⟨0, false⟩).1.1 := by
  obtain ⟨p1, p2, p3⟩ := policy_c t h
  obtain ⟨r1, r2, r3⟩ := crules_ok _ p2 _ p1 (by omega)
  refine ⟨good_sound r1.good (by unfold compL; omega), fun r hr => ?_⟩
  obtain ⟨n, e⟩ := to_top.1 (r3 r hr ⟨0, 0, 0, 0, 0⟩)
  unfold runL compL
  rw [ends_run n _ _ _ _ 0 e (by omega)]
end Go.Proofs.YtpamlgdopmjooaaGreat
