import Derived.Test.YtpamlgdopmjooaaGreatCd4
import Derived.Deep.LoopGhost
/- What a code that is done by a pass is: the document's walks. -/
namespace Go.Proofs.YtpamlgdopmjooaaGreat.Sc
open Go.Proofs.YtpamlgdopmjooaaGreat.Sv (byteAt)

/-- is the byte a pass? -/
def isPass (b : Int) : Bool := b == 100 || b == 106 || b == 108 || b == 107
/-- the last pass of the first n bytes; 0: none -/
def lastN (p : ByteArray) : Nat → Int
  | 0 => 0
  | n + 1 => if isPass (byteAt p n) = true then byteAt p n else lastN p n
def lastP (p : ByteArray) : Int := lastN p p.size
def opAt (L : List In) (i : Nat) : Int := match L[i]? with | some x => x.op | none => 0
/-- is the instruction i tidy? -/
def tidyAt (L : List In) (i : Nat) (x : In) : Bool :=
  if isTest x.op = true ∧ x.t = x.f then false
  else if x.op = 10 then !(decide (x.k = 0) || opAt L (i + 1 + x.k.toNat) == 10 || opAt L (i + 1 + x.k.toNat) == 15 || opAt L (i + 1 + x.k.toNat) == 16)
  else true
def tidyN (L : List In) (i : Nat) : List In → Bool
  | [] => true
  | x :: r => tidyAt L i x && tidyN L (i + 1) r
def tidyB (L : List In) : Bool := tidyN L 0 L

/-- a way: from, to, by T -/
structure Wy where
  src : Nat
  dst : Nat
  yes : Bool
def waysOf (i : Nat) (x : In) : List Wy :=
  if isTest x.op = true then [⟨i, i + 1 + x.t.toNat, true⟩, ⟨i, i + 1 + x.f.toNat, false⟩]
  else if x.op = 10 then [⟨i, i + 1 + x.k.toNat, false⟩]
  else if x.op = 15 ∨ x.op = 16 then []
  else [⟨i, i + 1, false⟩]
def waysN (i : Nat) : List In → List Wy
  | [] => []
  | x :: r => waysOf i x ++ waysN (i + 1) r
def ways (L : List In) : List Wy := waysN 0 L
/-- which instructions are reached -/
def Reach (L : List In) (n : Nat) : Prop := ∀ P : Nat → Prop, P 0 → (∀ w : Wy, w ∈ ways L → P w.src → P w.dst) → P n
theorem Reach.zero {L : List In} : Reach L 0 := fun _ h _ => h
theorem Reach.step {L : List In} {w : Wy} (hw : w ∈ ways L) (hr : Reach L w.src) : Reach L w.dst := fun P h0 hs => hs w hw (hr P h0 hs)
end Go.Proofs.YtpamlgdopmjooaaGreat.Sc
namespace Go.Proofs.YtpamlgdopmjooaaGreat
open Go.RowKit
set_option linter.unusedVariables false
set_option linter.unusedSimpArgs false

set_option maxRecDepth 100000 in
set_option maxHeartbeats 2000000 in
theorem rLast_any (w : World) (p : ByteArray) (hp : p.size ≤ 1000) :
    Calls Tryz.prog 72 #[.string p] w fun e w' => e = .returned (.int .u8 (Sc.lastP p)) ∧ w' = w := by
  have hv : Hid (Sc.lastP p = Sc.lastN p p.size) := rfl
  generalize Sc.lastP p = R at *
  go_enter Tryz.func72, Tryz.ntmps72
  go_wp2_with fail
  go_loop [3] (fun i => ∃ n : Nat, n ≤ p.size ∧ i = .int .i64 ((n : Int) - 1) ∧ Hid (R = Sc.lastN p n)) (fun i => (intOf i + 1).toNat)
  case atStart => exact ⟨p.size, Nat.le_refl _, rfl, hv⟩
  case round =>
    obtain ⟨n, hn, rfl, hR⟩ := hrel
    clear hv
    cases n with
    | zero =>
      have hd : decide ((0 : Int) ≤ ((0 : Nat) : Int) - 1) = false := by decide
      have hR2 : Hid (R = 0) := hR
      clear hR
      go_wp2_with fail
      go_ret
      rw [hR2.out]
      exact ⟨rfl, rfl⟩
    | succ m =>
      have e1 : (((m + 1 : Nat) : Int) - 1) = (m : Int) := by omega
      rw [e1]
      have hm : m < p.size := by omega
      have hst : Hid (R = if Sc.isPass (Sv.byteAt p m) = true then Sv.byteAt p m else Sc.lastN p m) := hR
      have hb : Hid (Sv.byteAt p m = (p[m].toNat : Int)) := byteAt_in hm
      rw [hb.out] at hst
      generalize hB : (p[m].toNat : Int) = B at *
      have hB2 : ((p[m]'hm).toNat : Int) = B := hB
      clear hR e1 hb
      by_cases h100 : B = 100
      · subst h100
        have hR2 : Hid (R = 100) := by unfold Hid; rw [hst.out]; rfl
        clear hst 
        go_wp2_with fail
        go_ret
        rw [hR2.out]
        exact ⟨rfl, rfl⟩
      by_cases h106 : B = 106
      · subst h106
        have hR2 : Hid (R = 106) := by unfold Hid; rw [hst.out]; rfl
        clear hst h100
        go_wp2_with fail
        go_ret
        rw [hR2.out]
        exact ⟨rfl, rfl⟩
      by_cases h108 : B = 108
      · subst h108
        have hR2 : Hid (R = 108) := by unfold Hid; rw [hst.out]; rfl
        clear hst h100 h106
        go_wp2_with fail
        go_ret
        rw [hR2.out]
        exact ⟨rfl, rfl⟩
      by_cases h107 : B = 107
      · subst h107
        have hR2 : Hid (R = 107) := by unfold Hid; rw [hst.out]; rfl
        clear hst h100 h106 h108
        go_wp2_with fail
        go_ret
        rw [hR2.out]
        exact ⟨rfl, rfl⟩
      have e100 : (B == 100) = false := by simp [h100]
      have e106 : (B == 106) = false := by simp [h106]
      have e108 : (B == 108) = false := by simp [h108]
      have e107 : (B == 107) = false := by simp [h107]
      have hR2 : Hid (R = Sc.lastN p m) := by
        unfold Hid; rw [hst.out, if_neg]; unfold Sc.isPass; rw [e100, e106, e108, e107]; decide
      clear hst h100 h106 h108 h107
      go_wp2_with fail
      go_round
      case rel => exact ⟨m, by omega, rfl, hR2⟩
      case measure => simp [intOf]
end Go.Proofs.YtpamlgdopmjooaaGreat
/- tidy and ways: the document's walks. -/
namespace Go.Proofs.YtpamlgdopmjooaaGreat
open Go.RowKit
set_option linter.unusedVariables false
set_option linter.unusedSimpArgs false

/-- a list as sound codes have it -/
structure Fine (L : List Sc.In) : Prop where
  len : L.length ≤ 1024
  rng : ∀ i (h : i < L.length), InRng L[i]
  go : ∀ i (h : i < L.length), L[i].op = 10 → i + 1 + L[i].k.toNat < L.length
  yes : ∀ i (h : i < L.length), Sc.isTest L[i].op = true → i + 1 + L[i].t.toNat < L.length ∧ i + 1 + L[i].f.toNat < L.length
  next : ∀ i (h : i < L.length), L[i].op ≠ 15 → L[i].op ≠ 16 → i + 1 < L.length
  div : ∀ i (h : i < L.length), L[i].op = 8 → L[i].k ≠ 0
  shift : ∀ i (h : i < L.length), L[i].op = 9 → L[i].k ≤ 15

set_option maxRecDepth 100000 in
set_option maxHeartbeats 4000000 in
theorem rTidy_any (w : World) (sa : Option Addr) (sc : Nat) (L : List Sc.In) (hI : InsAt w sa L) (hF : Fine L) :
    Calls Tryz.prog 89 #[.slice sa L.length sc] w fun e w' => e = .returned (.bool (Sc.tidyB L)) ∧ w.grownBy w' none := by
  have HI := hid hI
  have HF := hid hF
  have hle := hF.len
  have hv : Hid (Sc.tidyB L = Sc.tidyN L 0 (L.drop 0)) := rfl
  generalize Sc.tidyB L = R at *
  clear hI hF
  go_enter Tryz.func89, Tryz.ntmps89
  go_wp2_with fail
  go_loopw [3] (fun i wr => ∃ n : Nat, n ≤ L.length ∧ i = .int .i64 n ∧ w.grownBy wr none ∧ Hid (R = Sc.tidyN L n (L.drop n))) (fun i _ => L.length - (intOf i).toNat)
  case atStart => exact ⟨0, Nat.zero_le _, rfl, gb_refl _ _, hv⟩
  case round =>
    obtain ⟨n, hn, rfl, hg, hR⟩ := hrel
    have HG := hid hg
    clear hv
    by_cases hlt : n < L.length
    · obtain ⟨b, off, rfl, hb, hcell⟩ := (HI.out.keep hg) n hlt
      have hx := HF.out.rng n hlt
      have hgo := HF.out.go n hlt
      have hst : Hid (R = (Sc.tidyAt L n L[n] && Sc.tidyN L (n + 1) (L.drop (n + 1)))) := by
        unfold Hid; rw [hR.out, List.drop_eq_getElem_cons hlt]; rfl
      have t0 := hcell 0 (by omega)
      have t1 := hcell 1 (by omega)
      have t2 := hcell 2 (by omega)
      have t3 := hcell 3 (by omega)
      generalize L[n] = X at *
      obtain ⟨op, t, f, kk⟩ := X
      obtain ⟨x1, x2, x3, x4, x5, x6, x7, x8⟩ := hx
      simp only at x1 x2 x3 x4 x5 x6 x7 x8 hgo
      simp [inCells] at t0 t1 t2 t3
      obtain ⟨k, rfl⟩ := Int.eq_ofNat_of_zero_le x7
      rw [Int.toNat_natCast] at hgo
      have hT := hid (fun w => rTest_any w op)
      have hti := isTest_iff op
      have hdef : Hid (Sc.tidyAt L n ⟨op, t, f, (k : Int)⟩ = if Sc.isTest op = true ∧ t = f then false else if op = 10 then !(decide ((k : Int) = 0) || Sc.opAt L (n + 1 + k) == 10 || Sc.opAt L (n + 1 + k) == 15 || Sc.opAt L (n + 1 + k) == 16) else true) := by
        unfold Hid Sc.tidyAt; simp only [Int.toNat_natCast]
      clear hcell hg hR
      by_cases ht : Sc.isTest op = true
      · have hop : 11 ≤ op ∧ op ≤ 14 := by rw [ht] at hti; simpa using hti.symm
        rw [ht] at hT
        by_cases htf : t = f
        · subst htf
          have hv : Hid (R = false) := by unfold Hid; rw [hst.out, hdef.out, if_pos ⟨ht, rfl⟩]; rfl
          clear hst hdef ht hti
          go_wp2_with fail
          refine (hT.out _).mono ?_
          rintro e w1 ⟨rfl, rfl⟩
          clear hT
          go_wp2_with fail
          go_ret
          rw [hv.out]
          exact ⟨rfl, gb_alloc HG.out _⟩
        · have etf : (t == f) = false := by simp [htf]
          have e10 : (op == 10) = false := by rw [beq_eq_false_iff_ne]; omega
          have hv : Hid (R = Sc.tidyN L (n + 1) (L.drop (n + 1))) := by
            unfold Hid; rw [hst.out, hdef.out, if_neg (by simp [htf]), if_neg (by omega)]; rfl
          clear hst hdef ht hti htf
          go_wp2_with fail
          refine (hT.out _).mono ?_
          rintro e w1 ⟨rfl, rfl⟩
          clear hT
          go_wp2_with fail
          go_roundw
          case rel => exact ⟨n + 1, by omega, by go_num, gb_alloc HG.out _, hv⟩
          case measure => simp [intOf]; omega
      · have ht' : Sc.isTest op = false := by simpa using ht
        rw [ht'] at hT
        by_cases h10 : op = 10
        · subst h10
          have hj := hgo rfl
          obtain ⟨b', off', hbo, _, hcell'⟩ := (HI.out.keep HG.out) (n + 1 + k) hj
          cases hbo
          have y0 := hcell' 0 (by omega)
          have hopa : Hid (Sc.opAt L (n + 1 + k) = (L[n + 1 + k]'hj).op) := by unfold Hid Sc.opAt; rw [List.getElem?_eq_getElem hj]
          generalize (L[n + 1 + k]'hj) = Y at *
          obtain ⟨yo, yt, yf, yk⟩ := Y
          simp [inCells] at y0
          simp only at hopa
          have hdef2 : Hid (R = (!(decide ((k : Int) = 0) || yo == 10 || yo == 15 || yo == 16) && Sc.tidyN L (n + 1) (L.drop (n + 1)))) := by
            unfold Hid; rw [hst.out, hdef.out, if_neg (by simp [ht']), if_pos rfl, hopa.out]
          clear hst hdef ht ht' hti hcell' hgo
          have q1 : ((n : Int) + 1 + (k : Int)).toNat = n + 1 + k := by omega
          have q2 : (n : Int) + 1 + (k : Int) < (L.length : Int) := by omega
          have q3 : (0 : Int) ≤ (n : Int) + 1 + (k : Int) := by omega
          by_cases hk0 : k = 0
          · subst hk0
            have hv : Hid (R = false) := by unfold Hid; rw [hdef2.out]; rfl
            clear hdef2
            go_wp2_with fail
            refine (hT.out _).mono ?_
            rintro e w1 ⟨rfl, rfl⟩
            clear hT
            go_wp2_with fail
            go_ret
            rw [hv.out]
            exact ⟨rfl, gb_alloc HG.out _⟩
          have ek : ((k : Int) == 0) = false := by rw [beq_eq_false_iff_ne]; omega
          by_cases hy10 : yo = 10
          · subst hy10
            have hv : Hid (R = false) := by unfold Hid; rw [hdef2.out]; simp
            clear hdef2 
            go_wp2_with fail
            refine (hT.out _).mono ?_
            rintro e w1 ⟨rfl, rfl⟩
            clear hT
            go_wp2_with fail
            go_ret
            rw [hv.out]
            exact ⟨rfl, gb_alloc HG.out _⟩
          by_cases hy15 : yo = 15
          · subst hy15
            have hv : Hid (R = false) := by unfold Hid; rw [hdef2.out]; simp
            clear hdef2 hy10
            go_wp2_with fail
            refine (hT.out _).mono ?_
            rintro e w1 ⟨rfl, rfl⟩
            clear hT
            go_wp2_with fail
            go_ret
            rw [hv.out]
            exact ⟨rfl, gb_alloc HG.out _⟩
          by_cases hy16 : yo = 16
          · subst hy16
            have hv : Hid (R = false) := by unfold Hid; rw [hdef2.out]; simp
            clear hdef2 hy10 hy15
            go_wp2_with fail
            refine (hT.out _).mono ?_
            rintro e w1 ⟨rfl, rfl⟩
            clear hT
            go_wp2_with fail
            go_ret
            rw [hv.out]
            exact ⟨rfl, gb_alloc HG.out _⟩
          have ey10 : (yo == 10) = false := by simp [hy10]
          have ey15 : (yo == 15) = false := by simp [hy15]
          have ey16 : (yo == 16) = false := by simp [hy16]
          have hv : Hid (R = Sc.tidyN L (n + 1) (L.drop (n + 1))) := by
            unfold Hid; rw [hdef2.out, ey10, ey15, ey16]
            have : decide ((k : Int) = 0) = false := by simp; omega
            rw [this]; rfl
          clear hdef2 hy10 hy15 hy16
          go_wp2_with fail
          refine (hT.out _).mono ?_
          rintro e w1 ⟨rfl, rfl⟩
          clear hT
          go_wp2_with fail
          go_roundw
          case rel => exact ⟨n + 1, by omega, by go_num, gb_alloc HG.out _, hv⟩
          case measure => simp [intOf]; omega
        · have e10 : (op == 10) = false := by simp [h10]
          have hv : Hid (R = Sc.tidyN L (n + 1) (L.drop (n + 1))) := by
            unfold Hid; rw [hst.out, hdef.out, if_neg (by simp [ht']), if_neg h10]; rfl
          clear hst hdef ht ht' hti h10 hgo
          go_wp2_with fail
          refine (hT.out _).mono ?_
          rintro e w1 ⟨rfl, rfl⟩
          clear hT
          go_wp2_with fail
          go_roundw
          case rel => exact ⟨n + 1, by omega, by go_num, gb_alloc HG.out _, hv⟩
          case measure => simp [intOf]; omega
    · have hkn : L.length ≤ n := by omega
      have hv : Hid (R = true) := by unfold Hid; rw [hR.out, List.drop_eq_nil_of_le hkn]; rfl
      clear hR hg
      go_wp2_with fail
      go_ret
      rw [hv.out]
      exact ⟨rfl, HG.out⟩
end Go.Proofs.YtpamlgdopmjooaaGreat
/- ways: the document's walk. -/
namespace Go.Proofs.YtpamlgdopmjooaaGreat
open Go.RowKit
set_option linter.unusedVariables false
set_option linter.unusedSimpArgs false

def wyCells (x : Sc.Wy) : Array Value := #[.int .i64 x.src, .int .i64 x.dst, .bool x.yes]
def wysCells (l : List Sc.Wy) : List Value := l.flatMap fun x => (wyCells x).toList
theorem wysCells_snoc (l : List Sc.Wy) (x : Sc.Wy) : wysCells (l ++ [x]) = wysCells l ++ (wyCells x).toList := by simp [wysCells]
theorem wysCells_at (l : List Sc.Wy) : ∀ (i j : Nat) (h : i < l.length), j < 3 → (wysCells l)[i * 3 + j]? = (wyCells l[i])[j]? := by
  induction l with
  | nil => intro i j h; simp at h
  | cons x r ih =>
    intro i j h hj
    have e : wysCells (x :: r) = (wyCells x).toList ++ wysCells r := by simp [wysCells]
    have hl : (wyCells x).toList.length = 3 := rfl
    rw [e]
    cases i with
    | zero =>
      rw [List.getElem?_append_left (by omega)]
      simp
    | succ i =>
      rw [List.getElem?_append_right (by omega), hl]
      have : (i + 1) * 3 + j - 3 = i * 3 + j := by omega
      rw [this, ih i j (by simpa using h) hj]
      simp
theorem owns_wy {w : World} {base : Nat} {sa : Option Addr} {n sc : Nat} {l : List Sc.Wy} (hn : n = l.length) (h : w.ownsRow base 142 3 (.slice sa n sc) n (wysCells l)) (k : Nat) (hk : k < l.length) :
    ∃ g, sa = some ⟨g, 0, none⟩ ∧ base ≤ g ∧ g < w.heap.size ∧ ∀ j, j < 3 → w.cell? ⟨g, k * 3 + j, none⟩ = (wyCells l[k])[j]? := by
  rcases h.2 with ⟨h1, h2⟩ | ⟨g, cap, cur, h1, h2, h3, h4, h5, h6, h7⟩
  · omega
  · simp only [Value.slice.injEq] at h1
    refine ⟨g, h1.1, h2, (Array.getElem?_eq_some_iff.1 h3).1, fun j hj => ?_⟩
    have e1 : w.cell? ⟨g, k * 3 + j, none⟩ = cur[k * 3 + j]? := by simp [World.cell?, h3]
    have e2 : (cur.toList.take (n * 3))[k * 3 + j]? = cur.toList[k * 3 + j]? := List.getElem?_take_of_lt (by omega)
    rw [e1, ← wysCells_at l k j hk hj, ← h7, e2]
    simp
def zWy : Value := .agg #[.int .i64 0, .int .i64 0, .bool false]
theorem uWy : Tryz.prog.underlying 109 = some (.slice 142) := by kernel_rfl
theorem iWy_ex : ∃ i, Tryz.prog.info? 142 = some i ∧ i.zero = some zWy ∧ i.size = 3 ∧ i.bytes = 24 := info_ex (by kernel_rfl)
theorem waysN_snoc (A : List Sc.In) (x : Sc.In) : ∀ i, Sc.waysN i (A ++ [x]) = Sc.waysN i A ++ Sc.waysOf (i + A.length) x := by
  induction A with
  | nil => intro i; simp [Sc.waysN]
  | cons y r ih => intro i; simp only [List.cons_append, Sc.waysN, ih, List.length_cons, List.append_assoc]; congr 3; omega
def waysP (L : List Sc.In) (n : Nat) : List Sc.Wy := Sc.waysN 0 (L.take n)
theorem waysP_succ (L : List Sc.In) (n : Nat) (h : n < L.length) : waysP L (n + 1) = waysP L n ++ Sc.waysOf n L[n] := by
  unfold waysP
  rw [← List.take_append_getElem h, waysN_snoc]
  simp; congr 1; omega
theorem waysOf_len (i : Nat) (x : Sc.In) : (Sc.waysOf i x).length ≤ 2 := by
  unfold Sc.waysOf; repeat' split
  all_goals simp
theorem waysP_len (L : List Sc.In) (n : Nat) (h : n ≤ L.length) : (waysP L n).length ≤ 2 * n := by
  induction n with
  | zero => simp [waysP, Sc.waysN]
  | succ n ih =>
    have := waysOf_len n (L[n]'(by omega))
    rw [waysP_succ L n (by omega), List.length_append]
    have := ih (by omega)
    omega
theorem waysP_all (L : List Sc.In) : waysP L L.length = Sc.ways L := by unfold waysP Sc.ways; rw [List.take_length]

set_option maxRecDepth 100000 in
set_option maxHeartbeats 8000000 in
theorem rWays_any (w : World) (sa : Option Addr) (sc : Nat) (L : List Sc.In) (hI : InsAt w sa L) (hF : Fine L) :
    Calls Tryz.prog 90 #[.slice sa L.length sc] w fun e w' => ∃ v, e = .returned v ∧ w.grownBy w' none ∧ w'.ownsRow w.heap.size 142 3 v (Sc.ways L).length (wysCells (Sc.ways L)) := by
  obtain ⟨iW, iW_e, iW_z, iW_s, iW_b⟩ := iWy_ex
  have iW_eq := hid iW_e
  have HI := hid hI
  have HF := hid hF
  have hle := hF.len
  clear hI hF iW_e
  go_enter Tryz.func90, Tryz.ntmps90
  go_wp2_with fail
  go_loopw [3, 4] (fun v i wr => ∃ n : Nat, n ≤ L.length ∧ i = .int .i64 n ∧ w.grownBy wr none ∧ wr.ownsRow w.heap.size 142 3 v (waysP L n).length (wysCells (waysP L n))) (fun _ i _ => L.length - (intOf i).toNat)
  case atStart => exact ⟨0, Nat.zero_le _, rfl, gb_refl _ _, World.ownsRow_nil _ _ _ _⟩
  case round =>
    obtain ⟨n, hn, rfl, hg, hown⟩ := hrel
    have HG := hid hg
    have hz := hg.size
    have hwl := waysP_len L n hn
    by_cases hlt : n < L.length
    · obtain ⟨b, off, rfl, hb, hcell⟩ := (HI.out.keep hg) n hlt
      have hx := HF.out.rng n hlt
      have hsn := hid (waysP_succ L n hlt)
      have t0 := hcell 0 (by omega)
      have t1 := hcell 1 (by omega)
      have t2 := hcell 2 (by omega)
      have t3 := hcell 3 (by omega)
      generalize L[n] = X at *
      obtain ⟨op, tI, fI, kI⟩ := X
      obtain ⟨x1, x2, x3, x4, x5, x6, x7, x8⟩ := hx
      simp only at x1 x2 x3 x4 x5 x6 x7 x8
      simp [inCells] at t0 t1 t2 t3
      obtain ⟨t, rfl⟩ := Int.eq_ofNat_of_zero_le x3
      obtain ⟨f, rfl⟩ := Int.eq_ofNat_of_zero_le x5
      obtain ⟨k, rfl⟩ := Int.eq_ofNat_of_zero_le x7
      have hT := hid (fun w => rTest_any w op)
      have hti := isTest_iff op
      have hw0 : Hid (Sc.waysOf n ⟨op, (t : Int), (f : Int), (k : Int)⟩ = if Sc.isTest op = true then [⟨n, n + 1 + t, true⟩, ⟨n, n + 1 + f, false⟩] else if op = 10 then [⟨n, n + 1 + k, false⟩] else if op = 15 ∨ op = 16 then [] else [⟨n, n + 1, false⟩]) := by
        unfold Hid Sc.waysOf; simp only [Int.toNat_natCast]
      have XB := hid (Blk.new wr 35 #[.int .i64 op, .int .i64 (t : Int), .int .i64 (f : Int), .int .i64 (k : Int)])
      have ho0 := hown.alloc (.cells #[.int .i64 op, .int .i64 (t : Int), .int .i64 (f : Int), .int .i64 (k : Int)] 35)
      have Hg0 := hid (gb_alloc HG.out (.cells #[.int .i64 op, .int .i64 (t : Int), .int .i64 (f : Int), .int .i64 (k : Int)] 35))
      clear hcell hg hown
      by_cases ht : Sc.isTest op = true
      · rw [ht] at hT
        have hw : Hid (waysP L (n + 1) = (waysP L n ++ [⟨n, n + 1 + t, true⟩]) ++ [⟨n, n + 1 + f, false⟩]) := by
          unfold Hid; rw [hsn.out, hw0.out, if_pos ht]; simp
        clear hsn hw0 ht hti
        go_wp2_with fail
        refine (hT.out _).mono ?_
        rintro e w9 ⟨rfl, rfl⟩
        clear hT
        go_wp2_with (first
          | (at_builtin; refine wpList_append_own _ rfl (.tmp 22) (.tmp 30) 109 rfl w.heap.size 142 iW zWy 3 24 uWy iW_eq.out iW_z iW_s iW_b rfl (by decide) u3 ((waysP L n).length) (wysCells (waysP L n)) rfl (ho0.alloc _) ⟨wr.heap.size + 1, 0, none⟩ 1 1 [.int .i64 (n : Int), .int .i64 ((n : Int) + 1 + (t : Int)), .bool true] rfl rfl ?a1 ?b1 ?c1 ?d1 ?e1 ?_)
          | fail)
        case a1 => exact new_cells _ 142 #[.int .i64 (n : Int), .int .i64 ((n : Int) + 1 + (t : Int)), .bool true] _ (by first | rfl | simp)
        case b1 => intro u hu; simp at hu; rcases hu with rfl | rfl | rfl <;> rfl
        case c1 => unfold maxLen; omega
        case d1 => omega
        case e1 => simp; omega
        intro v1 w1 ho1 hgrow _
        have hlt1 := ho0.lt
        have Hg1 := hid (gb_grow (gb_alloc Hg0.out (.cells #[.int .i64 (n : Int), .int .i64 ((n : Int) + 1 + (t : Int)), .bool true] 142)) hgrow (fun j hj => (hlt1 j hj).1))
        have hz1 := Hg1.out.size
        have XB1 := hid (Blk.keep (Blk.alloc XB.out (.cells #[.int .i64 (n : Int), .int .i64 ((n : Int) + 1 + (t : Int)), .bool true] 142)) hgrow (owns_blk (ho0.alloc (.cells #[.int .i64 (n : Int), .int .i64 ((n : Int) + 1 + (t : Int)), .bool true] 142)) (Blk.alloc XB.out (.cells #[.int .i64 (n : Int), .int .i64 ((n : Int) + 1 + (t : Int)), .bool true] 142)) (by decide)))
        have y2 := Blk.cell XB1.out 2
        simp at y2
        clear hgrow hlt1 ho0 Hg0 XB
        go_wp2_with (first
          | (at_builtin; refine wpList_append_own _ rfl (.tmp 32) (.tmp 40) 109 rfl w.heap.size 142 iW zWy 3 24 uWy iW_eq.out iW_z iW_s iW_b rfl (by decide) v1 ((waysP L n).length + 1) (wysCells (waysP L n) ++ [.int .i64 (n : Int), .int .i64 ((n : Int) + 1 + (t : Int)), .bool true]) rfl (ho1.alloc _) ⟨w1.heap.size, 0, none⟩ 1 1 [.int .i64 (n : Int), .int .i64 ((n : Int) + 1 + (f : Int)), .bool false] rfl rfl ?a2 ?b2 ?c2 ?d2 ?e2 ?_)
          | fail)
        case a2 => exact new_cells _ 142 #[.int .i64 (n : Int), .int .i64 ((n : Int) + 1 + (f : Int)), .bool false] _ (by first | rfl | simp)
        case b2 => intro u hu; simp at hu; rcases hu with rfl | rfl | rfl <;> rfl
        case c2 => unfold maxLen; omega
        case d2 => omega
        case e2 => simp; omega
        intro v2 w2 ho2 hgrow _
        have hlt2 := ho1.lt
        have Hg2 := hid (gb_grow (gb_alloc Hg1.out (.cells #[.int .i64 (n : Int), .int .i64 ((n : Int) + 1 + (f : Int)), .bool false] 142)) hgrow (fun j hj => (hlt2 j hj).1))
        have hz2 := Hg2.out.size
        have Ho2 := hid ho2
        clear hgrow hlt2 ho1 ho2 Hg1 XB1 y2
        go_wp2_with fail
        go_roundw
        case rel =>
          refine ⟨n + 1, by omega, by go_num, Hg2.out, ?_⟩
          rw [hw.out, wysCells_snoc, wysCells_snoc]
          have := Ho2.out
          simp only [List.length_append, List.length_cons, List.length_nil]
          have ec : ∀ a : Nat, ((n + 1 + a : Nat) : Int) = (n : Int) + 1 + (a : Int) := fun a => by omega
          simp only [wyCells, ec, List.append_assoc, List.cons_append, List.nil_append]
          exact this
        case measure => simp [intOf]; omega
      · have ht' : Sc.isTest op = false := by simpa using ht
        rw [ht'] at hT
        by_cases h10 : op = 10
        · subst h10
          have hw : Hid (waysP L (n + 1) = waysP L n ++ [⟨n, n + 1 + k, false⟩]) := by
            unfold Hid; rw [hsn.out, hw0.out, if_neg ht, if_pos rfl]
          clear hsn hw0 ht ht' hti
          go_wp2_with fail
          refine (hT.out _).mono ?_
          rintro e w9 ⟨rfl, rfl⟩
          clear hT
          go_wp2_with (first
            | (at_builtin; refine wpList_append_own _ rfl (.tmp 46) (.tmp 54) 109 rfl w.heap.size 142 iW zWy 3 24 uWy iW_eq.out iW_z iW_s iW_b rfl (by decide) u3 ((waysP L n).length) (wysCells (waysP L n)) rfl (ho0.alloc _) ⟨wr.heap.size + 1, 0, none⟩ 1 1 [.int .i64 (n : Int), .int .i64 ((n : Int) + 1 + (k : Int)), .bool false] rfl rfl ?a3 ?b3 ?c3 ?d3 ?e3 ?_)
            | fail)
          case a3 => exact new_cells _ 142 #[.int .i64 (n : Int), .int .i64 ((n : Int) + 1 + (k : Int)), .bool false] _ (by first | rfl | simp)
          case b3 => intro u hu; simp at hu; rcases hu with rfl | rfl | rfl <;> rfl
          case c3 => unfold maxLen; omega
          case d3 => omega
          case e3 => simp; omega
          intro v3 w3 ho3 hgrow _
          have hlt3 := ho0.lt
          have Hg3 := hid (gb_grow (gb_alloc Hg0.out (.cells #[.int .i64 (n : Int), .int .i64 ((n : Int) + 1 + (k : Int)), .bool false] 142)) hgrow (fun j hj => (hlt3 j hj).1))
          have hz3 := Hg3.out.size
          have Ho2 := hid ho3
          clear hgrow hlt3 ho0 ho3 Hg0 XB
          go_wp2_with fail
          go_roundw
          case rel =>
            refine ⟨n + 1, by omega, by go_num, Hg3.out, ?_⟩
            rw [hw.out, wysCells_snoc]
            have := Ho2.out
            simp only [List.length_append, List.length_cons, List.length_nil]
            have ec : ∀ a : Nat, ((n + 1 + a : Nat) : Int) = (n : Int) + 1 + (a : Int) := fun a => by omega
            simp only [wyCells, ec, List.append_assoc, List.cons_append, List.nil_append]
            exact this
          case measure => simp [intOf]; omega
        · have e10 : (op == 10) = false := by simp [h10]
          by_cases h15 : op = 15
          · subst h15
            have hw : Hid (waysP L (n + 1) = waysP L n) := by
              unfold Hid; rw [hsn.out, hw0.out, if_neg ht, if_neg h10, if_pos (Or.inl rfl)]; simp
            clear hsn hw0 ht ht' hti h10
            have Ho2 := hid ho0
            clear ho0
            go_wp2_with fail
            refine (hT.out _).mono ?_
            rintro e w9 ⟨rfl, rfl⟩
            clear hT
            go_wp2_with fail
            go_roundw
            case rel => exact ⟨n + 1, by omega, by go_num, Hg0.out, by rw [hw.out]; exact Ho2.out⟩
            case measure => simp [intOf]; omega
          · have e15 : (op != 15) = true := by simp [h15]
            by_cases h16 : op = 16
            · subst h16
              have hw : Hid (waysP L (n + 1) = waysP L n) := by
                unfold Hid; rw [hsn.out, hw0.out, if_neg ht, if_neg h10, if_pos (Or.inr rfl)]; simp
              clear hsn hw0 ht ht' hti h10 h15
              have Ho2 := hid ho0
              clear ho0
              go_wp2_with fail
              refine (hT.out _).mono ?_
              rintro e w9 ⟨rfl, rfl⟩
              clear hT
              go_wp2_with fail
              go_roundw
              case rel => exact ⟨n + 1, by omega, by go_num, Hg0.out, by rw [hw.out]; exact Ho2.out⟩
              case measure => simp [intOf]; omega
            · have e16 : (op != 16) = true := by simp [h16]
              have hw : Hid (waysP L (n + 1) = waysP L n ++ [⟨n, n + 1, false⟩]) := by
                unfold Hid; rw [hsn.out, hw0.out, if_neg ht, if_neg h10, if_neg (by simp [h15, h16])]
              clear hsn hw0 ht ht' hti h10 h15 h16
              go_wp2_with fail
              refine (hT.out _).mono ?_
              rintro e w9 ⟨rfl, rfl⟩
              clear hT
              go_wp2_with (first
                | (at_builtin; refine wpList_append_own _ rfl (.tmp 65) (.tmp 70) 109 rfl w.heap.size 142 iW zWy 3 24 uWy iW_eq.out iW_z iW_s iW_b rfl (by decide) u3 ((waysP L n).length) (wysCells (waysP L n)) rfl (ho0.alloc _) ⟨wr.heap.size + 1, 0, none⟩ 1 1 [.int .i64 (n : Int), .int .i64 ((n : Int) + 1), .bool false] rfl rfl ?a4 ?b4 ?c4 ?d4 ?e4 ?_)
                | fail)
              case a4 => exact new_cells _ 142 #[.int .i64 (n : Int), .int .i64 ((n : Int) + 1), .bool false] _ (by first | rfl | simp)
              case b4 => intro u hu; simp at hu; rcases hu with rfl | rfl | rfl <;> rfl
              case c4 => unfold maxLen; omega
              case d4 => omega
              case e4 => simp; omega
              intro v4 w4 ho4 hgrow _
              have hlt4 := ho0.lt
              have Hg4 := hid (gb_grow (gb_alloc Hg0.out (.cells #[.int .i64 (n : Int), .int .i64 ((n : Int) + 1), .bool false] 142)) hgrow (fun j hj => (hlt4 j hj).1))
              have hz4 := Hg4.out.size
              have Ho2 := hid ho4
              clear hgrow hlt4 ho0 ho4 Hg0 XB
              go_wp2_with fail
              go_roundw
              case rel =>
                refine ⟨n + 1, by omega, by go_num, Hg4.out, ?_⟩
                rw [hw.out, wysCells_snoc]
                have := Ho2.out
                simp only [List.length_append, List.length_cons, List.length_nil]
                have ec : ((n + 1 : Nat) : Int) = (n : Int) + 1 := by omega
                simp only [wyCells, ec, List.append_assoc, List.cons_append, List.nil_append]
                exact this
              case measure => simp [intOf]; omega
    · have hkn : n = L.length := by omega
      subst hkn
      rw [waysP_all] at hown
      have Ho := hid hown
      clear hown hg
      go_wp2_with fail
      go_ret
      exact ⟨_, rfl, HG.out, Ho.out⟩
end Go.Proofs.YtpamlgdopmjooaaGreat
/- reached: the document's walk. -/
namespace Go.Proofs.YtpamlgdopmjooaaGreat
open Go.RowKit
set_option linter.unusedVariables false
set_option linter.unusedSimpArgs false

theorem iBo_ex : ∃ i, Tryz.prog.info? 4 = some i ∧ i.zero = some (.bool false) ∧ i.size = 1 ∧ i.bytes = 1 := info_ex (by kernel_rfl)
theorem uBo : Tryz.prog.underlying 111 = some (.slice 4) := by kernel_rfl
/-- which are reached -/
def ReachB (L : List Sc.In) (B : List Bool) : Prop := B.length = L.length ∧ ∀ i (h : i < B.length), B[i] = true ↔ Sc.Reach L i
/-- a way of a fine list leads onward, inside it -/
theorem ways_in {L : List Sc.In} (hF : Fine L) : ∀ n, n ≤ L.length → ∀ x ∈ waysP L n, x.src < x.dst ∧ x.dst < L.length ∧ x.src < n := by
  intro n
  induction n with
  | zero => intro _ x hx; simp [waysP, Sc.waysN] at hx
  | succ n ih =>
    intro hn x hx
    have hlt : n < L.length := by omega
    rw [waysP_succ L n hlt] at hx
    rcases List.mem_append.1 hx with hx | hx
    · have := ih (by omega) x hx; omega
    · have hgo := hF.go n hlt
      have hyes := hF.yes n hlt
      have hnext := hF.next n hlt
      have hti := isTest_iff L[n].op
      unfold Sc.waysOf at hx
      split at hx
      · next ht =>
        have := hyes ht
        simp at hx
        rcases hx with rfl | rfl <;> simp only <;> omega
      · split at hx
        · next h10 => have := hgo h10; simp at hx; subst hx; simp only; omega
        · split at hx
          · simp at hx
          · next h15 =>
            have := hnext (fun q => h15 (Or.inl q)) (fun q => h15 (Or.inr q))
            simp at hx; subst hx; simp only; omega
theorem owns_bool {w : World} {base g n cap : Nat} {B : List Bool} (hn : n = B.length) (h : w.ownsRow base 4 1 (.slice (some ⟨g, 0, none⟩) n cap) n (B.map Value.bool)) (i : Nat) (hi : i < B.length) : w.cell? ⟨g, i, none⟩ = some (.bool B[i]) := by
  rw [h.cellAt i (by omega)]
  simp [hi]
theorem owns_bset {w : World} {base g n cap : Nat} {B : List Bool} (h : w.ownsRow base 4 1 (.slice (some ⟨g, 0, none⟩) n cap) n (B.map Value.bool)) (i : Nat) : (w.setCell ⟨g, i, none⟩ (.bool true)).ownsRow base 4 1 (.slice (some ⟨g, 0, none⟩) n cap) n ((B.set i true).map Value.bool) := by
  have := (h.stored i (.bool true)).1
  rw [List.map_set]
  exact this
def falses (B : List Bool) : Nat := B.count false
theorem falses_set (B : List Bool) (i : Nat) (h : i < B.length) (hf : B[i] = false) : falses (B.set i true) + 1 = falses B := by
  unfold falses
  have hp : 0 < B.count false := by
    rw [List.count_pos_iff]; rw [← hf]; exact List.getElem_mem h
  rw [List.count_set]
  · simp [hf]; omega
  · exact h

/-- each way of the first j is closed -/
def ClosedTo (WL : List Sc.Wy) (B : List Bool) (j : Nat) : Prop := ∀ i (h : i < WL.length), i < j → B[WL[i].src]? = some true → B[WL[i].dst]? = some true
theorem reach_closed {L : List Sc.In} {B : List Bool} (hl : B.length = L.length) (h0 : B[0]? = some true) (hc : ClosedTo (Sc.ways L) B (Sc.ways L).length) (hs : ∀ i, B[i]? = some true → Sc.Reach L i) : ReachB L B := by
  refine ⟨hl, fun i hi => ⟨fun h => hs i (by rw [List.getElem?_eq_getElem hi, h]), fun h => ?_⟩⟩
  have : ∀ i, Sc.Reach L i → B[i]? = some true := by
    intro i hr
    refine hr (fun i => B[i]? = some true) h0 (fun w hw ih => ?_)
    obtain ⟨j, hj, rfl⟩ := List.getElem_of_mem hw
    exact hc j hj hj ih
  have := this i h
  rw [List.getElem?_eq_getElem hi] at this
  exact Option.some.inj this

set_option maxRecDepth 100000 in
set_option maxHeartbeats 8000000 in
theorem rReached_any (w : World) (sa : Option Addr) (sc : Nat) (L : List Sc.In) (hF : Fine L) (hpos : 0 < L.length) (wb : Nat) (wa : Option Addr) (wc : Nat) (hW : w.ownsRow wb 142 3 (.slice wa (Sc.ways L).length wc) (Sc.ways L).length (wysCells (Sc.ways L))) :
    Calls Tryz.prog 91 #[.slice sa L.length sc, .slice wa (Sc.ways L).length wc] w fun e w' => ∃ B, e = .returned (.slice (some ⟨w.heap.size, 0, none⟩) L.length L.length) ∧ w.grownBy w' none ∧ ReachB L B ∧ w'.ownsRow w.heap.size 4 1 (.slice (some ⟨w.heap.size, 0, none⟩) L.length L.length) L.length (B.map Value.bool) := by
  obtain ⟨iB, iB_e, iB_z, iB_s, iB_b⟩ := iBo_ex
  have iB_eq := hid iB_e
  have hin : ∀ x ∈ Sc.ways L, x.src < x.dst ∧ x.dst < L.length ∧ x.src < L.length := by
    have := ways_in hF L.length (Nat.le_refl _); rw [waysP_all] at this; exact this
  have hwl : (Sc.ways L).length ≤ 2048 := by
    have := waysP_len L L.length (Nat.le_refl _); rw [waysP_all] at this; have := hF.len; omega
  have hle := hF.len
  have HW := hid hW
  have Hin := hid hin
  have HRd : Hid (∀ x ∈ Sc.ways L, Sc.Reach L x.src → Sc.Reach L x.dst) := fun x hx h => Sc.Reach.step hx h
  clear iB_e hF hW hin
  generalize hWl : Sc.ways L = WL at *
  go_enter Tryz.func91, Tryz.ntmps91
  go_wp2_with (first
    | (at_make; refine wpList_make_full _ rfl _ _ 111 rfl w.heap.size 4 iB (.bool false) 1 uBo iB_eq.out iB_z iB_s _ _ _ _ L.length rfl rfl (by first | rfl | omega) (by first | rfl | omega) (by rw [iB_b]; omega) (by unfold maxLen; omega) (Nat.le_refl _) ?_)
    | fail)
  intro w1 hown1 hgrow1
  have e1 : (madeCells #[Value.bool false] L.length).toList = (List.replicate L.length false).map Value.bool := by
    rw [toList_madeCells_one]; simp
  rw [e1] at hown1
  have c0 := owns_bool (by simp) hown1 0 (by simpa using hpos)
  have f0 := hown1.frozenAt 0
  simp at c0
  have O2 := hid (owns_bset hown1 0)
  have G2 := hid (gb_own hgrow1 (Nat.le_refl _) 0 (.bool true))
  clear hown1 hgrow1 e1
  have HE := hid hWl
  clear hWl
  go_wp2_with fail
  clear c0 f0
  generalize hw2 : w1.setCell ⟨w.heap.size, 0, none⟩ (.bool true) = w2 at *
  clear hw2
  go_loopg [6] (2 * L.length + 2) (fun gk a wr => ∃ (B : List Bool) (b : Bool), a = .bool b ∧ B.length = L.length ∧ wr.ownsRow w.heap.size 4 1 (.slice (some ⟨w.heap.size, 0, none⟩) L.length L.length) L.length (B.map Value.bool) ∧ w.grownBy wr none ∧ Hid (B[0]? = some true) ∧ Hid (∀ i, B[i]? = some true → Sc.Reach L i) ∧ Hid (b = false → ClosedTo WL B WL.length) ∧ Hid (2 * falses B + (cond b 1 0) ≤ gk))
  case atStart =>
    refine ⟨(List.replicate L.length false).set 0 true, true, rfl, by simp, O2.out, G2.out, ?_, ?_, fun h => (by cases h), ?_⟩
    · unfold Hid; rw [List.getElem?_set]; simp [hpos]
    · intro i hi
      by_cases q : 0 = i
      · subst q; exact Sc.Reach.zero
      · rw [List.getElem?_set_ne q, List.getElem?_replicate] at hi
        split at hi <;> cases hi
    · have := List.count_le_length (a := false) (l := (List.replicate L.length false).set 0 true)
      unfold Hid falses
      simp only [List.length_set, List.length_replicate, cond] at this ⊢
      omega
  case round =>
    obtain ⟨B, b, rfl, hlen, hown, hg, h0, hs, hc, hf⟩ := hrel
    have HO := hid hown
    have HG := hid hg
    clear hown hg
    cases b
    · have HC : Hid (ClosedTo WL B WL.length) := hc.out rfl
      clear hc
      go_wp2_with fail
      go_ret
      have hc2 := HC.out
      rw [← HE.out] at hc2
      have hrb := reach_closed hlen h0.out hc2 hs.out
      first | exact ⟨rfl, HG.out, B, hrb, HO.out⟩ | exact ⟨B, rfl, HG.out, hrb, HO.out⟩
    · clear hc
      go_wp2_with fail
      go_loopw [6, 7] (fun a k wr2 => ∃ (j : Nat) (B2 : List Bool) (c : Bool), j ≤ WL.length ∧ k = .int .i64 j ∧ a = .bool c ∧ B2.length = L.length ∧ wr2.ownsRow w.heap.size 4 1 (.slice (some ⟨w.heap.size, 0, none⟩) L.length L.length) L.length (B2.map Value.bool) ∧ w.grownBy wr2 none ∧ Hid (B2[0]? = some true) ∧ Hid (∀ i, B2[i]? = some true → Sc.Reach L i) ∧
        Hid (c = false → B2 = B ∧ ClosedTo WL B j) ∧ Hid (c = true → falses B2 < falses B)) (fun _ k _ => WL.length - (intOf k).toNat)
      case atStart => exact ⟨0, B, false, Nat.zero_le _, rfl, rfl, hlen, HO.out, HG.out, h0, hs, fun _ => ⟨rfl, fun i _ h => by omega⟩, fun h => by cases h⟩
      case round =>
        obtain ⟨j, B2, c, hj, rfl, rfl, hlen2, hown2, hg2, h02, hs2, hc2, hf2⟩ := hrel
        have HO2 := hid hown2
        have HG2 := hid hg2
        have hzl := hg2.size
        by_cases hlt : j < WL.length
        · obtain ⟨g, rfl, hgb, hgl, hcell⟩ := owns_wy rfl (kept_none HW.out hg2) j hlt
          have hx := Hin.out WL[j] (List.getElem_mem hlt)
          have hrd := hid (HRd.out WL[j] (List.getElem_mem hlt))
          obtain ⟨X, hX⟩ : ∃ X, X = WL[j] := ⟨_, rfl⟩
          rw [← hX] at hcell hx hrd
          have HX := hid hX
          obtain ⟨sr, ds, ye⟩ := X
          have t0 := hcell 0 (by omega)
          have t1 := hcell 1 (by omega)
          simp [wyCells] at t0 t1
          simp only at hx
          have hsr : sr < B2.length := by omega
          have hds : ds < B2.length := by omega
          have c1 := owns_bool hlen2.symm hown2 sr hsr
          have c2 := owns_bool hlen2.symm hown2 ds hds
          have fz := hown2.frozenAt
          have q1 : (sr : Int) < (L.length : Int) := by omega
          have q2 : (ds : Int) < (L.length : Int) := by omega
          clear hcell hX hown2 hg2
          cases b1 : B2[sr]
          · rw [b1] at c1
            have hn : Hid (c = false → B2 = B ∧ ClosedTo WL B (j + 1)) := by
              intro hcf
              obtain ⟨rfl, hcl⟩ := hc2.out hcf
              refine ⟨rfl, fun i hi hij hb => ?_⟩
              by_cases q : i < j
              · exact hcl i hi q hb
              · have : i = j := by omega
                subst this
                rw [← HX.out] at hb
                simp only at hb
                rw [List.getElem?_eq_getElem hsr, b1] at hb
                cases hb
            clear hc2
            go_wp2_with fail
            go_roundw
            case rel => exact ⟨j + 1, B2, c, by omega, by go_num, rfl, hlen2, HO2.out, HG2.out, h02, hs2, hn, hf2⟩
            case measure => simp [intOf]; omega
          · rw [b1] at c1
            cases b2 : B2[ds]
            · rw [b2] at c2
              have hfs := falses_set B2 ds hds b2
              have hle2 : Hid (falses B2 ≤ falses B) := by
                cases c
                · have := (hc2.out rfl).1; rw [this]; exact Nat.le_refl _
                · exact Nat.le_of_lt (hf2.out rfl)
              have Hfs := hid hfs
              have h03 : Hid ((B2.set ds true)[0]? = some true) := by
                unfold Hid
                rw [List.getElem?_set]
                split
                · simp <;> omega
                · exact h02.out
              have hs3 : Hid (∀ i, (B2.set ds true)[i]? = some true → Sc.Reach L i) := by
                intro i hi
                by_cases q : ds = i
                · subst q
                  exact hrd.out (hs2.out sr (by rw [List.getElem?_eq_getElem hsr, b1]))
                · rw [List.getElem?_set_ne q] at hi
                  exact hs2.out i hi
              have O3 := hid (owns_bset HO2.out ds)
              clear hfs hc2 hf2
              go_wp2_with fail
              go_roundw
              case rel => exact ⟨j + 1, B2.set ds true, true, by omega, by go_num, rfl, by simp [hlen2], O3.out, gb_own HG2.out (Nat.le_refl _) _ _, h03, hs3, (fun h => by cases h), (fun _ => by have := Hfs.out; have := hle2.out; omega)⟩
              case measure => simp [intOf]; omega
            · rw [b2] at c2
              have hn : Hid (c = false → B2 = B ∧ ClosedTo WL B (j + 1)) := by
                intro hcf
                obtain ⟨rfl, hcl⟩ := hc2.out hcf
                refine ⟨rfl, fun i hi hij hb => ?_⟩
                by_cases q : i < j
                · exact hcl i hi q hb
                · have : i = j := by omega
                  subst this
                  rw [← HX.out]
                  simp only
                  rw [List.getElem?_eq_getElem hds, b2]
              clear hc2
              go_wp2_with fail
              go_roundw
              case rel => exact ⟨j + 1, B2, c, by omega, by go_num, rfl, hlen2, HO2.out, HG2.out, h02, hs2, hn, hf2⟩
              case measure => simp [intOf]; omega
        · have hjn : j = WL.length := by omega
          subst hjn
          clear hown2 hg2
          go_wp2_with fail
          go_roundg (gk - 1)
          case measure => have := hf.out; simp only [cond] at this; omega
          case rel =>
            refine ⟨B2, c, rfl, hlen2, HO2.out, HG2.out, h02, hs2, ?_, ?_⟩
            · intro hcf
              obtain ⟨rfl, hcl⟩ := hc2.out hcf
              exact hcl
            · have h1 := hf.out
              simp only [cond] at h1
              unfold Hid
              cases c
              · have := (hc2.out rfl).1
                subst this
                simp only [cond]; omega
              · have := hf2.out rfl
                simp only [cond]; omega
end Go.Proofs.YtpamlgdopmjooaaGreat
