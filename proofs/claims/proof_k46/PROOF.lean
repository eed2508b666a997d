import PyProof.Rows.All
import Wide.All
import OpenK.AllK
import Wide.FinOn
import KE.KExcTry
import KE.KExcIs
import KE.KExcStr
import KE.KExcSuper
import Open.Tops
import HandS.ForMost
import HandS.ForExc
import HandS.Zip
import HandS.IsInst
import HandS.Flow
import HandS.TupAny
import HandS.Wide
import HandS.Star
import HandS.Walk
import HandS.FStr
import HandS.StrMore
import HandS.DictComp
import KE.GoesMore
import KE.KTurns
import KE.GoesEnum
import HandS.FStrTup
import HandS.Exc
import HandS.ExcSuper
import HandS.ExcInit
import HandS.WordsExc
import HandS.TryMany
import HandS.TryOnly
import HandS.ExcOwn
import HandS.ExcCtx
import HandS.Defaults
import HandS.MakeKw
import HandS.MakeKwOnly
import HandS.ExcIs
import HandS.Property
import KE.KCallOwn
import HandS.Style
import HandS.HotCalls
import PySem.Challenge.RW_unknowntakes_k46_trees_followed
set_option Elab.async false
set_option linter.all false
set_option rowWalk.seconds 0
section
open PySem PySem.W PyProof.Rows
set_option maxRecDepth 100000
set_option maxHeartbeats 0
open_top PySem.K46.hd for PySem.Challenge.rw_unknowntakes_k46_trees_followed
end
section
open PySem PySem.W PyProof.Rows
theorem k46_off : True := by
  w_top off
  trivial
end
section
set_option autoImplicit false
namespace K01
abbrev Cell := Option Int
abbrev Mat := List (List Cell)
abbrev Edge := Nat × Nat × Int
def rowAt (B : Mat) (x : Nat) : List Cell := (B[x]?).getD []
def cell (B : Mat) (x y : Nat) : Cell := ((rowAt B x)[y]?).getD none
def LeC (c : Cell) (k : Int) : Prop := ∃ d, c = some d ∧ d ≤ k
def Le (B : Mat) (x y : Nat) (k : Int) : Prop := LeC (cell B x y) k
def Sized (n : Nat) (B : Mat) : Prop := B.length = n ∧ ∀ r ∈ B, r.length = n
theorem LeC.mono {c : Cell} {k l : Int} (h : LeC c k) (e : k ≤ l) : LeC c l := by
  obtain ⟨d, h1, h2⟩ := h
  exact ⟨d, h1, by omega⟩
theorem Le.mono {B : Mat} {x y : Nat} {k l : Int} (h : Le B x y k) (e : k ≤ l) : Le B x y l := LeC.mono h e
theorem LeC.some {d k : Int} (h : d ≤ k) : LeC (some d) k := ⟨d, rfl, h⟩
theorem rowAt_of {B : Mat} {x : Nat} {r : List Cell} (h : B[x]? = some r) : rowAt B x = r := by
  unfold rowAt; rw [h]; rfl
theorem Sized.row {n : Nat} {B : Mat} (h : Sized n B) {x : Nat} (hx : x < n) : ∃ r, B[x]? = some r ∧ r.length = n := by
  have h1 : x < B.length := by rw [h.1]; exact hx
  exact ⟨B[x], List.getElem?_eq_getElem h1, h.2 _ (List.getElem_mem h1)⟩
theorem Sized.rowAt {n : Nat} {B : Mat} (h : Sized n B) {x : Nat} (hx : x < n) : (K01.rowAt B x).length = n := by
  obtain ⟨r, h1, h2⟩ := h.row hx
  rw [rowAt_of h1]; exact h2

/-! walks -/
inductive Walk (E : List Edge) : Nat → Nat → Int → Prop
  | nil (x : Nat) : Walk E x x 0
  | cons {x u y : Nat} {c d : Int} : (x, u, c) ∈ E → Walk E u y d → Walk E x y (c + d)
theorem Walk.mono {E F : List Edge} (h : ∀ e ∈ E, e ∈ F) {x y : Nat} {c : Int} (w : Walk E x y c) : Walk F x y c := by
  induction w with
  | nil x => exact .nil x
  | cons e _ ih => exact .cons (h _ e) ih
theorem Walk.app {E : List Edge} {x y z : Nat} {c d : Int} (w : Walk E x y c) (v : Walk E y z d) : Walk E x z (c + d) := by
  induction w with
  | nil x => rw [Int.zero_add]; exact v
  | cons e _ ih => rw [Int.add_assoc]; exact .cons e (ih v)
def InR (n : Nat) (E : List Edge) : Prop := ∀ e ∈ E, e.1 < n ∧ e.2.1 < n
structure Good (n : Nat) (E : List Edge) (B : Mat) : Prop where
  sized : Sized n B
  tri : ∀ {x y z : Nat} {k l : Int}, x < n → y < n → z < n → Le B x z k → Le B z y l → Le B x y (k + l)
  diag0 : ∀ {x : Nat}, x < n → Le B x x 0
  diag : ∀ {x : Nat} {k : Int}, x < n → Le B x x k → 0 ≤ k
  edge : ∀ {x y : Nat} {c : Int}, (x, y, c) ∈ E → Le B x y c
  walk : ∀ {x y : Nat} {k : Int}, x < n → y < n → Le B x y k → ∃ c, c ≤ k ∧ Walk E x y c
theorem Good.leW {n : Nat} {E : List Edge} {B : Mat} (G : Good n E B) (R : InR n E) {x y : Nat} {c : Int} (w : Walk E x y c) (hx : x < n) (hy : y < n) : Le B x y c := by
  induction w with
  | nil x => exact G.diag0 hx
  | cons e w ih =>
    have hu := (R _ e).2
    exact G.tri hx hy hu (G.edge e) (ih hu hy)
/-- the value of a good matrix' cell is the sum of a walk, and none is less -/
theorem Good.tightW {n : Nat} {E : List Edge} {B : Mat} (G : Good n E B) (R : InR n E) {x y : Nat} {d : Int} (hx : x < n) (hy : y < n) (h : cell B x y = some d) : Walk E x y d := by
  obtain ⟨c, h1, h2⟩ := G.walk hx hy ⟨d, h, Int.le_refl _⟩
  obtain ⟨d', h3, h4⟩ := G.leW R h2 hx hy
  rw [h] at h3
  cases h3
  have : c = d := by omega
  rw [← this]; exact h2
/-- one step out of a set of nodes, along a straight edge -/
theorem Good.out {n : Nat} {E : List Edge} {B : Mat} (G : Good n E B) (R : InR n E) (S : Nat → Prop) {x goal : Nat} {c : Int} (w : Walk E x goal c) (hx : x < n) (hg : goal < n)
    (hc : cell B x goal = some c) (hS : S x) (hN : ¬ S goal) : ∃ u v k d1 d2, (u, v, k) ∈ E ∧ S u ∧ ¬ S v ∧ cell B u goal = some d1 ∧ cell B v goal = some d2 ∧ d1 = k + d2 := by
  induction w with
  | nil x => exact absurd hS hN
  | @cons x u y c d e w ih =>
    have hu := (R _ e).2
    obtain ⟨d2, h1, h2⟩ := G.leW R w hu hg
    obtain ⟨d3, h3, h4⟩ := G.tri hx hg hu (G.edge e) ⟨d2, h1, Int.le_refl _⟩
    rw [hc] at h3
    cases h3
    have : d = d2 := by omega
    subst this
    by_cases s : S u
    · exact ih hu hg h1 s hN
    · exact ⟨x, u, c, _, d, e, hS, s, hc, h1, rfl⟩

/-! the matrix without facts -/
def freeM (m : Nat) : Mat := List.replicate (m + 1) (some 0) :: (List.range m).map fun i => (List.range (m + 1)).map fun s => if s = i + 1 then some 0 else none
def zeroE (m : Nat) : List Edge := (List.range m).map fun i => (0, i + 1, 0)
theorem free_sized (m : Nat) : Sized (m + 1) (freeM m) := by
  refine ⟨by simp [freeM], fun r hr => ?_⟩
  rcases List.mem_cons.mp hr with e | h
  · rw [e]; simp
  · obtain ⟨i, _, rfl⟩ := List.mem_map.mp h
    simp
theorem free_cell {m x y : Nat} (hx : x < m + 1) (hy : y < m + 1) : cell (freeM m) x y = if x = 0 ∨ x = y then some 0 else none := by
  unfold cell rowAt freeM
  cases x with
  | zero => simp [List.getElem?_replicate, hy]
  | succ i =>
    have hi : i < m := by omega
    simp only [List.getElem?_cons_succ, List.getElem?_map, List.getElem?_range hi, Option.map_some, Option.getD_some, List.getElem?_range hy]
    by_cases e : y = i + 1
    · simp [e]
    · have : ¬ i + 1 = y := fun q => e q.symm
      simp [e, this]
theorem free_le {m x y : Nat} {k : Int} (hx : x < m + 1) (hy : y < m + 1) : Le (freeM m) x y k ↔ (x = 0 ∨ x = y) ∧ 0 ≤ k := by
  unfold Le LeC
  rw [free_cell hx hy]
  constructor
  · rintro ⟨d, h1, h2⟩
    split at h1
    · rename_i e; cases h1; exact ⟨e, h2⟩
    · cases h1
  · rintro ⟨e, h⟩
    rw [if_pos e]; exact ⟨0, rfl, h⟩
theorem zero_mem {m x y : Nat} {c : Int} (h : (x, y, c) ∈ zeroE m) : x = 0 ∧ c = 0 ∧ 0 < y ∧ y < m + 1 := by
  obtain ⟨i, h1, h2⟩ := List.mem_map.mp h
  have := List.mem_range.mp h1
  simp only [Prod.mk.injEq] at h2
  obtain ⟨a, b, d⟩ := h2
  omega
theorem free_good (m : Nat) : Good (m + 1) (zeroE m) (freeM m) where
  sized := free_sized m
  tri := by
    intro x y z k l hx hy hz h1 h2
    rw [free_le hx hz] at h1
    rw [free_le hz hy] at h2
    rw [free_le hx hy]
    omega
  diag0 := by intro x hx; rw [free_le hx hx]; omega
  diag := by intro x k hx h; rw [free_le hx hx] at h; exact h.2
  edge := by
    intro x y c h
    obtain ⟨a, b, c1, d⟩ := zero_mem h
    rw [free_le (by omega) d]; omega
  walk := by
    intro x y k hx hy h
    rw [free_le hx hy] at h
    refine ⟨0, h.2, ?_⟩
    by_cases e : x = y
    · rw [e]; exact .nil y
    · have hx0 : x = 0 := by omega
      subst hx0
      have : (0, y, (0 : Int)) ∈ zeroE m := List.mem_map.mpr ⟨y - 1, List.mem_range.mpr (by omega), by congr 1; congr 1; omega⟩
      have w := Walk.cons this (.nil y)
      rwa [Int.add_zero] at w

/-! one fact more -/
def lesser1 (s : Int) (old more : Cell) : Cell := match more with
  | none => old
  | some m => match old with
    | none => some (s + m)
    | some o => if o ≤ s + m then some o else some (s + m)
theorem lesser1_le (s : Int) (old more : Cell) (k : Int) : LeC (lesser1 s old more) k ↔ LeC old k ∨ ∃ b, more = some b ∧ s + b ≤ k := by
  unfold LeC
  cases more with
  | none => simp [lesser1]
  | some m =>
    cases old with
    | none => simp [lesser1]
    | some o =>
      simp only [lesser1, Option.some.injEq, exists_eq_left']
      split
      · rename_i h; simp only [Option.some.injEq, exists_eq_left']; omega
      · rename_i h; simp only [Option.some.injEq, exists_eq_left']; omega
def lesserRow (row : List Cell) (s : Int) (onward : List Cell) : List Cell := List.zipWith (lesser1 s) row onward
/-- is this row left as it is? -/
def skips (row : List Cell) (x y : Nat) (c : Int) : Bool := match (row[x]?).getD none with
  | none => true
  | some a => match (row[y]?).getD none with
    | none => false
    | some b => decide (b ≤ a + c)
def tightRow (B : Mat) (x y : Nat) (c : Int) (row : List Cell) : List Cell := if skips row x y c then row else lesserRow row (((row[x]?).getD none).getD 0 + c) (rowAt B y)
def tightM (B : Mat) (x y : Nat) (c : Int) : Mat := B.map (tightRow B x y c)
theorem tight_sized {n : Nat} {B : Mat} (h : Sized n B) {x y : Nat} (hy : y < n) (c : Int) : Sized n (tightM B x y c) := by
  refine ⟨by unfold tightM; rw [List.length_map]; exact h.1, fun r hr => ?_⟩
  obtain ⟨r0, h0, rfl⟩ := List.mem_map.mp hr
  unfold tightRow
  split
  · exact h.2 _ h0
  · unfold lesserRow
    rw [List.length_zipWith, h.2 _ h0, h.rowAt hy, Nat.min_self]
theorem tight_le {n : Nat} {E : List Edge} {B : Mat} (G : Good n E B) {x y r t : Nat} {c k : Int} (hx : x < n) (hy : y < n) (hr : r < n) (ht : t < n) :
    Le (tightM B x y c) r t k ↔ Le B r t k ∨ ∃ a b, Le B r x a ∧ Le B y t b ∧ a + c + b ≤ k := by
  obtain ⟨row, e1, l1⟩ := G.sized.row hr
  obtain ⟨ry, e2, l2⟩ := G.sized.row hy
  have f1 : rowAt B r = row := rowAt_of e1
  have f2 : rowAt B y = ry := rowAt_of e2
  have g : rowAt (tightM B x y c) r = tightRow B x y c row := by
    unfold rowAt tightM
    rw [List.getElem?_map, e1]; rfl
  have cx : cell B r x = (row[x]?).getD none := by unfold cell; rw [f1]
  have cy : cell B r y = (row[y]?).getD none := by unfold cell; rw [f1]
  have ct : cell B r t = (row[t]?).getD none := by unfold cell; rw [f1]
  have cb : cell B y t = (ry[t]?).getD none := by unfold cell; rw [f2]
  show LeC (((rowAt (tightM B x y c) r)[t]?).getD none) k ↔ _
  rw [g]
  unfold tightRow
  by_cases s : skips row x y c = true
  · rw [if_pos s]
    refine ⟨fun h => .inl (by unfold Le; rw [ct]; exact h), fun h => ?_⟩
    rcases h with h | ⟨a, b, h1, h2, h3⟩
    · unfold Le at h; rw [ct] at h; exact h
    · obtain ⟨a0, q1, q2⟩ := h1
      rw [cx] at q1
      unfold skips at s
      rw [q1] at s
      simp only at s
      cases q : (row[y]?).getD none with
      | none => rw [q] at s; simp at s
      | some b0 =>
        rw [q] at s
        have s' : b0 ≤ a0 + c := by simpa using s
        have t1 : Le B r y b0 := by unfold Le; rw [cy, q]; exact .some (Int.le_refl _)
        have t2 := G.tri hr ht hy t1 h2
        unfold Le at t2
        rw [ct] at t2
        exact t2.mono (by omega)
  · rw [if_neg s]
    cases q : (row[x]?).getD none with
    | none => exact absurd (by unfold skips; rw [q]) s
    | some a0 =>
      have z : ((lesserRow row ((Option.getD (some a0) 0) + c) (rowAt B y))[t]?).getD none = lesser1 (a0 + c) (cell B r t) (cell B y t) := by
        unfold lesserRow
        rw [f2, List.getElem?_zipWith, ct, cb]
        have p1 : t < row.length := by omega
        have p2 : t < ry.length := by omega
        rw [List.getElem?_eq_getElem p1, List.getElem?_eq_getElem p2]
        rfl
      rw [z, lesser1_le]
      constructor
      · rintro (h | ⟨b, h1, h2⟩)
        · exact .inl h
        · exact .inr ⟨a0, b, by unfold Le; rw [cx, q]; exact .some (Int.le_refl _), by unfold Le; rw [h1]; exact .some (Int.le_refl _), by omega⟩
      · rintro (h | ⟨a, b, h1, h2, h3⟩)
        · exact .inl h
        · obtain ⟨a1, p1, p2⟩ := h1
          obtain ⟨b1, p3, p4⟩ := h2
          rw [cx, q] at p1
          cases p1
          exact .inr ⟨b1, p3, by omega⟩
/-- a fact that does not bar: the matrix with it is good again -/
theorem tight_good {n : Nat} {E : List Edge} {B : Mat} (G : Good n E B) (R : InR n E) {x y : Nat} {c : Int} (hx : x < n) (hy : y < n) (hb : ∀ k, Le B y x k → 0 ≤ k + c) : Good n (E ++ [(x, y, c)]) (tightM B x y c) where
  sized := tight_sized G.sized hy c
  tri := by
    intro r t z k l hr ht hz h1 h2
    rw [tight_le G hx hy hr hz] at h1
    rw [tight_le G hx hy hz ht] at h2
    rw [tight_le G hx hy hr ht]
    rcases h1 with h1 | ⟨a, b, h1, h1', e1⟩
    · rcases h2 with h2 | ⟨a', b', h2, h2', e2⟩
      · exact .inl (G.tri hr ht hz h1 h2)
      · exact .inr ⟨k + a', b', G.tri hr hx hz h1 h2, h2', by omega⟩
    · rcases h2 with h2 | ⟨a', b', h2, h2', e2⟩
      · exact .inr ⟨a, b + l, h1, G.tri hy ht hz h1' h2, by omega⟩
      · have := hb _ (G.tri hy hx hz h1' h2)
        exact .inr ⟨a, b', h1, h2', by omega⟩
  diag0 := by
    intro r hr
    rw [tight_le G hx hy hr hr]
    exact .inl (G.diag0 hr)
  diag := by
    intro r k hr h
    rw [tight_le G hx hy hr hr] at h
    rcases h with h | ⟨a, b, h1, h2, e⟩
    · exact G.diag hr h
    · have := hb _ (G.tri hy hx hr h2 h1)
      omega
  edge := by
    intro r t k h
    rcases List.mem_append.mp h with h | h
    · have := R _ h
      rw [tight_le G hx hy this.1 this.2]
      exact .inl (G.edge h)
    · have h' := List.mem_singleton.mp h
      cases h'
      rw [tight_le G hx hy hx hy]
      exact .inr ⟨0, 0, G.diag0 hx, G.diag0 hy, by omega⟩
  walk := by
    intro r t k hr ht h
    have mono : ∀ e ∈ E, e ∈ E ++ [(x, y, c)] := fun e he => List.mem_append_left _ he
    rw [tight_le G hx hy hr ht] at h
    rcases h with h | ⟨a, b, h1, h2, e⟩
    · obtain ⟨d, q1, q2⟩ := G.walk hr ht h
      exact ⟨d, q1, q2.mono mono⟩
    · obtain ⟨d1, q1, q2⟩ := G.walk hr hx h1
      obtain ⟨d2, q3, q4⟩ := G.walk hy ht h2
      have w := (q2.mono mono).app (Walk.cons (List.mem_append_right E (List.mem_singleton.mpr rfl)) (q4.mono mono))
      exact ⟨_, by omega, w⟩
/-- a fact that is kept already -/
theorem kept_good {n : Nat} {E : List Edge} {B : Mat} (G : Good n E B) {x y : Nat} {c : Int} (h : Le B x y c) : Good n (E ++ [(x, y, c)]) B where
  sized := G.sized
  tri := G.tri
  diag0 := G.diag0
  diag := G.diag
  edge := by
    intro r t k q
    rcases List.mem_append.mp q with q | q
    · exact G.edge q
    · have h' := List.mem_singleton.mp q
      cases h'
      exact h
  walk := by
    intro r t k hr ht q
    obtain ⟨d, q1, q2⟩ := G.walk hr ht q
    exact ⟨d, q1, q2.mono fun e he => List.mem_append_left _ he⟩
theorem Good.perm {n : Nat} {E F : List Edge} {B : Mat} (G : Good n E B) (h : ∀ e, e ∈ E ↔ e ∈ F) : Good n F B where
  sized := G.sized
  tri := G.tri
  diag0 := G.diag0
  diag := G.diag
  edge := fun q => G.edge ((h _).mpr q)
  walk := by
    intro r t k hr ht q
    obtain ⟨d, q1, q2⟩ := G.walk hr ht q
    exact ⟨d, q1, q2.mono fun e he => (h e).mp he⟩
end K01
end
section
set_option autoImplicit false
namespace K01
/-! cells stored -/
def setC (R : Mat) (a b : Nat) (v : Cell) : Mat := R.set a ((rowAt R a).set b v)
theorem setC_sized {n : Nat} {R : Mat} (h : Sized n R) {a : Nat} (ha : a < n) (b : Nat) (v : Cell) : Sized n (setC R a b v) := by
  refine ⟨by unfold setC; rw [List.length_set]; exact h.1, fun r hr => ?_⟩
  rcases List.mem_or_eq_of_mem_set hr with h1 | h1
  · exact h.2 _ h1
  · rw [h1, List.length_set]; exact h.rowAt ha
theorem setC_cell {n : Nat} {R : Mat} (h : Sized n R) {a b x y : Nat} {v : Cell} (ha : a < n) (hb : b < n) (hx : x < n) (hy : y < n) : cell (setC R a b v) x y = if x = a ∧ y = b then v else cell R x y := by
  have h1 : a < R.length := by rw [h.1]; exact ha
  unfold cell
  by_cases e : x = a
  · subst e
    have : rowAt (setC R x b v) x = (rowAt R x).set b v := by
      unfold setC
      exact rowAt_of (List.getElem?_set_self h1)
    rw [this]
    by_cases e2 : y = b
    · subst e2
      rw [if_pos ⟨rfl, rfl⟩, List.getElem?_set_self (by rw [h.rowAt hx]; exact hy)]
      rfl
    · rw [if_neg (fun q => e2 q.2), List.getElem?_set_ne (fun q => e2 q.symm)]
  · have : rowAt (setC R a b v) x = rowAt R x := by
      unfold setC
      show (((R.set a _)[x]?).getD []) = _
      rw [List.getElem?_set_ne (fun q => e q.symm)]
      rfl
    rw [this, if_neg (fun q => e q.1)]
/-- the cell takes the less of both -/
def lower (R : Mat) (a b : Nat) (s : Int) : Mat := match cell R a b with
  | none => setC R a b (some s)
  | some o => if s < o then setC R a b (some s) else R
theorem lower_sized {n : Nat} {R : Mat} (h : Sized n R) {a : Nat} (ha : a < n) (b : Nat) (s : Int) : Sized n (lower R a b s) := by
  unfold lower
  split
  · exact setC_sized h ha b _
  · split
    · exact setC_sized h ha b _
    · exact h
theorem lower_le {n : Nat} {R : Mat} (h : Sized n R) {a b x y : Nat} {s k : Int} (ha : a < n) (hb : b < n) (hx : x < n) (hy : y < n) :
    Le (lower R a b s) x y k ↔ Le R x y k ∨ (x = a ∧ y = b ∧ s ≤ k) := by
  unfold Le
  unfold lower
  cases q : cell R a b with
  | none =>
    show LeC (cell (setC R a b (some s)) x y) k ↔ _
    rw [setC_cell h ha hb hx hy]
    by_cases e : x = a ∧ y = b
    · rw [if_pos e, e.1, e.2, q]
      unfold LeC
      simp
    · rw [if_neg e]
      constructor
      · exact .inl
      · rintro (h | h)
        · exact h
        · exact absurd ⟨h.1, h.2.1⟩ e
  | some o =>
    show LeC (cell (if s < o then setC R a b (some s) else R) x y) k ↔ _
    by_cases l : s < o
    · rw [if_pos l, setC_cell h ha hb hx hy]
      by_cases e : x = a ∧ y = b
      · rw [if_pos e, e.1, e.2, q]
        unfold LeC
        simp
        omega
      · rw [if_neg e]
        constructor
        · exact .inl
        · rintro (h | h)
          · exact h
          · exact absurd ⟨h.1, h.2.1⟩ e
    · rw [if_neg l]
      constructor
      · exact .inl
      · rintro (h | h)
        · exact h
        · rw [h.1, h.2.1, q]
          exact .some (by omega)

/-! the first rows and the facts -/
def row0 (n : Nat) : Mat := (List.range n).map fun ax => (List.range n).map fun b => if ax = 0 ∨ ax = b then some 0 else none
theorem row0_sized (n : Nat) : Sized n (row0 n) := by
  refine ⟨by simp [row0], fun r hr => ?_⟩
  obtain ⟨i, _, rfl⟩ := List.mem_map.mp hr
  simp
theorem row0_le {n x y : Nat} {k : Int} (hx : x < n) (hy : y < n) : Le (row0 n) x y k ↔ (x = 0 ∨ x = y) ∧ 0 ≤ k := by
  have : cell (row0 n) x y = if x = 0 ∨ x = y then some 0 else none := by
    unfold cell rowAt row0
    simp [hx, hy]
  unfold Le LeC
  rw [this]
  constructor
  · rintro ⟨d, h1, h2⟩
    split at h1
    · rename_i e; cases h1; exact ⟨e, h2⟩
    · cases h1
  · rintro ⟨e, h⟩
    rw [if_pos e]; exact ⟨0, rfl, h⟩
def putE (R : Mat) (e : Edge) : Mat := lower R e.1 e.2.1 e.2.2
def start (n : Nat) (E : List Edge) : Mat := E.foldl putE (row0 n)

/-! one turn, and all -/
def relax (R : Mat) (m a b : Nat) : Mat := match cell R a m with
  | none => R
  | some p => match cell R m b with
    | none => R
    | some q => lower R a b (p + q)
theorem relax_sized {n : Nat} {R : Mat} (h : Sized n R) {a : Nat} (ha : a < n) (m b : Nat) : Sized n (relax R m a b) := by
  unfold relax
  split
  · exact h
  · split
    · exact h
    · exact lower_sized h ha b _
theorem relax_le {n : Nat} {R : Mat} (h : Sized n R) {m a b x y : Nat} {k : Int} (hm : m < n) (ha : a < n) (hb : b < n) (hx : x < n) (hy : y < n) :
    Le (relax R m a b) x y k ↔ Le R x y k ∨ (x = a ∧ y = b ∧ ∃ p q, Le R a m p ∧ Le R m b q ∧ p + q ≤ k) := by
  unfold relax
  cases e1 : cell R a m with
  | none =>
    show Le R x y k ↔ _
    constructor
    · exact .inl
    · rintro (h | ⟨_, _, p, q, ⟨d, h1, _⟩, _⟩)
      · exact h
      · rw [e1] at h1; cases h1
  | some p0 =>
    cases e2 : cell R m b with
    | none =>
      show Le R x y k ↔ _
      constructor
      · exact .inl
      · rintro (h | ⟨_, _, p, q, _, ⟨d, h1, _⟩, _⟩)
        · exact h
        · rw [e2] at h1; cases h1
    | some q0 =>
      show Le (lower R a b (p0 + q0)) x y k ↔ _
      rw [lower_le h ha hb hx hy]
      constructor
      · rintro (h | ⟨h1, h2, h3⟩)
        · exact .inl h
        · exact .inr ⟨h1, h2, p0, q0, by unfold Le; rw [e1]; exact .some (Int.le_refl _), by unfold Le; rw [e2]; exact .some (Int.le_refl _), h3⟩
      · rintro (h | ⟨h1, h2, p, q, ⟨d1, h3, h4⟩, ⟨d2, h5, h6⟩, h7⟩)
        · exact .inl h
        · rw [e1] at h3; cases h3
          rw [e2] at h5; cases h5
          exact .inr ⟨h1, h2, by omega⟩
def turnB (m a : Nat) (R : Mat) (b : Nat) : Mat := relax R m a b
def turnA (n m : Nat) (R : Mat) (a : Nat) : Mat := (List.range n).foldl (turnB m a) R
def turnM (n : Nat) (R : Mat) (m : Nat) : Mat := (List.range n).foldl (turnA n m) R
def fw (n : Nat) (R : Mat) : Mat := (List.range n).foldl (turnM n) R
def closedM (n : Nat) (E : List Edge) : Mat := fw n (start n E)
def below0 (R : Mat) (x : Nat) : Bool := match cell R x x with | none => false | some d => decide (d < 0)
def negs (n : Nat) (R : Mat) : List Nat := (List.range n).filter (below0 R)

theorem fold_ind {α β : Type} {f : β → α → β} (P : β → Prop) (l : List α) (b : β) (h0 : P b) (hs : ∀ b a, a ∈ l → P b → P (f b a)) : P (l.foldl f b) := by
  induction l generalizing b with
  | nil => exact h0
  | cons a l ih => exact ih (f b a) (hs b a (by simp) h0) fun b' a' ha' => hs b' a' (by simp [ha'])
/-- over range, with the count -/
theorem range_ind {β : Type} {f : β → Nat → β} (P : Nat → β → Prop) (n : Nat) (b : β) (h0 : P 0 b) (hs : ∀ i b, i < n → P i b → P (i + 1) (f b i)) : P n ((List.range n).foldl f b) := by
  have : ∀ k, k ≤ n → P k ((List.range k).foldl f b) := by
    intro k
    induction k with
    | zero => intro _; exact h0
    | succ k ih =>
      intro hk
      rw [List.range_succ, List.foldl_append]
      exact hs k _ (by omega) (ih (by omega))
  exact this n (Nat.le_refl n)

/-- what no step takes away: at or above a matrix with the triangle -/
def Above (n : Nat) (B R : Mat) : Prop := Sized n R ∧ ∀ {x y : Nat} {k : Int}, x < n → y < n → Le R x y k → Le B x y k
theorem relax_above {n : Nat} {E : List Edge} {B : Mat} (G : Good n E B) {R : Mat} (h : Above n B R) {m a b : Nat} (hm : m < n) (ha : a < n) (hb : b < n) : Above n B (relax R m a b) := by
  refine ⟨relax_sized h.1 ha m b, fun hx hy hk => ?_⟩
  rcases (relax_le h.1 hm ha hb hx hy).mp hk with q | ⟨rfl, rfl, p, q, h1, h2, h3⟩
  · exact h.2 hx hy q
  · exact (G.tri hx hy hm (h.2 hx hm h1) (h.2 hm hy h2)).mono h3
theorem start_above {n : Nat} {E : List Edge} {B : Mat} {Z : List Edge} (G : Good n Z B) (hZ : ∀ {y}, y < n → Le B 0 y 0) (R : InR n E) (hE : ∀ e ∈ E, e ∈ Z) : Above n B (start n E) := by
  unfold start
  refine fold_ind (Above n B) E _ ⟨row0_sized n, fun hx hy h => ?_⟩ fun M e he h => ?_
  · obtain ⟨q, h0⟩ := (row0_le hx hy).mp h
    rcases q with rfl | rfl
    · exact (hZ hy).mono h0
    · exact (G.diag0 hx).mono h0
  · have := R e he
    refine ⟨lower_sized h.1 this.1 _ _, fun {x y k} hx hy q0 => ?_⟩
    have q1 := (lower_le h.1 this.1 this.2 hx hy).mp q0
    clear q0
    rcases q1 with q | ⟨e1, e2, q⟩
    · exact h.2 hx hy q
    · rw [e1, e2]
      exact (G.edge (hE _ he)).mono q
theorem closed_above {n : Nat} {E : List Edge} {B : Mat} {Z : List Edge} (G : Good n Z B) (hZ : ∀ {y}, y < n → Le B 0 y 0) (R : InR n E) (hE : ∀ e ∈ E, e ∈ Z) : Above n B (closedM n E) := by
  unfold closedM fw
  refine fold_ind (Above n B) _ _ (start_above G hZ R hE) fun M m hm h => ?_
  refine fold_ind (Above n B) _ _ h fun M a ha h => ?_
  refine fold_ind (Above n B) _ _ h fun M b hb h => ?_
  exact relax_above G h (List.mem_range.mp hm) (List.mem_range.mp ha) (List.mem_range.mp hb)
/-- the law's closing tells no fault where a good matrix is -/
theorem negs_good {n : Nat} {E : List Edge} {B : Mat} {Z : List Edge} (G : Good n Z B) (hZ : ∀ {y}, y < n → Le B 0 y 0) (R : InR n E) (hE : ∀ e ∈ E, e ∈ Z) : negs n (closedM n E) = [] := by
  have A := closed_above G hZ R hE
  unfold negs
  rw [List.filter_eq_nil_iff]
  intro x hx
  have hx := List.mem_range.mp hx
  unfold below0
  cases q : cell (closedM n E) x x with
  | none => simp
  | some d =>
    have := G.diag hx (A.2 hx hx ⟨d, q, Int.le_refl _⟩)
    simp
    exact this

/-! the other way: a ring below 0 is seen -/
/-- R' has come from R -/
def Down (n : Nat) (R R' : Mat) : Prop := Sized n R' ∧ ∀ {x y : Nat} {k : Int}, x < n → y < n → Le R x y k → Le R' x y k
def NonNeg (n : Nat) (R : Mat) : Prop := ∀ {x : Nat} {k : Int}, x < n → Le R x x k → 0 ≤ k
theorem Down.refl {n : Nat} {R : Mat} (h : Sized n R) : Down n R R := ⟨h, fun _ _ q => q⟩
theorem Down.trans {n : Nat} {R S T : Mat} (h1 : Down n R S) (h2 : Down n S T) : Down n R T := ⟨h2.1, fun hx hy q => h2.2 hx hy (h1.2 hx hy q)⟩
theorem Down.nonneg {n : Nat} {R S : Mat} (h : Down n R S) (hN : NonNeg n S) : NonNeg n R := fun hx q => hN hx (h.2 hx hx q)
theorem relax_down {n : Nat} {R : Mat} (h : Sized n R) {m a b : Nat} (hm : m < n) (ha : a < n) (hb : b < n) : Down n R (relax R m a b) :=
  ⟨relax_sized h ha m b, fun hx hy q => (relax_le h hm ha hb hx hy).mpr (.inl q)⟩
/-- within mid m: the pairs that are done (P) have taken the way by m, the others stand as they stood -/
def Mid (n m : Nat) (R0 R : Mat) (P : Nat → Nat → Prop) : Prop := Down n R0 R ∧ (NonNeg n R → ∀ {x y : Nat} {k : Int}, x < n → y < n → (Le R x y k ↔ Le R0 x y k ∨ (P x y ∧ ∃ p q, Le R0 x m p ∧ Le R0 m y q ∧ p + q ≤ k)))
theorem mid_step {n m : Nat} {R0 R : Mat} {P : Nat → Nat → Prop} (h : Mid n m R0 R P) {a b : Nat} (hm : m < n) (ha : a < n) (hb : b < n) : Mid n m R0 (relax R m a b) (fun x y => P x y ∨ (x = a ∧ y = b)) := by
  have hs := h.1.1
  refine ⟨h.1.trans (relax_down hs hm ha hb), fun hN x y k hx hy => ?_⟩
  have hN' : NonNeg n R := (relax_down hs hm ha hb).nonneg hN
  have F := @h.2 hN'
  have hN0 : NonNeg n R0 := h.1.nonneg hN'
  have c1 : ∀ {z p}, z < n → (Le R z m p ↔ Le R0 z m p) := by
    intro z p hz
    rw [F hz hm]
    constructor
    · rintro (q | ⟨_, p1, q1, h1, h2, h3⟩)
      · exact q
      · exact h1.mono (by have := hN0 hm h2; omega)
    · exact .inl
  have c2 : ∀ {z p}, z < n → (Le R m z p ↔ Le R0 m z p) := by
    intro z p hz
    rw [F hm hz]
    constructor
    · rintro (q | ⟨_, p1, q1, h1, h2, h3⟩)
      · exact q
      · exact h2.mono (by have := hN0 hm h1; omega)
    · exact .inl
  rw [relax_le hs hm ha hb hx hy, F hx hy]
  constructor
  · rintro ((q | ⟨hp, q⟩) | ⟨rfl, rfl, p, q, h1, h2, h3⟩)
    · exact .inl q
    · exact .inr ⟨.inl hp, q⟩
    · exact .inr ⟨.inr ⟨rfl, rfl⟩, p, q, (c1 ha).mp h1, (c2 hb).mp h2, h3⟩
  · rintro (q | ⟨hp | ⟨rfl, rfl⟩, p, q, h1, h2, h3⟩)
    · exact .inl (.inl q)
    · exact .inl (.inr ⟨hp, p, q, h1, h2, h3⟩)
    · exact .inr ⟨rfl, rfl, p, q, (c1 ha).mpr h1, (c2 hb).mpr h2, h3⟩
theorem Mid.iff {n m : Nat} {R0 R : Mat} {P P' : Nat → Nat → Prop} (h : Mid n m R0 R P) (e : ∀ x y, x < n → y < n → (P x y ↔ P' x y)) : Mid n m R0 R P' := by
  refine ⟨h.1, fun hN x y k hx hy => ?_⟩
  rw [h.2 hN hx hy, e x y hx hy]
theorem mid_turnA {n m : Nat} {R0 R : Mat} {i : Nat} (h : Mid n m R0 R (fun x _ => x < i)) (hm : m < n) (hi : i < n) : Mid n m R0 (turnA n m R i) (fun x _ => x < i + 1) := by
  have := range_ind (f := turnB m i) (fun j S => Mid n m R0 S (fun x y => x < i ∨ (x = i ∧ y < j))) n R (h.iff fun x y _ _ => by omega) fun j S hj hS => (mid_step hS hm hi hj).iff fun x y _ _ => by omega
  exact this.iff fun x y _ hy => by omega
theorem mid_turnM {n m : Nat} {R : Mat} (h : Sized n R) (hm : m < n) : Mid n m R (turnM n R m) (fun _ _ => True) := by
  have := range_ind (f := turnA n m) (fun i S => Mid n m R S (fun x _ => x < i)) n R ⟨Down.refl h, fun _ x y k _ _ => by simp⟩ fun i S hi hS => mid_turnA hS hm hi
  exact this.iff fun x y hx _ => by simp [hx]
/-- the triangle over all mids below m -/
def Tri (n m : Nat) (R : Mat) : Prop := NonNeg n R → ∀ {x y z : Nat} {k l : Int}, x < n → y < n → z < m → Le R x z k → Le R z y l → Le R x y (k + l)
theorem tri_turnM {n m : Nat} {R : Mat} (h : Sized n R) (hm : m < n) (T : Tri n m R) : Tri n (m + 1) (turnM n R m) := by
  have M := mid_turnM h hm
  intro hN x y z k l hx hy hz h1 h2
  have hN0 : NonNeg n R := M.1.nonneg hN
  have hzn : z < n := by omega
  have F := @M.2 hN
  have T' := @T hN0
  rw [F hx hzn] at h1
  rw [F hzn hy] at h2
  rw [F hx hy]
  by_cases e : z = m
  · subst e
    have g1 : Le R x z k := by
      rcases h1 with q | ⟨_, p, q, a1, a2, a3⟩
      · exact q
      · exact a1.mono (by have := hN0 hm a2; omega)
    have g2 : Le R z y l := by
      rcases h2 with q | ⟨_, p, q, a1, a2, a3⟩
      · exact q
      · exact a2.mono (by have := hN0 hm a1; omega)
    exact .inr ⟨trivial, k, l, g1, g2, Int.le_refl _⟩
  · have hz' : z < m := by omega
    rcases h1 with h1 | ⟨_, p, q, a1, a2, a3⟩
    · rcases h2 with h2 | ⟨_, p', q', b1, b2, b3⟩
      · exact .inl (T' hx hy hz' h1 h2)
      · exact .inr ⟨trivial, k + p', q', T' hx hm hz' h1 b1, b2, by omega⟩
    · rcases h2 with h2 | ⟨_, p', q', b1, b2, b3⟩
      · exact .inr ⟨trivial, p, q + l, a1, T' hm hy hz' a2 h2, by omega⟩
      · have := hN0 hm (T' hm hm hz' a2 b1)
        exact .inr ⟨trivial, p, q', a1, b2, by omega⟩
theorem fw_tri {n : Nat} {R : Mat} (h : Sized n R) : Down n R (fw n R) ∧ Tri n n (fw n R) := by
  have := range_ind (f := turnM n) (fun m S => Down n R S ∧ Tri n m S) n R ⟨Down.refl h, fun _ x y z k l _ _ hz => absurd hz (Nat.not_lt_zero _)⟩ fun m S hm hS =>
    ⟨hS.1.trans (mid_turnM hS.1.1 hm).1, tri_turnM hS.1.1 hm hS.2⟩
  exact this
theorem start_le {n : Nat} {E : List Edge} (R : InR n E) : Sized n (start n E) ∧ (∀ {y}, y < n → Le (start n E) 0 y 0) ∧ (∀ {x}, x < n → Le (start n E) x x 0) ∧ ∀ e ∈ E, Le (start n E) e.1 e.2.1 e.2.2 := by
  unfold start
  have key : ∀ (F : List Edge) (M : Mat), InR n F → Sized n M → Down n M (F.foldl putE M) ∧ ∀ e ∈ F, Le (F.foldl putE M) e.1 e.2.1 e.2.2 := by
    intro F
    induction F with
    | nil => intro M _ hM; exact ⟨Down.refl hM, fun e he => nomatch he⟩
    | cons e F ih =>
      intro M hF hM
      have h1 := hF e (by simp)
      have hS : Sized n (putE M e) := lower_sized hM h1.1 _ _
      have hD : Down n M (putE M e) := ⟨hS, fun hx hy q => (lower_le hM h1.1 h1.2 hx hy).mpr (.inl q)⟩
      obtain ⟨d, g⟩ := ih (putE M e) (fun f hf => hF f (by simp [hf])) hS
      refine ⟨hD.trans d, fun f hf => ?_⟩
      rcases List.mem_cons.mp hf with rfl | hf
      · exact d.2 h1.1 h1.2 ((lower_le hM h1.1 h1.2 h1.1 h1.2).mpr (.inr ⟨rfl, rfl, Int.le_refl _⟩))
      · exact g f hf
  obtain ⟨d, g⟩ := key E (row0 n) R (row0_sized n)
  refine ⟨d.1, fun {y} hy => d.2 (by omega) hy ((row0_le (by omega) hy).mpr ⟨.inl rfl, Int.le_refl _⟩), fun {x} hx => d.2 hx hx ((row0_le hx hx).mpr ⟨.inr rfl, Int.le_refl _⟩), g⟩
/-- a ring of facts below 0: the law's closing tells it -/
theorem negs_ring {n : Nat} {E Z : List Edge} (R : InR n E) (RZ : InR n Z) (hZ : ∀ e ∈ Z, e ∈ E ∨ (e.1 = 0 ∧ e.2.2 = 0)) {x : Nat} {c : Int} (hx : x < n) (w : Walk Z x x c) (hc : c < 0) : negs n (closedM n E) ≠ [] := by
  intro hnil
  have hN : NonNeg n (closedM n E) := by
    intro y k hy ⟨d, q1, q2⟩
    have := List.filter_eq_nil_iff.mp hnil y (List.mem_range.mpr hy)
    unfold below0 at this
    rw [q1] at this
    simp at this
    omega
  obtain ⟨s1, s2, s3, s4⟩ := start_le R
  obtain ⟨D, T⟩ := fw_tri s1
  have T' := @T hN
  have key : ∀ {u v : Nat} {e : Int}, Walk Z u v e → u < n → v < n → Le (closedM n E) u v e := by
    intro u v e w
    induction w with
    | nil u => intro hu _; exact D.2 hu hu (s3 hu)
    | @cons u t v c d h w ih =>
      intro hu hv
      have ht : t < n := (RZ _ h).2
      refine T' hu hv ht (D.2 hu ht ?_) (ih ht hv)
      rcases hZ _ h with q | ⟨q1, q2⟩
      · exact s4 _ q
      · simp only at q1 q2
        subst q1 q2
        exact s2 ht
  have := hN hx (key w hx hx)
  omega
end K01
end
section
set_option maxRecDepth 100000
namespace K1
open PySem L2 K01
def top (i : Nat) : Stmt := PySem.Challenge.pw_unknowntakes_k46_trees_followed.main.body.getD i (.Pass ⟨0, 0, 0, 0⟩)
/-! ### heaps -/
theorem Same.tup {K : PySem.W.Frag} {H H' : Hp} {a : Addr} {xs : List V} (e : Same H H') (h : SqT K H a xs) : SqT K H' a xs := by
  rcases h with (h | ⟨o, h⟩) | h
  · exact .inl (.inl (e _ _ h))
  · exact .inl (.inr ⟨o, e _ _ h⟩)
  · exact .inr h
theorem Same.new {H : Hp} {p : Addr} {o : HO} (h : H p = none) : Same H (upd H p o) := fun b x e => by
  rw [upd_ne (ne_of_none e h)]
  exact e
theorem tup_at {K : PySem.W.Frag} {H : Hp} {p : Addr} {xs : List V} : SqT K (upd H p (.tup xs)) p xs := .inl (.inl upd_same)
/-! ### matrices on the heap -/
def cV : Cell → V
  | none => .non
  | some i => .int i
def RowAt (K : PySem.W.Frag) (H : Hp) (a : Addr) (r : List Cell) : Prop := SqT K H a (r.map cV)
def MatAt (K : PySem.W.Frag) (H : Hp) (a : Addr) (B : Mat) : Prop := ∃ as : List Addr, as.length = B.length ∧ SqT K H a (as.map V.ref) ∧ ∀ (i : Nat) (p : Addr) (r : List Cell), as[i]? = some p → B[i]? = some r → RowAt K H p r
theorem MatAt.same {K : PySem.W.Frag} {H H' : Hp} {a : Addr} {B : Mat} (e : Same H H') (h : MatAt K H a B) : MatAt K H' a B := by
  obtain ⟨as, h1, h2, h3⟩ := h
  exact ⟨as, h1, Same.tup e h2, fun i p r q1 q2 => Same.tup e (h3 i p r q1 q2)⟩
/-- the row of a matrix, on the heap -/
theorem MatAt.row {K : PySem.W.Frag} {H : Hp} {a : Addr} {B : Mat} {n x : Nat} (h : MatAt K H a B) (S : Sized n B) (hx : x < n) : ∃ (xs : List V) (p : Addr), SqT K H a xs ∧ xs[x]? = some (.ref p) ∧ RowAt K H p (rowAt B x) := by
  obtain ⟨as, h1, h2, h3⟩ := h
  obtain ⟨r, q1, q2⟩ := S.row hx
  have hl : x < as.length := by rw [h1, S.1]; exact hx
  refine ⟨_, as[x], h2, ?_, ?_⟩
  · rw [List.getElem?_map, List.getElem?_eq_getElem hl]; rfl
  · rw [rowAt_of q1]
    exact h3 x _ r (List.getElem?_eq_getElem hl) q1
theorem row_cell {n : Nat} {B : Mat} (S : Sized n B) {x y : Nat} (hx : x < n) (hy : y < n) : ((rowAt B x).map cV)[y]? = some (cV (cell B x y)) := by
  have h := S.rowAt hx
  rw [List.getElem?_map]
  unfold cell
  rw [List.getElem?_eq_getElem (by rw [h]; exact hy)]
  rfl
theorem get_map {α β : Type} {f : α → β} {l : List α} {i : Nat} {x : β} (h : (l.map f)[i]? = some x) : ∃ y, l[i]? = some y ∧ x = f y := by
  rw [List.getElem?_map] at h
  cases e : l[i]? with
  | none => rw [e] at h; cases h
  | some y => rw [e] at h; exact ⟨y, rfl, (Option.some.inj h).symm⟩
theorem take_snoc {α : Type} {l : List α} {i : Nat} {x : α} (h : l[i]? = some x) : l.take (i + 1) = l.take i ++ [x] := by
  rw [List.take_succ, h]
  rfl
theorem iteDT {c A B : Prop} [Decidable c] (hc : c) (h : A) : if decide c = true then A else B := by
  rw [decide_eq_true hc]
  exact iteT h
theorem iteDF {c A B : Prop} [Decidable c] (hc : ¬ c) (h : B) : if decide c = true then A else B := by
  rw [decide_eq_false hc]
  exact iteF h
theorem iteNF {c A B : Prop} [Decidable c] (hc : ¬ c) (h : A) : if (!decide c) = true then A else B := by
  rw [decide_eq_false hc]
  exact iteT h
theorem yes_ {σ : L2.St} {H : Hp} {A B : Hp → Prop} (h : A H) : tYes σ H fun b H3 => if b = true then A H3 else B H3 := by
  show if true = true then A H else B H
  exact iteT h
/-! ### built-in names that the text leaves as they are -/
structure Bi (mg : Str → Option Value) : Prop where
  isinstance : mg "isinstance" = none
  len : mg "len" = none
  range : mg "range" = none
  enumerate : mg "enumerate" = none
  zip : mg "zip" = none
  tuple : mg "tuple" = none
  list : mg "list" = none
  int : mg "int" = none
  str : mg "str" = none
  bool : mg "bool" = none
  abs : mg "abs" = none
  max : mg "max" = none
  min : mg "min" = none
  sum : mg "sum" = none
  super : mg "super" = none
section
variable {X : Cx}
/-- the name of a built-in class as a value -/
theorem pe_ty {x : Str} {pos : Pos} {n : String} (hg : Gl X x) (hm : X.mg x = none) (hv : bootBuiltins x = some (.type n)) (hn : x ≠ "__name__" := by decide) (hd : (x == ("__debug__" : Str)) = false := by decide) : PE X (.Name x pos) (tC (.ty n)) := pe_bltn hg hm hv rfl hn hd
end
def RowsAt (K : PySem.W.Frag) (H : Hp) (as : List Addr) (B : Mat) : Prop := as.length = B.length ∧ ∀ (i : Nat) (p : Addr) (r : List Cell), as[i]? = some p → B[i]? = some r → RowAt K H p r
theorem RowsAt.nil {K : PySem.W.Frag} {H : Hp} : RowsAt K H [] [] := ⟨rfl, fun i p r h => nomatch h⟩
theorem RowsAt.same {K : PySem.W.Frag} {H H' : Hp} {as : List Addr} {B : Mat} (e : Same H H') (h : RowsAt K H as B) : RowsAt K H' as B := ⟨h.1, fun i p r q1 q2 => Same.tup e (h.2 i p r q1 q2)⟩
theorem RowsAt.snoc {K : PySem.W.Frag} {H : Hp} {as : List Addr} {B : Mat} {p : Addr} {r : List Cell} (h : RowsAt K H as B) (hp : RowAt K H p r) : RowsAt K H (as ++ [p]) (B ++ [r]) := by
  refine ⟨by simp [h.1], fun i q s q1 q2 => ?_⟩
  by_cases e : i < as.length
  · rw [List.getElem?_append_left e] at q1
    rw [List.getElem?_append_left (by rw [← h.1]; exact e)] at q2
    exact h.2 i q s q1 q2
  · have e1 : i = as.length := by
      have := (List.getElem?_eq_some_iff.mp q1).1
      simp at this
      omega
    subst e1
    rw [List.getElem?_append_right (Nat.le_refl _), Nat.sub_self] at q1
    rw [h.1, List.getElem?_append_right (Nat.le_refl _), Nat.sub_self] at q2
    cases q1
    cases q2
    exact hp
theorem MatAt.of {K : PySem.W.Frag} {H : Hp} {a : Addr} {as : List Addr} {B : Mat} (h1 : SqT K H a (as.map V.ref)) (h : RowsAt K H as B) : MatAt K H a B := ⟨as, h.1, h1, h.2⟩
/-- all but the list at l stays -/
def But (l : Addr) (H H' : Hp) : Prop := ∀ b o, b ≠ l → H b = some o → H' b = some o
theorem RowsAt.but {K : PySem.W.Frag} {H H' : Hp} {l : Addr} {xs : List V} {as : List Addr} {B : Mat} (hl : H l = some (.lst xs)) (e : But l H H') (h : RowsAt K H as B) : RowsAt K H' as B := by
  refine ⟨h.1, fun i p r q1 q2 => ?_⟩
  rcases h.2 i p r q1 q2 with (q | ⟨o, q⟩) | q
  · exact .inl (.inl (e _ _ (fun z => by rw [z, hl] at q; cases q) q))
  · exact .inl (.inr ⟨o, e _ _ (fun z => by rw [z, hl] at q; cases q) q⟩)
  · exact .inr q
theorem But.set {l : Addr} {H : Hp} {o : HO} : But l H (upd H l o) := fun b x n e => by
  rw [upd_ne n]; exact e
theorem Same.set {H H' : Hp} {l : Addr} {o : HO} (h : Same H H') (hl : H l = none) : Same H (upd H' l o) := fun b x e => by
  rw [upd_ne (ne_of_none e hl)]; exact h _ _ e
theorem row_upd {K : PySem.W.Frag} {H : Hp} {l p : Addr} {xs ys zs : List V} (hl : H l = some (.lst xs)) (h : SqT K H p zs) : SqT K (upd H l (.lst ys)) p zs := by
  rcases h with (q | ⟨o, q⟩) | q
  · exact .inl (.inl (by rw [upd_ne (fun z => by rw [z, hl] at q; cases q)]; exact q))
  · exact .inl (.inr ⟨o, by rw [upd_ne (fun z => by rw [z, hl] at q; cases q)]; exact q⟩)
  · exact .inr q
theorem cut_take (xs : List V) (k : Nat) : cutV xs none (some (k : Int)) = xs.take k := by
  unfold cutV
  rw [HT.sIx_nat, HT.sIx_none, List.drop_zero, Nat.sub_zero]
  by_cases h : k ≤ xs.length
  · rw [Nat.min_eq_left h]
  · rw [Nat.min_eq_right (by omega), List.take_length, List.take_of_length_le (by omega)]
theorem cut_drop (xs : List V) (k : Nat) : cutV xs (some (k : Int)) none = xs.drop k := by
  unfold cutV
  rw [HT.sIx_nat, HT.sIx_none]
  by_cases h : k ≤ xs.length
  · rw [Nat.min_eq_left h, List.take_of_length_le (by rw [List.length_drop]; omega)]
  · rw [Nat.min_eq_right (by omega), List.drop_length, List.drop_of_length_le (by omega)]
    simp
/-- the first of n for which p holds -/
def first (p : Nat → Bool) : Nat → Option Nat
  | 0 => none
  | n + 1 => match first p n with
    | some i => some i
    | none => if p n = true then some n else none
theorem first_none {p : Nat → Bool} : ∀ {n : Nat}, (∀ j, j < n → p j = false) → first p n = none
  | 0, _ => rfl
  | n + 1, h => by
    unfold first
    rw [first_none fun j hj => h j (by omega), h n (by omega)]
    rfl
theorem first_some {p : Nat → Bool} {i : Nat} : ∀ {n : Nat}, i < n → (∀ j, j < i → p j = false) → p i = true → first p n = some i
  | 0, h, _, _ => absurd h (Nat.not_lt_zero _)
  | n + 1, h, h1, h2 => by
    unfold first
    by_cases e : i = n
    · subst e
      rw [first_none h1]
      simp [h2]
    · rw [first_some (by omega) h1 h2]
theorem first_inv {p : Nat → Bool} : ∀ {n : Nat}, (first p n = none → ∀ j, j < n → p j = false) ∧ ∀ i, first p n = some i → i < n ∧ p i = true ∧ ∀ j, j < i → p j = false
  | 0 => ⟨fun _ j h => absurd h (Nat.not_lt_zero _), fun i h => (nomatch h)⟩
  | n + 1 => by
    obtain ⟨h1, h2⟩ := first_inv (p := p) (n := n)
    unfold first
    cases e : first p n with
    | some i =>
      refine ⟨fun h => (nomatch h), fun i' h => ?_⟩
      cases h
      obtain ⟨a, b, c⟩ := h2 i e
      exact ⟨by omega, b, c⟩
    | none =>
      have h1' := h1 e
      by_cases q : p n = true
      · rw [if_pos q]
        refine ⟨fun h => (nomatch h), fun i h => ?_⟩
        cases h
        exact ⟨by omega, q, h1'⟩
      · rw [if_neg q]
        refine ⟨fun _ j hj => ?_, fun i h => (nomatch h)⟩
        by_cases e2 : j = n
        · rw [e2]; simpa using q
        · exact h1' j (by omega)
theorem first_congr {p q : Nat → Bool} : ∀ {n : Nat}, (∀ j, j < n → p j = q j) → first p n = first q n
  | 0, _ => rfl
  | n + 1, h => by
    unfold first
    rw [first_congr fun j hj => h j (by omega), h n (by omega)]
def oV : Option Nat → V
  | none => .non
  | some i => .int i
/-! ### flat values -/
inductive Flat : V → Prop
  | non : Flat .non
  | bl (b : Bool) : Flat (.bl b)
  | int (i : Int) : Flat (.int i)
  | str (z : Str) : Flat (.str z)
theorem Flat.v {v : V} (h : Flat v) : flatV v = true := by cases h <;> rfl
theorem strs_flat (ms : List Str) : (ms.map V.str).all flatV = true := by
  rw [List.all_eq_true]
  intro v hv
  obtain ⟨z, _, rfl⟩ := List.mem_map.mp hv
  rfl
theorem inV_str (z : Str) (ms : List Str) : inV (.str z) (ms.map V.str) = decide (z ∈ ms) := by
  unfold inV
  rw [List.any_map, Bool.eq_iff_iff, List.any_eq_true]
  simp only [decide_eq_true_eq, Function.comp]
  constructor
  · rintro ⟨u, hu, h⟩
    have : u = z := by simpa [eqV] using h
    rw [← this]; exact hu
  · intro h
    exact ⟨z, h, by simp [eqV]⟩
theorem inV_other {v : V} (hv : Flat v) (h : ∀ z, v ≠ .str z) (ms : List Str) : inV v (ms.map V.str) = false := by
  unfold inV
  rw [List.any_map, Bool.eq_false_iff]
  intro q
  obtain ⟨u, hu, e⟩ := List.any_eq_true.mp q
  cases hv with
  | str z => exact h z rfl
  | non => simp [eqV] at e
  | bl b => simp [eqV] at e
  | int i => simp [eqV] at e
def strsT (K : PySem.W.Frag) (H : Hp) (a : Addr) (ms : List Str) : Prop := SqT K H a (ms.map V.str)
/-- tuples on the heap, one by one -/
def TupsAt (H : Hp) (ps : List Addr) (xss : List (List V)) : Prop := ps.length = xss.length ∧ ∀ (i : Nat) (p : Addr) (xs : List V), ps[i]? = some p → xss[i]? = some xs → H p = some (.tup xs)
theorem TupsAt.nil {H : Hp} : TupsAt H [] [] := ⟨rfl, fun i p r h => nomatch h⟩
theorem TupsAt.same {H H' : Hp} {ps : List Addr} {xss : List (List V)} (e : Same H H') (h : TupsAt H ps xss) : TupsAt H' ps xss := ⟨h.1, fun i p r q1 q2 => e _ _ (h.2 i p r q1 q2)⟩
theorem TupsAt.get {H : Hp} {ps : List Addr} {xss : List (List V)} (h : TupsAt H ps xss) {i : Nat} {p : Addr} (hp : ps[i]? = some p) : ∃ xs, xss[i]? = some xs ∧ H p = some (.tup xs) := by
  have hi : i < xss.length := by rw [← h.1]; exact (List.getElem?_eq_some_iff.mp hp).1
  exact ⟨xss[i], List.getElem?_eq_getElem hi, h.2 i p _ hp (List.getElem?_eq_getElem hi)⟩
theorem TupsAt.app {H : Hp} {ps qs : List Addr} {xss yss : List (List V)} (h : TupsAt H ps xss) (g : TupsAt H qs yss) : TupsAt H (ps ++ qs) (xss ++ yss) := by
  refine ⟨by simp [h.1, g.1], fun i q s q1 q2 => ?_⟩
  by_cases e : i < ps.length
  · rw [List.getElem?_append_left e] at q1
    rw [List.getElem?_append_left (by rw [← h.1]; exact e)] at q2
    exact h.2 i q s q1 q2
  · rw [List.getElem?_append_right (by omega)] at q1
    rw [List.getElem?_append_right (by rw [← h.1]; omega), ← h.1] at q2
    exact g.2 _ q s q1 q2
theorem TupsAt.one {H : Hp} {p : Addr} {xs : List V} (h : H p = some (.tup xs)) : TupsAt H [p] [xs] := by
  refine ⟨rfl, fun i q s q1 q2 => ?_⟩
  cases i with
  | zero => cases q1; cases q2; exact h
  | succ i => exact nomatch q1
theorem TupsAt.snoc {H : Hp} {ps : List Addr} {xss : List (List V)} {p : Addr} {xs : List V} (h : TupsAt H ps xss) (hp : H p = some (.tup xs)) : TupsAt H (ps ++ [p]) (xss ++ [xs]) := h.app (.one hp)
theorem TupsAt.take {H : Hp} {ps : List Addr} {xss : List (List V)} (h : TupsAt H ps xss) (k : Nat) : TupsAt H (ps.take k) (xss.take k) := by
  refine ⟨by simp [h.1], fun i q s q1 q2 => ?_⟩
  rw [List.getElem?_take] at q1 q2
  split at q1
  · rename_i hi
    rw [if_pos hi] at q2
    exact h.2 i q s q1 q2
  · cases q1
theorem TupsAt.upd {H : Hp} {l : Addr} {xs ys : List V} {ps : List Addr} {xss : List (List V)} (hl : H l = some (.lst xs)) (h : TupsAt H ps xss) : TupsAt (upd H l (.lst ys)) ps xss :=
  ⟨h.1, fun i p r q1 q2 => by
    have := h.2 i p r q1 q2
    rw [upd_ne (fun z => by rw [z, hl] at this; cases this)]
    exact this⟩
/-- a tuple of tuples -/
def TTAt (K : PySem.W.Frag) (H : Hp) (a : Addr) (xss : List (List V)) : Prop := ∃ ps, SqT K H a (ps.map V.ref) ∧ TupsAt H ps xss
theorem TTAt.same {K : PySem.W.Frag} {H H' : Hp} {a : Addr} {xss : List (List V)} (e : Same H H') (h : TTAt K H a xss) : TTAt K H' a xss := by
  obtain ⟨ps, h1, h2⟩ := h
  exact ⟨ps, Same.tup e h1, h2.same e⟩
abbrev Fact := Str × Str × Int
def factV (f : Fact) : List V := [.str f.1, .str f.2.1, .int f.2.2]
end K1
end
section
set_option maxRecDepth 100000
set_option maxHeartbeats 4000000
namespace K1
open PySem L2 K01
section
variable {P : Program} {w : World} {K : PySem.W.Frag} {mg : Str → Option Value} {base : Heap}
abbrev sWhole : Stmt := top 2
def isWhole : V → Bool
  | .int _ => true
  | _ => false
def spWhole (K : PySem.W.Frag) : Sp := fun vs H Q _ => ∃ (v : V), vs = [v] ∧ Flat v ∧ Q (.bl (isWhole v)) H
theorem scWhole : FnScope ["x"] ["x"] (defScope sWhole) := ⟨rfl, rfl, rfl, by decide +kernel, rfl, by decide +kernel, by decide +kernel⟩
theorem ok_whole {f : Addr} {fd : FuncData} (F : Fun K "is_whole" "is_whole" sWhole f fd) (T : Bi mg) : FnOk P w K mg base CX0 1 f fd ["x"] (spWhole K) := by
  refine F.ok scWhole (fun vs H Q E h => ?_) (fun cdv A outer s H vs Q E hr h => ?_)
  · obtain ⟨_, rfl, _⟩ := h
    rfl
  · obtain ⟨v, rfl, hv, k⟩ := h
    refine ⟨_, pss_one (ps_ret (pe_and (pe_callB call_isi (by rfl) T.isinstance (by decide +kernel) (pa_cons (pv 0) (pa_cons (pe_ty (n := "int") (by rfl) T.int (by decide +kernel)) pa_nil)))
      (pe_one (pe_not (pe_callB call_isi (by rfl) T.isinstance (by decide +kernel) (pa_cons (pv 0) (pa_cons (pe_ty (n := "bool") (by rfl) T.bool (by decide +kernel)) pa_nil))))))), ?_⟩
    refine ⟨v, rfl, ?_⟩
    cases hv with
    | non => exact ⟨_, _, _, _, false, rfl, .ty _, .base .non, kit_ty (by decide +kernel), _, rfl, iteF k⟩
    | str z => exact ⟨_, _, _, _, false, rfl, .ty _, .base (.str _), kit_ty (by decide +kernel), _, rfl, iteF k⟩
    | int i => exact ⟨_, _, _, _, true, rfl, .ty _, .base (.int _), kit_ty (by decide +kernel), _, rfl, iteT ⟨_, rfl, _, _, _, _, false, rfl, .ty _, .base (.int _), kit_ty (by decide +kernel), _, rfl, k⟩⟩
    | bl b => exact ⟨_, _, _, _, true, rfl, .ty _, .base (.bl _), kit_ty (by decide +kernel), _, rfl, iteT ⟨_, rfl, _, _, _, _, true, rfl, .ty _, .base (.bl _), kit_ty (by decide +kernel), _, rfl, k⟩⟩
abbrev sName : Stmt := top 3
def nameOk (z : Str) : Bool := decide ((z.length : Int) ≤ 8) && (Txt.isascii z && Txt.isalpha z)
def spName (K : PySem.W.Frag) : Sp := fun vs H Q _ => ∃ (z : Str), vs = [.str z] ∧ z.length ≤ 1000 ∧ Q (.bl (nameOk z)) H
theorem scName : FnScope ["x"] ["x"] (defScope sName) := ⟨rfl, rfl, rfl, by decide +kernel, rfl, by decide +kernel, by decide +kernel⟩
theorem ok_name {f : Addr} {fd : FuncData} (F : Fun K "is_name" "is_name" sName f fd) (T : Bi mg) : FnOk P w K mg base CX0 1 f fd ["x"] (spName K) := by
  refine F.ok scName (fun vs H Q E h => ?_) (fun cdv A outer s H vs Q E hr h => ?_)
  · obtain ⟨_, rfl, _⟩ := h
    rfl
  · obtain ⟨z, rfl, hz, k⟩ := h
    refine ⟨_, pss_one (ps_ret (pe_and (pe_callB call_isi (by rfl) T.isinstance (by decide +kernel) (pa_cons (pv 0) (pa_cons (pe_ty (n := "str") (by rfl) T.str (by decide +kernel)) pa_nil)))
      (pe_and (pe_cmpR op_le (pe_callB call_len_str (by rfl) T.len (by decide +kernel) (pa_cons (pv 0) pa_nil)) pe_int (nomark _))
      (pe_and (pe_m0 PySem.F.slot_str_isascii PySem.F.type_str_isascii mt_isascii (pv 0)) (pe_one (pe_m0 PySem.F.slot_str_isalpha PySem.F.type_str_isalpha mt_isalpha (pv 0))))))), ?_⟩
    refine ⟨_, rfl, _, _, _, _, true, rfl, .ty _, .base (.str _), kit_ty (by decide +kernel), _, rfl, iteT ?_⟩
    refine ⟨_, rfl, _, rfl, Nat.le_of_lt (small1000 hz), _, _, rfl, rfl, _, rfl, ?_⟩
    unfold nameOk at k
    by_cases q : ((z.length : Nat) : Int) ≤ 8
    · rw [decide_eq_true q] at k ⊢
      refine iteT ⟨_, rfl, ⟨_, rfl⟩, _, rfl, rfl, trivial, _, rfl, ?_⟩
      cases e : Txt.isascii z with
      | false => rw [e] at k; exact iteF k
      | true =>
        rw [e] at k
        exact iteT ⟨_, rfl, ⟨_, rfl⟩, _, rfl, rfl, trivial, k⟩
    · rw [decide_eq_false q] at k ⊢
      exact iteF k
abbrev sNames : Stmt := top 30
def spNames (K : PySem.W.Frag) : Sp := fun vs H Q _ => ∃ (a : Addr) (ms : List Str), vs = [.ref a] ∧ strsT K H a ms ∧ ms.length ≤ 1000 ∧ ∀ H' p, Same H H' → strsT K H' p ("zero" :: ms) → Q (.ref p) H'
theorem scNames : FnScope ["marks"] ["marks"] (defScope sNames) := ⟨rfl, rfl, rfl, by decide +kernel, rfl, by decide +kernel, by decide +kernel⟩
theorem ok_names {f : Addr} {fd : FuncData} (F : Fun K "names_of" "names_of" sNames f fd) : FnOk P w K mg base CX0 1 f fd ["marks"] (spNames K) := by
  refine F.ok scNames (fun vs H Q E h => ?_) (fun cdv A outer s H vs Q E hr h => ?_)
  · obtain ⟨_, _, rfl, _⟩ := h
    rfl
  · obtain ⟨a, ms, rfl, hm, hl, k⟩ := h
    refine ⟨_, pss_one (ps_ret (pe_op op_catT (pe_tup (pa_cons pe_str pa_nil)) (pv 0))), ?_⟩
    refine ⟨by show 1 ≤ sizeLine; decide, fun t ht => ?_⟩
    have s1 : Same H (upd H t (.tup [.str "zero"])) := Same.new ht
    refine ⟨_, rfl, _, _, _, _, rfl, rfl, tup_at, Same.tup s1 hm, ?_⟩
    refine ⟨by simp, ?_, fun e => ?_, fun e p hp => ?_⟩
    · rw [List.length_map]
      exact Nat.le_of_lt (Nat.lt_of_le_of_lt (show 1 + ms.length ≤ 1001 by omega) (by decide))
    · refine k _ t s1 ?_
      have : ms = [] := by simpa using e
      rw [this]
      exact tup_at
    · exact k _ p (s1.trans (Same.new hp)) tup_at
end
end K1
end
section
set_option maxRecDepth 100000
namespace PySem
set_option maxHeartbeats 1000000 in
theorem k1_newE {v : Value} {o : Obj} {H : Heap → Prop} (B : Begins v o H) :
    Meets (Builtin.«enumerate.__new__» ⟨[.type "enumerate", v], []⟩) (fun _ R s => H s.heap ∧
      R (.ok (.ret (.ref (s.heap.push o).objs.size))) { s with heap := (s.heap.push o).push { cls := .type "enumerate", data := .fields #[.none, .bool false, .ref s.heap.objs.size, rawInt 0, .none, .none] } }) :=
  .of_wp fun prog w A R s h => by
    obtain ⟨hp, gs, dr, tk, os⟩ := s
    obtain ⟨h1, h⟩ := h
    have sub := sub_enumerate
    have q1 : ∀ {A' : Around} {E : Value → Shared → Prop} {Q : Value → Shared → Prop}, Q (.ref hp.objs.size) ⟨hp.push o, gs, dr, tk, os⟩ → wpAny (model prog w) A' (pyIter v) Q E ⟨hp, gs, dr, tk, os⟩ :=
      fun q => B.iter prog w _ _ ⟨hp, gs, dr, tk, os⟩ _ h1 q
    wp_walk using q1
    refine wpAny_stack_any fun st => wpAny_pure ?_
    split
    · rename_i c _ _ _ _ _
      cases (c == Value.type "enumerate") <;> (wp_walk using q1; exact ⟨_, rfl, h⟩)
    · wp_walk using q1
      exact ⟨_, rfl, h⟩
theorem k1_enumCall {prog : Program} {w : World} {A : Around} {E : Value → Shared → Prop} {s : Shared} {v : Value} {o : Obj} {H : Heap → Prop} {Q : Value → Shared → Prop} (B : Begins v o H) (h1 : H s.heap)
    (h : ∀ h', IsEnum h' (s.heap.objs.size + 1) s.heap.objs.size 0 .none → h'.get? s.heap.objs.size = some o → h'.objs.size = s.heap.objs.size + 2 →
      (∀ b o, s.heap.get? b = some o → h'.get? b = some o) → Q (.ref (s.heap.objs.size + 1)) { s with heap := h' }) :
    wpAny (model prog w) A (call (.type "enumerate") [v]) Q E s := by
  refine callType_new F.called_enumerate (by decide) (F.typeCall_enumerate_1 _) (F.newCall_enumerate_1 _) (fun obj => F.args_object_init_2 obj _) F.entry_enumerate_new (k1_newE B) ⟨h1, ?_⟩
  have hz : (s.heap.push o).objs.size = s.heap.objs.size + 1 := Heap.size_push ..
  show _ ∧ _
  rw [hz]
  have he : IsEnum ((s.heap.push o).push { cls := .type "enumerate", data := .fields #[.none, .bool false, .ref s.heap.objs.size, rawInt 0, .none, .none] }) (s.heap.objs.size + 1) s.heap.objs.size 0 .none := by
    have z := Heap.get?_push_size (s.heap.push o) (o := { cls := .type "enumerate", data := .fields #[.none, .bool false, .ref s.heap.objs.size, rawInt 0, .none, .none] }) rfl
    rw [hz] at z
    exact z
  refine ⟨⟨_, he, rfl⟩, h _ he (Heap.get?_push_of_some _ (Heap.get?_push_size _ B.free)) (by rw [Heap.size_push, hz]) fun b o x => Heap.get?_push_of_some _ (Heap.get?_push_of_some _ x)⟩
end PySem
namespace K1
open PySem PySem.Spec PyProof.Rows L2
/-! ### enumerate(tuple) -/
def IteT (K : PySem.W.Frag) (a : Addr) : It :=
  ⟨fun i H => ∃ (xs : List V) (x : V), SqT K H a xs ∧ xs[i]? = some x, fun i H v H' => ∃ T x, v = .ref T ∧ H T = none ∧ H' = upd H T (.tup [.int (i : Nat), x]) ∧ ∀ xs, SqT K H a xs → xs[i]? = some x, fun i H => ∃ xs : List V, SqT K H a xs ∧ xs.length = i⟩
theorem turn_enumT {P : Program} {w : World} {K : PySem.W.Frag} {elts : List Expr} {kk : Nat} {tpos : Pos} (a e it : Addr) (hia : a ≠ it) (hea : a ≠ e) :
    Turn P w K (.Tuple elts kk tpos) (IteT K a) [e, it] e (fun i h => (∃ old, IsEnum h e it ((i : Nat) : Int) old) ∧ h.IsTupleIter it a i ∧ e ≠ it) where
  mem := by simp
  obj := fun i h st b hb => by
    obtain ⟨⟨old, he⟩, ⟨o, ho, hc, hd⟩, _⟩ := st
    have e' : b = e ∨ b = it := by simpa using hb
    rcases e' with z | z
    · rw [z]; exact ⟨_, he, fun v q => nomatch q⟩
    · rw [z]; exact ⟨o, ho, fun v q => by rw [hd] at q; cases q⟩
  keep := fun i h h' st k => let ⟨⟨old, he⟩, hi, hne⟩ := st; ⟨⟨old, k e (by simp) _ he⟩, hi.at fun o q => k it (by simp) o q, hne⟩
  item := by
    intro X hP hw hK hc i pins s σ H E I hf st hg
    subst hP hw hK
    obtain ⟨⟨old, he⟩, hit, hne⟩ := st
    obtain ⟨xs, x, hq, hx⟩ := hg
    obtain ⟨its, rv, p, hz⟩ := I.tuple hq
    obtain ⟨u, hu, ru⟩ := rv.get hx
    have hel : e < s.heap.objs.size := Heap.lt_size he
    have hil : it < s.heap.objs.size := by obtain ⟨_, q, _⟩ := hit; exact Heap.lt_size q
    have D := Draws.tuple (prog := X.prog) (w := X.w) (A := X.A.in1) (I.ok.hd hc) it a hia its.toArray
    have hi : i < its.toArray.size := by
      have := (List.getElem?_eq_some_iff.mp hu).1
      simpa using this
    refine wpAny_pyNext_enum_itemD D he ⟨hit, p⟩ hi hne (by simp [hne, Ne.symm hea]) fun u' h' tk hP ho hst hT hsz hk => ?_
    have eu : u' = u := by
      have hP' : its[i]? = some u' := by simpa using hP
      rw [hu] at hP'
      exact (Option.some.inj hP').symm
    subst eu
    obtain ⟨hit', _⟩ := hst
    refine ⟨_, rfl, wpAny_letOwnedTupleGo_enum (s := { s with heap := h', toks := tk + 1 }) ho fun h'' he' sb => ?_⟩
    have hT2 : h''.get? s.heap.objs.size = some { cls := .type "tuple", data := .seq #[.int i tk, u'] } := (sb.2 _ (Nat.ne_of_gt hel)).trans hT
    have new : ObjOk X.prog X.w (upd H s.heap.objs.size (.tup [.int (i : Nat), x])) h'' s.heap.objs.size (.tup [.int (i : Nat), x]) :=
      ⟨by show 2 ≤ sizeLine; decide, [.int i tk, u'], .cons ⟨_, rfl⟩ (.cons ru .nil), ⟨_, hT2, rfl, _, rfl⟩⟩
    have I1 : L2.Inv X pins σ (upd H s.heap.objs.size (.tup [.int (i : Nat), x])) { s with heap := h'', toks := tk + 1 } :=
      I.turnedNew (ch := [e, it]) (fun b ob hb q => (sb.2 b (fun z => hb (by simp [z]))).trans (hk b ob (fun z => hb (by simp [z])) (fun z => hb (by simp [z])) q)) hf (Nat.le_refl _) new
    refine ⟨.ref s.heap.objs.size, _, I1, rfl, ⟨_, x, rfl, I.hok.fresh (Nat.le_refl _), rfl, fun ys hy => by rw [I.tuple_inj hy hq]; exact hx⟩, ⟨⟨u', ?_⟩, hit'.at fun o q => (sb.2 it (Ne.symm hne)).trans q, hne⟩, fun b hb => ?_⟩
    · have e1 : ((i + 1 : Nat) : Int) = (i : Int) + 1 := by omega
      rw [e1]; exact he'
    · have hb' : b < s.heap.objs.size := by
        have e' : b = e ∨ b = it := by simpa using hb
        rcases e' with z | z
        · rw [z]; exact hel
        · rw [z]; exact hil
      rw [upd_ne (Nat.ne_of_lt hb')]
      exact (hf b hb).1
  done := by
    intro X hP hw hK hc i pins s σ H E I hf st hg
    subst hP hw hK
    obtain ⟨⟨old, he⟩, hit, hne⟩ := st
    obtain ⟨xs, hq, hx⟩ := hg
    obtain ⟨its, rv, p, hz⟩ := I.tuple hq
    obtain ⟨f0, f1, f2, f3, f4, f5⟩ := hf it (by simp)
    have hl := rv.length
    have D := Draws.tuple (prog := X.prog) (w := X.w) (A := X.A.in1) (I.ok.hd hc) it a hia its.toArray
    have hi : i = its.toArray.size := by simp; omega
    subst hi
    exact wpAny_pyNext_enum_endD D he ⟨hit, p⟩ fun h' eb => ⟨rfl, I.turned (t' := s.toks) (fun b o hb q => eb b o hb q) f0 f1 f3 f4 f5⟩
  self := fun A i s Q E st h => let ⟨⟨_, he⟩, _⟩ := st; wpAny_pyIter_enum he h
def iEnumT (K : PySem.W.Frag) (ta : TA) : TI := fun σ H R => ta σ H fun vs H1 => ∃ a xs, vs = [.ref a] ∧ SqT K H1 a xs ∧ R (IteT K a) H1
theorem pi_enumT {X : Cx} {e : Expr} {ta : TA} {p pos tpos : Pos} {elts : List Expr} {kk : Nat} (hg : Gl X "enumerate") (hm : X.mg "enumerate" = none) (ha : PA X [e] ta) (hs : starEach [e] X.env = [(false, eval e X.env)] := by rfl) :
    PI X (.Tuple elts kk tpos) (.Call (.Name "enumerate" p) [e] [] pos) (iEnumT X.K ta) := by
  refine ⟨fun pins s σ H R I h => ?_⟩
  refine PyProof.Rows.Call_ (ld_blt I hg hm boot_enumerate (PyProof.Rows.callWith_type1 (thn (ha.run pos pins s σ H _ I h) fun us s1 ⟨vs, H1, I1, r1, q1⟩ => ?_) hs rfl))
  obtain ⟨a, xs, ex, hq, q⟩ := q1
  subst ex
  cases r1 with
  | cons r rr =>
    cases rr
    cases r
    obtain ⟨its, rv, p', hz⟩ := I1.tuple hq
    have p'' : s1.heap.IsTuple a its.toArray := p'
    obtain ⟨o1, ho1, _⟩ := id p''
    have low : a < s1.heap.objs.size := Heap.lt_size ho1
    refine k1_enumCall (begins_tuple a its.toArray) p'' fun h' he hI hsz hk => wpAny_pyIter_enum he ?_
    have I2 : L2.Inv X pins σ H1 { s1 with heap := h' } := I1.kept (t' := s1.toks) hk
    refine ⟨s1.heap.objs.size + 1, [s1.heap.objs.size + 1, s1.heap.objs.size], _, _, H1, rfl, I2, turn_enumT a (s1.heap.objs.size + 1) s1.heap.objs.size (Nat.ne_of_lt low) (Nat.ne_of_lt (Nat.lt_succ_of_lt low)), ⟨⟨.none, he⟩, ⟨_, hI, rfl, rfl⟩, Nat.succ_ne_self _⟩, fun b hb => ?_, q⟩
    have e' : b = s1.heap.objs.size + 1 ∨ b = s1.heap.objs.size := by simpa using hb
    have hle : s1.heap.objs.size ≤ b := by
      rcases e' with z | z
      · rw [z]; exact Nat.le_add_right _ _
      · rw [z]; exact Nat.le_refl _
    exact I1.fpOk hle (I1.hok.fresh hle)
theorem walk_enumT {K : PySem.W.Frag} {a : Addr} {xs : List V} : Walk (IteT K a) xs.length (fun H => SqT K H a xs) (YPair (fun i => some (.int (i : Nat))) (fun i => xs[i]?)) := by
  refine ⟨fun i _ hi q => ⟨xs, xs[i], q, by simp [hi]⟩, fun _ q => ⟨xs, q, rfl⟩, fun i H v H' _ q y => ?_⟩
  obtain ⟨T, x, h1, h2, h3, h4⟩ := y
  exact ⟨T, .int (i : Nat), x, h1, h2, h3, rfl, h4 xs q⟩
theorem walk_zipT {K : PySem.W.Frag} {a b : Addr} {xs ys : List V} (hl : xs.length = ys.length) : Walk (RZ.ItzT K a b) xs.length (fun H => SqT K H a xs ∧ SqT K H b ys) (YPair (fun i => xs[i]?) (fun i => ys[i]?)) := by
  refine ⟨fun i _ hi q => ?_, fun _ q => ⟨xs, ys, q.1, q.2, by omega⟩, fun i H v H' _ q y => ?_⟩
  · have h2 : i < ys.length := by omega
    exact ⟨xs, ys, xs[i], ys[i], q.1, q.2, by simp [hi], by simp [h2]⟩
  · obtain ⟨T, x, z, h1, h2, h3, h4, h5⟩ := y
    exact ⟨T, x, z, h1, h2, h3, h4 xs q.1, h5 ys q.2⟩
theorem dc_it {J : It} {n : Nat} {G : Hp → Prop} {Y : Nat → Hp → V → Hp → Prop} (w : Walk J n G Y) {g : TG} {tt : TT} {tk tv : TE} {vs : List Nat} {σ : L2.St} {H1 : Hp} {D : Addr} {Qd : Hp → Prop} (Pv : Nat → Hp → Prop) (h0 : Pv 0 (upd H1 D (.dK []))) (hG : ∀ i H, i ≤ n → Pv i H → G H)
    (hs : ∀ i x H H', i < n → Pv i H → Y i H x H' → g x (wipe σ vs) H' fun σ2 H2 => wipe σ2 vs = wipe σ vs ∧ tt σ2 H2 fun b H3 =>
      if b = true then tk σ2 H3 fun y H4 => tv σ2 H4 fun z H5 => ∃ kvs k, y = kV k ∧ H5 D = some (.dK kvs) ∧ kvs.length < sizeLine ∧ Pv (i + 1) (upd H5 D (.dK (putK kvs k z))) else Pv (i + 1) H3) (hd : ∀ H, Pv n H → Qd H) :
    ∃ W : Nat → Nat → Hp → Prop, (∃ m, W 0 m (upd H1 D (.dK []))) ∧ ∀ i m H, W i m H →
      (J.stop i H ∧ Qd H) ∨ (J.go i H ∧ ∃ Nx : Hp → Prop, (∀ H', Nx H' → ∃ m', m' < m ∧ W (i + 1) m' H') ∧ ∀ x H', J.yld i H x H' → g x (wipe σ vs) H' fun σ2 H2 => wipe σ2 vs = wipe σ vs ∧ tt σ2 H2 fun b H3 =>
        if b = true then tk σ2 H3 fun y H4 => tv σ2 H4 fun z H5 => ∃ kvs k, y = kV k ∧ H5 D = some (.dK kvs) ∧ kvs.length < sizeLine ∧ Nx (upd H5 D (.dK (putK kvs k z))) else Nx H3) := by
  refine ⟨fun i m H => m = n - i ∧ i ≤ n ∧ Pv i H, ⟨n, by simp, Nat.zero_le _, h0⟩, ?_⟩
  rintro i m H ⟨rfl, hi, p⟩
  have q := hG i H hi p
  by_cases hlt : i < n
  · exact .inr ⟨w.goes i H hlt q, Pv (i + 1), fun H' p' => ⟨n - (i + 1), by omega, rfl, hlt, p'⟩, fun x H' y => hs i x H H' hlt p (w.yields i H x H' hlt q y)⟩
  · have e : i = n := by omega
    subst e
    exact .inl ⟨w.stops H q, hd H p⟩
theorem valV_put {κ : Type} [DecidableEq κ] (kvs : List (κ × V)) (k : κ) (v : V) (k' : κ) : valV (putK kvs k v) k' = if k' = k then some v else valV kvs k' := by
  unfold putK
  split
  · rename_i h
    induction kvs with
    | nil => simp at h
    | cons p r ih =>
      by_cases e : p.1 = k
      · by_cases e2 : k' = k
        · rw [if_pos e2, List.map_cons, if_pos e]
          exact valV_pos (by rw [e2]; exact e)
        · have n1 : ¬ p.1 = k' := fun q => e2 (by rw [← q, e])
          rw [if_neg e2, List.map_cons, if_pos e, valV_neg (p := (p.1, v)) n1, valV_neg n1]
          by_cases h2 : (r.any fun kv => decide (kv.1 = k)) = true
          · have := ih h2
            rw [if_neg e2] at this
            exact this
          · have hm : r.map (fun kv => if kv.1 = k then (kv.1, v) else kv) = r := by
              have : ∀ x ∈ r, (fun kv : κ × V => if kv.1 = k then (kv.1, v) else kv) x = id x := by
                intro x hx
                have : ¬ x.1 = k := fun q => h2 (List.any_eq_true.mpr ⟨x, hx, by simpa using q⟩)
                simp [this]
              rw [List.map_congr_left this, List.map_id]
            rw [hm]
      · have h2 : (r.any fun kv => decide (kv.1 = k)) = true := by
          rw [List.any_cons] at h
          simpa [e] using h
        rw [List.map_cons, if_neg e]
        by_cases e3 : p.1 = k'
        · rw [valV_pos e3, valV_pos e3, if_neg (fun q => e (by rw [e3, q]))]
        · rw [valV_neg e3, valV_neg e3]
          exact ih h2
  · rename_i h
    induction kvs with
    | nil =>
      by_cases e2 : k' = k
      · rw [if_pos e2]; exact valV_pos e2.symm
      · rw [if_neg e2]; exact valV_neg (fun q => e2 q.symm)
    | cons p r ih =>
      have h1 : ¬ p.1 = k := fun q => h (by rw [List.any_cons]; simp [q])
      have h2 : ¬ (r.any fun kv => decide (kv.1 = k)) = true := fun q => h (by rw [List.any_cons, q]; simp)
      have := ih h2
      by_cases e3 : p.1 = k'
      · rw [List.cons_append, valV_pos e3, valV_pos e3, if_neg (fun q => h1 (by rw [e3, q]))]
      · rw [List.cons_append, valV_neg e3, valV_neg e3]
        exact this
theorem putK_length {κ : Type} [DecidableEq κ] (kvs : List (κ × V)) (k : κ) (v : V) : (putK kvs k v).length ≤ kvs.length + 1 := by
  unfold putK
  split
  · rw [List.length_map]; omega
  · rw [List.length_append]; exact Nat.le_refl _
end K1
end
section
set_option maxRecDepth 100000
set_option maxHeartbeats 4000000
namespace K1
open PySem L2 K01
section
variable {P : Program} {w : World} {K : PySem.W.Frag} {mg : Str → Option Value} {base : Heap}
abbrev sBadMark : Stmt := top 32
def markAt (ms : List Str) (i : Nat) : Str := (ms[i]?).getD ""
def badMark (ms : List Str) (i : Nat) : Bool := !(nameOk (markAt ms i)) || (decide (markAt ms i = "zero") || decide (markAt ms i ∈ ms.take i))
def Short (ms : List Str) : Prop := ms.length ≤ 1000 ∧ ∀ z ∈ ms, z.length ≤ 1000
def spBadMark (K : PySem.W.Frag) : Sp := fun vs H Q _ => ∃ (a : Addr) (ms : List Str), vs = [.ref a] ∧ strsT K H a ms ∧ Short ms ∧ ∀ H', Same H H' → Q (oV (first (badMark ms) ms.length)) H'
theorem scBadMark : FnScope ["marks", "at", "mark"] ["marks"] (defScope sBadMark) := ⟨rfl, rfl, rfl, by decide +kernel, rfl, by decide +kernel, by decide +kernel⟩
theorem ok_badMark {f fN : Addr} {fd fdN : FuncData} (F : Fun K "first_bad_mark" "first_bad_mark" sBadMark f fd) (T : Bi mg) (FN : Fun K "is_name" "is_name" sName fN fdN) (bN : Binds K fdN ["x"] []) (mN : mg "is_name" = some (.ref fN)) : FnOk P w K mg base CX0 2 f fd ["marks"] (spBadMark K) := by
  have GN : FnOk P w K mg base CX0 1 fN fdN ["x"] (spName K) := ok_name FN T
  refine F.ok scBadMark (fun vs H Q E h => ?_) (fun cdv A outer s H vs Q E hr h => ?_)
  · obtain ⟨_, _, rfl, _⟩ := h
    rfl
  · obtain ⟨a, ms, rfl, hm, hs, k⟩ := h
    refine ⟨_, pss_cons (ps_for PassesOwn.never rfl (pi_enumT (by rfl) T.enumerate (pa_cons (pv 0) pa_nil)) (pg_tup rfl (pgs_cons (pg_name (i := 1) scBadMark.nd rfl (.inl rfl)) (pgs_cons (pg_name (i := 2) scBadMark.nd rfl (.inl rfl)) pgs_nil)))
        (pss_one (ps_if (PW.pt (pw_or (pt_not (pt_val (pe_call GN hr rfl mN FN.kp bN .nil pass0 (pa_cons (pv 2) pa_nil)))) (pw_or (pt_cmpR op_eq (pv 2) pe_str (nomark _)) (pw_or1 (pt_cmpR op_in_seq (pv 2) (pe_slice sl_tupA (pv 0) po_none (po_some (pv 1))) (by rfl))))))
          (pss_one (ps_ret (pv 1))) pss_nil)))
      (pss_one (ps_ret pe_non)), ?_⟩
    refine ⟨_, rfl, a, _, rfl, hm, for_it (walk_enumT (K := K) (a := a)) (fun i σ H' => ∃ v1 v2 : Option V, σ = [some (.ref a), v1, v2] ∧ Same H H' ∧ ∀ j, j < i → badMark ms j = false)
      ⟨none, none, rfl, Same.refl H, fun j h => absurd h (Nat.not_lt_zero _)⟩ (fun i σ H' _ ⟨_, _, _, q, _⟩ => Same.tup q hm) ?_ ?_⟩
    · rintro i v σ H1 H2 hi ⟨v1, v2, rfl, q1, q2⟩ ⟨p, x, y, rfl, hp, rfl, hx, hy⟩
      obtain ⟨z, hz, rfl⟩ := get_map hy
      cases hx
      have hi' : i < ms.length := by rw [List.length_map] at hi; exact hi
      have s2 : Same H (upd H1 p (.tup [.int (i : Nat), .str z])) := q1.trans (Same.new hp)
      have hmk : markAt ms i = z := by unfold markAt; rw [hz]; rfl
      have hb : badMark ms i = (!(nameOk z) || (decide (z = "zero") || decide (z ∈ ms.take i))) := by unfold badMark; rw [hmk]
      have yes : ∀ H', Same H H' → badMark ms i = true → Q (.int (i : Nat)) H' := fun H' s3 e => by
        have := k H' s3
        rw [first_some hi' q2 e] at this
        exact this
      refine ⟨p, _, rfl, tup_at, rfl, _, _, rfl, _, _, rfl, rfl, _, rfl, ?_⟩
      refine ⟨z, rfl, hs.2 z (List.mem_of_getElem? hz), _, rfl, ?_⟩
      cases e1 : nameOk z with
      | false => exact iteT (iteT ⟨_, rfl, yes _ s2 (by rw [hb, e1]; rfl)⟩)
      | true =>
        refine iteF ⟨_, rfl, rfl, _, rfl, ?_⟩
        by_cases e2 : z = "zero"
        · exact iteDT (by rw [e2]) (iteT ⟨_, rfl, yes _ s2 (by rw [hb, e1, decide_eq_true e2]; rfl)⟩)
        · refine iteDF (fun q => e2 (V.str.inj q)) ?_
          have fin : ∀ H3 u, Same H H3 → SqT K H3 u ((ms.take i).map V.str) → ∃ p xs, V.ref u = .ref p ∧ (SqL K H3 p xs ∨ SqT K H3 p xs) ∧ flatV (.str z) = true ∧ xs.all flatV = true ∧ ∃ k', V.bl (if false = true then !inV (.str z) xs else inV (.str z) xs) = .bl k' ∧
              if k' = true then (∃ v, ([some (.ref a), some (.int (i : Nat)), some (.str z)] : List (Option V))[1]? = some (some v) ∧ Q v H3) else (∃ v1 v2 : Option V, ([some (.ref a), some (.int (i : Nat)), some (.str z)] : List (Option V)) = [some (.ref a), v1, v2] ∧ Same H H3 ∧ ∀ j, j < i + 1 → badMark ms j = false) := by
            intro H3 u s3 hu
            refine ⟨u, _, rfl, .inr hu, rfl, strs_flat _, _, rfl, ?_⟩
            rw [if_neg Bool.false_ne_true, inV_str]
            by_cases e3 : z ∈ ms.take i
            · exact iteDT e3 ⟨_, rfl, yes _ s3 (by rw [hb, decide_eq_true e3]; simp)⟩
            · refine iteDF e3 ⟨_, _, rfl, s3, fun j hj => ?_⟩
              by_cases e4 : j = i
              · rw [e4, hb, e1, decide_eq_false e2, decide_eq_false e3]; rfl
              · exact q2 j (by omega)
          refine ⟨_, rfl, _, rfl, _, rfl, _, rfl, a, _, rfl, Same.tup s2 hm, fun w => ?_, fun w u hu => ?_⟩
          · rw [HT.sIx_nat, HT.sIx_none, List.length_map] at w
            omega
          · exact fin _ u (s2.trans (Same.new hu)) (by rw [cut_take, ← List.map_take]; exact tup_at)
    · rintro σ H1 ⟨v1, v2, rfl, q1, q2⟩
      have := k H1 q1
      rw [first_none (fun j hj => q2 j (by rw [List.length_map]; exact hj))] at this
      exact this
end
end K1
end
section
set_option maxRecDepth 100000
set_option maxHeartbeats 4000000
namespace K1
open PySem L2 K01
section
variable {P : Program} {w : World} {K : PySem.W.Frag} {mg : Str → Option Value} {base : Heap}
abbrev sBadTake : Stmt := top 33
def badTake (ms ts : List Str) (i : Nat) : Bool := !decide (markAt ts i ∈ ms) || decide (markAt ts i ∈ ts.take i)
def spBadTake (K : PySem.W.Frag) : Sp := fun vs H Q _ => ∃ (a b : Addr) (ms ts : List Str), vs = [.ref a, .ref b] ∧ strsT K H a ms ∧ strsT K H b ts ∧ ∀ H', Same H H' → Q (oV (first (badTake ms ts) ts.length)) H'
theorem scBadTake : FnScope ["marks", "takes", "at", "take"] ["marks", "takes"] (defScope sBadTake) := ⟨rfl, rfl, rfl, by decide +kernel, rfl, by decide +kernel, by decide +kernel⟩
theorem ok_badTake {f : Addr} {fd : FuncData} (F : Fun K "first_bad_take" "first_bad_take" sBadTake f fd) (T : Bi mg) : FnOk P w K mg base CX0 1 f fd ["marks", "takes"] (spBadTake K) := by
  refine F.ok scBadTake (fun vs H Q E h => ?_) (fun cdv A outer s H vs Q E hr h => ?_)
  · obtain ⟨_, _, _, _, rfl, _⟩ := h
    rfl
  · obtain ⟨a, b, ms, ts, rfl, hm, ht, k⟩ := h
    refine ⟨_, pss_cons (ps_for PassesOwn.never rfl (pi_enumT (by rfl) T.enumerate (pa_cons (pv 1) pa_nil)) (pg_tup rfl (pgs_cons (pg_name (i := 2) scBadTake.nd rfl (.inl rfl)) (pgs_cons (pg_name (i := 3) scBadTake.nd rfl (.inl rfl)) pgs_nil)))
        (pss_one (ps_if (PW.pt (pw_or (pt_cmpR op_notIn_seq (pv 3) (pv 0) (by rfl)) (pw_or1 (pt_cmpR op_in_seq (pv 3) (pe_slice sl_tupA (pv 1) po_none (po_some (pv 2))) (by rfl)))))
          (pss_one (ps_ret (pv 2))) pss_nil)))
      (pss_one (ps_ret pe_non)), ?_⟩
    refine ⟨_, rfl, b, _, rfl, ht, for_it (walk_enumT (K := K) (a := b)) (fun i σ H' => ∃ v1 v2 : Option V, σ = [some (.ref a), some (.ref b), v1, v2] ∧ Same H H' ∧ ∀ j, j < i → badTake ms ts j = false)
      ⟨none, none, rfl, Same.refl H, fun j h => absurd h (Nat.not_lt_zero _)⟩ (fun i σ H' _ ⟨_, _, _, q, _⟩ => Same.tup q ht) ?_ ?_⟩
    · rintro i v σ H1 H2 hi ⟨v1, v2, rfl, q1, q2⟩ ⟨p, x, y, rfl, hp, rfl, hx, hy⟩
      obtain ⟨z, hz, rfl⟩ := get_map hy
      cases hx
      have hi' : i < ts.length := by rw [List.length_map] at hi; exact hi
      have s2 : Same H (upd H1 p (.tup [.int (i : Nat), .str z])) := q1.trans (Same.new hp)
      have hmk : markAt ts i = z := by unfold markAt; rw [hz]; rfl
      have hb : badTake ms ts i = (!decide (z ∈ ms) || decide (z ∈ ts.take i)) := by unfold badTake; rw [hmk]
      have yes : ∀ H', Same H H' → badTake ms ts i = true → Q (.int (i : Nat)) H' := fun H' s3 e => by
        have := k H' s3
        rw [first_some hi' q2 e] at this
        exact this
      refine ⟨p, _, rfl, tup_at, rfl, _, _, rfl, _, _, rfl, rfl, _, rfl, _, rfl, a, _, rfl, .inr (Same.tup s2 hm), rfl, strs_flat _, _, rfl, ?_⟩
      rw [if_pos rfl, inV_str]
      by_cases e1 : z ∈ ms
      · refine iteNS e1 ?_
        have fin : ∀ H3 u, Same H H3 → SqT K H3 u ((ts.take i).map V.str) → ∃ p xs, V.ref u = .ref p ∧ (SqL K H3 p xs ∨ SqT K H3 p xs) ∧ flatV (.str z) = true ∧ xs.all flatV = true ∧ ∃ k', V.bl (if false = true then !inV (.str z) xs else inV (.str z) xs) = .bl k' ∧
              if k' = true then (∃ v, ([some (.ref a), some (.ref b), some (.int (i : Nat)), some (.str z)] : List (Option V))[2]? = some (some v) ∧ Q v H3) else (∃ v1 v2 : Option V, ([some (.ref a), some (.ref b), some (.int (i : Nat)), some (.str z)] : List (Option V)) = [some (.ref a), some (.ref b), v1, v2] ∧ Same H H3 ∧ ∀ j, j < i + 1 → badTake ms ts j = false) := by
            intro H3 u s3 hu
            refine ⟨u, _, rfl, .inr hu, rfl, strs_flat _, _, rfl, ?_⟩
            rw [if_neg Bool.false_ne_true, inV_str]
            by_cases e3 : z ∈ ts.take i
            · exact iteDT e3 ⟨_, rfl, yes _ s3 (by rw [hb, decide_eq_true e3]; simp)⟩
            · refine iteDF e3 ⟨_, _, rfl, s3, fun j hj => ?_⟩
              by_cases e4 : j = i
              · rw [e4, hb, decide_eq_true e1, decide_eq_false e3]; rfl
              · exact q2 j (by omega)
        refine ⟨_, rfl, _, rfl, _, rfl, _, rfl, b, _, rfl, Same.tup s2 ht, fun w => ?_, fun w u hu => ?_⟩
        · rw [HT.sIx_nat, HT.sIx_none, List.length_map] at w
          omega
        · exact fin _ u (s2.trans (Same.new hu)) (by rw [cut_take, ← List.map_take]; exact tup_at)
      · exact iteNF e1 (iteT ⟨_, rfl, yes _ s2 (by rw [hb, decide_eq_false e1]; rfl)⟩)
    · rintro σ H1 ⟨v1, v2, rfl, q1, q2⟩
      have := k H1 q1
      rw [first_none (fun j hj => q2 j (by rw [List.length_map]; exact hj))] at this
      exact this
end
end K1
end
section
set_option maxRecDepth 100000
set_option maxHeartbeats 4000000
namespace K1
open PySem L2 K01
theorem ty_tup {K : PySem.W.Frag} {H : Hp} {a : Addr} {xs : List V} (h : SqT K H a xs) : TyX K H (.ref a) (Value.type "tuple") := by
  rcases h with (q | ⟨o, q⟩) | ⟨o, its, n, q1, q2, _⟩
  · exact .base (.tup q)
  · exact .fTuple q
  · exact .kTuple q1 q2
section
variable {P : Program} {w : World} {K : PySem.W.Frag} {mg : Str → Option Value} {base : Heap}
abbrev sFact : Stmt := top 34
def factOk (ns : List Str) : List V → Bool
  | [x, y, c] => inV x (ns.map V.str) && (inV y (ns.map V.str) && (!decide (x = y) && isWhole c))
  | _ => false
def spFact (K : PySem.W.Frag) : Sp := fun vs H Q _ => ∃ (p a : Addr) (xs : List V) (ns : List Str), vs = [.ref p, .ref a] ∧ SqT K H p xs ∧ (∀ x ∈ xs, Flat x) ∧ strsT K H a ns ∧ Q (.bl (factOk ns xs)) H
theorem scFact : FnScope ["fact", "names", "x", "y", "number"] ["fact", "names"] (defScope sFact) := ⟨rfl, rfl, rfl, by decide +kernel, rfl, by decide +kernel, by decide +kernel⟩
theorem ok_fact {f fW : Addr} {fd fdW : FuncData} (F : Fun K "is_fact" "is_fact" sFact f fd) (T : Bi mg) (FW : Fun K "is_whole" "is_whole" sWhole fW fdW) (bW : Binds K fdW ["x"] []) (mW : mg "is_whole" = some (.ref fW)) : FnOk P w K mg base CX0 2 f fd ["fact", "names"] (spFact K) := by
  have GW : FnOk P w K mg base CX0 1 fW fdW ["x"] (spWhole K) := ok_whole FW T
  refine F.ok scFact (fun vs H Q E h => ?_) (fun cdv A outer s H vs Q E hr h => ?_)
  · obtain ⟨_, _, _, _, rfl, _⟩ := h
    rfl
  · obtain ⟨p, a, xs, ns, rfl, hp, hf, hn, k⟩ := h
    refine ⟨_, pss_cons (ps_if (PW.pt (pw_or (pt_not (pt_val (pe_callB call_isi (by rfl) T.isinstance (by decide +kernel) (pa_cons (pv 0) (pa_cons (pe_ty (n := "tuple") (by rfl) T.tuple (by decide +kernel)) pa_nil)))))
          (pw_or1 (pt_cmpR op_ne (pe_callB call_len_seq (by rfl) T.len PySem.boot_len (pa_cons (pv 0) pa_nil)) pe_int (nomark _))))) (pss_one (ps_ret pe_bl)) pss_nil)
      (pss_cons (ps_asg (pv 0) (pg_tup rfl (pgs_cons (pg_name (i := 2) scFact.nd rfl (.inl rfl)) (pgs_cons (pg_name (i := 3) scFact.nd rfl (.inl rfl)) (pgs_cons (pg_name (i := 4) scFact.nd rfl (.inl rfl)) pgs_nil)))))
      (pss_one (ps_ret (pe_and (pe_cmpR op_in_seq (pv 2) (pv 1) (by rfl)) (pe_and (pe_cmpR op_in_seq (pv 3) (pv 1) (by rfl)) (pe_and (pe_cmpR op_ne (pv 2) (pv 3) (nomark _)) (pe_one (pe_call GW hr rfl mW FW.kp bW .nil pass0 (pa_cons (pv 4) pa_nil))))))))), ?_⟩
    have hS := hp
    refine ⟨_, rfl, _, _, _, _, true, rfl, .ty _, ty_tup hp, kit_ty (by decide +kernel), _, rfl, iteF ?_⟩
    refine ⟨_, rfl, p, _, rfl, .inr hS, rfl, _, rfl, ?_⟩
    by_cases e : xs.length = 3
    · obtain ⟨x, y, c, rfl⟩ : ∃ x y c, xs = [x, y, c] := by
        match xs, e with
        | [x, y, c], _ => exact ⟨x, y, c, rfl⟩
      refine iteNS (by rfl) ?_
      refine ⟨_, rfl, p, _, rfl, hS, rfl, _, _, rfl, _, _, rfl, _, _, rfl, rfl, ?_⟩
      have fx : Flat x := hf x (by simp)
      have fy : Flat y := hf y (by simp)
      have fc : Flat c := hf c (by simp)
      refine ⟨_, rfl, _, rfl, a, _, rfl, .inr hn, fx.v, strs_flat _, _, rfl, ?_⟩
      rw [if_neg Bool.false_ne_true]
      have k : Q (.bl (inV x (ns.map V.str) && (inV y (ns.map V.str) && (!decide (x = y) && isWhole c)))) H := k
      cases e1 : inV x (ns.map V.str) with
      | false => rw [e1] at k; exact iteF k
      | true =>
        rw [e1] at k
        refine iteT ⟨_, rfl, _, rfl, a, _, rfl, .inr hn, fy.v, strs_flat _, _, rfl, ?_⟩
        rw [if_neg Bool.false_ne_true]
        cases e2 : inV y (ns.map V.str) with
        | false => rw [e2] at k; exact iteF k
        | true =>
          rw [e2] at k
          have sx : ∃ z, x = .str z := by
            by_cases q : ∃ z, x = .str z
            · exact q
            · rw [inV_other fx (fun z e => q ⟨z, e⟩)] at e1; cases e1
          have sy : ∃ z, y = .str z := by
            by_cases q : ∃ z, y = .str z
            · exact q
            · rw [inV_other fy (fun z e => q ⟨z, e⟩)] at e2; cases e2
          obtain ⟨x, rfl⟩ := sx
          obtain ⟨y, rfl⟩ := sy
          refine iteT ⟨_, rfl, _, rfl, rfl, _, rfl, ?_⟩
          by_cases e3 : V.str x = V.str y
          · rw [decide_eq_true e3] at k ⊢
            exact iteF k
          · rw [decide_eq_false e3] at k ⊢
            exact iteT ⟨_, rfl, c, rfl, fc, k⟩
    · have h3 : ¬ V.int (xs.length : Nat) = V.int 3 := fun q => e (by have := V.int.inj q; omega)
      have : factOk ns xs = false := by
        unfold factOk
        split
        · exact absurd rfl e
        · rfl
      rw [this] at k
      first
        | exact iteNF h3 (iteT k)
        | exact iteNF h3 k
end
end K1
end
section
set_option maxRecDepth 100000
set_option maxHeartbeats 4000000
namespace K1
open PySem L2 K01
section
variable {P : Program} {w : World} {K : PySem.W.Frag} {mg : Str → Option Value} {base : Heap}
abbrev sBadFact : Stmt := top 35
def badFact (ms : List Str) (fs : List (List V)) (i : Nat) : Bool := !factOk ("zero" :: ms) ((fs[i]?).getD [])
def FlatF (fs : List (List V)) : Prop := ∀ xs ∈ fs, ∀ x ∈ xs, Flat x
def spBadFact (K : PySem.W.Frag) : Sp := fun vs H Q _ => ∃ (a b : Addr) (ms : List Str) (fs : List (List V)), vs = [.ref a, .ref b] ∧ strsT K H a ms ∧ ms.length ≤ 1000 ∧ TTAt K H b fs ∧ FlatF fs ∧ ∀ H', Same H H' → Q (oV (first (badFact ms fs) fs.length)) H'
theorem scBadFact : FnScope ["marks", "facts", "names", "at", "fact"] ["marks", "facts"] (defScope sBadFact) := ⟨rfl, rfl, rfl, by decide +kernel, rfl, by decide +kernel, by decide +kernel⟩
theorem ok_badFact {f fN fF fW : Addr} {fd fdN fdF fdW : FuncData} (F : Fun K "first_bad_fact" "first_bad_fact" sBadFact f fd) (T : Bi mg) (FN : Fun K "names_of" "names_of" sNames fN fdN) (bN : Binds K fdN ["marks"] []) (mN : mg "names_of" = some (.ref fN))
    (FF : Fun K "is_fact" "is_fact" sFact fF fdF) (bF : Binds K fdF ["fact", "names"] []) (mF : mg "is_fact" = some (.ref fF)) (FW : Fun K "is_whole" "is_whole" sWhole fW fdW) (bW : Binds K fdW ["x"] []) (mW : mg "is_whole" = some (.ref fW)) :
    FnOk P w K mg base CX0 3 f fd ["marks", "facts"] (spBadFact K) := by
  have GN : FnOk P w K mg base CX0 1 fN fdN ["marks"] (spNames K) := ok_names FN
  have GF : FnOk P w K mg base CX0 2 fF fdF ["fact", "names"] (spFact K) := ok_fact FF T FW bW mW
  refine F.ok scBadFact (fun vs H Q E h => ?_) (fun cdv A outer s H vs Q E hr h => ?_)
  · obtain ⟨_, _, _, _, rfl, _⟩ := h
    rfl
  · obtain ⟨a, b, ms, fs, rfl, hm, hl, ⟨ps, ht, hT⟩, hf, k⟩ := h
    refine ⟨_, pss_cons (ps_set (i := 2) scBadFact.nd rfl (.inl rfl) (pe_call GN (hr.mono (by decide)) rfl mN FN.kp bN .nil pass0 (pa_cons (pv 0) pa_nil)))
      (pss_cons (ps_for PassesOwn.never rfl (pi_enumT (by rfl) T.enumerate (pa_cons (pv 1) pa_nil)) (pg_tup rfl (pgs_cons (pg_name (i := 3) scBadFact.nd rfl (.inl rfl)) (pgs_cons (pg_name (i := 4) scBadFact.nd rfl (.inl rfl)) pgs_nil)))
        (pss_one (ps_if (pt_not (pt_val (pe_call GF hr rfl mF FF.kp bF .nil pass0 (pa_cons (pv 4) (pa_cons (pv 2) pa_nil)))))
          (pss_one (ps_ret (pv 3))) pss_nil)))
      (pss_one (ps_ret pe_non))), ?_⟩
    refine ⟨_, rfl, a, ms, rfl, hm, hl, fun H0 nm s0 hnm => ?_⟩
    refine ⟨_, rfl, b, _, rfl, Same.tup s0 ht, for_it (walk_enumT (K := K) (a := b)) (fun i σ H' => ∃ v1 v2 : Option V, σ = [some (.ref a), some (.ref b), some (.ref nm), v1, v2] ∧ Same H0 H' ∧ ∀ j, j < i → badFact ms fs j = false)
      ⟨none, none, rfl, Same.refl H0, fun j h => absurd h (Nat.not_lt_zero _)⟩ (fun i σ H' _ ⟨_, _, _, q, _⟩ => Same.tup (s0.trans q) ht) ?_ ?_⟩
    · rintro i v σ H1 H2 hi ⟨v1, v2, rfl, q1, q2⟩ ⟨p, x, y, rfl, hp, rfl, hx, hy⟩
      obtain ⟨pf, hpf, rfl⟩ := get_map hy
      obtain ⟨xs, hxs, hH⟩ := hT.get hpf
      cases hx
      have hi' : i < fs.length := (List.getElem?_eq_some_iff.mp hxs).1
      have s2 : Same H (upd H1 p (.tup [.int (i : Nat), .ref pf])) := (s0.trans q1).trans (Same.new hp)
      have hb : badFact ms fs i = !factOk ("zero" :: ms) xs := by unfold badFact; rw [hxs]; rfl
      refine ⟨p, _, rfl, tup_at, rfl, _, _, rfl, _, _, rfl, rfl, _, rfl, _, rfl, pf, nm, xs, _, rfl, SqT.of (s2 _ _ hH), hf xs (List.mem_of_getElem? hxs), Same.tup (q1.trans (Same.new hp)) hnm, _, rfl, ?_⟩
      cases e : factOk ("zero" :: ms) xs with
      | false =>
        refine iteT ⟨_, rfl, ?_⟩
        have := k _ s2
        rw [first_some hi' q2 (by rw [hb, e]; rfl)] at this
        exact this
      | true =>
        refine iteF ⟨_, _, rfl, q1.trans (Same.new hp), fun j hj => ?_⟩
        by_cases e4 : j = i
        · rw [e4, hb, e]; rfl
        · exact q2 j (by omega)
    · rintro σ H1 ⟨v1, v2, rfl, q1, q2⟩
      have := k H1 (s0.trans q1)
      rw [first_none (fun j hj => q2 j (by rw [List.length_map, hT.1]; exact hj))] at this
      exact this
end
end K1
end
section
set_option maxRecDepth 100000
set_option maxHeartbeats 4000000
namespace K1
open PySem L2 K01
section
variable {P : Program} {w : World} {K : PySem.W.Frag} {mg : Str → Option Value} {base : Heap}
abbrev sSpots : Stmt := top 31
abbrev nodes (ms : List Str) : List Str := "zero" :: ms
/-- a dict from the names to what f says of their places -/
def DictOf (H : Hp) (d : Addr) (ns : List Str) (f : Nat → V) : Prop := ∃ kvs, H d = some (.dK kvs) ∧ kvs.length ≤ ns.length ∧ ∀ (i : Nat) (z : Str), ns[i]? = some z → valV kvs (Sum.inr z) = some (f i)
theorem DictOf.same {H H' : Hp} {d : Addr} {ns : List Str} {f : Nat → V} (e : Same H H') (h : DictOf H d ns f) : DictOf H' d ns f := by
  obtain ⟨kvs, h1, h2⟩ := h
  exact ⟨kvs, e _ _ h1, h2⟩
theorem nodup_get {ns : List Str} (hN : ns.Nodup) {i j : Nat} {z : Str} (h1 : ns[i]? = some z) (h2 : ns[j]? = some z) : i = j := nd_ix hN h1 h2
def spSpots (K : PySem.W.Frag) : Sp := fun vs H Q _ => ∃ (a : Addr) (ms : List Str), vs = [.ref a] ∧ strsT K H a ms ∧ ms.length ≤ 900 ∧ (nodes ms).Nodup ∧ ∀ H' d, Same H H' → DictOf H' d (nodes ms) (fun i => .int (i : Nat)) → Q (.ref d) H'
theorem scSpots : FnScope ["marks", "spot", "name"] ["marks"] (defScope sSpots) := ⟨rfl, rfl, rfl, by decide +kernel, rfl, by decide +kernel, by decide +kernel⟩
theorem ok_spots {f fN : Addr} {fd fdN : FuncData} (F : Fun K "spots_of" "spots_of" sSpots f fd) (T : Bi mg) (FN : Fun K "names_of" "names_of" sNames fN fdN) (bN : Binds K fdN ["marks"] []) (mN : mg "names_of" = some (.ref fN)) : FnOk P w K mg base CX0 2 f fd ["marks"] (spSpots K) := by
  have GN : FnOk P w K mg base CX0 1 fN fdN ["marks"] (spNames K) := ok_names FN
  refine F.ok scSpots (fun vs H Q E h => ?_) (fun cdv A outer s H vs Q E hr h => ?_)
  · obtain ⟨_, _, rfl, _⟩ := h
    rfl
  · obtain ⟨a, ms, rfl, hm, hl, hN, k⟩ := h
    refine ⟨_, pss_one (ps_ret (pe_dc (own := [("spot", 1), ("name", 2)]) (g := gTup K 2 (gCons (gName 1) (gCons (gName 2) gNil))) rfl scSpots.nd (pi_enumT (by rfl) T.enumerate (pa_cons (pe_call GN hr rfl mN FN.kp bN .nil pass0 (pa_cons (pv 0) pa_nil)) pa_nil))
      (blkOk_by (N := ["marks", "spot", "name"]) (sc := defScope sSpots) (by decide +kernel))
      (fun _ _ _ _ _ => pg_tup rfl (pgs_cons (pg_name (i := 1) scSpots.nd rfl (.inl rfl)) (pgs_cons (pg_name (i := 2) scSpots.nd rfl (.inl rfl)) pgs_nil)))
      (fun _ _ _ _ _ => pts_nil) (fun _ _ _ _ _ => pv 2) (fun _ _ _ _ _ => pv 1))), ?_⟩
    refine ⟨_, rfl, a, ms, rfl, hm, by omega, fun H0 nm s0 hnm => ⟨nm, _, rfl, hnm, fun D hD => ?_⟩⟩
    refine dc_it (walk_enumT (K := K) (a := nm)) (fun i H' => Same H0 H' ∧ ∃ kvs, H' D = some (.dK kvs) ∧ kvs.length ≤ i ∧ ∀ (j : Nat) (z : Str), j < i → (nodes ms)[j]? = some z → valV kvs (Sum.inr z) = some (.int (j : Nat))) ?_ (fun i H' _ q => Same.tup q.1 hnm) ?_ ?_
    · exact ⟨Same.new hD, [], upd_same, Nat.le_refl _, fun j z h => absurd h (Nat.not_lt_zero _)⟩
    · rintro i v H1 H2 hi ⟨q1, kvs, q2, q3, q4⟩ ⟨p, x, y, rfl, hp, rfl, hx, hy⟩
      obtain ⟨z, hz, rfl⟩ := get_map hy
      cases hx
      have nD : p ≠ D := fun e => by rw [e, q2] at hp; cases hp
      refine ⟨p, _, rfl, tup_at, rfl, _, _, rfl, _, _, rfl, rfl, rfl, yes_ ⟨_, rfl, _, rfl, kvs, Sum.inr z, rfl, by rw [upd_ne nD.symm]; exact q2, ?_, Same.set (q1.trans (Same.new hp)) hD, _, upd_same, ?_, ?_⟩⟩
      · rw [List.length_map, List.length_cons] at hi
        exact small1000 (by omega)
      · exact Nat.le_trans (putK_length _ _ _) (by omega)
      · intro j u hj hu
        rw [valV_put]
        by_cases e : j = i
        · subst e
          rw [hz] at hu
          cases hu
          rw [if_pos rfl]
        · rw [if_neg (fun q => e (nodup_get hN hu (by rw [Sum.inr.inj q]; exact hz))), q4 j u (by omega) hu]
    · rintro H1 ⟨q1, kvs, q2, q3, q4⟩
      rw [List.length_map] at q3 q4
      refine k H1 D (s0.trans q1) ⟨kvs, q2, q3, fun j z h => q4 j z (List.getElem?_eq_some_iff.mp h).1 h⟩
end
end K1
end
section
set_option maxRecDepth 100000
set_option maxHeartbeats 4000000
namespace K1
open PySem L2 K01
theorem DictOf.get {H : Hp} {d : Addr} {ns : List Str} {f : Nat → V} (h : DictOf H d ns f) {i : Nat} {z : Str} (e : ns[i]? = some z) : DGet H d (.str z) (some (f i)) := by
  obtain ⟨kvs, h1, h2, h3⟩ := h
  rw [← h3 i z e]
  exact .inl ⟨kvs, Sum.inr z, .inl h1, rfl, rfl⟩
def zeros (ms : List Str) : List Fact := ms.map fun m => ("zero", m, 0)
section
variable {P : Program} {w : World} {K : PySem.W.Frag} {mg : Str → Option Value} {base : Heap}
abbrev sAll : Stmt := top 37
def spAll (K : PySem.W.Frag) : Sp := fun vs H Q _ => ∃ (a b : Addr) (ms : List Str) (ps : List Addr), vs = [.ref a, .ref b] ∧ strsT K H a ms ∧ SqT K H b (ps.map V.ref) ∧ ms.length ≤ 900 ∧ ps.length ≤ 900 ∧
  ∀ H' l qs, Same H H' → H l = none → H' l = some (.lst ((ps ++ qs).map V.ref)) → TupsAt H' qs ((zeros ms).map factV) → Q (.ref l) H'
theorem scAll : FnScope ["marks", "facts", "mark"] ["marks", "facts"] (defScope sAll) := ⟨rfl, rfl, rfl, by decide +kernel, rfl, by decide +kernel, by decide +kernel⟩
theorem ok_all {f : Addr} {fd : FuncData} (F : Fun K "all_facts" "all_facts" sAll f fd) : FnOk P w K mg base CX0 1 f fd ["marks", "facts"] (spAll K) := by
  refine F.ok scAll (fun vs H Q E h => ?_) (fun cdv A outer s H vs Q E hr h => ?_)
  · obtain ⟨_, _, _, _, rfl, _⟩ := h
    rfl
  · obtain ⟨a, b, ms, ps, rfl, hm, hp, hl, hz, k⟩ := h
    refine ⟨_, pss_one (ps_ret (pe_lst (StX.pa_star (pv 1) (StX.pa_star (pe_lc (own := [("mark", 2)]) (g := gName 2) rfl scAll.nd (pi_tup (pv 0)) (blkOk_by (N := ["marks", "facts", "mark"]) (sc := defScope sAll) (by decide +kernel))
      (fun _ _ _ _ _ => pg_name (i := 2) scAll.nd rfl (.inl rfl)) (fun _ _ _ _ _ => pts_nil) (fun _ _ _ _ _ => pe_tup (pa_cons pe_str (pa_cons (pv 2) (pa_cons pe_int pa_nil))))) pa_nil)))), ?_⟩
    refine ⟨_, rfl, b, _, rfl, .inl hp, _, rfl, a, rfl, ⟨_, hm⟩, fun D hD => lc_it (walk_tup (K := K) (a := a)) (fun i H' => Same H H' ∧ ∃ qs, H' D = some (.lst (qs.map V.ref)) ∧ TupsAt H' qs (((zeros ms).take i).map factV)) ⟨Same.new hD, [], upd_same, .nil⟩ (fun i H' _ q => Same.tup q.1 hm) ?_ ?_⟩
    · rintro i v H1 H2 hi ⟨q1, qs, q2, q3⟩ ⟨rfl, hv⟩
      obtain ⟨z, hz', rfl⟩ := get_map hv
      have hi' : i < ms.length := by rw [List.length_map] at hi; exact hi
      refine ⟨rfl, yes_ ⟨_, rfl, by show 3 ≤ sizeLine; decide, fun p hp' => ?_⟩⟩
      have nD : p ≠ D := fun e => by rw [e, q2] at hp'; cases hp'
      have ql : qs.length = i := by
        have := q3.1
        rw [List.length_map, List.length_take, zeros, List.length_map] at this
        omega
      refine ⟨_, by rw [upd_ne nD.symm]; exact q2, by rw [List.length_map]; exact small1000 (by omega), Same.set (q1.trans (Same.new hp')) hD, qs ++ [p], ?_, ?_⟩
      · rw [upd_same, List.map_append]; rfl
      · have hg : (zeros ms)[i]? = some ((("zero" : Str), z, (0 : Int)) : Fact) := by unfold zeros; rw [List.getElem?_map, hz']; rfl
        rw [take_snoc hg, List.map_append]
        have h2 : (upd H2 p (HO.tup [.str "zero", .str z, .int 0])) D = some (.lst (qs.map V.ref)) := by rw [upd_ne nD.symm]; exact q2
        exact (TupsAt.upd h2 (q3.same (Same.new hp'))).snoc (by rw [upd_ne nD]; exact upd_same)
    · rintro H1 ⟨q1, qs, q2, q3⟩
      have e : ((zeros ms).take (ms.map V.str).length) = zeros ms := by
        rw [List.length_map]
        have : (zeros ms).length = ms.length := by unfold zeros; rw [List.length_map]
        rw [← this, List.take_length]
      rw [e] at q3
      have ql : qs.length = ms.length := by
        have := q3.1
        rw [List.length_map, zeros, List.length_map] at this
        exact this
      refine ⟨D, _, rfl, .inr (SqL.of q2), ?_, fun l hl' => ?_⟩
      · rw [List.length_append, List.length_append, List.length_map, List.length_map]
        exact Nat.le_of_lt (Nat.lt_of_le_of_lt (show _ ≤ 2000 by simp; omega) (by decide))
      · refine k _ l qs (q1.trans (Same.new hl')) (Same.free q1 hl') ?_ (q3.same (Same.new hl'))
        rw [upd_same, List.map_append, List.append_nil]
abbrev sStraight : Stmt := top 38
def straight (a b : Cell) (c : Int) : Bool := match b with | none => false | some d => decide (a = some (c + d))
def spStraight (K : PySem.W.Frag) : Sp := fun vs H Q _ => ∃ (p d : Addr) (fa : Fact) (ns : List Str) (col : Nat → Cell) (i j : Nat), vs = [.ref p, .ref d] ∧ H p = some (.tup (factV fa)) ∧ DictOf H d ns (fun i => cV (col i)) ∧ ns[i]? = some fa.1 ∧ ns[j]? = some fa.2.1 ∧ Q (.bl (straight (col i) (col j) fa.2.2)) H
theorem scStraight : FnScope ["fact", "ahead", "x", "y", "number"] ["fact", "ahead"] (defScope sStraight) := ⟨rfl, rfl, rfl, by decide +kernel, rfl, by decide +kernel, by decide +kernel⟩
theorem ok_straight {f : Addr} {fd : FuncData} (F : Fun K "is_straight" "is_straight" sStraight f fd) : FnOk P w K mg base CX0 1 f fd ["fact", "ahead"] (spStraight K) := by
  refine F.ok scStraight (fun vs H Q E h => ?_) (fun cdv A outer s H vs Q E hr h => ?_)
  · obtain ⟨_, _, _, _, _, _, _, rfl, _⟩ := h
    rfl
  · obtain ⟨p, d, ⟨x, y, c⟩, ns, col, i, j, rfl, hp, hd, hi, hj, k⟩ := h
    have hu := hu_of hr
    refine ⟨_, pss_cons (ps_asg (pv 0) (pg_tup rfl (pgs_cons (pg_name (i := 2) scStraight.nd rfl (.inl rfl)) (pgs_cons (pg_name (i := 3) scStraight.nd rfl (.inl rfl)) (pgs_cons (pg_name (i := 4) scStraight.nd rfl (.inl rfl)) pgs_nil)))))
      (pss_one (ps_ret (pe_and (pe_cmpR op_notN (pe_dget hu (pv 1) (pv 3) (fun _ _ => rfl)) pe_non (nomark _)) (pe_one (pe_cmpR op_eq (pe_dget hu (pv 1) (pv 2) (fun _ _ => rfl)) (pe_op op_add (pv 4) (pe_dget hu (pv 1) (pv 3) (fun _ _ => rfl))) (nomark _)))))), ?_⟩
    refine ⟨_, rfl, p, _, rfl, .inl (.inl hp), rfl, _, _, rfl, _, _, rfl, _, _, rfl, rfl, ?_⟩
    have gx : DGet H d (.str x) (some (cV (col i))) := hd.get hi
    have gy : DGet H d (.str y) (some (cV (col j))) := hd.get hj
    refine ⟨_, rfl, _, rfl, d, _, rfl, gy, rfl, _, rfl, ?_⟩
    have k : Q (.bl (straight (col i) (col j) c)) H := k
    unfold straight at k
    cases e : col j with
    | none => rw [e] at k; exact iteF k
    | some b =>
      rw [e] at k gy
      refine iteT ⟨_, rfl, _, rfl, d, _, rfl, gx, _, rfl, _, rfl, _, rfl, d, _, rfl, gy, _, _, rfl, rfl, ?_, ?_⟩
      · cases col i <;> rfl
      · have e2 : decide (cV (col i) = V.int (c + b)) = decide (col i = some (c + b)) := by
          cases e3 : col i with
          | none => rfl
          | some a0 =>
            rw [Bool.eq_iff_iff]
            simp [cV]
        show Q (.bl (decide (cV (col i) = V.int (c + b)))) H
        rw [e2]
        exact k
end
end K1
end
section
set_option maxRecDepth 100000
namespace K1
open PySem L2 K01
def ix (ms : List Str) (z : Str) : Nat := (nodes ms).idxOf z
def eF (ms : List Str) (f : Fact) : Edge := (ix ms f.1, ix ms f.2.1, f.2.2)
theorem ix_get {ms : List Str} {z : Str} (h : z ∈ nodes ms) : (nodes ms)[ix ms z]? = some z := by
  have h1 : (nodes ms).idxOf z < (nodes ms).length := List.idxOf_lt_length_of_mem h
  unfold ix
  rw [List.getElem?_eq_getElem h1, List.getElem_idxOf h1]
theorem ix_lt {ms : List Str} {z : Str} (h : z ∈ nodes ms) : ix ms z < ms.length + 1 := List.idxOf_lt_length_of_mem h
theorem ix_of {ms : List Str} {z : Str} {i : Nat} (hN : (nodes ms).Nodup) (h : (nodes ms)[i]? = some z) : ix ms z = i :=
  nodup_get hN (ix_get (List.mem_of_getElem? h)) h
theorem ix_inj {ms : List Str} {u v : Str} (hu : u ∈ nodes ms) (hv : v ∈ nodes ms) (e : ix ms u = ix ms v) : u = v := by
  have h1 := ix_get hu
  have h2 := ix_get hv
  rw [e, h2] at h1
  exact (Option.some.inj h1).symm
/-- the facts speak of nodes -/
def InN (ms : List Str) (F : List Fact) : Prop := ∀ f ∈ F, f.1 ∈ nodes ms ∧ f.2.1 ∈ nodes ms
theorem InN.inR {ms : List Str} {F : List Fact} (h : InN ms F) : InR (ms.length + 1) (F.map (eF ms)) := by
  intro e he
  obtain ⟨f, hf, rfl⟩ := List.mem_map.mp he
  exact ⟨ix_lt (h f hf).1, ix_lt (h f hf).2⟩
theorem zeros_in (ms : List Str) : InN ms (zeros ms) := by
  intro f hf
  obtain ⟨m, hm, rfl⟩ := List.mem_map.mp hf
  exact ⟨List.mem_cons_self, List.mem_cons_of_mem _ hm⟩
theorem zeros_edges {ms : List Str} (hN : (nodes ms).Nodup) : (zeros ms).map (eF ms) = zeroE ms.length := by
  unfold zeros zeroE
  apply List.ext_getElem?
  intro i
  rw [List.map_map, List.getElem?_map, List.getElem?_map]
  by_cases h : i < ms.length
  · rw [List.getElem?_eq_getElem h, List.getElem?_range h]
    have e0 : ix ms ("zero" : Str) = 0 := ix_of hN rfl
    have e1 : ix ms ms[i] = i + 1 := ix_of hN (by rw [List.getElem?_cons_succ, List.getElem?_eq_getElem h])
    show some (eF ms ("zero", ms[i], 0)) = _
    unfold eF
    rw [e0, e1]
    rfl
  · rw [List.getElem?_eq_none (by omega), List.getElem?_eq_none (by simp; omega)]
    rfl
/-- a way of facts from x to y, of this sum -/
def isPath (F : List Fact) : Str → Str → Int → List Fact → Prop
  | x, y, c, [] => x = y ∧ c = 0
  | x, y, c, f :: r => f ∈ F ∧ f.1 = x ∧ isPath F f.2.1 y (c - f.2.2) r
theorem isPath.snoc {F : List Fact} {f : Fact} (hf : f ∈ F) : ∀ {CH : List Fact} {x : Str} {c : Int}, isPath F x f.1 c CH → isPath F x f.2.1 (c + f.2.2) (CH ++ [f])
  | [], x, c, h => by
    obtain ⟨rfl, rfl⟩ := h
    exact ⟨hf, rfl, rfl, by omega⟩
  | g :: r, x, c, h => by
    obtain ⟨h1, h2, h3⟩ := h
    refine ⟨h1, h2, ?_⟩
    have := isPath.snoc hf h3
    have e : c - g.2.2 + f.2.2 = c + f.2.2 - g.2.2 := by omega
    rw [e] at this
    exact this
theorem isPath.walk {ms : List Str} {F : List Fact} : ∀ {CH : List Fact} {x y : Str} {c : Int}, isPath F x y c CH → Walk (F.map (eF ms)) (ix ms x) (ix ms y) c
  | [], x, y, c, h => by
    obtain ⟨rfl, rfl⟩ := h
    exact .nil _
  | g :: r, x, y, c, h => by
    obtain ⟨h1, rfl, h3⟩ := h
    have w := Walk.cons (List.mem_map.mpr ⟨g, h1, rfl⟩) (isPath.walk (ms := ms) h3)
    have e : g.2.2 + (c - g.2.2) = c := by omega
    rw [e] at w
    exact w
theorem isPath.mono {F G : List Fact} (h : ∀ f ∈ F, f ∈ G) : ∀ {CH : List Fact} {x y : Str} {c : Int}, isPath F x y c CH → isPath G x y c CH
  | [], _, _, _, q => q
  | _ :: _, _, _, _, ⟨h1, h2, h3⟩ => ⟨h _ h1, h2, isPath.mono h h3⟩
theorem isPath.mem {F : List Fact} : ∀ {CH : List Fact} {x y : Str} {c : Int}, isPath F x y c CH → ∀ f ∈ CH, f ∈ F
  | [], _, _, _, _, f, hf => nomatch hf
  | g :: r, _, _, _, ⟨h1, h2, h3⟩, f, hf => by
    rcases List.mem_cons.mp hf with rfl | hf
    · exact h1
    · exact h3.mem f hf
/-- how many of the nodes the dict has not -/
def lacks (ns : List Str) (kvs : List (Key × V)) : Nat := (ns.filter fun z => (valV kvs (Sum.inr z)).isNone).length
theorem filter_le {α : Type} {p q : α → Bool} : ∀ {l : List α}, (∀ x ∈ l, p x = true → q x = true) → (l.filter p).length ≤ (l.filter q).length
  | [], _ => Nat.le_refl _
  | a :: l, h => by
    have ih := filter_le (p := p) (q := q) (l := l) fun x hx => h x (List.mem_cons_of_mem _ hx)
    rw [List.filter_cons, List.filter_cons]
    by_cases e : p a = true
    · rw [if_pos e, if_pos (h a List.mem_cons_self e)]
      simp only [List.length_cons]; omega
    · rw [if_neg e]
      split
      · simp only [List.length_cons]; omega
      · exact ih
theorem filter_lt {α : Type} {p q : α → Bool} : ∀ {l : List α}, (∀ x ∈ l, p x = true → q x = true) → ∀ {z : α}, z ∈ l → q z = true → p z = false → (l.filter p).length < (l.filter q).length
  | [], _, z, hz, _, _ => nomatch hz
  | a :: l, h, z, hz, h1, h2 => by
    have ih := filter_le (p := p) (q := q) (l := l) fun x hx => h x (List.mem_cons_of_mem _ hx)
    rw [List.filter_cons, List.filter_cons]
    rcases List.mem_cons.mp hz with rfl | hz
    · rw [if_neg (by rw [h2]; exact Bool.false_ne_true), if_pos h1]
      simp only [List.length_cons]; omega
    · have ih2 := filter_lt (p := p) (q := q) (l := l) (fun x hx => h x (List.mem_cons_of_mem _ hx)) hz h1 h2
      by_cases e : p a = true
      · rw [if_pos e, if_pos (h a List.mem_cons_self e)]
        simp only [List.length_cons]; omega
      · rw [if_neg e]
        split
        · simp only [List.length_cons]; omega
        · exact ih2
theorem lacks_put {ns : List Str} {kvs : List (Key × V)} {z : Str} {v : V} (hz : z ∈ ns) (h : valV kvs (Sum.inr z) = none) : lacks ns (putK kvs (Sum.inr z) v) < lacks ns kvs := by
  unfold lacks
  refine filter_lt (fun x _ hx => ?_) hz (by rw [h]; rfl) (by rw [L2.valV_put, if_pos rfl]; rfl)
  rw [L2.valV_put] at hx
  split at hx
  · cases hx
  · exact hx
end K1
end
section
set_option maxRecDepth 100000
set_option maxHeartbeats 4000000
namespace K1
open PySem PySem.Spec PyProof.Rows L2
section
variable {X : Cx}
theorem ps_setDc {i : Nat} {y : Str} {py : Pos} {kx vx tg iter : Expr} {ifs : List Expr} {scope : Scope} {own : List (Str × Nat)} {pos spos : Pos} {wi : TI} {g : TG} {tt : TT} {tk tv : TE} (hc : X.calm = true) (hN : X.N.Nodup) (hy : X.N[i]? = some y) (hyl : X.env.scope.names.lookup y = some .local)
    (hsw : swapsWith (.DictComp kx vx [⟨tg, iter, ifs, 0⟩] scope pos) (some (.Name y py)) spos.line X.env = pure true) (hi : PI X tg iter wi) (ok : BlkOk X.N X.env.scope scope own)
    (hg : ∀ (s : Shared) (H : Hp) (C : Addr) (cl : List (Str × Addr)) (fp : List Addr), PG (X.blk s H scope (compEnvC scope cl C X.env) fp) tg g) (ht : ∀ (s : Shared) (H : Hp) (C : Addr) (cl : List (Str × Addr)) (fp : List Addr), PTs (X.blk s H scope (compEnvC scope cl C X.env) fp) ifs tt)
    (hk : ∀ (s : Shared) (H : Hp) (C : Addr) (cl : List (Str × Addr)) (fp : List Addr), PE (X.blk s H scope (compEnvC scope cl C X.env) fp) kx tk)
    (he : ∀ (s : Shared) (H : Hp) (C : Addr) (cl : List (Str × Addr)) (fp : List Addr), PE (X.blk s H scope (compEnvC scope cl C X.env) fp) vx tv) (hs : ∀ x, foldedSetIterable iter X.env x = pure x := by intro _; rfl) :
    PS X (.Assign [.Name y py] (.DictComp kx vx [⟨tg, iter, ifs, 0⟩] scope pos) spos) (tAsg (tDc wi g tt tk tv (own.map (·.2))) (gName i)) := by
  refine ⟨fun pins s σ H D I h => ?_⟩
  rw [exec_Assign_Name_used _ _ _ _ hsw]
  refine wpAny_bind (wpAny_standAt (wpAny_bind ?_))
  show wpAny _ X.A (do let _ ← comprehension (.DictComp kx vx [⟨tg, iter, ifs, 0⟩] scope pos) scope X.env (firstIterPos [⟨tg, iter, ifs, 0⟩] pos) newDict false (eval iter X.env) (some (assign (.Name y py) X.env))) _ _ s
  have h : tDc wi g tt tk tv (own.map (·.2)) σ H (fun x H1 => gName i x σ H1 D.nx) := h
  refine wpAny_bind (thn (dc_core (Qf := fun _ s' => SP X pins D .next s') hc hN I hi ok hg ht hk he hs h fun L C s' m H' I' q hn f => ?_) fun _ s' hq => wpAny_pure (wpAny_pure hq))
  show wpAny _ _ (assign (.Name y py) X.env (.ref L)) _ _ _
  refine wpAny_assign_Name (store_ok2 (v := V.ref L) I' hN hy (.inl hyl) rfl (fun s2 I2 ⟨a, sb, ha⟩ => ?_) (.inr hyl))
  obtain ⟨f0, f1, f2, f3, f4, f5⟩ := f
  have haC : C ≠ a := by
    rcases ha with z | z
    · rw [z]; exact f1
    · exact fun e => f4 y a z e.symm
  refine ⟨m, hn.sameBut sb haC, fun h3 sb3 => ?_⟩
  exact ⟨_, H', I2.turned (t' := s2.toks) (fun b o hb e => (sb3.2 b hb).trans e) f0 f1 f3 f4 f5, q⟩
theorem sw_trueD {kx vx : Expr} {gs : List Comprehension} {scope : Scope} {pos py : Pos} {y : Str} {l : Nat} {env : Env} (hk : env.scope.kind = .function) (hy : env.scope.names.lookup y = some .local) (hl : (py.line == pos.line) = true)
    (ha : (scope.names.any fun (n, k) => n == y && (k == .local || k == .cell)) = false) : swapsWith (.DictComp kx vx gs scope pos) (some (.Name y py)) l env = pure true := by
  have ky : env.kindOf y = some .local := hy
  have hb : env.blockKind = .function := by unfold Env.blockKind; rw [hk]; rfl
  unfold swapsWith
  simp only [hb, ky, ha, Expr.pos, hl]
  rfl
end
end K1
end
section
set_option maxRecDepth 100000
set_option maxHeartbeats 4000000
namespace K1
open PySem L2 K01
section
variable {P : Program} {w : World} {K : PySem.W.Frag} {mg : Str → Option Value} {base : Heap}
abbrev sChain : Stmt := top 39
/-- what the dict of the ways holds -/
def CI (ms : List Str) (F : List Fact) (B : Mat) (x y : Str) (d : Int) (H0 H : Hp) (kvs : List (Key × V)) : Prop :=
  kvs.length + lacks (nodes ms) kvs ≤ ms.length + 1 ∧ (valV kvs (Sum.inr x)).isSome = true ∧ ∀ z v, z ∈ nodes ms → valV kvs (Sum.inr z) = some v →
    ∃ l qs CH du, v = .ref l ∧ (H0 l = none ∧ (z = x → qs = [])) ∧ H l = some (.lst (qs.map V.ref)) ∧ qs.length + lacks (nodes ms) kvs ≤ ms.length + 1 ∧ TupsAt H qs (CH.map factV) ∧ cell B (ix ms z) (ix ms y) = some du ∧ isPath F x z (d - du) CH
theorem CI.same {ms : List Str} {F : List Fact} {B : Mat} {x y : Str} {d : Int} {H0 H H' : Hp} {kvs : List (Key × V)} (h : CI ms F B x y d H0 H kvs) (e : Same H H') : CI ms F B x y d H0 H' kvs := by
  obtain ⟨h1, h2, h3⟩ := h
  refine ⟨h1, h2, fun z v hz hv => ?_⟩
  obtain ⟨l, qs, CH, du, q1, q0, q2, q3, q4, q5, q6⟩ := h3 z v hz hv
  exact ⟨l, qs, CH, du, q1, q0, e _ _ q2, q3, q4.same e, q5, q6⟩
theorem TupsAt.updD {H : Hp} {l : Addr} {kvs ws : List (Key × V)} {ps : List Addr} {xss : List (List V)} (hl : H l = some (.dK kvs)) (h : TupsAt H ps xss) : TupsAt (L2.upd H l (.dK ws)) ps xss :=
  ⟨h.1, fun i p r q1 q2 => by
    have := h.2 i p r q1 q2
    rw [upd_ne (fun z => by rw [z, hl] at this; cases this)]
    exact this⟩
/-- one way more -/
theorem CI.put {ms : List Str} {F : List Fact} {B : Mat} {x y : Str} {d : Int} {H0 H : Hp} {kvs : List (Key × V)} (h : CI ms F B x y d H0 H kvs) {D : Addr} (hD : H D = some (.dK kvs)) {f : Fact} (hf : f ∈ F) (h1 : f.1 ∈ nodes ms) (h2 : f.2.1 ∈ nodes ms)
    (hv : valV kvs (Sum.inr f.2.1) = none) {l p : Addr} {qs : List Addr} {CH : List Fact} {d1 d2 : Int} (q3 : qs.length + lacks (nodes ms) kvs ≤ ms.length + 1) (q4 : TupsAt H qs (CH.map factV)) (q5 : cell B (ix ms f.1) (ix ms y) = some d1)
    (q6 : isPath F x f.1 (d - d1) CH) (c2 : cell B (ix ms f.2.1) (ix ms y) = some d2) (e : d1 = f.2.2 + d2) (hl : H l = some (.lst ((qs ++ [p]).map V.ref))) (hp : H p = some (.tup (factV f))) (hfr : H0 l = none) :
    CI ms F B x y d H0 (upd H D (.dK (putK kvs (Sum.inr f.2.1) (.ref l)))) (putK kvs (Sum.inr f.2.1) (.ref l)) := by
  obtain ⟨g1, g2, g3⟩ := h
  have hlk := lacks_put (v := V.ref l) h2 hv
  have hln := L2.length_putK kvs (Sum.inr f.2.1) (V.ref l)
  refine ⟨by omega, ?_, fun z v hz hzv => ?_⟩
  · rw [L2.valV_put]
    split
    · rfl
    · exact g2
  · rw [L2.valV_put] at hzv
    by_cases ez : (Sum.inr z : Key) = Sum.inr f.2.1
    · rw [if_pos ez] at hzv
      cases hzv
      have ez' : z = f.2.1 := Sum.inr.inj ez
      subst ez'
      refine ⟨l, qs ++ [p], CH ++ [f], d2, rfl, ⟨hfr, fun e => by rw [← e, hv] at g2; cases g2⟩, ?_, ?_, ?_, c2, ?_⟩
      · rw [upd_ne (fun z => by rw [z, hD] at hl; cases hl)]; exact hl
      · rw [List.length_append, List.length_singleton]; omega
      · rw [List.map_append]
        exact (q4.updD hD).snoc (by rw [upd_ne (fun z => by rw [z, hD] at hp; cases hp)]; exact hp)
      · have := isPath.snoc hf q6
        have e2 : d - d1 + f.2.2 = d - d2 := by omega
        rw [e2] at this
        exact this
    · rw [if_neg ez] at hzv
      obtain ⟨l', qs', CH', du, r1, r0, r2, r3, r4, r5, r6⟩ := g3 z v hz hzv
      refine ⟨l', qs', CH', du, r1, r0, ?_, by omega, r4.updD hD, r5, r6⟩
      rw [upd_ne (fun z => by rw [z, hD] at r2; cases r2)]; exact r2
def Out (ms : List Str) (B : Mat) (y : Str) (kvs : List (Key × V)) (f : Fact) : Prop :=
  (valV kvs (Sum.inr f.1)).isSome = true ∧ valV kvs (Sum.inr f.2.1) = none ∧ straight (cell B (ix ms f.1) (ix ms y)) (cell B (ix ms f.2.1) (ix ms y)) f.2.2 = true
theorem out_exists {ms : List Str} {F : List Fact} {B : Mat} {x y : Str} {d : Int} {kvs : List (Key × V)} (hI : InN ms F) (G : Good (ms.length + 1) (F.map (eF ms)) B) (hx : x ∈ nodes ms) (hy : y ∈ nodes ms) (hc : cell B (ix ms x) (ix ms y) = some d)
    (h1 : (valV kvs (Sum.inr x)).isSome = true) (h2 : valV kvs (Sum.inr y) = none) : ∃ (k : Nat) (f : Fact), F[k]? = some f ∧ Out ms B y kvs f := by
  obtain ⟨u, v, k, d1, d2, e, su, sv, c1, c2, e2⟩ := G.out hI.inR (fun u => ∃ z, z ∈ nodes ms ∧ ix ms z = u ∧ (valV kvs (Sum.inr z)).isSome = true) (G.tightW hI.inR (ix_lt hx) (ix_lt hy) hc) (ix_lt hx) (ix_lt hy) hc ⟨x, hx, rfl, h1⟩
    (fun ⟨z, hz, ez, hv⟩ => by rw [ix_inj hz hy ez, h2] at hv; cases hv)
  obtain ⟨f, hf, ef⟩ := List.mem_map.mp e
  have i1 := hI f hf
  simp only [eF, Prod.mk.injEq] at ef
  obtain ⟨rfl, rfl, rfl⟩ := ef
  obtain ⟨n, hn⟩ := List.getElem?_of_mem hf
  refine ⟨n, f, hn, ?_, ?_, ?_⟩
  · obtain ⟨z, hz, ez, hv⟩ := su
    rw [ix_inj hz i1.1 ez] at hv
    exact hv
  · cases q : valV kvs (Sum.inr f.2.1) with
    | none => rfl
    | some v => exact absurd ⟨f.2.1, i1.2, rfl, by rw [q]; rfl⟩ sv
  · unfold straight
    rw [c1, c2, e2]
    simp
def spChain (K : PySem.W.Frag) : Sp := fun vs H Q _ => ∃ (a b m : Addr) (x y : Str) (ms : List Str) (ps : List Addr) (FS : List Fact) (B : Mat) (d : Int), vs = [.ref a, .ref b, .ref m, .str x, .str y] ∧ strsT K H a ms ∧ ms.length ≤ 900 ∧ (nodes ms).Nodup ∧
  SqT K H b (ps.map V.ref) ∧ TupsAt H ps (FS.map factV) ∧ ps.length ≤ 900 ∧ InN ms FS ∧ MatAt K H m B ∧ Good (ms.length + 1) ((FS ++ zeros ms).map (eF ms)) B ∧ x ∈ nodes ms ∧ y ∈ nodes ms ∧ cell B (ix ms x) (ix ms y) = some d ∧
  ∀ H' l qs CH, Same H H' → H l = none → (x = y → qs = []) → H' l = some (.lst (qs.map V.ref)) → qs.length ≤ 2000 → TupsAt H' qs (CH.map factV) → isPath (FS ++ zeros ms) x y d CH → Q (.ref l) H'
theorem scChain : FnScope ["marks", "facts", "bounds", "x", "y", "goal", "ahead", "chains", "fact", "name", "row"] ["marks", "facts", "bounds", "x", "y"] (defScope sChain) := ⟨rfl, rfl, rfl, by decide +kernel, rfl, by decide +kernel, by decide +kernel⟩
theorem ok_chain {f fS fN fA fT : Addr} {fd fdS fdN fdA fdT : FuncData} (F : Fun K "chain_of" "chain_of" sChain f fd) (T : Bi mg) (Fs : Fun K "spots_of" "spots_of" sSpots fS fdS) (bS : Binds K fdS ["marks"] []) (mS : mg "spots_of" = some (.ref fS))
    (FN : Fun K "names_of" "names_of" sNames fN fdN) (bN : Binds K fdN ["marks"] []) (mN : mg "names_of" = some (.ref fN)) (FA : Fun K "all_facts" "all_facts" sAll fA fdA) (bA : Binds K fdA ["marks", "facts"] []) (mA : mg "all_facts" = some (.ref fA))
    (FT : Fun K "is_straight" "is_straight" sStraight fT fdT) (bT : Binds K fdT ["fact", "ahead"] []) (mT : mg "is_straight" = some (.ref fT)) :
    FnOk P w K mg base CX0 3 f fd ["marks", "facts", "bounds", "x", "y"] (spChain K) := by
  have GN : FnOk P w K mg base CX0 1 fN fdN ["marks"] (spNames K) := ok_names FN
  have GS : FnOk P w K mg base CX0 2 fS fdS ["marks"] (spSpots K) := ok_spots Fs T FN bN mN
  have GA : FnOk P w K mg base CX0 1 fA fdA ["marks", "facts"] (spAll K) := ok_all FA
  have GT : FnOk P w K mg base CX0 1 fT fdT ["fact", "ahead"] (spStraight K) := ok_straight FT
  refine F.ok scChain (fun vs H Q E h => ?_) (fun cdv A outer s H vs Q E hr h => ?_)
  · obtain ⟨_, _, _, _, _, _, _, _, _, _, rfl, _⟩ := h
    rfl
  · obtain ⟨a, b, m, x, y, ms, ps, FS, B, d, rfl, hm, hl, hN, hb, hT, hz, hI, hM, G, hx, hy, hc, k⟩ := h
    have hu := hu_of hr
    have hr1 : Room 1 _ := hr.mono (by decide)
    refine ⟨_, pss_cons (ps_set (i := 5) scChain.nd rfl (.inr rfl) (pe_dget hu (pe_call GS hr rfl mS Fs.kp bS .nil pass0 (pa_cons (pv 0) pa_nil)) (pv 4) (fun _ _ => rfl)))
      (pss_cons (ps_setDc (i := 6) (own := [("name", 9), ("row", 10)]) (g := gTup K 2 (gCons (gName 9) (gCons (gName 10) gNil))) (tv := tOp (rIxT K) (tVar 10) (tVar 5)) rfl scChain.nd rfl rfl (sw_trueD rfl rfl rfl (by decide +kernel))
        (RZ.pi_zipA (by rfl) T.zip (pa_cons (pe_call GN hr1 rfl mN FN.kp bN .nil pass0 (pa_cons (pv 0) pa_nil)) (pa_cons (pv 2) pa_nil)))
        (blkOk_by (N := ["marks", "facts", "bounds", "x", "y", "goal", "ahead", "chains", "fact", "name", "row"]) (sc := defScope sChain) (by decide +kernel))
        (fun _ _ _ _ _ => pg_tup rfl (pgs_cons (pg_name (i := 9) scChain.nd rfl (.inl rfl)) (pgs_cons (pg_name (i := 10) scChain.nd rfl (.inl rfl)) pgs_nil)))
        (fun _ _ _ _ _ => pts_nil) (fun _ _ _ _ _ => pv 9) (fun _ _ _ _ _ => pe_ix ix_tup (pv 10) (pv 5) (fun _ _ => rfl)))
      (pss_cons (ps_set (i := 7) scChain.nd rfl (.inl rfl) (pe_disp (pps_cons (pv 3) (pe_lst pa_nil) pps_nil) (by rfl) (by rfl) (fun z => by cases z) (by decide)))
      (pss_cons (ps_while PassesOwn.never (pt_cmp (pc_dnotin hu (pv 4) (pv 7)))
        (pss_one (ps_for PassesOwn.never rfl (pi_list (pe_call GA hr1 rfl mA FA.kp bA .nil pass0 (pa_cons (pv 0) (pa_cons (pv 1) pa_nil)))) (pg_name (i := 8) scChain.nd rfl (.inl rfl))
          (pss_one (ps_if (PW.pt (pw_and (pt_cmp (pc_din hu (pe_ix ix_tup (pv 8) pe_int (fun _ _ => rfl)) (pv 7))) (pw_and (pt_cmp (pc_dnotin hu (pe_ix ix_tup (pv 8) pe_int (fun _ _ => rfl)) (pv 7)))
              (pw_and1 (pt_val (pe_call GT hr1 rfl mT FT.kp bT .nil pass0 (pa_cons (pv 8) (pa_cons (pv 6) pa_nil))))))))
            (pss_one (ps_dput hu (pv 7) (pe_ix ix_tup (pv 8) pe_int (fun _ _ => rfl)) (pe_lst (StX.pa_star (pe_dget hu (pv 7) (pe_ix ix_tup (pv 8) pe_int (fun _ _ => rfl)) (fun _ _ => rfl)) (pa_cons (pv 8) pa_nil))) rfl)) pss_nil)))))
      (pss_one (ps_ret (pe_dget hu (pv 7) (pv 4) (fun _ _ => rfl))))))), ?_⟩
    refine ⟨_, rfl, a, ms, rfl, hm, hl, hN, fun H1 sd s1 hsd => ⟨_, rfl, sd, _, rfl, hsd.get (ix_get hy), ?_⟩⟩
    obtain ⟨as, l1, m2, m3⟩ := id hM
    have hjl : ix ms y < ms.length + 1 := ix_lt hy
    refine ⟨_, rfl, a, ms, rfl, Same.tup s1 hm, by omega, fun H2 nm s2 hnm => ⟨_, rfl, nm, m, _, _, rfl, .inr ⟨hnm, Same.tup (s1.trans s2) m2, fun D hD => ?_⟩⟩⟩
    have hlen : ((nodes ms).map V.str).length = (as.map V.ref).length := by rw [List.length_map, List.length_map, l1, G.sized.1]; rfl
    refine dc_it (walk_zipT (K := K) (a := nm) (b := m) hlen) (fun i H' => Same H2 H' ∧ ∃ kvs, H' D = some (.dK kvs) ∧ kvs.length ≤ i ∧ ∀ (j : Nat) (z : Str), j < i → (nodes ms)[j]? = some z → valV kvs (Sum.inr z) = some (cV (cell B j (ix ms y)))) ?_ (fun i H' _ q => ⟨Same.tup q.1 hnm, Same.tup ((s1.trans s2).trans q.1) m2⟩) ?_ ?_
    · exact ⟨Same.new hD, [], upd_same, Nat.le_refl _, fun j z h => absurd h (Nat.not_lt_zero _)⟩
    · rintro i v Ha Hb hi ⟨q1, kvs, q2, q3, q4⟩ ⟨p, x', y', rfl, hp, rfl, hx', hy'⟩
      obtain ⟨z, hz', rfl⟩ := get_map hx'
      obtain ⟨pr, hpr, rfl⟩ := get_map hy'
      have nD : p ≠ D := fun e => by rw [e, q2] at hp; cases hp
      have hi' : i < ms.length + 1 := (List.getElem?_eq_some_iff.mp hz').1
      obtain ⟨r, hr1', hr2'⟩ := G.sized.row hi'
      have hR : RowAt K (upd Ha p (.tup [.str z, .ref pr])) pr r := Same.tup (((s1.trans s2).trans q1).trans (Same.new hp)) (m3 i pr r hpr hr1')
      have hcl : (r.map cV)[ix ms y]? = some (cV (cell B i (ix ms y))) := by
        have := row_cell G.sized hi' hjl
        rw [rowAt_of hr1'] at this
        exact this
      refine ⟨p, _, rfl, tup_at, rfl, _, _, rfl, _, _, rfl, rfl, rfl, yes_ ⟨_, rfl, _, rfl, _, rfl, _, _, _, _, rfl, rfl, hR, atI_nat hcl, kvs, Sum.inr z, rfl, by rw [upd_ne nD.symm]; exact q2, small1000 (by omega), Same.set (q1.trans (Same.new hp)) hD, _, upd_same, ?_, ?_⟩⟩
      · exact Nat.le_trans (L2.length_putK _ _ _) (by omega)
      · intro j u hj hu'
        rw [L2.valV_put]
        by_cases e : j = i
        · subst e
          rw [hz'] at hu'
          cases hu'
          rw [if_pos rfl]
        · rw [if_neg (fun q => e (nodup_get hN hu' (by rw [Sum.inr.inj q]; exact hz'))), q4 j u (by omega) hu']
    rintro H3 ⟨q1, kvs, q2, q3, q4⟩
    rw [List.length_map] at q3 q4
    have hA : DictOf H3 D (nodes ms) (fun i => cV (cell B i (ix ms y))) := ⟨kvs, q2, q3, fun j z h => q4 j z (List.getElem?_eq_some_iff.mp h).1 h⟩
    have s3 : Same H H3 := (s1.trans s2).trans q1
    clear q4 q3 q2 q1 kvs
    intro Dc hDc
    refine ⟨_, rfl, Nat.zero_le _, fun l0 hl0 => ⟨?_, [(Sum.inr x, .ref l0)], rfl, by show 1 ≤ 15; decide, ?_⟩⟩
    · rw [upd_ne (fun z => by rw [← z, upd_same] at hl0; cases hl0)]; exact upd_same
    have nl0 : l0 ≠ Dc := fun z => by rw [z, upd_same] at hl0; cases hl0
    have hl00 : H3 l0 = none := by rw [upd_ne nl0] at hl0; exact hl0
    have s4 : Same H3 (upd (upd (upd H3 Dc (.dK [])) l0 (.lst [])) Dc (.dK (mergeK [] [(Sum.inr x, .ref l0)]))) := Same.set (Same.set (Same.new hDc) hl00) hDc
    have hDH : H Dc = none := Same.free s3 hDc
    have hF : InN ms (FS ++ zeros ms) := fun f hf => by
      rcases List.mem_append.mp hf with h | h
      · exact hI f h
      · exact zeros_in ms f h
    have em : mergeK [] [((Sum.inr x : Key), V.ref l0)] = [(Sum.inr x, .ref l0)] := rfl
    rw [em] at s4 ⊢
    refine while_by (fun σ H' => ∃ (v : Option V) (kvs : List (Key × V)), σ = [some (.ref a), some (.ref b), some (.ref m), some (.str x), some (.str y), some (.int (ix ms y : Nat)), some (.ref D), some (.ref Dc), v, none, none] ∧ Same H3 H' ∧ H' Dc = some (.dK kvs) ∧ CI ms (FS ++ zeros ms) B x y d H H' kvs)
      (fun _ H' => match H' Dc with | some (.dK kvs) => lacks (nodes ms) kvs | _ => 0) ?_ ?_ ?_
    · refine ⟨none, _, rfl, s4, upd_same, ?_, ?_, ?_⟩
      · have h1 : lacks (nodes ms) (putK ([] : List (Key × V)) (Sum.inr x) (.ref l0)) < lacks (nodes ms) ([] : List (Key × V)) := lacks_put hx rfl
        have h2 : lacks (nodes ms) ([] : List (Key × V)) ≤ ms.length + 1 := List.length_filter_le _ _
        have h3 : (putK ([] : List (Key × V)) (Sum.inr x) (.ref l0)) = [(Sum.inr x, .ref l0)] := rfl
        rw [h3] at h1
        show 1 + _ ≤ _
        omega
      · rw [valV_pos rfl]; rfl
      · intro z v hz' hv
        by_cases e : x = z
        · subst e
          rw [valV_pos rfl] at hv
          cases hv
          refine ⟨l0, [], [], d, rfl, ⟨s3.free hl00, fun _ => rfl⟩, ?_, ?_, .nil, hc, rfl, by omega⟩
          · rw [upd_ne nl0]; exact upd_same
          · exact Nat.le_trans (by rw [List.length_nil, Nat.zero_add]; exact Nat.le_refl _) (List.length_filter_le _ _)
        · rw [valV_neg (fun q => e (Sum.inr.inj q))] at hv
          cases hv
    · rintro σ H5 ⟨v, kvs, rfl, s5, hDk, hCI⟩
      refine ⟨_, rfl, _, rfl, Dc, _, rfl, DGet.k (k := Sum.inr y) hDk, _, rfl, ?_⟩
      cases ey : valV kvs (Sum.inr y) with
      | some v0 =>
        refine iteF ?_
        obtain ⟨l, qs, CH, du, rfl, r0, r2, r3, r4, r5, r6⟩ := hCI.2.2 y v0 hy ey
        have hdu : du = 0 := by
          obtain ⟨d', e1, e2⟩ := G.diag0 hjl
          rw [r5] at e1
          cases e1
          have := G.diag hjl (k := du) ⟨du, r5, Int.le_refl _⟩
          omega
        subst hdu
        rw [Int.sub_zero] at r6
        have gy : DGet H5 Dc (.str y) (some (.ref l)) := by rw [← ey]; exact DGet.k (k := Sum.inr y) hDk
        exact ⟨_, rfl, _, rfl, Dc, _, rfl, gy, k H5 l qs CH (s3.trans s5) r0.1 (fun e => r0.2 e.symm) r2 (by omega) r4 r6⟩
      | none =>
        refine iteT ?_
        refine ⟨_, rfl, _, rfl, a, b, ms, ps, rfl, Same.tup (s3.trans s5) hm, Same.tup (s3.trans s5) hb, hl, hz, fun H6 L qs6 s6 hL0 hL hZ => ⟨L, rfl, ⟨_, SqL.of hL⟩, ?_⟩⟩
        have hTT : TupsAt H6 (ps ++ qs6) ((FS ++ zeros ms).map factV) := by
          rw [List.map_append]
          exact (hT.same ((s3.trans s5).trans s6)).app hZ
        have nLD : L ≠ Dc := fun z => by rw [z, hDk] at hL0; cases hL0
        refine for_it (walk_list (K := K) (a := L)) (fun i σ H' => ∃ (v : Option V) (kv2 : List (Key × V)), σ = [some (.ref a), some (.ref b), some (.ref m), some (.str x), some (.str y), some (.int (ix ms y : Nat)), some (.ref D), some (.ref Dc), v, none, none] ∧ Same H3 H' ∧ H' L = some (.lst ((ps ++ qs6).map V.ref)) ∧ TupsAt H' (ps ++ qs6) ((FS ++ zeros ms).map factV) ∧ H' Dc = some (.dK kv2) ∧ CI ms (FS ++ zeros ms) B x y d H H' kv2 ∧
          (lacks (nodes ms) kv2 < lacks (nodes ms) kvs ∨ (kv2 = kvs ∧ ∀ (j : Nat) (f : Fact), j < i → (FS ++ zeros ms)[j]? = some f → ¬ Out ms B y kvs f))) ?_ (fun i σ H' _ ⟨_, _, _, _, q, _⟩ => SqL.of q) ?_ ?_
        · exact ⟨v, kvs, rfl, s5.trans s6, hL, hTT, s6 _ _ hDk, hCI.same s6, .inr ⟨rfl, fun j f h => absurd h (Nat.not_lt_zero _)⟩⟩
        · rintro i v' σ H7 H8 hi ⟨v1, kv2, rfl, s7, hL7, hT7, hD7, hC7, hP7⟩ ⟨rfl, hv'⟩
          obtain ⟨pf, hpf, rfl⟩ := get_map hv'
          obtain ⟨xs, hxs, hpt⟩ := hT7.get hpf
          obtain ⟨f, hf, rfl⟩ := get_map hxs
          have hfm := List.mem_of_getElem? hf
          have i1 := hF f hfm
          have hSq : SqT K H8 pf (factV f) := .inl (.inl hpt)
          have stay : ¬ Out ms B y kv2 f → ∃ (v : Option V) (kv3 : List (Key × V)), [some (.ref a), some (.ref b), some (.ref m), some (.str x), some (.str y), some (.int (ix ms y : Nat)), some (.ref D), some (.ref Dc), some (.ref pf), none, none] = [some (V.ref a), some (.ref b), some (.ref m), some (.str x), some (.str y), some (.int (ix ms y : Nat)), some (.ref D), some (.ref Dc), v, none, none] ∧ Same H3 H8 ∧ H8 L = some (.lst ((ps ++ qs6).map V.ref)) ∧ TupsAt H8 (ps ++ qs6) ((FS ++ zeros ms).map factV) ∧ H8 Dc = some (.dK kv3) ∧ CI ms (FS ++ zeros ms) B x y d H H8 kv3 ∧
              (lacks (nodes ms) kv3 < lacks (nodes ms) kvs ∨ (kv3 = kvs ∧ ∀ (j : Nat) (f : Fact), j < i + 1 → (FS ++ zeros ms)[j]? = some f → ¬ Out ms B y kvs f)) := by
            intro no
            refine ⟨_, kv2, rfl, s7, hL7, hT7, hD7, hC7, ?_⟩
            rcases hP7 with h | ⟨rfl, h⟩
            · exact .inl h
            · refine .inr ⟨rfl, fun j g hj hg => ?_⟩
              by_cases e : j = i
              · subst e
                rw [hf] at hg
                cases hg
                exact no
              · exact h j g (by omega) hg
          refine ⟨_, rfl, _, _, _, _, rfl, rfl, hSq, at_of (j := 0) rfl rfl, _, rfl, Dc, _, rfl, DGet.k (k := Sum.inr f.1) hD7, _, rfl, ?_⟩
          cases e1 : valV kv2 (Sum.inr f.1) with
          | none => exact iteF (stay fun o => by rw [Out, e1] at o; cases o.1)
          | some w1 =>
            refine iteT ⟨_, rfl, _, _, _, _, rfl, rfl, hSq, at_of (j := 1) rfl rfl, _, rfl, Dc, _, rfl, DGet.k (k := Sum.inr f.2.1) hD7, _, rfl, ?_⟩
            cases e2 : valV kv2 (Sum.inr f.2.1) with
            | some w2 => exact iteF (stay fun o => by rw [Out, e2] at o; cases o.2.1)
            | none =>
              refine iteT ⟨_, rfl, _, rfl, pf, D, f, nodes ms, fun i => cell B i (ix ms y), ix ms f.1, ix ms f.2.1, rfl, hpt, hA.same s7, ix_get i1.1, ix_get i1.2, _, rfl, ?_⟩
              cases e3 : straight (cell B (ix ms f.1) (ix ms y)) (cell B (ix ms f.2.1) (ix ms y)) f.2.2 with
              | false => exact iteF (stay fun o => by rw [Out, e3] at o; cases o.2.2)
              | true =>
                obtain ⟨l1', qs, CH, du, rfl, r0, r2, r3, r4, r5, r6⟩ := hC7.2.2 f.1 w1 i1.1 e1
                have g1 : DGet H8 Dc (.str f.1) (some (.ref l1')) := by rw [← e1]; exact DGet.k (k := Sum.inr f.1) hD7
                refine iteT ⟨_, rfl, _, rfl, _, _, _, _, rfl, rfl, hSq, at_of (j := 0) rfl rfl, Dc, _, rfl, g1, l1', _, rfl, .inr (SqL.of r2), _, rfl, ?_, fun l2 hl2 => ?_⟩
                · rw [List.length_append, List.length_map]
                  show qs.length + 1 ≤ sizeLine
                  exact Nat.le_of_lt (Nat.lt_of_le_of_lt (show qs.length + 1 ≤ 1000 by omega) (by decide))
                · have hD9 : (upd H8 l2 (.lst (qs.map V.ref ++ [.ref pf]))) Dc = some (.dK kv2) := Same.new hl2 _ _ hD7
                  refine ⟨_, rfl, _, rfl, _, _, _, _, rfl, rfl, Same.tup (Same.new hl2) hSq, at_of (j := 1) rfl rfl, Dc, _, rfl, DPut.k (k := Sum.inr f.2.1) hD9 (small1000 (by have := hC7.1; omega)), ?_⟩
                  have hDH3 : H3 Dc = none := hDc
                  have s8 : Same H8 (upd H8 l2 (.lst (qs.map V.ref ++ [.ref pf]))) := Same.new hl2
                  have hs : straight (some du) (cell B (ix ms f.2.1) (ix ms y)) f.2.2 = true := by rw [← r5]; exact e3
                  obtain ⟨d2, c2, c3⟩ : ∃ d2, cell B (ix ms f.2.1) (ix ms y) = some d2 ∧ du = f.2.2 + d2 := by
                    unfold straight at hs
                    cases q : cell B (ix ms f.2.1) (ix ms y) with
                    | none => rw [q] at hs; cases hs
                    | some d2 =>
                      rw [q] at hs
                      exact ⟨d2, rfl, by simpa using hs⟩
                  refine ⟨_, _, rfl, Same.set (s7.trans s8) hDH3, ?_, ?_, upd_same, (hC7.same s8).put hD9 hfm i1.1 i1.2 e2 (l := l2) (p := pf) (qs := qs) (CH := CH) (d1 := du) (d2 := d2) r3 (r4.same s8) r5 r6 c2 c3 ?_ (s8 _ _ hpt) ((s3.trans s7).free hl2), ?_⟩
                  · rw [upd_ne nLD]; exact s8 _ _ hL7
                  · exact TupsAt.updD hD9 (hT7.same s8)
                  · rw [upd_same, List.map_append]; rfl
                  · left
                    have := lacks_put (v := V.ref l2) i1.2 e2
                    rcases hP7 with h | ⟨rfl, h⟩
                    · omega
                    · exact this
        · rintro σ H7 ⟨v1, kv2, rfl, s7, hL7, hT7, hD7, hC7, hP7⟩
          refine ⟨⟨v1, kv2, rfl, s7, hD7, hC7⟩, ?_⟩
          rw [hD7, hDk]
          show lacks (nodes ms) kv2 < lacks (nodes ms) kvs
          rcases hP7 with h | ⟨rfl, h⟩
          · exact h
          · obtain ⟨n, f, hn, ho⟩ := out_exists hF G hx hy hc hCI.2.1 ey
            refine absurd ho (h n f ?_ hn)
            have := (List.getElem?_eq_some_iff.mp hn).1
            rw [List.length_map]
            have e := hT7.1
            rw [List.length_map] at e
            omega
    · rintro σ Hx Q1 Q2 h ⟨v, e1, v2, e2, a', o, e3, g, c, e4, q⟩
      exact ⟨v, e1, v2, e2, a', o, e3, g, c, e4, h _ _ q⟩
end
end K1
end
section
set_option maxRecDepth 100000
set_option maxHeartbeats 4000000
namespace K1
open PySem L2 K01
section
variable {P : Program} {w : World} {K : PySem.W.Frag} {mg : Str → Option Value} {base : Heap}
abbrev sLesser : Stmt := top 9
def spLesser (K : PySem.W.Frag) : Sp := fun vs H Q _ => ∃ (a b : Addr) (r o : List Cell) (s : Int), vs = [.ref a, .int s, .ref b] ∧ RowAt K H a r ∧ RowAt K H b o ∧ r.length = o.length ∧ r.length ≤ 1000 ∧
  ∀ H' p, Same H H' → RowAt K H' p (lesserRow r s o) → Q (.ref p) H'
theorem scLesser : FnScope ["row", "step", "onward", "old", "more"] ["row", "step", "onward"] (defScope sLesser) := ⟨rfl, rfl, rfl, by decide +kernel, rfl, by decide +kernel, by decide +kernel⟩
theorem lesser_getElem {r o : List Cell} {s : Int} {i : Nat} {x y : Cell} (h1 : r[i]? = some x) (h2 : o[i]? = some y) : (lesserRow r s o)[i]? = some (lesser1 s x y) := by
  unfold lesserRow
  rw [List.getElem?_zipWith, h1, h2]
theorem ok_lesser {f : Addr} {fd : FuncData} (F : Fun K "lesser_row" "lesser_row" sLesser f fd) (T : Bi mg) : FnOk P w K mg base CX0 1 f fd ["row", "step", "onward"] (spLesser K) := by
  refine F.ok scLesser (fun vs H Q E h => ?_) (fun cdv A outer s H vs Q E hr h => ?_)
  · obtain ⟨_, _, _, _, _, rfl, _⟩ := h
    rfl
  · obtain ⟨a, b, r, o, c, rfl, hR, hO, hl, hz, k⟩ := h
    refine ⟨_, pss_one (ps_ret (pe_callTy call_tuple_of (by rfl) T.tuple (by decide +kernel) (pa_cons
      (pe_lc (own := [("old", 3), ("more", 4)]) (g := gTup K 2 (gCons (gName 3) (gCons (gName 4) gNil))) rfl scLesser.nd (RZ.pi_zipA (by rfl) T.zip (pa_cons (pv 0) (pa_cons (pv 2) pa_nil)))
        (blkOk_by (N := ["row", "step", "onward", "old", "more"]) (sc := defScope sLesser) (by decide +kernel))
        (fun _ _ _ _ _ => pg_tup rfl (pgs_cons (pg_name (i := 3) scLesser.nd rfl (.inl rfl)) (pgs_cons (pg_name (i := 4) scLesser.nd rfl (.inl rfl)) pgs_nil)))
        (fun _ _ _ _ _ => pts_nil)
        (fun _ _ _ _ _ => pe_ifExp (PW.pt (pw_or (pt_cmpR op_isN (pv 4) pe_non (nomark _)) (pw_or1 (PW.pt (pw_and (pt_cmpR op_notN (pv 3) pe_non (nomark _)) (pw_and1 (pt_cmpR op_le (pv 3) (pe_op op_add (pv 1) (pv 4)) (nomark _))))))))
          (pv 3) (pe_op op_add (pv 1) (pv 4)))) pa_nil))), ?_⟩
    have hl' : (r.map cV).length = (o.map cV).length := by rw [List.length_map, List.length_map, hl]
    refine ⟨_, rfl, _, rfl, a, b, _, _, rfl, .inr ⟨hR, hO, fun D hD => lc_it (walk_zipT (K := K) (a := a) (b := b) hl') (fun i H' => Same H H' ∧ H' D = some (.lst (((lesserRow r c o).take i).map cV))) ⟨Same.new hD, upd_same⟩ (fun i H' _ q => ⟨Same.tup q.1 hR, Same.tup q.1 hO⟩) ?_ ?_⟩⟩
    · rintro i v H1 H2 hi ⟨q1, q2⟩ ⟨p, x, y, rfl, hp, rfl, hx, hy⟩
      obtain ⟨x, hx', rfl⟩ := get_map hx
      obtain ⟨y, hy', rfl⟩ := get_map hy
      have hi' : i < r.length := by simpa using hi
      have nD : p ≠ D := fun e => by rw [e, q2] at hp; cases hp
      refine ⟨p, _, rfl, tup_at, rfl, _, _, rfl, _, _, rfl, rfl, rfl, ?_⟩
      have fin : ∀ {z}, z = cV (lesser1 c x y) → ∃ acc, (upd H1 p (HO.tup [cV x, cV y])) D = some (HO.lst acc) ∧ acc.length < sizeLine ∧ (Same H (upd (upd H1 p (HO.tup [cV x, cV y])) D (.lst (acc ++ [z]))) ∧ (upd (upd H1 p (HO.tup [cV x, cV y])) D (.lst (acc ++ [z]))) D = some (.lst (((lesserRow r c o).take (i + 1)).map cV))) := by
        intro z hz'
        refine ⟨_, by rw [upd_ne nD.symm]; exact q2, ?_, fun u ob e => ?_, ?_⟩
        · rw [List.length_map, List.length_take]
          refine Nat.lt_of_le_of_lt (Nat.min_le_left _ _) (small1000 (by omega))
        · have n1 : u ≠ D := ne_of_none e hD
          rw [upd_ne n1, upd_ne (ne_of_none (q1 _ _ e) hp)]
          exact q1 _ _ e
        · rw [upd_same, take_snoc (lesser_getElem hx' hy'), List.map_append, hz']
          rfl
      refine yes_ ?_
      cases y with
      | none => exact ⟨_, rfl, rfl, _, rfl, iteDT rfl (iteT ⟨_, rfl, fin rfl⟩)⟩
      | some m =>
        refine ⟨_, rfl, rfl, _, rfl, iteDF (fun e => nomatch e) ?_⟩
        cases x with
        | none =>
          exact ⟨_, rfl, rfl, _, rfl, iteNS rfl (iteF ⟨_, rfl, _, rfl, _, _, rfl, rfl, fin rfl⟩)⟩
        | some o0 =>
          refine ⟨_, rfl, rfl, _, rfl, iteNF (fun e => nomatch e) ⟨_, rfl, _, rfl, _, rfl, _, _, rfl, rfl, _, _, rfl, rfl, _, rfl, ?_⟩⟩
          by_cases g : o0 ≤ c + m
          · exact iteDT g ⟨_, rfl, fin (by simp only [lesser1, if_pos g])⟩
          · exact iteDF g ⟨_, rfl, _, rfl, _, _, rfl, rfl, fin (by simp only [lesser1, if_neg g]; rfl)⟩
    · rintro H1 ⟨q1, q2⟩
      refine ⟨D, _, rfl, .inl ⟨SqL.of q2, fun l hn => k _ _ (q1.trans (Same.new hn)) ?_⟩⟩
      have e : (r.map cV).length = (lesserRow r c o).length := by unfold lesserRow; rw [List.length_map, List.length_zipWith, hl, Nat.min_self]
      rw [e, List.take_length]
      exact tup_at
end
end K1
end
section
set_option maxRecDepth 100000
set_option maxHeartbeats 4000000
namespace K1
open PySem L2 K01
section
variable {P : Program} {w : World} {K : PySem.W.Frag} {mg : Str → Option Value} {base : Heap}
abbrev sTight : Stmt := top 10
def spTight (K : PySem.W.Frag) : Sp := fun vs H Q _ => ∃ (a : Addr) (B : Mat) (n x y : Nat) (c : Int), vs = [.ref a, .int x, .int y, .int c] ∧ MatAt K H a B ∧ Sized n B ∧ x < n ∧ y < n ∧ n ≤ 1000 ∧
  ∀ H' p, Same H H' → MatAt K H' p (tightM B x y c) → Q (.ref p) H'
theorem scTight : FnScope ["bounds", "x", "y", "number", "rows", "row"] ["bounds", "x", "y", "number"] (defScope sTight) := ⟨rfl, rfl, rfl, by decide +kernel, rfl, by decide +kernel, by decide +kernel⟩
theorem ok_tight {f fL : Addr} {fd fdL : FuncData} (F : Fun K "tightened" "tightened" sTight f fd) (T : Bi mg) (FL : Fun K "lesser_row" "lesser_row" sLesser fL fdL) (bL : Binds K fdL ["row", "step", "onward"] []) (mL : mg "lesser_row" = some (.ref fL)) :
    FnOk P w K mg base CX0 2 f fd ["bounds", "x", "y", "number"] (spTight K) := by
  have GL : FnOk P w K mg base CX0 1 fL fdL ["row", "step", "onward"] (spLesser K) := ok_lesser FL T
  refine F.ok scTight (fun vs H Q E h => ?_) (fun cdv A outer s H vs Q E hr h => ?_)
  · obtain ⟨_, _, _, _, _, _, rfl, _⟩ := h
    rfl
  · obtain ⟨a, B, n, x, y, c, rfl, hM, hS, hx, hy, hn, k⟩ := h
    refine ⟨_, pss_cons (ps_set (i := 4) scTight.nd rfl (.inl rfl) (pe_lst pa_nil))
      (pss_cons (ps_for PassesOwn.never rfl (pi_tup (pv 0)) (pg_name (i := 5) scTight.nd rfl (.inl rfl))
        (pss_one (ps_if (PW.pt (pw_or (pt_cmpR op_isN (pe_ix ix_tup (pv 5) (pv 1) (fun _ _ => rfl)) pe_non (nomark _)) (pw_or1 (PW.pt (pw_and (pt_cmpR op_notN (pe_ix ix_tup (pv 5) (pv 2) (fun _ _ => rfl)) pe_non (nomark _))
            (pw_and1 (pt_cmpR op_le (pe_ix ix_tup (pv 5) (pv 2) (fun _ _ => rfl)) (pe_op op_add (pe_ix ix_tup (pv 5) (pv 1) (fun _ _ => rfl)) (pv 3)) (nomark _))))))))
          (pss_one (ps_expr (pe_bm PySem.F.plainAttrs_list PySem.F.slot_list_append PySem.F.type_list_append mt_append (pv 4) (pa_cons (pv 5) pa_nil))))
          (pss_one (ps_expr (pe_bm PySem.F.plainAttrs_list PySem.F.slot_list_append PySem.F.type_list_append mt_append (pv 4)
            (pa_cons (pe_call GL hr rfl mL FL.kp bL .nil pass0 (pa_cons (pv 5) (pa_cons (pe_op op_add (pe_ix ix_tup (pv 5) (pv 1) (fun _ _ => rfl)) (pv 3)) (pa_cons (pe_ix ix_tup (pv 0) (pv 2) (fun _ _ => rfl)) pa_nil)))) pa_nil)))))))
      (pss_one (ps_ret (pe_callTy call_tuple_of (by rfl) T.tuple (by decide +kernel) (pa_cons (pv 4) pa_nil))))), ?_⟩
    refine ⟨Nat.zero_le _, fun l hl => ?_⟩
    have hM1 : MatAt K (upd H l (.lst [])) a B := hM.same (Same.new hl)
    obtain ⟨as, m1, m2, m3⟩ := id hM
    have s1 : Same H (upd H l (.lst [])) := Same.new hl
    refine ⟨_, rfl, a, rfl, ⟨_, Same.tup s1 m2⟩, for_it (walk_tup (K := K) (a := a)) (fun i σ H' => ∃ (ps : List Addr) (v : Option V), σ = [some (.ref a), some (.int x), some (.int y), some (.int c), some (.ref l), v] ∧ Same H H' ∧ H' l = some (.lst (ps.map V.ref)) ∧ RowsAt K H' ps ((B.take i).map (tightRow B x y c)))
      ⟨[], none, rfl, s1, upd_same, RowsAt.nil⟩ (fun i σ H' _ ⟨_, _, _, q, _⟩ => Same.tup q m2) ?_ ?_⟩
    · rintro i v σ H1 H2 hi ⟨ps, v0, rfl, q1, q2, q3⟩ ⟨rfl, hv⟩
      obtain ⟨p, hp, rfl⟩ := get_map hv
      have hi' : i < B.length := by rw [List.length_map] at hi; omega
      have hB : B[i]? = some B[i] := List.getElem?_eq_getElem hi'
      have hin : i < n := by rw [← hS.1]; exact hi'
      have hR : RowAt K H2 p B[i] := Same.tup q1 (m3 i p _ hp hB)
      have hlen : B[i].length = n := hS.2 _ (List.getElem_mem hi')
      have gx : ((B[i]).map cV)[x]? = some (cV (((B[i])[x]?).getD none)) := by
        rw [List.getElem?_map, List.getElem?_eq_getElem (by omega)]; rfl
      have gy : ((B[i]).map cV)[y]? = some (cV (((B[i])[y]?).getD none)) := by
        rw [List.getElem?_map, List.getElem?_eq_getElem (by omega)]; rfl
      have pl : ps.length = i := by
        have := q3.1
        rw [List.length_map, List.length_take, Nat.min_eq_left (Nat.le_of_lt hi')] at this
        exact this
      have hnl : ps.length < sizeLine := small1000 (by omega)
      obtain ⟨xs, pu, w1, w2, w3⟩ := hM.row hS hy
      have ht : (B.take (i + 1)).map (tightRow B x y c) = (B.take i).map (tightRow B x y c) ++ [tightRow B x y c B[i]] := by
        rw [take_snoc hB, List.map_append]; rfl
      -- rows.append(row)
      have keep : tightRow B x y c B[i] = B[i] → (fun (Z : Hp → Prop) => Z (upd H2 l (.lst (ps.map V.ref ++ [.ref p])))) fun H3 => ∃ (ps : List Addr) (v : Option V), [some (.ref a), some (.int x), some (.int y), some (.int c), some (.ref l), some (.ref p)] = [some (V.ref a), some (.int x), some (.int y), some (.int c), some (.ref l), v] ∧ Same H H3 ∧ H3 l = some (.lst (ps.map V.ref)) ∧ RowsAt K H3 ps ((B.take (i + 1)).map (tightRow B x y c)) := by
        intro e
        refine ⟨ps ++ [p], _, rfl, Same.set q1 hl, ?_, ?_⟩
        · rw [upd_same, List.map_append]; rfl
        · rw [ht, e]
          exact (q3.but q2 But.set).snoc (Same.tup (Same.set q1 hl) (m3 i p _ hp hB))
      refine ⟨_, rfl, _, rfl, _, _, _, _, rfl, rfl, hR, atI_nat gx, rfl, _, rfl, ?_⟩
      cases eA : ((B[i])[x]?).getD none with
      | none =>
        rw [eA] at gx
        refine iteDT rfl (iteT ⟨_, rfl, .inl ⟨rfl, _, SqL.of q2⟩, _, rfl, l, _, _, rfl, rfl, q2, by rw [List.length_map]; exact hnl, ?_⟩)
        refine keep ?_
        unfold tightRow skips
        rw [eA]; rfl
      | some a0 =>
        rw [eA] at gx
        refine iteDF (fun e => nomatch e) ?_
        refine ⟨_, rfl, _, rfl, _, _, _, _, rfl, rfl, hR, atI_nat gy, rfl, _, rfl, ?_⟩
        cases eB : ((B[i])[y]?).getD none with
        | none =>
          rw [eB] at gy
          refine iteNS rfl (iteF ?_)
          refine ⟨_, rfl, .inl ⟨rfl, _, SqL.of q2⟩, _, rfl, _, rfl, _, rfl, _, _, _, _, rfl, rfl, hR, atI_nat gx, _, rfl, _, _, rfl, rfl, _, rfl, _, rfl, _, _, _, _, rfl, rfl, Same.tup q1 w1, atI_nat w2, ?_⟩
          refine ⟨p, _, _, _, _, rfl, hR, Same.tup q1 w3, by rw [hlen, hS.rowAt hy], by omega, fun H3 u s3 hu => ⟨l, _, _, rfl, rfl, s3 _ _ q2, by rw [List.length_map]; exact hnl, ?_⟩⟩
          refine ⟨ps ++ [u], _, rfl, Same.set (q1.trans s3) hl, ?_, ?_⟩
          · rw [upd_same, List.map_append]; rfl
          · rw [ht]
            refine ((q3.same s3).but (s3 _ _ q2) But.set).snoc ?_
            have e : tightRow B x y c B[i] = lesserRow B[i] (a0 + c) (rowAt B y) := by
              unfold tightRow skips
              rw [eA, eB]
              rfl
            rw [e]
            exact row_upd (s3 _ _ q2) hu
        | some b0 =>
          rw [eB] at gy
          refine iteNF (fun e => nomatch e) ?_
          refine ⟨_, rfl, _, rfl, _, _, _, _, rfl, rfl, hR, atI_nat gy, _, rfl, _, rfl, _, _, _, _, rfl, rfl, hR, atI_nat gx, _, rfl, _, _, rfl, rfl, _, _, rfl, rfl, _, rfl, ?_⟩
          by_cases g : b0 ≤ a0 + c
          · refine iteDT g ⟨_, rfl, .inl ⟨rfl, _, SqL.of q2⟩, _, rfl, l, _, _, rfl, rfl, q2, by rw [List.length_map]; exact hnl, ?_⟩
            refine keep ?_
            unfold tightRow skips
            rw [eA, eB]
            simp [g]
          · refine iteDF g ?_
            refine ⟨_, rfl, .inl ⟨rfl, _, SqL.of q2⟩, _, rfl, _, rfl, _, rfl, _, _, _, _, rfl, rfl, hR, atI_nat gx, _, rfl, _, _, rfl, rfl, _, rfl, _, rfl, _, _, _, _, rfl, rfl, Same.tup q1 w1, atI_nat w2, ?_⟩
            refine ⟨p, _, _, _, _, rfl, hR, Same.tup q1 w3, by rw [hlen, hS.rowAt hy], by omega, fun H3 u s3 hu => ⟨l, _, _, rfl, rfl, s3 _ _ q2, by rw [List.length_map]; exact hnl, ?_⟩⟩
            refine ⟨ps ++ [u], _, rfl, Same.set (q1.trans s3) hl, ?_, ?_⟩
            · rw [upd_same, List.map_append]; rfl
            · rw [ht]
              refine ((q3.same s3).but (s3 _ _ q2) But.set).snoc ?_
              have e : tightRow B x y c B[i] = lesserRow B[i] (a0 + c) (rowAt B y) := by
                unfold tightRow skips
                rw [eA, eB]
                simp [g]
              rw [e]
              exact row_upd (s3 _ _ q2) hu
    · rintro σ H1 ⟨ps, v0, rfl, q1, q2, q3⟩
      have e : (B.take (as.map V.ref).length) = B := by rw [List.length_map, m1, List.take_length]
      rw [e] at q3
      exact ⟨_, rfl, l, _, rfl, .inl ⟨SqL.of q2, fun p hp => k _ p (q1.trans (Same.new hp)) (MatAt.of tup_at (q3.same (Same.new hp)))⟩⟩
end
end K1
end
section
set_option maxRecDepth 100000
set_option maxHeartbeats 4000000
namespace K1
open PySem L2 K01
section
variable {P : Program} {w : World} {K : PySem.W.Frag} {mg : Str → Option Value} {base : Heap}
abbrev sKept : Stmt := top 8
def kept (B : Mat) (x y : Nat) (c : Int) : Bool := match cell B x y with | none => false | some b => decide (b ≤ c)
def spKept (K : PySem.W.Frag) : Sp := fun vs H Q _ => ∃ (a : Addr) (B : Mat) (n x y : Nat) (c : Int), vs = [.ref a, .int x, .int y, .int c] ∧ MatAt K H a B ∧ Sized n B ∧ x < n ∧ y < n ∧ Q (.bl (kept B x y c)) H
theorem scKept : FnScope ["bounds", "x", "y", "number", "most"] ["bounds", "x", "y", "number"] (defScope sKept) := ⟨rfl, rfl, rfl, by decide +kernel, rfl, by decide +kernel, by decide +kernel⟩
theorem ok_kept {f : Addr} {fd : FuncData} (F : Fun K "is_kept" "is_kept" sKept f fd) : FnOk P w K mg base CX0 1 f fd ["bounds", "x", "y", "number"] (spKept K) := by
  refine F.ok scKept (fun vs H Q E h => ?_) (fun cdv A outer s H vs Q E hr h => ?_)
  · obtain ⟨_, _, _, _, _, _, rfl, _⟩ := h
    rfl
  · obtain ⟨a, B, n, x, y, c, rfl, M, S, hx, hy, k⟩ := h
    refine ⟨_, pss_cons (ps_set (i := 4) scKept.nd rfl (.inl rfl) (pe_ix ix_tup (pe_ix ix_tup (pv 0) (pv 1) (fun _ _ => rfl)) (pv 2) (fun _ _ => rfl)))
      (pss_one (ps_ret (pe_and (pe_cmpR op_notN (pv 4) pe_non (nomark _)) (pe_one (pe_cmpR op_le (pv 4) (pv 3) (nomark _)))))), ?_⟩
    obtain ⟨xs, p, h1, h2, h3⟩ := M.row S hx
    refine ⟨_, rfl, _, rfl, _, _, _, _, rfl, rfl, h1, atI_nat h2, _, rfl, _, _, _, _, rfl, rfl, h3, atI_nat (row_cell S hx hy), _, rfl, rfl, _, rfl, ?_⟩
    unfold kept at k
    cases q : cell B x y with
    | none =>
      rw [q] at k
      exact iteF k
    | some b =>
      rw [q] at k
      refine iteT ?_
      exact ⟨_, rfl, _, rfl, _, _, rfl, rfl, k⟩
abbrev sFree : Stmt := top 6
def spFree (K : PySem.W.Frag) : Sp := fun vs H Q _ => ∃ (m : Nat), vs = [.int m] ∧ m ≤ 100 ∧ ∀ H' p, Same H H' → MatAt K H' p (freeM m) → Q (.ref p) H'
theorem scFree : FnScope ["many", "rows", "mark", "spot"] ["many"] (defScope sFree) := ⟨rfl, rfl, rfl, by decide +kernel, rfl, by decide +kernel, by decide +kernel⟩
theorem ok_free {f : Addr} {fd : FuncData} (F : Fun K "free_bounds" "free_bounds" sFree f fd) (T : Bi mg) : FnOk P w K mg base CX0 1 f fd ["many"] (spFree K) := by
  refine F.ok scFree (fun vs H Q E h => ?_) (fun cdv A outer s H vs Q E hr h => ?_)
  · obtain ⟨_, rfl, _⟩ := h
    rfl
  · obtain ⟨m, rfl, hm, k⟩ := h
    refine ⟨_, pss_cons (ps_set (i := 1) scFree.nd rfl (.inl rfl) (pe_lst (pa_cons (pe_callTy call_tuple_of (by rfl) T.tuple (by decide +kernel) (pa_cons (pe_op op_rep (pe_lst (pa_cons pe_int pa_nil)) (pe_op op_add (pv 0) pe_int)) pa_nil)) pa_nil)))
      (pss_cons (ps_for PassesOwn.never rfl (pi_range2 (by rfl) T.range (pa_cons pe_int (pa_cons (pe_op op_add (pv 0) pe_int) pa_nil))) (pg_name (i := 2) scFree.nd rfl (.inr rfl))
        (pss_one (ps_expr (pe_bm PySem.F.plainAttrs_list PySem.F.slot_list_append PySem.F.type_list_append mt_append (pv 1)
            (pa_cons (pe_callTy call_tuple_of (by rfl) T.tuple (by decide +kernel) (pa_cons
              (pe_lc (own := [("spot", 3)]) (g := gName 3) rfl scFree.nd (pi_range1 (by rfl) T.range (pa_cons (pe_op op_add (pv 0) pe_int) pa_nil)) (blkOk_by (N := ["many", "rows", "mark", "spot"]) (sc := defScope sFree) (by decide +kernel))
                (fun _ _ _ _ _ => pg_name (i := 3) scFree.nd rfl (.inl rfl)) (fun _ _ _ _ _ => pts_nil) (fun _ _ _ _ _ => pe_ifExp (pt_cmpR op_eq (pv 3) (pv 2) (nomark _)) pe_int pe_non)) pa_nil)) pa_nil)))))
      (pss_one (ps_ret (pe_callTy call_tuple_of (by rfl) T.tuple (by decide +kernel) (pa_cons (pv 1) pa_nil))))), ?_⟩
    refine ⟨by show 1 ≤ sizeLine; decide, fun l0 h0 => ?_⟩
    refine ⟨_, rfl, _, _, rfl, rfl, _, _, _, rfl, rfl, upd_same, ?_⟩
    refine ⟨by omega, by omega, ?_, fun l1 h1 => ⟨l1, _, rfl, .inl ⟨SqL.of upd_same, fun t ht => ?_⟩⟩⟩
    · refine Nat.le_of_lt (small1000 ?_)
      show 1 * ((m : Int) + 1).toNat ≤ 1000
      omega
    refine ⟨by show 1 ≤ sizeLine; decide, fun l hl => ?_⟩
    have ez : ((List.replicate ((m : Int) + 1).toNat [V.int 0]).flatten) = (List.replicate (m + 1) (some 0 : Cell)).map cV := by
      have e1 : ((m : Int) + 1).toNat = m + 1 := by omega
      rw [e1, List.map_replicate]
      generalize m + 1 = q
      induction q with
      | zero => rfl
      | succ q ih => rw [List.replicate_succ, List.flatten_cons, ih]; rfl
    have z0 := (((Same.new h0).trans (Same.new h1)).trans (Same.new ht)).trans (Same.new (o := .lst [V.ref t]) hl)
    have hr0 := Same.tup (K := K) (Same.new (o := .lst [V.ref t]) hl) (tup_at (K := K) (H := (upd (upd H l0 (.lst [V.int 0])) l1 (.lst ((List.replicate ((m : Int) + 1).toNat [V.int 0]).flatten)))) (p := t) (xs := ((List.replicate ((m : Int) + 1).toNat [V.int 0]).flatten)))
    have hl0 : H l = none := (Same.free ((Same.new h0).trans ((Same.new h1).trans (Same.new ht))) hl)
    refine ⟨_, rfl, _, _, rfl, rfl, 1, _, rfl, ⟨by decide, by decide, by omega, by omega⟩, ?_⟩
    have em : ((m : Int) + 1 - 1).toNat = m := by omega
    rw [em]
    refine for_range (lo := 1) (n := m) (fun i σ H' => ∃ (ps : List Addr) (v : Option V), σ = [some (.int m), some (.ref l), v, none] ∧ Same H H' ∧ H' l = some (.lst (ps.map V.ref)) ∧ RowsAt K H' ps ((freeM m).take (i + 1))) ?_ ?_ ?_
    · refine ⟨[t], none, rfl, z0, upd_same, ?_⟩
      refine RowsAt.nil.snoc (p := t) ?_
      show SqT K _ t ((List.replicate (m + 1) (some 0 : Cell)).map cV)
      rw [← ez]
      exact hr0
    · rintro i σ H1 hi ⟨ps, v, rfl, q1, q2, q3⟩
      have pl : ps.length = i + 1 := by
        have := q3.1
        rw [List.length_take, (free_sized m).1] at this
        omega
      have hf : (freeM m)[i + 1]? = some ((List.range (m + 1)).map fun s => if s = i + 1 then some 0 else none) := by
        unfold freeM
        rw [List.getElem?_cons_succ, List.getElem?_map, List.getElem?_range hi]
        rfl
      generalize hrf : ((List.range (m + 1)).map fun s => if s = i + 1 then (some 0 : Cell) else none) = rf at hf
      have rl : rf.length = m + 1 := by rw [← hrf]; simp
      refine ⟨_, rfl, .inl ⟨rfl, _, SqL.of q2⟩, _, rfl, _, _, rfl, rfl, _, rfl, by omega, by omega, fun D hD => ?_⟩
      have em1 : ((m : Int) + 1).toNat = m + 1 := by omega
      rw [em1]
      refine lc_it (walk_range (lo := 0) (n := m + 1)) (fun j H' => Same H1 H' ∧ H' D = some (.lst ((rf.take j).map cV))) ⟨Same.new hD, upd_same⟩ (fun _ _ _ _ => trivial) ?_ ?_
      · rintro j v' H2 H3 hj ⟨s1, s2⟩ ⟨rfl, rfl⟩
        refine ⟨rfl, yes_ ⟨_, rfl, _, rfl, rfl, _, rfl, ?_⟩⟩
        have hg : rf[j]? = some (if j = i + 1 then some 0 else none) := by
          rw [← hrf, List.getElem?_map, List.getElem?_range hj]
          rfl
        have fin : ∀ {z}, z = cV (if j = i + 1 then some 0 else none) → ∃ acc, H3 D = some (HO.lst acc) ∧ acc.length < sizeLine ∧ (Same H1 (upd H3 D (.lst (acc ++ [z]))) ∧ (upd H3 D (.lst (acc ++ [z]))) D = some (.lst ((rf.take (j + 1)).map cV))) := by
          intro z hz
          refine ⟨_, s2, ?_, Same.set s1 hD, ?_⟩
          · rw [List.length_map, List.length_take]
            exact Nat.lt_of_le_of_lt (Nat.min_le_left _ _) (small1000 (by omega))
          · rw [upd_same, take_snoc hg, List.map_append, hz]
            rfl
        by_cases e : j = i + 1
        · refine iteDT (congrArg V.int (by omega)) (fin (by rw [if_pos e]; rfl))
        · refine iteDF (fun q => e ?_) (fin (by rw [if_neg e]; rfl))
          have q' := V.int.inj q
          omega
      · rintro H2 ⟨s1, s2⟩
        refine ⟨D, _, rfl, .inl ⟨SqL.of s2, fun u hu => ⟨l, _, _, rfl, rfl, Same.new hu _ _ (s1 _ _ q2), ?_, ?_⟩⟩⟩
        · rw [List.length_map]; exact small1000 (by omega)
        · have s3 : Same H1 (upd H2 u (.tup ((rf.take (m + 1)).map cV))) := s1.trans (Same.new hu)
          refine ⟨ps ++ [u], _, rfl, Same.set (q1.trans s3) hl0, ?_, ?_⟩
          · rw [upd_same, List.map_append]; rfl
          · rw [take_snoc hf]
            refine ((q3.same s3).but (s3 _ _ q2) But.set).snoc ?_
            have e : rf.take (m + 1) = rf := by rw [← rl, List.take_length]
            have := row_upd (K := K) (ys := ps.map V.ref ++ [.ref u]) (s3 _ _ q2) (tup_at (K := K) (H := H2) (p := u) (xs := (rf.take (m + 1)).map cV))
            rw [e] at this ⊢
            exact this
    · rintro σ H1 ⟨ps, v, rfl, q1, q2, q3⟩
      have e : (freeM m).take (m + 1) = freeM m := by rw [← (free_sized m).1, List.take_length]
      rw [e] at q3
      exact ⟨_, rfl, l, _, rfl, .inl ⟨SqL.of q2, fun p hp => k _ p (q1.trans (Same.new hp)) (MatAt.of tup_at (q3.same (Same.new hp)))⟩⟩
end
end K1
end
section
set_option maxRecDepth 100000
set_option maxHeartbeats 4000000
namespace K1
open PySem L2 K01
section
variable {P : Program} {w : World} {K : PySem.W.Frag} {mg : Str → Option Value} {base : Heap}
abbrev sBarred : Stmt := top 7
def barred (B : Mat) (x y : Nat) (c : Int) : Bool := match cell B y x with | none => false | some b => decide (b + c < 0)
def spBarred (K : PySem.W.Frag) : Sp := fun vs H Q _ => ∃ (a : Addr) (B : Mat) (n x y : Nat) (c : Int), vs = [.ref a, .int x, .int y, .int c] ∧ MatAt K H a B ∧ Sized n B ∧ x < n ∧ y < n ∧ Q (.bl (barred B x y c)) H
theorem scBarred : FnScope ["bounds", "x", "y", "number", "back"] ["bounds", "x", "y", "number"] (defScope sBarred) := ⟨rfl, rfl, rfl, by decide +kernel, rfl, by decide +kernel, by decide +kernel⟩
theorem ok_barred {f : Addr} {fd : FuncData} (F : Fun K "is_barred" "is_barred" sBarred f fd) : FnOk P w K mg base CX0 1 f fd ["bounds", "x", "y", "number"] (spBarred K) := by
  refine F.ok scBarred (fun vs H Q E h => ?_) (fun cdv A outer s H vs Q E hr h => ?_)
  · obtain ⟨_, _, _, _, _, _, rfl, _⟩ := h
    rfl
  · obtain ⟨a, B, n, x, y, c, rfl, M, S, hx, hy, k⟩ := h
    refine ⟨_, pss_cons (ps_set (i := 4) scBarred.nd rfl (.inl rfl) (pe_ix ix_tup (pe_ix ix_tup (pv 0) (pv 2) (fun _ _ => rfl)) (pv 1) (fun _ _ => rfl)))
      (pss_one (ps_ret (pe_and (pe_cmpR op_notN (pv 4) pe_non (nomark _)) (pe_one (pe_cmpR op_lt (pe_op op_add (pv 4) (pv 3)) pe_int (nomark _)))))), ?_⟩
    obtain ⟨xs, p, h1, h2, h3⟩ := M.row S hy
    refine ⟨_, rfl, _, rfl, _, _, _, _, rfl, rfl, h1, atI_nat h2, _, rfl, _, _, _, _, rfl, rfl, h3, atI_nat (row_cell S hy hx), _, rfl, rfl, _, rfl, ?_⟩
    unfold barred at k
    cases q : cell B y x with
    | none =>
      rw [q] at k
      exact iteF k
    | some b =>
      rw [q] at k
      refine iteT ?_
      exact ⟨_, rfl, _, rfl, _, _, rfl, rfl, _, _, rfl, rfl, k⟩
end
end K1
end
section
set_option maxRecDepth 100000
set_option maxHeartbeats 2000000
namespace PySem
open PySem.Spec PyProof.Rows
section
variable {prog : Program} {w : World} {A : Around} {E : Value → Shared → Prop} {s : Shared}
/-- x's repr is some text of at most b signs, while h₀'s objects stand -/
def K1Rep (prog : Program) (w : World) (h₀ : Heap) (x : Value) (b : Nat) : Prop :=
  ∀ (n : Nat), n + b ≤ sizeLine → ∀ (A : Around) (E : Value → Shared → Prop) (s : Shared) (Q : Str → Shared → Prop), A.units + 3 < cLine → (∀ c o, h₀.get? c = some o → s.heap.get? c = some o) →
    (∀ t tk, t.length ≤ b → Q t { s with toks := tk }) → wpAny (model prog w) A (pyReprUnder n x) Q E s
theorem K1Rep.tuple {h₀ : Heap} {a : Addr} {o : Obj} {items : Array Value} {m : Nat} {ts : List Str} {b : Nat} (ha : h₀.get? a = some o) (hc : o.cls = .type "tuple") (hd : o.data = .seq items m) (hT : ReprAll prog w items.toList ts) (hb : (tupleText ts).length + 5 ≤ b) :
    K1Rep prog w h₀ (.ref a) b := by
  intro n hn A E s Q hu hk0 hQ
  refine wpAny_pyReprUnder_ref (by omega) (wpAny_pyReprObjUnder_twin (twin := "tuple.__repr__.under") ⟨o, hk0 _ _ ha, hc⟩ F.slot_tuple_repr rfl (by omega) ?_)
  refine call_twin_own (F.quiet_tuple_repr_under _) F.entry_tuple_repr_under F.check_tuple_repr_under ⟨o, hk0 _ _ ha, hc⟩ F.slot_tuple_repr (F.args_tuple_repr_1 _) (wpOwn_of_wpAny ?_)
  rw [tuple_repr_tree]
  refine wpAny_bind (fmt_underWay fun c => ?_)
  cases c with
  | true =>
    refine PySem.W.KFB.if_so rfl ?_
    refine wpAny_bind (wpAny_rule ?_)
    refine wpAny_bind (wpAny_mkStr (wpAny_pure ?_) (by decide +kernel))
    exact ⟨⟨_, _, rfl⟩, _, _, rfl, hQ "(...)" _ (Nat.le_trans fmt_way (by omega))⟩
  | false =>
    refine PySem.W.KFB.if_not rfl ?_
    exact wpAny_tupleReprRest (hk0 _ _ ha) hd hT (fun u tk => ⟨⟨_, _, rfl⟩, _, _, rfl, hQ (tupleText ts) tk (by omega)⟩) (by omega)
inductive K1Reps (prog : Program) (w : World) (h₀ : Heap) (b : Nat) : List Value → Prop
  | nil : K1Reps prog w h₀ b []
  | cons {x : Value} {l : List Value} : K1Rep prog w h₀ x b → K1Reps prog w h₀ b l → K1Reps prog w h₀ b (x :: l)
theorem k1_tupFold {h₀ : Heap} {b : Nat} (hu : A.units + 3 < cLine) : ∀ (l : List Value) (acc : Array Str) (n : Nat) (s : Shared) (Q : (Array Str × Nat) → Shared → Prop), K1Reps prog w h₀ b l → n + l.length * (b + 2) ≤ sizeLine →
    (∀ c o, h₀.get? c = some o → s.heap.get? c = some o) →
    (∀ ts tk, ts.length = l.length → piled ts ≤ l.length * (b + 2) → Q ⟨acc ++ ts.toArray, n + piled ts⟩ { s with toks := tk }) → wpAny (model prog w) A (forIn l (⟨acc, n⟩ : (Array Str × Nat)) tupBody) Q E s := by
  intro l
  induction l with
  | nil =>
    intro acc n s Q hT hn hk h
    have h0 := h [] s.toks rfl (by simp [piled])
    simp only [List.forIn_nil]
    exact wpAny_pure (by simpa [piled] using h0)
  | cons x l ih =>
    intro acc n s Q hT hn hk h
    cases hT with
    | cons hx hl =>
      have hn' : n + (l.length * (b + 2) + (b + 2)) ≤ sizeLine := by
        rw [List.length_cons, Nat.add_mul, Nat.one_mul] at hn
        exact hn
      rw [List.forIn_cons]
      refine wpAny_bind (wpAny_bind (hx (n + 1) (by omega) _ _ _ _ hu hk fun t tk ht => wpAny_pure ?_))
      refine ih (acc.push t) (n + (t.length + 2)) _ Q hl (by omega) hk fun ts tk' hts hp => ?_
      have h1 := h (t :: ts) tk' (by simp [hts]) (by rw [piled_cons, List.length_cons, Nat.add_mul, Nat.one_mul]; omega)
      have e : n + piled (t :: ts) = n + (t.length + 2) + piled ts := by rw [piled_cons]; omega
      rw [e] at h1
      simpa using h1
/-- {t}, t a tuple of such: some text -/
theorem k1_fmt {h₀ : Heap} {a : Addr} {o : Obj} {items : Array Value} {n b : Nat} {Q : Value → Shared → Prop} (hu : A.units + 8 < cLine) (ha : s.heap.get? a = some o) (hc : o.cls = .type "tuple") (hd : o.data = .seq items n) (hT : K1Reps prog w s.heap b items.toList)
    (hsz : items.size * (b + 2) + 10 ≤ sizeLine) (h : ∀ (m : Str) (u tk : Tok), m.length ≤ items.size * (b + 2) + 10 → Q (.str m u) { s with toks := tk }) : wpAny (model prog w) A (formatField (.ref a) Str.empty) Q E s := by
  refine wpAny_formatField_slot (fun _ _ => nofun) (by omega) ⟨o, ha, hc⟩ F.slot_tuple_format F.slot_tuple_str F.slot_tuple_repr ?_
  refine wpAny_call (codeAny_call_builtin_own (Code.quiet_builtin _ (by decide +kernel)) F.entry_tuple_repr (F.slot_tuple_repr.check _ _ _ _ _ _ _ _ ⟨o, ha, hc⟩ (F.args_tuple_repr_1 _) (wpOwn_of_wpAny ?_)))
  show wpAny _ _ (Builtin.tupleReprAt 0 ⟨[.ref a], []⟩) _ _ _
  rw [tuple_repr_tree]
  refine wpAny_bind (fmt_underWay fun c => ?_)
  cases c with
  | true =>
    refine PySem.W.KFB.if_so rfl ?_
    refine wpAny_bind (wpAny_rule ?_)
    refine wpAny_bind (wpAny_mkStr (wpAny_pure ?_) (by decide +kernel))
    exact ⟨"(...)", _, rfl, h "(...)" _ _ (Nat.le_trans fmt_way (by omega))⟩
  | false =>
    refine PySem.W.KFB.if_not rfl ?_
    unfold tupleReprRest Builtin.Tuple.tupleItemsOf
    refine wpAny_bind (wpAny_bind (wpAny_seqItems ha hd (wpAny_pure ?_)))
    rw [← Array.forIn_toList]
    refine wpAny_bind (k1_tupFold (h₀ := s.heap) (b := b) ?_ _ _ _ _ _ hT (by simpa using (by omega : 0 + items.size * (b + 2) ≤ sizeLine)) (fun _ _ e => e) fun ts tk hts hp => ?_)
    · rw [units_under_tuple_repr]
      show A.units + 1 + 1 + 1 + 3 < cLine
      omega
    · have hlen : ts.length = items.size := by simpa using hts
      have hft := fmt_text ts
      have hp' : piled ts ≤ items.size * (b + 2) := by simpa using hp
      refine wpAny_bind (wpAny_mkStr (wpAny_pure ?_) ?_)
      · refine ⟨_, _, rfl, ?_⟩
        have t := h (tupleText ts) tk (tk + 1) (by omega)
        simpa [tupleText, hlen] using t
      · have : (tupleText ts).length ≤ sizeLine := by omega
        simpa [tupleText, hlen] using this
end
end PySem
end
section
set_option maxRecDepth 100000
set_option maxHeartbeats 4000000
namespace PySem
namespace K1X
open PySem.W PySem.Calls PyProof.Rows PySem.HandSPX PySem.Spec
section
variable {prog : Program} {w : World} {A : Around} {E : Value → Shared → Prop} {h : Heap} {g : Array GenState} {d : Drawn} {t : Nat} {os : OsState}
variable {nm q : Str} {C N : Addr} {bs bm : List Value} {hdct : Bool} {sn : List Str} {sub : List Value} {ab : Bool} {col : Option Bool} {dd : Option Addr} {k0 k1 k2 k3 k5 : Option Value}
theorem vcall {u e t0 : Addr} {rest : List Value} {Q : Value → Shared → Prop}
    (hC : h.get? C = some (excClassObj nm q C N bs bm hdct sn sub ab col dd k0 k1 k2 k3 k5 "ValueError.__new__")) (he : h.get? e = some (HandSPX.excO C t0)) (hu : h.get? u = some (kxs_mw "ValueError.__init__" e)) (hrest : rest.length ≤ sizeLine)
    (hq : ∀ h' t1, (∀ b o, b ≠ e → h.get? b = some o → h'.get? b = some o) → h'.get? e = some (HandSPX.excO C t1) → Q .none ⟨h', g, d, t, os⟩) :
    wpAny (model prog w) A (call (.ref u) rest) Q E ⟨h, g, d, t, os⟩ := by
  refine wpAny_call (codeAny_of_tree ?_)
  show wpAny _ A.in1 (callAny (.ref u) ⟨rest, []⟩) _ _ _
  simp only [callAny]
  refine wpAny_bind (wpAny_load hu ?_)
  simp only [kxs_mw, show (Value.type "method-wrapper" == Value.type "method" || Value.type "method-wrapper" == Value.type "builtin_function_or_method" || Value.type "method-wrapper" == Value.type "method-wrapper") = true by decide, if_true]
  refine W.KFB.if_so (by decide) ?_
  refine wpAny_bind (ESX.check_bound F.excBase_ValueError hC he rfl ?_)
  refine wpAny_bind (wpAny_pure (wpAny_pure ?_))
  refine ⟨Code.quiet_builtin _ (by decide +kernel), codeAny_builtin F.excBase_ValueError.initEntry ?_⟩
  rw [Around.under_plainId F.excBase_ValueError.init.plain _]
  wp_walk
  refine hq _ h.objs.size (fun b o hb ho => ?_) ?_
  · rw [Heap.get?_update_other _ _ (Ne.symm hb)]
    exact Heap.get?_push_of_some _ ho
  · rw [Heap.get?_update_self _ (Heap.get?_push_of_some _ he) rfl]
    rfl
end
/-- what __init__ leaves of a fresh exception at x -/
structure InitEnd (h h' : Heap) (x C dx : Addr) (fld : Str) (v : Value) : Prop where
  keep : ∀ b o, b ≠ x → h.get? b = some o → h'.get? b = some o
  obj : ∃ t1 : Addr, h'.get? x = some { cls := .ref C, dict := some dx, data := .fields #[.ref t1, .none, .none, .none, .bool false, .none] }
  dbig : h.objs.size ≤ dx
  dne : dx ≠ x
  ns : h'.Ns1 dx (fun y => if y = fld then some v else none)
section
variable {P : Program} {w : World} {A : Around} {R : Result → Shared → Prop} {s : Shared} {K : Frag} {mg : Str → Option Value} {C fI cc cda e t0 : Addr} {fld qual : Str} {js : Expr} {p0 p1 p2 p3 p4 p5 p6 p7 p8 : Pos}
theorem init_super {params : Arguments} {scope : Scope} {ar : Arg} {oc doc pm ct ccl cl : Value} {od an cdd cld : Option Addr} {osl ccs csl : Array (Option Value)} {vs : Array Value} {file : Str} {tf : Tok} {v : Value}
    {nm q : Str} {N : Addr} {bs bm : List Value} {sn : List Str} {sub : List Value} {ab : Bool} {col : Option Bool} {dd : Option Addr} {k0 k1 k2 k3 k5 : Option Value}
    (X : K.In s.heap) (hlim : s.heap.NoLimit) (G : s.heap.Ns mainGlobals mg) (Bt : ∃ mb, s.heap.Ns builtinsNs mb ∧ ∀ x : Str, x ≠ "__name__" → mb x = bootBuiltins x) (hsup : mg "super" = none)
    (hC : K.lookup C = some (excClassObj nm q C N bs bm true sn sub ab col dd k0 k1 k2 k3 k5 "ValueError.__new__")) (hbm : refsVE bm = true) (sa : findIn K (.ref C) "__setattr__" = some (some (.builtin "object.__setattr__"))) (noN : findIn K (.ref C) fld = some none)
    (vE : subIn K (.ref C) (.type "ValueError") = some true) (su : ks_superIn K C C "__init__" = some (some (.builtin "ValueError.__init__"))) (mr : mroIn K C (.ref C) = some true) (st : nsIn K cStatics "thirdparty.any" = some none)
    (ho : K.lookup fI = some ⟨oc, od, .func (ksFn "__init__" qual params [.Expr (.Call (.Attribute (.Call (.Name "super" p0) [] [] p1) "__init__" p2) [js] [] p3) p4, .Assign [.Attribute (.Name "self" p5) fld p6] (.Name fld p7) p8] scope .none .none doc pm an (.ref cda) ct cc), osl⟩)
    (hcd : codeIn K (.ref cda) qual = true) (hcode : K.lookup cda = some ⟨ccl, cdd, .fields vs, ccs⟩) (hvs : vs[2]? = some (.str file tf)) (hfile : ((P.main.file : Str) == file) = true) (hcell : K.lookup cc = some ⟨cl, cld, .cell (some (.ref C)), csl⟩)
    (hp : (params.posonlyargs ++ params.args).head? = some ar) (har : ar.arg = "self") (hfs : fld ≠ "self") (hdf : (fld == ("__debug__" : Str)) = false)
    (hbind : ∀ s' : Shared, BindsTo s' (ksFn "__init__" qual params [.Expr (.Call (.Attribute (.Call (.Name "super" p0) [] [] p1) "__init__" p2) [js] [] p3) p4, .Assign [.Attribute (.Name "self" p5) fld p6] (.Name fld p7) p8] scope .none .none doc pm an (.ref cda) ct cc) ⟨[.ref e, v], []⟩ [("self", .ref e), (fld, v)])
    (hks : scope.names.lookup ("super" : Str) = some .globalImplicit) (hkc : scope.names.lookup ("__class__" : Str) = some .free) (hka : scope.names.lookup ("self" : Str) = some .local) (hkf : scope.names.lookup fld = some .local) (hk : scope.kind = .function)
    (hnc : ∀ x ∈ scope.names, x.2 ≠ .cell) (hco : scope.isCoroutine = false) (hgen : scope.isGenerator = false) (htop : (P.main.scope.names.lookup ("super" : Str)).isSome = false)
    (hst : ∀ env : Env, starEach [js] env = [(false, eval js env)])
    (hin : ∀ L : Addr, interactive (ksEnv qual scope L fI (.ref cda) cc) = false)
    (hsw : ∀ (f L : Addr), swapsWith (.Call (.Attribute (.Call (.Name "super" p0) [] [] p1) "__init__" p2) [js] [] p3) none p4.line (ksEnv qual scope L f (.ref cda) cc) = pure false)
    {pl : Addr → Sem Bool} (hev : ∀ L : Addr, eval (.Call (.Attribute (.Call (.Name "super" p0) [] [] p1) "__init__" p2) [js] [] p3) (ksEnv qual scope L fI (.ref cda) cc) = (do
      let ov ← attributeBase (.Call (.Name "super" p0) [] [] p1) "__init__" (ksEnv qual scope L fI (.ref cda) cc) (eval (.Call (.Name "super" p0) [] [] p1) (ksEnv qual scope L fI (.ref cda) cc))
      standAt p2.atName
      let (f, first) ← holding [ov] (getMethod ov "__init__" (pl L))
      callWith p3 f first (backTo p3 (starEach [js] (ksEnv qual scope L fI (.ref cda) cc))) []))
    (hjs : ∀ (L : Addr) (B : Around) (EE : Value → Shared → Prop) (s' : Shared) (Q : Value → Shared → Prop), s'.heap.Ns L (fun x => ([("self", Value.ref e), (fld, v)] : List (Str × Value)).reverse.lookup x) → (∀ b o, s.heap.get? b = some o → s'.heap.get? b = some o) → B.units ≤ A.units + 20 →
      (∀ y tk tk', Q (.str y tk) { s' with toks := tk' }) → wpAny (model P w) B (eval js (ksEnv qual scope L fI (.ref cda) cc)) Q EE s')
    (hx : s.heap.get? e = some (excO C t0)) (hnx : K.lookup e = none) (hroom : A.depth < recursionLimit)
    (hq : ∀ h' tk dx, InitEnd s.heap h' e C dx fld v → R (.ok (.ret .none)) { s with heap := h', toks := tk }) :
    codeAny (model P w) A (.call (.ref fI) ⟨[.ref e, v], []⟩) R s := by
  have hcl : clsIn K C = some { name := nm, bases := bs, mro := .ref C :: bm, ns := N, qualname := q, hasDict := true, slotNames := sn, subclasses := sub, abstract := ab, collection := col, hasDel := false } := by unfold clsIn; rw [hC] <;> rfl
  have hlocs : ∀ y ∈ ([("self", Value.ref e), (fld, v)] : List (Str × Value)), scope.names.lookup y.1 = some .local := by
    intro y hy
    rcases List.mem_cons.mp hy with rfl | hy
    · exact hka
    · rcases List.mem_cons.mp hy with rfl | hy
      · exact hkf
      · cases hy
  refine ks_codeAny_call_defAt (fd := ksFn "__init__" qual params _ scope .none .none doc pm an (.ref cda) ct cc) (binds := [("self", .ref e), (fld, v)]) hroom (X _ _ ho) rfl hlim (codeRec_of X hcd) rfl (hbind s) hnc hlocs (fun h₁ hns k => ?_) hco hgen hk
  show wpAt (model P w) _ (.func _ (ksEnv qual scope s.heap.objs.size fI (.ref cda) cc)) (execs _ (ksEnv qual scope s.heap.objs.size fI (.ref cda) cc)) _ _ _
  have X₁ : K.In h₁ := X.keeps k
  have hx₁ := k _ _ hx
  obtain ⟨mb, Bn, Bv⟩ := Bt
  have hself : ([("self", Value.ref e), (fld, v)] : List (Str × Value)).reverse.lookup ("self" : Str) = some (.ref e) := by
    have h1 : ((("self" : Str)) == fld) = false := by simpa using fun z => hfs (Eq.symm z)
    show List.lookup ("self" : Str) [(fld, v), (("self" : Str), Value.ref e)] = _
    simp only [List.lookup, h1]
    rfl
  have hfld : ([("self", Value.ref e), (fld, v)] : List (Str × Value)).reverse.lookup fld = some v := by
    show List.lookup fld [(fld, v), (("self" : Str), Value.ref e)] = _
    simp [List.lookup]
  refine ks_wpAt_execs_cons (ks_wpAt_Expr_any (ks_wpAt_MethodCall (pl := pl s.heap.objs.size) ?_ (hev _)) (hin _) (hsw _ _))
  refine ks_wpAt_super_base (env := ksEnv qual scope s.heap.objs.size fI (.ref cda) cc) hks hkc rfl rfl (X₁ _ _ ho) rfl hp rfl (X₁ _ _ hcode) rfl hvs hfile htop ?_
  refine ks_loadName_global hk hks (loadGlobal_builtin (env := ksEnv qual scope s.heap.objs.size fI (.ref cda) cc) (G.keeps k) hsup (Bn.keeps k) ((Bv "super" (by decide)).trans (by decide +kernel)) ⟨rfl, ?_⟩)
  refine wpAny_loadName_free hk hkc rfl ⟨_, X₁ _ _ hcell, rfl⟩ ?_
  rw [har]
  refine wpAny_loadName_local hk hka hns (v := .ref e) hself ?_
  refine ks_wpAny_isType_cls (X₁ _ _ hC) rfl ⟨rfl, ?_⟩
  refine ks_wpAny_call_super (X₁ _ _ hC) rfl hx₁ rfl (fun c z => by cases z) (looks_mroIn X₁ mr) (fun h₂ hso k₂ => ?_)
  have X₂ : K.In h₂ := X₁.keeps k₂
  have hx₂ := k₂ _ _ hx₁
  have I₂ : InstAt h₂ e (excO C t0) C none := ⟨hx₂, rfl, rfl, trivial⟩
  have hI : Looks (model P w) h₂ (isInstance (.ref e) (.type "ValueError")) true := I₂.type.andThen (looks_subIn X₂ vE)
  have su' : alongIn K "__init__" (((Value.ref C :: bm).dropWhile (· != .ref C)).drop 1) = some (some (.builtin "ValueError.__init__")) := by
    unfold ks_superIn at su
    rw [hcl] at su
    exact su
  refine kxs_getMethod kxs_ValueError hso (looks_opaque X₂ st) (l₀ := .ref C :: bm) (fun A Q E s k q => wpAny_bind ((looks_clsIn X₂ hcl) A _ E s k (wpAny_pure q))) rfl X₂ su' hI (ks_ne X₂ I₂ hcl) rfl ?_
  have k3 : ∀ b o, s.heap.get? b = some o → (h₂.push (kxs_mw "ValueError.__init__" e)).get? b = some o := fun b o q => Heap.get?_push_of_some _ (k₂ _ _ (k _ _ q))
  refine kxs_callWith (i := "ValueError.__init__") (x := e) (by rw [hst]; rfl) ?_
  rw [hst]
  refine PySem.Calls.evalArgs_plain ?_
  have ns3 : (h₂.push (kxs_mw "ValueError.__init__" e)).Ns s.heap.objs.size (fun x => ([("self", Value.ref e), (fld, v)] : List (Str × Value)).reverse.lookup x) := by
    obtain ⟨oL, es, ep, hL, r⟩ := hns
    exact ⟨oL, es, ep, Heap.get?_push_of_some _ (k₂ _ _ hL), r⟩
  refine PySem.Calls.spliced_cons (hjs _ _ _ _ _ ns3 k3 ?_ fun y tk tk' => ?_)
  · show A.units + 3 ≤ A.units + 20
    omega
  refine PySem.Calls.spliced_nil ⟨?_, ?_⟩
  · exact Heap.get?_push_at rfl rfl
  refine vcall (t0 := t0) (X₂.keeps (fun _ _ q => Heap.get?_push_of_some _ q) _ _ hC) (Heap.get?_push_of_some _ hx₂) (Heap.get?_push_at rfl rfl) (by rw [sizeLine_eq]; exact (by decide : 1 ≤ 16777216)) fun h₄ t1 k₄ hx₄ => ?_
  have eL : e ≠ s.heap.objs.size := Nat.ne_of_lt (Heap.lt_size hx)
  have X₄ : K.In h₄ := fun a o q => k₄ a o (fun z => by rw [z, hnx] at q; cases q) (Heap.get?_push_of_some _ (X₂ _ _ q))
  have ns4 : h₄.Ns s.heap.objs.size (fun x => ([("self", Value.ref e), (fld, v)] : List (Str × Value)).reverse.lookup x) := by
    obtain ⟨oL, es, ep, hL, r⟩ := ns3
    exact ⟨oL, es, ep, k₄ _ _ (Ne.symm eL) hL, r⟩
  refine wpAt_of_wpAny ?_
  refine wpAny_execs_cons (plainObj_wpAny_Assign_Attribute ?_)
  refine ESX.ldL ns4 hfld (ESX.ldL ns4 hself ?_ hk hka) hk hkf hdf
  refine set_plain X₄ (ox := excO C t1) (od := none) ⟨hx₄, rfl, rfl, trivial⟩ sa ?_
  refine exc_osa X₄ hx₄ hcl (show refsVE (.ref C :: bm) = true from hbm) rfl noN (fun h₅ tk₅ dx k₅ dn dne hx₅ hn₅ => ?_)
  show wpAny _ _ (execs _ _) _ _ _
  have z1 : s.heap.objs.size ≤ dx := by
    have a1 : s.heap.objs.size < h₄.objs.size := by
      obtain ⟨oL, es, ep, hL, r⟩ := ns4
      exact Heap.lt_size hL
    have dn' : h₄.objs.size ≤ dx := dn
    omega
  exact wpAny_execs_nil (hq h₅ tk₅ dx ⟨fun b o hb q => k₅ b o hb (k₄ b o hb (k3 b o q)), ⟨t1, hx₅⟩, z1, dne, hn₅⟩)
end
end K1X
end PySem
end
section
set_option maxRecDepth 100000
set_option maxHeartbeats 4000000
namespace PySem
namespace K1X
open PySem.W PySem.Calls PyProof.Rows PySem.HandSPX PySem.Spec
/-- what the written part says of an own error class at C, its __init__ at fI, its field fld; Ok: the values that it may be called with -/
structure XC (P : Program) (K : Frag) (mg : Str → Option Value) (x fld : Str) (C fI : Addr) (Ok : Value → Heap → Prop) : Prop where
  gC : mg x = some (.ref C)
  cls : ∃ nm q N bs bm sn sub ab col dd k0 k1 k2 k3 k5, K.lookup C = some (excClassObj nm q C N bs bm true sn sub ab col dd k0 k1 k2 k3 k5 "ValueError.__new__") ∧ refsVE bm = true
  ga : findIn K (.ref C) "__getattribute__" = some (some (.builtin "BaseException.__getattribute__"))
  gg : findIn K (.ref C) "__getattr__" = some none
  noN : findIn K (.ref C) fld = some none
  iC : findIn K (.ref C) "__init__" = some (some (.ref fI))
  tC : typeIn K (.ref fI) = some (.type "function")
  kC : keepIn K (.ref C) = true
  exC : subIn K (.ref C) (.type "BaseException") = some true
  tyC : typeIn K (.ref C) = some (.type "type")
  hdC : hasDictIn K C = true
  te : exmOne K (.ref C) (.ref C) = some true
  mono : ∀ u h h', (∀ b o, h.get? b = some o → h'.get? b = some o) → Ok u h → Ok u h'
  /-- its __init__, called with the new exception and one value that it may be called with -/
  run : ∀ (w : World) (A : Around) (s : Shared) (R : Result → Shared → Prop) (e t0 : Addr) (v : Value), K.In s.heap → s.heap.NoLimit → s.heap.Ns mainGlobals mg → (∃ mb, s.heap.Ns builtinsNs mb ∧ ∀ x : Str, x ≠ "__name__" → mb x = bootBuiltins x) →
    s.heap.get? e = some (excO C t0) → K.lookup e = none → A.depth < recursionLimit → A.units + 40 < cLine → Ok v s.heap →
    (∀ h' tk dx, InitEnd s.heap h' e C dx fld v → R (.ok (.ret .none)) { s with heap := h', toks := tk }) → codeAny (model P w) A (.call (.ref fI) ⟨[.ref e, v], []⟩) R s
/-- a made one -/
structure Made (h h' : Heap) (e C d : Addr) (fld : Str) (v : Value) : Prop where
  keep : ∀ b o, h.get? b = some o → h'.get? b = some o
  new : h.objs.size ≤ e
  obj : ∃ oe vs, h'.get? e = some oe ∧ oe.cls = .ref C ∧ oe.dict = some d ∧ oe.data = .fields vs ∧ vs[1]? = some .none ∧ vs[2]? = some .none
  dbig : h.objs.size ≤ d
  dne : d ≠ e
  ns : h'.Ns1 d (fun y => if y = fld then some v else none)
theorem one_size (v : Value) : [v].length ≤ sizeLine := by
  rw [sizeLine_eq]
  exact (by decide : 1 ≤ 16777216)
theorem made {P : Program} {w : World} {A : Around} {R : Result → Shared → Prop} {s : Shared} {K : Frag} {mg : Str → Option Value} {x fld : Str} {C fI : Addr} {Ok : Value → Heap → Prop} (T : XC P K mg x fld C fI Ok) {v : Value} (X : K.In s.heap) (hlim : s.heap.NoLimit)
    (G : s.heap.Ns mainGlobals mg) (Bt : ∃ mb, s.heap.Ns builtinsNs mb ∧ ∀ x : Str, x ≠ "__name__" → mb x = bootBuiltins x) (hroom : A.depth + 1 < recursionLimit) (hu : A.units + 41 < cLine) (hok : Ok v s.heap)
    (hq : ∀ h' tk e d, Made s.heap h' e C d fld v → R (.ok (.ret (.ref e))) { s with heap := h', toks := tk }) :
    codeAny (model P w) A (.call (.ref C) ⟨[v], []⟩) R s := by
  obtain ⟨nm, q, N, bs, bm, sn, sub, ab, col, dd, k0, k1, k2, k3, k5, hC, hbm⟩ := T.cls
  obtain ⟨hp, g, dr, tk, os⟩ := s
  have k : ∀ b o, hp.get? b = some o → ((hp.push (kdv_tup [v])).push (excO C hp.objs.size)).get? b = some o := fun b o e => Heap.get?_push_of_some _ (Heap.get?_push_of_some _ e)
  have hget : ((hp.push (kdv_tup [v])).push (excO C hp.objs.size)).get? (hp.objs.size + 1) = some (excO C hp.objs.size) := by heap_get
  have hnx : K.lookup (hp.objs.size + 1) = none := by
    cases e : K.lookup (hp.objs.size + 1) with
    | none => rfl
    | some o =>
      have z : hp.get? (hp.objs.size + 1) = some o := X _ _ e
      exact absurd (Nat.lt_of_succ_lt (Heap.lt_size z)) (Nat.lt_irrefl _)
  obtain ⟨mb, B1, B2⟩ := Bt
  refine call_own F.excBase_ValueError (fun X => refsVE_contains X bm hbm) (X _ _ hC) (looks_findIn X T.iC) (fun self => bind_fn X self T.tC) (one_size v) ?_
  refine T.run w _ ⟨(hp.push (kdv_tup [v])).push (excO C hp.objs.size), g, dr, tk, os⟩ _ (hp.objs.size + 1) hp.objs.size v (X.keeps k) (hlim.keeps k) (G.keeps k) ⟨mb, B1.keeps k, B2⟩ hget hnx ?_ ?_ (T.mono _ _ _ k hok) fun h' tk' dx ⟨k', hx, dn, dne, hns⟩ => ?_
  · show A.depth + 1 < recursionLimit
    exact hroom
  · have : (A.under (.builtin "type.__call__" ⟨.ref C :: [v], []⟩)).units = A.units + 1 := L2.make_units
    rw [this]
    omega
  · have old : ∀ b o, hp.get? b = some o → h'.get? b = some o := fun b o e => k' b o (Nat.ne_of_lt (Nat.lt_succ_of_lt (Heap.lt_size e))) (k b o e)
    have z : hp.objs.size + 1 + 1 ≤ dx := by
      first
        | (simpa only [Heap.size_push] using dn)
        | exact dn
        | (have q := dn; rw [Heap.size_push, Heap.size_push] at q; exact q)
    obtain ⟨t1, hx⟩ := hx
    exact ⟨rfl, hq h' tk' (hp.objs.size + 1) dx ⟨old, Nat.le_succ _, ⟨_, _, hx, rfl, rfl, rfl, rfl, rfl⟩, Nat.le_trans (Nat.le_trans (Nat.le_succ _) (Nat.le_succ _)) z, dne, hns⟩⟩
end K1X
end PySem
namespace L2
open PySem PySem.Spec PyProof.Rows
theorem relO_one {fld : Str} {v : V} {v' : Value} (r : RelV v v') (f : Str) : RelO (List.lookup f [(fld, v)]) (if f = fld then some v' else none) := by
  by_cases hw : f = fld
  · subst hw
    rw [if_pos rfl]
    have q : List.lookup f [(f, v)] = some v := by simp [List.lookup]
    rw [q]
    exact r
  · rw [if_neg hw]
    have qw : (f == fld) = false := by simpa using hw
    have q2 : List.lookup f [(fld, v)] = none := by simp [List.lookup, qw]
    rw [q2]
    trivial
section
variable {X : Cx} {C fI : Addr} {x fld : Str} {Ok : Value → Heap → Prop}
/-- C(e) -/
def tMkX (C : Addr) (fld : Str) (OkV : V → Hp → Prop) (ta : TA) : St → Hp → XK → Prop := fun σ H Q => ta σ H fun vs H1 => ∃ v, vs = [v] ∧ OkV v H1 ∧ ∀ d, H1 d = none → Q (.ref C) (some d) (upd H1 d (.xd [(fld, v)]))
theorem pmk_x {OkV : V → Hp → Prop} {a : Expr} {ta : TA} {p pos : Pos} {k : Nat} (T : PySem.K1X.XC X.prog X.K X.mg x fld C fI Ok) (hov : ∀ pins σ H s v u, Inv X pins σ H s → RelV v u → OkV v H → Ok u s.heap) (hr : Room k X.A) (ha : PA X [a] ta) (hg : Gl X x)
    (hdb : (x == ("__debug__" : Str)) = false := by decide) (he : starEach (a :: []) X.env = (false, eval a X.env) :: starEach [] X.env := by rfl) (hpl : (backTo pos (starEach [] X.env)).any (·.1) = false := by rfl) :
    L2N.PMk X (.Call (.Name x p) [a] [] pos) (tMkX C fld OkV ta) := by
  intro pins s σ H Q I h
  refine wpAny_Call_Name_kw (ld_glob I hg T.gC ?_ hdb)
  refine PySem.W.callWith_K (h₀ := X.base) I.ok.mod.kin T.kC (thn (ha.run pos pins s σ H _ I h) fun us s1 hh => ?_) he hpl
  obtain ⟨vs, H1, I1, r1, v, ev, ok1, q1⟩ := hh
  subst ev
  refine ⟨I1.kIn, ?_⟩
  cases r1 with
  | cons rv rn =>
    rename_i v' us'
    cases rn
    show wpAny _ _ (call (.ref C) [v']) _ _ _
    have hlim := I1.nolimit
    have hok := hov _ _ _ _ _ _ I1 rv ok1
    have hG := I1.mod.glob.keeps I1.bk
    obtain ⟨mb, b1, b2⟩ := I1.mod.blt
    have hB := b1.keeps I1.bk
    obtain ⟨hp, g, dr, tk, os⟩ := s1
    refine wpAny_call (PySem.K1X.made T I1.kIn hlim hG ⟨mb, hB, b2⟩ (by have := hr.dp; omega) (by have := hr.un; omega) hok fun h' tk' e d M => ?_)
    show L2N.MkP X pins σ Q (.ref e) ⟨h', g, dr, tk', os⟩
    obtain ⟨oe, fv, hoe, hc, hd, hdat, h1, h2⟩ := M.obj
    have hns := M.ns
    obtain ⟨G', g1, g2⟩ := restrict h' fun b => decide (b ≠ e)
    have gk : ∀ b, b ≠ e → G'.get? b = h'.get? b := fun b hb => g1 b (decide_eq_true hb)
    have ge : G'.get? e = none := g2 e (by simp)
    have old : ∀ b o, hp.get? b = some o → G'.get? b = some o := fun b o q => (gk b (Nat.ne_of_lt (Nat.lt_of_lt_of_le (Heap.lt_size q) M.new))).trans (M.keep b o q)
    have ob : ObjOk X.prog X.w (upd H1 d (.xd [(fld, v)])) G' d (.xd [(fld, v)]) :=
      ⟨_, hns.at (fun o q => (gk d M.dne).trans q), fun f => relO_one rv f⟩
    have J : Inv X pins σ (upd H1 d (.xd [(fld, v)])) ⟨G', g, dr, tk', os⟩ := I1.laid (t' := tk') old M.dbig ob
    refine ⟨e, oe, fv, ⟨G', g, dr, tk', os⟩, _, .ref C, some d, rfl, J, fun b o q => ?_, ge, hoe, ⟨hc, hd, fun vs q => by rw [hdat] at q; cases q; exact h2⟩, hdat, h1, ?_, rfl, I1.bare, raises_own T.exC T.tyC, q1 d (I1.hok.fresh M.dbig)⟩
    · by_cases hb : b = e
      · have q' : G'.get? b = some o := q
        rw [hb, ge] at q'; cases q'
      · exact (gk b hb).symm.trans q
    · rw [upd_ne (Ne.symm M.dne)]
      exact I1.hok.fresh M.new
def tRaiseX (C : Addr) (fld : Str) (OkV : V → Hp → Prop) (W : WX) (ta : TA) : TS := fun _ σ H => tMkX C fld OkV ta σ H fun cls d H' => W cls d σ H'
theorem ps_raiseX {OkV : V → Hp → Prop} {a : Expr} {ta : TA} {W : WX} {p pos pos2 : Pos} {k : Nat} (hc : X.calm = true) (T : PySem.K1X.XC X.prog X.K X.mg x fld C fI Ok) (hov : ∀ pins σ H s v u, Inv X pins σ H s → RelV v u → OkV v H → Ok u s.heap) (hr : Room k X.A) (tk : L2N.Takes X W) (ha : PA X [a] ta) (hg : Gl X x)
    (hdb : (x == ("__debug__" : Str)) = false := by decide) (he : starEach (a :: []) X.env = (false, eval a X.env) :: starEach [] X.env := by rfl) (hpl : (backTo pos (starEach [] X.env)).any (·.1) = false := by rfl) :
    PS X (.Raise (some (.Call (.Name x p) [a] [] pos)) none pos2) (tRaiseX C fld OkV W ta) := L2N.ps_raise hc tk (pmk_x T hov hr ha hg hdb he hpl)
/-- e.fld, e the exception that the suite holds -/
def tGetX (C : Addr) (fld : Str) (a : Addr) (cls : Value) (d : Option Addr) (te : TE) : TE := fun σ H Q => te σ H fun y H1 => y = .ref a ∧ cls = .ref C ∧ ∃ (dd : Addr) (v : V), d = some dd ∧ H1 dd = some (.xd [(fld, v)]) ∧ Q v H1
theorem pe_getX {a : Addr} {oe : Obj} {cls : Value} {d : Option Addr} {pn : List (Addr × Obj)} {e : Expr} {te : TE} {pos : Pos} (T : PySem.K1X.XC X.prog X.K X.mg x fld C fI Ok) (hz : Zc cls d oe) (hf : ∃ vs, oe.data = .fields vs) (he : PE (X.suite a ((a, oe) :: pn)) e te)
    (hb : attributeBase e fld X.env (eval e X.env) = eval e X.env := by rfl) :
    PE (X.suite a ((a, oe) :: pn)) (.Attribute e fld pos) (tGetX C fld a cls d te) := by
  refine ⟨fun pins s σ H Q I h => ?_⟩
  refine attr_of hb (thn (he.run pins s σ H _ I h) fun u s1 hh => ?_)
  obtain ⟨y, H1, I1, rx, ex, ec, dd, v, ed, ea, q⟩ := hh
  subst ex
  obtain rfl : u = Value.ref a := rx
  subst ec
  subst ed
  obtain ⟨ha, _⟩ := I1.pin (a, oe) (List.mem_append_left _ List.mem_cons_self)
  obtain ⟨vs, hd⟩ := hf
  have hx : ObjOk X.prog X.w H1 s1.heap dd (.xd [(fld, v)]) := I1.hok dd _ ea
  obtain ⟨mA, hns, hr⟩ := hx
  obtain ⟨od, ho, hl⟩ := lookIn_ns hns
  have l : List.lookup fld [(fld, v)] = some v := by simp [List.lookup]
  obtain ⟨u, hu, ru⟩ := RelO.some_of (v := v) (o := mA fld) (by rw [← l]; exact hr fld)
  have J : PySem.W.InstAt s1.heap a oe C (some od) := ⟨ha, hz.1, by unfold PySem.W.notCls; rw [hd] <;> rfl, by rw [hz.2]; exact ho⟩
  exact HandSPX.exc_get I1.kIn J T.ga T.gg T.exC (PySem.W.findObj_own T.hdC T.noN rfl (by rw [hl, hu])) (handed_of ru) ⟨v, H1, I1.tok _, ru, q⟩
end
end L2
namespace L2
open PySem PySem.Spec PyProof.Rows
/-- a def that may raise, whatever is asked of its errors -/
theorem Fun.okN {P : Program} {w : World} {K : PySem.W.Frag} {mg : Str → Option Value} {base : Heap} {CX : CXT} {x qual : Str} {st : Stmt} {f : Addr} {fd : FuncData} {N ps : List Str} {k : Nat} {sp : Sp} (F : Fun K x qual st f fd) (S : FnScope N ps (defScope st))
    (len : ∀ (vs : List V) (H : Hp) (Q : VK) (E : XK), sp vs H Q E → vs.length = ps.length)
    (body : ∀ (cdv : Value) (A : Around) (outer : List Env) (s : Shared) (H : Hp) (vs : List V) (Q : VK) (E : XK), Room k (A.deeper (envOfC qual (defScope st) s.heap.objs.size f cdv)) → sp vs H Q E →
      ∃ t, PSs (cxOf CX P w K mg base N qual (defScope st) f cdv A outer s H E) (defBody st) t ∧ t { nx := fun x H' => Q V.non H', rt := Q } (start N vs) H) : FnOk P w K mg base CX (k + 1) f fd ps sp := by
  obtain ⟨oc, od, kV, doc, pm, an, cdv, ct, osl, rfl, lk, hcd⟩ := F.ex
  exact fn_of lk hcd S len (fun A outer s H vs Q E hr hsp => body cdv A outer s H vs Q E hr hsp)
end L2
end
section
set_option maxRecDepth 100000
set_option maxHeartbeats 4000000
namespace K1
open PySem L2 K01
/-! ### rings in messages -/
/-- names and numbers that are not too long -/
def SmallZ (z : Str) : Prop := z.length ≤ 8 ∧ ∀ c ∈ z.cps.toList, c < 16 ^ 8
def SmallF (F : List Fact) : Prop := ∀ f ∈ F, SmallZ f.1 ∧ SmallZ f.2.1 ∧ f.2.2.natAbs.log2 < 1920
def OkRing (P : Program) (u : Value) (h : Heap) : Prop := ∃ (a : Addr) (o : Obj) (items : Array Value) (n : Nat), u = .ref a ∧ h.get? a = some o ∧ o.cls = .type "tuple" ∧ o.data = .seq items n ∧ items.size ≤ 2100 ∧ ∀ w, PySem.K1Reps P w h 2200 items.toList
def OkRingV (K : PySem.W.Frag) (v : V) (H : Hp) : Prop := ∃ (a : Addr) (ps : List Addr) (RG : List Fact), v = .ref a ∧ SqT K H a (ps.map V.ref) ∧ TupsAt H ps (RG.map factV) ∧ ps.length ≤ 2100 ∧ SmallF RG
theorem reps_mono {P : Program} {w : World} {h h' : Heap} {b : Nat} (k : ∀ b o, h.get? b = some o → h'.get? b = some o) : ∀ {l : List Value}, PySem.K1Reps P w h b l → PySem.K1Reps P w h' b l
  | _, .nil => .nil
  | _, .cons r s => .cons (fun n hn A E s Q hu hk => r n hn A E s Q hu fun c o e => hk c o (k c o e)) (reps_mono k s)
theorem okRing_mono {P : Program} : ∀ u h h', (∀ b o, h.get? b = some o → h'.get? b = some o) → OkRing P u h → OkRing P u h' := by
  rintro u h h' k ⟨a, o, items, n, e, h1, h2, h3, h4, h5⟩
  exact ⟨a, o, items, n, e, k _ _ h1, h2, h3, h4, fun w => reps_mono k (h5 w)⟩
theorem okRing_of {X : Cx} : ∀ pins σ H s v u, L2.Inv X pins σ H s → L2.RelV v u → OkRingV X.K v H → OkRing X.prog u s.heap := by
  rintro pins σ H s v u I r ⟨a, ps, RG, rfl, h1, h2, h3, h4⟩
  obtain rfl : u = Value.ref a := r
  obtain ⟨its, rv, ⟨o, ho, hc, n, hd⟩, hz⟩ := I.tuple h1
  have hl : its.length = ps.length := by rw [← rv.length, List.length_map]
  refine ⟨a, o, its.toArray, n, rfl, ho, hc, hd, by simpa [hl] using h3, fun w => ?_⟩
  show PySem.K1Reps X.prog w s.heap 2200 its
  have key : ∀ (qs : List Addr) (RS : List Fact) (vs : List Value), Vals (qs.map V.ref) vs → TupsAt H qs (RS.map factV) → SmallF RS → PySem.K1Reps X.prog w s.heap 2200 vs := by
    intro qs
    induction qs with
    | nil => intro RS vs r _ _; cases r; exact .nil
    | cons q qs ih =>
      intro RS vs r hT hS
      cases RS with
      | nil => exact absurd hT.1 (by simp)
      | cons f RS =>
        cases r with
        | cons r1 r2 =>
          rename_i v1 vs
          obtain rfl : v1 = Value.ref q := r1
          have hq : H q = some (.tup (factV f)) := hT.2 0 q _ rfl rfl
          obtain ⟨its2, rv2, ⟨o2, ho2, hc2, n2, hd2⟩, _⟩ := I.tuple (show SqT X.K H q (factV f) from .inl (.inl hq))
          have sf := hS f List.mem_cons_self
          refine .cons ?_ (ih RS vs r2 ⟨by have := hT.1; simpa using this, fun i p xs e1 e2 => hT.2 (i + 1) p xs e1 e2⟩ (fun g hg => hS g (List.mem_cons_of_mem _ hg)))
          obtain ⟨x, y, c⟩ := f
          obtain ⟨⟨x1, x2⟩, ⟨y1, y2⟩, c1⟩ := sf
          cases rv2 with
          | cons q1 rv2 =>
            cases rv2 with
            | cons q2 rv2 =>
              cases rv2 with
              | cons q3 rv2 =>
                cases rv2
                obtain ⟨t1, rfl⟩ := q1
                obtain ⟨t2, rfl⟩ := q2
                obtain ⟨t3, rfl⟩ := q3
                replace x1 : x.length ≤ 8 := x1
                replace y1 : y.length ≤ 8 := y1
                replace c1 : c.natAbs.log2 < 1920 := c1
                have lx := PySem.StrLaws.reprText_len x x2
                have ly := PySem.StrLaws.reprText_len y y2
                have lc := PyProof.Rows.int_text_len_1921 c1
                have hs : (2000 : Nat) ≤ sizeLine := by rw [sizeLine_eq]; decide
                refine PySem.K1Rep.tuple (ts := [reprText x, reprText y, (toString c : Str)]) ho2 hc2 hd2 (.cons (ReprIs.str x _ (by omega)) (.cons (ReprIs.str y _ (by omega)) (.cons (ReprIs.int _ c1) .nil))) ?_
                have h1 := PySem.fmt_text [reprText x, reprText y, (Str.ofString (toString c) : Str)]
                have h2 : PySem.piled [reprText x, reprText y, (Str.ofString (toString c) : Str)] = (reprText x).length + 2 + ((reprText y).length + 2 + ((Str.ofString (toString c)).length + 2 + 0)) := by
                  rw [piled_cons, piled_cons, piled_cons]
                  rfl
                omega
  exact key ps RG its rv h2 h4
end K1
end
section
set_option maxRecDepth 100000
set_option maxHeartbeats 4000000
namespace K1
open PySem L2 K01
def isRing (F : List Fact) (RG : List Fact) : Prop := RG.length ≤ 2100 ∧ ∃ x c, isPath F x x c RG ∧ c < 0
theorem nodes_in {ms : List Str} {F : List Fact} (h : InN ms F) (hz : ∀ z ∈ nodes ms, SmallZ z) (hi : ∀ f ∈ F, f.2.2.natAbs.log2 < 1920) : SmallF F := fun f hf => ⟨hz _ (h f hf).1, hz _ (h f hf).2, hi f hf⟩
/-- the facts that a matrix is closed for -/
abbrev EG (ms : List Str) (F : List Fact) : List Edge := (F ++ zeros ms).map (eF ms)
theorem good_more {ms : List Str} {F : List Fact} {f : Fact} {B' : Mat} (G : Good (ms.length + 1) (EG ms F ++ [eF ms f]) B') : Good (ms.length + 1) (EG ms (F ++ [f])) B' :=
  G.perm fun e => by
    simp only [EG, List.map_append, List.mem_append, List.map_cons, List.map_nil]
    constructor
    · rintro ((h | h) | h)
      · exact .inl (.inl h)
      · exact .inr h
      · exact .inl (.inr h)
    · rintro ((h | h) | h)
      · exact .inl (.inl h)
      · exact .inr h
      · exact .inl (.inr h)
section
variable {P : Program} {w : World} {K : PySem.W.Frag} {mg : Str → Option Value} {base : Heap}
abbrev sBounds : Stmt := top 40
def spBounds (K : PySem.W.Frag) (C : Addr) : Sp := fun vs H Q E => ∃ (a b m mo : Addr) (ms : List Str) (ps qs : List Addr) (FS MS : List Fact) (B : Mat), vs = [.ref a, .ref b, .ref m, .ref mo] ∧ strsT K H a ms ∧ ms.length ≤ 900 ∧ (nodes ms).Nodup ∧ (∀ z ∈ nodes ms, SmallZ z) ∧
  SqT K H b (ps.map V.ref) ∧ TupsAt H ps (FS.map factV) ∧ ps.length ≤ 400 ∧ InN ms FS ∧ (∀ f ∈ FS, f.2.2.natAbs.log2 < 1920) ∧ SqT K H mo (qs.map V.ref) ∧ TupsAt H qs (MS.map factV) ∧ qs.length ≤ 400 ∧ InN ms MS ∧ (∀ f ∈ MS, f.1 ≠ f.2.1 ∧ f.2.2.natAbs.log2 < 1920) ∧
  MatAt K H m B ∧ Good (ms.length + 1) (EG ms FS) B ∧
  (∀ H' p B', Same H H' → MatAt K H' p B' → Good (ms.length + 1) (EG ms (FS ++ MS)) B' → Q (.ref p) H') ∧
  (∀ H' d rp RG, Same H H' → H d = none → H' d = some (.xd [("ring", .ref rp)]) → TTAt K H' rp (RG.map factV) → isRing (FS ++ MS ++ zeros ms) RG → E (.ref C) (some d) H')
theorem scBounds : FnScope ["marks", "facts", "bounds", "more", "spots", "closer", "at", "fact", "x", "y", "number", "one", "two", "back"] ["marks", "facts", "bounds", "more"] (defScope sBounds) := ⟨rfl, rfl, rfl, by decide +kernel, rfl, by decide +kernel, by decide +kernel⟩
theorem ok_bounds {f fS fN fA fT fC fB fK fG fL C fI : Addr} {fd fdS fdN fdA fdT fdC fdB fdK fdG fdL : FuncData} (F : Fun K "bounds_with" "bounds_with" sBounds f fd) (T : Bi mg) (Fs : Fun K "spots_of" "spots_of" sSpots fS fdS) (bS : Binds K fdS ["marks"] []) (mS : mg "spots_of" = some (.ref fS))
    (FN : Fun K "names_of" "names_of" sNames fN fdN) (bN : Binds K fdN ["marks"] []) (mN : mg "names_of" = some (.ref fN)) (FA : Fun K "all_facts" "all_facts" sAll fA fdA) (bA : Binds K fdA ["marks", "facts"] []) (mA : mg "all_facts" = some (.ref fA))
    (FT : Fun K "is_straight" "is_straight" sStraight fT fdT) (bT : Binds K fdT ["fact", "ahead"] []) (mT : mg "is_straight" = some (.ref fT)) (FC : Fun K "chain_of" "chain_of" sChain fC fdC) (bC : Binds K fdC ["marks", "facts", "bounds", "x", "y"] []) (mC : mg "chain_of" = some (.ref fC))
    (FB : Fun K "is_barred" "is_barred" sBarred fB fdB) (bB : Binds K fdB ["bounds", "x", "y", "number"] []) (mB : mg "is_barred" = some (.ref fB)) (FK : Fun K "is_kept" "is_kept" sKept fK fdK) (bK : Binds K fdK ["bounds", "x", "y", "number"] []) (mK : mg "is_kept" = some (.ref fK))
    (FG : Fun K "tightened" "tightened" sTight fG fdG) (bG : Binds K fdG ["bounds", "x", "y", "number"] []) (mG : mg "tightened" = some (.ref fG)) (FL : Fun K "lesser_row" "lesser_row" sLesser fL fdL) (bL : Binds K fdL ["row", "step", "onward"] []) (mL : mg "lesser_row" = some (.ref fL))
    (TX : PySem.K1X.XC P K mg "Contradiction" "ring" C fI (OkRing P)) :
    FnOk P w K mg base (L2N.CX P w) 4 f fd ["marks", "facts", "bounds", "more"] (spBounds K C) := by
  have GS : FnOk P w K mg base CX0 2 fS fdS ["marks"] (spSpots K) := ok_spots Fs T FN bN mN
  have GC : FnOk P w K mg base CX0 3 fC fdC ["marks", "facts", "bounds", "x", "y"] (spChain K) := ok_chain FC T Fs bS mS FN bN mN FA bA mA FT bT mT
  have GB : FnOk P w K mg base CX0 1 fB fdB ["bounds", "x", "y", "number"] (spBarred K) := ok_barred FB
  have GK : FnOk P w K mg base CX0 1 fK fdK ["bounds", "x", "y", "number"] (spKept K) := ok_kept FK
  have GG : FnOk P w K mg base CX0 2 fG fdG ["bounds", "x", "y", "number"] (spTight K) := ok_tight FG T FL bL mL
  refine F.okN scBounds (fun vs H Q E h => ?_) (fun cdv A outer s H vs Q E hr h => ?_)
  · obtain ⟨_, _, _, _, _, _, _, _, _, _, rfl, _⟩ := h
    rfl
  · obtain ⟨a, b, m, mo, ms, ps, qs, FS, MS, B, rfl, hm, hl, hN, hzs, hb, hbT, hbl, hbI, hbi, hq, hqT, hql, hqI, hqi, hM, G, kQ, kE⟩ := h
    have hu := hu_of hr
    have hr1 : Room 1 _ := hr.mono (by decide)
    have hr2 : Room 2 _ := hr.mono (by decide)
    refine ⟨_, pss_cons (ps_set (i := 4) scBounds.nd rfl (.inl rfl) (pe_call GS hr2 rfl mS Fs.kp bS .nil pass0 (pa_cons (pv 0) pa_nil)))
      (pss_cons (ps_set (i := 5) scBounds.nd rfl (.inl rfl) (pv 2))
      (pss_cons (ps_for (passes_of rfl) rfl (pi_enumT (by rfl) T.enumerate (pa_cons (pv 3) pa_nil)) (pg_tup rfl (pgs_cons (pg_name (i := 6) scBounds.nd rfl (.inl rfl)) (pgs_cons (pg_name (i := 7) scBounds.nd rfl (.inl rfl)) pgs_nil)))
        (pss_cons (ps_asg (pv 7) (pg_tup rfl (pgs_cons (pg_name (i := 8) scBounds.nd rfl (.inl rfl)) (pgs_cons (pg_name (i := 9) scBounds.nd rfl (.inl rfl)) (pgs_cons (pg_name (i := 10) scBounds.nd rfl (.inl rfl)) pgs_nil)))))
        (pss_cons (ps_par (i := 11) (j := 12) (by rfl) scBounds.nd rfl rfl (by decide) rfl rfl (pa_cons (pe_dget hu (pv 4) (pv 8) (fun _ _ => rfl)) (pa_cons (pe_dget hu (pv 4) (pv 9) (fun _ _ => rfl)) pa_nil)) (by rfl))
        (pss_cons (ps_if (pt_val (pe_call GB hr1 rfl mB FB.kp bB .nil pass0 (pa_cons (pv 5) (pa_cons (pv 11) (pa_cons (pv 12) (pa_cons (pv 10) pa_nil))))))
            (pss_cons (ps_set (i := 13) scBounds.nd rfl (.inl rfl) (pe_call GC hr rfl mC FC.kp bC .nil pass0 (pa_cons (pv 0) (pa_cons (pe_tup (StX.pa_star (pv 1) (StX.pa_star (pe_slice sl_tupA (pv 3) po_none (po_some (pv 6))) pa_nil))) (pa_cons (pv 5) (pa_cons (pv 9) (pa_cons (pv 8) pa_nil)))))))
            (pss_one (ps_raiseX (OkV := OkRingV K) rfl TX okRing_of hr (L2N.takes_of rfl rfl rfl rfl) (pa_cons (pe_tup (pa_cons (pv 7) (StX.pa_star (pv 13) pa_nil))) pa_nil) rfl))) pss_nil)
        (pss_one (ps_if (pt_not (pt_val (pe_call GK hr1 rfl mK FK.kp bK .nil pass0 (pa_cons (pv 5) (pa_cons (pv 11) (pa_cons (pv 12) (pa_cons (pv 10) pa_nil)))))))
            (pss_one (ps_set (i := 5) scBounds.nd rfl (.inl rfl) (pe_call GG hr2 rfl mG FG.kp bG .nil pass0 (pa_cons (pv 5) (pa_cons (pv 11) (pa_cons (pv 12) (pa_cons (pv 10) pa_nil))))))) pss_nil))))))
      (pss_one (ps_ret (pv 5))))), ?_⟩
    refine ⟨_, rfl, a, ms, rfl, hm, hl, hN, fun H1 sd s1 hsd => ⟨_, rfl, ?_⟩⟩
    refine ⟨_, rfl, mo, _, rfl, Same.tup s1 hq, for_it (walk_enumT (K := K) (a := mo)) (fun i σ H' => ∃ (cl : Addr) (B' : Mat) (v6 v7 v8 v9 v10 v11 v12 v13 : Option V), σ = [some (.ref a), some (.ref b), some (.ref m), some (.ref mo), some (.ref sd), some (.ref cl), v6, v7, v8, v9, v10, v11, v12, v13] ∧ Same H1 H' ∧ MatAt K H' cl B' ∧ Good (ms.length + 1) (EG ms (FS ++ MS.take i)) B')
      ⟨m, B, none, none, none, none, none, none, none, none, rfl, Same.refl H1, hM.same s1, by rw [List.take_zero, List.append_nil]; exact G⟩ (fun i σ H' _ ⟨_, _, _, _, _, _, _, _, _, _, _, q, _⟩ => Same.tup (s1.trans q) hq) ?_ ?_⟩
    · rintro i v σ H2 H3 hi ⟨cl, B', v6, v7, v8, v9, v10, v11, v12, v13, rfl, q1, q2, q3⟩ ⟨p, x', y', rfl, hp, rfl, hx', hy'⟩
      obtain ⟨pf, hpf, rfl⟩ := get_map hy'
      obtain ⟨xs, hxs, hpt⟩ := hqT.get hpf
      obtain ⟨f, hf, rfl⟩ := get_map hxs
      cases hx'
      have hfm := List.mem_of_getElem? hf
      have i1 := hqI f hfm
      have i2 := hqi f hfm
      have sP : Same H (upd H2 p (.tup [.int (i : Nat), .ref pf])) := (s1.trans q1).trans (Same.new hp)
      have s2 : Same H2 (upd H2 p (.tup [.int (i : Nat), .ref pf])) := Same.new hp
      generalize hH3 : upd H2 p (.tup [.int (i : Nat), .ref pf]) = H3 at sP s2
      have hpp : SqT K H3 p [.int (i : Nat), .ref pf] := by rw [← hH3]; exact tup_at
      have hpf3 : SqT K H3 pf (factV f) := .inl (.inl (sP _ _ hpt))
      have hiq : i < qs.length := (List.getElem?_eq_some_iff.mp hpf).1
      have hsd3 := hsd.same (q1.trans s2)
      have gx := hsd3.get (ix_get i1.1)
      have gy := hsd3.get (ix_get i1.2)
      have hx : ix ms f.1 < ms.length + 1 := ix_lt i1.1
      have hy : ix ms f.2.1 < ms.length + 1 := ix_lt i1.2
      have hM3 := q2.same s2
      have InF : InN ms (FS ++ MS.take i) := fun g hg => by
        rcases List.mem_append.mp hg with h | h
        · exact hbI g h
        · exact hqI g (List.mem_of_mem_take h)
      have InZ : InN ms (FS ++ MS.take i ++ zeros ms) := fun g hg => by
        rcases List.mem_append.mp hg with h | h
        · exact InF g h
        · exact zeros_in ms g h
      have htk : MS.take (i + 1) = MS.take i ++ [f] := take_snoc hf
      refine ⟨p, _, rfl, hpp, rfl, _, _, rfl, _, _, rfl, rfl, _, rfl, pf, _, rfl, hpf3, rfl, _, _, rfl, _, _, rfl, _, _, rfl, rfl, _, rfl, _, rfl, sd, _, rfl, gx, _, rfl, _, rfl, sd, _, rfl, gy, _, _, rfl, ?_⟩
      refine ⟨_, rfl, _, rfl, _, rfl, _, rfl, cl, B', ms.length + 1, ix ms f.1, ix ms f.2.1, f.2.2, rfl, hM3, q3.sized, hx, hy, _, rfl, ?_⟩
      cases eb : barred B' (ix ms f.1) (ix ms f.2.1) f.2.2 with
      | true =>
        refine iteT ?_
        obtain ⟨k0, hk0, hk1⟩ : ∃ k0, cell B' (ix ms f.2.1) (ix ms f.1) = some k0 ∧ k0 + f.2.2 < 0 := by
          unfold barred at eb
          cases q : cell B' (ix ms f.2.1) (ix ms f.1) with
          | none => rw [q] at eb; cases eb
          | some k0 => rw [q] at eb; exact ⟨k0, rfl, by simpa using eb⟩
        refine ⟨_, rfl, _, rfl, b, _, rfl, .inl (Same.tup sP hb), _, rfl, _, rfl, _, rfl, mo, _, rfl, Same.tup sP hq, fun w => ?_, fun w u hu' => ?_⟩
        · rw [HT.sIx_nat, HT.sIx_none, List.length_map] at w
          omega
        · have s3 : Same H3 (upd H3 u (.tup (cutV (qs.map V.ref) none (some (i : Int))))) := Same.new hu'
          have ec : cutV (qs.map V.ref) none (some (i : Int)) = (qs.take i).map V.ref := by rw [cut_take, List.map_take]
          rw [ec] at s3 ⊢
          refine ⟨u, _, rfl, .inl tup_at, ?_, fun tp htp => ?_⟩
          · rw [List.length_append, List.length_append, List.length_map, List.length_map, List.length_take]
            exact Nat.le_of_lt (small1000 (by simp; omega))
          · have s4 := s3.trans (Same.new (o := .tup (ps.map V.ref ++ ((qs.take i).map V.ref ++ []))) htp)
            have eT : ps.map V.ref ++ ((qs.take i).map V.ref ++ []) = (ps ++ qs.take i).map V.ref := by rw [List.append_nil, List.map_append]
            refine ⟨_, rfl, _, rfl, _, rfl, a, tp, cl, f.2.1, f.1, ms, ps ++ qs.take i, FS ++ MS.take i, B', k0, rfl, Same.tup (sP.trans s4) hm, hl, hN, by rw [← eT]; exact tup_at, ?_, ?_, InF, hM3.same s4, q3, i1.2, i1.1, hk0, fun H5 l qs5 CH s5 _ _ h5l h5n h5T h5P => ?_⟩
            · rw [List.map_append]
              exact (hbT.same (sP.trans s4)).app (by have h9 := (hqT.same (sP.trans s4)).take i; rw [← List.map_take] at h9; exact h9)
            · rw [List.length_append, List.length_take]; omega
            · refine ⟨_, rfl, _, rfl, l, _, rfl, .inr (SqL.of h5l), ?_, fun rp hrp => ?_⟩
              · rw [List.length_cons, List.length_append, List.length_map]
                exact Nat.le_of_lt (Nat.lt_of_le_of_lt (show _ ≤ 2002 by simp; omega) (by decide))
              · have s6 : Same H5 (upd H5 rp (.tup (.ref pf :: (qs5.map V.ref ++ [])))) := Same.new hrp
                have sA : Same H (upd H5 rp (.tup (.ref pf :: (qs5.map V.ref ++ [])))) := ((sP.trans s4).trans s5).trans s6
                have eR : (V.ref pf :: (qs5.map V.ref ++ [])) = (pf :: qs5).map V.ref := by rw [List.append_nil]; rfl
                have hrT : SqT K (upd H5 rp (.tup (.ref pf :: (qs5.map V.ref ++ [])))) rp ((pf :: qs5).map V.ref) := by rw [← eR]; exact tup_at
                have hTT : TupsAt (upd H5 rp (.tup (.ref pf :: (qs5.map V.ref ++ [])))) (pf :: qs5) ((f :: CH).map factV) := (TupsAt.one (sA _ _ hpt)).app (h5T.same s6)
                have hmem : ∀ g ∈ f :: CH, g ∈ FS ++ MS ++ zeros ms := fun g hg => by
                  rcases List.mem_cons.mp hg with rfl | hg
                  · exact List.mem_append_left _ (List.mem_append_right _ hfm)
                  · rcases List.mem_append.mp (h5P.mem g hg) with h | h
                    · rcases List.mem_append.mp h with h | h
                      · exact List.mem_append_left _ (List.mem_append_left _ h)
                      · exact List.mem_append_left _ (List.mem_append_right _ (List.mem_of_mem_take h))
                    · exact List.mem_append_right _ h
                have InA : InN ms (FS ++ MS ++ zeros ms) := fun g hg => by
                  rcases List.mem_append.mp hg with h | h
                  · rcases List.mem_append.mp h with h | h
                    · exact hbI g h
                    · exact hqI g h
                  · exact zeros_in ms g h
                have sml : SmallF (f :: CH) := fun g hg => by
                  have := hmem g hg
                  refine ⟨hzs _ (InA g this).1, hzs _ (InA g this).2, ?_⟩
                  rcases List.mem_append.mp this with h | h
                  · rcases List.mem_append.mp h with h | h
                    · exact hbi g h
                    · exact (hqi g h).2
                  · obtain ⟨z, _, rfl⟩ := List.mem_map.mp h
                    show (0 : Int).natAbs.log2 < 1920
                    decide
                refine ⟨.ref rp, rfl, ⟨rp, pf :: qs5, f :: CH, rfl, hrT, hTT, by rw [List.length_cons]; omega, sml⟩, fun d hd => ?_⟩
                refine kE _ d rp (f :: CH) (sA.trans (Same.new hd)) (Same.free sA hd) upd_same (TTAt.same (Same.new hd) ⟨pf :: qs5, hrT, hTT⟩) ⟨by have := hTT.1; rw [List.length_map] at this; rw [← this, List.length_cons]; omega, f.1, f.2.2 + k0, ⟨hmem f List.mem_cons_self, rfl, ?_⟩, by omega⟩
                have e : f.2.2 + k0 - f.2.2 = k0 := by omega
                rw [e]
                refine h5P.mono fun g hg => ?_
                rcases List.mem_append.mp hg with h | h
                · rcases List.mem_append.mp h with h | h
                  · exact List.mem_append_left _ (List.mem_append_left _ h)
                  · exact List.mem_append_left _ (List.mem_append_right _ (List.mem_of_mem_take h))
                · exact List.mem_append_right _ h
      | false =>
        refine iteF ?_
        have hb0 : ∀ k, Le B' (ix ms f.2.1) (ix ms f.1) k → 0 ≤ k + f.2.2 := by
          rintro k ⟨d, e1, e2⟩
          unfold barred at eb
          rw [e1] at eb
          have : ¬ d + f.2.2 < 0 := by simpa using eb
          omega
        refine ⟨_, rfl, _, rfl, _, rfl, _, rfl, cl, B', ms.length + 1, ix ms f.1, ix ms f.2.1, f.2.2, rfl, hM3, q3.sized, hx, hy, _, rfl, ?_⟩
        cases ek : kept B' (ix ms f.1) (ix ms f.2.1) f.2.2 with
        | true =>
          refine iteF ⟨cl, B', _, _, _, _, _, _, _, _, rfl, q1.trans s2, hM3, ?_⟩
          rw [htk, ← List.append_assoc]
          refine good_more (kept_good q3 ?_)
          unfold kept at ek
          cases q : cell B' (ix ms f.1) (ix ms f.2.1) with
          | none => rw [q] at ek; cases ek
          | some d => rw [q] at ek; exact ⟨d, q, by simpa using ek⟩
        | false =>
          refine iteT ⟨_, rfl, _, rfl, _, rfl, _, rfl, cl, B', ms.length + 1, ix ms f.1, ix ms f.2.1, f.2.2, rfl, hM3, q3.sized, hx, hy, by omega, fun H5 p5 s5 h5 => ?_⟩
          refine ⟨p5, _, _, _, _, _, _, _, _, _, rfl, (q1.trans s2).trans s5, h5, ?_⟩
          rw [htk, ← List.append_assoc]
          exact good_more (tight_good q3 InZ.inR hx hy hb0)
    · rintro σ H2 ⟨cl, B', v6, v7, v8, v9, v10, v11, v12, v13, rfl, q1, q2, q3⟩
      have e : MS.take ((qs.map V.ref).length) = MS := by
        have := hqT.1
        rw [List.length_map] at this
        rw [List.length_map, this, List.take_length]
      rw [e] at q3
      exact ⟨_, rfl, kQ H2 cl B' (s1.trans q1) q2 q3⟩
end
end K1
end
section
set_option maxRecDepth 100000
set_option maxHeartbeats 4000000
namespace K1
open PySem L2 K01
def OkInt (u : Value) (_ : Heap) : Prop := ∃ (i : Int) (t : Tok), u = .int i t ∧ i.natAbs.log2 < 1920
def OkIntV (v : V) (_ : Hp) : Prop := ∃ i : Int, v = .int i ∧ i.natAbs.log2 < 1920
theorem okInt_of {X : Cx} : ∀ pins σ H s v u, L2.Inv X pins σ H s → L2.RelV v u → OkIntV v H → OkInt u s.heap := by
  rintro pins σ H s v u I r ⟨i, rfl, h⟩
  obtain ⟨t, rfl⟩ := r
  exact ⟨i, t, rfl, h⟩
theorem small_log {n : Nat} (h : n ≤ 1000) : ((n : Nat) : Int).natAbs.log2 < 1920 := by
  rw [Int.natAbs_natCast]
  exact Nat.lt_of_le_of_lt (Nat.log2_le_self n) (by omega)
/-- the first fault: 0 a mark, 1 a take, 2 a fact -/
def fault (ms ts : List Str) (fs : List (List V)) : Option (Nat × Nat) := match first (badMark ms) ms.length with
  | some i => some (0, i)
  | none => match first (badTake ms ts) ts.length with
    | some i => some (1, i)
    | none => match first (badFact ms fs) fs.length with
      | some i => some (2, i)
      | none => none
def clsOf (CM CT CF : Addr) : Nat → Addr
  | 0 => CM
  | 1 => CT
  | _ => CF
section
variable {P : Program} {w : World} {K : PySem.W.Frag} {mg : Str → Option Value} {base : Heap}
abbrev sCheck : Stmt := top 36
def spCheck (K : PySem.W.Frag) (cls : Nat → Addr) : Sp := fun vs H Q E => ∃ (a b c : Addr) (ms ts : List Str) (fs : List (List V)), vs = [.ref a, .ref b, .ref c] ∧ strsT K H a ms ∧ Short ms ∧ strsT K H b ts ∧ ts.length ≤ 1000 ∧ TTAt K H c fs ∧ FlatF fs ∧ fs.length ≤ 1000 ∧
  (∀ k i H' d, fault ms ts fs = some (k, i) → Same H H' → H d = none → H' d = some (.xd [("index", .int (i : Nat))]) → E (.ref (cls k)) (some d) H') ∧ (fault ms ts fs = none → ∀ H', Same H H' → Q .non H')
theorem scCheck : FnScope ["marks", "takes", "facts", "at"] ["marks", "takes", "facts"] (defScope sCheck) := ⟨rfl, rfl, rfl, by decide +kernel, rfl, by decide +kernel, by decide +kernel⟩
theorem ok_check {f fM fT fF fN fA fS fW CM CT CF iM iT iF : Addr} {fd fdM fdT fdF fdN fdA fdS fdW : FuncData} (F : Fun K "check_parts" "check_parts" sCheck f fd) (T : Bi mg)
    (FM : Fun K "first_bad_mark" "first_bad_mark" sBadMark fM fdM) (bM : Binds K fdM ["marks"] []) (mM : mg "first_bad_mark" = some (.ref fM)) (FT : Fun K "first_bad_take" "first_bad_take" sBadTake fT fdT) (bT : Binds K fdT ["marks", "takes"] []) (mT : mg "first_bad_take" = some (.ref fT))
    (FF : Fun K "first_bad_fact" "first_bad_fact" sBadFact fF fdF) (bF : Binds K fdF ["marks", "facts"] []) (mF : mg "first_bad_fact" = some (.ref fF)) (FN : Fun K "is_name" "is_name" sName fN fdN) (bN : Binds K fdN ["x"] []) (mN : mg "is_name" = some (.ref fN))
    (FA : Fun K "is_fact" "is_fact" sFact fA fdA) (bA : Binds K fdA ["fact", "names"] []) (mA : mg "is_fact" = some (.ref fA)) (FS : Fun K "names_of" "names_of" sNames fS fdS) (bS : Binds K fdS ["marks"] []) (mS : mg "names_of" = some (.ref fS))
    (FW : Fun K "is_whole" "is_whole" sWhole fW fdW) (bW : Binds K fdW ["x"] []) (mW : mg "is_whole" = some (.ref fW))
    (XM : PySem.K1X.XC P K mg "BadMarks" "index" CM iM OkInt) (XT : PySem.K1X.XC P K mg "BadTakes" "index" CT iT OkInt) (XF : PySem.K1X.XC P K mg "BadFact" "index" CF iF OkInt) :
    FnOk P w K mg base (L2N.CX P w) 4 f fd ["marks", "takes", "facts"] (spCheck K (clsOf CM CT CF)) := by
  have GM : FnOk P w K mg base CX0 2 fM fdM ["marks"] (spBadMark K) := ok_badMark FM T FN bN mN
  have GT : FnOk P w K mg base CX0 1 fT fdT ["marks", "takes"] (spBadTake K) := ok_badTake FT T
  have GF : FnOk P w K mg base CX0 3 fF fdF ["marks", "facts"] (spBadFact K) := ok_badFact FF T FS bS mS FA bA mA FW bW mW
  refine F.okN scCheck (fun vs H Q E h => ?_) (fun cdv A outer s H vs Q E hr h => ?_)
  · obtain ⟨_, _, _, _, _, _, rfl, _⟩ := h
    rfl
  · obtain ⟨a, b, c, ms, ts, fs, rfl, hm, hs, ht, htl, hf, hff, hfl, kE, kQ⟩ := h
    have hr1 : Room 1 _ := hr.mono (by decide)
    have hr2 : Room 2 _ := hr.mono (by decide)
    refine ⟨_, pss_cons (ps_set (i := 3) scCheck.nd rfl (.inl rfl) (pe_call GM hr2 rfl mM FM.kp bM .nil pass0 (pa_cons (pv 0) pa_nil)))
      (pss_cons (ps_if (pt_cmpR op_notN (pv 3) pe_non (nomark _)) (pss_one (ps_raiseX (OkV := OkIntV) rfl XM okInt_of hr (L2N.takes_of rfl rfl rfl rfl) (pa_cons (pv 3) pa_nil) rfl)) pss_nil)
      (pss_cons (ps_set (i := 3) scCheck.nd rfl (.inl rfl) (pe_call GT hr1 rfl mT FT.kp bT .nil pass0 (pa_cons (pv 0) (pa_cons (pv 1) pa_nil))))
      (pss_cons (ps_if (pt_cmpR op_notN (pv 3) pe_non (nomark _)) (pss_one (ps_raiseX (OkV := OkIntV) rfl XT okInt_of hr (L2N.takes_of rfl rfl rfl rfl) (pa_cons (pv 3) pa_nil) rfl)) pss_nil)
      (pss_cons (ps_set (i := 3) scCheck.nd rfl (.inl rfl) (pe_call GF hr rfl mF FF.kp bF .nil pass0 (pa_cons (pv 0) (pa_cons (pv 2) pa_nil))))
      (pss_one (ps_if (pt_cmpR op_notN (pv 3) pe_non (nomark _)) (pss_one (ps_raiseX (OkV := OkIntV) rfl XF okInt_of hr (L2N.takes_of rfl rfl rfl rfl) (pa_cons (pv 3) pa_nil) rfl)) pss_nil)))))), ?_⟩
    refine ⟨_, rfl, a, ms, rfl, hm, hs, fun H1 s1 => ?_⟩
    unfold fault at kE kQ
    refine ⟨_, rfl, rfl, _, rfl, ?_⟩
    cases e1 : first (badMark ms) ms.length with
    | some i =>
      rw [e1] at kE
      have hi := (first_inv.2 i e1).1
      refine iteNF (fun q => nomatch q) ⟨_, rfl, _, rfl, ⟨i, rfl, small_log (by have := hs.1; omega)⟩, fun d hd => kE 0 i _ d rfl (s1.trans (Same.new hd)) (Same.free s1 hd) upd_same⟩
    | none =>
      rw [e1] at kE kQ
      refine iteNS rfl ?_
      refine ⟨_, rfl, _, rfl, a, b, ms, ts, rfl, Same.tup s1 hm, Same.tup s1 ht, fun H2 s2 => ?_⟩
      refine ⟨_, rfl, rfl, _, rfl, ?_⟩
      cases e2 : first (badTake ms ts) ts.length with
      | some i =>
        rw [e2] at kE
        have hi := (first_inv.2 i e2).1
        refine iteNF (fun q => nomatch q) ⟨_, rfl, _, rfl, ⟨i, rfl, small_log (by omega)⟩, fun d hd => kE 1 i _ d rfl ((s1.trans s2).trans (Same.new hd)) (Same.free (s1.trans s2) hd) upd_same⟩
      | none =>
        rw [e2] at kE kQ
        refine iteNS rfl ?_
        refine ⟨_, rfl, _, rfl, a, c, ms, fs, rfl, Same.tup (s1.trans s2) hm, hs.1, hf.same (s1.trans s2), hff, fun H3 s3 => ?_⟩
        refine ⟨_, rfl, rfl, _, rfl, ?_⟩
        have sA := (s1.trans s2).trans s3
        cases e3 : first (badFact ms fs) fs.length with
        | some i =>
          rw [e3] at kE
          have hi := (first_inv.2 i e3).1
          refine iteNF (fun q => nomatch q) ⟨_, rfl, _, rfl, ⟨i, rfl, small_log (by omega)⟩, fun d hd => kE 2 i _ d rfl (sA.trans (Same.new hd)) (Same.free sA hd) upd_same⟩
        | none =>
          rw [e3] at kQ
          exact iteNS rfl (kQ rfl H3 sA)
end
end K1
end
section
set_option maxRecDepth 100000
set_option maxHeartbeats 4000000
namespace K1
open PySem L2 K01
theorem putF_new {f : Str} {v : V} : ∀ {fs : List (Str × V)}, (∀ p ∈ fs, p.1 ≠ f) → putF f v fs = fs ++ [(f, v)]
  | [], _ => rfl
  | (g, u) :: fs, h => by
    have h1 : ¬ g = f := h (g, u) List.mem_cons_self
    have ih := putF_new (f := f) (v := v) (fs := fs) fun p hp => h p (List.mem_cons_of_mem _ hp)
    show (if g = f then (g, v) :: fs else (g, u) :: putF f v fs) = _
    rw [if_neg h1, ih]
    rfl
theorem mark_bad {ms : List Str} (h : first (badMark ms) ms.length = none) {i : Nat} {z : Str} (hz : ms[i]? = some z) : nameOk z = true ∧ z ≠ "zero" ∧ z ∉ ms.take i := by
  have hi : i < ms.length := (List.getElem?_eq_some_iff.mp hz).1
  have hb := first_inv.1 h i hi
  have hm : markAt ms i = z := by unfold markAt; rw [hz]; rfl
  unfold badMark at hb
  rw [hm] at hb
  simp only [Bool.or_eq_false_iff, Bool.not_eq_false', decide_eq_false_iff_not] at hb
  exact ⟨hb.1, hb.2.1, hb.2.2⟩
theorem small_of {z : Str} (h : nameOk z = true) : SmallZ z := by
  unfold nameOk at h
  simp only [Bool.and_eq_true, decide_eq_true_eq] at h
  refine ⟨by omega, fun c hc => ?_⟩
  have h2 := h.2.1
  unfold Txt.isascii at h2
  rw [Array.all_eq_true'] at h2
  have := h2 c (by simpa using hc)
  have h3 : c < 128 := by simpa using this
  exact Nat.lt_trans h3 (by decide)
theorem marks_ok {ms : List Str} (h : first (badMark ms) ms.length = none) : (nodes ms).Nodup ∧ ∀ z ∈ nodes ms, SmallZ z := by
  refine ⟨?_, fun z hz => ?_⟩
  · rw [List.nodup_cons]
    refine ⟨fun hz => ?_, ?_⟩
    · obtain ⟨i, hi⟩ := List.getElem?_of_mem hz
      exact (mark_bad h hi).2.1 rfl
    · refine List.pairwise_iff_getElem.mpr fun i j hi hj hij e => ?_
      have hz : ms[j]? = some ms[j] := List.getElem?_eq_getElem hj
      refine (mark_bad h hz).2.2 ?_
      exact List.mem_of_getElem? (i := i) (by rw [List.getElem?_take, if_pos hij, List.getElem?_eq_getElem hi, e])
  · rcases List.mem_cons.mp hz with rfl | hz
    · exact ⟨by decide, by decide⟩
    · obtain ⟨i, hi⟩ := List.getElem?_of_mem hz
      exact small_of (mark_bad h hi).1
theorem fact_ok {ms : List Str} {xs : List V} (hf : ∀ x ∈ xs, Flat x) (h : factOk (nodes ms) xs = true) : ∃ f : Fact, xs = factV f ∧ f.1 ∈ nodes ms ∧ f.2.1 ∈ nodes ms ∧ f.1 ≠ f.2.1 := by
  unfold factOk at h
  split at h
  · rename_i x y c
    simp only [Bool.and_eq_true, Bool.not_eq_true', decide_eq_false_iff_not] at h
    obtain ⟨h1, h2, h3, h4⟩ := h
    have fx : Flat x := hf x (by simp)
    have fy : Flat y := hf y (by simp)
    have sx : ∃ z, x = .str z := by
      by_cases q : ∃ z, x = .str z
      · exact q
      · rw [inV_other fx (fun z e => q ⟨z, e⟩)] at h1; cases h1
    have sy : ∃ z, y = .str z := by
      by_cases q : ∃ z, y = .str z
      · exact q
      · rw [inV_other fy (fun z e => q ⟨z, e⟩)] at h2; cases h2
    obtain ⟨x, rfl⟩ := sx
    obtain ⟨y, rfl⟩ := sy
    obtain ⟨i, rfl⟩ : ∃ i, c = .int i := by
      unfold isWhole at h4
      split at h4
      · exact ⟨_, rfl⟩
      · cases h4
    rw [inV_str] at h1 h2
    exact ⟨(x, y, i), rfl, by simpa using h1, by simpa using h2, fun e => h3 (by rw [show x = y from e])⟩
  · cases h
theorem facts_ok {ms : List Str} : ∀ {fs : List (List V)}, FlatF fs → (∀ xs ∈ fs, factOk (nodes ms) xs = true) → ∃ MS : List Fact, fs = MS.map factV ∧ InN ms MS ∧ ∀ f ∈ MS, f.1 ≠ f.2.1
  | [], _, _ => ⟨[], rfl, fun f hf => (nomatch hf), fun f hf => (nomatch hf)⟩
  | xs :: fs, hf, h => by
    obtain ⟨f, e, h1, h2, h3⟩ := fact_ok (hf xs List.mem_cons_self) (h xs List.mem_cons_self)
    obtain ⟨MS, e2, h4, h5⟩ := facts_ok (ms := ms) (fs := fs) (fun ys hy => hf ys (List.mem_cons_of_mem _ hy)) fun ys hy => h ys (List.mem_cons_of_mem _ hy)
    refine ⟨f :: MS, by rw [e, e2]; rfl, fun g hg => ?_, fun g hg => ?_⟩
    · rcases List.mem_cons.mp hg with rfl | hg
      · exact ⟨h1, h2⟩
      · exact h4 g hg
    · rcases List.mem_cons.mp hg with rfl | hg
      · exact h3
      · exact h5 g hg
theorem facts_all {ms : List Str} {fs : List (List V)} (h : first (badFact ms fs) fs.length = none) : ∀ xs ∈ fs, factOk (nodes ms) xs = true := by
  intro xs hxs
  obtain ⟨i, hi⟩ := List.getElem?_of_mem hxs
  have hlt : i < fs.length := (List.getElem?_eq_some_iff.mp hi).1
  have := first_inv.1 h i hlt
  unfold badFact at this
  rw [hi] at this
  simpa using this
theorem fault_none {ms ts : List Str} {fs : List (List V)} (h : fault ms ts fs = none) : first (badMark ms) ms.length = none ∧ first (badTake ms ts) ts.length = none ∧ first (badFact ms fs) fs.length = none := by
  unfold fault at h
  cases e1 : first (badMark ms) ms.length with
  | some i => rw [e1] at h; cases h
  | none =>
    rw [e1] at h
    cases e2 : first (badTake ms ts) ts.length with
    | some i => rw [e2] at h; cases h
    | none =>
      rw [e2] at h
      cases e3 : first (badFact ms fs) fs.length with
      | some i => rw [e3] at h; cases h
      | none => exact ⟨rfl, rfl, rfl⟩
end K1
end
section
set_option maxRecDepth 100000
set_option maxHeartbeats 4000000
namespace K1
open PySem L2 K01
theorem But.refl {l : Addr} {H : Hp} : But l H H := fun _ _ _ e => e
theorem But.trans {l : Addr} {H1 H2 H3 : Hp} (h : But l H1 H2) (g : But l H2 H3) : But l H1 H3 := fun b o n e => g b o n (h b o n e)
theorem Same.but {l : Addr} {H1 H2 : Hp} (h : Same H1 H2) : But l H1 H2 := fun b o _ e => h b o e
theorem But.tup {K : PySem.W.Frag} {l C dx a : Addr} {fs : List (Str × V)} {H H' : Hp} {xs : List V} (hl : H l = some (.ins C dx fs)) (e : But l H H') (h : SqT K H a xs) : SqT K H' a xs := by
  rcases h with (q | ⟨o, q⟩) | q
  · exact .inl (.inl (e _ _ (fun z => by rw [z, hl] at q; cases q) q))
  · exact .inl (.inr ⟨o, e _ _ (fun z => by rw [z, hl] at q; cases q) q⟩)
  · exact .inr q
theorem But.tups {l C dx : Addr} {fs : List (Str × V)} {H H' : Hp} {ps : List Addr} {xss : List (List V)} (hl : H l = some (.ins C dx fs)) (e : But l H H') (h : TupsAt H ps xss) : TupsAt H' ps xss :=
  ⟨h.1, fun i p r q1 q2 => by
    have := h.2 i p r q1 q2
    exact e _ _ (fun z => by rw [z, hl] at this; cases this) this⟩
theorem But.tt {K : PySem.W.Frag} {l C dx a : Addr} {fs : List (Str × V)} {H H' : Hp} {xss : List (List V)} (hl : H l = some (.ins C dx fs)) (e : But l H H') (h : TTAt K H a xss) : TTAt K H' a xss := by
  obtain ⟨ps, h1, h2⟩ := h
  exact ⟨ps, But.tup hl e h1, But.tups hl e h2⟩
theorem nm_tm : ("marks" : Str) ≠ "takes" := by decide +kernel
theorem nm_fm : ("marks" : Str) ≠ "facts" := by decide +kernel
theorem nm_lm : ("marks" : Str) ≠ "_limits" := by decide +kernel
theorem nm_bm : ("marks" : Str) ≠ "bounds" := by decide +kernel
theorem nm_ft : ("takes" : Str) ≠ "facts" := by decide +kernel
theorem nm_lt : ("takes" : Str) ≠ "_limits" := by decide +kernel
theorem nm_bt : ("takes" : Str) ≠ "bounds" := by decide +kernel
theorem nm_lf : ("facts" : Str) ≠ "_limits" := by decide +kernel
theorem nm_bf : ("facts" : Str) ≠ "bounds" := by decide +kernel
theorem nm_bl : ("_limits" : Str) ≠ "bounds" := by decide +kernel
abbrev f1 (a : Addr) : List (Str × V) := [("marks", .ref a)]
abbrev f2 (a b : Addr) : List (Str × V) := [("marks", .ref a), ("takes", .ref b)]
abbrev f3 (a b c : Addr) : List (Str × V) := [("marks", .ref a), ("takes", .ref b), ("facts", .ref c)]
abbrev f4 (a b c : Addr) : List (Str × V) := [("marks", .ref a), ("takes", .ref b), ("facts", .ref c), ("_limits", .non)]
abbrev f5 (a b c p : Addr) : List (Str × V) := [("marks", .ref a), ("takes", .ref b), ("facts", .ref c), ("_limits", .non), ("bounds", .ref p)]
theorem put2 (a b : Addr) : putF "takes" (.ref b) (f1 a) = f2 a b := putF_new (by simp [nm_tm])
theorem put3 (a b c : Addr) : putF "facts" (.ref c) (f2 a b) = f3 a b c := putF_new (by simp [nm_fm, nm_ft])
theorem put4 (a b c : Addr) : putF "_limits" .non (f3 a b c) = f4 a b c := putF_new (by simp [nm_lm, nm_lt, nm_lf])
theorem put5 (a b c p : Addr) : putF "bounds" (.ref p) (f4 a b c) = f5 a b c p := putF_new (by simp [nm_bm, nm_bt, nm_bf, nm_bl])
theorem look_m {u : V} {r : List (Str × V)} : List.lookup ("marks" : Str) (("marks", u) :: r) = some u := by simp [List.lookup]
theorem look_t {u v : V} {r : List (Str × V)} : List.lookup ("takes" : Str) (("marks", u) :: ("takes", v) :: r) = some v := by
  have : (("takes" : Str) == "marks") = false := by decide +kernel
  simp [List.lookup, this]
theorem look_f {u v x : V} {r : List (Str × V)} : List.lookup ("facts" : Str) (("marks", u) :: ("takes", v) :: ("facts", x) :: r) = some x := by
  have h1 : (("facts" : Str) == "marks") = false := by decide +kernel
  have h2 : (("facts" : Str) == "takes") = false := by decide +kernel
  simp [List.lookup, h1, h2]
structure ShT (K : PySem.W.Frag) (C : Addr) : Prop where
  cl : Cls K C
  nm : NoAttr K C "marks"
  nt : NoAttr K C "takes"
  nf : NoAttr K C "facts"
  nl : NoAttr K C "_limits"
  nb : NoAttr K C "bounds"
section
variable {P : Program} {w : World} {K : PySem.W.Frag} {mg : Str → Option Value} {base : Heap}
abbrev sSheet : Stmt := inClass (top 47) 0
def SmallI (fs : List (List V)) : Prop := ∀ xs ∈ fs, ∀ i : Int, V.int i ∈ xs → i.natAbs.log2 < 1920
def spSheet (K : PySem.W.Frag) (C CC : Addr) (cls : Nat → Addr) : Sp := fun vs H Q E => ∃ (self dx a b c : Addr) (ms ts : List Str) (fs : List (List V)), vs = [.ref self, .ref a, .ref b, .ref c] ∧ H self = some (.ins C dx []) ∧ strsT K H a ms ∧ Short ms ∧ ms.length ≤ 100 ∧ strsT K H b ts ∧ ts.length ≤ 400 ∧ TTAt K H c fs ∧ FlatF fs ∧ fs.length ≤ 400 ∧ SmallI fs ∧
  (∀ k i H' d, fault ms ts fs = some (k, i) → But self H H' → H d = none → H' d = some (.xd [("index", .int (i : Nat))]) → E (.ref (cls k)) (some d) H') ∧
  (fault ms ts fs = none → ∀ MS : List Fact, fs = MS.map factV → InN ms MS → ∀ H' d rp RG, But self H H' → H d = none → H' d = some (.xd [("ring", .ref rp)]) → TTAt K H' rp (RG.map factV) → isRing (MS ++ zeros ms) RG → E (.ref CC) (some d) H') ∧
  (fault ms ts fs = none → ∀ MS : List Fact, fs = MS.map factV → InN ms MS → (nodes ms).Nodup → ∀ B, Good (ms.length + 1) (EG ms MS) B → ∀ H' p, But self H H' → MatAt K H' p B → H' self = some (.ins C dx (f5 a b c p)) → Q .non H')
theorem scSheet : FnScope ["self", "marks", "takes", "facts"] ["self", "marks", "takes", "facts"] (defScope sSheet) := ⟨rfl, rfl, rfl, by decide +kernel, rfl, by decide +kernel, by decide +kernel⟩
theorem ok_sheet {f fC fB fF C CC D0 : Addr} {fd fdC fdB fdF : FuncData} {cls : Nat → Addr} (F : FunD K "__init__" "Sheet.__init__" (defArgs sSheet) (defBody sSheet) (defScope sSheet) [.ref D0] [] f fd) (T : Bi mg) (S : ShT K C)
    (FC : Fun K "check_parts" "check_parts" sCheck fC fdC) (bC : Binds K fdC ["marks", "takes", "facts"] []) (mC : mg "check_parts" = some (.ref fC)) (GC : FnOk P w K mg base (L2N.CX P w) 4 fC fdC ["marks", "takes", "facts"] (spCheck K cls))
    (FB : Fun K "bounds_with" "bounds_with" sBounds fB fdB) (bB : Binds K fdB ["marks", "facts", "bounds", "more"] []) (mB : mg "bounds_with" = some (.ref fB)) (GB : FnOk P w K mg base (L2N.CX P w) 4 fB fdB ["marks", "facts", "bounds", "more"] (spBounds K CC))
    (FF : Fun K "free_bounds" "free_bounds" sFree fF fdF) (bF : Binds K fdF ["many"] []) (mF : mg "free_bounds" = some (.ref fF)) :
    FnOk P w K mg base (L2N.CX P w) 5 f fd ["self", "marks", "takes", "facts"] (spSheet K C CC cls) := by
  have GF : FnOk P w K mg base CX0 1 fF fdF ["many"] (spFree K) := ok_free FF T
  refine F.ok scSheet (fun vs H Q E h => ?_) (fun cdv A outer s H vs Q E hr h => ?_)
  · obtain ⟨_, _, _, _, _, _, _, _, rfl, _⟩ := h
    rfl
  · obtain ⟨self, dx, a, b, c, ms, ts, fs, rfl, hself, hm, hs, hml, ht, htl, hf, hff, hfl, hfi, kE, kR, kQ⟩ := h
    have hr1 : Room 1 _ := hr.mono (by decide)
    refine ⟨_, pss_cons (ps_fld (pv 0) (pe_callTy call_tuple_of (by rfl) T.tuple (by decide +kernel) (pa_cons (pv 1) pa_nil)) rfl)
      (pss_cons (ps_fld (pv 0) (pe_callTy call_tuple_of (by rfl) T.tuple (by decide +kernel) (pa_cons (pv 2) pa_nil)) rfl)
      (pss_cons (ps_fld (pv 0) (pe_callTy call_tuple_of (by rfl) T.tuple (by decide +kernel) (pa_cons (pv 3) pa_nil)) rfl)
      (pss_cons (ps_fld (pv 0) pe_non rfl)
      (pss_cons (ps_expr (pe_call GC hr rfl mC FC.kp bC .nil (L2N.passes_call (L2N.takes_of rfl rfl rfl rfl) fun _ _ _ _ h => h) (pa_cons (pe_fld (pv 0) rfl) (pa_cons (pe_fld (pv 0) rfl) (pa_cons (pe_fld (pv 0) rfl) pa_nil)))))
      (pss_one (ps_fld (pv 0) (pe_call GB hr rfl mB FB.kp bB .nil (L2N.passes_call (L2N.takes_of rfl rfl rfl rfl) fun _ _ _ _ h => h) (pa_cons (pe_fld (pv 0) rfl) (pa_cons (pe_tup pa_nil)
        (pa_cons (pe_call GF hr1 rfl mF FF.kp bF .nil pass0 (pa_cons (pe_callB call_len_seq (by rfl) T.len PySem.boot_len (pa_cons (pe_fld (pv 0) rfl) pa_nil)) pa_nil)) (pa_cons (pe_fld (pv 0) rfl) pa_nil))))) rfl)))))), ?_⟩
    obtain ⟨qs0, hq0, hT0⟩ := id hf
    refine ⟨_, rfl, a, _, rfl, .inr ⟨hm, _, rfl, self, C, dx, [], rfl, hself, S.cl, S.nm, by decide, ?_⟩⟩
    have B1 : But self H (upd H self (.ins C dx (f1 a))) := But.set
    have g1 : upd H self (.ins C dx (f1 a)) self = some (.ins C dx (f1 a)) := upd_same
    show tSeq _ _ _ _ (upd H self (.ins C dx (f1 a)))
    generalize upd H self (.ins C dx (f1 a)) = H1 at B1 g1
    refine ⟨_, rfl, b, _, rfl, .inr ⟨But.tup hself B1 ht, _, rfl, self, C, dx, _, rfl, g1, S.cl, S.nt, by show 1 < 1000; decide, ?_⟩⟩
    rw [put2]
    have B2 : But self H (upd H1 self (.ins C dx (f2 a b))) := B1.trans But.set
    have g2 : upd H1 self (.ins C dx (f2 a b)) self = some (.ins C dx (f2 a b)) := upd_same
    generalize upd H1 self (.ins C dx (f2 a b)) = H2 at B2 g2
    refine ⟨_, rfl, c, _, rfl, .inr ⟨But.tup hself B2 hq0, _, rfl, self, C, dx, _, rfl, g2, S.cl, S.nf, by show 2 < 1000; decide, ?_⟩⟩
    rw [put3]
    have B3 : But self H (upd H2 self (.ins C dx (f3 a b c))) := B2.trans But.set
    have g3 : upd H2 self (.ins C dx (f3 a b c)) self = some (.ins C dx (f3 a b c)) := upd_same
    generalize upd H2 self (.ins C dx (f3 a b c)) = H3 at B3 g3
    refine ⟨_, rfl, self, C, dx, _, rfl, g3, S.cl, S.nl, by show 3 < 1000; decide, ?_⟩
    rw [put4]
    have B4 : But self H (upd H3 self (.ins C dx (f4 a b c))) := B3.trans But.set
    have g4 : upd H3 self (.ins C dx (f4 a b c)) self = some (.ins C dx (f4 a b c)) := upd_same
    generalize upd H3 self (.ins C dx (f4 a b c)) = H4 at B4 g4
    have hm4 : strsT K H4 a ms := But.tup hself B4 hm
    have ht4 : strsT K H4 b ts := But.tup hself B4 ht
    have hf4 : TTAt K H4 c fs := But.tt hself B4 hf
    refine ⟨_, rfl, self, C, dx, _, _, rfl, g4, S.cl, S.nm, look_m, _, rfl, self, C, dx, _, _, rfl, g4, S.cl, S.nt, look_t, _, rfl, self, C, dx, _, _, rfl, g4, S.cl, S.nf, look_f, ?_⟩
    refine ⟨a, b, c, ms, ts, fs, rfl, hm4, hs, ht4, by omega, hf4, hff, by omega, fun k i H' d hk sH hd hx => ?_, fun hno H5 s5 => ?_⟩
    · refine kE k i H' d hk (B4.trans (Same.but sH)) ?_ hx
      cases q : H d with
      | none => rfl
      | some o =>
        by_cases e : d = self
        · rw [e, g4] at hd; cases hd
        · rw [B4 d o e q] at hd; cases hd
    · obtain ⟨n1, n2, n3⟩ := fault_none hno
      obtain ⟨hN, hZ⟩ := marks_ok n1
      obtain ⟨MS, eMS, hIn, hne⟩ := facts_ok (ms := ms) hff (facts_all n3)
      have g5 := s5 _ _ g4
      have B5 : But self H H5 := B4.trans (Same.but s5)
      have hm5 := Same.tup s5 hm4
      refine ⟨_, rfl, self, C, dx, _, _, rfl, g5, S.cl, S.nm, look_m, Nat.zero_le _, fun p0 hp0 => ?_⟩
      have s6 : Same H5 (upd H5 p0 (.tup [])) := Same.new hp0
      have g6 := s6 _ _ g5
      refine ⟨_, rfl, self, C, dx, _, _, rfl, g6, S.cl, S.nm, look_m, a, _, rfl, .inr (Same.tup s6 hm5), ?_⟩
      rw [List.length_map]
      refine ⟨ms.length, rfl, by omega, fun H7 p7 s7 h7 => ?_⟩
      have g7 := s7 _ _ g6
      have s57 := s6.trans s7
      refine ⟨_, rfl, self, C, dx, _, _, rfl, g7, S.cl, S.nf, look_f, ?_⟩
      obtain ⟨qs, hq1, hq2⟩ := (hf4.same s5).same s57
      have hi : ∀ f ∈ MS, f.1 ≠ f.2.1 ∧ f.2.2.natAbs.log2 < 1920 := fun f hf' => ⟨hne f hf', hfi (factV f) (by rw [eMS]; exact List.mem_map_of_mem hf') f.2.2 (by simp [factV])⟩
      refine ⟨a, p0, p7, c, ms, [], qs, [], MS, freeM ms.length, rfl, Same.tup s57 hm5, by omega, hN, hZ, Same.tup s7 tup_at, .nil, Nat.zero_le _, fun f hf' => (nomatch hf'), fun f hf' => (nomatch hf'), hq1, by rw [← eMS]; exact hq2, by rw [hq2.1]; omega, hIn, hi, h7, ?_, fun H8 p8 B8 s8 h8 G8 => ?_, fun H8 d rp RG s8 hd hx hR hring => ?_⟩
      · rw [EG, List.nil_append, zeros_edges hN]
        exact free_good ms.length
      · have g8 := s8 _ _ g7
        refine ⟨_, rfl, self, C, dx, _, rfl, g8, S.cl, S.nb, by show 4 < 1000; decide, ?_⟩
        rw [put5]
        refine kQ hno MS eMS hIn hN B8 (by rw [List.nil_append] at G8; exact G8) _ p8 ((B5.trans (Same.but (s57.trans s8))).trans But.set) ?_ upd_same
        obtain ⟨as, q1, q2, q3⟩ := h8
        exact ⟨as, q1, But.tup g8 But.set q2, fun i p r e1 e2 => But.tup g8 But.set (q3 i p r e1 e2)⟩
      · refine kR hno MS eMS hIn H8 d rp RG (B5.trans (Same.but (s57.trans s8))) ?_ hx hR (by rw [List.nil_append] at hring; exact hring)
        cases q : H d with
        | none => rfl
        | some o =>
          by_cases e : d = self
          · rw [e, g7] at hd; cases hd
          · rw [(B5.trans (Same.but s57)) d o e q] at hd; cases hd
end
end K1
end
section
set_option maxRecDepth 100000
set_option maxHeartbeats 4000000
namespace K1
open PySem L2 K01
def CPowW (i j : Int) : Prop := 0 ≤ j ∧ (Builtin.Int.intBits i : Int) * j ≤ 2 ^ 27
theorem op_powW {X : Cx} : OpR X (binaryOp .Pow) (rI CPowW fun i j => .int (i ^ j.toNat)) := opI fun _ _ _ _ _ _ _ hc q => PyProof.Rows.pow_int hc.1 hc.2 q
theorem pow_ok {i : Int} {n : Nat} (hi : i.natAbs < 2 ^ 200) (hn : n ≤ 100) : CPowW i (n : Int) := by
  refine ⟨by omega, ?_⟩
  have b : Builtin.Int.intBits i ≤ 1000 := by
    unfold Builtin.Int.intBits
    split
    · omega
    · rename_i h
      have := PySem.Flt.log2_lt_of (by decide : 0 < 200) hi
      omega
  have : (Builtin.Int.intBits i : Int) * (n : Int) ≤ 1000 * 100 := by
    have h1 : Builtin.Int.intBits i * n ≤ 1000 * 100 := Nat.mul_le_mul b hn
    exact_mod_cast h1
  omega
/-- the pit: a list of three numbers; z: no more than so many turns so far -/
def PitAt (H : Hp) (p : Addr) (z : Int) : Prop := ∃ x y c : Int, H p = some (.lst [.int x, .int y, .int c]) ∧ 0 ≤ x ∧ 0 ≤ y ∧ y < 10 ^ 40 ∧ 0 ≤ c ∧ c ≤ z
theorem PitAt.mono {H : Hp} {p : Addr} {z z' : Int} (h : PitAt H p z) (e : z ≤ z') : PitAt H p z' := by
  obtain ⟨x, y, c, h1, h2, h3, h4, h5, h6⟩ := h
  exact ⟨x, y, c, h1, h2, h3, h4, h5, by omega⟩
theorem PitAt.same {H H' : Hp} {p : Addr} {z : Int} (e : Same H H') (h : PitAt H p z) : PitAt H' p z := by
  obtain ⟨x, y, c, h1, h2⟩ := h
  exact ⟨x, y, c, e _ _ h1, h2⟩
section
variable {P : Program} {w : World} {K : PySem.W.Frag} {mg : Str → Option Value} {base : Heap}
abbrev sPit : Stmt := top 54
def spPit (K : PySem.W.Frag) : Sp := fun vs H Q _ => ∃ (a : Addr) (ns : List Int) (i : Nat), vs = [.ref a, .int i] ∧ SqL K H a (ns.map V.int) ∧ ns.length ≤ 63 ∧ i ≤ 100 ∧ ∀ H' p, Same H H' → H p = none → PitAt H' p 0 → Q (.ref p) H'
theorem scPit : FnScope ["script", "at", "cell"] ["script", "at"] (defScope sPit) := ⟨rfl, rfl, rfl, by decide +kernel, rfl, by decide +kernel, by decide +kernel⟩
theorem ok_pit {f : Addr} {fd : FuncData} (F : Fun K "_law_pit" "_law_pit" sPit f fd) (T : Bi mg) : FnOk P w K mg base CX0 1 f fd ["script", "at"] (spPit K) := by
  refine F.ok scPit (fun vs H Q E h => ?_) (fun cdv A outer s H vs Q E hr h => ?_)
  · obtain ⟨_, _, _, rfl, _⟩ := h
    rfl
  · obtain ⟨a, ns, i, rfl, hS, hl, hi, k⟩ := h
    refine ⟨_, pss_cons (ps_set (i := 2) scPit.nd rfl (.inl rfl) (pe_ifExp (pt_cmpR op_lt (pv 1) (pe_callB call_len_seq (by rfl) T.len PySem.boot_len (pa_cons (pv 0) pa_nil)) (nomark _)) (pe_ix ix_list (pv 0) (pv 1) (fun _ _ => rfl)) pe_int))
      (pss_one (ps_ret (pe_lst (pa_cons (pe_callB (call_max2 rfl) (by rfl) T.max (by decide +kernel) (pa_cons pe_int (pa_cons (pe_op op_sub (pe_callB call_abs (by rfl) T.abs (by decide +kernel) (pa_cons (pv 2) pa_nil)) (pe_op op_pow pe_int pe_int)) pa_nil)))
        (pa_cons (pe_op op_add (pe_op op_add (pe_op op_mul (pe_op op_modN (pe_callTy call_int1 (by rfl) T.int (by decide +kernel) (pa_cons (pv 2) pa_nil)) (pe_op op_add (pe_op op_pow pe_int pe_int) pe_int)) pe_int) (pe_op op_mul pe_int (pv 1))) pe_int) (pa_cons pe_int pa_nil)))))), ?_⟩
    have e18 : ((10 : Int) ^ (18 : Int).toNat) = 1000000000000000000 := by decide
    have e37 : ((10 : Int) ^ (37 : Int).toNat) + 3 = 10000000000000000000000000000000000003 := by decide
    have ne37 : (10 : Int) ^ (37 : Int).toNat + 3 ≠ 0 := by rw [e37]; decide
    have cp1 : CPow 10 18 := ⟨by decide, by decide, by decide⟩
    have cp2 : CPow 10 37 := ⟨by decide, by decide, by decide⟩
    have fin : ∀ c : Int, ∀ p, H p = none → Q (.ref p) (upd H p (.lst [.int (if (if c < 0 then -c else c) - 10 ^ (18 : Int).toNat > 0 then (if c < 0 then -c else c) - 10 ^ (18 : Int).toNat else 0), .int (c.fmod (10 ^ (37 : Int).toNat + 3) * 83 + 59 * (i : Int) + 37), .int 0])) := by
      intro c p hp
      refine k _ p (Same.new hp) hp ⟨_, _, _, upd_same, ?_, ?_, ?_, Int.le_refl _, Int.le_refl _⟩
      · split <;> omega
      · rw [e37]
        have := Int.fmod_nonneg_of_pos c (b := 10000000000000000000000000000000000003) (by decide)
        omega
      · rw [e37]
        have := Int.fmod_lt_of_pos c (b := 10000000000000000000000000000000000003) (by decide)
        omega
    refine ⟨_, rfl, _, rfl, a, _, rfl, .inl hS, _, _, rfl, rfl, _, rfl, ?_⟩
    by_cases hlt : (i : Int) < ((ns.map V.int).length : Nat)
    · have hi2 : i < ns.length := by rw [List.length_map] at hlt; omega
      have hg : (ns.map V.int)[i]? = some (.int ns[i]) := by rw [List.getElem?_map, List.getElem?_eq_getElem hi2]; rfl
      refine iteDT hlt ⟨_, rfl, _, rfl, _, _, _, _, rfl, rfl, hS, atI_nat hg, ?_⟩
      exact ⟨_, rfl, _, rfl, _, _, rfl, rfl, cp1, _, _, rfl, rfl, _, _, rfl, _, rfl, .inl ⟨_, rfl, _, _, rfl, rfl, cp2, _, _, rfl, rfl, _, _, rfl, rfl, ne37, _, _, rfl, rfl, .inr ⟨by decide, by decide⟩, _, rfl, _, _, rfl, rfl, .inl ⟨by decide, by decide⟩, _, _, rfl, rfl, _, _, rfl, rfl, by show 3 ≤ sizeLine; decide, fun p hp => fin _ p hp⟩⟩
    · refine iteDF hlt ?_
      exact ⟨_, rfl, _, rfl, _, _, rfl, rfl, cp1, _, _, rfl, rfl, _, _, rfl, _, rfl, .inl ⟨_, rfl, _, _, rfl, rfl, cp2, _, _, rfl, rfl, _, _, rfl, rfl, ne37, _, _, rfl, rfl, .inr ⟨by decide, by decide⟩, _, rfl, _, _, rfl, rfl, .inl ⟨by decide, by decide⟩, _, _, rfl, rfl, _, _, rfl, rfl, by show 3 ≤ sizeLine; decide, fun p hp => fin _ p hp⟩⟩
abbrev sHoist : Stmt := top 55
def spHoist (K : PySem.W.Frag) : Sp := fun vs H Q _ => ∃ (p : Addr) (b z : Int), vs = [.ref p, .int b] ∧ PitAt H p z ∧ z ≤ 1000000 ∧ 0 < b ∧ b < 10 ^ 20 ∧ ∀ H' d, But p H H' → PitAt H' p (z + 1) → 0 ≤ d → d < b → Q (.int d) H'
theorem scHoist : FnScope ["pit", "below", "digit", "swill"] ["pit", "below"] (defScope sHoist) := ⟨rfl, rfl, rfl, by decide +kernel, rfl, by decide +kernel, by decide +kernel⟩
theorem at3 (x y z : V) : atI [x, y, z] 0 = some x ∧ atI [x, y, z] 1 = some y ∧ atI [x, y, z] 2 = some z := ⟨at_of (j := 0) rfl rfl, at_of (j := 1) rfl rfl, at_of (j := 2) rfl rfl⟩
theorem ix3 : ixN 3 0 = some 0 ∧ ixN 3 2 = some 2 := by decide
theorem ok_hoist {f : Addr} {fd : FuncData} (F : Fun K "_law_hoist" "_law_hoist" sHoist f fd) (T : Bi mg) : FnOk P w K mg base CX0 1 f fd ["pit", "below"] (spHoist K) := by
  refine F.ok scHoist (fun vs H Q E h => ?_) (fun cdv A outer s H vs Q E hr h => ?_)
  · obtain ⟨_, _, _, rfl, _⟩ := h
    rfl
  · obtain ⟨p, b, z, rfl, ⟨x, y, c, hp, hx, hy, hy2, hc, hcz⟩, hz, hb, hb2, k⟩ := h
    refine ⟨_, pss_cons (ps_if (pt_cmpR op_gt (pe_ix ix_list (pv 0) pe_int (fun _ _ => rfl)) pe_int (nomark _))
        (pss_cons (ps_set (i := 2) scHoist.nd rfl (.inl rfl) (pe_op op_modN (pe_callTy call_int1 (by rfl) T.int (by decide +kernel) (pa_cons (pe_ix ix_list (pv 0) pe_int (fun _ _ => rfl)) pa_nil)) (pv 1)))
        (pss_cons (ps_asg (pe_op op_fdivW (pe_ix ix_list (pv 0) pe_int (fun _ _ => rfl)) (pv 1)) (pg_sub (pv 0) pe_int set_list))
        (pss_one (ps_ret (pv 2))))) pss_nil)
      (pss_cons (ps_asg (pe_op op_add (pe_ix ix_list (pv 0) pe_int (fun _ _ => rfl)) pe_int) (pg_sub (pv 0) pe_int set_list))
      (pss_cons (ps_set (i := 3) scHoist.nd rfl (.inl rfl) (pe_op op_modN (pe_op op_powW (pe_callTy call_int1 (by rfl) T.int (by decide +kernel) (pa_cons (pe_op op_add (pe_ix ix_list (pv 0) pe_int (fun _ _ => rfl)) (pe_op op_mul pe_int (pe_ix ix_list (pv 0) pe_int (fun _ _ => rfl)))) pa_nil)) pe_int) (pe_op op_add (pe_op op_pow pe_int pe_int) pe_int)))
      (pss_cons (ps_set (i := 3) scHoist.nd rfl (.inl rfl) (pe_op op_modN (pe_op op_powW (pe_callTy call_int1 (by rfl) T.int (by decide +kernel) (pa_cons (pe_op op_add (pv 3) (pe_op op_mul pe_int (pe_ix ix_list (pv 0) pe_int (fun _ _ => rfl)))) pa_nil)) pe_int) (pe_op op_add (pe_op op_pow pe_int pe_int) pe_int)))
      (pss_one (ps_ret (pe_op op_modN (pe_op op_fdivW (pv 3) pe_int) (pv 1))))))), ?_⟩
    have hq : SqL K H p [.int x, .int y, .int c] := SqL.of hp
    refine ⟨_, rfl, _, _, _, _, rfl, rfl, hq, (at3 _ _ _).1, _, _, rfl, rfl, _, rfl, ?_⟩
    have hbn : b ≠ 0 := by omega
    have hdw : CDivW x b := wide_div hb (by omega : b.natAbs < 2 ^ 70) (by decide) (by decide)
    by_cases hx0 : 0 < x
    · refine iteDT hx0 ⟨_, rfl, _, _, _, _, rfl, rfl, hq, (at3 _ _ _).1, .inl ⟨_, rfl, _, rfl, _, _, rfl, rfl, hbn, ?_⟩⟩
      refine ⟨_, rfl, _, _, _, _, rfl, rfl, hq, (at3 _ _ _).1, _, rfl, _, _, rfl, rfl, hdw, _, rfl, p, _, _, 0, rfl, rfl, hp, ix3.1, _, rfl, ?_⟩
      refine k _ _ But.set ⟨x / b, y, c, upd_same, Int.ediv_nonneg hx (by omega), hy, hy2, hc, by omega⟩ (Int.fmod_nonneg_of_pos _ hb) (Int.fmod_lt_of_pos _ hb)
    · refine iteDF hx0 ?_
      refine ⟨_, rfl, _, _, _, _, rfl, rfl, hq, (at3 _ _ _).2.2, _, _, rfl, rfl, _, rfl, p, _, _, 2, rfl, rfl, hp, ix3.2, ?_⟩
      have hp1 : (upd H p (.lst [V.int x, V.int y, V.int (c + 1)])) p = some (.lst [V.int x, V.int y, V.int (c + 1)]) := upd_same
      have B1 : But p H (upd H p (.lst [V.int x, V.int y, V.int (c + 1)])) := But.set
      show tSeq _ _ _ _ (upd H p (.lst [V.int x, V.int y, V.int (c + 1)]))
      generalize upd H p (.lst [V.int x, V.int y, V.int (c + 1)]) = H1 at hp1 B1
      have hq1 : SqL K H1 p [.int x, .int y, .int (c + 1)] := SqL.of hp1
      have e38 : ((10 : Int) ^ (38 : Int).toNat) + 67 = 100000000000000000000000000000000000067 := by decide
      have e39 : ((10 : Int) ^ (39 : Int).toNat) + 37 = 1000000000000000000000000000000000000037 := by decide
      have n38 : (10 : Int) ^ (38 : Int).toNat + 67 ≠ 0 := by rw [e38]; decide
      have n39 : (10 : Int) ^ (39 : Int).toNat + 37 ≠ 0 := by rw [e39]; decide
      have cp1 : CPow 10 38 := ⟨by decide, by decide, by decide⟩
      have cp2 : CPow 10 39 := ⟨by decide, by decide, by decide⟩
      have w1 : CPowW (y + 60013 * (c + 1)) 2 := pow_ok (n := 2) (by omega) (by decide)
      refine ⟨_, rfl, _, _, _, _, rfl, rfl, hq1, (at3 _ _ _).2.1, _, rfl, _, _, _, _, rfl, rfl, hq1, (at3 _ _ _).2.2, _, _, rfl, rfl, .inl ⟨by decide, by decide⟩, _, _, rfl, rfl, .inl ⟨_, rfl, _, _, rfl, rfl, w1, _, _, rfl, rfl, cp1, _, _, rfl, rfl, _, _, rfl, rfl, n38, ?_⟩⟩
      have s1a := Int.fmod_nonneg_of_pos ((y + 60013 * (c + 1)) ^ (2 : Int).toNat) (b := 10 ^ (38 : Int).toNat + 67) (by rw [e38]; decide)
      have s1b := Int.fmod_lt_of_pos ((y + 60013 * (c + 1)) ^ (2 : Int).toNat) (b := 10 ^ (38 : Int).toNat + 67) (by rw [e38]; decide)
      have w2 : CPowW (((y + 60013 * (c + 1)) ^ (2 : Int).toNat).fmod (10 ^ (38 : Int).toNat + 67) + 800011 * (c + 1)) 3 := by
        generalize ((y + 60013 * (c + 1)) ^ (2 : Int).toNat).fmod (10 ^ (38 : Int).toNat + 67) = s1 at s1a s1b
        rw [e38] at s1b
        exact pow_ok (n := 3) (by omega) (by decide)
      refine ⟨_, rfl, _, rfl, _, _, _, _, rfl, rfl, hq1, (at3 _ _ _).2.2, _, _, rfl, rfl, .inl ⟨by decide, by decide⟩, _, _, rfl, rfl, .inl ⟨_, rfl, _, _, rfl, rfl, w2, _, _, rfl, rfl, cp2, _, _, rfl, rfl, _, _, rfl, rfl, n39, ?_⟩⟩
      refine ⟨_, rfl, _, _, rfl, rfl, wide_div (by decide) (by decide : (524288 : Int).natAbs < 2 ^ 20) (by decide) (by decide), _, rfl, _, _, rfl, rfl, hbn, ?_⟩
      exact k _ _ B1 ⟨x, y, c + 1, hp1, hx, hy, hy2, by omega, by omega⟩ (Int.fmod_nonneg_of_pos _ hb) (Int.fmod_lt_of_pos _ hb)
end
end K1
end
section
set_option maxRecDepth 100000
set_option maxHeartbeats 4000000
namespace K1
open PySem L2 K01
/-! ### data -/
def AscZ (z : Str) : Prop := ∀ c ∈ z.cps.toList, c < 128
def Lv (n : Nat) (d : PyData) : Prop := d.canLay0 = true ∧ d.depth ≤ n
theorem Lv.none {n : Nat} : Lv n .none := ⟨by simp [PyData.canLay0], by simp [PyData.depth]⟩
theorem Lv.bl {n : Nat} (b : Bool) : Lv n (.bool b) := ⟨by simp [PyData.canLay0], by simp [PyData.depth]⟩
theorem Lv.int {n : Nat} (i : Int) : Lv n (.int i) := ⟨by simp [PyData.canLay0], by simp [PyData.depth]⟩
theorem Lv.str {n : Nat} {z : Str} (h : AscZ z) : Lv n (.str z) := ⟨by
  simp only [PyData.canLay0]
  unfold PyData.strOk
  rw [Array.all_eq_true']
  intro c hc
  have := h c (by simpa using hc)
  simpa using (Nat.lt_trans this (by decide) : c < 0x110000), by simp [PyData.depth]⟩
theorem lv_all {n : Nat} : ∀ {ds : List PyData}, (∀ d ∈ ds, Lv n d) → PyData.canLayAll0 ds = true ∧ PyData.depthAll ds ≤ n
  | [], _ => ⟨by simp [PyData.canLayAll0], by simp [PyData.depthAll]⟩
  | d :: ds, h => by
    have h1 := h d List.mem_cons_self
    have h2 := lv_all (ds := ds) fun e he => h e (List.mem_cons_of_mem _ he)
    refine ⟨by simp only [PyData.canLayAll0, h1.1, h2.1, Bool.and_self], ?_⟩
    simp only [PyData.depthAll]
    have := h1.2
    have := h2.2
    omega
theorem Lv.list {n : Nat} {ds : List PyData} (h : ∀ d ∈ ds, Lv n d) : Lv (n + 1) (.list ds) := by
  obtain ⟨h1, h2⟩ := lv_all h
  exact ⟨by simp only [PyData.canLay0, h1], by simp only [PyData.depth]; omega⟩
theorem Lv.tuple {n : Nat} {ds : List PyData} (h : ∀ d ∈ ds, Lv n d) : Lv (n + 1) (.tuple ds) := by
  obtain ⟨h1, h2⟩ := lv_all h
  exact ⟨by simp only [PyData.canLay0, h1], by simp only [PyData.depth]; omega⟩
theorem Lv.shaped {n : Nat} {d : PyData} (h : Lv n d) (hn : n ≤ 64) : SeqAt.shaped d = true := by
  unfold SeqAt.shaped
  rw [h.1, decide_eq_true (Nat.le_trans h.2 hn)]
  rfl
theorem shaped_nil : SeqAt.shaped (.list []) = true := Lv.shaped (n := 1) (Lv.list (n := 0) fun d hd => nomatch hd) (by decide)
theorem shaped_nilT : SeqAt.shaped (.tuple []) = true := Lv.shaped (n := 1) (Lv.tuple (n := 0) fun d hd => nomatch hd) (by decide)
theorem eqv_nil (ds : List PyData) : PyData.eqv (.list ds) (.list []) = ds.isEmpty := by
  cases ds <;> simp [PyData.eqv, PyData.eqvAll]
theorem eqv_nilT (ds : List PyData) : PyData.eqv (.tuple ds) (.tuple []) = ds.isEmpty := by
  cases ds <;> simp [PyData.eqv, PyData.eqvAll]
/-- flat values as data -/
def vD : V → PyData
  | .bl b => .bool b
  | .int i => .int i
  | .str z => .str z
  | _ => .none
theorem Flat.dp {K : PySem.W.Frag} {H : Hp} {v : V} (h : Flat v) : Dp K H v (vD v) := by
  cases h with
  | non => exact .non
  | bl b => exact .bl b
  | int i => exact .int i
  | str z => exact .str z
theorem flats_dp {K : PySem.W.Frag} {H : Hp} : ∀ {vs : List V}, (∀ v ∈ vs, Flat v) → DpAll K H vs (vs.map vD)
  | [], _ => .nil
  | v :: vs, h => .cons (h v List.mem_cons_self).dp (flats_dp fun u hu => h u (List.mem_cons_of_mem _ hu))
end K1
end
section
set_option maxRecDepth 100000
set_option maxHeartbeats 4000000
namespace K1
open PySem L2 K01
def letters : Str := "abcdefghijklmnopqrstuvwxyzABCDEFGHIJKLMNOPQRSTUVWXYZ"
def lets : List Nat := letters.cps.toList
theorem lets_alpha : ∀ c : Fin 128, PySem.Unicode.isAlpha c.1 = decide (c.1 ∈ lets) := by decide +kernel
theorem lets_asc : ∀ c ∈ lets, c < 128 := by decide +kernel
def oneS (c : Nat) : Str := ⟨#[c]⟩
def goodL (z : Str) : Bool := (decide ((0 : Int) < (z.length : Int)) && decide ((z.length : Int) < 9)) && (z.cps.toList.filter fun c => !decide (c ∈ lets)).isEmpty
theorem good_eq (z : Str) : goodL z = nameOk z := by
  unfold goodL nameOk Txt.isascii Txt.isalpha
  rw [Bool.eq_iff_iff]
  simp only [Bool.and_eq_true, decide_eq_true_eq, List.isEmpty_iff, List.filter_eq_nil_iff, Bool.not_eq_true', decide_eq_false_iff_not, Decidable.not_not, Array.all_eq_true']
  constructor
  · rintro ⟨⟨h1, h2⟩, h3⟩
    have h3' : ∀ c ∈ z.cps, c ∈ lets := fun c hc => h3 c (by simpa using hc)
    refine ⟨by omega, fun c hc => by simpa using lets_asc c (h3' c hc), by omega, fun c hc => ?_⟩
    have := lets_alpha ⟨c, lets_asc c (h3' c hc)⟩
    simp only at this
    rw [this]
    simpa using h3' c hc
  · rintro ⟨h1, h2, h3, h4⟩
    refine ⟨⟨by omega, by omega⟩, fun c hc => ?_⟩
    have hc' : c ∈ z.cps := by simpa using hc
    have l : c < 128 := by simpa using h2 c hc'
    have := lets_alpha ⟨c, l⟩
    simp only at this
    rw [h4 c hc'] at this
    simpa using this.symm
end K1
end
section
set_option maxRecDepth 100000
set_option maxHeartbeats 4000000
namespace K1
open PySem L2 K01
theorem catT_it {K : PySem.W.Frag} {H : Hp} {a b : Addr} {xs ys : List V} {Q : V → Hp → Prop} (h1 : SqT K H a xs) (h2 : SqT K H b ys) (hx : xs ≠ []) (hl : xs.length + ys.length ≤ sizeLine)
    (k : ∀ p H', Same H H' → SqT K H' p (xs ++ ys) → Q (.ref p) H') : rCatT K (.ref a) (.ref b) H Q := by
  refine ⟨_, _, _, _, rfl, rfl, h1, h2, hx, hl, fun e => ?_, fun _ q hq => k q _ (Same.new hq) tup_at⟩
  refine k a H (Same.refl H) ?_
  rw [e, List.append_nil]; exact h1
end K1
end
section
set_option maxRecDepth 100000
set_option maxHeartbeats 4000000
namespace K1
open PySem L2 K01
def edgeV (e : Edge) : List V := [.int (e.1 : Nat), .int (e.2.1 : Nat), .int e.2.2]
theorem eqv_strs (z u : Str) : eqV (.str z) (.str u) = decide (z = u) := by
  by_cases h : z = u
  · subst h; simp [eqV]
  · simp [eqV, h]
theorem index_hit {ms : List Str} {z : Str} (hz : z ∈ nodes ms) : ((nodes ms).map V.str)[ix ms z]? = some (.str z) ∧ eqV (.str z) (.str z) = true ∧ (∀ (m : Nat) (v : V), m < ix ms z → ((nodes ms).map V.str)[m]? = some v → eqV v (.str z) = false) := by
  have g := ix_get hz
  refine ⟨by rw [List.getElem?_map, g]; rfl, by rw [eqv_strs]; exact decide_eq_true rfl, fun m v hm hv => ?_⟩
  obtain ⟨u, hu, rfl⟩ := get_map hv
  rw [eqv_strs]
  refine decide_eq_false fun e => ?_
  subst e
  have hl := (List.getElem?_eq_some_iff.mp hu).1
  have := List.not_of_lt_findIdx (xs := nodes ms) (p := (· == u)) (i := m) hm
  have e2 : (nodes ms)[m] = u := (List.getElem?_eq_some_iff.mp hu).2
  rw [e2] at this
  simp at this
section
variable {P : Program} {w : World} {K : PySem.W.Frag} {mg : Str → Option Value} {base : Heap}
abbrev sNum : Stmt := top 59
def spNum (K : PySem.W.Frag) : Sp := fun vs H Q _ => ∃ (a q : Addr) (ms : List Str) (F : List Fact), vs = [.ref a, .ref q] ∧ strsT K H a ms ∧ ms.length ≤ 900 ∧ TTAt K H q (F.map factV) ∧ F.length ≤ 900 ∧ InN ms F ∧
  ∀ H' p ps, Same H H' → H' p = some (.lst (ps.map V.ref)) → TupsAt H' ps (F.map fun f => edgeV (eF ms f)) → Q (.ref p) H'
theorem scNum : FnScope ["marks_here", "facts_here", "nodes", "ax", "by", "sum_here"] ["marks_here", "facts_here"] (defScope sNum) := ⟨rfl, rfl, rfl, by decide +kernel, rfl, by decide +kernel, by decide +kernel⟩
theorem ok_num {f : Addr} {fd : FuncData} (F : Fun K "_law_numbered" "_law_numbered" sNum f fd) (T : Bi mg) : FnOk P w K mg base CX0 1 f fd ["marks_here", "facts_here"] (spNum K) := by
  refine F.ok scNum (fun vs H Q E h => ?_) (fun cdv A outer s H vs Q E hr h => ?_)
  · obtain ⟨_, _, _, _, rfl, _⟩ := h
    rfl
  · obtain ⟨a, q, ms, F, rfl, hm, hl, hF, hFl, hI, k⟩ := h
    refine ⟨_, pss_cons (ps_set (i := 2) scNum.nd rfl (.inr rfl) (pe_op op_cat (pe_lst (pa_cons pe_str pa_nil)) (pe_callTy call_list_of (by rfl) T.list (by decide +kernel) (pa_cons (pv 0) pa_nil))))
      (pss_one (ps_ret (pe_lc (own := [("ax", 3), ("by", 4), ("sum_here", 5)]) (g := gTup K 3 (gCons (gName 3) (gCons (gName 4) (gCons (gName 5) gNil)))) (te := tTup (tCons (tBM K "list" (rIndex K) (tVar 2) (tCons (tVar 3) tNil)) (tCons (tBM K "list" (rIndex K) (tVar 2) (tCons (tVar 4) tNil)) (tCons (tVar 5) tNil)))) rfl scNum.nd (pi_tup (pv 1))
        (blkOk_by (N := ["marks_here", "facts_here", "nodes", "ax", "by", "sum_here"]) (sc := defScope sNum) (by decide +kernel))
        (fun _ _ _ _ _ => pg_tup rfl (pgs_cons (pg_name (i := 3) scNum.nd rfl (.inl rfl)) (pgs_cons (pg_name (i := 4) scNum.nd rfl (.inl rfl)) (pgs_cons (pg_name (i := 5) scNum.nd rfl (.inl rfl)) pgs_nil))))
        (fun _ _ _ _ _ => pts_nil)
        (fun _ _ _ _ _ => pe_tup (pa_cons (pe_bm PySem.F.plainAttrs_list PySem.F.slot_list_index PySem.F.type_list_index mt_index (pv 2) (pa_cons (pv 3) pa_nil)) (pa_cons (pe_bm PySem.F.plainAttrs_list PySem.F.slot_list_index PySem.F.type_list_index mt_index (pv 2) (pa_cons (pv 4) pa_nil)) (pa_cons (pv 5) pa_nil))))))), ?_⟩
    refine ⟨by show 1 ≤ sizeLine; decide, fun l1 h1 => ⟨_, rfl, a, _, rfl, .inr (Same.tup (Same.new h1) hm), fun l2 h2 => ?_⟩⟩
    have n12 : l1 ≠ l2 := fun e => by rw [← e, upd_same] at h2; cases h2
    refine ⟨l1, l2, _, _, rfl, rfl, by rw [upd_ne n12]; exact upd_same, upd_same, by rw [List.length_map]; exact Nat.le_of_lt (Nat.lt_of_le_of_lt (show 1 + ms.length ≤ 1001 by omega) (by decide)), fun l hl3 => ?_⟩
    have s0 : Same H (upd (upd (upd H l1 (.lst [.str "zero"])) l2 (.lst (ms.map V.str))) l (.lst ([.str "zero"] ++ ms.map V.str))) := ((Same.new h1).trans (Same.new h2)).trans (Same.new hl3)
    have hL : SqL K (upd (upd (upd H l1 (.lst [.str "zero"])) l2 (.lst (ms.map V.str))) l (.lst ([.str "zero"] ++ ms.map V.str))) l ((nodes ms).map V.str) := SqL.of upd_same
    have hLe : (upd (upd (upd H l1 (.lst [.str "zero"])) l2 (.lst (ms.map V.str))) l (.lst ([.str "zero"] ++ ms.map V.str))) l = some (.lst ((nodes ms).map V.str)) := upd_same
    show gName _ _ _ (upd (upd (upd H l1 (.lst [.str "zero"])) l2 (.lst (ms.map V.str))) l (.lst ([.str "zero"] ++ ms.map V.str))) _
    generalize (upd (upd (upd H l1 (.lst [.str "zero"])) l2 (.lst (ms.map V.str))) l (.lst ([.str "zero"] ++ ms.map V.str))) = H0 at s0 hL hLe
    obtain ⟨ps0, hq, hT⟩ := hF.same s0
    refine ⟨_, rfl, q, rfl, ⟨_, hq⟩, fun D hD => ?_⟩
    refine lc_it (walk_tup (K := K) (a := q)) (fun i H' => Same H0 H' ∧ ∃ ps, H' D = some (.lst (ps.map V.ref)) ∧ TupsAt H' ps ((F.take i).map fun f => edgeV (eF ms f))) ⟨Same.new hD, [], upd_same, TupsAt.nil⟩ (fun i H' _ u => Same.tup u.1 hq) ?_ ?_
    · rintro i v H1 H2 hi ⟨q1, ps, q2, q3⟩ ⟨rfl, hv⟩
      obtain ⟨p, hp, rfl⟩ := get_map hv
      obtain ⟨xs, hxs, hpx⟩ := (hT.same q1).get hp
      obtain ⟨f, hf, rfl⟩ := get_map hxs
      have hm1 := hI f (List.mem_of_getElem? hf)
      have hl2 : H2 l = some (.lst ((nodes ms).map V.str)) := q1 _ _ hLe
      have pl : ps.length ≤ i := by
        have := q3.1
        rw [List.length_map, List.length_take] at this
        omega
      rw [List.length_map] at hi
      have hps0 : ps0.length = F.length := by have := hT.1; rw [List.length_map] at this; exact this
      refine ⟨p, _, rfl, SqT.of hpx, rfl, _, _, rfl, _, _, rfl, _, _, rfl, rfl, rfl, yes_ ?_⟩
      refine ⟨_, rfl, .inl ⟨rfl, _, SqL.of hl2⟩, _, rfl, l, _, .str f.1, ix ms f.1, .str f.1, rfl, rfl, SqL.of hl2, rfl, strs_flat _, (index_hit hm1.1).1, (index_hit hm1.1).2.1, (index_hit hm1.1).2.2, ?_⟩
      refine ⟨_, rfl, .inl ⟨rfl, _, SqL.of hl2⟩, _, rfl, l, _, .str f.2.1, ix ms f.2.1, .str f.2.1, rfl, rfl, SqL.of hl2, rfl, strs_flat _, (index_hit hm1.2).1, (index_hit hm1.2).2.1, (index_hit hm1.2).2.2, ?_⟩
      refine ⟨_, rfl, by show 3 ≤ sizeLine; decide, fun t ht => ?_⟩
      have nD : t ≠ D := fun e => by rw [e, q2] at ht; cases ht
      refine ⟨_, by rw [upd_ne nD.symm]; exact q2, by rw [List.length_map]; exact small1000 (by omega), Same.set (q1.trans (Same.new ht)) hD, ps ++ [t], by rw [upd_same, List.map_append]; rfl, ?_⟩
      rw [take_snoc hf, List.map_append]
      refine TupsAt.upd (xs := ps.map V.ref) (by rw [upd_ne nD.symm]; exact q2) ((q3.same (Same.new ht)).snoc ?_)
      exact upd_same
    · rintro H1 ⟨q1, ps, q2, q3⟩
      have : ps0.length = F.length := by have := hT.1; rw [List.length_map] at this; exact this
      rw [List.length_map, this, List.take_length] at q3
      exact k H1 D ps (s0.trans q1) q2 q3
end
end K1
end
section
set_option maxRecDepth 100000
set_option maxHeartbeats 4000000
namespace K1
open PySem L2 K01
/-- a list of lists of cells -/
structure LMat (H : Hp) (R : Addr) (as : List Addr) (B : Mat) : Prop where
  out : H R = some (.lst (as.map V.ref))
  len : as.length = B.length
  nd : as.Nodup
  ne : R ∉ as
  row : ∀ (i : Nat) (p : Addr) (r : List Cell), as[i]? = some p → B[i]? = some r → H p = some (.lst (r.map cV))
theorem LMat.same {H H' : Hp} {R : Addr} {as : List Addr} {B : Mat} (e : Same H H') (h : LMat H R as B) : LMat H' R as B :=
  ⟨e _ _ h.out, h.len, h.nd, h.ne, fun i p r a b => e _ _ (h.row i p r a b)⟩
theorem LMat.get {H : Hp} {R : Addr} {as : List Addr} {B : Mat} {n x : Nat} (h : LMat H R as B) (S : Sized n B) (hx : x < n) : ∃ p, as[x]? = some p ∧ H p = some (.lst ((rowAt B x).map cV)) := by
  have hl : x < as.length := by rw [h.len, S.1]; exact hx
  obtain ⟨r, h1, h2⟩ := S.row hx
  refine ⟨as[x], List.getElem?_eq_getElem hl, ?_⟩
  rw [rowAt_of h1]
  exact h.row x _ r (List.getElem?_eq_getElem hl) h1
theorem LMat.set {H : Hp} {R : Addr} {as : List Addr} {B : Mat} {n x : Nat} (h : LMat H R as B) (S : Sized n B) (hx : x < n) {p : Addr} (hp : as[x]? = some p) (y : Nat) (v : Cell) :
    LMat (upd H p (.lst (((rowAt B x).map cV).set y (cV v)))) R as (setC B x y v) := by
  have hm : p ∈ as := List.mem_of_getElem? hp
  refine ⟨?_, ?_, h.nd, h.ne, fun i q r h1 h2 => ?_⟩
  · rw [upd_ne (fun e => h.ne (by rw [e]; exact hm))]; exact h.out
  · unfold setC; rw [List.length_set]; exact h.len
  · unfold setC at h2
    rw [List.getElem?_set] at h2
    by_cases e : x = i
    · subst e
      rw [if_pos rfl] at h2
      have hxl : x < B.length := by rw [S.1]; exact hx
      rw [if_pos hxl] at h2
      cases h2
      rw [hp] at h1
      cases h1
      rw [upd_same, List.map_set]
    · rw [if_neg e] at h2
      have : q ≠ p := fun z => e (nd_ix h.nd (by rw [← z] at hp; exact hp) h1)
      rw [upd_ne this]
      exact h.row i q r h1 h2
theorem lst_cell {n : Nat} {B : Mat} (S : Sized n B) {x y : Nat} (hx : x < n) (hy : y < n) : atI ((rowAt B x).map cV) (y : Nat) = some (cV (cell B x y)) := atI_nat (row_cell S hx hy)
theorem LMat.push {H : Hp} {R : Addr} {as : List Addr} {B : Mat} {D : Addr} {r : List Cell} (h : LMat H R as B) (hD : H D = some (.lst (r.map cV))) (h1 : D ∉ as) (h2 : R ≠ D) :
    LMat (upd H R (.lst (as.map V.ref ++ [.ref D]))) R (as ++ [D]) (B ++ [r]) := by
  refine ⟨?_, ?_, ?_, ?_, fun i p q g1 g2 => ?_⟩
  · rw [upd_same, List.map_append]; rfl
  · rw [List.length_append, List.length_append, h.len]; rfl
  · rw [List.nodup_append]
    exact ⟨h.nd, by simp, fun x hx y hy => by rw [List.mem_singleton] at hy; rw [hy]; exact fun e => h1 (e ▸ hx)⟩
  · rw [List.mem_append, List.mem_singleton]
    exact fun e => e.elim h.ne h2
  · by_cases hi : i < as.length
    · rw [List.getElem?_append_left hi] at g1
      rw [List.getElem?_append_left (by rw [← h.len]; exact hi)] at g2
      rw [upd_ne (fun e => h.ne (by rw [← e]; exact List.mem_of_getElem? g1))]
      exact h.row i p q g1 g2
    · rw [List.getElem?_append_right (by omega)] at g1
      rw [List.getElem?_append_right (by rw [← h.len]; omega), ← h.len] at g2
      cases e : i - as.length with
      | zero =>
        rw [e] at g1 g2
        simp at g1 g2
        rw [← g1, ← g2, upd_ne h2.symm]; exact hD
      | succ k => rw [e] at g1; simp at g1
theorem LMat.mem {H : Hp} {R : Addr} {as : List Addr} {B : Mat} (h : LMat H R as B) {p : Addr} (hp : p ∈ as) : H p ≠ none := by
  obtain ⟨i, hi, e⟩ := List.mem_iff_getElem.mp hp
  have hb : i < B.length := by rw [← h.len]; exact hi
  rw [h.row i p _ (List.getElem?_eq_some_iff.mpr ⟨hi, e⟩) (List.getElem?_eq_getElem hb)]
  exact fun z => nomatch z
/-- the matrix, made since H -/
def LM (H : Hp) (R : Addr) (B : Mat) (H' : Hp) : Prop := Same H H' ∧ ∃ as, LMat H' R as B ∧ ∀ a ∈ as, H a = none
theorem ixN_nat {n b : Nat} (h : b < n) : ixN n (b : Nat) = some b := by
  unfold ixN
  rw [if_pos (Int.natCast_nonneg b), if_pos (by exact_mod_cast h)]
  simp
theorem LM.read {H : Hp} {R : Addr} {B : Mat} {H' : Hp} {K : PySem.W.Frag} {n a : Nat} (h : LM H R B H') (S : Sized n B) (ha : a < n) :
    ∃ xs p, SqL K H' R xs ∧ atI xs (a : Nat) = some (.ref p) ∧ SqL K H' p ((rowAt B a).map cV) ∧ H' p = some (.lst ((rowAt B a).map cV)) ∧ ∀ b v, LM H R (setC B a b v) (upd H' p (.lst (((rowAt B a).map cV).set b (cV v)))) := by
  obtain ⟨h1, as, h2, h3⟩ := h
  obtain ⟨p, g1, g2⟩ := h2.get S ha
  refine ⟨_, p, SqL.of h2.out, atI_nat (v := V.ref p) (by rw [List.getElem?_map, g1]; rfl), SqL.of g2, g2, fun b v => ⟨Same.set h1 (h3 p (List.mem_of_getElem? g1)), as, h2.set S ha g1 b v, h3⟩⟩
theorem LM.ix {n : Nat} {B : Mat} (S : Sized n B) {a b : Nat} (ha : a < n) (hb : b < n) : ixN ((rowAt B a).map cV).length (b : Nat) = some b := by
  rw [List.length_map, S.rowAt ha]; exact ixN_nat hb
theorem sz_B {n m a : Nat} {B : Mat} (S : Sized n B) (ha : a < n) (k : Nat) : Sized n ((List.range k).foldl (turnB m a) B) :=
  fold_ind (Sized n) _ _ S fun b x _ h => relax_sized h ha m x
theorem sz_A {n m : Nat} {B : Mat} (S : Sized n B) {k : Nat} (hk : k ≤ n) : Sized n ((List.range k).foldl (turnA n m) B) :=
  fold_ind (Sized n) _ _ S fun b x hx h => sz_B h (Nat.lt_of_lt_of_le (List.mem_range.mp hx) hk) n
theorem sz_M {n : Nat} {B : Mat} (S : Sized n B) (k : Nat) : Sized n ((List.range k).foldl (turnM n) B) :=
  fold_ind (Sized n) _ _ S fun b x hx h => sz_A h (Nat.le_refl n)
theorem sz_E {n : Nat} {B : Mat} (S : Sized n B) {E : List Edge} (hE : InR n E) : Sized n (E.foldl putE B) :=
  fold_ind (Sized n) _ _ S fun b x hx h => lower_sized h (hE x hx).1 _ _
theorem range_snoc {α : Type} (f : α → Nat → α) (a : α) (k : Nat) : (List.range (k + 1)).foldl f a = f ((List.range k).foldl f a) k := by
  rw [List.range_succ, List.foldl_append]; rfl
theorem walk_r0 {n : Nat} : L2.Walk (Itr 0 n) n (fun _ => True) (YFn fun i => V.int (i : Nat)) := by
  have := walk_range (lo := 0) (n := n)
  simpa only [Int.zero_add] using this
theorem for_r0 {n : Nat} {g : TG} {tb : TS} {D : Ends} {σ : St} {H : Hp} (Pv : Nat → St → Hp → Prop) (h0 : Pv 0 σ H)
    (hs : ∀ (i : Nat) (σ : St) (H : Hp), i < n → Pv i σ H → g (V.int (i : Nat)) σ H fun σ2 H2 => tb { nx := Pv (i + 1), rt := D.rt, bk := D.nx, ct := Pv (i + 1) } σ2 H2)
    (hd : ∀ (σ : St) (H : Hp), Pv n σ H → D.nx σ H) :
    ∃ W : Nat → Nat → St → Hp → Prop, (∃ m, W 0 m σ H) ∧ ∀ (i m : Nat) (σ : St) (H : Hp), W i m σ H → (Itr 0 n).stop i H ∧ D.nx σ H ∨ (Itr 0 n).go i H ∧ ∃ N, (∀ (σ' : St) (H' : Hp), N σ' H' → ∃ m', m' < m ∧ W (i + 1) m' σ' H') ∧
      ∀ (x : V) (H' : Hp), (Itr 0 n).yld i H x H' → g x σ H' fun σ2 H2 => tb { nx := N, rt := D.rt, bk := D.nx, ct := N } σ2 H2 :=
  for_it walk_r0 Pv h0 (fun _ _ _ _ _ => trivial) (fun i x σ H H' hi hp ⟨e1, e2⟩ => by subst e1; subst e2; exact hs i σ _ hi hp) hd
theorem inV_01 (i j : Nat) : inV (V.int (i : Nat)) [V.int 0, V.int (j : Nat)] = decide (i = 0 ∨ i = j) := by
  have e : ∀ a b : Int, eqV (.int a) (.int b) = decide (a = b) := fun a b => by
    by_cases h : a = b
    · subst h; simp [eqV]
    · simp [eqV, h]
  simp only [inV, List.any_cons, List.any_nil, Bool.or_false, e]
  rw [Bool.eq_iff_iff]
  simp only [Bool.or_eq_true, decide_eq_true_eq]
  omega
theorem closed_diag {n : Nat} {E : List Edge} (R : InR n E) {x : Nat} (hx : x < n) : ∃ d, cell (closedM n E) x x = some d := by
  obtain ⟨h1, _, h3, _⟩ := start_le R
  obtain ⟨d, h, _⟩ := (fw_tri h1).1.2 hx hx (h3 hx)
  exact ⟨d, h⟩
end K1
end
section
set_option maxRecDepth 100000
set_option maxHeartbeats 4000000
namespace K1
open PySem L2 K01
section
variable {P : Program} {w : World} {K : PySem.W.Frag} {mg : Str → Option Value} {base : Heap}
abbrev sClosed : Stmt := top 58
def spClosed (K : PySem.W.Frag) : Sp := fun vs H Q _ => ∃ (m : Nat) (q : Addr) (ps : List Addr) (E : List Edge), vs = [.int m, .ref q] ∧ m ≤ 100 ∧ H q = some (.lst (ps.map V.ref)) ∧ TupsAt H ps (E.map edgeV) ∧ InR (m + 1) E ∧
  ∀ H', Same H H' → (negs (m + 1) (closedM (m + 1) E) = [] → ∀ R, LM H R (closedM (m + 1) E) H' → Q (.ref R) H') ∧ (negs (m + 1) (closedM (m + 1) E) ≠ [] → Q .non H')
abbrev nsC : List Str := ["many", "facts_here", "size", "ax", "by", "rows", "sum_here", "mid", "far"]
theorem scClosed : FnScope nsC ["many", "facts_here"] (defScope sClosed) := ⟨rfl, rfl, rfl, by decide +kernel, rfl, by decide +kernel, by decide +kernel⟩
abbrev tRC (K : PySem.W.Frag) (i j : Nat) : TE := tOp (rIxL K) (tOp (rIxL K) (tVar 5) (tVar i)) (tVar j)
theorem ok_closed {f : Addr} {fd : FuncData} (F : Fun K "_law_closed" "_law_closed" sClosed f fd) (T : Bi mg) : FnOk P w K mg base CX0 1 f fd ["many", "facts_here"] (spClosed K) := by
  refine F.ok scClosed (fun vs H Q E h => ?_) (fun cdv A outer s H vs Q E hr h => ?_)
  · obtain ⟨_, _, _, _, rfl, _⟩ := h
    rfl
  · obtain ⟨m, q, ps, E, rfl, hm, hq, hT, hR, k⟩ := h
    refine ⟨_, pss_cons (ps_set (i := 2) scClosed.nd rfl (.inr rfl) (pe_op op_add (pv 0) pe_int))
      (pss_cons (ps_set (i := 5) scClosed.nd rfl (.inr rfl) (pe_lc (own := [("ax", 3)]) (g := gName 3) (te := tLc (iRng1 (tCons (tVar 2) tNil)) (gName 4) tYes (tIf (tTest (tOp (rIn K false) (tVar 3) (tTup (tCons (tC (.int 0)) (tCons (tVar 4) tNil))))) (tC (.int 0)) (tC .non)) [4]) rfl scClosed.nd
          (pi_range1 (by rfl) T.range (pa_cons (pv 2) pa_nil)) (blkOk_by (N := nsC) (sc := defScope sClosed) (by decide +kernel))
          (fun _ _ _ _ _ => pg_name (i := 3) scClosed.nd rfl (.inr rfl)) (fun _ _ _ _ _ => pts_nil)
          (fun _ _ _ _ _ => pe_lc (own := [("by", 4)]) (g := gName 4) (te := tIf (tTest (tOp (rIn K false) (tVar 3) (tTup (tCons (tC (.int 0)) (tCons (tVar 4) tNil))))) (tC (.int 0)) (tC .non)) rfl scClosed.nd
            (pi_range1 (by rfl) T.range (pa_cons (pv 2) pa_nil)) (blkOk_by (N := nsC) (sc := { kind := .function, names := [(".0", .local), ("ax", .cell), ("range", .globalImplicit), ("size", .cell)], isGenerator := false, isCoroutine := false }) (by decide +kernel))
            (fun _ _ _ _ _ => pg_name (i := 4) scClosed.nd rfl (.inl rfl)) (fun _ _ _ _ _ => pts_nil)
            (fun _ _ _ _ _ => pe_ifExp (pt_cmpR op_in_seq (pv 3) (pe_tup (pa_cons pe_int (pa_cons (pv 4) pa_nil))) (by rfl)) pe_int pe_non))))
      (pss_cons (ps_for PassesOwn.never rfl (pi_list (pv 1)) (pg_tup rfl (pgs_cons (pg_name (i := 3) scClosed.nd rfl (.inl rfl)) (pgs_cons (pg_name (i := 4) scClosed.nd rfl (.inl rfl)) (pgs_cons (pg_name (i := 6) scClosed.nd rfl (.inl rfl)) pgs_nil))))
        (pss_one (ps_if (PW.pt (pw_or (pt_cmpR op_isN (pe_ix ix_list (pe_ix ix_list (pv 5) (pv 3) (fun _ _ => rfl)) (pv 4) (fun _ _ => rfl)) pe_non (nomark _)) (pw_or1 (pt_cmpR op_lt (pv 6) (pe_ix ix_list (pe_ix ix_list (pv 5) (pv 3) (fun _ _ => rfl)) (pv 4) (fun _ _ => rfl)) (nomark _)))))
          (pss_one (ps_asg (pv 6) (pg_sub (pe_ix ix_list (pv 5) (pv 3) (fun _ _ => rfl)) (pv 4) set_list))) pss_nil)))
      (pss_cons (ps_for PassesOwn.never rfl (pi_range1 (by rfl) T.range (pa_cons (pv 2) pa_nil)) (pg_name (i := 7) scClosed.nd rfl (.inl rfl))
        (pss_one (ps_for PassesOwn.never rfl (pi_range1 (by rfl) T.range (pa_cons (pv 2) pa_nil)) (pg_name (i := 3) scClosed.nd rfl (.inl rfl))
          (pss_one (ps_for PassesOwn.never rfl (pi_range1 (by rfl) T.range (pa_cons (pv 2) pa_nil)) (pg_name (i := 4) scClosed.nd rfl (.inl rfl))
            (pss_one (ps_if (PW.pt (pw_and (pt_cmpR op_notN (pe_ix ix_list (pe_ix ix_list (pv 5) (pv 3) (fun _ _ => rfl)) (pv 7) (fun _ _ => rfl)) pe_non (nomark _)) (pw_and1 (pt_cmpR op_notN (pe_ix ix_list (pe_ix ix_list (pv 5) (pv 7) (fun _ _ => rfl)) (pv 4) (fun _ _ => rfl)) pe_non (nomark _)))))
              (pss_cons (ps_set (i := 8) scClosed.nd rfl (.inl rfl) (pe_op op_add (pe_ix ix_list (pe_ix ix_list (pv 5) (pv 3) (fun _ _ => rfl)) (pv 7) (fun _ _ => rfl)) (pe_ix ix_list (pe_ix ix_list (pv 5) (pv 7) (fun _ _ => rfl)) (pv 4) (fun _ _ => rfl))))
              (pss_one (ps_if (PW.pt (pw_or (pt_cmpR op_isN (pe_ix ix_list (pe_ix ix_list (pv 5) (pv 3) (fun _ _ => rfl)) (pv 4) (fun _ _ => rfl)) pe_non (nomark _)) (pw_or1 (pt_cmpR op_lt (pv 8) (pe_ix ix_list (pe_ix ix_list (pv 5) (pv 3) (fun _ _ => rfl)) (pv 4) (fun _ _ => rfl)) (nomark _)))))
                (pss_one (ps_asg (pv 8) (pg_sub (pe_ix ix_list (pv 5) (pv 3) (fun _ _ => rfl)) (pv 4) set_list))) pss_nil))) pss_nil)))))))
      (pss_one (ps_ret (pe_ifExp (pt_cmpR (op_eqD hr.units) (pe_lc (own := [("ax", 3)]) (g := gName 3) (tt := tTest (tOp (rI0 fun i j => V.bl (decide (i < j))) (tRC K 3 3) (tC (.int 0)))) rfl scClosed.nd (pi_range1 (by rfl) T.range (pa_cons (pv 2) pa_nil)) (blkOk_by (N := nsC) (sc := defScope sClosed) (by decide +kernel))
        (fun _ _ _ _ _ => pg_name (i := 3) scClosed.nd rfl (.inl rfl)) (fun _ _ _ _ _ => pts_one (pt_cmpR op_lt (pe_ix ix_list (pe_ix ix_list (pv 5) (pv 3) (fun _ _ => rfl)) (pv 3) (fun _ _ => rfl)) pe_int (nomark _))) (fun _ _ _ _ _ => pv 3)) (pe_lst pa_nil) (nomark _)) (pv 5) pe_non)))))), ?_⟩
    refine ⟨_, rfl, _, _, rfl, rfl, _, rfl, _, rfl, by omega, by omega, fun R hR0 => ?_⟩
    have hR00 : H R = none := hR0
    have em : ((m : Int) + 1).toNat = m + 1 := by omega
    rw [em]
    -- the rows
    refine lc_it (walk_r0 (n := m + 1)) (fun i H' => LM H R ((row0 (m + 1)).take i) H') ⟨Same.new hR0, [], ⟨upd_same, rfl, List.nodup_nil, by simp, fun i p r h => nomatch h⟩, by simp⟩ (fun _ _ _ _ => trivial) ?_ ?_
    · rintro i v H1 H2 hi ⟨s1, as, hA, hfr⟩ ⟨rfl, rfl⟩
      have hrow : (row0 (m + 1))[i]? = some ((List.range (m + 1)).map fun b => if i = 0 ∨ i = b then some 0 else none) := by
        unfold row0
        rw [List.getElem?_map, List.getElem?_range hi]
        rfl
      generalize hrf : ((List.range (m + 1)).map fun b => if i = 0 ∨ i = b then (some 0 : Cell) else none) = rf at hrow
      have rl : rf.length = m + 1 := by rw [← hrf]; simp
      refine ⟨rfl, yes_ ⟨_, rfl, _, rfl, by omega, by omega, fun D hD => ?_⟩⟩
      rw [em]
      have s2 : Same H (upd H2 D (.lst [])) := s1.trans (Same.new hD)
      refine lc_it (walk_r0 (n := m + 1)) (fun j H' => Same H2 H' ∧ H' D = some (.lst ((rf.take j).map cV))) ⟨Same.new hD, upd_same⟩ (fun _ _ _ _ => trivial) ?_ ?_
      · rintro j v H3 H4 hj ⟨t1, t2⟩ ⟨rfl, rfl⟩
        have hg : rf[j]? = some (if i = 0 ∨ i = j then some 0 else none) := by
          rw [← hrf, List.getElem?_map, List.getElem?_range hj]
          rfl
        refine ⟨rfl, yes_ ⟨_, rfl, _, rfl, by show 2 ≤ sizeLine; decide, fun t ht => ?_⟩⟩
        refine ⟨t, _, rfl, .inr tup_at, rfl, rfl, _, rfl, ?_⟩
        have nD : D ≠ t := fun e => by rw [← e, t2] at ht; cases ht
        have fin : ∀ {z}, z = cV (if i = 0 ∨ i = j then some 0 else none) → ∃ acc, (upd H4 t (.tup [.int 0, .int (j : Nat)])) D = some (HO.lst acc) ∧ acc.length < sizeLine ∧ (Same H2 (upd (upd H4 t (.tup [.int 0, .int (j : Nat)])) D (.lst (acc ++ [z]))) ∧ (upd (upd H4 t (.tup [.int 0, .int (j : Nat)])) D (.lst (acc ++ [z]))) D = some (.lst ((rf.take (j + 1)).map cV))) := by
          intro z hz
          refine ⟨_, (upd_ne nD).trans t2, ?_, Same.set (t1.trans (Same.new ht)) hD, ?_⟩
          · rw [List.length_map, List.length_take]
            exact Nat.lt_of_le_of_lt (Nat.min_le_left _ _) (small1000 (by omega))
          · rw [upd_same, take_snoc hg, List.map_append, hz]
            rfl
        rw [inV_01, if_neg Bool.false_ne_true]
        by_cases e : i = 0 ∨ i = j
        · exact iteDT e (fin (by rw [if_pos e]; rfl))
        · exact iteDF e (fin (by rw [if_neg e]; rfl))
      · rintro H3 ⟨t1, t2⟩
        have hRn : H2 R = some (.lst (as.map V.ref)) := hA.out
        have nRD : R ≠ D := fun e => by rw [← e, hRn] at hD; cases hD
        have hft : rf.take (m + 1) = rf := by rw [← rl, List.take_length]
        rw [hft] at t2
        have hasl : as.length = i := by
          have := hA.len
          rw [List.length_take, (row0_sized (m + 1)).1] at this
          omega
        refine ⟨_, t1 _ _ hRn, by rw [List.length_map]; exact small1000 (by omega), Same.set (s1.trans t1) hR00, as ++ [D], ?_, ?_⟩
        · rw [take_snoc hrow]
          exact (hA.same t1).push t2 (fun h => hA.mem h hD) nRD
        · intro a ha
          rcases List.mem_append.mp ha with ha | ha
          · exact hfr a ha
          · rw [List.mem_singleton] at ha
            rw [ha]
            exact s1.free hD
    · rintro H1 hL
      have hft : (row0 (m + 1)).take (m + 1) = row0 (m + 1) := by
        have := (row0_sized (m + 1)).1
        conv => lhs; arg 1; rw [← this]
        rw [List.take_length]
      rw [hft] at hL
      -- the facts
      refine ⟨_, rfl, q, rfl, ⟨_, SqL.of (hL.1 _ _ hq)⟩, for_it (walk_list (K := K) (a := q) (xs := ps.map V.ref)) (fun i σ H' => (∃ x y s mi fa, σ = [some (.int (m : Nat)), some (.ref q), some (.int ((m : Int) + 1)), x, y, some (.ref R), s, mi, fa]) ∧ LM H R ((E.take i).foldl putE (row0 (m + 1))) H')
        ⟨⟨_, _, _, _, _, rfl⟩, hL⟩ (fun i σ H' _ u => SqL.of (u.2.1 _ _ hq)) ?_ ?_⟩
      · rintro i v σ H2 H3 hi ⟨⟨x, y, s, mi, fa, rfl⟩, hM⟩ ⟨rfl, hv⟩
        obtain ⟨p, hp, rfl⟩ := get_map hv
        obtain ⟨xs, hxs, hpx⟩ := (hT.same hM.1).get hp
        obtain ⟨e, he, rfl⟩ := get_map hxs
        obtain ⟨ea, eb, es⟩ := e
        have hab := hR _ (List.mem_of_getElem? he)
        have S : Sized (m + 1) ((E.take i).foldl putE (row0 (m + 1))) := sz_E (row0_sized _) (fun e h => hR e (List.mem_of_mem_take h))
        have hst : (E.take (i + 1)).foldl putE (row0 (m + 1)) = lower ((E.take i).foldl putE (row0 (m + 1))) ea eb es := by
          rw [take_snoc he, List.foldl_append]; rfl
        rw [hst]
        generalize (E.take i).foldl putE (row0 (m + 1)) = B at hM S
        obtain ⟨us, pa, r1, r2, r3, r4, r5⟩ := hM.read (K := K) S hab.1
        have r6 := lst_cell S hab.1 hab.2
        have r7 := LM.ix S hab.1 hab.2
        refine ⟨p, _, rfl, SqT.of hpx, rfl, _, _, rfl, _, _, rfl, _, _, rfl, rfl, ?_⟩
        refine ⟨_, rfl, _, rfl, _, _, _, _, rfl, rfl, r1, r2, _, rfl, _, _, _, _, rfl, rfl, r3, r6, rfl, _, rfl, ?_⟩
        cases hc : cell B ea eb with
        | none =>
          have hlo : lower B ea eb es = setC B ea eb (some es) := by unfold lower; rw [hc]
          rw [hlo]
          exact iteDT rfl (iteT ⟨_, rfl, _, rfl, _, rfl, _, _, _, _, rfl, rfl, r1, r2, _, rfl, pa, _, _, eb, rfl, rfl, r4, r7, ⟨_, _, _, _, _, rfl⟩, r5 eb (some es)⟩)
        | some o =>
          have hlo : lower B ea eb es = if es < o then setC B ea eb (some es) else B := by unfold lower; rw [hc]
          rw [hlo]
          rw [hc] at r6
          refine iteDF (fun z => nomatch z) ⟨_, rfl, _, rfl, _, rfl, _, _, _, _, rfl, rfl, r1, r2, _, rfl, _, _, _, _, rfl, rfl, r3, r6, _, _, rfl, rfl, _, rfl, ?_⟩
          by_cases hlt : es < o
          · rw [if_pos hlt]
            exact iteDT hlt ⟨_, rfl, _, rfl, _, rfl, _, _, _, _, rfl, rfl, r1, r2, _, rfl, pa, _, _, eb, rfl, rfl, r4, r7, ⟨_, _, _, _, _, rfl⟩, r5 eb (some es)⟩
          · rw [if_neg hlt]
            exact iteDF hlt ⟨⟨_, _, _, _, _, rfl⟩, hM⟩
      · rintro σ H2 ⟨⟨x, y, s, mi, fa, rfl⟩, hM⟩
        have hEl : (ps.map V.ref).length = E.length := by rw [List.length_map, hT.1, List.length_map]
        rw [hEl, List.take_length] at hM
        have hM : LM H R (start (m + 1) E) H2 := hM
        have S0 : Sized (m + 1) (start (m + 1) E) := (start_le hR).1
        -- the closing
        refine ⟨_, rfl, _, rfl, by omega, by omega, ?_⟩
        rw [em]
        refine for_r0 (fun i σ H' => (∃ x y s mi fa, σ = [some (.int (m : Nat)), some (.ref q), some (.int ((m : Int) + 1)), x, y, some (.ref R), s, mi, fa]) ∧ LM H R ((List.range i).foldl (turnM (m + 1)) (start (m + 1) E)) H')
          ⟨⟨_, _, _, _, _, rfl⟩, hM⟩ ?_ ?_
        · rintro i σ H3 hi ⟨⟨x, y, s, mi, fa, rfl⟩, hM⟩
          have S1 := sz_M S0 i
          rw [range_snoc]
          generalize (List.range i).foldl (turnM (m + 1)) (start (m + 1) E) = B1 at hM S1
          refine ⟨_, rfl, _, rfl, by omega, by omega, ?_⟩
          rw [em]
          refine for_r0 (fun j σ H' => (∃ x y s fa, σ = [some (.int (m : Nat)), some (.ref q), some (.int ((m : Int) + 1)), x, y, some (.ref R), s, some (.int (i : Nat)), fa]) ∧ LM H R ((List.range j).foldl (turnA (m + 1) i) B1) H')
            ⟨⟨_, _, _, _, rfl⟩, hM⟩ ?_ ?_
          · rintro j σ H4 hj ⟨⟨x, y, s, fa, rfl⟩, hM⟩
            have S2 := sz_A (m := i) S1 (Nat.le_of_lt hj)
            rw [range_snoc]
            generalize (List.range j).foldl (turnA (m + 1) i) B1 = B2 at hM S2
            refine ⟨_, rfl, _, rfl, by omega, by omega, ?_⟩
            rw [em]
            refine for_r0 (fun l σ H' => (∃ y s fa, σ = [some (.int (m : Nat)), some (.ref q), some (.int ((m : Int) + 1)), some (.int (j : Nat)), y, some (.ref R), s, some (.int (i : Nat)), fa]) ∧ LM H R ((List.range l).foldl (turnB i j) B2) H')
              ⟨⟨_, _, _, rfl⟩, hM⟩ ?_ ?_
            · rintro l σ H5 hl ⟨⟨y, s, fa, rfl⟩, hM⟩
              have S3 := sz_B (m := i) S2 hj l
              rw [range_snoc]
              generalize (List.range l).foldl (turnB i j) B2 = B at hM S3
              obtain ⟨us, pa, r1, r2, r3, r4, r5⟩ := hM.read (K := K) S3 hj
              obtain ⟨us', pb, q1, q2, q3, _, _⟩ := hM.read (K := K) S3 hi
              have c1 := lst_cell S3 hj hi
              have c2 := lst_cell S3 hi hl
              have c3 := lst_cell S3 hj hl
              have r7 := LM.ix S3 hj hl
              show gName _ _ _ H5 _
              refine ⟨_, rfl, _, rfl, _, _, _, _, rfl, rfl, r1, r2, _, rfl, _, _, _, _, rfl, rfl, r3, c1, rfl, _, rfl, ?_⟩
              cases e1 : cell B j i with
              | none =>
                have hre : turnB i j B l = B := by unfold turnB relax; rw [e1]
                rw [hre]
                exact iteNS rfl ⟨⟨_, _, _, rfl⟩, hM⟩
              | some x1 =>
                rw [e1] at c1
                refine iteNF (fun z => nomatch z) ⟨_, rfl, _, rfl, _, _, _, _, rfl, rfl, q1, q2, _, rfl, _, _, _, _, rfl, rfl, q3, c2, rfl, _, rfl, ?_⟩
                cases e2 : cell B i l with
                | none =>
                  have hre : turnB i j B l = B := by unfold turnB relax; rw [e1]; simp only [e2]
                  rw [hre]
                  exact iteNS rfl ⟨⟨_, _, _, rfl⟩, hM⟩
                | some x2 =>
                  rw [e2] at c2
                  refine iteNF (fun z => nomatch z) ⟨_, rfl, _, rfl, _, _, _, _, rfl, rfl, r1, r2, _, rfl, _, _, _, _, rfl, rfl, r3, c1, _, rfl, _, rfl, _, _, _, _, rfl, rfl, q1, q2, _, rfl, _, _, _, _, rfl, rfl, q3, c2, _, _, rfl, rfl, ?_⟩
                  refine ⟨_, rfl, _, rfl, _, _, _, _, rfl, rfl, r1, r2, _, rfl, _, _, _, _, rfl, rfl, r3, c3, rfl, _, rfl, ?_⟩
                  have hre : turnB i j B l = lower B j l (x1 + x2) := by unfold turnB relax; rw [e1]; simp only [e2]
                  rw [hre]
                  cases hc : cell B j l with
                  | none =>
                    have hlo : lower B j l (x1 + x2) = setC B j l (some (x1 + x2)) := by unfold lower; rw [hc]
                    rw [hlo]
                    exact iteDT rfl (iteT ⟨_, rfl, _, rfl, _, rfl, _, _, _, _, rfl, rfl, r1, r2, _, rfl, pa, _, _, l, rfl, rfl, r4, r7, ⟨_, _, _, rfl⟩, r5 l (some (x1 + x2))⟩)
                  | some o =>
                    have hlo : lower B j l (x1 + x2) = if (x1 + x2) < o then setC B j l (some (x1 + x2)) else B := by unfold lower; rw [hc]
                    rw [hlo]
                    rw [hc] at c3
                    refine iteDF (fun z => nomatch z) ⟨_, rfl, _, rfl, _, rfl, _, _, _, _, rfl, rfl, r1, r2, _, rfl, _, _, _, _, rfl, rfl, r3, c3, _, _, rfl, rfl, _, rfl, ?_⟩
                    by_cases hlt : (x1 + x2) < o
                    · rw [if_pos hlt]
                      exact iteDT hlt ⟨_, rfl, _, rfl, _, rfl, _, _, _, _, rfl, rfl, r1, r2, _, rfl, pa, _, _, l, rfl, rfl, r4, r7, ⟨_, _, _, rfl⟩, r5 l (some (x1 + x2))⟩
                    · rw [if_neg hlt]
                      exact iteDF hlt ⟨⟨_, _, _, rfl⟩, hM⟩
            · rintro σ H5 ⟨⟨y, s, fa, rfl⟩, hM⟩
              exact ⟨⟨_, _, _, _, rfl⟩, hM⟩
          · rintro σ H4 ⟨⟨x, y, s, fa, rfl⟩, hM⟩
            exact ⟨⟨_, _, _, _, _, rfl⟩, hM⟩
        · rintro σ H3 ⟨⟨x, y, s, mi, fa, rfl⟩, hM⟩
          have hM : LM H R (closedM (m + 1) E) H3 := hM
          have SC : Sized (m + 1) (closedM (m + 1) E) := (fw_tri S0).1.1
          have hdg := fun z (hz : z < m + 1) => closed_diag hR hz
          generalize closedM (m + 1) E = B at hM SC hdg k
          refine ⟨_, rfl, _, rfl, by omega, by omega, fun D hD => ?_⟩
          rw [em]
          refine lc_it (walk_r0 (n := m + 1)) (fun i H' => Same H3 H' ∧ H' D = some (.lst ((((List.range i).filter (below0 B)).map fun z => V.int (z : Nat))))) ⟨Same.new hD, upd_same⟩ (fun _ _ _ _ => trivial) ?_ ?_
          · rintro i v H4 H5 hi ⟨q1, q2⟩ ⟨rfl, rfl⟩
            obtain ⟨d, hd⟩ := hdg i hi
            obtain ⟨us, pa, r1, r2, r3, r4, r5⟩ := LM.read (K := K) ⟨hM.1.trans q1, hM.2.imp fun as h => ⟨h.1.same q1, h.2⟩⟩ SC hi
            have c1 := lst_cell SC hi hi
            rw [hd] at c1
            refine ⟨rfl, _, rfl, _, rfl, _, _, _, _, rfl, rfl, r1, r2, _, rfl, _, _, _, _, rfl, rfl, r3, c1, _, _, rfl, rfl, _, rfl, ?_⟩
            have hn : ((List.range i).filter (below0 B)).length ≤ 1000 := by
              have a1 := List.length_filter_le (below0 B) (List.range i)
              rw [List.length_range] at a1
              omega
            have hb : below0 B i = decide (d < 0) := by unfold below0; rw [hd]
            by_cases hl : d < 0
            · refine iteDT hl ⟨_, rfl, _, q2, by rw [List.length_map]; exact small1000 hn, Same.set q1 hD, ?_⟩
              rw [upd_same, List.range_succ, List.filter_append, List.filter_cons_of_pos (by rw [hb]; exact decide_eq_true hl), List.filter_nil, List.map_append]
              rfl
            · refine iteDF hl ⟨q1, ?_⟩
              rw [List.range_succ, List.filter_append, List.filter_cons_of_neg (by rw [hb, decide_eq_false hl]; exact Bool.false_ne_true), List.filter_nil, List.append_nil]
              exact q2
          · rintro H4 ⟨q1, q2⟩
            refine ⟨Nat.zero_le _, fun e he => ?_⟩
            have eD : D ≠ e := fun q => by rw [← q, q2] at he; cases he
            have q2' : (upd H4 e (.lst [])) D = _ := (upd_ne eD).trans q2
            refine ⟨.list _, .list [], .lst (SqL.of q2') (flats_dp ?_), .lst (SqL.of upd_same) .nil, ?_, shaped_nil, ?_⟩
            · intro v hv
              obtain ⟨u, _, rfl⟩ := List.mem_map.mp hv
              exact .int _
            · refine Lv.shaped (n := 1) (Lv.list (n := 0) ?_) (by decide)
              intro d hd
              obtain ⟨v, hv, rfl⟩ := List.mem_map.mp hd
              obtain ⟨u, hu, rfl⟩ := List.mem_map.mp hv
              exact Lv.int _
            · rw [eqv_nil]
              have kk := k _ ((hM.1.trans q1).trans (Same.new (o := .lst []) he))
              refine ⟨_, rfl, ?_⟩
              unfold negs at kk
              cases hn : (List.range (m + 1)).filter (below0 B) with
              | nil => exact ⟨_, rfl, kk.1 hn R ⟨(hM.1.trans q1).trans (Same.new (o := .lst []) he), hM.2.imp fun as h => ⟨(h.1.same q1).same (Same.new (o := .lst []) he), h.2⟩⟩⟩
              | cons z zs => exact kk.2 (by rw [hn]; exact fun q => nomatch q)
end
end K1
end
section
set_option maxRecDepth 100000
set_option maxHeartbeats 4000000
namespace K1
open PySem L2 K01
def kindZ : Nat → Str
  | 0 => "marks"
  | 1 => "takes"
  | _ => "fact"
end K1
end
section
set_option maxRecDepth 100000
set_option maxHeartbeats 4000000
namespace K1
open PySem L2 K01
/-- a name of letters -/
structure GN (z : Str) : Prop where
  pos : 1 ≤ z.cps.toList.length
  len : z.cps.toList.length ≤ 8
  let' : ∀ c ∈ z.cps.toList, c ∈ lets
theorem GN.len' {z : Str} (h : GN z) : z.length ≤ 8 := by
  have := h.len
  rw [Array.length_toList] at this
  exact this
theorem GN.asc {z : Str} (h : GN z) : AscZ z := fun c hc => lets_asc c (h.let' c hc)
theorem GN.ok {z : Str} (h : GN z) : nameOk z = true := by
  rw [← good_eq]
  unfold goodL
  have h1 := h.pos
  have h2 := h.len'
  have e : z.length = z.cps.toList.length := (Array.length_toList).symm
  rw [decide_eq_true (by omega), decide_eq_true (by omega), Bool.true_and, Bool.true_and, List.isEmpty_iff, List.filter_eq_nil_iff]
  intro c hc
  simp [h.let' c hc]
theorem app_cps (a b : Str) : (a ++ b).cps.toList = a.cps.toList ++ b.cps.toList := by
  show (a.cps ++ b.cps).toList = _
  rw [Array.toList_append]
theorem one_cps (c : Nat) : (oneS c).cps.toList = [c] := rfl
theorem cut_cps (z : Str) (lo hi : Option Int) : (cutS z lo hi).cps.toList = List.take (HT.sIx z.length z.length hi - HT.sIx z.length 0 lo) (List.drop (HT.sIx z.length 0 lo) z.cps.toList) := by
  unfold cutS
  simp
theorem glue_cps : ∀ (r : List Nat) (acc : Array Nat), (List.foldl (fun acc (p : Str) => acc ++ ("" : Str).cps ++ p.cps) acc (r.map oneS)).toList = acc.toList ++ r
  | [], acc => by simp
  | c :: r, acc => by
    rw [List.map_cons, List.foldl_cons, glue_cps r]
    have : ("" : Str).cps = #[] := rfl
    rw [this]
    simp [oneS]
theorem join_cps (cs : List Nat) : (Txt.join "" (cs.map oneS)).cps.toList = cs := by
  cases cs with
  | nil => rfl
  | cons c r =>
    show (List.foldl (fun acc (p : Str) => acc ++ ("" : Str).cps ++ p.cps) (oneS c).cps (r.map oneS)).toList = _
    rw [glue_cps]
    rfl
theorem GN.mk' {z : Str} {w : List Nat} (e : z.cps.toList = w) (h1 : 1 ≤ w.length) (h2 : w.length ≤ 8) (h3 : ∀ c ∈ w, c ∈ lets) : GN z := by
  subst e; exact ⟨h1, h2, h3⟩
theorem GN.first {c : Nat} {cs : List Nat} (hc : c ∈ lets) (hcs : ∀ x ∈ cs, x ∈ lets) (hl : cs.length ≤ 7) : GN (oneS c ++ Txt.join "" (cs.map oneS)) := by
  refine GN.mk' (w := c :: cs) (by rw [app_cps, join_cps]; rfl) (by simp) (by simp; omega) ?_
  intro x hx
  rcases List.mem_cons.mp hx with rfl | hx
  · exact hc
  · exact hcs x hx
theorem GN.cut {z : Str} (h : GN z) {c : Nat} (hc : c ∈ lets) {lo hi : Option Int} (hl : HT.sIx z.length z.length hi - HT.sIx z.length 0 lo ≤ 7) : GN (cutS z lo hi ++ oneS c) := by
  refine GN.mk' (by rw [app_cps, cut_cps, one_cps]) (by simp) ?_ ?_
  · rw [List.length_append, List.length_take]
    have := Nat.min_le_left (HT.sIx z.length z.length hi - HT.sIx z.length 0 lo) (List.drop (HT.sIx z.length 0 lo) z.cps.toList).length
    simp only [List.length_singleton]
    omega
  · intro x hx
    rcases List.mem_append.mp hx with hx | hx
    · exact h.let' x (List.mem_of_mem_drop (List.mem_of_mem_take hx))
    · rw [List.mem_singleton] at hx; rw [hx]; exact hc
theorem GN.mid {z : Str} (h : GN z) {c : Nat} (hc : c ∈ lets) : GN ((cutS z none (some 1) ++ oneS c) ++ cutS z (some 2) none) := by
  have hl := h.len
  have e1 : HT.sIx z.length z.length (some 1) = min 1 z.length := HT.sIx_nat _ _ 1
  have e2 : HT.sIx z.length 0 (some 2) = min 2 z.length := HT.sIx_nat _ _ 2
  have ez : z.length = z.cps.toList.length := (Array.length_toList).symm
  refine GN.mk' (by rw [app_cps, app_cps, cut_cps, cut_cps, one_cps]) (by simp; omega) ?_ ?_
  · rw [e1, e2, HT.sIx_none, HT.sIx_none]
    simp only [List.length_append, List.length_take, List.length_drop, List.length_singleton]
    omega
  · intro x hx
    rcases List.mem_append.mp hx with hx | hx
    · rcases List.mem_append.mp hx with hx | hx
      · exact h.let' x (List.mem_of_mem_drop (List.mem_of_mem_take hx))
      · rw [List.mem_singleton] at hx; rw [hx]; exact hc
    · exact h.let' x (List.mem_of_mem_drop (List.mem_of_mem_take hx))
theorem GN.two {c : Nat} (hc : c ∈ lets) : GN (oneS c ++ "z") := by
  refine GN.mk' (w := [c, 122]) (by rw [app_cps]; rfl) (by simp) (by simp) ?_
  intro x hx
  simp only [List.mem_cons, List.not_mem_nil, or_false] at hx
  rcases hx with rfl | rfl
  · exact hc
  · decide +kernel
theorem two_ne_zero {c : Nat} : oneS c ++ ("z" : Str) ≠ "zero" := by
  intro e
  have := congrArg (fun s : Str => s.cps.toList.length) e
  simp only [app_cps] at this
  exact absurd (show (2 : Nat) = 4 from this) (by decide)
theorem two_inj {c d : Nat} (e : oneS c ++ ("z" : Str) = oneS d ++ "z") : c = d := by
  have := congrArg (fun s : Str => s.cps.toList) e
  simp only [app_cps, one_cps] at this
  simpa using this
structure GoodNs (ms : List Str) : Prop where
  nd : ms.Nodup
  nz : ("zero" : Str) ∉ ms
  gn : ∀ z ∈ ms, GN z
theorem GoodNs.snoc {ms : List Str} (h : GoodNs ms) {z : Str} (h1 : GN z) (h2 : z ∉ ms) (h3 : z ≠ "zero") : GoodNs (ms ++ [z]) := by
  refine ⟨?_, ?_, ?_⟩
  · rw [List.nodup_append]
    exact ⟨h.nd, by simp, fun x hx y hy => by rw [List.mem_singleton] at hy; rw [hy]; exact fun e => h2 (e ▸ hx)⟩
  · rw [List.mem_append, List.mem_singleton]
    exact fun e => e.elim h.nz (fun q => h3 q.symm)
  · intro x hx
    rcases List.mem_append.mp hx with hx | hx
    · exact h.gn x hx
    · rw [List.mem_singleton] at hx; rw [hx]; exact h1
theorem lets_len : lets.length = 52 := by decide +kernel
theorem lets_nd : lets.Nodup := by decide +kernel
theorem let_at {d : Int} (h0 : 0 ≤ d) (h1 : d < 52) : ∃ c, atI letters.cps.toList d = some c ∧ c ∈ lets := by
  obtain ⟨n, rfl⟩ := Int.eq_ofNat_of_zero_le h0
  have hn : n < lets.length := by rw [lets_len]; omega
  exact ⟨lets[n], atI_nat (List.getElem?_eq_getElem hn), List.getElem_mem hn⟩
theorem letters_len : letters.length ≤ sizeLine := by decide +kernel
theorem nodup_le : ∀ {ws ns : List Str}, ws.Nodup → (∀ z ∈ ws, z ∈ ns) → ws.length ≤ ns.length
  | [], _, _, _ => Nat.zero_le _
  | w :: ws, ns, h, hs => by
    rw [List.nodup_cons] at h
    have hw : w ∈ ns := hs w List.mem_cons_self
    have h1 := nodup_le (ws := ws) (ns := ns.erase w) h.2 fun z hz => (List.mem_erase_of_ne (fun e => h.1 (by rw [← e]; exact hz))).mpr (hs z (List.mem_cons_of_mem _ hz))
    rw [List.length_erase_of_mem hw] at h1
    have := List.length_pos_of_mem hw
    rw [List.length_cons]
    omega
/-- among more words than names one is new -/
theorem spare_one {ws ns : List Str} (hw : ws.Nodup) (h : ns.length < ws.length) : ∃ z r, ws.filter (fun z => !decide (z ∈ ns)) = z :: r ∧ z ∈ ws ∧ z ∉ ns := by
  cases e : ws.filter (fun z => !decide (z ∈ ns)) with
  | nil =>
    exfalso
    have hs : ∀ z ∈ ws, z ∈ ns := by
      intro z hz
      have := List.filter_eq_nil_iff.mp e z hz
      simpa using this
    have := nodup_le hw hs
    omega
  | cons z r =>
    refine ⟨z, r, rfl, ?_⟩
    have : z ∈ ws.filter (fun z => !decide (z ∈ ns)) := by rw [e]; exact List.mem_cons_self
    have h2 := List.mem_filter.mp this
    exact ⟨h2.1, by simpa using h2.2⟩
theorem But.new {p q : Addr} {H H' : Hp} {o : HO} (h : But p H H') (hq : H q = none) : But p H (upd H' q o) := fun b x n e => by
  rw [upd_ne (fun z => by rw [z, hq] at e; cases e)]
  exact h b x n e
theorem But.free {p q : Addr} {H H' : Hp} (h : But p H H') (hp : H p ≠ none) (hq : H' q = none) (hpq : q ≠ p) : H q = none := by
  cases e : H q with
  | none => rfl
  | some o => rw [h q o hpq e] at hq; cases hq
theorem PitAt.ne {H : Hp} {p q : Addr} {z : Int} (h : PitAt H p z) (hq : H q = none) : q ≠ p := fun e => by
  obtain ⟨x, y, c, h1, _⟩ := h
  rw [e, h1] at hq; cases hq
end K1
end
section
set_option maxRecDepth 100000
set_option maxHeartbeats 4000000
namespace K1
open PySem L2 K01
/-- while names are drawn: p the pit, D the names so far -/
structure NI (H : Hp) (p D : Addr) (ns : List Str) (z : Int) (H' : Hp) : Prop where
  but : But p H H'
  pit : PitAt H' p z
  nam : H' D = some (.lst (ns.map V.str))
theorem NI.hoist {H H1 H2 : Hp} {p D : Addr} {ns : List Str} {z : Int} (h : NI H p D ns z H1) (hD : D ≠ p) (b : But p H1 H2) (q : PitAt H2 p (z + 1)) : NI H p D ns (z + 1) H2 :=
  ⟨h.but.trans b, q, b _ _ hD h.nam⟩
theorem NI.new {H H1 : Hp} {p D L : Addr} {ns : List Str} {z : Int} {o : HO} (h : NI H p D ns z H1) (hp : H p ≠ none) (hL : H1 L = none) : NI H p D ns z (L2.upd H1 L o) :=
  ⟨h.but.new (h.but.free hp hL (h.pit.ne hL)), h.pit.same (Same.new hL), by rw [upd_ne (fun e => by rw [← e, h.nam] at hL; cases hL)]; exact h.nam⟩
theorem NI.mono {H H1 : Hp} {p D : Addr} {ns : List Str} {z z' : Int} (h : NI H p D ns z H1) (e : z ≤ z') : NI H p D ns z' H1 := ⟨h.but, h.pit.mono e, h.nam⟩
theorem NI.put {H H1 : Hp} {p D C : Addr} {ns : List Str} {z : Int} {o : HO} (h : NI H p D ns z H1) (h1 : H C = none) (h2 : C ≠ p) (h3 : C ≠ D) : NI H p D ns z (L2.upd H1 C o) := by
  refine ⟨h.but.new h1, ?_, by rw [upd_ne (Ne.symm h3)]; exact h.nam⟩
  obtain ⟨x, y, c, q1, q2⟩ := h.pit
  exact ⟨x, y, c, by rw [upd_ne (Ne.symm h2)]; exact q1, q2⟩
theorem seq_gen {s r : TS} {D : Ends} {σ : St} {H : Hp} (M : St → Hp → Prop) (h : ∀ N : St → Hp → Prop, (∀ σ' H', M σ' H' → N σ' H') → s { nx := N, rt := D.rt, bk := D.bk, ct := D.ct } σ H) (h2 : ∀ σ' H', M σ' H' → r D σ' H') : tSeq s r D σ H := h (r D) h2
theorem at_last {xs : List V} {v : V} (hp : xs ≠ []) (h : xs[xs.length - 1]? = some v) : atI xs (-1) = some v := by
  have hl : 0 < xs.length := List.length_pos_iff.mpr hp
  unfold atI ixN
  rw [if_neg (by omega), if_pos (by omega)]
  have : ((-1 : Int) + (xs.length : Int)).toNat = xs.length - 1 := by omega
  rw [this]
  exact h
theorem cut_len (z : Str) (lo hi : Option Int) : (cutS z lo hi).length ≤ z.length := by
  have := congrArg List.length (cut_cps z lo hi)
  rw [Array.length_toList, List.length_take, List.length_drop, Array.length_toList] at this
  show (cutS z lo hi).cps.size ≤ z.cps.size
  omega
theorem one_len (c : Nat) : (oneS c).length = 1 := rfl
theorem app_len (a b : Str) : (a ++ b).length = a.length + b.length := by
  have := congrArg List.length (app_cps a b)
  rw [List.length_append, Array.length_toList, Array.length_toList, Array.length_toList] at this
  exact this
theorem line8 {n : Nat} (h : n ≤ 100) : n ≤ sizeLine := Nat.le_of_lt (small1000 (by omega))
theorem sum_one (cs : List Nat) : ((cs.map oneS).map fun x => x.length).sum = cs.length := by
  induction cs with
  | nil => rfl
  | cons c cs ih =>
    rw [List.map_cons, List.map_cons, List.sum_cons, ih, List.length_cons]
    have : (oneS c).length = 1 := rfl
    omega
theorem join_len (cs : List Nat) : (Txt.join "" (cs.map oneS)).length = cs.length := by
  have := congrArg List.length (join_cps cs)
  rw [Array.length_toList] at this
  exact this
theorem spare_nd {i : Nat} (hi : i ≤ 5) : (((lets.drop (7 * i)).take 7).map fun c => oneS c ++ ("z" : Str)).Nodup ∧ (((lets.drop (7 * i)).take 7).map fun c => oneS c ++ ("z" : Str)).length = 7 := by
  constructor
  · refine List.pairwise_map.mpr (List.Pairwise.imp (R := fun a b => a ≠ b) (fun h e => h (two_inj e)) ?_)
    exact ((lets_nd.sublist (List.drop_sublist _ _)).sublist (List.take_sublist _ _))
  · rw [List.length_map, List.length_take, List.length_drop, lets_len]
    omega
section
variable {P : Program} {w : World} {K : PySem.W.Frag} {mg : Str → Option Value} {base : Heap}
abbrev sCN : Stmt := top 57
def spCN (K : PySem.W.Frag) : Sp := fun vs H Q _ => ∃ (p : Addr) (n : Nat) (z : Int), vs = [.ref p, .int n] ∧ PitAt H p z ∧ z ≤ 900000 ∧ n ≤ 6 ∧ ∀ H' a ms, But p H H' → PitAt H' p (z + 20 * n) → strsT K H' a ms → ms.length = n → GoodNs ms → Q (.ref a) H'
abbrev nsN : List Str := ["pit", "many", "signs", "found", "k", "size", "way", "letter", "name_here", "old", "spare", "turn", "mate"]
theorem scCN : FnScope nsN ["pit", "many"] (defScope sCN) := ⟨rfl, rfl, rfl, by decide +kernel, rfl, by decide +kernel, by decide +kernel⟩
theorem ok_cn {f fh : Addr} {fd fdh : FuncData} (F : Fun K "_law_call_names" "_law_call_names" sCN f fd) (T : Bi mg)
    (FH : Fun K "_law_hoist" "_law_hoist" sHoist fh fdh) (bH : Binds K fdh ["pit", "below"] []) (mH : mg "_law_hoist" = some (.ref fh)) :
    FnOk P w K mg base CX0 2 f fd ["pit", "many"] (spCN K) := by
  have GH : FnOk P w K mg base CX0 1 fh fdh ["pit", "below"] (spHoist K) := ok_hoist FH T
  refine F.ok scCN (fun vs H Q E h => ?_) (fun cdv A outer s H vs Q E hr h => ?_)
  · obtain ⟨_, _, _, rfl, _⟩ := h
    rfl
  · obtain ⟨p, n, z, rfl, hp, hz, hn, k⟩ := h
    refine ⟨_, pss_cons (ps_asg (pe_tup (pa_cons pe_str (pa_cons (pe_lst pa_nil) pa_nil))) (pg_tup rfl (pgs_cons (pg_name (i := 2) scCN.nd rfl (.inr rfl)) (pgs_cons (pg_name (i := 3) scCN.nd rfl (.inr rfl)) pgs_nil))))
      (pss_cons (ps_for PassesOwn.never rfl (pi_range1 (by rfl) T.range (pa_cons (pv 1) pa_nil)) (pg_name (i := 4) scCN.nd rfl (.inr rfl))
        (pss_cons (ps_par (i := 5) (j := 6) rfl scCN.nd rfl rfl (by decide) rfl rfl (pa_cons (pe_ix ix_list (pe_lst (pa_cons pe_int (pa_cons pe_int (pa_cons pe_int (pa_cons (pe_call GH hr rfl mH FH.kp bH .nil pass0 (pa_cons (pv 0) (pa_cons pe_int pa_nil))) pa_nil))))) (pe_call GH hr rfl mH FH.kp bH .nil pass0 (pa_cons (pv 0) (pa_cons pe_int pa_nil))) (fun _ _ => rfl)) (pa_cons (pe_call GH hr rfl mH FH.kp bH .nil pass0 (pa_cons (pv 0) (pa_cons pe_int pa_nil))) pa_nil)) rfl)
        (pss_cons (ps_set (i := 7) scCN.nd rfl (.inl rfl) (pe_ix ix_str (pv 2) (pe_call GH hr rfl mH FH.kp bH .nil pass0 (pa_cons (pv 0) (pa_cons pe_int pa_nil))) (fun _ _ => rfl)))
        (pss_cons (ps_set (i := 8) scCN.nd rfl (.inl rfl) (pe_op op_add_str (pv 7) (pe_join pe_str (pe_lc (own := [("turn", 11)]) (g := gName 11) rfl scCN.nd (pi_range1 (by rfl) T.range (pa_cons (pv 5) pa_nil)) (blkOk_by (N := nsN) (sc := defScope sCN) (by decide +kernel))
            (fun _ _ _ _ _ => pg_name (i := 11) scCN.nd rfl (.inl rfl)) (fun _ _ _ _ _ => pts_nil) (te := tOp rIxS (tVar 2) (tCall (spHoist K) [] E0 (tCons (tVar 0) (tCons (tC (.int 52)) tNil))))
            (fun _ _ _ _ _ => pe_ix ix_str (pv 2) (pe_call GH hr rfl mH FH.kp bH .nil pass0 (pa_cons (pv 0) (pa_cons pe_int pa_nil))) (fun _ _ => rfl))))))
        (pss_cons (ps_if (PW.pt (pw_and (pt_cmpR (op_neD hr.units) (pv 3) (pe_lst pa_nil) (nomark _)) (pw_and1 (pt_cmpR op_lt (pv 6) pe_int (nomark _)))))
            (pss_cons (ps_set (i := 9) scCN.nd rfl (.inl rfl) (pe_ix ix_list (pv 3) (pe_un un_neg pe_int) (fun _ _ => rfl)))
            (pss_one (ps_set (i := 8) scCN.nd rfl (.inl rfl) (pe_ix ix_list (pe_lst (pa_cons (pe_op op_add_str (pe_slice sl_str (pv 9) po_none (po_some pe_int)) (pv 7)) (pa_cons (pe_op op_add_str (pe_slice sl_str (pv 9) po_none (po_some (pe_un un_neg pe_int))) (pv 7)) (pa_cons (pe_op op_add_str (pe_op op_add_str (pe_slice sl_str (pv 9) po_none (po_some pe_int)) (pv 7)) (pe_slice sl_str (pv 9) (po_some pe_int) po_none)) pa_nil)))) (pv 6) (fun _ _ => rfl))))) pss_nil)
        (pss_cons (ps_if (PW.pt (pw_or (pt_cmpR op_in_seq (pv 8) (pv 3) (by rfl)) (pw_or1 (pt_cmpR op_eq (pv 8) pe_str (nomark _)))))
            (pss_cons (ps_setLc (i := 10) (own := [("turn", 11)]) (g := gName 11) rfl scCN.nd rfl rfl rfl (pi_range1 (by rfl) T.range (pa_cons pe_int pa_nil)) (blkOk_by (N := nsN) (sc := defScope sCN) (by decide +kernel))
              (fun _ _ _ _ _ => pg_name (i := 11) scCN.nd rfl (.inl rfl)) (fun _ _ _ _ _ => pts_nil) (fun _ _ _ _ _ => pe_op op_add_str (pe_ix ix_str (pv 2) (pe_op op_add (pe_op op_mul pe_int (pv 4)) (pv 11)) (fun _ _ => rfl)) pe_str))
            (pss_one (ps_set (i := 8) scCN.nd rfl (.inl rfl) (pe_ix ix_list (pe_lc (own := [("mate", 12)]) (g := gName 12) (tt := tTest (tOp (rIn K true) (tVar 12) (tVar 3))) rfl scCN.nd (pi_list (pv 10)) (blkOk_by (N := nsN) (sc := defScope sCN) (by decide +kernel))
              (fun _ _ _ _ _ => pg_name (i := 12) scCN.nd rfl (.inl rfl)) (fun _ _ _ _ _ => pts_one (pt_cmpR op_notIn_seq (pv 12) (pv 3) (by rfl))) (fun _ _ _ _ _ => pv 12)) pe_int (fun _ _ => rfl))))) pss_nil)
        (pss_one (ps_expr (pe_bm PySem.F.plainAttrs_list PySem.F.slot_list_append PySem.F.type_list_append mt_append (pv 3) (pa_cons (pv 8) pa_nil))))))))))
      (pss_one (ps_ret (pe_callTy call_tuple_of (by rfl) T.tuple (by decide +kernel) (pa_cons (pv 3) pa_nil))))), ?_⟩
    have hpH : H p ≠ none := by obtain ⟨_, _, _, h1, _⟩ := hp; rw [h1]; exact fun e => nomatch e
    refine ⟨by show 0 ≤ sizeLine; decide, fun D hD => ⟨by show 2 ≤ sizeLine; decide, fun t ht => ⟨t, _, rfl, tup_at, rfl, _, _, rfl, _, _, rfl, rfl, ?_⟩⟩⟩
    have nDp : D ≠ p := hp.ne hD
    have n0 : NI H p D [] z (upd H D (.lst [])) := ⟨Same.but (Same.new hD), hp.same (Same.new hD), upd_same⟩
    have n1 := n0.new hpH ht (o := .tup [.str letters, .ref D])
    refine ⟨_, rfl, _, rfl, by omega, by omega, ?_⟩
    rw [Int.toNat_natCast]
    refine for_r0 (fun i σ H' => (∃ v4 v5 v6 v7 v8 v9 v10 : Option V, σ = [some (.ref p), some (.int (n : Nat)), some (.str letters), some (.ref D), v4, v5, v6, v7, v8, v9, v10, none, none]) ∧ ∃ ns, NI H p D ns (z + 20 * i) H' ∧ ns.length = i ∧ GoodNs ns) ⟨⟨_, _, _, _, _, _, _, rfl⟩, [], n1.mono (by simp), rfl, ⟨List.nodup_nil, by simp, by simp⟩⟩ ?_ ?_
    · rintro i σ H1 hi ⟨⟨v4, v5, v6, v7, v8, v9, v10, rfl⟩, ns, N1, hl, hG⟩
      refine ⟨_, rfl, p, 7, _, rfl, N1.pit, by omega, by decide, by decide, fun H2 d1 b1 P1 l1 u1 => ?_⟩
      have N2 := N1.hoist nDp b1 P1
      refine ⟨by show 4 ≤ sizeLine; decide, fun L hL => ?_⟩
      have N3 := N2.new hpH hL (o := .lst [.int 0, .int 0, .int 2, .int d1])
      have nL := N2.pit.ne hL
      refine ⟨_, rfl, p, 4, _, rfl, N3.pit, by omega, by decide, by decide, fun H3 d2 b2 P2 l2 u2 => ?_⟩
      have N4 := N3.hoist nDp b2 P2
      have hLL : H3 L = some (.lst [.int 0, .int 0, .int 2, .int d1]) := b2 _ _ nL upd_same
      obtain ⟨sv, hat, s0, s6⟩ : ∃ sv : Int, atI [V.int 0, V.int 0, V.int 2, V.int d1] d2 = some (.int sv) ∧ 0 ≤ sv ∧ sv ≤ 6 := by
        obtain ⟨m, rfl⟩ := Int.eq_ofNat_of_zero_le l2
        match m, u2 with
        | 0, _ => exact ⟨0, atI_nat rfl, by decide, by decide⟩
        | 1, _ => exact ⟨0, atI_nat rfl, by decide, by decide⟩
        | 2, _ => exact ⟨2, atI_nat rfl, by decide, by decide⟩
        | 3, _ => exact ⟨d1, atI_nat rfl, by omega, by omega⟩
        | m + 4, h => omega
      refine ⟨L, _, _, _, rfl, rfl, SqL.of hLL, hat, ?_⟩
      refine ⟨_, rfl, p, 6, _, rfl, N4.pit, by omega, by decide, by decide, fun H4 d3 b3 P3 l3 u3 => ⟨_, _, rfl, ?_⟩⟩
      have N5 := N4.hoist nDp b3 P3
      -- the letter
      refine ⟨_, rfl, _, rfl, p, 52, _, rfl, N5.pit, by omega, by decide, by decide, fun H5 d4 b4 P4 l4 u4 => ?_⟩
      have N6 := N5.hoist nDp b4 P4
      obtain ⟨c, hc, hcl⟩ := let_at l4 u4
      refine ⟨letters, d4, c, rfl, rfl, letters_len, hc, ?_⟩
      -- the first name
      refine ⟨_, rfl, ⟨_, rfl⟩, _, rfl, _, rfl, by omega, by omega, fun C hC => ?_⟩
      have nC := N6.pit.ne hC
      have nCD : C ≠ D := fun e => by rw [e, N6.nam] at hC; cases hC
      refine lc_it (walk_r0 (n := sv.toNat)) (fun j H' => ∃ cs : List Nat, NI H p D ns (z + 20 * i + 4 + j) H' ∧ H' C = some (.lst ((cs.map oneS).map V.str)) ∧ cs.length = j ∧ ∀ c ∈ cs, c ∈ lets) ⟨[], (N6.new hpH hC (o := .lst [])).mono (by simp; omega), upd_same, rfl, by simp⟩ (fun _ _ _ _ => trivial) ?_ ?_
      · rintro j v H6 H7 hj ⟨cs, M1, m2, m3, m4⟩ ⟨rfl, rfl⟩
        refine ⟨rfl, yes_ ⟨_, rfl, _, rfl, p, 52, _, rfl, M1.pit, by omega, by decide, by decide, fun H8 d b P l u => ?_⟩⟩
        have M2 := M1.hoist nDp b P
        obtain ⟨e, he, hel⟩ := let_at l u
        refine ⟨letters, d, e, rfl, rfl, letters_len, he, _, b _ _ nC m2, ?_, cs ++ [e], ?_, ?_, ?_, ?_⟩
        · rw [List.length_map, List.length_map]; exact small1000 (by omega)
        · refine (M2.put (N6.but.free hpH hC nC) nC nCD).mono ?_
          have : ((j + 1 : Nat) : Int) = (j : Int) + 1 := by omega
          omega
        · rw [upd_same, List.map_append, List.map_append]; rfl
        · rw [List.length_append, m3]; rfl
        · intro x hx
          rcases List.mem_append.mp hx with hx | hx
          · exact m4 x hx
          · rw [List.mem_singleton] at hx; rw [hx]; exact hel
      rintro H6 ⟨cs, M1, m2, m3, m4⟩
      have hcs7 : cs.length ≤ 7 := by omega
      refine ⟨"", C, cs.map oneS, rfl, rfl, .inl (SqL.of m2), by rw [sum_one]; have : ("" : Str).length = 0 := rfl; rw [this]; omega, _, _, rfl, rfl, ?_, ?_⟩
      · rw [join_len]
        exact Nat.le_of_lt (small1000 (show 1 + cs.length ≤ 1000 by omega))
      have G0 : GN (({ cps := #[c] } : Str) ++ Txt.join "" (cs.map oneS)) := GN.first hcl m4 hcs7
      generalize ({ cps := #[c] } : Str) ++ Txt.join "" (cs.map oneS) = nm at G0 ⊢
      have M1' : NI H p D ns (z + 20 * i + 11) H6 := M1.mono (by omega)
      have hcc : oneS c = { cps := #[c] } := rfl
      dsimp only [gName]
      refine seq_gen (fun σ' H' => ∃ (v8 : Str) (v9 : Option V), σ' = [some (.ref p), some (.int (n : Nat)), some (.str letters), some (.ref D), some (.int (i : Nat)), some (.int sv), some (.int d3), some (.str (oneS c)), some (.str v8), v9, v10, none, none] ∧ GN v8 ∧ NI H p D ns (z + 20 * i + 11) H') (fun N hN => ?_) ?_
      · refine ⟨_, rfl, Nat.zero_le _, fun e he => ?_⟩
        have M3 := M1'.new hpH he (o := .lst [])
        refine ⟨.list _, .list [], .lst (SqL.of M3.nam) (flats_dp ?_), .lst (SqL.of upd_same) .nil, ?_, shaped_nil, ?_⟩
        · intro v hv
          obtain ⟨u, _, rfl⟩ := List.mem_map.mp hv
          exact .str u
        · refine Lv.shaped (n := 1) (Lv.list (n := 0) ?_) (by decide)
          intro d hd
          obtain ⟨v, hv, rfl⟩ := List.mem_map.mp hd
          obtain ⟨u, hu, rfl⟩ := List.mem_map.mp hv
          exact Lv.str (hG.gn u hu).asc
        · rw [eqv_nil]
          refine ⟨_, rfl, ?_⟩
          have skip : N [some (.ref p), some (.int (n : Nat)), some (.str letters), some (.ref D), some (.int (i : Nat)), some (.int sv), some (.int d3), some (.str (oneS c)), some (.str nm), v9, v10, none, none] (upd H6 e (.lst [])) := hN _ _ ⟨nm, v9, rfl, G0, M3⟩
          cases hns : ns with
          | nil => subst hns; exact skip
          | cons n1 nr =>
            have hne : ns ≠ [] := by rw [hns]; exact fun q => nomatch q
            refine iteT ⟨_, rfl, _, _, rfl, rfl, _, rfl, ?_⟩
            by_cases hd3 : d3 < 3
            · refine iteDT hd3 ?_
              have hlp : 0 < ns.length := List.length_pos_iff.mpr hne
              have ho : ns[ns.length - 1]? = some ns[ns.length - 1] := List.getElem?_eq_getElem (by omega)
              have Go := hG.gn _ (List.mem_of_getElem? ho)
              generalize ns[ns.length - 1] = old at ho Go
              have ho2 : atI (ns.map V.str) (-1) = some (V.str old) := at_last (by simpa using hne) (by rw [List.length_map, List.getElem?_map, ho]; rfl)
              have L8 : old.length ≤ 8 := Go.len'
              have lo := line8 (n := old.length) (by omega)
              have b1 : ∀ lo hi, (cutS old lo hi).length ≤ 8 := fun lo hi => Nat.le_trans (cut_len _ _ _) L8
              have b2 : ∀ lo hi, (cutS old lo hi).length + ({ cps := #[c] } : Str).length ≤ sizeLine := fun lo hi => line8 (by have := b1 lo hi; have e : ({ cps := #[c] } : Str).length = 1 := rfl; omega)
              have b3 : ((cutS old none (some 1)) ++ ({ cps := #[c] } : Str)).length + (cutS old (some 2) none).length ≤ sizeLine := line8 (by have := b1 none (some 1); have := b1 (some 2) none; have e : ({ cps := #[c] } : Str).length = 1 := rfl; rw [app_len]; omega)
              refine ⟨_, rfl, _, rfl, D, _, _, _, rfl, rfl, SqL.of M3.nam, ho2, ?_⟩
              refine ⟨_, rfl, _, rfl, _, rfl, lo, _, rfl, _, _, rfl, rfl, b2 _ _, ?_⟩
              refine ⟨_, rfl, _, rfl, _, rfl, _, rfl, lo, _, rfl, _, _, rfl, rfl, b2 _ _, ?_⟩
              refine ⟨_, rfl, _, rfl, _, rfl, lo, _, rfl, _, _, rfl, rfl, b2 _ _, _, rfl, _, rfl, _, rfl, lo, _, _, rfl, rfl, b3, ?_⟩
              refine ⟨by show 3 ≤ sizeLine; decide, fun L3 hL3 => ?_⟩
              have M5 := M3.new hpH hL3 (o := .lst [.str (cutS old none (some 7) ++ { cps := #[c] }), .str (cutS old none (some (-1)) ++ { cps := #[c] }), .str ((cutS old none (some 1) ++ { cps := #[c] }) ++ cutS old (some 2) none)])
              have g1 : GN (cutS old none (some 7) ++ { cps := #[c] }) := Go.cut hcl (by
                have : HT.sIx old.length old.length (some 7) = min 7 old.length := HT.sIx_nat _ _ 7
                rw [this]; omega)
              have g2 : GN (cutS old none (some (-1)) ++ { cps := #[c] }) := Go.cut hcl (by
                have : HT.sIx old.length old.length (some (-1)) = ((-1 : Int) + (old.length : Int)).toNat := rfl
                rw [this]; omega)
              have g3 : GN ((cutS old none (some 1) ++ { cps := #[c] }) ++ cutS old (some 2) none) := Go.mid hcl
              obtain ⟨m, rfl⟩ := Int.eq_ofNat_of_zero_le l3
              match m, hd3 with
              | 0, _ => exact ⟨_, rfl, L3, _, _, _, rfl, rfl, SqL.of upd_same, atI_nat rfl, hN _ _ ⟨_, _, rfl, g1, M5⟩⟩
              | 1, _ => exact ⟨_, rfl, L3, _, _, _, rfl, rfl, SqL.of upd_same, atI_nat rfl, hN _ _ ⟨_, _, rfl, g2, M5⟩⟩
              | 2, _ => exact ⟨_, rfl, L3, _, _, _, rfl, rfl, SqL.of upd_same, atI_nat rfl, hN _ _ ⟨_, _, rfl, g3, M5⟩⟩
              | m + 3, h => exact absurd h (by omega)
            · exact iteDF hd3 skip
      · rintro σ' H7 ⟨nm, v9, rfl, G1, M4⟩
        refine seq_gen (fun σ' H' => ∃ (v8 : Str) (v10 : Option V), σ' = [some (.ref p), some (.int (n : Nat)), some (.str letters), some (.ref D), some (.int (i : Nat)), some (.int sv), some (.int d3), some (.str (oneS c)), some (.str v8), v9, v10, none, none] ∧ GN v8 ∧ v8 ∉ ns ∧ v8 ≠ "zero" ∧ NI H p D ns (z + 20 * i + 11) H') (fun N hN => ?_) ?_
        · refine ⟨_, rfl, _, rfl, D, _, rfl, .inl (SqL.of M4.nam), rfl, strs_flat _, _, rfl, ?_⟩
          rw [if_neg Bool.false_ne_true, inV_str]
          by_cases e1 : nm ∈ ns
          · refine iteDT e1 (iteT ?_)
            have hi4 : i ≤ 5 := by omega
            obtain ⟨wnd, wlen⟩ := spare_nd hi4
            refine ⟨_, rfl, by decide, by decide, fun C hC => ?_⟩
            have hHC : H C = none := M4.but.free hpH hC (M4.pit.ne hC)
            have nCp : C ≠ p := M4.pit.ne hC
            have nCD2 : C ≠ D := fun e => by rw [e, M4.nam] at hC; cases hC
            refine lc_it (walk_r0 (n := (7 : Int).toNat)) (fun j H' => NI H p D ns (z + 20 * i + 11) H' ∧ H' C = some (.lst (((((lets.drop (7 * i)).take j).map fun c => oneS c ++ ("z" : Str))).map V.str))) ⟨M4.new hpH hC, upd_same⟩ (fun _ _ _ _ => trivial) ?_ ?_
            · rintro j v H8 H9 hj ⟨R1, R2⟩ ⟨rfl, rfl⟩
              have hj7 : j < 7 := hj
              have hx : 7 * i + j < lets.length := by rw [lets_len]; omega
              have hg : lets[7 * i + j]? = some lets[7 * i + j] := List.getElem?_eq_getElem hx
              generalize lets[7 * i + j] = e at hg
              have eq1 : (7 : Int) * (i : Nat) + (j : Nat) = ((7 * i + j : Nat) : Int) := by omega
              have hat : atI letters.cps.toList ((7 : Int) * (i : Nat) + (j : Nat)) = some e := by rw [eq1]; exact atI_nat hg
              have hd : (lets.drop (7 * i))[j]? = some e := by rw [List.getElem?_drop]; exact hg
              refine ⟨rfl, yes_ ⟨_, rfl, _, rfl, _, _, rfl, rfl, .inl ⟨by decide, by decide⟩, _, rfl, _, _, rfl, rfl, letters, _, e, rfl, rfl, letters_len, hat, _, _, rfl, rfl, line8 (show 1 + 1 ≤ 100 by decide), _, R2, ?_, R1.put hHC nCp nCD2, ?_⟩⟩
              · rw [List.length_map, List.length_map, List.length_take]
                exact Nat.lt_of_le_of_lt (Nat.min_le_left _ _) (small1000 (by omega))
              · rw [upd_same, take_snoc hd, List.map_append, List.map_append]; rfl
            · rintro H8 ⟨R1, R2⟩
              have R2 : H8 C = some (.lst ((((lets.drop (7 * i)).take 7).map fun c => oneS c ++ ("z" : Str)).map V.str)) := R2
              have wgn : ∀ z ∈ (((lets.drop (7 * i)).take 7).map fun c => oneS c ++ ("z" : Str)), GN z ∧ z ≠ "zero" := by
                intro z hz
                obtain ⟨c, hc, rfl⟩ := List.mem_map.mp hz
                exact ⟨GN.two (List.mem_of_mem_drop (List.mem_of_mem_take hc)), two_ne_zero⟩
              generalize (((lets.drop (7 * i)).take 7).map fun c => oneS c ++ ("z" : Str)) = ws at wnd wlen wgn R2
              obtain ⟨z1, r1, w1, w2, w3⟩ := spare_one wnd (show ns.length < ws.length by omega)
              refine ⟨_, rfl, C, rfl, ⟨_, SqL.of R2⟩, fun C2 hC2 => ?_⟩
              have hHC2 : H C2 = none := R1.but.free hpH hC2 (R1.pit.ne hC2)
              have nC2p : C2 ≠ p := R1.pit.ne hC2
              have nC2D : C2 ≠ D := fun e => by rw [e, R1.nam] at hC2; cases hC2
              have nC2C : C ≠ C2 := fun e => by rw [← e, R2] at hC2; cases hC2
              refine lc_it (walk_list (K := K) (a := C) (xs := ws.map V.str)) (fun j H' => NI H p D ns (z + 20 * i + 11) H' ∧ H' C = some (.lst (ws.map V.str)) ∧ H' C2 = some (.lst (((ws.take j).filter fun z => !decide (z ∈ ns)).map V.str))) ⟨R1.new hpH hC2, (upd_ne nC2C).trans R2, upd_same⟩ (fun i H' _ u => SqL.of u.2.1) ?_ ?_
              · rintro j v H9 H10 hj ⟨T1, T2, T3⟩ ⟨rfl, hv⟩
                obtain ⟨u, hu, rfl⟩ := get_map hv
                have htk := take_snoc hu
                rw [List.length_map] at hj
                refine ⟨rfl, _, rfl, _, rfl, D, _, rfl, .inl (SqL.of T1.nam), rfl, strs_flat _, _, rfl, ?_⟩
                rw [if_pos rfl, inV_str]
                by_cases hin : u ∈ ns
                · refine iteNS hin ⟨T1, T2, ?_⟩
                  rw [htk, List.filter_append, List.filter_cons_of_neg (by simp [hin]), List.filter_nil, List.append_nil]
                  exact T3
                · refine iteNF hin ⟨_, rfl, _, T3, ?_, T1.put hHC2 nC2p nC2D, (upd_ne nC2C).trans T2, ?_⟩
                  · rw [List.length_map]
                    have a1 := List.length_filter_le (fun z => !decide (z ∈ ns)) (ws.take j)
                    have a2 : (ws.take j).length ≤ j := by rw [List.length_take]; exact Nat.min_le_left _ _
                    exact small1000 (by omega)
                  · rw [upd_same, htk, List.filter_append, List.filter_cons_of_pos (by simp [hin]), List.filter_nil, List.map_append]
                    rfl
              · rintro H9 ⟨T1, T2, T3⟩
                have hft : ws.take (ws.map V.str).length = ws := by rw [List.length_map, List.take_length]
                rw [hft, w1] at T3
                exact ⟨C2, _, _, _, rfl, rfl, SqL.of T3, atI_nat (j := 0) rfl, hN _ _ ⟨_, _, rfl, (wgn _ w2).1, w3, (wgn _ w2).2, T1⟩⟩
          · refine iteDF e1 ⟨_, rfl, rfl, _, rfl, ?_⟩
            by_cases e2 : nm = "zero"
            · refine iteDT (by rw [e2]) ?_
              have hi4 : i ≤ 5 := by omega
              obtain ⟨wnd, wlen⟩ := spare_nd hi4
              refine ⟨_, rfl, by decide, by decide, fun C hC => ?_⟩
              have hHC : H C = none := M4.but.free hpH hC (M4.pit.ne hC)
              have nCp : C ≠ p := M4.pit.ne hC
              have nCD2 : C ≠ D := fun e => by rw [e, M4.nam] at hC; cases hC
              refine lc_it (walk_r0 (n := (7 : Int).toNat)) (fun j H' => NI H p D ns (z + 20 * i + 11) H' ∧ H' C = some (.lst (((((lets.drop (7 * i)).take j).map fun c => oneS c ++ ("z" : Str))).map V.str))) ⟨M4.new hpH hC, upd_same⟩ (fun _ _ _ _ => trivial) ?_ ?_
              · rintro j v H8 H9 hj ⟨R1, R2⟩ ⟨rfl, rfl⟩
                have hj7 : j < 7 := hj
                have hx : 7 * i + j < lets.length := by rw [lets_len]; omega
                have hg : lets[7 * i + j]? = some lets[7 * i + j] := List.getElem?_eq_getElem hx
                generalize lets[7 * i + j] = e at hg
                have eq1 : (7 : Int) * (i : Nat) + (j : Nat) = ((7 * i + j : Nat) : Int) := by omega
                have hat : atI letters.cps.toList ((7 : Int) * (i : Nat) + (j : Nat)) = some e := by rw [eq1]; exact atI_nat hg
                have hd : (lets.drop (7 * i))[j]? = some e := by rw [List.getElem?_drop]; exact hg
                refine ⟨rfl, yes_ ⟨_, rfl, _, rfl, _, _, rfl, rfl, .inl ⟨by decide, by decide⟩, _, rfl, _, _, rfl, rfl, letters, _, e, rfl, rfl, letters_len, hat, _, _, rfl, rfl, line8 (show 1 + 1 ≤ 100 by decide), _, R2, ?_, R1.put hHC nCp nCD2, ?_⟩⟩
                · rw [List.length_map, List.length_map, List.length_take]
                  exact Nat.lt_of_le_of_lt (Nat.min_le_left _ _) (small1000 (by omega))
                · rw [upd_same, take_snoc hd, List.map_append, List.map_append]; rfl
              · rintro H8 ⟨R1, R2⟩
                have R2 : H8 C = some (.lst ((((lets.drop (7 * i)).take 7).map fun c => oneS c ++ ("z" : Str)).map V.str)) := R2
                have wgn : ∀ z ∈ (((lets.drop (7 * i)).take 7).map fun c => oneS c ++ ("z" : Str)), GN z ∧ z ≠ "zero" := by
                  intro z hz
                  obtain ⟨c, hc, rfl⟩ := List.mem_map.mp hz
                  exact ⟨GN.two (List.mem_of_mem_drop (List.mem_of_mem_take hc)), two_ne_zero⟩
                generalize (((lets.drop (7 * i)).take 7).map fun c => oneS c ++ ("z" : Str)) = ws at wnd wlen wgn R2
                obtain ⟨z1, r1, w1, w2, w3⟩ := spare_one wnd (show ns.length < ws.length by omega)
                refine ⟨_, rfl, C, rfl, ⟨_, SqL.of R2⟩, fun C2 hC2 => ?_⟩
                have hHC2 : H C2 = none := R1.but.free hpH hC2 (R1.pit.ne hC2)
                have nC2p : C2 ≠ p := R1.pit.ne hC2
                have nC2D : C2 ≠ D := fun e => by rw [e, R1.nam] at hC2; cases hC2
                have nC2C : C ≠ C2 := fun e => by rw [← e, R2] at hC2; cases hC2
                refine lc_it (walk_list (K := K) (a := C) (xs := ws.map V.str)) (fun j H' => NI H p D ns (z + 20 * i + 11) H' ∧ H' C = some (.lst (ws.map V.str)) ∧ H' C2 = some (.lst (((ws.take j).filter fun z => !decide (z ∈ ns)).map V.str))) ⟨R1.new hpH hC2, (upd_ne nC2C).trans R2, upd_same⟩ (fun i H' _ u => SqL.of u.2.1) ?_ ?_
                · rintro j v H9 H10 hj ⟨T1, T2, T3⟩ ⟨rfl, hv⟩
                  obtain ⟨u, hu, rfl⟩ := get_map hv
                  have htk := take_snoc hu
                  rw [List.length_map] at hj
                  refine ⟨rfl, _, rfl, _, rfl, D, _, rfl, .inl (SqL.of T1.nam), rfl, strs_flat _, _, rfl, ?_⟩
                  rw [if_pos rfl, inV_str]
                  by_cases hin : u ∈ ns
                  · refine iteNS hin ⟨T1, T2, ?_⟩
                    rw [htk, List.filter_append, List.filter_cons_of_neg (by simp [hin]), List.filter_nil, List.append_nil]
                    exact T3
                  · refine iteNF hin ⟨_, rfl, _, T3, ?_, T1.put hHC2 nC2p nC2D, (upd_ne nC2C).trans T2, ?_⟩
                    · rw [List.length_map]
                      have a1 := List.length_filter_le (fun z => !decide (z ∈ ns)) (ws.take j)
                      have a2 : (ws.take j).length ≤ j := by rw [List.length_take]; exact Nat.min_le_left _ _
                      exact small1000 (by omega)
                    · rw [upd_same, htk, List.filter_append, List.filter_cons_of_pos (by simp [hin]), List.filter_nil, List.map_append]
                      rfl
                · rintro H9 ⟨T1, T2, T3⟩
                  have hft : ws.take (ws.map V.str).length = ws := by rw [List.length_map, List.take_length]
                  rw [hft, w1] at T3
                  exact ⟨C2, _, _, _, rfl, rfl, SqL.of T3, atI_nat (j := 0) rfl, hN _ _ ⟨_, _, rfl, (wgn _ w2).1, w3, (wgn _ w2).2, T1⟩⟩
            · exact iteDF (fun q => e2 (V.str.inj q)) (hN _ _ ⟨nm, v10, rfl, G1, e1, e2, M4⟩)
        · rintro σ' H8 ⟨v8, v10, rfl, G2, h1, h2, M5⟩
          have hDp : D ≠ p := nDp
          refine ⟨_, rfl, .inl ⟨rfl, _, SqL.of M5.nam⟩, _, rfl, D, _, _, rfl, rfl, M5.nam, by rw [List.length_map]; exact small1000 (by omega), ⟨_, _, _, _, _, _, _, rfl⟩, ns ++ [v8], ⟨M5.but.new hD, ?_, ?_⟩, ?_, hG.snoc G2 h1 h2⟩
          · obtain ⟨x, y, c', q1, q2⟩ := M5.pit.mono (z' := z + 20 * ((i + 1 : Nat) : Int)) (by have : ((i + 1 : Nat) : Int) = (i : Int) + 1 := (by omega); omega)
            exact ⟨x, y, c', by rw [upd_ne (Ne.symm hDp)]; exact q1, q2⟩
          · rw [upd_same, List.map_append]; rfl
          · rw [List.length_append, hl]; rfl
    · rintro σ H1 ⟨⟨v4, v5, v6, v7, v8, v9, v10, rfl⟩, ns, N1, hl, hG⟩
      refine ⟨_, rfl, D, _, rfl, .inl ⟨SqL.of N1.nam, fun l hl2 => ?_⟩⟩
      have N2 := N1.new hpH hl2 (o := .tup (ns.map V.str))
      exact k _ l ns N2.but N2.pit tup_at hl hG
end
end K1
end
section
set_option maxRecDepth 100000
set_option maxHeartbeats 4000000
namespace K1
open PySem L2 K01
theorem take_fm {α : Type} (L : List α) : ∀ k, (List.range k).filterMap (fun i => L[i]?) = L.take k
  | 0 => by simp
  | k + 1 => by
    rw [List.range_succ, List.filterMap_append, take_fm L k, List.take_succ]
    congr 1
theorem fm_congr {α β : Type} {f g : α → Option β} : ∀ {l : List α}, (∀ k ∈ l, f k = g k) → l.filterMap f = l.filterMap g
  | [], _ => rfl
  | a :: l, h => by
    rw [List.filterMap_cons, List.filterMap_cons, h a List.mem_cons_self, fm_congr fun k hk => h k (List.mem_cons_of_mem _ hk)]
theorem rev_pick (xs : Array Value) : ((List.range xs.size).filterMap fun (k : Nat) => xs[(((xs.size : Nat) : Int) - 1 + (k : Int) * (-1)).toNat]?).toArray = xs.toList.reverse.toArray := by
  congr 1
  have e : (List.range xs.size).filterMap (fun (k : Nat) => xs[(((xs.size : Nat) : Int) - 1 + (k : Int) * (-1)).toNat]?) = (List.range xs.size).filterMap fun k => xs.toList.reverse[k]? := by
    refine fm_congr fun k hk => ?_
    have hk' := List.mem_range.mp hk
    rw [List.getElem?_reverse (by simpa using hk')]
    have : (((xs.size : Nat) : Int) - 1 + (k : Int) * (-1)).toNat = xs.toList.length - 1 - k := by
      rw [Array.length_toList]; omega
    rw [this, Array.getElem?_toList]
  rw [e, take_fm, ← Array.length_toList, ← List.length_reverse, List.take_length]
end K1
namespace PySem
open PyProof.Rows
theorem k1_sliceRev {prog : Program} {w : World} {A : Around} {E : Value → Shared → Prop} {s : Shared} {sl : Addr} {vk : Value} {n : Nat} {Q : Int × Int × Nat → Shared → Prop}
    (hs : s.heap.IsSliceOf sl .none .none vk) (pk : IsPart vk (some (-1))) (h : Q ((n : Int) - 1, -1, n) s) : wpAny (model prog w) A (Builtin.Slice.sliceApplied (Value.ref sl) (pure (n : Int))) Q E s := by
  obtain ⟨os, hos, hcs, hds⟩ := hs
  unfold Builtin.Slice.sliceApplied Builtin.Slice.sliceFields
  refine wpAny_bind (wpAny_bind (wpAny_field hos hds rfl (wpAny_bind (wpAny_field hos hds rfl (wpAny_bind (wpAny_field hos hds rfl (wpAny_pure ?_)))))))
  refine wpAny_bind (HT.slicePart_ pk ?_)
  show wpAny _ _ (if _ then _ else _) _ _ _
  rw [if_neg (by decide)]
  refine wpAny_bind (slicePart_none (wpAny_bind (slicePart_none (wpAny_bind (wpAny_pure ?_)))))
  have e1 : Builtin.Slice.sliceAdjust none none (-1) (n : Int) = ((n : Int) - 1, -1) := rfl
  have e2 : Builtin.Slice.slicePlaces ((n : Int) - 1) (-1) (-1) = n := by
    unfold Builtin.Slice.slicePlaces
    rw [if_neg (by decide)]
    split
    · rw [show (- -1 : Int) = 1 from rfl, Int.ediv_one]; omega
    · omega
  show wpAny _ _ (match Builtin.Slice.sliceAdjust none none (-1) (n : Int) with | (lo, hi) => pure (lo, (-1 : Int), Builtin.Slice.slicePlaces lo hi (-1))) _ _ _
  rw [e1]
  show wpAny _ _ (pure ((n : Int) - 1, (-1 : Int), Builtin.Slice.slicePlaces ((n : Int) - 1) (-1) (-1))) _ _ _
  rw [e2]
  exact wpAny_pure h
theorem k1_tupleRev {prog : Program} {w : World} {A : Around} {E : Value → Shared → Prop} {s : Shared} {t sl : Addr} {items : Array Value} {vk : Value} {Q : Value → Shared → Prop}
    (ht : IsTup s.heap t items) (hs : s.heap.IsSliceOf sl .none .none vk) (pk : IsPart vk (some (-1)))
    (h : Q (Value.ref s.heap.objs.size) { s with heap := s.heap.push { cls := Value.type "tuple", data := Data.seq items.toList.reverse.toArray } }) (hz : items.size ≤ sizeLine) :
    wpAny (model prog w) A (getItem (Value.ref t) (Value.ref sl)) Q E s := by
  have hs' := hs
  obtain ⟨os, hos, hcs, hds⟩ := hs'
  have hTs : s.TypeIs (Value.ref sl) "slice" := ⟨os, hos, hcs⟩
  refine wpAny_holding (wpAny_bind (wpAny_sequenceKey (IsTup.typeIs ht) (by decide) (wpAny_bind (wpAny_callSpecial?_slot (IsTup.typeIs ht) slot_tuple_getitem
    (wpAny_call_entry slot_tuple_getitem (IsTup.typeIs ht) entry_tuple_getitem ?_ (args_tuple_getitem (Value.ref t) (Value.ref sl)))))))
  refine wpAny_bind (show wpAny _ _ (pure (Value.ref t, [Value.ref sl])) _ _ _ from wpAny_pure ?_)
  refine wpAny_bind (tupleItemsOf_ ht (wpAny_bind (wpAny_typeOf hTs ?_)))
  rw [if_pos (by decide)]
  refine wpAny_bind (k1_sliceRev hs pk ?_)
  have hno : (((items.size : Nat) : Int) - 1 == 0 && (-1 : Int) == 1 && items.size == items.size) = false := by simp
  show wpAny _ _ (if _ then _ else _) _ _ _
  rw [if_neg (by rw [hno]; exact Bool.false_ne_true)]
  rw [K1.rev_pick]
  refine wpAny_bind (wpAny_newObj_type (wpAny_pure ⟨_, rfl, wpAny_pure h⟩) ?_)
  show _ ≤ sizeLine
  simpa using hz
end PySem
namespace K1
open PySem L2 K01
def tRev (K : PySem.W.Frag) (te : TE) (ts : TO) : TE := fun σ H Q => te σ H fun x H1 => ts σ H1 fun k H2 => k = some (-1) ∧ ∃ a xs, x = .ref a ∧ SqT K H2 a xs ∧ ∀ p, H2 p = none → Q (.ref p) (L2.upd H2 p (.tup xs.reverse))
theorem pe_rev {X : Cx} {e st : Expr} {te : TE} {ts : TO} {pos p2 : Pos} (he : PE X e te) (hs : PO X (some st) ts) : PE X (e.Subscript (Expr.Slice none none (some st) p2) pos) (tRev X.K te ts) where
  run := by
    intro pins s σ H Q I h
    refine PyProof.Rows.Subscript_ (thn (he.run pins s σ H _ I h) ?_)
    rintro v s1 ⟨x, H1, I1, r1, q1⟩
    refine wpAny_Slice ?_
    rw [evalPart_none]
    refine wpAny_pure (wpAny_pure ?_)
    refine thn (hs.run pins s1 σ H1 _ I1 q1) ?_
    rintro vk s2 ⟨k, H2, I2, pk, rfl, a, xs, rfl, hx, q⟩
    have I4 : L2.Inv X pins σ H2 { s2 with heap := s2.heap.push { cls := Value.type "slice", data := Data.fields #[.none, .none, vk] } } := Inv.kept I2 fun b ob q => Heap.get?_push_of_some { cls := Value.type "slice", data := Data.fields #[.none, .none, vk] } q
    cases r1
    obtain ⟨its, rv, ht, hz⟩ := I4.tuple hx
    have hlen : its.toArray.size = xs.length := by rw [List.size_toArray]; exact (Vals.length rv).symm
    refine PyProof.Rows.tail_any (PyProof.Rows.IsTup.typeIs ht) PyProof.Rows.slot_tuple_getitem.lookup ?_ rfl
    refine k1_tupleRev ht (Heap.IsSliceOf.new _ _ _ _) pk ?_ (by rw [hlen]; exact hz)
    refine ⟨.ref _, _, Inv.laid I4 (fun b ob q => Heap.get?_push_of_some _ q) (Nat.le_refl _) (o := .tup xs.reverse) ⟨by rw [List.length_reverse]; exact hz, _, Vals.reverse rv, PyProof.Rows.IsTup.new _ _⟩, rfl, q _ (HOk.fresh I4.hok (Nat.le_refl _))⟩
end K1
end
section
set_option maxRecDepth 100000
set_option maxHeartbeats 4000000
namespace K1
open PySem L2 K01
theorem PitAt.tup {K : PySem.W.Frag} {H H' : Hp} {p a : Addr} {z : Int} {xs : List V} (hp : PitAt H p z) (e : But p H H') (h : SqT K H a xs) : SqT K H' a xs := by
  obtain ⟨x, y, c, hl, _⟩ := hp
  rcases h with (q | ⟨o, q⟩) | q
  · exact .inl (.inl (e _ _ (fun z => by rw [z, hl] at q; cases q) q))
  · exact .inl (.inr ⟨o, e _ _ (fun z => by rw [z, hl] at q; cases q) q⟩)
  · exact .inr q
theorem PitAt.tups {H H' : Hp} {p : Addr} {z : Int} {ps : List Addr} {xss : List (List V)} (hp : PitAt H p z) (e : But p H H') (h : TupsAt H ps xss) : TupsAt H' ps xss :=
  ⟨h.1, fun i q r q1 q2 => by
    obtain ⟨x, y, c, hl, _⟩ := hp
    have := h.2 i q r q1 q2
    exact e _ _ (fun z => by rw [z, hl] at this; cases this) this⟩
theorem PitAt.tt {K : PySem.W.Frag} {H H' : Hp} {p a : Addr} {z : Int} {xss : List (List V)} (hp : PitAt H p z) (e : But p H H') (h : TTAt K H a xss) : TTAt K H' a xss := by
  obtain ⟨ps, h1, h2⟩ := h
  exact ⟨ps, hp.tup e h1, hp.tups e h2⟩
section
variable {P : Program} {w : World} {K : PySem.W.Frag} {mg : Str → Option Value} {base : Heap}
abbrev sDF : Stmt := top 60
/-- the fact speaks of two names -/
structure FOk (ms : List Str) (f : Fact) : Prop where
  l : f.1 ∈ nodes ms
  r : f.2.1 ∈ nodes ms
  ne : f.1 ≠ f.2.1
  sm : f.2.2.natAbs ≤ 10 ^ 13
def spDF (K : PySem.W.Frag) : Sp := fun vs H Q _ => ∃ (p a : Addr) (ms : List Str) (far z : Int), vs = [.ref p, .ref a, .int far] ∧ PitAt H p z ∧ z ≤ 900000 ∧ strsT K H a ms ∧ 1 ≤ ms.length ∧ ms.length ≤ 100 ∧ (nodes ms).Nodup ∧ 0 ≤ far ∧ far ≤ 10 ^ 12 ∧
  ∀ H' q f, But p H H' → PitAt H' p (z + 3) → H' q = some (.tup (factV f)) → FOk ms f → Q (.ref q) H'
theorem scDF : FnScope ["pit", "marks_here", "far", "nodes", "k", "step_here", "sum_here"] ["pit", "marks_here", "far"] (defScope sDF) := ⟨rfl, rfl, rfl, by decide +kernel, rfl, by decide +kernel, by decide +kernel⟩
theorem ok_df {f fh : Addr} {fd fdh : FuncData} (F : Fun K "_law_drawn_fact" "_law_drawn_fact" sDF f fd) (T : Bi mg)
    (FH : Fun K "_law_hoist" "_law_hoist" sHoist fh fdh) (bH : Binds K fdh ["pit", "below"] []) (mH : mg "_law_hoist" = some (.ref fh)) :
    FnOk P w K mg base CX0 2 f fd ["pit", "marks_here", "far"] (spDF K) := by
  have GH : FnOk P w K mg base CX0 1 fh fdh ["pit", "below"] (spHoist K) := ok_hoist FH T
  refine F.ok scDF (fun vs H Q E h => ?_) (fun cdv A outer s H vs Q E hr h => ?_)
  · obtain ⟨_, _, _, _, _, rfl, _⟩ := h
    rfl
  · obtain ⟨p, a, ms, far, z, rfl, hp, hz, hm, hl1, hl, hN, hf0, hf1, k⟩ := h
    refine ⟨_, pss_cons (ps_set (i := 3) scDF.nd rfl (.inl rfl) (pe_op op_catT (pe_tup (pa_cons pe_str pa_nil)) (pv 1)))
      (pss_cons (ps_par (i := 4) (j := 5) rfl scDF.nd rfl rfl (by decide) rfl rfl (pa_cons (pe_call GH hr rfl mH FH.kp bH .nil pass0 (pa_cons (pv 0) (pa_cons (pe_callB call_len_seq (by rfl) T.len PySem.boot_len (pa_cons (pv 3) pa_nil)) pa_nil)))
          (pa_cons (pe_op op_add pe_int (pe_call GH hr rfl mH FH.kp bH .nil pass0 (pa_cons (pv 0) (pa_cons (pe_op op_sub (pe_callB call_len_seq (by rfl) T.len PySem.boot_len (pa_cons (pv 3) pa_nil)) pe_int) pa_nil)))) pa_nil)) rfl)
      (pss_cons (ps_set (i := 6) scDF.nd rfl (.inl rfl) (pe_op op_sub (pe_call GH hr rfl mH FH.kp bH .nil pass0 (pa_cons (pv 0) (pa_cons (pe_op op_add (pe_op op_mul pe_int (pv 2)) pe_int) pa_nil))) (pv 2)))
      (pss_one (ps_ret (pe_tup (pa_cons (pe_ix ix_tup (pv 3) (pv 4) (fun _ _ => rfl)) (pa_cons (pe_ix ix_tup (pv 3) (pe_op op_modN (pe_op op_add (pv 4) (pv 5)) (pe_callB call_len_seq (by rfl) T.len PySem.boot_len (pa_cons (pv 3) pa_nil))) (fun _ _ => rfl)) (pa_cons (pv 6) pa_nil)))))))), ?_⟩
    refine ⟨by show 1 ≤ sizeLine; decide, fun t ht => ?_⟩
    have s1 : Same H (upd H t (.tup [.str "zero"])) := Same.new ht
    refine ⟨_, rfl, catT_it tup_at (Same.tup s1 hm) (by simp) (by rw [List.length_map]; exact Nat.le_of_lt (Nat.lt_of_le_of_lt (show 1 + ms.length ≤ 1001 by omega) (by decide))) fun u H' s2 hu => ?_⟩
    have sH := s1.trans s2
    replace hu : SqT K H' u ((nodes ms).map V.str) := hu
    have nl : (((nodes ms).map V.str).length : Int) = (ms.length : Int) + 1 := by rw [List.length_map, List.length_cons]; omega
    have P0 := hp.same sH
    refine ⟨_, rfl, _, rfl, u, _, rfl, .inr hu, p, _, z, rfl, P0, by omega, by omega, by omega, fun H1 d1 b1 P1 l1 u1 => ?_⟩
    have hu1 := P0.tup b1 hu
    refine ⟨_, rfl, _, rfl, u, _, rfl, .inr hu1, _, _, rfl, rfl, p, _, _, rfl, P1, by omega, by omega, by omega, fun H2 d2 b2 P2 l2 u2 => ⟨_, _, rfl, rfl, _, _, rfl, ?_⟩⟩
    have hu2 := P1.tup b2 hu1
    refine ⟨_, rfl, _, rfl, _, _, rfl, rfl, .inl ⟨by decide, by decide⟩, _, _, rfl, rfl, p, _, _, rfl, P2, by omega, by omega, by omega, fun H3 d3 b3 P3 l3 u3 => ⟨_, rfl, _, _, rfl, rfl, ?_⟩⟩
    have hu3 := P2.tup b3 hu2
    obtain ⟨n1, rfl⟩ := Int.eq_ofNat_of_zero_le l1
    obtain ⟨n2, rfl⟩ := Int.eq_ofNat_of_zero_le l2
    rw [nl] at u1 u2
    have h1 : n1 < (nodes ms).length := by rw [List.length_cons]; omega
    have hj : (n1 + (1 + n2)) % (ms.length + 1) < (nodes ms).length := by rw [List.length_cons]; exact Nat.mod_lt _ (by omega)
    have g1 := List.getElem?_eq_getElem h1
    have g2 := List.getElem?_eq_getElem hj
    have hne : (nodes ms)[n1] ≠ (nodes ms)[(n1 + (1 + n2)) % (ms.length + 1)] := by
      intro e
      have := nodup_get hN (i := n1) (j := (n1 + (1 + n2)) % (ms.length + 1)) g1 (by rw [g2, e])
      by_cases hlt : n1 + (1 + n2) < ms.length + 1
      · rw [Nat.mod_eq_of_lt hlt] at this; omega
      · rw [Nat.mod_eq_sub_mod (by omega), Nat.mod_eq_of_lt (by omega)] at this; omega
    generalize (nodes ms)[n1] = x at g1 hne
    generalize (nodes ms)[(n1 + (1 + n2)) % (ms.length + 1)] = y at g2 hne
    have hfm : ((n1 : Int) + (1 + (n2 : Int))).fmod ((((nodes ms).map V.str).length : Nat) : Int) = (((n1 + (1 + n2)) % (ms.length + 1) : Nat) : Int) := by
      rw [nl, Int.fmod_eq_emod_of_nonneg _ (by omega)]
      rw [Int.natCast_emod]
      congr 1
    have a1 : atI ((nodes ms).map V.str) (n1 : Nat) = some (.str x) := atI_nat (by rw [List.getElem?_map, g1]; rfl)
    have a2 : atI ((nodes ms).map V.str) (((n1 : Int) + (1 + (n2 : Int))).fmod ((((nodes ms).map V.str).length : Nat) : Int)) = some (.str y) := by
      rw [hfm]
      exact atI_nat (by rw [List.getElem?_map, g2]; rfl)
    refine ⟨_, rfl, _, rfl, _, _, _, _, rfl, rfl, hu3, a1, _, rfl, _, rfl, _, rfl, _, _, rfl, rfl, _, rfl, u, _, rfl, .inr hu3, _, _, rfl, rfl, by omega, _, _, _, _, rfl, rfl, hu3, a2, _, rfl, by show 3 ≤ sizeLine; decide, fun q hq => ?_⟩
    refine k _ q (x, y, d3 - far) (((((Same.but sH).trans b1).trans b2).trans b3).trans (Same.but (Same.new hq))) ((P3.mono (by omega)).same (Same.new hq)) upd_same ⟨List.mem_of_getElem? g1, List.mem_of_getElem? g2, hne, ?_⟩
    show (d3 - far).natAbs ≤ 10 ^ 13
    omega
end
end K1
end
section
set_option maxRecDepth 100000
set_option maxHeartbeats 4000000
namespace K1
open PySem L2 K01
/-- a sheet as the law draws it -/
structure ShOk (ms ts : List Str) (F : List Fact) : Prop where
  gm : GoodNs ms
  ml : ms.length ≤ 7
  m1 : 1 ≤ ms.length
  tm : ∀ t ∈ ts, t ∈ ms
  tn : ts.Nodup
  tl : ts.length ≤ 7
  fl : F.length ≤ 20
  fo : ∀ f ∈ F, FOk ms f
  ng : negs (ms.length + 1) (closedM (ms.length + 1) (F.map (eF ms))) = []
theorem negs_nil (m : Nat) : negs (m + 1) (closedM (m + 1) []) = [] :=
  negs_good (free_good m) (fun {y} hy => (free_le (by omega) hy).mpr ⟨.inl rfl, Int.le_refl _⟩) (fun e he => nomatch he) (fun e he => nomatch he)
theorem FOk.inN {ms : List Str} {F : List Fact} (h : ∀ f ∈ F, FOk ms f) : InN ms F := fun f hf => ⟨(h f hf).l, (h f hf).r⟩
theorem GoodNs.nodes {ms : List Str} (h : GoodNs ms) : (nodes ms).Nodup := List.nodup_cons.mpr ⟨h.nz, h.nd⟩
theorem catA_it {K : PySem.W.Frag} {H : Hp} {a b : Addr} {xs ys : List V} {Q : V → Hp → Prop} (h1 : SqT K H a xs) (h2 : SqT K H b ys) (hl : xs.length + ys.length ≤ sizeLine)
    (k : ∀ p H', Same H H' → SqT K H' p (xs ++ ys) → Q (.ref p) H') : rCatA K (.ref a) (.ref b) H Q := by
  refine ⟨_, _, _, _, rfl, rfl, h1, h2, hl, fun e => ?_, fun _ e => ?_, fun _ _ q hq => k q _ (Same.new hq) tup_at⟩
  · refine k b H (Same.refl H) ?_
    rw [e, List.nil_append]; exact h2
  · refine k a H (Same.refl H) ?_
    rw [e, List.append_nil]; exact h1
end K1
end
section
set_option maxRecDepth 100000
set_option maxHeartbeats 4000000
namespace K1
open PySem L2 K01
theorem slA_it {K : PySem.W.Frag} {H : Hp} {a : Addr} {xs : List V} {lo hi : Option Int} {Q : V → Hp → Prop} (h1 : SqT K H a xs)
    (k : ∀ p H', Same H H' → SqT K H' p (cutV xs lo hi) → Q (.ref p) H') : rSlA K (.ref a) lo hi H Q := by
  refine ⟨a, xs, rfl, h1, fun e => k a H (Same.refl H) ?_, fun _ p hp => k p _ (Same.new hp) tup_at⟩
  unfold cutV
  rw [e.1, e.2, Nat.sub_zero, List.drop_zero, List.take_length]
  exact h1
end K1
end
section
set_option maxRecDepth 100000
set_option maxHeartbeats 4000000
namespace K1
open PySem L2 K01
def Small14 (xs : List V) : Prop := (∀ i : Int, V.int i ∈ xs → i.natAbs ≤ 10 ^ 14) ∧ ∀ z : Str, V.str z ∈ xs → AscZ z
/-- a sheet's parts, good or not -/
structure Parts (n : Nat) (ms ts : List Str) (fs : List (List V)) : Prop where
  m1 : 1 ≤ ms.length
  ml : ms.length ≤ n
  ma : ∀ z ∈ ms, AscZ z ∧ z.length ≤ 9
  tl : ts.length ≤ n
  ta : ∀ z ∈ ts, AscZ z ∧ z.length ≤ 9
  fl : fs.length ≤ n + 10
  ff : FlatF fs
  fi : ∀ xs ∈ fs, Small14 xs
  fr : ∀ xs ∈ fs, xs.length ≤ 4
structure KS (K : PySem.W.Frag) (H : Hp) (p a b c : Addr) (ms ts : List Str) (fs : List (List V)) (z : Int) (H' : Hp) : Prop where
  but : But p H H'
  pit : PitAt H' p z
  ha : strsT K H' a ms
  hb : strsT K H' b ts
  hc : TTAt K H' c fs
section
variable {K : PySem.W.Frag} {H : Hp} {p a b c : Addr} {ms ts : List Str} {fs : List (List V)} {z : Int}
theorem KS.same {H1 H2 : Hp} (h : KS K H p a b c ms ts fs z H1) (e : Same H1 H2) : KS K H p a b c ms ts fs z H2 :=
  ⟨h.but.trans (Same.but e), h.pit.same e, Same.tup e h.ha, Same.tup e h.hb, h.hc.same e⟩
theorem KS.new {H1 : Hp} {q : Addr} {o : HO} (h : KS K H p a b c ms ts fs z H1) (e : H1 q = none) : KS K H p a b c ms ts fs z (L2.upd H1 q o) := h.same (Same.new e)
theorem KS.step {H1 H2 : Hp} {z' : Int} (h : KS K H p a b c ms ts fs z H1) (e : But p H1 H2) (q : PitAt H2 p z') : KS K H p a b c ms ts fs z' H2 :=
  ⟨h.but.trans e, q, h.pit.tup e h.ha, h.pit.tup e h.hb, h.pit.tt e h.hc⟩
end
def OkRow (xs : List V) : Prop := (∀ v ∈ xs, Flat v) ∧ Small14 xs ∧ xs.length ≤ 4
/-- a list of tuples -/
def SomeOk (H : Hp) (us : List V) : Prop := ∀ u ∈ us, ∃ q xs, u = .ref q ∧ H q = some (.tup xs) ∧ OkRow xs
theorem SomeOk.same {H H' : Hp} {us : List V} (e : Same H H') (h : SomeOk H us) : SomeOk H' us := fun u hu => by
  obtain ⟨q, xs, h1, h2, h3⟩ := h u hu
  exact ⟨q, xs, h1, e _ _ h2, h3⟩
theorem SomeOk.nil {H : Hp} : SomeOk H [] := fun u hu => nomatch hu
theorem SomeOk.snoc {H : Hp} {us : List V} {q : Addr} {xs : List V} (h : SomeOk H us) (hq : H q = none) (ok : OkRow xs) : SomeOk (upd H q (.tup xs)) (us ++ [.ref q]) := fun u hu => by
  rcases List.mem_append.mp hu with hu | hu
  · exact h.same (Same.new hq) u hu
  · rw [List.mem_singleton] at hu
    exact ⟨q, xs, hu, upd_same, ok⟩
theorem SomeOk.app {H : Hp} {us ws : List V} (h : SomeOk H us) (g : SomeOk H ws) : SomeOk H (us ++ ws) := fun u hu => by
  rcases List.mem_append.mp hu with hu | hu
  · exact h u hu
  · exact g u hu
def flatI (v : V) : Prop := Flat v ∧ (∀ i : Int, v = .int i → i.natAbs ≤ 10 ^ 14) ∧ ∀ z : Str, v = .str z → AscZ z
theorem OkRow.of {xs : List V} (h : ∀ v ∈ xs, flatI v) (hl : xs.length ≤ 4) : OkRow xs := ⟨fun v hv => (h v hv).1, ⟨fun i hi => (h _ hi).2.1 i rfl, fun z hz => (h _ hz).2.2 z rfl⟩, hl⟩
theorem fl_str (z : Str) (h : AscZ z) : flatI (.str z) := ⟨.str z, (fun i e => nomatch e), fun y e => by cases e; exact h⟩
theorem fl_int {i : Int} (h : i.natAbs ≤ 10 ^ 14) : flatI (.int i) := ⟨.int i, (fun j e => by cases e; exact h), fun y e => nomatch e⟩
theorem fl_bl (b : Bool) : flatI (.bl b) := ⟨.bl b, (fun i e => nomatch e), fun y e => nomatch e⟩
theorem fl_non : flatI .non := ⟨.non, (fun i e => nomatch e), fun y e => nomatch e⟩
theorem asc_few : AscZ "1" ∧ AscZ "nomark" ∧ AscZ "" ∧ AscZ "zero" := by
  unfold AscZ
  decide +kernel
theorem ok0 : OkRow [] := .of (fun v hv => nomatch hv) (Nat.zero_le _)
theorem ok2 {u v : V} (h1 : flatI u) (h2 : flatI v) : OkRow [u, v] := by
  refine .of (fun x hx => ?_) (by show 2 ≤ 4; decide)
  simp only [List.mem_cons, List.not_mem_nil, or_false] at hx
  rcases hx with rfl | rfl <;> assumption
theorem ok3 {u v w : V} (h1 : flatI u) (h2 : flatI v) (h3 : flatI w) : OkRow [u, v, w] := by
  refine .of (fun x hx => ?_) (by show 3 ≤ 4; decide)
  simp only [List.mem_cons, List.not_mem_nil, or_false] at hx
  rcases hx with rfl | rfl | rfl <;> assumption
theorem ok4 {u v w t : V} (h1 : flatI u) (h2 : flatI v) (h3 : flatI w) (h4 : flatI t) : OkRow [u, v, w, t] := by
  refine .of (fun x hx => ?_) (by show 4 ≤ 4; decide)
  simp only [List.mem_cons, List.not_mem_nil, or_false] at hx
  rcases hx with rfl | rfl | rfl | rfl <;> assumption
def AscN (z : Str) : Prop := AscZ z ∧ z.length ≤ 9
def odd8 : List Str := ["zero", "", "a b", "a1", "abcdefghi", "Zero", "ok", "x_y"]
theorem odd8_ok : ∀ z ∈ odd8, AscN z := by
  unfold AscN AscZ
  decide +kernel
theorem ascn_in : AscN "in-" := by
  unfold AscN AscZ
  decide +kernel
theorem bend_mem {α : Type} {xs : List α} {u v : α} {k e : Nat} (h : v ∈ (xs.take k ++ [u]) ++ xs.drop (k + e)) : v ∈ xs ∨ v = u := by
  rcases List.mem_append.mp h with h | h
  · rcases List.mem_append.mp h with h | h
    · exact .inl (List.mem_of_mem_take h)
    · rw [List.mem_singleton] at h; exact .inr h
  · exact .inl (List.mem_of_mem_drop h)
theorem bend_len {α : Type} {xs : List α} {u : α} {k e n : Nat} (h : xs.length ≤ n) (hk : k ≤ xs.length) : ((xs.take k ++ [u]) ++ xs.drop (k + e)).length ≤ n + 1 ∧ 1 ≤ ((xs.take k ++ [u]) ++ xs.drop (k + e)).length := by
  simp only [List.length_append, List.length_take, List.length_drop, List.length_singleton]
  omega
theorem bend_map {α β : Type} (f : α → β) (xs : List α) (u : α) (k e : Nat) : (((xs.map f).take k ++ [f u]) ++ (xs.map f).drop (k + e)) = ((xs.take k ++ [u]) ++ xs.drop (k + e)).map f := by
  simp [List.map_take, List.map_drop]
theorem TupsAt.drop {H : Hp} {ps : List Addr} {xss : List (List V)} (h : TupsAt H ps xss) (k : Nat) : TupsAt H (ps.drop k) (xss.drop k) := by
  refine ⟨by rw [List.length_drop, List.length_drop, h.1], fun i p xs h1 h2 => ?_⟩
  rw [List.getElem?_drop] at h1 h2
  exact h.2 _ _ _ h1 h2
end K1
end
section
set_option maxRecDepth 100000
set_option maxHeartbeats 4000000
namespace K1
open PySem L2 K01
/-- the same data on both sides, n deep -/
inductive KT (K : PySem.W.Frag) (H : Hp) : Nat → V → V → Prop
  | non (n) : KT K H n .non .non
  | bl (n) (b : Bool) : KT K H n (.bl b) (.bl b)
  | int (n) (i : Int) : KT K H n (.int i) (.int i)
  | str (n) (z : Str) : KT K H n (.str z) (.str z)
  | tup (n) {a b : Addr} {xs ys : List V} : SqT K H a xs → SqT K H b ys → xs.length = ys.length → xs.length ≤ 500 → (∀ (i : Nat) (x y : V), xs[i]? = some x → ys[i]? = some y → KT K H n x y) → KT K H (n + 1) (.ref a) (.ref b)
  | lst (n) {a b : Addr} {xs ys : List V} : H a = some (.lst xs) → H b = some (.lst ys) → xs.length = ys.length → xs.length ≤ 900 → (∀ (i : Nat) (x y : V), xs[i]? = some x → ys[i]? = some y → KT K H n x y) → KT K H (n + 1) (.ref a) (.ref b)
theorem KT.same {K : PySem.W.Frag} {H H' : Hp} (e : Same H H') {n : Nat} {u v : V} (h : KT K H n u v) : KT K H' n u v := by
  induction h with
  | non n => exact .non n
  | bl n b => exact .bl n b
  | int n i => exact .int n i
  | str n z => exact .str n z
  | tup n h1 h2 h3 h4 _ ih => exact .tup n (Same.tup e h1) (Same.tup e h2) h3 h4 ih
  | lst n h1 h2 h3 h4 _ ih => exact .lst n (e _ _ h1) (e _ _ h2) h3 h4 ih
theorem ty_sqt {K : PySem.W.Frag} {H : Hp} {a : Addr} {xs : List V} (h : SqT K H a xs) : TyX K H (.ref a) (Value.type "tuple") := by
  rcases h with (q | ⟨o, q⟩) | ⟨o, its, n, q1, q2, _⟩
  · exact .base (.tup q)
  · exact .fTuple q
  · exact .kTuple q1 q2
section
variable {P : Program} {w : World} {K : PySem.W.Frag} {mg : Str → Option Value} {base : Heap}
abbrev sKin : Stmt := top 56
def rIxE (K : PySem.W.Frag) : R2 := fun x y H Q => rIxT K x y H Q ∨ rIxL K x y H Q
theorem ix_either {X : Cx} : IxR X (rIxE X.K) := IxR.or ix_tup ix_list
def spKin (K : PySem.W.Frag) : Nat → Sp
  | 0 => fun _ _ _ _ => False
  | n + 1 => fun vs H Q _ => ∃ (u v : V), vs = [u, v] ∧ KT K H n u v ∧ ∀ H', Same H H' → Q (.bl true) H'
theorem scKin : FnScope ["found", "due", "k"] ["found", "due"] (defScope sKin) := ⟨rfl, rfl, rfl, by decide +kernel, rfl, by decide +kernel, by decide +kernel⟩
theorem kit2 {K : PySem.W.Frag} {t : String} {b1 b2 : Bool} (h1 : kitB t "list" = some b1) (h2 : kitB t "tuple" = some b2) : W.kitAny K (Value.type t) [Value.type "list", Value.type "tuple"] = some (b1 || b2) := by
  have e1 := kit_ty (K := K) h1
  have e2 := kit_ty (K := K) h2
  cases b1 <;> cases b2 <;> simp [W.kitAny, e1, e2]
theorem pair2 : Paired ClsV [V.ty "list", V.ty "tuple"] [Value.type "list", Value.type "tuple"] := .cons (.ty _) (.cons (.ty _) .nil)
theorem yes_eq {Q : V → Hp → Prop} {x : V} {H : Hp} (h : Q (.bl true) H) : Q (.bl (decide (x = x))) H := by rw [decide_eq_true rfl]; exact h
theorem kin_step {n : Nat} {f : Addr} {fd : FuncData} (F : Fun K "_law_kin" "_law_kin" sKin f fd) (T : Bi mg) (bK : Binds K fd ["found", "due"] []) (mK : mg "_law_kin" = some (.ref f))
    (G : FnOk P w K mg base CX0 n f fd ["found", "due"] (spKin K n)) : FnOk P w K mg base CX0 (n + 1) f fd ["found", "due"] (spKin K (n + 1)) := by
  refine F.ok scKin (fun vs H Q E h => ?_) (fun cdv A outer s H vs Q E hr h => ?_)
  · obtain ⟨_, _, rfl, _⟩ := h
    rfl
  · obtain ⟨u, v, rfl, hT, k⟩ := h
    refine ⟨_, pss_cons (ps_if (PW.pt (pw_or (pt_val ((pe_callB call_isi (by rfl) T.isinstance (by decide +kernel) (pa_cons (pv 0) (pa_cons (pe_ty (n := "bool") (by rfl) T.bool (by decide +kernel)) pa_nil))))) (pw_or1 (pt_val ((pe_callB call_isi (by rfl) T.isinstance (by decide +kernel) (pa_cons (pv 1) (pa_cons (pe_ty (n := "bool") (by rfl) T.bool (by decide +kernel)) pa_nil)))))))) (pss_one (ps_ret (pe_and ((pe_callB call_isi (by rfl) T.isinstance (by decide +kernel) (pa_cons (pv 0) (pa_cons (pe_ty (n := "bool") (by rfl) T.bool (by decide +kernel)) pa_nil)))) (pe_and ((pe_callB call_isi (by rfl) T.isinstance (by decide +kernel) (pa_cons (pv 1) (pa_cons (pe_ty (n := "bool") (by rfl) T.bool (by decide +kernel)) pa_nil)))) (pe_one (pe_cmpR op_eq (pv 0) (pv 1) (nomark _))))))) pss_nil)
      (pss_cons (ps_if (PW.pt (pw_or (pt_cmpR op_ne ((pe_callB call_isi (by rfl) T.isinstance (by decide +kernel) (pa_cons (pv 0) (pa_cons (pe_ty (n := "list") (by rfl) T.list (by decide +kernel)) pa_nil)))) ((pe_callB call_isi (by rfl) T.isinstance (by decide +kernel) (pa_cons (pv 1) (pa_cons (pe_ty (n := "list") (by rfl) T.list (by decide +kernel)) pa_nil)))) (nomark _)) (pw_or1 (pt_cmpR op_ne ((pe_callB call_isi (by rfl) T.isinstance (by decide +kernel) (pa_cons (pv 0) (pa_cons (pe_ty (n := "tuple") (by rfl) T.tuple (by decide +kernel)) pa_nil)))) ((pe_callB call_isi (by rfl) T.isinstance (by decide +kernel) (pa_cons (pv 1) (pa_cons (pe_ty (n := "tuple") (by rfl) T.tuple (by decide +kernel)) pa_nil)))) (nomark _))))) (pss_one (ps_ret pe_bl)) pss_nil)
      (pss_cons (ps_if (PW.pt (pw_or (pt_cmpR op_ne ((pe_callB call_isi (by rfl) T.isinstance (by decide +kernel) (pa_cons (pv 0) (pa_cons (pe_ty (n := "str") (by rfl) T.str (by decide +kernel)) pa_nil)))) ((pe_callB call_isi (by rfl) T.isinstance (by decide +kernel) (pa_cons (pv 1) (pa_cons (pe_ty (n := "str") (by rfl) T.str (by decide +kernel)) pa_nil)))) (nomark _)) (pw_or1 (pt_cmpR op_ne ((pe_callB call_isi (by rfl) T.isinstance (by decide +kernel) (pa_cons (pv 0) (pa_cons (pe_ty (n := "int") (by rfl) T.int (by decide +kernel)) pa_nil)))) ((pe_callB call_isi (by rfl) T.isinstance (by decide +kernel) (pa_cons (pv 1) (pa_cons (pe_ty (n := "int") (by rfl) T.int (by decide +kernel)) pa_nil)))) (nomark _))))) (pss_one (ps_ret pe_bl)) pss_nil)
      (pss_cons (ps_if (pt_val (pe_callB call_isiT (by rfl) T.isinstance (by decide +kernel) (pa_cons (pv 1) (pa_cons (pe_tup (pa_cons (pe_ty (n := "list") (by rfl) T.list (by decide +kernel)) (pa_cons (pe_ty (n := "tuple") (by rfl) T.tuple (by decide +kernel)) pa_nil))) pa_nil))))
        (pss_cons (ps_if (pt_cmpR op_ne (pe_callB call_len_seq (by rfl) T.len PySem.boot_len (pa_cons (pv 0) pa_nil)) (pe_callB call_len_seq (by rfl) T.len PySem.boot_len (pa_cons (pv 1) pa_nil)) (nomark _)) (pss_one (ps_ret pe_bl)) pss_nil)
        (pss_one (ps_ret (pe_cmpR (op_eqD hr.units) (pe_lc (own := [("k", 2)]) (g := gName 2) (tt := tNot (tB (tCall (spKin K n) [] E0 (tCons (tOp (rIxE K) (tVar 0) (tVar 2)) (tCons (tOp (rIxE K) (tVar 1) (tVar 2)) tNil))))) rfl scKin.nd (pi_range1 (by rfl) T.range (pa_cons (pe_callB call_len_seq (by rfl) T.len PySem.boot_len (pa_cons (pv 1) pa_nil)) pa_nil)) (blkOk_by (N := ["found", "due", "k"]) (sc := defScope sKin) (by decide +kernel))
          (fun _ _ _ _ _ => pg_name (i := 2) scKin.nd rfl (.inl rfl)) (fun _ _ _ _ _ => pts_one (pt_not (pt_val (pe_call G hr rfl mK F.kp bK .nil pass0 (pa_cons (pe_ix ix_either (pv 0) (pv 2) (fun _ _ => rfl)) (pa_cons (pe_ix ix_either (pv 1) (pv 2) (fun _ _ => rfl)) pa_nil)))))) (fun _ _ _ _ _ => pv 2)) (pe_lst pa_nil) (nomark _))))) pss_nil)
      (pss_one (ps_ret (pe_and (pe_cmpR op_eq (pe_cmpR op_isN (pv 0) pe_non (nomark _)) (pe_cmpR op_isN (pv 1) pe_non (nomark _)) (nomark _)) (pe_one (pe_cmpR op_eq (pv 0) (pv 1) (nomark _))))))))), ?_⟩
    cases hT with
    | non =>
      have hu : TyX K H .non (.type "NoneType") := .base .non
      refine (⟨_, rfl, _, _, _, _, false, rfl, .ty _, hu, kit_ty (by decide +kernel), ⟨_, rfl, iteF ((⟨_, rfl, _, _, _, _, false, rfl, .ty _, hu, kit_ty (by decide +kernel), ⟨_, rfl, iteF ?_⟩⟩))⟩⟩)
      refine (⟨_, rfl, _, _, _, _, false, rfl, .ty _, hu, kit_ty (by decide +kernel), ((⟨_, rfl, _, _, _, _, false, rfl, .ty _, hu, kit_ty (by decide +kernel), ⟨rfl, _, rfl, iteNS rfl ((⟨_, rfl, _, _, _, _, false, rfl, .ty _, hu, kit_ty (by decide +kernel), ((⟨_, rfl, _, _, _, _, false, rfl, .ty _, hu, kit_ty (by decide +kernel), ⟨rfl, _, rfl, iteNS rfl ?_⟩⟩))⟩))⟩⟩))⟩)
      refine (⟨_, rfl, _, _, _, _, false, rfl, .ty _, hu, kit_ty (by decide +kernel), ((⟨_, rfl, _, _, _, _, false, rfl, .ty _, hu, kit_ty (by decide +kernel), ⟨rfl, _, rfl, iteNS rfl ((⟨_, rfl, _, _, _, _, false, rfl, .ty _, hu, kit_ty (by decide +kernel), ((⟨_, rfl, _, _, _, _, false, rfl, .ty _, hu, kit_ty (by decide +kernel), ⟨rfl, _, rfl, iteNS rfl ?_⟩⟩))⟩))⟩⟩))⟩)
      refine ⟨_, rfl, by show 2 ≤ sizeLine; decide, fun tp htp => ⟨_, tp, _, _, [Value.type "list", Value.type "tuple"], false, rfl, upd_same, pair2, .base .non, kit2 (t := "NoneType") (b1 := false) (b2 := false) (by decide +kernel) (by decide +kernel), _, rfl, iteF ?_⟩⟩
      exact ⟨_, rfl, rfl, _, rfl, rfl, rfl, _, rfl, iteDT rfl ⟨_, rfl, _, rfl, rfl, yes_eq (k _ (Same.new htp))⟩⟩
    | str _ z =>
      have hu : TyX K H (.str z) (.type "str") := .base (.str z)
      refine (⟨_, rfl, _, _, _, _, false, rfl, .ty _, hu, kit_ty (by decide +kernel), ⟨_, rfl, iteF ((⟨_, rfl, _, _, _, _, false, rfl, .ty _, hu, kit_ty (by decide +kernel), ⟨_, rfl, iteF ?_⟩⟩))⟩⟩)
      refine (⟨_, rfl, _, _, _, _, false, rfl, .ty _, hu, kit_ty (by decide +kernel), ((⟨_, rfl, _, _, _, _, false, rfl, .ty _, hu, kit_ty (by decide +kernel), ⟨rfl, _, rfl, iteNS rfl ((⟨_, rfl, _, _, _, _, false, rfl, .ty _, hu, kit_ty (by decide +kernel), ((⟨_, rfl, _, _, _, _, false, rfl, .ty _, hu, kit_ty (by decide +kernel), ⟨rfl, _, rfl, iteNS rfl ?_⟩⟩))⟩))⟩⟩))⟩)
      refine (⟨_, rfl, _, _, _, _, true, rfl, .ty _, hu, kit_ty (by decide +kernel), ((⟨_, rfl, _, _, _, _, true, rfl, .ty _, hu, kit_ty (by decide +kernel), ⟨rfl, _, rfl, iteNS rfl ((⟨_, rfl, _, _, _, _, false, rfl, .ty _, hu, kit_ty (by decide +kernel), ((⟨_, rfl, _, _, _, _, false, rfl, .ty _, hu, kit_ty (by decide +kernel), ⟨rfl, _, rfl, iteNS rfl ?_⟩⟩))⟩))⟩⟩))⟩)
      refine ⟨_, rfl, by show 2 ≤ sizeLine; decide, fun tp htp => ⟨_, tp, _, _, [Value.type "list", Value.type "tuple"], false, rfl, upd_same, pair2, .base (.str z), kit2 (t := "str") (b1 := false) (b2 := false) (by decide +kernel) (by decide +kernel), _, rfl, iteF ?_⟩⟩
      exact ⟨_, rfl, rfl, _, rfl, rfl, rfl, _, rfl, iteDT rfl ⟨_, rfl, _, rfl, rfl, yes_eq (k _ (Same.new htp))⟩⟩
    | int _ i =>
      have hu : TyX K H (.int i) (.type "int") := .base (.int i)
      refine (⟨_, rfl, _, _, _, _, false, rfl, .ty _, hu, kit_ty (by decide +kernel), ⟨_, rfl, iteF ((⟨_, rfl, _, _, _, _, false, rfl, .ty _, hu, kit_ty (by decide +kernel), ⟨_, rfl, iteF ?_⟩⟩))⟩⟩)
      refine (⟨_, rfl, _, _, _, _, false, rfl, .ty _, hu, kit_ty (by decide +kernel), ((⟨_, rfl, _, _, _, _, false, rfl, .ty _, hu, kit_ty (by decide +kernel), ⟨rfl, _, rfl, iteNS rfl ((⟨_, rfl, _, _, _, _, false, rfl, .ty _, hu, kit_ty (by decide +kernel), ((⟨_, rfl, _, _, _, _, false, rfl, .ty _, hu, kit_ty (by decide +kernel), ⟨rfl, _, rfl, iteNS rfl ?_⟩⟩))⟩))⟩⟩))⟩)
      refine (⟨_, rfl, _, _, _, _, false, rfl, .ty _, hu, kit_ty (by decide +kernel), ((⟨_, rfl, _, _, _, _, false, rfl, .ty _, hu, kit_ty (by decide +kernel), ⟨rfl, _, rfl, iteNS rfl ((⟨_, rfl, _, _, _, _, true, rfl, .ty _, hu, kit_ty (by decide +kernel), ((⟨_, rfl, _, _, _, _, true, rfl, .ty _, hu, kit_ty (by decide +kernel), ⟨rfl, _, rfl, iteNS rfl ?_⟩⟩))⟩))⟩⟩))⟩)
      refine ⟨_, rfl, by show 2 ≤ sizeLine; decide, fun tp htp => ⟨_, tp, _, _, [Value.type "list", Value.type "tuple"], false, rfl, upd_same, pair2, .base (.int i), kit2 (t := "int") (b1 := false) (b2 := false) (by decide +kernel) (by decide +kernel), _, rfl, iteF ?_⟩⟩
      exact ⟨_, rfl, rfl, _, rfl, rfl, rfl, _, rfl, iteDT rfl ⟨_, rfl, _, rfl, rfl, yes_eq (k _ (Same.new htp))⟩⟩
    | bl _ b =>
      have hu : TyX K H (.bl b) (.type "bool") := .base (.bl b)
      exact (⟨_, rfl, _, _, _, _, true, rfl, .ty _, hu, kit_ty (by decide +kernel), ⟨_, rfl, iteT ((⟨_, rfl, _, _, _, _, true, rfl, .ty _, hu, kit_ty (by decide +kernel), ⟨_, rfl, iteT ((⟨_, rfl, _, _, _, _, true, rfl, .ty _, hu, kit_ty (by decide +kernel), ⟨_, rfl, iteT ⟨_, rfl, _, rfl, rfl, yes_eq (k _ (Same.refl H))⟩⟩⟩))⟩⟩))⟩⟩)
    | @tup n a b xs ys hx hy hl hl5 hk =>
      have hu := ty_sqt hx
      have hv := ty_sqt hy
      refine (⟨_, rfl, _, _, _, _, false, rfl, .ty _, hu, kit_ty (by decide +kernel), ⟨_, rfl, iteF ((⟨_, rfl, _, _, _, _, false, rfl, .ty _, hv, kit_ty (by decide +kernel), ⟨_, rfl, iteF ?_⟩⟩))⟩⟩)
      refine (⟨_, rfl, _, _, _, _, false, rfl, .ty _, hu, kit_ty (by decide +kernel), ((⟨_, rfl, _, _, _, _, false, rfl, .ty _, hv, kit_ty (by decide +kernel), ⟨rfl, _, rfl, iteNS rfl ((⟨_, rfl, _, _, _, _, true, rfl, .ty _, hu, kit_ty (by decide +kernel), ((⟨_, rfl, _, _, _, _, true, rfl, .ty _, hv, kit_ty (by decide +kernel), ⟨rfl, _, rfl, iteNS rfl ?_⟩⟩))⟩))⟩⟩))⟩)
      refine (⟨_, rfl, _, _, _, _, false, rfl, .ty _, hu, kit_ty (by decide +kernel), ((⟨_, rfl, _, _, _, _, false, rfl, .ty _, hv, kit_ty (by decide +kernel), ⟨rfl, _, rfl, iteNS rfl ((⟨_, rfl, _, _, _, _, false, rfl, .ty _, hu, kit_ty (by decide +kernel), ((⟨_, rfl, _, _, _, _, false, rfl, .ty _, hv, kit_ty (by decide +kernel), ⟨rfl, _, rfl, iteNS rfl ?_⟩⟩))⟩))⟩⟩))⟩)
      refine ⟨_, rfl, by show 2 ≤ sizeLine; decide, fun tp htp => ⟨_, tp, _, _, [Value.type "list", Value.type "tuple"], true, rfl, upd_same, pair2, ty_sqt (Same.tup (Same.new htp) hy), kit2 (t := "tuple") (b1 := false) (b2 := true) (by decide +kernel) (by decide +kernel), _, rfl, iteT ?_⟩⟩
      have s0 : Same H (upd H tp (.tup [V.ty "list", V.ty "tuple"])) := Same.new htp
      have hx0 := Same.tup s0 hx
      have hy0 := Same.tup s0 hy
      refine ⟨_, rfl, a, xs, rfl, .inr hx0, _, rfl, b, ys, rfl, .inr hy0, rfl, _, rfl, iteNS (by rw [hl]) ?_⟩
      refine ⟨_, rfl, b, ys, rfl, .inr hy0, _, rfl, by omega, by omega, fun D hD => ?_⟩
      rw [Int.toNat_natCast]
      refine lc_it (walk_r0 (n := ys.length)) (fun i H' => Same (upd H tp (.tup [V.ty "list", V.ty "tuple"])) H' ∧ H' D = some (.lst [])) ⟨Same.new hD, upd_same⟩ (fun _ _ _ _ => trivial) ?_ ?_
      · rintro i v H1 H2 hi ⟨q1, q2⟩ ⟨rfl, rfl⟩
        have hxi : xs[i]? = some (xs[i]'(by omega)) := List.getElem?_eq_getElem (by omega)
        have hyi : ys[i]? = some ys[i] := List.getElem?_eq_getElem hi
        have hki := (hk i _ _ hxi hyi).same (s0.trans q1)
        exact ⟨rfl, _, rfl, _, rfl, .inl ⟨_, _, _, _, rfl, rfl, Same.tup q1 hx0, atI_nat hxi, _, rfl, _, rfl, .inl ⟨_, _, _, _, rfl, rfl, Same.tup q1 hy0, atI_nat hyi, _, _, rfl, hki, fun H3 s3 => ⟨_, rfl, q1.trans s3, s3 _ _ q2⟩⟩⟩⟩
      · rintro H1 ⟨q1, q2⟩
        refine ⟨Nat.zero_le _, fun e he => ?_⟩
        have eD : D ≠ e := fun q => by rw [← q, q2] at he; cases he
        have q2' : (upd H1 e (.lst [])) D = _ := (upd_ne eD).trans q2
        exact ⟨.list [], .list [], .lst (SqL.of q2') .nil, .lst (SqL.of upd_same) .nil, shaped_nil, shaped_nil, by rw [eqv_nil]; exact k _ ((s0.trans q1).trans (Same.new (o := .lst []) he))⟩
    | @lst n a b xs ys hx hy hl hl5 hk =>
      have hu : TyX K H (.ref a) (.type "list") := .base (.lst hx)
      have hv : TyX K H (.ref b) (.type "list") := .base (.lst hy)
      refine (⟨_, rfl, _, _, _, _, false, rfl, .ty _, hu, kit_ty (by decide +kernel), ⟨_, rfl, iteF ((⟨_, rfl, _, _, _, _, false, rfl, .ty _, hv, kit_ty (by decide +kernel), ⟨_, rfl, iteF ?_⟩⟩))⟩⟩)
      refine (⟨_, rfl, _, _, _, _, true, rfl, .ty _, hu, kit_ty (by decide +kernel), ((⟨_, rfl, _, _, _, _, true, rfl, .ty _, hv, kit_ty (by decide +kernel), ⟨rfl, _, rfl, iteNS rfl ((⟨_, rfl, _, _, _, _, false, rfl, .ty _, hu, kit_ty (by decide +kernel), ((⟨_, rfl, _, _, _, _, false, rfl, .ty _, hv, kit_ty (by decide +kernel), ⟨rfl, _, rfl, iteNS rfl ?_⟩⟩))⟩))⟩⟩))⟩)
      refine (⟨_, rfl, _, _, _, _, false, rfl, .ty _, hu, kit_ty (by decide +kernel), ((⟨_, rfl, _, _, _, _, false, rfl, .ty _, hv, kit_ty (by decide +kernel), ⟨rfl, _, rfl, iteNS rfl ((⟨_, rfl, _, _, _, _, false, rfl, .ty _, hu, kit_ty (by decide +kernel), ((⟨_, rfl, _, _, _, _, false, rfl, .ty _, hv, kit_ty (by decide +kernel), ⟨rfl, _, rfl, iteNS rfl ?_⟩⟩))⟩))⟩⟩))⟩)
      refine ⟨_, rfl, by show 2 ≤ sizeLine; decide, fun tp htp => ⟨_, tp, _, _, [Value.type "list", Value.type "tuple"], true, rfl, upd_same, pair2, .base (.lst (Same.new htp _ _ hy)), kit2 (t := "list") (b1 := true) (b2 := false) (by decide +kernel) (by decide +kernel), _, rfl, iteT ?_⟩⟩
      have s0 : Same H (upd H tp (.tup [V.ty "list", V.ty "tuple"])) := Same.new htp
      have hx0 := s0 _ _ hx
      have hy0 := s0 _ _ hy
      refine ⟨_, rfl, a, xs, rfl, .inl (SqL.of hx0), _, rfl, b, ys, rfl, .inl (SqL.of hy0), rfl, _, rfl, iteNS (by rw [hl]) ?_⟩
      refine ⟨_, rfl, b, ys, rfl, .inl (SqL.of hy0), _, rfl, by omega, by omega, fun D hD => ?_⟩
      rw [Int.toNat_natCast]
      refine lc_it (walk_r0 (n := ys.length)) (fun i H' => Same (upd H tp (.tup [V.ty "list", V.ty "tuple"])) H' ∧ H' D = some (.lst [])) ⟨Same.new hD, upd_same⟩ (fun _ _ _ _ => trivial) ?_ ?_
      · rintro i v H1 H2 hi ⟨q1, q2⟩ ⟨rfl, rfl⟩
        have hxi : xs[i]? = some (xs[i]'(by omega)) := List.getElem?_eq_getElem (by omega)
        have hyi : ys[i]? = some ys[i] := List.getElem?_eq_getElem hi
        have hki := (hk i _ _ hxi hyi).same (s0.trans q1)
        exact ⟨rfl, _, rfl, _, rfl, .inr ⟨_, _, _, _, rfl, rfl, SqL.of (q1 _ _ hx0), atI_nat hxi, _, rfl, _, rfl, .inr ⟨_, _, _, _, rfl, rfl, SqL.of (q1 _ _ hy0), atI_nat hyi, _, _, rfl, hki, fun H3 s3 => ⟨_, rfl, q1.trans s3, s3 _ _ q2⟩⟩⟩⟩
      · rintro H1 ⟨q1, q2⟩
        refine ⟨Nat.zero_le _, fun e he => ?_⟩
        have eD : D ≠ e := fun q => by rw [← q, q2] at he; cases he
        have q2' : (upd H1 e (.lst [])) D = _ := (upd_ne eD).trans q2
        exact ⟨.list [], .list [], .lst (SqL.of q2') .nil, .lst (SqL.of upd_same) .nil, shaped_nil, shaped_nil, by rw [eqv_nil]; exact k _ ((s0.trans q1).trans (Same.new (o := .lst []) he))⟩
end
end K1
namespace K1
open PySem L2 K01
section
variable {P : Program} {w : World} {K : PySem.W.Frag} {mg : Str → Option Value} {base : Heap}
theorem ok_kin {f : Addr} {fd : FuncData} (F : Fun K "_law_kin" "_law_kin" sKin f fd) (T : Bi mg) (bK : Binds K fd ["found", "due"] []) (mK : mg "_law_kin" = some (.ref f)) : ∀ n, FnOk P w K mg base CX0 n f fd ["found", "due"] (spKin K n)
  | 0 => ⟨fun _ _ _ _ h => h.elim, fun _ _ _ _ _ _ _ _ _ _ _ _ _ h => h.elim⟩
  | n + 1 => kin_step F T bK mK (ok_kin F T bK mK n)
end
end K1
end
section
set_option maxRecDepth 100000
set_option maxHeartbeats 4000000
namespace PySem
namespace K1X
open PySem.W PySem.Calls PyProof.Rows PySem.HandSPX PySem.Spec
section
variable {M : Model} {P : Program} {w : World} {A : Around} {E : Value → Shared → Prop} {s : Shared} {qual : Str} {scope : Scope} {L fI cc : Addr} {cda : Value}
theorem ldK {m : Str → Option Value} {x : Str} {pos : Pos} {v : Value} {Q : Value → Shared → Prop} (hn : s.heap.Ns L m) (hv : m x = some v) (h : Q v s) (hk : scope.kind = .function) (hl : scope.names.lookup x = some .local)
    (hd : (x == ("__debug__" : Str)) = false) : wpAny M A (eval (.Name x pos) (ksEnv qual scope L fI cda cc)) Q E s := wpAny_Name (wpAny_loadName_local hk hl hn hv h) hd
theorem two_size {a b : Nat} (h1 : a ≤ 5000000) (h2 : b ≤ 5000000) : a + b ≤ sizeLine := by
  rw [sizeLine_eq]; omega
/-- f'a{fld}b', fld an int -/
theorem js_int {e : Value} {i : Int} {t : Tok} {fld a b : Str} {q1 q2 q3 q4 q5 : Pos} {k1 k2 : Nat} {Q : Value → Shared → Prop} (hn : s.heap.Ns L (fun x => ([("self", e), (fld, Value.int i t)] : List (Str × Value)).reverse.lookup x)) (hk : scope.kind = .function) (hl : scope.names.lookup fld = some .local)
    (hd : (fld == ("__debug__" : Str)) = false) (hi : i.natAbs.log2 < 1920) (ha : a.length ≤ 100) (hb : b.length ≤ 100) (h : ∀ y tk tk', Q (.str y tk) { s with toks := tk' }) :
    wpAny (model P w) A (eval (.JoinedStr [.Constant (.str a) k1 q1, .FormattedValue (.Name fld q2) (-1) none q3, .Constant (.str b) k2 q4] q5) (ksEnv qual scope L fI cda cc)) Q E s := by
  have hv : ([("self", e), (fld, Value.int i t)] : List (Str × Value)).reverse.lookup fld = some (.int i t) := by simp [List.lookup]
  have lc := PyProof.Rows.int_text_len_1921 hi
  refine wpAny_JoinedStr ?_
  refine wpAny_Constant_str ⟨a, _, rfl, by rw [strLen_append]; exact two_size (by show 0 ≤ _; omega) (by omega), ?_⟩
  refine wpAny_FormattedValue_plain (ldK hn hv ?_ hk hl hd)
  refine wpAny_formatField_int hi ⟨_, _, rfl, ?_, ?_⟩
  · rw [strLen_append, strLen_append]; exact two_size (by show 0 + a.length ≤ _; omega) (by omega)
  refine wpAny_Constant_str ⟨b, _, rfl, ?_, ?_, h _ _ _⟩
  · rw [strLen_append, strLen_append, strLen_append]; exact two_size (by show 0 + a.length + _ ≤ _; omega) (by omega)
  · rw [strLen_append, strLen_append, strLen_append]; exact two_size (by show 0 + a.length + _ ≤ _; omega) (by omega)
/-- f'a{fld}', fld a ring -/
theorem js_ring {e v : Value} {fld a : Str} {q1 q2 q3 q5 : Pos} {k1 : Nat} {Q : Value → Shared → Prop} (hn : s.heap.Ns L (fun x => ([("self", e), (fld, v)] : List (Str × Value)).reverse.lookup x)) (hk : scope.kind = .function) (hl : scope.names.lookup fld = some .local)
    (hd : (fld == ("__debug__" : Str)) = false) (hi : K1.OkRing P v s.heap) (hu : A.units + 8 < cLine) (ha : a.length ≤ 100) (h : ∀ y tk tk', Q (.str y tk) { s with toks := tk' }) :
    wpAny (model P w) A (eval (.JoinedStr [.Constant (.str a) k1 q1, .FormattedValue (.Name fld q2) (-1) none q3] q5) (ksEnv qual scope L fI cda cc)) Q E s := by
  have hv : ([("self", e), (fld, v)] : List (Str × Value)).reverse.lookup fld = some v := by simp [List.lookup]
  obtain ⟨r, o, items, n, rfl, h1, h2, h3, h4, h5⟩ := hi
  have sz : items.size * (2200 + 2) + 10 ≤ 4624210 := by omega
  refine wpAny_JoinedStr ?_
  refine wpAny_Constant_str ⟨a, _, rfl, by rw [strLen_append]; exact two_size (by show 0 ≤ _; omega) (by omega), ?_⟩
  refine wpAny_FormattedValue_plain (ldK hn hv ?_ hk hl hd)
  refine k1_fmt (h₀ := s.heap) (b := 2200) hu h1 h2 h3 (h5 w) (Nat.le_trans sz (by rw [sizeLine_eq]; decide)) fun m u tk hm => ?_
  refine ⟨m, _, rfl, ?_, ?_, h _ _ _⟩
  · rw [strLen_append, strLen_append]; exact two_size (by show 0 + a.length ≤ _; omega) (by omega)
  · rw [strLen_append, strLen_append]; exact two_size (by show 0 + a.length ≤ _; omega) (by omega)
end
end K1X
end PySem
namespace K1
open PySem PyProof.Rows L2 K01
abbrev prg : Program := PySem.Challenge.pw_unknowntakes_k46_trees_followed
/-- __init__ of an error class, the i-th statement -/
abbrev sXI (i : Nat) : Stmt := inClass (top i) 0
/-- what the head says of an error class at C, its __init__ at fI: class x, field fld, its def st -/
structure XAt (K : PySem.W.Frag) (st : Stmt) (x fld qual : Str) (C fI : Addr) : Prop where
  g : PySem.W.nsIn K mainGlobals x = some (some (.ref C))
  cls : ∃ nm q N bs sn sub ab col dd k0 k1 k2 k3 k5 T, K.lookup C = some (excClassObj nm q C N bs [.ref T, .type "ValueError", .type "Exception", .type "BaseException", .type "object"] true sn sub ab col dd k0 k1 k2 k3 k5 "ValueError.__new__")
  sa : PySem.W.findIn K (.ref C) "__setattr__" = some (some (.builtin "object.__setattr__"))
  ga : PySem.W.findIn K (.ref C) "__getattribute__" = some (some (.builtin "BaseException.__getattribute__"))
  gg : PySem.W.findIn K (.ref C) "__getattr__" = some none
  noN : PySem.W.findIn K (.ref C) fld = some none
  iC : PySem.W.findIn K (.ref C) "__init__" = some (some (.ref fI))
  tC : PySem.W.typeIn K (.ref fI) = some (.type "function")
  kC : PySem.W.keepIn K (.ref C) = true
  exC : PySem.W.subIn K (.ref C) (.type "BaseException") = some true
  vE : PySem.W.subIn K (.ref C) (.type "ValueError") = some true
  tyC : PySem.W.typeIn K (.ref C) = some (.type "type")
  hdC : PySem.W.hasDictIn K C = true
  se : PySem.W.subIn K (.ref C) (.ref C) = some true
  su : PySem.W.ks_superIn K C C "__init__" = some (some (.builtin "ValueError.__init__"))
  mr : PySem.W.mroIn K C (.ref C) = some true
  sc : PySem.W.nsIn K cStatics "thirdparty.any" = some none
  sp : PySem.W.nsIn K mainGlobals "super" = some none
  fn : ∃ (oc doc pm ct ccl cl : Value) (od an cdd cld : Option Addr) (osl ccs csl : Array (Option Value)) (cda cc : Addr) (vs : Array Value) (file : Str) (tf : Tok),
    K.lookup fI = some ⟨oc, od, .func (PySem.W.ksFn "__init__" qual (defArgs st) (defBody st) (defScope st) .none .none doc pm an (.ref cda) ct cc), osl⟩ ∧ PySem.W.codeIn K (.ref cda) qual = true ∧ K.lookup cda = some ⟨ccl, cdd, .fields vs, ccs⟩ ∧ vs[2]? = some (.str file tf) ∧ ((prg.main.file : Str) == file) = true ∧
      K.lookup cc = some ⟨cl, cld, .cell (some (.ref C)), csl⟩
theorem refsVE_T (T : Addr) : PySem.HandSPX.refsVE [.ref T, .type "ValueError", .type "Exception", .type "BaseException", .type "object"] = true := by rfl
theorem xc_marks {K : PySem.W.Frag} {mg : Str → Option Value} {C fI : Addr} (T : XAt K (sXI 14) "BadMarks" "index" "BadMarks.__init__" C fI) {h0 : Heap} (X0 : K.In h0) (G0 : h0.Ns mainGlobals mg) : PySem.K1X.XC prg K mg "BadMarks" "index" C fI OkInt := by
  obtain ⟨nm, q, N, bs, sn, sub, ab, col, dd, k0, k1, k2, k3, k5, TE, hC⟩ := T.cls
  obtain ⟨oc, doc, pm, ct, ccl, cl, od, an, cdd, cld, osl, ccs, csl, cda, cc, vs, file, tf, ho, hcd, hcode, hvs, hfile, hcell⟩ := T.fn
  refine { gC := PySem.W.mg_of X0 G0 T.g, cls := ⟨nm, q, N, bs, _, sn, sub, ab, col, dd, k0, k1, k2, k3, k5, hC, refsVE_T TE⟩, ga := T.ga, gg := T.gg, noN := T.noN, iC := T.iC, tC := T.tC, kC := T.kC, exC := T.exC, tyC := T.tyC, hdC := T.hdC, te := PySem.W.exm_ref T.exC T.hdC T.tyC T.se, mono := fun u h h' _ z => z, run := ?_ }
  intro w A s R e t0 v X hlim G Bt hx hnx hr hu hok hq
  obtain ⟨i, t, rfl, hi⟩ := hok
  refine PySem.K1X.init_super X hlim G Bt (PySem.W.mg_none_of X0 G0 T.sp) hC (refsVE_T TE) T.sa T.noN T.vE T.su T.mr T.sc ho hcd hcode hvs hfile hcell rfl rfl (by decide +kernel) (by decide +kernel) (fun s' => .of_eq rfl) rfl rfl rfl rfl rfl (by decide +kernel) rfl rfl (by decide +kernel) (fun env => rfl) (fun L => rfl) (fun f L => rfl) (fun L => rfl) ?_ hx hnx hr hq
  intro L B EE s' Q hn hk hb h
  exact PySem.K1X.js_int hn rfl rfl (by decide +kernel) hi (by decide +kernel) (by decide +kernel) h
theorem xc_takes {K : PySem.W.Frag} {mg : Str → Option Value} {C fI : Addr} (T : XAt K (sXI 15) "BadTakes" "index" "BadTakes.__init__" C fI) {h0 : Heap} (X0 : K.In h0) (G0 : h0.Ns mainGlobals mg) : PySem.K1X.XC prg K mg "BadTakes" "index" C fI OkInt := by
  obtain ⟨nm, q, N, bs, sn, sub, ab, col, dd, k0, k1, k2, k3, k5, TE, hC⟩ := T.cls
  obtain ⟨oc, doc, pm, ct, ccl, cl, od, an, cdd, cld, osl, ccs, csl, cda, cc, vs, file, tf, ho, hcd, hcode, hvs, hfile, hcell⟩ := T.fn
  refine { gC := PySem.W.mg_of X0 G0 T.g, cls := ⟨nm, q, N, bs, _, sn, sub, ab, col, dd, k0, k1, k2, k3, k5, hC, refsVE_T TE⟩, ga := T.ga, gg := T.gg, noN := T.noN, iC := T.iC, tC := T.tC, kC := T.kC, exC := T.exC, tyC := T.tyC, hdC := T.hdC, te := PySem.W.exm_ref T.exC T.hdC T.tyC T.se, mono := fun u h h' _ z => z, run := ?_ }
  intro w A s R e t0 v X hlim G Bt hx hnx hr hu hok hq
  obtain ⟨i, t, rfl, hi⟩ := hok
  refine PySem.K1X.init_super X hlim G Bt (PySem.W.mg_none_of X0 G0 T.sp) hC (refsVE_T TE) T.sa T.noN T.vE T.su T.mr T.sc ho hcd hcode hvs hfile hcell rfl rfl (by decide +kernel) (by decide +kernel) (fun s' => .of_eq rfl) rfl rfl rfl rfl rfl (by decide +kernel) rfl rfl (by decide +kernel) (fun env => rfl) (fun L => rfl) (fun f L => rfl) (fun L => rfl) ?_ hx hnx hr hq
  intro L B EE s' Q hn hk hb h
  exact PySem.K1X.js_int hn rfl rfl (by decide +kernel) hi (by decide +kernel) (by decide +kernel) h
theorem xc_fact {K : PySem.W.Frag} {mg : Str → Option Value} {C fI : Addr} (T : XAt K (sXI 16) "BadFact" "index" "BadFact.__init__" C fI) {h0 : Heap} (X0 : K.In h0) (G0 : h0.Ns mainGlobals mg) : PySem.K1X.XC prg K mg "BadFact" "index" C fI OkInt := by
  obtain ⟨nm, q, N, bs, sn, sub, ab, col, dd, k0, k1, k2, k3, k5, TE, hC⟩ := T.cls
  obtain ⟨oc, doc, pm, ct, ccl, cl, od, an, cdd, cld, osl, ccs, csl, cda, cc, vs, file, tf, ho, hcd, hcode, hvs, hfile, hcell⟩ := T.fn
  refine { gC := PySem.W.mg_of X0 G0 T.g, cls := ⟨nm, q, N, bs, _, sn, sub, ab, col, dd, k0, k1, k2, k3, k5, hC, refsVE_T TE⟩, ga := T.ga, gg := T.gg, noN := T.noN, iC := T.iC, tC := T.tC, kC := T.kC, exC := T.exC, tyC := T.tyC, hdC := T.hdC, te := PySem.W.exm_ref T.exC T.hdC T.tyC T.se, mono := fun u h h' _ z => z, run := ?_ }
  intro w A s R e t0 v X hlim G Bt hx hnx hr hu hok hq
  obtain ⟨i, t, rfl, hi⟩ := hok
  refine PySem.K1X.init_super X hlim G Bt (PySem.W.mg_none_of X0 G0 T.sp) hC (refsVE_T TE) T.sa T.noN T.vE T.su T.mr T.sc ho hcd hcode hvs hfile hcell rfl rfl (by decide +kernel) (by decide +kernel) (fun s' => .of_eq rfl) rfl rfl rfl rfl rfl (by decide +kernel) rfl rfl (by decide +kernel) (fun env => rfl) (fun L => rfl) (fun f L => rfl) (fun L => rfl) ?_ hx hnx hr hq
  intro L B EE s' Q hn hk hb h
  exact PySem.K1X.js_int hn rfl rfl (by decide +kernel) hi (by decide +kernel) (by decide +kernel) h
theorem xc_ring {K : PySem.W.Frag} {mg : Str → Option Value} {C fI : Addr} (T : XAt K (sXI 17) "Contradiction" "ring" "Contradiction.__init__" C fI) {h0 : Heap} (X0 : K.In h0) (G0 : h0.Ns mainGlobals mg) : PySem.K1X.XC prg K mg "Contradiction" "ring" C fI (OkRing prg) := by
  obtain ⟨nm, q, N, bs, sn, sub, ab, col, dd, k0, k1, k2, k3, k5, TE, hC⟩ := T.cls
  obtain ⟨oc, doc, pm, ct, ccl, cl, od, an, cdd, cld, osl, ccs, csl, cda, cc, vs, file, tf, ho, hcd, hcode, hvs, hfile, hcell⟩ := T.fn
  refine { gC := PySem.W.mg_of X0 G0 T.g, cls := ⟨nm, q, N, bs, _, sn, sub, ab, col, dd, k0, k1, k2, k3, k5, hC, refsVE_T TE⟩, ga := T.ga, gg := T.gg, noN := T.noN, iC := T.iC, tC := T.tC, kC := T.kC, exC := T.exC, tyC := T.tyC, hdC := T.hdC, te := PySem.W.exm_ref T.exC T.hdC T.tyC T.se, mono := okRing_mono, run := ?_ }
  intro w A s R e t0 v X hlim G Bt hx hnx hr hu hok hq
  refine PySem.K1X.init_super X hlim G Bt (PySem.W.mg_none_of X0 G0 T.sp) hC (refsVE_T TE) T.sa T.noN T.vE T.su T.mr T.sc ho hcd hcode hvs hfile hcell rfl rfl (by decide +kernel) (by decide +kernel) (fun s' => .of_eq rfl) rfl rfl rfl rfl rfl (by decide +kernel) rfl rfl (by decide +kernel) (fun env => rfl) (fun L => rfl) (fun f L => rfl) (fun L => rfl) ?_ hx hnx hr hq
  intro L B EE s' Q hn hk hb h
  exact PySem.K1X.js_ring hn rfl rfl (by decide +kernel) (okRing_mono _ _ _ hk hok) (by omega) (by decide +kernel) h
end K1
end
section
set_option maxRecDepth 100000
set_option maxHeartbeats 4000000
namespace K1
open PySem PyProof.Rows L2 K01
section
variable {X : Cx} {CX : CXT} {k : Nat} {f C : Addr} {fd : FuncData} {ps ks : List Str} {sp : Sp} {E : XK} {m : Str}
/-- a def that a builtin calls -/
theorem run_in1 {pins : List (Addr × Obj)} {σ : L2.St} {H : Hp} {s : Shared} {Q : VK} {us : List Value} {vs : List V} (F : FnOk X.prog X.w X.K X.mg X.base CX k f fd ps sp) (hr : Room (k + 1) X.A) (hb : Binds X.K fd ps []) (hx : Passes CX X E)
    (I : Inv X pins σ H s) (r : Vals vs us) (h : sp vs H Q E) : wpAny (model X.prog X.w) X.A.in1 (call (.ref f) us) (EP X pins σ Q) X.xe s := by
  have hl : us.length = ps.length := by rw [← F.len _ _ _ _ h]; exact (Vals.length r).symm
  have b := hb s us I.kIn (by rw [List.append_nil]; exact hl)
  rw [List.append_nil] at b
  refine wpAny_call (codeAny_mono (F.run X.A.in1 X.stack s H ⟨us, []⟩ us vs Q E hr.in1 I.env0.in1 b r h) fun res s' q => ?_)
  match res, q with
  | .error e, q => exact hx pins σ H s e s' I q
  | .ok (.ret u), q => exact Inv.after I q
theorem ins_at {pins : List (Addr × Obj)} {σ : L2.St} {H : Hp} {s : Shared} {a dx : Addr} {fs : List (Str × V)} (I : Inv X pins σ H s) (ea : H a = some (.ins C dx fs)) : ∃ ox od, PySem.W.InstAt s.heap a ox C od := by
  obtain ⟨mA, O, _, _, _, _⟩ := ins_get I.hok ea
  obtain ⟨od, J, _⟩ := O.look
  exact ⟨_, _, J⟩
/-- o[i] by an own __getitem__ -/
def tIxO (C : Addr) (sp : Sp) (E : XK) (ta tb : TE) : TE := fun σ H Q => ta σ H fun x H1 => tb σ H1 fun y H2 => ∃ a dx fs, x = .ref a ∧ H2 a = some (.ins C dx fs) ∧ sp [x, y] H2 Q E
theorem pe_ixO {a b : Expr} {ta tb : TE} {pos : Pos} (hm : Meth X.K C "__getitem__" f) (hfn : PySem.W.fnIn X.K f = true) (F : FnOk X.prog X.w X.K X.mg X.base CX k f fd ps sp) (hr : Room (k + 1) X.A) (hb : Binds X.K fd ps []) (hx : Passes CX X E) (ha : PE X a ta) (hb' : PE X b tb)
    (hsl : ∀ x i, subscripted b true x i = runValue (.builtin "lifetime.subscript" ⟨[x, i], []⟩) := by intro x i; rfl) : PE X (.Subscript a b pos) (tIxO C sp E ta tb) where
  run := by
    intro pins s σ H Q I h
    refine Subscript_ (binT (R := fun x y H2 => ∃ a dx fs, x = .ref a ∧ H2 a = some (.ins C dx fs) ∧ sp [x, y] H2 Q E) ha hb' I h fun v u s2 x y H2 I2 rx ry q => ?_)
    obtain ⟨o, dx, fs, rfl, ea, q⟩ := q
    obtain rfl : v = Value.ref o := rx
    obtain ⟨ox, od, J⟩ := ins_at I2 ea
    obtain ⟨m, fr⟩ := I2.fr
    exact PySem.W.sub_K fr I2.ok.mod.kin J hm.at_ hfn hm.fn (run_in1 (vs := [.ref o, y]) (us := [.ref o, u]) F hr hb hx I2 (.cons rfl (.cons ry .nil)) q) (hsl _ _)
/-- x in o by an own __contains__ that answers a bool -/
def rInO (C : Addr) (sp : Sp) (E : XK) (neg : Bool) : R2 := fun y x H Q => ∃ a dx fs, x = .ref a ∧ H a = some (.ins C dx fs) ∧ sp [x, y] H (fun v H2 => ∃ b, v = .bl b ∧ Q (.bl (b != neg)) H2) E
theorem op_inO (hm : Meth X.K C "__contains__" f) (F : FnOk X.prog X.w X.K X.mg X.base CX k f fd ps sp) (hr : Room k X.A) (hb : Binds X.K fd ps []) (hx : Passes CX X E) : OpR X (compareOp .In) (rInO C sp E false) := by
  intro pins s σ H y x u v Q I ry rx h
  obtain ⟨o, dx, fs, rfl, ea, q⟩ := h
  obtain rfl : v = Value.ref o := rx
  obtain ⟨ox, od, J⟩ := ins_at I ea
  obtain ⟨m, fr⟩ := I.fr
  refine PySem.W.in_K fr I.ok.mod.kin J hm.at_ hm.fn (thn (run_fn (vs := [.ref o, y]) (us := [.ref o, u]) (dvs := []) F hr hb .nil hx I (.cons rfl (.cons ry .nil)) q) ?_)
  rintro r s1 ⟨w, H1, I1, rw', b, rfl, q1⟩
  obtain rfl : r = Value.bool b := rw'
  refine wpAny_truthy_bool ?_
  exact ⟨.bl b, H1, I1, rfl, by simpa using q1⟩
theorem op_notInO (hm : Meth X.K C "__contains__" f) (F : FnOk X.prog X.w X.K X.mg X.base CX k f fd ps sp) (hr : Room k X.A) (hb : Binds X.K fd ps []) (hx : Passes CX X E) : OpR X (compareOp .NotIn) (rInO C sp E true) := by
  intro pins s σ H y x u v Q I ry rx h
  obtain ⟨o, dx, fs, rfl, ea, q⟩ := h
  obtain rfl : v = Value.ref o := rx
  obtain ⟨ox, od, J⟩ := ins_at I ea
  obtain ⟨m, fr⟩ := I.fr
  refine PySem.W.notIn_K fr I.ok.mod.kin J hm.at_ hm.fn (thn (run_fn (vs := [.ref o, y]) (us := [.ref o, u]) (dvs := []) F hr hb .nil hx I (.cons rfl (.cons ry .nil)) q) ?_)
  rintro r s1 ⟨w, H1, I1, rw', b, rfl, q1⟩
  obtain rfl : r = Value.bool b := rw'
  refine wpAny_truthy_bool ?_
  exact ⟨.bl (!b), H1, I1, rfl, by simpa using q1⟩
/-- o.m(k = v, ..) -/
def tMethK (C : Addr) (m : Str) (n : Nat) (sp : Sp) (gV : List V → List V → List V) (E : XK) (ta : TE) (tk : TA) : TE := fun σ H Q => ta σ H fun x H1 => ∃ a dx fs, x = .ref a ∧ H1 a = some (.ins C dx fs) ∧ fs.lookup m = none ∧ tk σ H1 fun zs H2 => zs.length = n ∧ sp (gV [x] zs) H2 Q E
theorem pe_methK {g : List Value → List Value → List Value} {gV : List V → List V → List V} {o : Expr} {ta : TE} {tk : TA} {kws : List Keyword} {apos pos : Pos} {pl : Sem Bool} (he : PE X o ta) (c : Cls X.K C) (hm : Meth X.K C m f) (F : FnOk X.prog X.w X.K X.mg X.base CX k f fd ps sp) (hr : Room k X.A)
    (hb : KBn X.K fd ps 1 ks g gV) (hx : Passes CX X E) (hkw : PK X kws tk)
    (hall : ((backToKw pos (keywordEach kws X.env)).all fun x => x.1.isSome) = true := by rfl) (hks : (backToKw pos (keywordEach kws X.env)).filterMap (fun x => x.1) = ks := by rfl) (hpl : (((backTo pos (starEach [] X.env)).any fun x => x.1) || ((backToKw pos (keywordEach kws X.env)).any fun x => x.1.isNone)) = false := by rfl)
    (ht : eval (.Call (.Attribute o m apos) [] kws pos) X.env = (do
      let ov ← eval o X.env
      standAt apos.atName
      let (f, first) ← holding [ov] (getMethod ov m pl)
      callWith pos f first (backTo pos (starEach [] X.env)) (backToKw pos (keywordEach kws X.env))) := by rfl) : PE X (.Call (.Attribute o m apos) [] kws pos) (tMethK C m ks.length sp gV E ta tk) where
  run := by
    intro pins s σ H Q I h
    refine PySem.W.methodCall_KW (pl := pl) (thn (he.run pins s σ H _ I h) ?_) ht
    rintro u s1 ⟨x, H1, I1, rx, a, dx, fs, rfl, ea, l, q⟩
    obtain rfl : u = Value.ref a := rx
    refine getmeth_ok I1 ea c hm l ?_
    refine PySem.W.callWith_KW0 (first := [.ref a]) (h₀ := X.base) I1.ok.mod.kin hm.kp hall (thn (hkw.run pos pins s1 σ H1 _ I1 q) ?_) hpl
    rintro ws s2 ⟨zs, H2, I2, rz, l2, q2⟩
    refine ⟨I2.kIn, ?_⟩
    rw [hks]
    have r1 : Vals [V.ref a] [Value.ref a] := .cons rfl .nil
    have r2 := hb.rel r1 rz
    refine wpAny_call (codeAny_mono (F.run X.A X.stack s2 H2 ⟨[.ref a], ks.zip ws⟩ (g [.ref a] ws) (gV [.ref a] zs) Q E hr I2.env0 (hb.to s2 [.ref a] ws I2.kIn rfl ((Vals.length rz).symm.trans l2)) r2 q2) fun res s' q => ?_)
    match res, q with
    | .error e, q => exact hx pins σ H2 s2 e s' I2 q
    | .ok (.ret u), q => exact Inv.after I2 q
theorem run_in2 {pins : List (Addr × Obj)} {σ : L2.St} {H : Hp} {s : Shared} {Q : VK} {us : List Value} {vs : List V} (F : FnOk X.prog X.w X.K X.mg X.base CX k f fd ps sp) (hr : Room (k + 2) X.A) (hb : Binds X.K fd ps []) (hx : Passes CX X E)
    (I : Inv X pins σ H s) (r : Vals vs us) (h : sp vs H Q E) : wpAny (model X.prog X.w) X.A.in1.in1 (call (.ref f) us) (EP X pins σ Q) X.xe s := by
  have hl : us.length = ps.length := by rw [← F.len _ _ _ _ h]; exact (Vals.length r).symm
  have b := hb s us I.kIn (by rw [List.append_nil]; exact hl)
  rw [List.append_nil] at b
  refine wpAny_call (codeAny_mono (F.run X.A.in1.in1 X.stack s H ⟨us, []⟩ us vs Q E hr.in1.in1 I.env0.in1.in1 b r h) fun res s' q => ?_)
  match res, q with
  | .error e, q => exact hx pins σ H s e s' I q
  | .ok (.ret u), q => exact Inv.after I q
/-- str(o) by an own __str__ -/
def rStrO (C : Addr) (sp : Sp) (E : XK) : List V → Hp → VK → Prop := fun xs H Q => ∃ a dx fs, xs = [.ref a] ∧ H a = some (.ins C dx fs) ∧ sp [.ref a] H (fun v H2 => ∃ z, v = .str z ∧ Q (.str z) H2) E
theorem call_strO (hm : Meth X.K C "__str__" f) (F : FnOk X.prog X.w X.K X.mg X.base CX k f fd ps sp) (hr : Room (k + 2) X.A) (hb : Binds X.K fd ps []) (hx : Passes CX X E) : CallR X (.type "str") (rStrO C sp E) := by
  intro pins s σ H xs us Q I r h
  obtain ⟨a, dx, fs, rfl, ea, q⟩ := h
  match us, r with
  | [u], .cons ru .nil =>
    obtain rfl : u = Value.ref a := ru
    obtain ⟨ox, od, J⟩ := ins_at I ea
    refine PySem.W.kso_call ?_ I.kIn J hm.at_ hm.fn (thn (run_in2 (vs := [.ref a]) (us := [.ref a]) F hr hb hx I (.cons rfl .nil) q) ?_)
    · have := hr.un
      show X.A.units + 1 + 1 < cLine
      omega
    · rintro w s1 ⟨v, H1, I1, rv, z, rfl, q1⟩
      obtain ⟨t, rfl⟩ := rv
      exact ⟨.str z, H1, I1, ⟨t, rfl⟩, q1⟩
end
end K1
end
section
set_option autoImplicit false
namespace K01
theorem lec_eq {c d : Cell} (h : ∀ k, LeC c k ↔ LeC d k) : c = d := by
  cases c with
  | none =>
    cases d with
    | none => rfl
    | some y =>
      obtain ⟨_, e, _⟩ := (h y).mpr ⟨y, rfl, Int.le_refl _⟩
      cases e
  | some x =>
    obtain ⟨y, rfl, h1⟩ := (h x).mp ⟨x, rfl, Int.le_refl _⟩
    obtain ⟨_, e, h2⟩ := (h y).mpr ⟨y, rfl, Int.le_refl _⟩
    cases e
    rw [Int.le_antisymm h2 h1]
/-- the law's closing tells just what a good matrix tells -/
theorem closed_cell {n : Nat} {E Z : List Edge} {B : Mat} (G : Good n Z B) (RZ : InR n Z) (R : InR n E) (hE : ∀ e ∈ E, e ∈ Z) (h0 : ∀ {y}, y < n → Le B 0 y 0) (hZ : ∀ e ∈ Z, e ∈ E ∨ (e.1 = 0 ∧ e.2.2 = 0)) {x y : Nat} (hx : x < n) (hy : y < n) :
    cell (closedM n E) x y = cell B x y := by
  obtain ⟨s1, s2, s3, s4⟩ := start_le R
  obtain ⟨dn, tri⟩ := fw_tri s1
  have ab := closed_above G h0 R hE
  have nn : NonNeg n (closedM n E) := fun hx q => G.diag hx (ab.2 hx hx q)
  have edge : ∀ e ∈ Z, Le (closedM n E) e.1 e.2.1 e.2.2 := fun e he => by
    rcases hZ e he with h | ⟨h1, h2⟩
    · exact dn.2 (R e h).1 (R e h).2 (s4 e h)
    · have hy := (RZ e he).2
      rw [h1, h2]
      exact dn.2 (by omega) hy (s2 hy)
  have walk : ∀ {u v : Nat} {c : Int}, Walk Z u v c → u < n → v < n → Le (closedM n E) u v c := by
    intro u v c w
    induction w with
    | nil u => intro hu _; exact dn.2 hu hu (s3 hu)
    | cons e w ih =>
      intro hu hv
      have hm := (RZ _ e).2
      exact tri nn hu hv hm (edge _ e) (ih hm hv)
  refine lec_eq fun k => ⟨fun q => ab.2 hx hy q, fun q => ?_⟩
  obtain ⟨c, h1, h2⟩ := G.walk hx hy q
  exact (walk h2 hx hy).mono h1
end K01
namespace K1
open PySem L2 K01
theorem eg_row0 {ms : List Str} {MS : List Fact} {B : Mat} (hN : (nodes ms).Nodup) (G : Good (ms.length + 1) (EG ms MS) B) {y : Nat} (hy : y < ms.length + 1) : Le B 0 y 0 := by
  cases y with
  | zero => exact G.diag0 (by omega)
  | succ i =>
    refine G.edge ?_
    unfold EG
    rw [List.map_append, zeros_edges hN]
    exact List.mem_append_right _ (List.mem_map.mpr ⟨i, List.mem_range.mpr (by omega), rfl⟩)
/-- the sheet's bounds are the law's rows -/
theorem rows_cell {ms : List Str} {MS : List Fact} {B : Mat} (hI : InN ms MS) (hN : (nodes ms).Nodup) (G : Good (ms.length + 1) (EG ms MS) B) {x y : Nat} (hx : x < ms.length + 1) (hy : y < ms.length + 1) :
    cell (closedM (ms.length + 1) (MS.map (eF ms))) x y = cell B x y := by
  have hIn : InN ms (MS ++ zeros ms) := fun f hf => by
    rcases List.mem_append.mp hf with hf | hf
    · exact hI f hf
    · exact zeros_in ms f hf
  refine closed_cell G hIn.inR hI.inR (fun e he => by unfold EG; rw [List.map_append]; exact List.mem_append_left _ he) (fun hy => eg_row0 hN G hy) (fun e he => ?_) hx hy
  unfold EG at he
  rw [List.map_append] at he
  rcases List.mem_append.mp he with he | he
  · exact .inl he
  · rw [zeros_edges hN] at he
    obtain ⟨a, b, d⟩ := e
    have := zero_mem he
    exact .inr ⟨this.1, this.2.1⟩
end K1
end
section
set_option maxRecDepth 100000
set_option maxHeartbeats 4000000
namespace K1
open PySem L2 K01
section
variable {P : Program} {w : World} {K : PySem.W.Frag} {mg : Str → Option Value} {base : Heap}
abbrev sAre : Stmt := top 4
/-- a tuple of ints, or one that is not so long -/
def spAre (K : PySem.W.Frag) : Sp := fun vs H Q _ => ∃ (p : Addr) (xs : List Int) (m : Nat), vs = [.ref p, .int m] ∧ SqT K H p (xs.map V.int) ∧ xs.length ≤ 900 ∧ ∀ H', Same H H' → Q (.bl (decide (xs.length = m))) H'
theorem scAre : FnScope ["x", "many", "number"] ["x", "many"] (defScope sAre) := ⟨rfl, rfl, rfl, by decide +kernel, rfl, by decide +kernel, by decide +kernel⟩
theorem ok_are {f fW : Addr} {fd fdW : FuncData} (F : Fun K "are_numbers" "are_numbers" sAre f fd) (T : Bi mg) (hall : mg "all" = none) (FW : Fun K "is_whole" "is_whole" sWhole fW fdW) (bW : Binds K fdW ["x"] []) (mW : mg "is_whole" = some (.ref fW)) :
    FnOk P w K mg base CX0 2 f fd ["x", "many"] (spAre K) := by
  have GW : FnOk P w K mg base CX0 1 fW fdW ["x"] (spWhole K) := ok_whole FW T
  refine F.ok scAre (fun vs H Q E h => ?_) (fun cdv A outer s H vs Q E hr h => ?_)
  · obtain ⟨_, _, _, rfl, _⟩ := h
    rfl
  · obtain ⟨p, xs, m, rfl, hp, hx, k⟩ := h
    have hr1 : Room 1 _ := hr.mono (by decide)
    refine ⟨_, pss_one (ps_ret (pe_and (pe_callB call_isi (by rfl) T.isinstance (by decide +kernel) (pa_cons (pv 0) (pa_cons (pe_ty (n := "tuple") (by rfl) T.tuple (by decide +kernel)) pa_nil)))
      (pe_and (pe_cmpR op_eq (pe_callB call_len_seq (by rfl) T.len PySem.boot_len (pa_cons (pv 0) pa_nil)) (pv 1) (nomark _))
      (pe_one (pe_callB (cr_all rfl) (by rfl) hall (by decide +kernel) (pa_cons (pe_lc (own := [("number", 2)]) (g := gName 2) (te := tCall (spWhole K) [] E0 (tCons (tVar 2) tNil)) rfl scAre.nd (pi_tup (pv 0)) (blkOk_by (N := ["x", "many", "number"]) (sc := defScope sAre) (by decide +kernel))
        (fun _ _ _ _ _ => pg_name (i := 2) scAre.nd rfl (.inl rfl)) (fun _ _ _ _ _ => pts_nil) (fun _ _ _ _ _ => pe_call GW hr1 rfl mW FW.kp bW .nil pass0 (pa_cons (pv 2) pa_nil))) pa_nil)))))), ?_⟩
    refine ⟨_, rfl, _, _, _, _, true, rfl, .ty _, ty_sqt hp, kit_ty (by decide +kernel), _, rfl, iteT ?_⟩
    refine ⟨_, rfl, p, _, rfl, .inr hp, _, rfl, ?_⟩
    rw [List.length_map]
    by_cases e : xs.length = m
    · rw [decide_eq_true e] at k
      refine ⟨rfl, _, rfl, iteDT (by rw [e]) ?_⟩
      refine ⟨_, rfl, p, rfl, ⟨_, hp⟩, fun D hD => ?_⟩
      refine lc_it (walk_tup (K := K) (a := p) (xs := xs.map V.int)) (fun i H' => Same H H' ∧ H' D = some (.lst (((xs.take i).map fun _ => true).map V.bl))) ⟨Same.new hD, upd_same⟩ (fun i H' _ u => Same.tup u.1 hp) ?_ ?_
      · rintro i v Ha Hb hi ⟨q1, q2⟩ ⟨rfl, hv⟩
        obtain ⟨d, hdd, rfl⟩ := get_map hv
        rw [List.length_map] at hi
        refine ⟨rfl, yes_ ⟨_, rfl, .int d, rfl, .int d, _, q2, ?_, Same.set q1 hD, ?_⟩⟩
        · rw [List.length_map, List.length_map, List.length_take]
          exact Nat.lt_of_le_of_lt (Nat.min_le_left _ _) (small1000 (by omega))
        · rw [upd_same, take_snoc hdd, List.map_append, List.map_append]; rfl
      · rintro H2 ⟨q1, q2⟩
        refine ⟨D, _, rfl, SqL.of q2, ?_⟩
        rw [show (((xs.take (xs.map V.int).length).map fun _ => true).all id) = true from List.all_eq_true.mpr fun b hb => by obtain ⟨_, _, rfl⟩ := List.mem_map.mp hb; rfl]
        exact k _ q1
    · rw [decide_eq_false e] at k
      exact ⟨rfl, _, rfl, iteDF (fun q => e (by have := V.int.inj q; omega)) (k _ (Same.refl H))⟩
end
end K1
end
section
set_option maxRecDepth 100000
set_option maxHeartbeats 4000000
namespace K1
open PySem L2 K01
/-- a recording keeps to the bounds; its clock begins with zero -/
def Fits (n : Nat) (B : Mat) (cl : List Int) : Prop := ∀ i j d x y, i < n → j < n → cell B i j = some d → cl[i]? = some x → cl[j]? = some y → x - y ≤ d
section
variable {P : Program} {w : World} {K : PySem.W.Frag} {mg : Str → Option Value} {base : Heap}
abbrev sFits : Stmt := top 11
def spFits (K : PySem.W.Frag) : Sp := fun vs H Q _ => ∃ (a p : Addr) (B : Mat) (n : Nat) (xs : List Int), vs = [.ref a, .ref p] ∧ MatAt K H a B ∧ Sized n B ∧ n ≤ 900 ∧ SqT K H p (xs.map V.int) ∧ xs.length + 1 = n ∧
  ∀ b H', (b = true ↔ Fits n B (0 :: xs)) → Same H H' → Q (.bl b) H'
theorem scFits : FnScope ["bounds", "numbers", "clock", "here", "row", "there", "most"] ["bounds", "numbers"] (defScope sFits) := ⟨rfl, rfl, rfl, by decide +kernel, rfl, by decide +kernel, by decide +kernel⟩
theorem ok_fits {f : Addr} {fd : FuncData} (F : Fun K "fits" "fits" sFits f fd) (T : Bi mg) : FnOk P w K mg base CX0 1 f fd ["bounds", "numbers"] (spFits K) := by
  refine F.ok scFits (fun vs H Q E h => ?_) (fun cdv A outer s H vs Q E hr h => ?_)
  · obtain ⟨_, _, _, _, _, rfl, _⟩ := h
    rfl
  · obtain ⟨a, p, B, n, xs, rfl, hB, hS, hn, hp, hxl, k⟩ := h
    refine ⟨_, pss_cons (ps_set (i := 2) scFits.nd rfl (.inl rfl) (pe_op op_catT (pe_tup (pa_cons pe_int pa_nil)) (pv 1)))
      (pss_cons (ps_for PassesOwn.never rfl (RZ.pi_zipA (by rfl) T.zip (pa_cons (pv 2) (pa_cons (pv 0) pa_nil))) (pg_tup rfl (pgs_cons (pg_name (i := 3) scFits.nd rfl (.inl rfl)) (pgs_cons (pg_name (i := 4) scFits.nd rfl (.inl rfl)) pgs_nil)))
        (pss_one (ps_for PassesOwn.never rfl (RZ.pi_zipA (by rfl) T.zip (pa_cons (pv 2) (pa_cons (pv 4) pa_nil))) (pg_tup rfl (pgs_cons (pg_name (i := 5) scFits.nd rfl (.inl rfl)) (pgs_cons (pg_name (i := 6) scFits.nd rfl (.inl rfl)) pgs_nil)))
          (pss_one (ps_if (PW.pt (pw_and (pt_cmpR op_notN (pv 6) pe_non (nomark _)) (pw_and1 (pt_cmpR op_gt (pe_op op_sub (pv 3) (pv 5)) (pv 6) (nomark _))))) (pss_one (ps_ret pe_bl)) pss_nil)))))
      (pss_one (ps_ret pe_bl))), ?_⟩
    refine ⟨by show 1 ≤ sizeLine; decide, fun t0 ht0 => ⟨_, rfl, ?_⟩⟩
    have s0 : Same H (upd H t0 (.tup [.int 0])) := Same.new ht0
    refine catT_it tup_at (Same.tup s0 hp) (by simp) (by rw [List.length_map]; exact Nat.le_of_lt (small1000 (show 1 + xs.length ≤ 1000 by omega))) fun c H1 s1 hc => ?_
    have hc : SqT K H1 c ((0 :: xs).map V.int) := hc
    have s01 := s0.trans s1
    have hB1 := hB.same s01
    clear s0 hB hp
    dsimp only [gName]
    obtain ⟨as, al, ha, hrow⟩ := hB1
    have cl : (0 :: xs).length = n := by simpa using hxl
    have hll : ((0 :: xs).map V.int).length = (as.map V.ref).length := by rw [List.length_map, List.length_map, cl, al, hS.1]
    refine ⟨_, rfl, _, rfl, c, a, _, _, rfl, .inr ⟨hc, ha, ?_⟩⟩
    refine for_it (walk_zipT (K := K) (a := c) (b := a) hll) (fun i σ H' => (∃ v3 v4 v5 v6 : Option V, σ = [some (.ref a), some (.ref p), some (.ref c), v3, v4, v5, v6]) ∧ Same H1 H' ∧ ∀ i', i' < i → ∀ j d x y, i' < n → j < n → cell B i' j = some d → (0 :: xs)[i']? = some x → (0 :: xs)[j]? = some y → x - y ≤ d)
      ⟨⟨_, _, _, _, rfl⟩, Same.refl _, fun i' h => absurd h (Nat.not_lt_zero _)⟩ (fun i σ H' _ u => ⟨Same.tup u.2.1 hc, Same.tup u.2.1 ha⟩) ?_ ?_
    · rintro i v σ H2 H3 hi ⟨⟨v3, v4, v5, v6, rfl⟩, s2, old⟩ ⟨t, x, y, rfl, ht, rfl, hx, hy⟩
      obtain ⟨x, hxx, rfl⟩ := get_map hx
      obtain ⟨r, hr', rfl⟩ := get_map hy
      rw [List.length_map, cl] at hi
      have s3 : Same H1 (upd H2 t (.tup [.int x, .ref r])) := s2.trans (Same.new ht)
      refine ⟨t, _, rfl, tup_at, rfl, _, _, rfl, _, _, rfl, rfl, ?_⟩
      dsimp only [gName]
      generalize upd H2 t (.tup [.int x, .ref r]) = H4 at s3
      obtain ⟨rw0, hrw, hrl⟩ := hS.row hi
      have hR := Same.tup s3 (hrow i r rw0 hr' hrw)
      have hcR := Same.tup s3 hc
      have hl2 : ((0 :: xs).map V.int).length = (rw0.map cV).length := by rw [List.length_map, List.length_map, cl, hrl]
      have hcell : ∀ j d, rw0[j]? = some d → cell B i j = d := fun j d e => by unfold cell; rw [rowAt_of hrw, e]; rfl
      refine ⟨_, rfl, _, rfl, c, r, _, _, rfl, .inr ⟨hcR, hR, ?_⟩⟩
      refine for_it (walk_zipT (K := K) (a := c) (b := r) hl2) (fun j σ H' => (∃ v5 v6 : Option V, σ = [some (.ref a), some (.ref p), some (.ref c), some (.int x), some (.ref r), v5, v6]) ∧ Same H1 H' ∧ ∀ j', j' < j → ∀ d y, j' < n → cell B i j' = some d → (0 :: xs)[j']? = some y → x - y ≤ d)
        ⟨⟨_, _, rfl⟩, s3, fun j' h => absurd h (Nat.not_lt_zero _)⟩ (fun j σ H' _ u => ⟨Same.tup u.2.1 hc, Same.tup u.2.1 (hrow i r rw0 hr' hrw)⟩) ?_ ?_
      · rintro j v σ H5 H6 hj ⟨⟨v5, v6, rfl⟩, s5, old2⟩ ⟨t2, y, z, rfl, ht2, rfl, hy, hz⟩
        obtain ⟨y, hyy, rfl⟩ := get_map hy
        obtain ⟨m, hm, rfl⟩ := get_map hz
        clear hy
        rw [List.length_map, cl] at hj
        have s6 : Same H1 (upd H5 t2 (.tup [.int y, cV m])) := s5.trans (Same.new ht2)
        refine ⟨t2, _, rfl, tup_at, rfl, _, _, rfl, _, _, rfl, rfl, ?_⟩
        dsimp only [gName]
        have hcm := hcell j m hm
        refine ⟨_, rfl, rfl, _, rfl, ?_⟩
        have go : (∀ d, m = some d → x - y ≤ d) → ∀ j', j' < j + 1 → ∀ d y, j' < n → cell B i j' = some d → (0 :: xs)[j']? = some y → x - y ≤ d := by
          intro h j' hj' d y' hjn hd hy'
          rcases Nat.lt_succ_iff_lt_or_eq.mp hj' with h1 | rfl
          · exact old2 j' h1 d y' hjn hd hy'
          · rw [hyy] at hy'
            cases hy'
            exact h d (hcm.symm.trans hd)
        cases m with
        | none => exact iteNS rfl ⟨⟨_, _, rfl⟩, s6, go (fun d e => nomatch e)⟩
        | some d =>
          refine iteNF (fun e => nomatch e) ⟨_, rfl, _, rfl, _, _, rfl, rfl, _, rfl, _, _, rfl, rfl, _, rfl, ?_⟩
          by_cases g : x - y > d
          · refine iteDT g (k false _ ⟨(fun e => nomatch e), fun hF => absurd (hF i j d x y hi hj hcm hxx hyy) (by omega)⟩ (s01.trans s6))
          · refine iteDF g ⟨⟨_, _, rfl⟩, s6, go (fun d' e => by cases e; omega)⟩
      · rintro σ H5 ⟨⟨v5, v6, rfl⟩, s5, old2⟩
        rw [List.length_map, cl] at old2
        refine ⟨⟨_, _, _, _, rfl⟩, s5, fun i' hi' j d x' y hin hjn hd hx' hyy => ?_⟩
        rcases Nat.lt_succ_iff_lt_or_eq.mp hi' with h1 | rfl
        · exact old i' h1 j d x' y hin hjn hd hx' hyy
        · rw [hxx] at hx'
          cases hx'
          exact old2 j hjn d y hjn hd hyy
    · rintro σ H2 ⟨⟨v3, v4, v5, v6, rfl⟩, s2, old⟩
      rw [List.length_map, cl] at old
      exact k true _ ⟨fun _ i j d x y hi hj => old i hi j d x y hi hj, fun _ => rfl⟩ (s01.trans s2)
end
end K1
end
section
set_option maxRecDepth 100000
set_option maxHeartbeats 4000000
namespace K1
open PySem L2 K01
/-- one cell, told as a fact -/
def tightC (ns : List Str) (B : Mat) (i j : Nat) : List Fact := match cell B i j with
  | some d => if i ≠ j ∧ (i ≠ 0 ∨ d ≠ 0) then [(markAt ns i, markAt ns j, d)] else []
  | none => []
def tightR (ns : List Str) (B : Mat) (n i : Nat) : List Fact := (List.range n).flatMap (tightC ns B i)
/-- all greatest differences, row by row -/
def tightL (ns : List Str) (B : Mat) (n : Nat) : List Fact := (List.range n).flatMap (tightR ns B n)
theorem flat_snoc {α : Type} (f : Nat → List α) (k : Nat) : (List.range (k + 1)).flatMap f = (List.range k).flatMap f ++ f k := by
  rw [List.range_succ, List.flatMap_append]; simp
theorem markAt_get {ns : List Str} {i : Nat} {z : Str} (h : ns[i]? = some z) : markAt ns i = z := by unfold markAt; rw [h]; rfl
end K1
end
section
set_option maxRecDepth 100000
set_option maxHeartbeats 4000000
namespace K1
open PySem L2 K01
/-- a statement that is never come to -/
theorem ps_dead {X : Cx} {st : Stmt} : PS X st (fun _ _ _ => False) := ⟨fun _ _ _ _ _ _ h => h.elim⟩
/-- a made sheet -/
structure ShI (K : PySem.W.Frag) (H : Hp) (C x a b c p : Addr) (ms ts : List Str) (MS : List Fact) (B : Mat) : Prop where
  at_ : ∃ dx, H x = some (.ins C dx (f5 a b c p))
  ha : strsT K H a ms
  hb : strsT K H b ts
  hc : TTAt K H c (MS.map factV)
  hp : MatAt K H p B
/-- what a made sheet knows -/
structure ShG (ms : List Str) (MS : List Fact) (B : Mat) : Prop where
  ml : ms.length ≤ 28
  fl : MS.length ≤ 100
  nd : (nodes ms).Nodup
  inn : InN ms MS
  good : Good (ms.length + 1) (EG ms MS) B
theorem ShI.same {K : PySem.W.Frag} {H H' : Hp} {C x a b c p : Addr} {ms ts : List Str} {MS : List Fact} {B : Mat} (e : Same H H') (h : ShI K H C x a b c p ms ts MS B) : ShI K H' C x a b c p ms ts MS B := by
  obtain ⟨dx, h1⟩ := h.at_
  exact ⟨⟨dx, e _ _ h1⟩, Same.tup e h.ha, Same.tup e h.hb, h.hc.same e, h.hp.same e⟩
theorem look5 {a b c p : Addr} {f : Str} (h : f ≠ "marks" ∧ f ≠ "takes" ∧ f ≠ "facts" ∧ f ≠ "_limits" ∧ f ≠ "bounds") : List.lookup f (f5 a b c p) = none := by
  obtain ⟨h1, h2, h3, h4, h5⟩ := h
  have e1 : (f == ("marks" : Str)) = false := beq_eq_false_iff_ne.mpr h1
  have e2 : (f == ("takes" : Str)) = false := beq_eq_false_iff_ne.mpr h2
  have e3 : (f == ("facts" : Str)) = false := beq_eq_false_iff_ne.mpr h3
  have e4 : (f == ("_limits" : Str)) = false := beq_eq_false_iff_ne.mpr h4
  have e5 : (f == ("bounds" : Str)) = false := beq_eq_false_iff_ne.mpr h5
  simp [List.lookup, e1, e2, e3, e4, e5]
theorem look_b {u v x y z : V} {r : List (Str × V)} : List.lookup ("bounds" : Str) (("marks", u) :: ("takes", v) :: ("facts", x) :: ("_limits", y) :: ("bounds", z) :: r) = some z := by
  have h1 : (("bounds" : Str) == "marks") = false := by decide +kernel
  have h2 : (("bounds" : Str) == "takes") = false := by decide +kernel
  have h3 : (("bounds" : Str) == "facts") = false := by decide +kernel
  have h4 : (("bounds" : Str) == "_limits") = false := by decide +kernel
  simp [List.lookup, h1, h2, h3, h4]
section
variable {P : Program} {w : World} {K : PySem.W.Frag} {mg : Str → Option Value} {base : Heap}
/-! ### the place of a name -/
abbrev sSpot : Stmt := inClass (top 47) 2
def spSpot (K : PySem.W.Frag) (C : Addr) : Sp := fun vs H Q _ => ∃ (x a b c p : Addr) (ms ts : List Str) (MS : List Fact) (B : Mat) (z : Str), vs = [.ref x, .str z] ∧ ShI K H C x a b c p ms ts MS B ∧ ShG ms MS B ∧ z ∈ nodes ms ∧ ∀ H', Same H H' → Q (.int (ix ms z : Nat)) H'
theorem scSpot : FnScope ["self", "name", "spot", "known"] ["self", "name"] (defScope sSpot) := ⟨rfl, rfl, rfl, by decide +kernel, rfl, by decide +kernel, by decide +kernel⟩
theorem ok_spot {f fN C : Addr} {fd fdN : FuncData} (F : Fun K "spot" "Sheet.spot" sSpot f fd) (T : Bi mg) (S : ShT K C) (FN : Fun K "names_of" "names_of" sNames fN fdN) (bN : Binds K fdN ["marks"] []) (mN : mg "names_of" = some (.ref fN)) :
    FnOk P w K mg base CX0 2 f fd ["self", "name"] (spSpot K C) := by
  have GN : FnOk P w K mg base CX0 1 fN fdN ["marks"] (spNames K) := ok_names FN
  refine F.ok scSpot (fun vs H Q E h => ?_) (fun cdv A outer s H vs Q E hr h => ?_)
  · obtain ⟨_, _, _, _, _, _, _, _, _, _, rfl, _⟩ := h
    rfl
  · obtain ⟨x, a, b, c, p, ms, ts, MS, B, z, rfl, hI, hG, hz, k⟩ := h
    refine ⟨_, pss_cons (ps_for PassesOwn.never rfl (pi_enumT (by rfl) T.enumerate (pa_cons (pe_call GN hr rfl mN FN.kp bN .nil pass0 (pa_cons (pe_fld (pv 0) rfl) pa_nil)) pa_nil)) (pg_tup rfl (pgs_cons (pg_name (i := 2) scSpot.nd rfl (.inl rfl)) (pgs_cons (pg_name (i := 3) scSpot.nd rfl (.inl rfl)) pgs_nil)))
        (pss_one (ps_if (pt_cmpR op_eq (pv 3) (pv 1) (nomark _)) (pss_one (ps_ret (pv 2))) pss_nil))) (pss_one ps_dead), ?_⟩
    obtain ⟨dx, hx⟩ := hI.at_
    have hml := hG.ml
    refine ⟨_, rfl, x, C, dx, _, _, rfl, hx, S.cl, S.nm, look_m, ?_⟩
    refine ⟨a, ms, rfl, hI.ha, by omega, fun H1 u s1 hu => ?_⟩
    have hu : SqT K H1 u ((nodes ms).map V.str) := hu
    refine ⟨u, _, rfl, hu, for_it (walk_enumT (K := K) (a := u)) (fun i σ H' => (∃ v1 v2 : Option V, σ = [some (.ref x), some (.str z), v1, v2]) ∧ Same H1 H' ∧ i ≤ ix ms z)
      ⟨⟨_, _, rfl⟩, Same.refl _, Nat.zero_le _⟩ (fun i σ H' _ q => Same.tup q.2.1 hu) ?_ ?_⟩
    · rintro i v σ H2 H3 hi ⟨⟨v1, v2, rfl⟩, s2, old⟩ ⟨t, y, y2, rfl, ht, rfl, hy, hy2⟩
      obtain ⟨n, hn, rfl⟩ := get_map hy2
      cases hy
      have s3 : Same H1 (upd H2 t (.tup [.int (i : Nat), .str n])) := s2.trans (Same.new ht)
      refine ⟨t, _, rfl, tup_at, rfl, _, _, rfl, _, _, rfl, rfl, ?_⟩
      refine ⟨_, rfl, _, rfl, rfl, _, rfl, ?_⟩
      have hg := ix_get hz
      by_cases e : n = z
      · refine iteDT (by rw [e]) ⟨_, rfl, ?_⟩
        have : i = ix ms z := nodup_get hG.nd (by rw [e] at hn; exact hn) hg
        rw [this]
        exact k _ (s1.trans (by rw [this] at s3; exact s3))
      · refine iteDF (fun q => e (V.str.inj q)) ⟨⟨_, _, rfl⟩, s3, ?_⟩
        rcases Nat.lt_or_eq_of_le old with h | h
        · exact h
        · rw [← h, hn] at hg
          exact absurd (Option.some.inj hg) e
    · rintro σ H2 ⟨⟨v1, v2, rfl⟩, s2, old⟩
      rw [List.length_map] at old
      have := ix_lt hz
      have hl : (nodes ms).length = ms.length + 1 := rfl
      exact absurd old (by omega)
/-! ### x, y asked -/
abbrev sGet : Stmt := inClass (top 47) 3
def spGet (K : PySem.W.Frag) (C : Addr) : Sp := fun vs H Q _ => ∃ (x t a b c p : Addr) (ms ts : List Str) (MS : List Fact) (B : Mat) (u v : Str), vs = [.ref x, .ref t] ∧ ShI K H C x a b c p ms ts MS B ∧ ShG ms MS B ∧ SqT K H t [.str u, .str v] ∧ u ∈ nodes ms ∧ v ∈ nodes ms ∧ ∀ H', Same H H' → Q (cV (cell B (ix ms u) (ix ms v))) H'
theorem scGet : FnScope ["self", "at", "x", "y", "one"] ["self", "at"] (defScope sGet) := ⟨rfl, rfl, rfl, by decide +kernel, rfl, by decide +kernel, by decide +kernel⟩
theorem ok_get {f fS C : Addr} {fd fdS : FuncData} (F : Fun K "__getitem__" "Sheet.__getitem__" sGet f fd) (S : ShT K C) (mS : Meth K C "spot" fS) (bS : Binds K fdS ["self", "name"] []) (GS : FnOk P w K mg base CX0 2 fS fdS ["self", "name"] (spSpot K C)) :
    FnOk P w K mg base CX0 3 f fd ["self", "at"] (spGet K C) := by
  refine F.ok scGet (fun vs H Q E h => ?_) (fun cdv A outer s H vs Q E hr h => ?_)
  · obtain ⟨_, _, _, _, _, _, _, _, _, _, _, _, rfl, _⟩ := h
    rfl
  · obtain ⟨x, t, a, b, c, p, ms, ts, MS, B, u, v, rfl, hI, hG, ht, hu, hv, k⟩ := h
    refine ⟨_, pss_cons (ps_asg (pv 1) (pg_tup rfl (pgs_cons (pg_name (i := 2) scGet.nd rfl (.inl rfl)) (pgs_cons (pg_name (i := 3) scGet.nd rfl (.inl rfl)) pgs_nil))))
      (pss_cons (ps_set (i := 4) scGet.nd rfl (.inl rfl) (pe_meth (pv 0) S.cl mS GS hr bS .nil pass0 (pa_cons (pv 2) pa_nil)))
      (pss_one (ps_ret (pe_ix ix_tup (pe_ix ix_tup (pe_fld (pv 0) rfl) (pv 4) (fun _ _ => rfl)) (pe_meth (pv 0) S.cl mS GS hr bS .nil pass0 (pa_cons (pv 3) pa_nil)) (fun _ _ => rfl))))), ?_⟩
    have ns : ∀ {a b c p : Addr}, List.lookup ("spot" : Str) (f5 a b c p) = none := look5 (by decide +kernel)
    obtain ⟨dx, hx⟩ := hI.at_
    refine ⟨_, rfl, t, _, rfl, ht, rfl, _, _, rfl, _, _, rfl, rfl, ?_⟩
    refine ⟨_, rfl, x, dx, _, rfl, hx, ns, _, rfl, ?_⟩
    refine ⟨x, a, b, c, p, ms, ts, MS, B, u, rfl, hI, hG, hu, fun H1 s1 => ?_⟩
    have hI1 := hI.same s1
    have hx1 := s1 _ _ hx
    obtain ⟨xs, r, h1, h2, h3⟩ := hI1.hp.row hG.good.sized (ix_lt hu)
    refine ⟨_, rfl, x, C, dx, _, _, rfl, hx1, S.cl, S.nb, look_b, _, rfl, _, _, _, _, rfl, rfl, h1, atI_nat h2, ?_⟩
    refine ⟨_, rfl, x, dx, _, rfl, hx1, ns, _, rfl, ?_⟩
    refine ⟨x, a, b, c, p, ms, ts, MS, B, v, rfl, hI1, hG, hv, fun H2 s2 => ?_⟩
    exact ⟨_, _, _, _, rfl, rfl, Same.tup s2 h3, atI_nat (row_cell hG.good.sized (ix_lt hu) (ix_lt hv)), k _ (s1.trans s2)⟩
end
end K1
end
section
set_option maxRecDepth 100000
set_option maxHeartbeats 4000000
namespace K1
open PySem L2 K01
section
variable {P : Program} {w : World} {K : PySem.W.Frag} {mg : Str → Option Value} {base : Heap}
theorem nodes_comm {ms : List Str} {MS : List Fact} : EG ms MS = (MS ++ zeros ms).map (eF ms) := rfl
/-! ### least -/
/-- the numbers of the first row -/
def leastOf (n : Nat) (B : Mat) : List Int := (List.range n).map fun j => (cell B 0 j).getD 0
theorem row0_of {ms : List Str} {MS : List Fact} {B : Mat} (hG : ShG ms MS B) : rowAt B 0 = (leastOf (ms.length + 1) B).map some := by
  have hl := hG.good.sized.rowAt (x := 0) (by omega)
  refine List.ext_getElem (by unfold leastOf; simp [hl]) fun i h1 h2 => ?_
  have hi : i < ms.length + 1 := by omega
  obtain ⟨d, hd, _⟩ := eg_row0 hG.nd hG.good hi
  have e : rowAt B 0 = rowAt B 0 := rfl
  have hc : (rowAt B 0)[i]? = some (some d) := by
    have : cell B 0 i = ((rowAt B 0)[i]?).getD none := rfl
    rw [hd, List.getElem?_eq_getElem h1] at this
    rw [List.getElem?_eq_getElem h1]
    exact congrArg some this.symm
  rw [List.getElem?_eq_getElem h1] at hc
  rw [Option.some.inj hc]
  unfold leastOf
  simp [hd]
/-! ### numbers in the sheet -/
abbrev sIn : Stmt := inClass (top 47) 7
def spIn (K : PySem.W.Frag) (C : Addr) : Sp := fun vs H Q _ => ∃ (x a b c p t : Addr) (ms ts : List Str) (MS : List Fact) (B : Mat) (xs : List Int), vs = [.ref x, .ref t] ∧ ShI K H C x a b c p ms ts MS B ∧ ShG ms MS B ∧ SqT K H t (xs.map V.int) ∧ xs.length ≤ 900 ∧
  ∀ r H', (r = true ↔ xs.length = ms.length ∧ Fits (ms.length + 1) B (0 :: xs)) → Same H H' → Q (.bl r) H'
theorem scIn : FnScope ["self", "numbers"] ["self", "numbers"] (defScope sIn) := ⟨rfl, rfl, rfl, by decide +kernel, rfl, by decide +kernel, by decide +kernel⟩
theorem ok_in {f fA fF fW C : Addr} {fd fdA fdF fdW : FuncData} (F : Fun K "__contains__" "Sheet.__contains__" sIn f fd) (S : ShT K C) (T : Bi mg) (hall : mg "all" = none) (FA : Fun K "are_numbers" "are_numbers" sAre fA fdA) (bA : Binds K fdA ["x", "many"] []) (mA : mg "are_numbers" = some (.ref fA))
    (FF : Fun K "fits" "fits" sFits fF fdF) (bF : Binds K fdF ["bounds", "numbers"] []) (mF : mg "fits" = some (.ref fF)) (FW : Fun K "is_whole" "is_whole" sWhole fW fdW) (bW : Binds K fdW ["x"] []) (mW : mg "is_whole" = some (.ref fW)) :
    FnOk P w K mg base CX0 3 f fd ["self", "numbers"] (spIn K C) := by
  have GA : FnOk P w K mg base CX0 2 fA fdA ["x", "many"] (spAre K) := ok_are FA T hall FW bW mW
  have GF : FnOk P w K mg base CX0 1 fF fdF ["bounds", "numbers"] (spFits K) := ok_fits FF T
  refine F.ok scIn (fun vs H Q E h => ?_) (fun cdv A outer s H vs Q E hr h => ?_)
  · obtain ⟨_, _, _, _, _, _, _, _, _, _, _, rfl, _⟩ := h
    rfl
  · obtain ⟨x, a, b, c, p, t, ms, ts, MS, B, xs, rfl, hI, hG, ht, hxl, k⟩ := h
    have hr1 : Room 1 _ := hr.mono (by decide)
    refine ⟨_, pss_one (ps_ret (pe_and (pe_call GA hr rfl mA FA.kp bA .nil pass0 (pa_cons (pv 1) (pa_cons (pe_callB call_len_seq (by rfl) T.len PySem.boot_len (pa_cons (pe_fld (pv 0) rfl) pa_nil)) pa_nil)))
      (pe_one (pe_call GF hr1 rfl mF FF.kp bF .nil pass0 (pa_cons (pe_fld (pv 0) rfl) (pa_cons (pv 1) pa_nil)))))), ?_⟩
    obtain ⟨dx, hx⟩ := hI.at_
    have hml := hG.ml
    refine ⟨_, rfl, _, rfl, x, C, dx, _, _, rfl, hx, S.cl, S.nm, look_m, a, _, rfl, .inr hI.ha, ?_⟩
    rw [List.length_map]
    refine ⟨t, xs, ms.length, rfl, ht, hxl, fun H1 s1 => ?_⟩
    by_cases e : xs.length = ms.length
    · rw [decide_eq_true e]
      refine ⟨_, rfl, iteT ?_⟩
      refine ⟨_, rfl, x, C, dx, _, _, rfl, s1 _ _ hx, S.cl, S.nb, look_b, _, rfl, ?_⟩
      exact ⟨p, t, B, ms.length + 1, xs, rfl, (hI.same s1).hp, hG.good.sized, by omega, Same.tup s1 ht, by omega, fun r H2 hr' s2 => k r H2 ⟨fun q => ⟨e, hr'.mp q⟩, fun q => hr'.mpr q.2⟩ (s1.trans s2)⟩
    · rw [decide_eq_false e]
      exact ⟨_, rfl, iteF (k false H1 ⟨(fun q => nomatch q), fun q => absurd q.1 e⟩ s1)⟩
end
end K1
end
section
set_option autoImplicit false
namespace K01
/-- a mark is fixed at a number that it can have -/
theorem fix_good {m : Nat} {E : List Edge} {B : Mat} (G : Good (m + 1) E B) (R : InR (m + 1) E) {ax : Nat} (h1 : 1 ≤ ax) (h2 : ax ≤ m) {s : Int} (hlo : ∀ k, Le B 0 ax k → 0 ≤ k + s) (hhi : ∀ k, Le B ax 0 k → s ≤ k) :
    ∃ B', Good (m + 1) (E ++ [(ax, 0, s), (0, ax, -s)]) B' := by
  have hx : ax < m + 1 := by omega
  have h0 : 0 < m + 1 := by omega
  have G1 := tight_good G R hx h0 hlo
  have R1 : InR (m + 1) (E ++ [(ax, 0, s)]) := fun e he => by
    rcases List.mem_append.mp he with he | he
    · exact R e he
    · rw [List.mem_singleton] at he
      rw [he]; exact ⟨hx, h0⟩
  have G2 := tight_good G1 R1 h0 hx (c := -s) (fun k hk => by
    rcases (tight_le G hx h0 hx h0).mp hk with h | h
    · have := hhi k h; omega
    · obtain ⟨p, q, hp, hq, hpq⟩ := h
      have h3 := G.diag hx hp
      have h4 := G.diag h0 hq
      omega)
  exact ⟨_, by rw [List.append_assoc] at G2; exact G2⟩
/-- with more edges nothing grows -/
theorem Good.sub {n : Nat} {E F : List Edge} {B C : Mat} (G : Good n E B) (G2 : Good n F C) (R : InR n F) (h : ∀ e ∈ E, e ∈ F) {x y : Nat} {k : Int} (hx : x < n) (hy : y < n) (q : Le B x y k) : Le C x y k := by
  obtain ⟨c, h1, h2⟩ := G.walk hx hy q
  exact (G2.leW R (h2.mono h) hx hy).mono h1
end K01
end
section
set_option maxRecDepth 100000
set_option maxHeartbeats 4000000
namespace K1
open PySem PyProof.Rows L2 K01
theorem zrow {m : Nat} {E : List Edge} {B : Mat} (G : Good (m + 1) (E ++ zeroE m) B) {y : Nat} (hy : y < m + 1) : Le B 0 y 0 := by
  cases y with
  | zero => exact G.diag0 (by omega)
  | succ i => exact G.edge (List.mem_append_right _ (List.mem_map.mpr ⟨i, List.mem_range.mpr (by omega), rfl⟩))
theorem zinr {m : Nat} {E : List Edge} (R : InR (m + 1) E) : InR (m + 1) (E ++ zeroE m) := fun e he => by
  rcases List.mem_append.mp he with he | he
  · exact R e he
  · obtain ⟨a, b, c⟩ := e
    obtain ⟨h1, _, _, h2⟩ := zero_mem he
    exact ⟨by show a < _; omega, h2⟩
theorem zcell {m : Nat} {E : List Edge} {B : Mat} (G : Good (m + 1) (E ++ zeroE m) B) (R : InR (m + 1) E) {x y : Nat} (hx : x < m + 1) (hy : y < m + 1) : cell (closedM (m + 1) E) x y = cell B x y :=
  closed_cell G (zinr R) R (fun e he => List.mem_append_left _ he) (fun hy => zrow G hy) (fun e he => by
    rcases List.mem_append.mp he with he | he
    · exact .inl he
    · obtain ⟨a, b, c⟩ := e
      obtain ⟨h1, h2, _, _⟩ := zero_mem he
      exact .inr ⟨h1, h2⟩) hx hy
theorem znegs {m : Nat} {E : List Edge} {B : Mat} (G : Good (m + 1) (E ++ zeroE m) B) (R : InR (m + 1) E) : negs (m + 1) (closedM (m + 1) E) = [] :=
  negs_good G (fun hy => zrow G hy) R fun e he => List.mem_append_left _ he
theorem zfix {m : Nat} {E : List Edge} {B : Mat} (G : Good (m + 1) (E ++ zeroE m) B) (R : InR (m + 1) E) {ax : Nat} (h1 : 1 ≤ ax) (h2 : ax ≤ m) {s : Int} (hlo : ∀ k, Le B 0 ax k → 0 ≤ k + s) (hhi : ∀ k, Le B ax 0 k → s ≤ k) :
    ∃ B', Good (m + 1) ((E ++ [(ax, 0, s), (0, ax, -s)]) ++ zeroE m) B' := by
  obtain ⟨B', h⟩ := fix_good G (zinr R) h1 h2 hlo hhi
  refine ⟨B', h.perm fun e => ?_⟩
  simp only [List.mem_append]
  constructor
  · rintro ((h | h) | h)
    · exact .inl (.inl h)
    · exact .inr h
    · exact .inl (.inr h)
  · rintro ((h | h) | h)
    · exact .inl (.inl h)
    · exact .inr h
    · exact .inl (.inr h)
theorem closed_sized {n : Nat} {E : List Edge} (R : InR n E) : Sized n (closedM n E) := (fw_tri (start_le R).1).1.1
/-- the least numbers of a narrower sheet fit the wider one -/
theorem least_fits {m : Nat} {E F : List Edge} {B C : Mat} (G : Good (m + 1) E B) (G2 : Good (m + 1) F C) (R : InR (m + 1) F) (h : ∀ e ∈ E, e ∈ F) {xs : List Int} (hl : xs.length = m) (hx : ∀ i x, xs[i]? = some x → cell C 0 (i + 1) = some (-x)) : Fits (m + 1) B (0 :: xs) := by
  have h00 : cell C 0 0 = some 0 := by
    obtain ⟨d, hd, h1⟩ := G2.diag0 (x := 0) (by omega)
    have := G2.diag (x := 0) (k := d) (by omega) ⟨d, hd, Int.le_refl _⟩
    rw [hd]; congr 1; omega
  have at_ : ∀ i x, (0 :: xs)[i]? = some x → cell C 0 i = some (-x) := fun i x e => by
    cases i with
    | zero => cases e; exact h00
    | succ i => exact hx i x e
  intro i j d x y hi hj hd ex ey
  have c := G.sub G2 R h hi hj ⟨d, hd, Int.le_refl _⟩
  obtain ⟨e, he, hle⟩ := G2.tri (by omega : 0 < m + 1) hj hi ⟨_, at_ i x ex, Int.le_refl _⟩ c
  rw [at_ j y ey] at he
  cases he
  omega
section
variable {P : Program} {w : World} {K : PySem.W.Frag} {mg : Str → Option Value} {base : Heap}
abbrev sDR : Stmt := top 61
def spDR (K : PySem.W.Frag) : Sp := fun vs H Q _ => ∃ (p a c : Addr) (ms : List Str) (MS : List Fact) (B : Mat) (far z : Int), vs = [.ref p, .ref a, .ref c, .int far] ∧ PitAt H p z ∧ z ≤ 900000 ∧ strsT K H a ms ∧ ShG ms MS B ∧ TTAt K H c (MS.map factV) ∧ 0 ≤ far ∧ far ≤ 10 ^ 12 ∧
  ∀ H' t xs, But p H H' → PitAt H' p (z + 28) → SqT K H' t (xs.map V.int) → xs.length = ms.length → Fits (ms.length + 1) B (0 :: xs) → Q (.ref t) H'
abbrev nsDR : List Str := ["pit", "marks_here", "facts_here", "far", "known", "ax", "rows", "low", "room", "sum_here"]
theorem scDR : FnScope nsDR ["pit", "marks_here", "facts_here", "far"] (defScope sDR) := ⟨rfl, rfl, rfl, by decide +kernel, rfl, by decide +kernel, by decide +kernel⟩
theorem ok_dr {f fN fC fH : Addr} {fd fdN fdC fdH : FuncData} (F : Fun K "_law_drawn_recording" "_law_drawn_recording" sDR f fd) (T : Bi mg) (FN : Fun K "_law_numbered" "_law_numbered" sNum fN fdN) (bN : Binds K fdN ["marks_here", "facts_here"] []) (mN : mg "_law_numbered" = some (.ref fN))
    (FC : Fun K "_law_closed" "_law_closed" sClosed fC fdC) (bC : Binds K fdC ["many", "facts_here"] []) (mC : mg "_law_closed" = some (.ref fC)) (FH : Fun K "_law_hoist" "_law_hoist" sHoist fH fdH) (bH : Binds K fdH ["pit", "below"] []) (mH : mg "_law_hoist" = some (.ref fH)) :
    FnOk P w K mg base CX0 2 f fd ["pit", "marks_here", "facts_here", "far"] (spDR K) := by
  have GN : FnOk P w K mg base CX0 1 fN fdN ["marks_here", "facts_here"] (spNum K) := ok_num FN T
  have GC : FnOk P w K mg base CX0 1 fC fdC ["many", "facts_here"] (spClosed K) := ok_closed FC T
  have GH : FnOk P w K mg base CX0 1 fH fdH ["pit", "below"] (spHoist K) := ok_hoist FH T
  refine F.ok scDR (fun vs H Q E h => ?_) (fun cdv A outer s H vs Q E hr h => ?_)
  · obtain ⟨_, _, _, _, _, _, _, _, rfl, _⟩ := h
    rfl
  · obtain ⟨p, a, c, ms, MS, B, far, z, rfl, hp, hz, hm, hG, hc, hf0, hf1, k⟩ := h
    refine ⟨_, pss_cons (ps_set (i := 4) scDR.nd rfl (.inl rfl) (pe_callTy call_list_of (by rfl) T.list (by decide +kernel) (pa_cons (pe_call GN hr rfl mN FN.kp bN .nil pass0 (pa_cons (pv 1) (pa_cons (pv 2) pa_nil))) pa_nil)))
      (pss_cons (ps_for PassesOwn.never rfl (pi_range2 (by rfl) T.range (pa_cons pe_int (pa_cons (pe_op op_add (pe_callB call_len_seq (by rfl) T.len PySem.boot_len (pa_cons (pv 1) pa_nil)) pe_int) pa_nil))) (pg_name (i := 5) scDR.nd rfl (.inl rfl))
        (pss_cons (ps_set (i := 6) scDR.nd rfl (.inr rfl) (pe_call GC hr rfl mC FC.kp bC .nil pass0 (pa_cons (pe_callB call_len_seq (by rfl) T.len PySem.boot_len (pa_cons (pv 1) pa_nil)) (pa_cons (pv 4) pa_nil))))
        (pss_cons (ps_set (i := 7) scDR.nd rfl (.inl rfl) (pe_un un_neg (pe_ix ix_list (pe_ix ix_list (pv 6) pe_int (fun _ _ => rfl)) (pv 5) (fun _ _ => rfl))))
        (pss_cons (ps_set (i := 8) scDR.nd rfl (.inl rfl) (pe_ifExp (pt_cmpR op_isN (pe_ix ix_list (pe_ix ix_list (pv 6) (pv 5) (fun _ _ => rfl)) pe_int (fun _ _ => rfl)) pe_non (nomark _)) (pv 3)
            (pe_callB (call_min2 rfl) (by rfl) T.min (by decide +kernel) (pa_cons (pv 3) (pa_cons (pe_op op_sub (pe_ix ix_list (pe_ix ix_list (pv 6) (pv 5) (fun _ _ => rfl)) pe_int (fun _ _ => rfl)) (pv 7)) pa_nil)))))
        (pss_cons (ps_set (i := 9) scDR.nd rfl (.inl rfl) (pe_op op_add (pv 7) (pe_call GH hr rfl mH FH.kp bH .nil pass0 (pa_cons (pv 0) (pa_cons (pe_op op_add (pv 8) pe_int) pa_nil)))))
        (pss_one (ps_set (i := 4) scDR.nd rfl (.inl rfl) (pe_op op_cat (pv 4) (pe_lst (pa_cons (pe_tup (pa_cons (pv 5) (pa_cons pe_int (pa_cons (pv 9) pa_nil)))) (pa_cons (pe_tup (pa_cons pe_int (pa_cons (pv 5) (pa_cons (pe_un un_neg (pv 9)) pa_nil)))) pa_nil)))))))))))
      (pss_cons (ps_set (i := 6) scDR.nd rfl (.inr rfl) (pe_call GC hr rfl mC FC.kp bC .nil pass0 (pa_cons (pe_callB call_len_seq (by rfl) T.len PySem.boot_len (pa_cons (pv 1) pa_nil)) (pa_cons (pv 4) pa_nil))))
      (pss_one (ps_ret (pe_callTy call_tuple_of (by rfl) T.tuple (by decide +kernel) (pa_cons (pe_lc (own := [("ax", 5)]) (g := gName 5) (te := tUn _ (tOp (rIxL K) (tOp (rIxL K) (tVar 6) (tC (.int 0))) (tVar 5))) rfl scDR.nd (pi_range2 (by rfl) T.range (pa_cons pe_int (pa_cons (pe_op op_add (pe_callB call_len_seq (by rfl) T.len PySem.boot_len (pa_cons (pv 1) pa_nil)) pe_int) pa_nil))) (blkOk_by (N := nsDR) (sc := defScope sDR) (by decide +kernel))
        (fun _ _ _ _ _ => pg_name (i := 5) scDR.nd rfl (.inl rfl)) (fun _ _ _ _ _ => pts_nil) (fun _ _ _ _ _ => pe_un un_neg (pe_ix ix_list (pe_ix ix_list (pv 6) pe_int (fun _ _ => rfl)) (pv 5) (fun _ _ => rfl)))) pa_nil)))))), ?_⟩
    have hml := hG.ml
    have hfl := hG.fl
    refine ⟨_, rfl, _, rfl, a, c, ms, MS, rfl, hm, by omega, hc, by omega, hG.inn, fun H1 q ps s1 hq hT => ?_⟩
    refine ⟨q, _, rfl, .inl (SqL.of hq), fun l hl => ?_⟩
    have hpl : ps.length = MS.length := by have := hT.1; rw [List.length_map] at this; exact this
    have nl0 : l ≠ p := (hp.same s1).ne hl
    have s2 : Same H (upd H1 l (.lst (ps.map V.ref))) := s1.trans (Same.new hl)
    have hl2 : (upd H1 l (.lst (ps.map V.ref))) l = some (.lst (ps.map V.ref)) := upd_same
    have hT2 : TupsAt (upd H1 l (.lst (ps.map V.ref))) ps ((MS.map (eF ms)).map edgeV) := by rw [List.map_map]; exact hT.same (Same.new hl)
    dsimp only [gName]
    generalize upd H1 l (.lst (ps.map V.ref)) = H2 at s2 hl2 hT2
    have hm2 := Same.tup (K := K) s2 hm
    have hp2 := hp.same s2
    refine ⟨_, rfl, a, _, rfl, .inr hm2, _, _, rfl, rfl, ?_⟩
    have em : ((((ms.map V.str).length : Nat) : Int) + 1 - 1).toNat = ms.length := by rw [List.length_map]; omega
    refine ⟨1, _, rfl, ⟨by decide, by decide, by rw [List.length_map]; omega, by rw [List.length_map]; omega⟩, ?_⟩
    rw [em]
    have E0in : InR (ms.length + 1) (MS.map (eF ms)) := hG.inn.inR
    have G0 : Good (ms.length + 1) (MS.map (eF ms) ++ zeroE ms.length) B := by
      have := hG.good
      unfold EG at this
      rw [List.map_append, zeros_edges hG.nd] at this
      exact this
    refine for_range (lo := 1) (n := ms.length) (fun i σ H' => (∃ (l : Addr) (ps : List Addr) (E : List Edge) (B' : Mat) (v5 v6 v7 v8 v9 : Option V), σ = [some (.ref p), some (.ref a), some (.ref c), some (.int far), some (.ref l), v5, v6, v7, v8, v9] ∧ l ≠ p ∧ H' l = some (.lst (ps.map V.ref)) ∧ TupsAt H' ps (E.map edgeV) ∧ InR (ms.length + 1) E ∧
        (∀ e ∈ MS.map (eF ms), e ∈ E) ∧ E.length ≤ 100 + 2 * i ∧ Good (ms.length + 1) (E ++ zeroE ms.length) B') ∧ But p H H' ∧ PitAt H' p (z + i) ∧ strsT K H' a ms) ?_ ?_ ?_
    · exact ⟨⟨l, ps, MS.map (eF ms), B, _, _, _, _, _, rfl, nl0, hl2, hT2, E0in, fun e h => h, by rw [List.length_map]; omega, G0⟩, Same.but s2, by simpa using hp2, hm2⟩
    · rintro i σ H3 hi ⟨⟨l, ps, E, B', v5, v6, v7, v8, v9, rfl, nlp, hl3, hT3, hR, hE, hEl, hGB⟩, b3, P3, hm3⟩
      have ei : (1 : Int) + (i : Nat) = ((i + 1 : Nat) : Int) := by omega
      rw [ei]
      refine ⟨_, rfl, a, _, rfl, .inr hm3, _, rfl, ?_⟩
      rw [List.length_map]
      refine ⟨ms.length, l, ps, E, rfl, by omega, hl3, hT3, hR, fun H4 s4 => ⟨fun hn R hLM => ?_, fun hn => absurd (znegs hGB hR) hn⟩⟩
      have S4 : Sized (ms.length + 1) (closedM (ms.length + 1) E) := closed_sized hR
      have h0m : 0 < ms.length + 1 := by omega
      have him : i + 1 < ms.length + 1 := by omega
      obtain ⟨us0, p0, r1, r2, r3, _, _⟩ := hLM.read (K := K) S4 h0m
      obtain ⟨us1, p1, g1, g2, g3, _, _⟩ := hLM.read (K := K) S4 him
      have c0 := lst_cell S4 h0m him
      have c1 := lst_cell S4 him h0m
      rw [zcell hGB hR h0m him] at c0
      rw [zcell hGB hR him h0m] at c1
      obtain ⟨d0, hd0, _⟩ := zrow hGB him
      rw [hd0] at c0
      dsimp only [gName]
      refine ⟨_, rfl, _, _, _, _, rfl, rfl, r1, r2, _, rfl, _, _, _, _, rfl, rfl, r3, c0, _, rfl, ?_⟩
      dsimp only [gName]
      refine seq_gen (fun σ' H' => ∃ room : Int, σ' = [some (.ref p), some (.ref a), some (.ref c), some (.int far), some (.ref l), some (.int (i + 1 : Nat)), some (.ref R), some (.int (-d0)), some (.int room), v9] ∧ H' = H4 ∧ 0 ≤ room ∧ room ≤ far ∧ ∀ e0, cell B' (i + 1) 0 = some e0 → room ≤ e0 + d0) (fun N hN => ?_) ?_
      · refine ⟨_, rfl, _, rfl, _, _, _, _, rfl, rfl, g1, g2, _, _, _, _, rfl, rfl, g3, c1, rfl, _, rfl, ?_⟩
        cases hc : cell B' (i + 1) 0 with
        | none => exact iteDT rfl ⟨_, rfl, hN _ _ ⟨far, rfl, rfl, hf0, Int.le_refl _, fun e0 h => by rw [hc] at h; cases h⟩⟩
        | some e0 =>
          rw [hc] at c1
          have nn : 0 ≤ d0 + e0 := hGB.diag h0m (hGB.tri h0m h0m him ⟨d0, hd0, Int.le_refl _⟩ ⟨e0, hc, Int.le_refl _⟩)
          refine iteDF (fun e => nomatch e) ⟨_, rfl, _, rfl, _, rfl, _, _, _, _, rfl, rfl, g1, g2, _, _, _, _, rfl, rfl, g3, c1, _, rfl, _, _, rfl, rfl, _, _, rfl, ?_⟩
          refine hN _ _ ⟨_, rfl, rfl, ?_, ?_, fun e1 h => ?_⟩
          · split <;> omega
          · split <;> omega
          · rw [hc] at h; cases h
            split <;> omega
      · rintro _ _ ⟨room, rfl, rfl, hr0, hrf, hre⟩
        have P4 := P3.same s4
        refine ⟨_, rfl, _, rfl, _, rfl, _, _, rfl, rfl, p, _, _, rfl, P4, by omega, by omega, by omega, fun H5 d b5 P5 l5 u5 => ⟨_, _, rfl, rfl, ?_⟩⟩
        have hl5 : H5 l = some (.lst (ps.map V.ref)) := b5 _ _ nlp (s4 _ _ hl3)
        have hT5 := P4.tups b5 (hT3.same s4)
        have hm5 := P4.tup (K := K) b5 (Same.tup s4 hm3)
        have b35 : But p H H5 := (b3.trans (Same.but s4)).trans b5
        dsimp only [gName]
        refine ⟨_, rfl, _, rfl, _, rfl, by show 3 ≤ sizeLine; decide, fun t1 ht1 => ⟨_, rfl, _, rfl, _, rfl, by show 3 ≤ sizeLine; decide, fun t2 ht2 => ⟨by show 2 ≤ sizeLine; decide, fun u hu => ?_⟩⟩⟩
        have z1 := Same.new (o := .tup [.int (i + 1 : Nat), .int 0, .int (-d0 + d)]) ht1
        have z2 := Same.new (o := .tup [.int 0, .int (i + 1 : Nat), .int (-(-d0 + d))]) ht2
        have z3 := Same.new (o := .lst [.ref t1, .ref t2]) hu
        have q1 := z3 _ _ (z2 _ _ (upd_same (H := H5) (a := t1) (o := .tup [.int (i + 1 : Nat), .int 0, .int (-d0 + d)])))
        have q2 := z3 _ _ (upd_same (H := upd H5 t1 (.tup [.int (i + 1 : Nat), .int 0, .int (-d0 + d)])) (a := t2) (o := .tup [.int 0, .int (i + 1 : Nat), .int (-(-d0 + d))]))
        have zz := (z1.trans z2).trans z3
        have q3 : (upd (upd (upd H5 t1 (.tup [.int (i + 1 : Nat), .int 0, .int (-d0 + d)])) t2 (.tup [.int 0, .int (i + 1 : Nat), .int (-(-d0 + d))])) u (.lst [.ref t1, .ref t2])) u = some (.lst [.ref t1, .ref t2]) := upd_same
        have psl : ps.length = E.length := by have := hT3.1; rw [List.length_map] at this; exact this
        refine ⟨l, u, _, _, rfl, rfl, zz _ _ hl5, q3, by rw [List.length_map]; exact Nat.le_of_lt (small1000 (show ps.length + 2 ≤ 1000 by omega)), fun l2 hl2 => ?_⟩
        have P6 := P5.same zz
        have nl2 := P6.ne hl2
        have z4 := Same.new (o := .lst (ps.map V.ref ++ [.ref t1, .ref t2])) hl2
        obtain ⟨B2, hG2⟩ := zfix hGB hR (ax := i + 1) (by omega) (by omega) (s := -d0 + d) (fun k' hk' => by obtain ⟨e, he, hle⟩ := hk'; rw [hd0] at he; cases he; omega) (fun k' hk' => by obtain ⟨e, he, hle⟩ := hk'; have := hre e he; omega)
        refine ⟨⟨l2, ps ++ [t1, t2], E ++ [(i + 1, 0, -d0 + d), (0, i + 1, -(-d0 + d))], B2, _, _, _, _, _, rfl, nl2, by rw [upd_same, List.map_append]; rfl, ?_, ?_, fun e he => List.mem_append_left _ (hE e he), by rw [List.length_append]; show E.length + 2 ≤ _; omega, hG2⟩, b35.trans (Same.but (zz.trans z4)), ?_, Same.tup (zz.trans z4) hm5⟩
        · rw [List.map_append]
          have e1 := ((hT5.same (zz.trans z4)).snoc (z4 _ _ q1)).snoc (z4 _ _ q2)
          rw [List.append_assoc, List.append_assoc] at e1
          exact e1
        · intro e he
          rcases List.mem_append.mp he with he | he
          · exact hR e he
          · simp only [List.mem_cons, List.not_mem_nil, or_false] at he
            rcases he with rfl | rfl
            · exact ⟨him, h0m⟩
            · exact ⟨h0m, him⟩
        · have eP : z + (i : Nat) + 1 = z + ((i + 1 : Nat) : Int) := by omega
          rw [← eP]
          exact P6.same z4
    · rintro σ H3 ⟨⟨l, ps, E, B', v5, v6, v7, v8, v9, rfl, nlp, hl3, hT3, hR, hE, hEl, hGB⟩, b3, P3, hm3⟩
      refine ⟨_, rfl, a, _, rfl, .inr hm3, _, rfl, ?_⟩
      rw [List.length_map]
      refine ⟨ms.length, l, ps, E, rfl, by omega, hl3, hT3, hR, fun H4 s4 => ⟨fun hn R hLM => ?_, fun hn => absurd (znegs hGB hR) hn⟩⟩
      have S4 : Sized (ms.length + 1) (closedM (ms.length + 1) E) := closed_sized hR
      have h0m : 0 < ms.length + 1 := by omega
      have hm4 := Same.tup (K := K) s4 hm3
      dsimp only [gName]
      refine ⟨_, rfl, a, _, rfl, .inr hm4, _, _, rfl, rfl, 1, _, rfl, ⟨by decide, by decide, by rw [List.length_map]; omega, by rw [List.length_map]; omega⟩, fun D hD => ?_⟩
      rw [em]
      have rowm : ∀ j, j < ms.length → ∃ d, cell B' 0 (j + 1) = some d := fun j hj => by obtain ⟨d, hd, _⟩ := zrow hGB (y := j + 1) (by omega); exact ⟨d, hd⟩
      refine lc_it (walk_range (lo := 1) (n := ms.length)) (fun j H' => Same H4 H' ∧ H' D = some (.lst ((((List.range ms.length).map fun j => -((cell B' 0 (j + 1)).getD 0)).take j).map V.int))) ⟨Same.new hD, upd_same⟩ (fun _ _ _ _ => trivial) ?_ ?_
      · rintro j v H5 H6 hj ⟨q1, q2⟩ ⟨rfl, rfl⟩
        have ej : (1 : Int) + (j : Nat) = ((j + 1 : Nat) : Int) := by omega
        show gName 5 (V.int (1 + ((j : Nat) : Int))) _ _ _
        rw [ej]
        obtain ⟨us0, p0, r1, r2, r3, _, _⟩ := LM.read (K := K) ⟨hLM.1.trans q1, hLM.2.imp fun as h => ⟨h.1.same q1, h.2⟩⟩ S4 h0m
        have c0 := lst_cell S4 h0m (show j + 1 < ms.length + 1 by omega)
        rw [zcell hGB hR h0m (by omega)] at c0
        obtain ⟨d, hd⟩ := rowm j hj
        rw [hd] at c0
        have hg : ((List.range ms.length).map fun j => -((cell B' 0 (j + 1)).getD 0))[j]? = some (-d) := by
          rw [List.getElem?_map, List.getElem?_range hj]
          simp [hd]
        refine ⟨rfl, yes_ ⟨_, rfl, _, _, _, _, rfl, rfl, r1, r2, _, rfl, _, _, _, _, rfl, rfl, r3, c0, _, rfl, _, q2, ?_, Same.set q1 hD, ?_⟩⟩
        · rw [List.length_map, List.length_take]
          exact Nat.lt_of_le_of_lt (Nat.min_le_left _ _) (small1000 (by omega))
        · rw [upd_same, take_snoc hg, List.map_append]; rfl
      · rintro H5 ⟨q1, q2⟩
        have ll : ((List.range ms.length).map fun j => -((cell B' 0 (j + 1)).getD 0)).length = ms.length := by simp
        rw [List.take_of_length_le (Nat.le_of_eq ll)] at q2
        refine ⟨D, _, rfl, .inl ⟨SqL.of q2, fun t ht => ?_⟩⟩
        refine k _ t _ ((b3.trans (Same.but (s4.trans q1))).trans (Same.but (Same.new ht))) (((P3.same (s4.trans q1)).same (Same.new ht)).mono (by omega)) tup_at ll ?_
        refine least_fits G0 hGB (zinr hR) (fun e he => ?_) ll fun j x hx => ?_
        · rcases List.mem_append.mp he with he | he
          · exact List.mem_append_left _ (hE e he)
          · exact List.mem_append_right _ he
        · rw [List.getElem?_map] at hx
          cases hjr : (List.range ms.length)[j]? with
          | none => rw [hjr] at hx; cases hx
          | some j' =>
            obtain ⟨hjl, e⟩ := List.getElem?_eq_some_iff.mp hjr
            rw [List.length_range] at hjl
            rw [List.getElem_range] at e
            subst e
            obtain ⟨d, hd⟩ := rowm j hjl
            rw [hjr] at hx
            simp [hd] at hx
            rw [hd, ← hx, Int.neg_neg]
end
end K1
end
section
set_option maxRecDepth 100000
set_option maxHeartbeats 4000000
namespace K1
open PySem L2 K01
theorem kt_flat {K : PySem.W.Frag} {H : Hp} {n : Nat} {v : V} (h : Flat v) : KT K H n v v := by
  cases h with
  | non => exact .non n
  | bl b => exact .bl n b
  | int i => exact .int n i
  | str z => exact .str n z
theorem kt_row {K : PySem.W.Frag} {H : Hp} {n : Nat} {a b : Addr} {xs : List V} (h1 : SqT K H a xs) (h2 : SqT K H b xs) (hl : xs.length ≤ 500) (hf : ∀ x ∈ xs, Flat x) : KT K H (n + 1) (.ref a) (.ref b) :=
  .tup n h1 h2 rfl hl fun i x y e1 e2 => by
    rw [e1] at e2
    cases e2
    exact kt_flat (hf x (List.mem_of_getElem? e1))
theorem kt_strs {K : PySem.W.Frag} {H : Hp} {n : Nat} {a b : Addr} {ms : List Str} (h1 : strsT K H a ms) (h2 : strsT K H b ms) (hl : ms.length ≤ 500) : KT K H (n + 1) (.ref a) (.ref b) :=
  kt_row h1 h2 (by rw [List.length_map]; exact hl) fun x hx => by
    obtain ⟨z, _, rfl⟩ := List.mem_map.mp hx
    exact .str z
theorem kt_rows {K : PySem.W.Frag} {H : Hp} {n : Nat} {a b : Addr} {fs : List (List V)} (h1 : TTAt K H a fs) (h2 : TTAt K H b fs) (hl : fs.length ≤ 500) (hr : ∀ xs ∈ fs, xs.length ≤ 500) (hf : FlatF fs) : KT K H (n + 2) (.ref a) (.ref b) := by
  obtain ⟨ps, q1, t1⟩ := h1
  obtain ⟨qs, q2, t2⟩ := h2
  refine .tup (n + 1) q1 q2 (by rw [List.length_map, List.length_map, t1.1, t2.1]) (by rw [List.length_map, t1.1]; exact hl) fun i x y e1 e2 => ?_
  obtain ⟨p, hp, rfl⟩ := get_map e1
  obtain ⟨q, hq, rfl⟩ := get_map e2
  obtain ⟨xs, hxs, hpx⟩ := t1.get hp
  obtain ⟨ys, hys, hqy⟩ := t2.get hq
  rw [hxs] at hys
  cases hys
  have hm := List.mem_of_getElem? hxs
  exact kt_row (SqT.of hpx) (SqT.of hqy) (hr xs hm) (hf xs hm)
/-- ('fine', marks, takes, facts) on both sides -/
theorem kt_fine {K : PySem.W.Frag} {H : Hp} {p q a b c a' b' c' : Addr} {ms ts : List Str} {fs : List (List V)} (hp : SqT K H p [.str "fine", .ref a, .ref b, .ref c]) (hq : SqT K H q [.str "fine", .ref a', .ref b', .ref c'])
    (h1 : strsT K H a ms) (h1' : strsT K H a' ms) (h2 : strsT K H b ts) (h2' : strsT K H b' ts) (h3 : TTAt K H c fs) (h3' : TTAt K H c' fs) (l1 : ms.length ≤ 500) (l2 : ts.length ≤ 500) (l3 : fs.length ≤ 500) (hr : ∀ xs ∈ fs, xs.length ≤ 500) (hf : FlatF fs) :
    KT K H 3 (.ref p) (.ref q) := by
  refine .tup 2 hp hq rfl (by show 4 ≤ 500; decide) fun i x y e1 e2 => ?_
  match i, e1, e2 with
  | 0, e1, e2 => cases e1; cases e2; exact .str 2 _
  | 1, e1, e2 => cases e1; cases e2; exact kt_strs h1 h1' l1
  | 2, e1, e2 => cases e1; cases e2; exact kt_strs h2 h2' l2
  | 3, e1, e2 => cases e1; cases e2; exact kt_rows h3 h3' l3 hr hf
  | i + 4, e1, e2 => cases e1
end K1
end
section
set_option maxRecDepth 100000
set_option maxHeartbeats 4000000
namespace K1
open PySem PyProof.Rows L2 K01
/-- what stands in a tree's row: a plain value or () -/
inductive RV (K : PySem.W.Frag) (H : Hp) : V → Prop
  | flat {v : V} (h : Flat v) : RV K H v
  | nilT {e : Addr} (h : SqT K H e []) : RV K H (.ref e)
theorem RV.same {K : PySem.W.Frag} {H H' : Hp} (e : Same H H') {v : V} (h : RV K H v) : RV K H' v := by
  cases h with
  | flat h => exact .flat h
  | nilT h => exact .nilT (Same.tup e h)
def isAsk : List V → Bool
  | .str z :: _ => decide (z = "ask")
  | _ => false
section
variable {P : Program} {w : World} {K : PySem.W.Frag} {mg : Str → Option Value} {base : Heap}
/-! ### is a row an ask -/
abbrev sAsk : Stmt := top 49
def spAsk (K : PySem.W.Frag) : Sp := fun vs H Q _ => ∃ (r : Addr) (xs : List V), vs = [.ref r] ∧ SqT K H r xs ∧ (∀ x ∈ xs, RV K H x) ∧ Q (.bl (isAsk xs)) H
theorem scAsk : FnScope ["row"] ["row"] (defScope sAsk) := ⟨rfl, rfl, rfl, by decide +kernel, rfl, by decide +kernel, by decide +kernel⟩
theorem ok_ask {f : Addr} {fd : FuncData} (F : Fun K "is_ask_row" "is_ask_row" sAsk f fd) (T : Bi mg) : FnOk P w K mg base CX0 1 f fd ["row"] (spAsk K) := by
  refine F.ok scAsk (fun vs H Q E h => ?_) (fun cdv A outer s H vs Q E hr h => ?_)
  · obtain ⟨_, _, rfl, _⟩ := h
    rfl
  · obtain ⟨r, xs, rfl, hx, hR, k⟩ := h
    refine ⟨_, pss_one (ps_ret (pe_and (pe_cmpR op_gt (pe_callB call_len_seq (by rfl) T.len PySem.boot_len (pa_cons (pv 0) pa_nil)) pe_int (nomark _))
      (pe_and (pe_callB call_isi (by rfl) T.isinstance (by decide +kernel) (pa_cons (pe_ix ix_tup (pv 0) pe_int (fun _ _ => rfl)) (pa_cons (pe_ty (n := "str") (by rfl) T.str (by decide +kernel)) pa_nil)))
        (pe_one (pe_cmpR op_eq (pe_ix ix_tup (pv 0) pe_int (fun _ _ => rfl)) pe_str (nomark _)))))), ?_⟩
    refine ⟨_, rfl, r, _, rfl, .inr hx, _, _, rfl, rfl, _, rfl, ?_⟩
    cases xs with
    | nil => exact iteF k
    | cons x ys =>
      rw [decide_eq_true (p := (0 : Int) < (((x :: ys).length : Nat) : Int)) (by rw [List.length_cons]; omega)]
      have h0 : atI (x :: ys) 0 = some x := at_of (j := 0) rfl rfl
      refine iteT ⟨_, rfl, _, _, _, _, rfl, rfl, hx, h0, ?_⟩
      cases hR x List.mem_cons_self with
      | nilT he => exact ⟨_, _, _, _, false, rfl, .ty _, ty_tup he, kit_ty (by decide +kernel), _, rfl, iteF k⟩
      | flat hf => cases hf with
        | non => exact ⟨_, _, _, _, false, rfl, .ty _, .base .non, kit_ty (by decide +kernel), _, rfl, iteF k⟩
        | bl b => exact ⟨_, _, _, _, false, rfl, .ty _, .base (.bl b), kit_ty (by decide +kernel), _, rfl, iteF k⟩
        | int i => exact ⟨_, _, _, _, false, rfl, .ty _, .base (.int i), kit_ty (by decide +kernel), _, rfl, iteF k⟩
        | str z => exact ⟨_, _, _, _, true, rfl, .ty _, .base (.str z), kit_ty (by decide +kernel), _, rfl, iteT ⟨_, rfl, _, _, _, _, rfl, rfl, hx, h0, rfl, by rw [show decide (V.str z = V.str "ask") = decide (z = "ask") from decide_eq_decide.mpr ⟨V.str.inj, congrArg V.str⟩]; exact k⟩⟩
end
end K1
end
section
set_option maxRecDepth 100000
set_option maxHeartbeats 4000000
namespace K1
open PySem PyProof.Rows L2 K01
/-- is the ask at row at good, of the rows named before it -/
def goodAsk (ns : List Str) (at_ : Nat) (bs : List Bool) : List V → Bool
  | [_, x, y, c, .int yes, .int no] => factOk ns [x, y, c] && (!decide (yes = no) && ((decide ((at_ : Int) < yes) && decide (yes < (bs.length : Int))) && ((decide ((at_ : Int) < no) && decide (no < (bs.length : Int))) && (!(bs.getD yes.toNat false) && !(bs.getD no.toNat false)))))
  | _ => false
section
variable {P : Program} {w : World} {K : PySem.W.Frag} {mg : Str → Option Value} {base : Heap}
abbrev sGA : Stmt := top 50
def spGA (K : PySem.W.Frag) : Sp := fun vs H Q _ => ∃ (r n l : Addr) (xs : List V) (ns : List Str) (at_ : Nat) (bs : List Bool), vs = [.ref r, .ref n, .int at_, .ref l] ∧ SqT K H r xs ∧ (∀ x ∈ xs, Flat x) ∧ strsT K H n ns ∧ H l = some (.lst (bs.map V.bl)) ∧ ∀ H', Same H H' → Q (.bl (goodAsk ns at_ bs xs)) H'
theorem scGA : FnScope ["row", "names", "at", "named", "yes", "no"] ["row", "names", "at", "named"] (defScope sGA) := ⟨rfl, rfl, rfl, by decide +kernel, rfl, by decide +kernel, by decide +kernel⟩
theorem cut_1_4 {a x y c d e : V} : cutV [a, x, y, c, d, e] (some 1) (some 4) = [x, y, c] := rfl
theorem named_at {bs : List Bool} {i : Int} (h0 : 0 ≤ i) (h1 : i < (bs.length : Int)) : atI (bs.map V.bl) i = some (.bl (bs.getD i.toNat false)) := by
  obtain ⟨j, rfl⟩ := Int.eq_ofNat_of_zero_le h0
  have hj : j < bs.length := by omega
  refine atI_nat ?_
  rw [List.getElem?_map, List.getElem?_eq_getElem hj]
  show some (V.bl bs[j]) = some (V.bl (bs.getD ((j : Int)).toNat false))
  rw [Int.toNat_natCast, List.getD_eq_getElem?_getD, List.getElem?_eq_getElem hj]
  rfl
theorem ok_ga {f fF fW : Addr} {fd fdF fdW : FuncData} (F : Fun K "is_good_ask" "is_good_ask" sGA f fd) (T : Bi mg) (FF : Fun K "is_fact" "is_fact" sFact fF fdF) (bF : Binds K fdF ["fact", "names"] []) (mF : mg "is_fact" = some (.ref fF)) (FW : Fun K "is_whole" "is_whole" sWhole fW fdW) (bW : Binds K fdW ["x"] []) (mW : mg "is_whole" = some (.ref fW)) :
    FnOk P w K mg base CX0 3 f fd ["row", "names", "at", "named"] (spGA K) := by
  have GF : FnOk P w K mg base CX0 2 fF fdF ["fact", "names"] (spFact K) := ok_fact FF T FW bW mW
  have GW : FnOk P w K mg base CX0 1 fW fdW ["x"] (spWhole K) := ok_whole FW T
  refine F.ok scGA (fun vs H Q E h => ?_) (fun cdv A outer s H vs Q E hr h => ?_)
  · obtain ⟨_, _, _, _, _, _, _, rfl, _⟩ := h
    rfl
  · obtain ⟨r, n, l, xs, ns, at_, bs, rfl, hx, hf, hn, hl, k⟩ := h
    have hr1 : Room 1 _ := hr.mono (by decide)
    refine ⟨_, pss_cons (ps_if (PW.pt (pw_or (pt_cmpR op_ne (pe_callB call_len_seq (by rfl) T.len PySem.boot_len (pa_cons (pv 0) pa_nil)) pe_int (nomark _)) (pw_or1 (pt_not (pt_val (pe_call GF hr rfl mF FF.kp bF .nil pass0 (pa_cons (pe_slice sl_tupA (pv 0) (po_some pe_int) (po_some pe_int)) (pa_cons (pv 1) pa_nil)))))))) (pss_one (ps_ret pe_bl)) pss_nil)
      (pss_cons (ps_par (i := 4) (j := 5) rfl scGA.nd rfl rfl (by decide) rfl rfl (pa_cons (pe_ix ix_tup (pv 0) pe_int (fun _ _ => rfl)) (pa_cons (pe_ix ix_tup (pv 0) pe_int (fun _ _ => rfl)) pa_nil)) rfl)
      (pss_cons (ps_if (PW.pt (pw_or (pt_not (pt_val (pe_call GW hr1 rfl mW FW.kp bW .nil pass0 (pa_cons (pv 4) pa_nil)))) (pw_or (pt_not (pt_val (pe_call GW hr1 rfl mW FW.kp bW .nil pass0 (pa_cons (pv 5) pa_nil)))) (pw_or1 (pt_cmpR op_eq (pv 4) (pv 5) (nomark _)))))) (pss_one (ps_ret pe_bl)) pss_nil)
      (pss_one (ps_ret (pe_and (pe_chain op_lt op_lt (pv 2) (pv 4) (pe_callB call_len_seq (by rfl) T.len PySem.boot_len (pa_cons (pv 3) pa_nil))) (pe_and (pe_chain op_lt op_lt (pv 2) (pv 5) (pe_callB call_len_seq (by rfl) T.len PySem.boot_len (pa_cons (pv 3) pa_nil)))
        (pe_and (pe_not (pe_ix ix_list (pv 3) (pv 4) (fun _ _ => rfl))) (pe_one (pe_not (pe_ix ix_list (pv 3) (pv 5) (fun _ _ => rfl))))))))))), ?_⟩
    refine ⟨_, rfl, r, _, rfl, .inr hx, rfl, _, rfl, ?_⟩
    by_cases e6 : xs.length = 6
    · obtain ⟨x0, x, y, c, u, v, rfl⟩ : ∃ x0 x y c u v, xs = [x0, x, y, c, u, v] := by
        match xs, e6 with
        | [x0, x, y, c, u, v], _ => exact ⟨x0, x, y, c, u, v, rfl⟩
      refine iteNS (by rfl) ?_
      refine ⟨_, rfl, _, rfl, _, rfl, slA_it hx fun p H1 s1 hp => ?_⟩
      rw [cut_1_4] at hp
      have hn1 := Same.tup (K := K) s1 hn
      have hx1 := Same.tup (K := K) s1 hx
      have hl1 := s1 _ _ hl
      refine ⟨_, rfl, p, n, [x, y, c], ns, rfl, hp, (fun z hz => hf z (by simp only [List.mem_cons, List.not_mem_nil, or_false] at hz ⊢; rcases hz with h | h | h <;> simp [h])), hn1, _, rfl, ?_⟩
      have fu : Flat u := hf u (by simp)
      have fv : Flat v := hf v (by simp)
      have not : ∀ (H' : Hp), Same H H' → goodAsk ns at_ bs [x0, x, y, c, u, v] = false → Q (.bl false) H' := fun H' s e => by have := k H' s; rw [e] at this; exact this
      cases e1 : factOk ns [x, y, c] with
      | false => exact iteT (not H1 s1 (by cases u <;> cases v <;> simp [goodAsk, e1]))
      | true =>
        refine iteF ?_
        dsimp only [tNext]
        refine ⟨_, rfl, _, _, _, _, rfl, rfl, hx1, at_of (j := 4) rfl rfl, _, rfl, _, _, _, _, rfl, rfl, hx1, at_of (j := 5) rfl rfl, _, _, rfl, ?_⟩
        refine ⟨_, rfl, u, rfl, fu, _, rfl, ?_⟩
        cases e2 : isWhole u with
        | false => exact iteT (not H1 s1 (by cases u <;> cases v <;> simp [goodAsk, isWhole] at e2 ⊢))
        | true =>
          refine iteF ⟨_, rfl, v, rfl, fv, _, rfl, ?_⟩
          cases e3 : isWhole v with
          | false => exact iteT (not H1 s1 (by cases u <;> cases v <;> simp [goodAsk, isWhole] at e3 ⊢))
          | true =>
            obtain ⟨yes, rfl⟩ : ∃ i, u = .int i := by cases u <;> simp [isWhole] at e2 ⊢
            obtain ⟨no, rfl⟩ : ∃ i, v = .int i := by cases v <;> simp [isWhole] at e3 ⊢
            refine iteF ⟨_, rfl, _, rfl, rfl, _, rfl, ?_⟩
            by_cases e4 : yes = no
            · exact iteDT (congrArg V.int e4) (not H1 s1 (by simp [goodAsk, e4]))
            refine iteDF (fun e => e4 (V.int.inj e)) ?_
            dsimp only [tNext]
            have kk := k H1 s1
            have ev : goodAsk ns at_ bs [x0, x, y, c, .int yes, .int no] = ((decide ((at_ : Int) < yes) && decide (yes < (bs.length : Int))) && ((decide ((at_ : Int) < no) && decide (no < (bs.length : Int))) && (!(bs.getD yes.toNat false) && !(bs.getD no.toNat false)))) := by simp [goodAsk, e1, e4]
            rw [ev] at kk
            refine ⟨_, rfl, _, rfl, _, _, rfl, rfl, _, rfl, ?_⟩
            by_cases h1 : (at_ : Int) < yes
            · rw [decide_eq_true h1] at kk ⊢
              refine iteT ⟨_, rfl, l, _, rfl, .inl (SqL.of hl1), _, _, rfl, rfl, ?_⟩
              rw [List.length_map]
              by_cases h2 : yes < (bs.length : Int)
              · rw [decide_eq_true h2] at kk
                refine ⟨_, rfl, iteDT h2 ?_⟩
                refine ⟨_, rfl, _, rfl, _, _, rfl, rfl, _, rfl, ?_⟩
                by_cases h3 : (at_ : Int) < no
                · rw [decide_eq_true h3] at kk ⊢
                  refine iteT ⟨_, rfl, l, _, rfl, .inl (SqL.of hl1), _, _, rfl, rfl, ?_⟩
                  rw [List.length_map]
                  by_cases h4 : no < (bs.length : Int)
                  · rw [decide_eq_true h4] at kk
                    refine ⟨_, rfl, iteDT h4 ?_⟩
                    have a1 := named_at (bs := bs) (i := yes) (by omega) h2
                    have a2 := named_at (bs := bs) (i := no) (by omega) h4
                    refine ⟨_, rfl, _, rfl, l, _, _, _, rfl, rfl, SqL.of hl1, a1, _, rfl, _, rfl, ?_⟩
                    cases e5 : bs.getD yes.toNat false with
                    | true => rw [e5] at kk; exact iteF kk
                    | false =>
                      rw [e5] at kk
                      exact iteT ⟨_, rfl, _, rfl, l, _, _, _, rfl, rfl, SqL.of hl1, a2, _, rfl, kk⟩
                  · rw [decide_eq_false h4] at kk
                    exact ⟨_, rfl, iteDF h4 kk⟩
                · rw [decide_eq_false h3] at kk ⊢
                  exact iteF ⟨_, rfl, iteF kk⟩
              · rw [decide_eq_false h2] at kk
                exact ⟨_, rfl, iteDF h2 kk⟩
            · rw [decide_eq_false h1] at kk ⊢
              exact iteF ⟨_, rfl, iteF kk⟩
    · have h6 : ¬ V.int (xs.length : Nat) = V.int 6 := fun q => e6 (by have := V.int.inj q; omega)
      have ef : goodAsk ns at_ bs xs = false := by
        unfold goodAsk
        split
        · exact absurd rfl e6
        · rfl
      have kk := k H (Same.refl H)
      rw [ef] at kk
      exact iteNF h6 (iteT kk)
end
end K1
end
section
set_option maxRecDepth 100000
set_option maxHeartbeats 4000000
namespace K1
open PySem PyProof.Rows L2 K01
/-- the rows named so far, after a good ask -/
def nameBoth (bs : List Bool) : List V → List Bool
  | [_, _, _, _, .int yes, .int no] => (bs.set yes.toNat true).set no.toNat true
  | _ => bs
/-- the first row at fault, or the rows that are named -/
def tfRows (ns : List Str) : List (List V) → Nat → List Bool → Sum Nat (List Bool)
  | [], _, bs => .inr bs
  | xs :: r, i, bs => if isAsk xs = true then (if goodAsk ns i bs xs = true then tfRows ns r (i + 1) (nameBoth bs xs) else .inl i) else tfRows ns r (i + 1) bs
theorem tfRows_cons {ns : List Str} {xs : List V} {r : List (List V)} {i : Nat} {bs : List Bool} : tfRows ns (xs :: r) i bs = if isAsk xs = true then (if goodAsk ns i bs xs = true then tfRows ns r (i + 1) (nameBoth bs xs) else .inl i) else tfRows ns r (i + 1) bs := rfl
def named0 (n : Nat) : List Bool := (List.range n).map fun i => decide (i = 0)
/-- the index of BadTree, if the tree is at fault -/
def treeFault (ns : List Str) (rows : List (List V)) : Option Nat := match tfRows ns rows 0 (named0 rows.length) with
  | .inl k => some k
  | .inr bs => if rows.length = 0 then some 0 else first (fun j => !(bs.getD j false)) bs.length
theorem nameBoth_len (bs : List Bool) (xs : List V) : (nameBoth bs xs).length = bs.length := by
  unfold nameBoth; split <;> simp
/-- a tree's rows -/
structure RowsAt2 (K : PySem.W.Frag) (H : Hp) (ps : List Addr) (rows : List (List V)) : Prop where
  len : ps.length = rows.length
  row : ∀ (i : Nat) (p : Addr) (xs : List V), ps[i]? = some p → rows[i]? = some xs → SqT K H p xs ∧ (∀ x ∈ xs, RV K H x) ∧ (isAsk xs = true → ∀ x ∈ xs, Flat x)
theorem RowsAt2.imp {K : PySem.W.Frag} {H H' : Hp} {ps : List Addr} {rows : List (List V)} (h : RowsAt2 K H ps rows) (e : ∀ a xs, SqT K H a xs → SqT K H' a xs) : RowsAt2 K H' ps rows :=
  ⟨h.len, fun i p xs h1 h2 => by
    obtain ⟨q1, q2, q3⟩ := h.row i p xs h1 h2
    exact ⟨e _ _ q1, fun x hx => by cases q2 x hx with | flat h => exact .flat h | nilT h => exact .nilT (e _ _ h), q3⟩⟩
theorem RowsAt2.same {K : PySem.W.Frag} {H H' : Hp} {ps : List Addr} {rows : List (List V)} (s : Same H H') (h : RowsAt2 K H ps rows) : RowsAt2 K H' ps rows := h.imp fun _ _ q => Same.tup s q
theorem But.tupL {K : PySem.W.Frag} {l a : Addr} {ys xs : List V} {H H' : Hp} (hl : H l = some (.lst ys)) (e : But l H H') (h : SqT K H a xs) : SqT K H' a xs := by
  rcases h with (q | ⟨o, q⟩) | q
  · exact .inl (.inl (e _ _ (fun z => by rw [z, hl] at q; cases q) q))
  · exact .inl (.inr ⟨o, e _ _ (fun z => by rw [z, hl] at q; cases q) q⟩)
  · exact .inr q
theorem goodAsk_true {ns : List Str} {i : Nat} {bs : List Bool} {xs : List V} (h : goodAsk ns i bs xs = true) : ∃ (x0 x y c : V) (yes no : Nat), xs = [x0, x, y, c, .int yes, .int no] ∧ yes < bs.length ∧ no < bs.length := by
  unfold goodAsk at h
  split at h
  · rename_i x0 x y c yes no
    simp only [Bool.and_eq_true, decide_eq_true_eq] at h
    obtain ⟨_, _, ⟨h1, h2⟩, ⟨h3, h4⟩, _⟩ := h
    obtain ⟨y1, rfl⟩ := Int.eq_ofNat_of_zero_le (show 0 ≤ yes by omega)
    obtain ⟨n1, rfl⟩ := Int.eq_ofNat_of_zero_le (show 0 ≤ no by omega)
    exact ⟨x0, x, y, c, y1, n1, rfl, by omega, by omega⟩
  · cases h
theorem map_set {bs : List Bool} {j : Nat} : ((bs.map V.bl).set j (.bl true)) = (bs.set j true).map V.bl := by rw [List.map_set]
section
variable {P : Program} {w : World} {K : PySem.W.Frag} {mg : Str → Option Value} {base : Heap}
abbrev sCT : Stmt := top 51
def spCT (K : PySem.W.Frag) (C CB : Addr) : Sp := fun vs H Q E => ∃ (x t a b c p : Addr) (ms ts : List Str) (MS : List Fact) (B : Mat) (ps : List Addr) (rows : List (List V)), vs = [.ref x, .ref t] ∧ ShI K H C x a b c p ms ts MS B ∧ ShG ms MS B ∧ H t = some (.lst (ps.map V.ref)) ∧ RowsAt2 K H ps rows ∧ rows.length ≤ 900 ∧
  (∀ k H' d, treeFault (nodes ms) rows = some k → Same H H' → H d = none → H' d = some (.xd [("index", .int (k : Nat))]) → E (.ref CB) (some d) H') ∧ (treeFault (nodes ms) rows = none → ∀ H', Same H H' → Q .non H')
abbrev nsCT : List Str := ["sheet", "tree", "names", "named", "at", "row", "there"]
theorem scCT : FnScope nsCT ["sheet", "tree"] (defScope sCT) := ⟨rfl, rfl, rfl, by decide +kernel, rfl, by decide +kernel, by decide +kernel⟩
theorem ok_ct {f fN fA fG fF fW C CB iB : Addr} {fd fdN fdA fdG fdF fdW : FuncData} (F : Fun K "check_tree" "check_tree" sCT f fd) (T : Bi mg) (S : ShT K C)
    (FN : Fun K "names_of" "names_of" sNames fN fdN) (bN : Binds K fdN ["marks"] []) (mN : mg "names_of" = some (.ref fN)) (FA : Fun K "is_ask_row" "is_ask_row" sAsk fA fdA) (bA : Binds K fdA ["row"] []) (mA : mg "is_ask_row" = some (.ref fA))
    (FG : Fun K "is_good_ask" "is_good_ask" sGA fG fdG) (bG : Binds K fdG ["row", "names", "at", "named"] []) (mG : mg "is_good_ask" = some (.ref fG)) (FF : Fun K "is_fact" "is_fact" sFact fF fdF) (bF : Binds K fdF ["fact", "names"] []) (mF : mg "is_fact" = some (.ref fF))
    (FW : Fun K "is_whole" "is_whole" sWhole fW fdW) (bW : Binds K fdW ["x"] []) (mW : mg "is_whole" = some (.ref fW)) (XB : PySem.K1X.XC P K mg "BadTree" "index" CB iB OkInt) :
    FnOk P w K mg base (L2N.CX P w) 4 f fd ["sheet", "tree"] (spCT K C CB) := by
  have GN : FnOk P w K mg base CX0 1 fN fdN ["marks"] (spNames K) := ok_names FN
  have GA : FnOk P w K mg base CX0 1 fA fdA ["row"] (spAsk K) := ok_ask FA T
  have GG : FnOk P w K mg base CX0 3 fG fdG ["row", "names", "at", "named"] (spGA K) := ok_ga FG T FF bF mF FW bW mW
  refine F.okN scCT (fun vs H Q E h => ?_) (fun cdv A outer s H vs Q E hr h => ?_)
  · obtain ⟨_, _, _, _, _, _, _, _, _, _, _, _, rfl, _⟩ := h
    rfl
  · obtain ⟨x, t, a, b, c, p, ms, ts, MS, B, ps, rows, rfl, hI, hG, ht, hT, hrl, kE, kQ⟩ := h
    have hr1 : Room 1 _ := hr.mono (by decide)
    refine ⟨_, pss_cons (ps_set (i := 2) scCT.nd rfl (.inl rfl) (pe_call GN hr1 rfl mN FN.kp bN .nil pass0 (pa_cons (pe_fld (pv 0) rfl) pa_nil)))
      (pss_cons (ps_setLc (i := 3) (own := [("at", 4)]) (g := gName 4) rfl scCT.nd rfl rfl rfl (pi_range1 (by rfl) T.range (pa_cons (pe_callB call_len_seq (by rfl) T.len PySem.boot_len (pa_cons (pv 1) pa_nil)) pa_nil)) (blkOk_by (N := nsCT) (sc := defScope sCT) (by decide +kernel))
        (fun _ _ _ _ _ => pg_name (i := 4) scCT.nd rfl (.inl rfl)) (fun _ _ _ _ _ => pts_nil) (fun _ _ _ _ _ => pe_cmpR op_eq (pv 4) pe_int (nomark _)))
      (pss_cons (ps_for (passes_of rfl) rfl (pi_enum (by rfl) T.enumerate (pa_cons (pv 1) pa_nil)) (pg_tup rfl (pgs_cons (pg_name (i := 4) scCT.nd rfl (.inl rfl)) (pgs_cons (pg_name (i := 5) scCT.nd rfl (.inl rfl)) pgs_nil)))
        (pss_one (ps_if (pt_val (pe_call GA hr1 rfl mA FA.kp bA .nil pass0 (pa_cons (pv 5) pa_nil)))
          (pss_cons (ps_if (pt_not (pt_val (pe_call GG hr rfl mG FG.kp bG .nil pass0 (pa_cons (pv 5) (pa_cons (pv 2) (pa_cons (pv 4) (pa_cons (pv 3) pa_nil))))))) (pss_one (ps_raiseX (OkV := OkIntV) rfl XB okInt_of hr (L2N.takes_of rfl rfl rfl rfl) (pa_cons (pv 4) pa_nil) rfl)) pss_nil)
          (pss_cons (ps_asg pe_bl (pg_sub (pv 3) (pe_ix ix_tup (pv 5) pe_int (fun _ _ => rfl)) set_list))
          (pss_one (ps_asg pe_bl (pg_sub (pv 3) (pe_ix ix_tup (pv 5) pe_int (fun _ _ => rfl)) set_list))))) pss_nil)))
      (pss_cons (ps_if (pt_not (pt_truth (pv 1) (by intro _; rfl))) (pss_one (ps_raiseX (OkV := OkIntV) rfl XB okInt_of hr (L2N.takes_of rfl rfl rfl rfl) (pa_cons pe_int pa_nil) rfl)) pss_nil)
      (pss_one (ps_for (passes_of rfl) rfl (pi_enum (by rfl) T.enumerate (pa_cons (pv 3) pa_nil)) (pg_tup rfl (pgs_cons (pg_name (i := 4) scCT.nd rfl (.inl rfl)) (pgs_cons (pg_name (i := 6) scCT.nd rfl (.inl rfl)) pgs_nil)))
        (pss_one (ps_if (pt_not (pt_val (pv 6))) (pss_one (ps_raiseX (OkV := OkIntV) rfl XB okInt_of hr (L2N.takes_of rfl rfl rfl rfl) (pa_cons (pv 4) pa_nil) rfl)) pss_nil))))))), ?_⟩
    have hml := hG.ml
    obtain ⟨dx, hx⟩ := hI.at_
    refine ⟨_, rfl, x, C, dx, _, _, rfl, hx, S.cl, S.nm, look_m, a, ms, rfl, hI.ha, by omega, fun H1 n s1 hn => ?_⟩
    have hn : SqT K H1 n ((nodes ms).map V.str) := hn
    have ht1 := s1 _ _ ht
    have hpl : ps.length = rows.length := hT.len
    refine ⟨_, rfl, t, _, rfl, .inl (SqL.of ht1), ?_⟩
    rw [List.length_map, hpl]
    refine ⟨_, rfl, by omega, by omega, fun D hD => ?_⟩
    rw [Int.toNat_natCast]
    refine lc_it (walk_r0 (n := rows.length)) (fun i H' => Same H1 H' ∧ H' D = some (.lst (((named0 rows.length).take i).map V.bl))) ⟨Same.new hD, upd_same⟩ (fun _ _ _ _ => trivial) ?_ ?_
    · rintro i v Ha Hb hi ⟨q1, q2⟩ ⟨rfl, rfl⟩
      have hg : (named0 rows.length)[i]? = some (decide (i = 0)) := by unfold named0; rw [List.getElem?_map, List.getElem?_range hi]; rfl
      refine ⟨rfl, yes_ ⟨_, rfl, rfl, _, q2, ?_, Same.set q1 hD, ?_⟩⟩
      · rw [List.length_map, List.length_take]
        exact Nat.lt_of_le_of_lt (Nat.min_le_left _ _) (small1000 (by omega))
      · rw [upd_same, take_snoc hg, List.map_append]
        have e : decide (V.int (i : Nat) = V.int 0) = decide (i = 0) := decide_eq_decide.mpr ⟨fun q => by have := V.int.inj q; omega, fun q => by rw [q]; rfl⟩
        rw [e]; rfl
    rintro H2 ⟨s2, hD2⟩
    have nl : (named0 rows.length).length = rows.length := by unfold named0; simp
    rw [List.take_of_length_le (Nat.le_of_eq nl)] at hD2
    have hD0 : H D = none := s1.free hD
    have back : ∀ {H'}, But D H2 H' → Same H H' := fun {H'} e b o q => e b o (fun z => by rw [z, hD0] at q; cases q) ((s1.trans s2) b o q)
    have htD : t ≠ D := fun z => by rw [z, hD0] at ht; cases ht
    have ht2 := (s1.trans s2) _ _ ht
    obtain ⟨R0, hR0⟩ : ∃ R0, tfRows (nodes ms) rows 0 (named0 rows.length) = R0 := ⟨_, rfl⟩
    refine ⟨_, rfl, t, _, rfl, SqL.of ht2, for_it (walk_enum (K := K) (a := t) (xs := ps.map V.ref)) (fun i σ H' => ∃ (v4 v5 v6 : Option V) (bs : List Bool), σ = [some (.ref x), some (.ref t), some (.ref n), some (.ref D), v4, v5, v6] ∧ But D H2 H' ∧ H' D = some (.lst (bs.map V.bl)) ∧ bs.length = rows.length ∧ tfRows (nodes ms) (rows.drop i) i bs = R0)
      ⟨none, none, none, named0 rows.length, rfl, But.refl, hD2, nl, hR0⟩ (fun i σ H' _ ⟨_, _, _, _, _, q, _⟩ => SqL.of (q _ _ htD ht2)) ?_ ?_⟩
    · rintro i v σ H3 H4 hi ⟨v4, v5, v6, bs, rfl, b3, hD3, hbl, htf⟩ ⟨T1, x', y', rfl, hT1, rfl, hx', hy'⟩
      obtain ⟨pf, hpf, rfl⟩ := get_map hy'
      cases hx'
      have hir : i < rows.length := by rw [List.length_map] at hi; omega
      obtain ⟨xs, hxs⟩ : ∃ xs, rows[i]? = some xs := ⟨_, List.getElem?_eq_getElem hir⟩
      have hdrop : rows.drop i = xs :: rows.drop (i + 1) := by
        rw [List.drop_eq_getElem_cons hir]
        have := List.getElem?_eq_getElem hir
        rw [hxs] at this
        rw [← Option.some.inj this]
      rw [hdrop, tfRows_cons] at htf
      obtain ⟨r1, r2, r3⟩ := (((hT.same (s1.trans s2)).imp fun _ _ q => But.tupL hD2 b3 q).same (Same.new (o := .tup [.int (i : Nat), .ref pf]) hT1)).row i pf xs hpf hxs
      have hD4 : (upd H3 T1 (.tup [.int (i : Nat), .ref pf])) D = some (.lst (bs.map V.bl)) := Same.new hT1 _ _ hD3
      have b4 : But D H2 (upd H3 T1 (.tup [.int (i : Nat), .ref pf])) := b3.trans (Same.but (Same.new hT1))
      have hp4 : SqT K (upd H3 T1 (.tup [.int (i : Nat), .ref pf])) T1 [.int (i : Nat), .ref pf] := tup_at
      have hn4 := But.tupL hD2 b4 (Same.tup (K := K) s2 hn)
      generalize upd H3 T1 (.tup [.int (i : Nat), .ref pf]) = H4 at r1 r2 hD4 b4 hp4 hn4
      refine ⟨T1, _, rfl, hp4, rfl, _, _, rfl, _, _, rfl, rfl, ?_⟩
      refine ⟨_, rfl, pf, xs, rfl, r1, r2, _, rfl, ?_⟩
      cases ea : isAsk xs with
      | false =>
        rw [ea, if_neg Bool.false_ne_true] at htf
        exact iteF ⟨_, _, _, bs, rfl, b4, hD4, hbl, htf⟩
      | true =>
        rw [ea, if_pos rfl] at htf
        refine iteT ?_
        refine ⟨_, rfl, _, rfl, _, rfl, _, rfl, pf, n, D, xs, nodes ms, i, bs, rfl, r1, r3 ea, hn4, hD4, fun H5 s5 => ⟨_, rfl, ?_⟩⟩
        cases eg : goodAsk (nodes ms) i bs xs with
        | false =>
          rw [eg, if_neg Bool.false_ne_true] at htf
          have hf : treeFault (nodes ms) rows = some i := by
            unfold treeFault
            rw [hR0, ← htf]
          refine iteT ⟨_, rfl, _, rfl, ⟨i, rfl, small_log (by omega)⟩, fun d hd => ?_⟩
          have sH := back (b4.trans (Same.but s5))
          exact kE i _ d hf (sH.trans (Same.new hd)) (sH.free hd) upd_same
        | true =>
          rw [eg, if_pos rfl] at htf
          refine iteF ?_
          obtain ⟨x0, xx, yy, cc, yes, no, rfl, hy1, hn1⟩ := goodAsk_true eg
          have r5 := Same.tup s5 r1
          have hD5 := s5 _ _ hD4
          dsimp only [tNext]
          refine ⟨_, rfl, _, rfl, _, _, _, _, rfl, rfl, r5, at_of (j := 4) rfl rfl, D, _, _, yes, rfl, rfl, hD5, ixN_nat (by rw [List.length_map]; exact hy1), ?_⟩
          rw [map_set]
          have b6 : But D H2 (upd H5 D (.lst ((bs.set yes true).map V.bl))) := (b4.trans (Same.but s5)).trans fun b o nb q => by rw [upd_ne nb]; exact q
          have r6 : SqT K (upd H5 D (.lst ((bs.set yes true).map V.bl))) pf _ := But.tupL hD5 (fun b o nb q => by rw [upd_ne nb]; exact q) r5
          refine ⟨_, rfl, _, rfl, _, _, _, _, rfl, rfl, r6, at_of (j := 5) rfl rfl, D, _, _, no, rfl, rfl, upd_same, ixN_nat (by rw [List.length_map, List.length_set]; exact hn1), ?_⟩
          rw [map_set]
          refine ⟨_, _, _, _, rfl, b6.trans fun b o nb q => by rw [upd_ne nb]; exact q, upd_same, by rw [List.length_set, List.length_set]; exact hbl, ?_⟩
          exact htf
    · rintro σ H3 ⟨v4, v5, v6, bs, rfl, b3, hD3, hbl, htf⟩
      rw [List.length_map, hpl, List.drop_length] at htf
      have htf : Sum.inr bs = R0 := htf
      have hf : treeFault (nodes ms) rows = if rows.length = 0 then some 0 else first (fun j => !(bs.getD j false)) bs.length := by
        unfold treeFault
        rw [hR0, ← htf]
      have ht3 := b3 _ _ htD ht2
      refine ⟨_, rfl, _, .inl ⟨_, SqL.of ht3, rfl⟩, ?_⟩
      by_cases h0 : rows.length = 0
      · rw [if_pos h0] at hf
        have e0 : ps = [] := List.length_eq_zero_iff.mp (by omega)
        rw [e0]
        refine iteT ⟨_, rfl, ⟨0, rfl, by decide⟩, fun d hd => ?_⟩
        exact kE 0 _ d hf ((back b3).trans (Same.new hd)) ((back b3).free hd) upd_same
      · rw [if_neg h0] at hf
        have e0 : (ps.map V.ref).isEmpty = false := by
          cases ps with
          | nil => exact absurd hpl.symm h0
          | cons p0 pr => rfl
        rw [e0]
        refine iteF ?_
        dsimp only [tNext]
        refine ⟨_, rfl, D, _, rfl, SqL.of hD3, for_it (walk_enum (K := K) (a := D) (xs := bs.map V.bl)) (fun i σ H' => (∃ w4 w6 : Option V, σ = [some (.ref x), some (.ref t), some (.ref n), some (.ref D), w4, v5, w6]) ∧ Same H3 H' ∧ ∀ j, j < i → bs.getD j false = true)
          ⟨⟨_, _, rfl⟩, Same.refl H3, fun j hj => absurd hj (Nat.not_lt_zero _)⟩ (fun i σ H' _ q => SqL.of (q.2.1 _ _ hD3)) ?_ ?_⟩
        · rintro i v σ H4 H5 hi ⟨⟨w4, w6, rfl⟩, s4, hall⟩ ⟨T1, x', y', rfl, hT1, rfl, hx', hy'⟩
          obtain ⟨bb, hbb, rfl⟩ := get_map hy'
          cases hx'
          have hib : i < bs.length := by rw [List.length_map] at hi; exact hi
          have gb : bs.getD i false = bb := by rw [List.getD_eq_getElem?_getD, hbb]; rfl
          have s5 : Same H3 (upd H4 T1 (.tup [.int (i : Nat), .bl bb])) := s4.trans (Same.new hT1)
          refine ⟨T1, _, rfl, tup_at, rfl, _, _, rfl, _, _, rfl, rfl, ?_⟩
          refine ⟨_, rfl, _, rfl, ?_⟩
          cases bb with
          | false =>
            refine iteT ⟨_, rfl, _, rfl, ⟨i, rfl, small_log (by omega)⟩, fun d hd => ?_⟩
            have sH := (back b3).trans s5
            refine kE i _ d (hf.trans (first_some hib (fun j hj => by rw [hall j hj]; rfl) (by rw [gb]; rfl))) (sH.trans (Same.new hd)) (sH.free hd) upd_same
          | true =>
            refine iteF ⟨⟨_, _, rfl⟩, s5, fun j hj => ?_⟩
            by_cases q : j = i
            · rw [q]; exact gb
            · exact hall j (by omega)
        · rintro σ H4 ⟨⟨w4, w6, rfl⟩, s4, hall⟩
          rw [List.length_map] at hall
          exact kQ (hf.trans (first_none fun j hj => by rw [hall j hj]; rfl)) _ ((back b3).trans s4)
end
end K1
end
section
set_option maxRecDepth 100000
set_option maxHeartbeats 4000000
namespace K1
open PySem PyProof.Rows L2 K01
section
variable {P : Program} {w : World} {K : PySem.W.Frag} {mg : Str → Option Value} {base : Heap}
abbrev sSoF : Stmt := top 62
def spSoF (K : PySem.W.Frag) : Sp := fun vs H Q _ => ∃ (p a c0 : Addr) (ms : List Str) (F0 : List Fact) (most : Nat) (far z : Int), vs = [.ref p, .ref a, .ref c0, .int most, .int far] ∧ PitAt H p z ∧ z ≤ 800000 ∧ strsT K H a ms ∧ 1 ≤ ms.length ∧ ms.length ≤ 7 ∧ GoodNs ms ∧ TTAt K H c0 (F0.map factV) ∧ F0.length + most ≤ 50 ∧ (∀ f ∈ F0, FOk ms f) ∧
  negs (ms.length + 1) (closedM (ms.length + 1) (F0.map (eF ms))) = [] ∧ 0 ≤ far ∧ far ≤ 10 ^ 12 ∧
  ∀ (H' : Hp) (c : Addr) (F : List Fact), But p H H' → PitAt H' p (z + 1 + 3 * most) → TTAt K H' c (F.map factV) → F.length ≤ F0.length + most → (∀ f ∈ F, FOk ms f) → negs (ms.length + 1) (closedM (ms.length + 1) (F.map (eF ms))) = [] → Q (.ref c) H'
abbrev nsSoF : List Str := ["pit", "ms", "fs", "most", "far", "turn", "more"]
theorem scSoF : FnScope nsSoF ["pit", "ms", "fs", "most", "far"] (defScope sSoF) := ⟨rfl, rfl, rfl, by decide +kernel, rfl, by decide +kernel, by decide +kernel⟩
theorem ok_sof {f fh fD fC fM : Addr} {fd fdh fdD fdC fdM : FuncData} (F : Fun K "_law_some_facts" "_law_some_facts" sSoF f fd) (T : Bi mg)
    (FH : Fun K "_law_hoist" "_law_hoist" sHoist fh fdh) (bH : Binds K fdh ["pit", "below"] []) (mH : mg "_law_hoist" = some (.ref fh))
    (FD : Fun K "_law_drawn_fact" "_law_drawn_fact" sDF fD fdD) (bD : Binds K fdD ["pit", "marks_here", "far"] []) (mD : mg "_law_drawn_fact" = some (.ref fD))
    (FM : Fun K "_law_numbered" "_law_numbered" sNum fM fdM) (bM : Binds K fdM ["marks_here", "facts_here"] []) (mM : mg "_law_numbered" = some (.ref fM))
    (FC : Fun K "_law_closed" "_law_closed" sClosed fC fdC) (bC : Binds K fdC ["many", "facts_here"] []) (mC : mg "_law_closed" = some (.ref fC)) :
    FnOk P w K mg base CX0 3 f fd ["pit", "ms", "fs", "most", "far"] (spSoF K) := by
  have GH : FnOk P w K mg base CX0 1 fh fdh ["pit", "below"] (spHoist K) := ok_hoist FH T
  have GD : FnOk P w K mg base CX0 2 fD fdD ["pit", "marks_here", "far"] (spDF K) := ok_df FD T FH bH mH
  have GM : FnOk P w K mg base CX0 1 fM fdM ["marks_here", "facts_here"] (spNum K) := ok_num FM T
  have GC : FnOk P w K mg base CX0 1 fC fdC ["many", "facts_here"] (spClosed K) := ok_closed FC T
  refine F.ok scSoF (fun vs H Q E h => ?_) (fun cdv A outer s H vs Q E hr h => ?_)
  · obtain ⟨_, _, _, _, _, _, _, _, rfl, _⟩ := h
    rfl
  · obtain ⟨p, a, c0, ms, F0, most, far, z, rfl, hp, hz, ha, hm1, hml, hG, hc0, hF50, hF0, hN0, hf0, hf1, k⟩ := h
    have hr1 : Room 1 _ := hr.mono (by decide)
    refine ⟨_, pss_cons (ps_for PassesOwn.never rfl (pi_range1 (by rfl) T.range (pa_cons (pe_call GH hr1 rfl mH FH.kp bH .nil pass0 (pa_cons (pv 0) (pa_cons (pe_op op_add (pv 3) pe_int) pa_nil))) pa_nil)) (pg_name (i := 5) scSoF.nd rfl (.inl rfl))
        (pss_cons (ps_set (i := 6) scSoF.nd rfl (.inl rfl) (pe_op op_catA (pv 2) (pe_tup (pa_cons (pe_call GD hr rfl mD FD.kp bD .nil pass0 (pa_cons (pv 0) (pa_cons (pv 1) (pa_cons (pv 4) pa_nil)))) pa_nil))))
        (pss_one (ps_if (pt_cmpR op_notN (pe_call GC hr1 rfl mC FC.kp bC .nil pass0 (pa_cons (pe_callB call_len_seq (by rfl) T.len PySem.boot_len (pa_cons (pv 1) pa_nil)) (pa_cons (pe_call GM hr1 rfl mM FM.kp bM .nil pass0 (pa_cons (pv 1) (pa_cons (pv 6) pa_nil))) pa_nil))) pe_non (nomark _))
          (pss_one (ps_set (i := 2) scSoF.nd rfl (.inl rfl) (pv 6))) pss_nil))))
      (pss_one (ps_ret (pv 2))), ?_⟩
    refine ⟨_, rfl, _, rfl, _, _, rfl, rfl, p, _, _, rfl, hp, by omega, by omega, by omega, fun H7 d7 b7 P7 l7 u7 => ?_⟩
    obtain ⟨n7, rfl⟩ := Int.eq_ofNat_of_zero_le l7
    refine ⟨_, rfl, by omega, by omega, ?_⟩
    rw [Int.toNat_natCast]
    refine for_r0 (fun i σ H' => (∃ (c : Addr) (F : List Fact) (v7 v8 : Option V), σ = [some (.ref p), some (.ref a), some (.ref c), some (.int (most : Nat)), some (.int far), v7, v8] ∧ TTAt K H' c (F.map factV) ∧ F.length ≤ F0.length + i ∧ (∀ f ∈ F, FOk ms f) ∧ negs (ms.length + 1) (closedM (ms.length + 1) (F.map (eF ms))) = []) ∧ But p H H' ∧ PitAt H' p (z + 1 + 3 * i) ∧ strsT K H' a ms)
      ⟨⟨c0, F0, _, _, rfl, hp.tt b7 hc0, Nat.le_refl _, hF0, hN0⟩, b7, by simpa using P7, hp.tup b7 ha⟩ ?_ ?_
    · rintro i σ H8 hi ⟨⟨c, F, v7, v8, rfl, hF, hFl, hFo, hFn⟩, B8, P8, ha8⟩
      refine ⟨_, rfl, _, rfl, _, rfl, _, rfl, p, a, ms, far, _, rfl, P8, by omega, ha8, by omega, by omega, hG.nodes, hf0, hf1, fun H9 q f b9 P9 hq hf => ?_⟩
      refine ⟨by show 1 ≤ sizeLine; decide, fun t ht => ?_⟩
      have B9 : But p H (upd H9 t (.tup [.ref q])) := (B8.trans b9).trans (Same.but (Same.new ht))
      have P9' := P9.same (Same.new (o := .tup [.ref q]) ht)
      have ha9 := Same.tup (K := K) (Same.new (o := .tup [.ref q]) ht) (P8.tup b9 ha8)
      obtain ⟨ps, hF1, hF2⟩ := (P8.tt b9 hF).same (Same.new (o := .tup [.ref q]) ht)
      have hq9 := Same.new (o := .tup [.ref q]) ht _ _ hq
      have pl : ps.length = F.length := by rw [hF2.1, List.length_map]
      refine catA_it hF1 tup_at (by rw [List.length_map, pl]; exact line8 (show F.length + 1 ≤ 100 by omega)) fun u H10 s10 hu => ?_
      have hT : TTAt K H10 u ((F ++ [f]).map factV) := ⟨ps ++ [q], by rw [List.map_append]; exact hu, by rw [List.map_append]; exact (hF2.same s10).snoc (s10 _ _ hq9)⟩
      have hFo' : ∀ g ∈ F ++ [f], FOk ms g := fun g hg => by
        rcases List.mem_append.mp hg with hg | hg
        · exact hFo g hg
        · rw [List.mem_singleton] at hg; rw [hg]; exact hf
      have ha10 := Same.tup (K := K) s10 ha9
      have hFl' : (F ++ [f]).length ≤ F0.length + (i + 1) := by rw [List.length_append, List.length_singleton]; omega
      refine ⟨_, rfl, a, _, rfl, .inr ha10, _, rfl, _, rfl, a, u, ms, F ++ [f], rfl, ha10, by omega, hT, by omega, FOk.inN hFo', fun H11 r rs s11 g1 g2 => ?_⟩
      refine ⟨ms.length, r, rs, (F ++ [f]).map (eF ms), by rw [List.length_map]; rfl, by omega, g1, by rw [List.map_map]; exact g2, (FOk.inN hFo').inR, fun H12 s12 => ?_⟩
      have s3 := (s10.trans s11).trans s12
      have ePit : z + 1 + 3 * (i : Int) + 3 = z + 1 + 3 * ((i + 1 : Nat) : Int) := by omega
      rw [ePit] at P9'
      refine ⟨fun hn R _ => ⟨rfl, _, rfl, iteNF (fun z => nomatch z) ⟨_, rfl, ⟨u, F ++ [f], _, _, rfl, hT.same (s11.trans s12), hFl', hFo', hn⟩, B9.trans (Same.but s3), P9'.same s3, Same.tup s3 ha9⟩⟩, fun hn => ⟨rfl, _, rfl, iteNS rfl ⟨⟨c, F, _, _, rfl, ⟨ps, Same.tup s3 hF1, hF2.same s3⟩, by omega, hFo, hFn⟩, B9.trans (Same.but s3), P9'.same s3, Same.tup s3 ha9⟩⟩⟩
    · rintro σ H8 ⟨⟨c, F, v7, v8, rfl, hF, hFl, hFo, hFn⟩, B8, P8, ha8⟩
      exact ⟨_, rfl, k H8 c F B8 (P8.mono (by omega)) hF (by omega) hFo hFn⟩
end
end K1
end
section
set_option maxRecDepth 100000
set_option maxHeartbeats 4000000
namespace K1
open PySem PyProof.Rows L2 K01
section
variable {P : Program} {w : World} {K : PySem.W.Frag} {mg : Str → Option Value} {base : Heap}
abbrev sSpO : Stmt := top 66
def spSpO (K : PySem.W.Frag) : Sp := fun vs H Q _ => ∃ (a b : Addr) (ms : List Str) (xs : List Int), vs = [.ref a, .ref b] ∧ strsT K H a ms ∧ (nodes ms).Nodup ∧ SqT K H b (xs.map V.int) ∧ xs.length = ms.length ∧ ms.length ≤ 100 ∧ ∀ H' d, Same H H' → DictOf H' d (nodes ms) (fun i => .int ((0 :: xs).getD i 0)) → Q (.ref d) H'
theorem scSpO : FnScope ["ms", "places", "spots", "k"] ["ms", "places"] (defScope sSpO) := ⟨rfl, rfl, rfl, by decide +kernel, rfl, by decide +kernel, by decide +kernel⟩
theorem ok_spo {f : Addr} {fd : FuncData} (F : Fun K "_law_spots_of" "_law_spots_of" sSpO f fd) (T : Bi mg) : FnOk P w K mg base CX0 1 f fd ["ms", "places"] (spSpO K) := by
  refine F.ok scSpO (fun vs H Q E h => ?_) (fun cdv A outer s H vs Q E hr h => ?_)
  · obtain ⟨_, _, _, _, rfl, _⟩ := h
    rfl
  · obtain ⟨a, b, ms, xs, rfl, ha, hN, hb, hxl, hml, k⟩ := h
    have hu := hu_of hr
    refine ⟨_, pss_cons (ps_set (i := 2) scSpO.nd rfl (.inl rfl) (pe_disp (pps_cons pe_str pe_int pps_nil) (by rfl) (by rfl) (fun z => by cases z) (by decide)))
      (pss_cons (ps_for PassesOwn.never rfl (pi_range1 (by rfl) T.range (pa_cons (pe_callB call_len_seq (by rfl) T.len PySem.boot_len (pa_cons (pv 0) pa_nil)) pa_nil)) (pg_name (i := 3) scSpO.nd rfl (.inl rfl))
        (pss_one (ps_dput hu (pv 2) (pe_ix ix_tup (pv 0) (pv 3) (fun _ _ => rfl)) (pe_ix ix_tup (pv 1) (pv 3) (fun _ _ => rfl)) rfl)))
      (pss_one (ps_ret (pv 2)))), ?_⟩
    intro D hD
    refine ⟨upd_same, [(Sum.inr "zero", .int 0)], rfl, by show 1 ≤ 15; decide, ?_⟩
    have s1 : Same H (upd (upd H D (.dK [])) D (.dK (mergeK [] [(Sum.inr ("zero" : Str), .int 0)]))) := Same.set (Same.new hD) hD
    have e1 : (upd (upd H D (.dK [])) D (.dK (mergeK [] [(Sum.inr ("zero" : Str), .int 0)]))) D = some (.dK [(Sum.inr ("zero" : Str), .int 0)]) := upd_same
    generalize upd (upd H D (.dK [])) D (.dK (mergeK [] [(Sum.inr ("zero" : Str), .int 0)])) = H1 at s1 e1 ⊢
    refine ⟨_, rfl, a, _, rfl, .inr (Same.tup s1 ha), ?_⟩
    rw [List.length_map]
    refine ⟨_, rfl, by omega, by omega, ?_⟩
    rw [Int.toNat_natCast]
    refine for_r0 (n := ms.length) (fun i σ H' => (∃ v3 : Option V, σ = [some (.ref a), some (.ref b), some (.ref D), v3]) ∧ Same H H' ∧ ∃ kvs, H' D = some (.dK kvs) ∧ kvs.length ≤ i + 1 ∧ ∀ (j : Nat) (z : Str), j ≤ i → (nodes ms)[j]? = some z → valV kvs (Sum.inr z) = some (.int ((0 :: xs).getD j 0)))
      ⟨⟨_, rfl⟩, s1, _, e1, Nat.le_refl _, fun j z hj hz => ?_⟩ ?_ ?_
    · have : j = 0 := by omega
      subst this
      cases hz
      exact valV_pos rfl
    · rintro i σ H2 hi ⟨⟨v3, rfl⟩, s2, kvs, q1, q2, q3⟩
      have hm : (ms.map V.str)[i]? = some (.str ms[i]) := by rw [List.getElem?_map, List.getElem?_eq_getElem hi]; rfl
      have hx : (xs.map V.int)[i]? = some (.int ((0 :: xs).getD (i + 1) 0)) := by
        have hxi : i < xs.length := by omega
        rw [List.getElem?_map, List.getElem?_eq_getElem hxi, List.getD_eq_getElem?_getD, List.getElem?_cons_succ, List.getElem?_eq_getElem hxi]; rfl
      dsimp only [gName]
      refine ⟨_, rfl, _, rfl, _, _, _, _, rfl, rfl, Same.tup s2 hb, atI_nat hx, _, rfl, _, rfl, _, rfl, _, _, _, _, rfl, rfl, Same.tup s2 ha, atI_nat hm, D, _, rfl, DPut.k (k := Sum.inr ms[i]) q1 (small1000 (by omega)), ?_⟩
      refine ⟨⟨_, rfl⟩, Same.set s2 hD, _, upd_same, Nat.le_trans (L2.length_putK _ _ _) (by omega), fun j u hj hu' => ?_⟩
      have hz' : (nodes ms)[i + 1]? = some ms[i] := by rw [List.getElem?_cons_succ]; exact List.getElem?_eq_getElem hi
      rw [L2.valV_put]
      by_cases e : j = i + 1
      · subst e
        rw [hz'] at hu'
        cases hu'
        rw [if_pos rfl]
      · rw [if_neg (fun q => e (nodup_get hN hu' (by rw [Sum.inr.inj q]; exact hz'))), q3 j u (by omega) hu']
    · rintro σ H2 ⟨⟨v3, rfl⟩, s2, kvs, q1, q2, q3⟩
      exact ⟨_, rfl, k H2 D s2 ⟨kvs, q1, by show kvs.length ≤ ms.length + 1; omega, fun j z hz => q3 j z (by have := (List.getElem?_eq_some_iff.mp hz).1; have e : (nodes ms).length = ms.length + 1 := rfl; omega) hz⟩⟩
end
end K1
end
section
set_option maxRecDepth 100000
set_option maxHeartbeats 4000000
namespace K1
open PySem PyProof.Rows L2 K01
/-- an ask as a good tree has it at i, of n rows -/
structure AskAt (ns : List Str) (n i : Nat) (xs : List V) (x y : Str) (c : Int) (yes no : Nat) : Prop where
  eq : xs = [.str "ask", .str x, .str y, .int c, .int yes, .int no]
  hx : x ∈ ns
  hy : y ∈ ns
  ly : i < yes
  hyes : yes < n
  ln : i < no
  hno : no < n
theorem fact_true {ns : List Str} {x y c : V} (fx : Flat x) (fy : Flat y) (h : factOk ns [x, y, c] = true) : ∃ (u v : Str) (d : Int), x = .str u ∧ y = .str v ∧ c = .int d ∧ u ∈ ns ∧ v ∈ ns := by
  have h : (inV x (ns.map V.str) && (inV y (ns.map V.str) && (!decide (x = y) && isWhole c))) = true := h
  simp only [Bool.and_eq_true] at h
  obtain ⟨h1, h2, _, h4⟩ := h
  have st : ∀ {v : V}, Flat v → inV v (ns.map V.str) = true → ∃ u, v = .str u ∧ u ∈ ns := fun {v} hf hv => by
    by_cases q : ∃ z, v = .str z
    · obtain ⟨z, rfl⟩ := q
      exact ⟨z, rfl, by rw [inV_str] at hv; exact of_decide_eq_true hv⟩
    · rw [inV_other hf (fun z e => q ⟨z, e⟩)] at hv; cases hv
  obtain ⟨u, rfl, hu⟩ := st fx h1
  obtain ⟨v, rfl, hv⟩ := st fy h2
  cases c with
  | int d => exact ⟨u, v, d, rfl, rfl, rfl, hu, hv⟩
  | _ => cases h4
theorem good_ask {ns : List Str} {i : Nat} {bs : List Bool} {xs : List V} (hf : ∀ x ∈ xs, Flat x) (ha : isAsk xs = true) (h : goodAsk ns i bs xs = true) : ∃ x y c yes no, AskAt ns bs.length i xs x y c yes no := by
  unfold goodAsk at h
  split at h
  · rename_i x0 x y c yes no
    simp only [Bool.and_eq_true, decide_eq_true_eq] at h
    obtain ⟨h0, _, ⟨h1, h2⟩, ⟨h3, h4⟩, _⟩ := h
    obtain ⟨u, v, d, rfl, rfl, rfl, hu, hv⟩ := fact_true (hf _ (by simp)) (hf _ (by simp)) h0
    obtain ⟨y1, rfl⟩ := Int.eq_ofNat_of_zero_le (show 0 ≤ yes by omega)
    obtain ⟨n1, rfl⟩ := Int.eq_ofNat_of_zero_le (show 0 ≤ no by omega)
    cases x0 with
    | str z =>
      have hz : z = "ask" := of_decide_eq_true ha
      subst hz
      exact ⟨u, v, d, y1, n1, rfl, hu, hv, by omega, by omega, by omega, by omega⟩
    | _ => cases ha
  · cases h
theorem rows_good {ns : List Str} : ∀ (rows : List (List V)) (i : Nat) (bs out : List Bool), (∀ r ∈ rows, isAsk r = true → ∀ x ∈ r, Flat x) → tfRows ns rows i bs = .inr out → out.length = bs.length ∧ ∀ (j : Nat) (xs : List V), rows[j]? = some xs → isAsk xs = true → ∃ x y c yes no, AskAt ns bs.length (i + j) xs x y c yes no
  | [], i, bs, out, _, h => by cases h; exact ⟨rfl, fun j xs e => nomatch e⟩
  | r :: rs, i, bs, out, hf, h => by
    have hfr := fun x hx => hf x (List.mem_cons_of_mem r hx)
    rw [tfRows_cons] at h
    by_cases ha : isAsk r = true
    · rw [if_pos ha] at h
      by_cases hg : goodAsk ns i bs r = true
      · rw [if_pos hg] at h
        obtain ⟨q1, q2⟩ := rows_good rs (i + 1) (nameBoth bs r) out hfr h
        rw [nameBoth_len] at q1 q2
        refine ⟨q1, fun j xs e hxs => ?_⟩
        cases j with
        | zero => cases e; exact good_ask (hf _ List.mem_cons_self ha) ha hg
        | succ j =>
          have := q2 j xs e hxs
          rwa [show i + 1 + j = i + (j + 1) by omega] at this
      · rw [if_neg hg] at h; cases h
    · rw [if_neg ha] at h
      obtain ⟨q1, q2⟩ := rows_good rs (i + 1) bs out hfr h
      refine ⟨q1, fun j xs e hxs => ?_⟩
      cases j with
      | zero => cases e; exact absurd hxs ha
      | succ j =>
        have := q2 j xs e hxs
        rwa [show i + 1 + j = i + (j + 1) by omega] at this
theorem tree_good {ns : List Str} {rows : List (List V)} (hf : ∀ r ∈ rows, isAsk r = true → ∀ x ∈ r, Flat x) (h : treeFault ns rows = none) : 0 < rows.length ∧ ∀ (j : Nat) (xs : List V), rows[j]? = some xs → isAsk xs = true → ∃ x y c yes no, AskAt ns rows.length j xs x y c yes no := by
  unfold treeFault at h
  cases e : tfRows ns rows 0 (named0 rows.length) with
  | inl k => rw [e] at h; cases h
  | inr bs =>
    rw [e] at h
    by_cases h0 : rows.length = 0
    · have h : (if rows.length = 0 then some 0 else first (fun j => !(bs.getD j false)) bs.length) = none := h
      rw [if_pos h0] at h; cases h
    · refine ⟨by omega, fun j xs e1 e2 => ?_⟩
      have := (rows_good rows 0 (named0 rows.length) bs hf e).2 j xs e1 e2
      rw [Nat.zero_add] at this
      have nl : (named0 rows.length).length = rows.length := by unfold named0; simp
      rwa [nl] at this
/-- the way to a leaf -/
inductive Goes (val : Str → Int) (rows : List (List V)) : Nat → Nat → Prop
  | stop {k : Nat} {xs : List V} : rows[k]? = some xs → isAsk xs = false → Goes val rows k k
  | step {k j yes no : Nat} {x y : Str} {c : Int} : rows[k]? = some [.str "ask", .str x, .str y, .int c, .int yes, .int no] → Goes val rows (if val x - val y ≤ c then yes else no) j → Goes val rows k j
theorem Goes.det {val : Str → Int} {rows : List (List V)} {k j : Nat} (h : Goes val rows k j) : ∀ {j'}, Goes val rows k j' → j = j' := by
  induction h with
  | stop h1 h2 =>
    intro j' h'
    cases h' with
    | stop => rfl
    | step e _ => rw [h1] at e; cases e; cases h2
  | step h1 _ ih =>
    intro j' h'
    cases h' with
    | stop e1 e2 => rw [h1] at e1; cases e1; cases e2
    | step e g =>
      rw [h1] at e
      simp only [Option.some.injEq, List.cons.injEq, V.str.injEq, V.int.injEq, and_true] at e
      obtain ⟨_, rfl, rfl, rfl, e1, e2⟩ := e
      have e1 := Int.ofNat.inj e1
      have e2 := Int.ofNat.inj e2
      subst e1 e2
      exact ih g
end K1
end
section
set_option maxRecDepth 100000
set_option maxHeartbeats 4000000
namespace K1
open PySem PyProof.Rows L2 K01
/-- a drawn row: an ask with its two rows, or a leaf -/
abbrev DRow := Option (Fact × Nat × Nat)
def entR (d : DRow) (s : Nat) : Option Nat := match d with
  | some (_, y, n) => some (if s = 0 then y else n)
  | none => none
def ent (D : List DRow) (o s : Nat) : Option Nat := match D[o]? with
  | some d => entR d s
  | none => none
def putR (s k : Nat) (d : DRow) : DRow := match d with
  | some (f, y, n) => if s = 0 then some (f, k, n) else some (f, y, k)
  | none => none
def asks (D : List DRow) : Nat := (D.filter Option.isSome).length
theorem ent_lt {D : List DRow} {o s v : Nat} (h : ent D o s = some v) : o < D.length := by
  unfold ent at h
  by_cases q : o < D.length
  · exact q
  · rw [List.getElem?_eq_none (by omega)] at h; cases h
theorem entR_put {d : DRow} {s s' k : Nat} (hs : s < 2) (hs' : s' < 2) : entR (putR s k d) s' = if s' = s then (entR d s').map (fun _ => k) else entR d s' := by
  rcases d with _ | ⟨f, y, n⟩
  · by_cases e : s' = s
    · rw [if_pos e]; rfl
    · rw [if_neg e]; rfl
  · match s, s', hs, hs' with
    | 0, 0, _, _ => rfl
    | 0, 1, _, _ => rfl
    | 1, 0, _, _ => rfl
    | 1, 1, _, _ => rfl
theorem ent_put {D : List DRow} {o s k o' s' : Nat} (hs : s < 2) (hs' : s' < 2) : ent (D.modify o (putR s k)) o' s' = if o' = o ∧ s' = s then (ent D o' s').map (fun _ => k) else ent D o' s' := by
  unfold ent
  rw [List.getElem?_modify]
  by_cases e : o' = o
  · subst e
    cases q : D[o']? with
    | none =>
      simp
    | some d =>
      simp only [if_pos, Option.map_some, true_and]
      exact entR_put hs hs'
  · have e2 : ¬(o = o') := fun q => e q.symm
    rw [if_neg (fun q => e q.1)]
    simp only [if_neg e2]
    cases D[o']? <;> rfl
theorem ent_snoc {D : List DRow} {d : DRow} {o s : Nat} : ent (D ++ [d]) o s = if o = D.length then entR d s else ent D o s := by
  unfold ent
  by_cases e : o = D.length
  · subst e
    rw [if_pos rfl, List.getElem?_concat_length]
  · rw [if_neg e]
    by_cases q : o < D.length
    · rw [List.getElem?_append_left q]
    · rw [List.getElem?_eq_none (by rw [List.length_append, List.length_singleton]; omega), List.getElem?_eq_none (by omega)]
theorem asks_snoc {D : List DRow} {d : DRow} : asks (D ++ [d]) = asks D + (if d.isSome then 1 else 0) := by
  unfold asks
  rw [List.filter_append, List.length_append]
  cases d <;> rfl
theorem isSome_put {s k : Nat} {d : DRow} : (putR s k d).isSome = d.isSome := by
  rcases d with _ | ⟨f, y, n⟩
  · rfl
  · unfold putR
    by_cases h : s = 0
    · simp [h]
    · simp [h]
theorem asks_put {D : List DRow} {o s k : Nat} : asks (D.modify o (putR s k)) = asks D := by
  unfold asks
  induction D generalizing o with
  | nil => simp
  | cons d D ih =>
    cases o with
    | zero =>
      rw [List.modify_zero_cons]
      simp only [List.filter_cons, isSome_put]
      split <;> rfl
    | succ o =>
      rw [List.modify_succ_cons]
      simp only [List.filter_cons]
      split
      · simp only [List.length_cons]; rw [ih]
      · exact ih
/-- what holds as the rows are drawn -/
structure TI (D : List DRow) (S : List (Nat × Nat)) : Prop where
  sd : S.Nodup
  sv : ∀ o s, (o, s) ∈ S → s < 2 ∧ (D.length = 0 ∧ o = 0 ∨ ent D o s = some 0)
  ev : ∀ o s v, s < 2 → ent D o s = some v → (v = 0 ∧ (o, s) ∈ S) ∨ (o < v ∧ v < D.length)
  un : ∀ o s o' s' v, s < 2 → s' < 2 → ent D o s = some v → ent D o' s' = some v → 0 < v → o = o' ∧ s = s'
  al : ∀ v, 0 < v → v < D.length → ∃ o s, s < 2 ∧ ent D o s = some v
  cnt : S.length + D.length = 1 + 2 * asks D
theorem TI.start : TI [] [(0, 0)] where
  sd := by simp
  sv := fun o s h => by
    rw [List.mem_singleton] at h
    cases h
    exact ⟨by decide, .inl ⟨rfl, rfl⟩⟩
  ev := fun o s v _ h => by cases h
  un := fun o s o' s' v _ _ h => by cases h
  al := fun v _ h => absurd h (Nat.not_lt_zero _)
  cnt := rfl
/-- the row's number is told to its owner -/
def fillT (D : List DRow) (o s : Nat) : List DRow := if D.length = 0 then D else D.modify o (putR s D.length)
theorem fill_len {D : List DRow} {o s : Nat} : (fillT D o s).length = D.length := by
  unfold fillT
  split
  · rfl
  · rw [List.length_modify]
/-- behind the filling, ahead of the new row: k is the number of rows -/
structure TM (D : List DRow) (S : List (Nat × Nat)) : Prop where
  sd : S.Nodup
  sv : ∀ o s, (o, s) ∈ S → s < 2 ∧ ent D o s = some 0
  ev : ∀ o s v, s < 2 → ent D o s = some v → (v = 0 ∧ (o, s) ∈ S) ∨ (o < v ∧ v ≤ D.length)
  un : ∀ o s o' s' v, s < 2 → s' < 2 → ent D o s = some v → ent D o' s' = some v → 0 < v → o = o' ∧ s = s'
  al : ∀ v, 0 < v → v ≤ D.length → ∃ o s, s < 2 ∧ ent D o s = some v
  cnt : S.length + D.length = 2 * asks D
theorem nodup_ix2 {α : Type} {l : List α} (hd : l.Nodup) {i j : Nat} {x : α} (h1 : l[i]? = some x) (h2 : l[j]? = some x) : i = j := by
  induction l generalizing i j with
  | nil => cases h1
  | cons a r ih =>
    obtain ⟨q1, q2⟩ := List.nodup_cons.mp hd
    cases i with
    | zero =>
      cases j with
      | zero => rfl
      | succ j =>
        cases h1
        exact absurd (List.mem_of_getElem? (l := r) (i := j) h2) q1
    | succ i =>
      cases j with
      | zero =>
        cases h2
        exact absurd (List.mem_of_getElem? (l := r) (i := i) h1) q1
      | succ j => rw [ih q2 h1 h2]
theorem mem_erase {S : List (Nat × Nat)} {j : Nat} {x y : Nat × Nat} (hd : S.Nodup) (hj : S[j]? = some x) : y ∈ S.eraseIdx j ↔ y ∈ S ∧ y ≠ x := by
  obtain ⟨h1, h2⟩ := List.getElem?_eq_some_iff.mp hj
  rw [List.mem_eraseIdx_iff_getElem?]
  constructor
  · rintro ⟨i, hi, e⟩
    refine ⟨List.mem_of_getElem? e, fun q => ?_⟩
    subst q
    exact hi (nodup_ix2 hd e hj)
  · rintro ⟨hm, hne⟩
    obtain ⟨i, hi⟩ := List.getElem?_of_mem hm
    exact ⟨i, fun q => hne (by rw [q, hj] at hi; exact (Option.some.inj hi).symm), hi⟩
theorem TI.fill {D : List DRow} {S : List (Nat × Nat)} (h : TI D S) {j o s : Nat} (hj : S[j]? = some (o, s)) : TM (fillT D o s) (S.eraseIdx j) := by
  have hm := List.mem_of_getElem? hj
  obtain ⟨hs, hv⟩ := h.sv o s hm
  have hlen : (S.eraseIdx j).length + 1 = S.length := by
    obtain ⟨h1, _⟩ := List.getElem?_eq_some_iff.mp hj
    rw [List.length_eraseIdx, if_pos h1]; omega
  have hc := h.cnt
  by_cases h0 : D.length = 0
  · have hD : D = [] := List.length_eq_zero_iff.mp h0
    subst hD
    have : asks [] = 0 := rfl
    have hS : S.length = 1 := by rw [this] at hc; simpa using hc
    have hE : S.eraseIdx j = [] := List.length_eq_zero_iff.mp (by omega)
    rw [hE]
    have hf : fillT [] o s = [] := rfl
    rw [hf]
    exact ⟨List.nodup_nil, (fun o s h => nomatch h), (fun o s v _ h => by cases h), (fun o s o' s' v _ _ h => by cases h), (fun v h1 h2 => absurd h2 (Nat.not_le.mpr h1)), rfl⟩
  · have e0 : ent D o s = some 0 := by
      rcases hv with ⟨q, _⟩ | q
      · exact absurd q h0
      · exact q
    have hf : fillT D o s = D.modify o (putR s D.length) := if_neg h0
    rw [hf]
    have E : ∀ {o' s'}, s' < 2 → ent (D.modify o (putR s D.length)) o' s' = if o' = o ∧ s' = s then some D.length else ent D o' s' := fun {o' s'} hs' => by
      rw [ent_put hs hs']
      by_cases q : o' = o ∧ s' = s
      · rw [if_pos q, if_pos q, q.1, q.2, e0]; rfl
      · rw [if_neg q, if_neg q]
    have hol := ent_lt e0
    refine ⟨?_, ?_, ?_, ?_, ?_, ?_⟩
    · exact h.sd.sublist (List.eraseIdx_sublist _ _)
    · intro o' s' hm'
      obtain ⟨q1, q2⟩ := (mem_erase h.sd hj).mp hm'
      obtain ⟨r1, r2⟩ := h.sv o' s' q1
      refine ⟨r1, ?_⟩
      rw [E r1, if_neg (fun z => q2 (by rw [z.1, z.2]))]
      rcases r2 with ⟨q, _⟩ | q
      · exact absurd q h0
      · exact q
    · intro o' s' v hs' he
      rw [List.length_modify]
      rw [E hs'] at he
      by_cases q : o' = o ∧ s' = s
      · rw [if_pos q] at he
        cases he
        exact .inr ⟨by rw [q.1]; exact hol, Nat.le_refl _⟩
      · rw [if_neg q] at he
        rcases h.ev o' s' v hs' he with ⟨r1, r2⟩ | ⟨r1, r2⟩
        · exact .inl ⟨r1, (mem_erase h.sd hj).mpr ⟨r2, fun z => q ⟨congrArg Prod.fst z, congrArg Prod.snd z⟩⟩⟩
        · exact .inr ⟨r1, by omega⟩
    · intro o1 s1 o2 s2 v hs1 hs2 h1 h2 hv0
      rw [E hs1] at h1
      rw [E hs2] at h2
      by_cases q1 : o1 = o ∧ s1 = s
      · by_cases q2 : o2 = o ∧ s2 = s
        · exact ⟨q1.1.trans q2.1.symm, q1.2.trans q2.2.symm⟩
        · rw [if_pos q1] at h1
          rw [if_neg q2] at h2
          cases h1
          rcases h.ev o2 s2 _ hs2 h2 with ⟨r1, _⟩ | ⟨_, r2⟩
          · omega
          · omega
      · by_cases q2 : o2 = o ∧ s2 = s
        · rw [if_neg q1] at h1
          rw [if_pos q2] at h2
          cases h2
          rcases h.ev o1 s1 _ hs1 h1 with ⟨r1, _⟩ | ⟨_, r2⟩
          · omega
          · omega
        · rw [if_neg q1] at h1
          rw [if_neg q2] at h2
          exact h.un o1 s1 o2 s2 v hs1 hs2 h1 h2 hv0
    · intro v hv0 hvl
      rw [List.length_modify] at hvl
      by_cases q : v = D.length
      · exact ⟨o, s, hs, by rw [E hs, if_pos ⟨rfl, rfl⟩, q]⟩
      · obtain ⟨o', s', hs', he⟩ := h.al v hv0 (by omega)
        refine ⟨o', s', hs', ?_⟩
        rw [E hs', if_neg]
        · exact he
        · rintro ⟨rfl, rfl⟩
          rw [e0] at he
          have := Option.some.inj he
          omega
    · rw [List.length_modify, asks_put]; omega
theorem TM.leaf {D : List DRow} {S : List (Nat × Nat)} (h : TM D S) : TI (D ++ [none]) S := by
  have E : ∀ {o s}, ent (D ++ [none]) o s = ent D o s := fun {o s} => by
    rw [ent_snoc]
    by_cases q : o = D.length
    · rw [if_pos q, q]
      unfold ent
      rw [List.getElem?_eq_none (Nat.le_refl _)]; rfl
    · rw [if_neg q]
  have hl : (D ++ [none]).length = D.length + 1 := by rw [List.length_append]; rfl
  refine ⟨h.sd, fun o s hm => ?_, fun o s v hs he => ?_, fun o s o' s' v hs hs' h1 h2 hv => ?_, fun v h1 h2 => ?_, ?_⟩
  · obtain ⟨q1, q2⟩ := h.sv o s hm
    exact ⟨q1, .inr (by rw [E]; exact q2)⟩
  · rw [E] at he
    rw [hl]
    rcases h.ev o s v hs he with q | ⟨q1, q2⟩
    · exact .inl q
    · exact .inr ⟨q1, by omega⟩
  · rw [E] at h1 h2
    exact h.un o s o' s' v hs hs' h1 h2 hv
  · obtain ⟨o, s, hs, he⟩ := h.al v h1 (by omega)
    exact ⟨o, s, hs, by rw [E]; exact he⟩
  · rw [hl, asks_snoc]
    have := h.cnt
    show S.length + (D.length + 1) = 1 + 2 * (asks D + 0)
    omega
theorem TM.ask {D : List DRow} {S : List (Nat × Nat)} (h : TM D S) (f : Fact) : TI (D ++ [some (f, 0, 0)]) (S ++ [(D.length, 0), (D.length, 1)]) := by
  have E : ∀ {o s}, ent (D ++ [some (f, 0, 0)]) o s = if o = D.length then some 0 else ent D o s := fun {o s} => by
    rw [ent_snoc]
    by_cases q : o = D.length
    · rw [if_pos q, if_pos q]
      show some (if s = 0 then 0 else 0) = some 0
      split <;> rfl
    · rw [if_neg q, if_neg q]
  have hl : (D ++ [some (f, 0, 0)]).length = D.length + 1 := by rw [List.length_append]; rfl
  have old : ∀ {o s}, (o, s) ∈ S → o < D.length := fun {o s} hm => ent_lt (h.sv o s hm).2
  refine ⟨?_, fun o s hm => ?_, fun o s v hs he => ?_, fun o s o' s' v hs hs' h1 h2 hv => ?_, fun v h1 h2 => ?_, ?_⟩
  · refine List.nodup_append.mpr ⟨h.sd, by simp, fun x hx y hy e => ?_⟩
    obtain ⟨o, s⟩ := x
    have := old hx
    subst e
    simp only [List.mem_cons, Prod.mk.injEq, List.not_mem_nil, or_false] at hy
    omega
  · rcases List.mem_append.mp hm with hm | hm
    · obtain ⟨q1, q2⟩ := h.sv o s hm
      have := old hm
      exact ⟨q1, .inr (by rw [E, if_neg (by omega)]; exact q2)⟩
    · simp only [List.mem_cons, Prod.mk.injEq, List.not_mem_nil, or_false] at hm
      exact ⟨by omega, .inr (by rw [E, if_pos (by omega)])⟩
  · rw [E] at he
    rw [hl]
    by_cases q : o = D.length
    · rw [if_pos q] at he
      cases he
      refine .inl ⟨rfl, List.mem_append_right _ ?_⟩
      simp only [List.mem_cons, Prod.mk.injEq, List.not_mem_nil, or_false]
      omega
    · rw [if_neg q] at he
      rcases h.ev o s v hs he with q | ⟨q1, q2⟩
      · exact .inl ⟨q.1, List.mem_append_left _ q.2⟩
      · exact .inr ⟨q1, by omega⟩
  · rw [E] at h1 h2
    by_cases q1 : o = D.length
    · rw [if_pos q1] at h1
      cases h1; omega
    · by_cases q2 : o' = D.length
      · rw [if_pos q2] at h2
        cases h2; omega
      · rw [if_neg q1] at h1
        rw [if_neg q2] at h2
        exact h.un o s o' s' v hs hs' h1 h2 hv
  · obtain ⟨o, s, hs, he⟩ := h.al v h1 (by omega)
    have := ent_lt he
    exact ⟨o, s, hs, by rw [E, if_neg (by omega)]; exact he⟩
  · rw [hl, asks_snoc, List.length_append]
    have := h.cnt
    show S.length + 2 + (D.length + 1) = 1 + 2 * (asks D + 1)
    omega
end K1
end
section
set_option maxRecDepth 100000
set_option maxHeartbeats 4000000
namespace K1
open PySem PyProof.Rows L2 K01
/-- the row that is drawn so -/
def RowD (ms : List Str) (r : List V) : DRow → Prop
  | some (f, y, n) => r = [.str "ask", .str f.1, .str f.2.1, .int f.2.2, .int (y : Nat), .int (n : Nat)] ∧ FOk ms f
  | none => isAsk r = false
theorem fok_fact {ms : List Str} {f : Fact} (h : FOk ms f) : factOk (nodes ms) [.str f.1, .str f.2.1, .int f.2.2] = true := by
  show (inV (.str f.1) ((nodes ms).map V.str) && (inV (.str f.2.1) ((nodes ms).map V.str) && (!decide (V.str f.1 = V.str f.2.1) && isWhole (.int f.2.2)))) = true
  rw [inV_str, inV_str, decide_eq_true h.l, decide_eq_true h.r, decide_eq_false (fun e => h.ne (V.str.inj e))]
  rfl
theorem getD_set {bs : List Bool} {i j : Nat} (hi : i < bs.length) : (bs.set i true).getD j false = (decide (j = i) || bs.getD j false) := by
  rw [List.getD_eq_getElem?_getD, List.getD_eq_getElem?_getD, List.getElem?_set]
  by_cases e : i = j
  · subst e
    rw [if_pos rfl, if_pos hi, decide_eq_true rfl]; rfl
  · rw [if_neg e, decide_eq_false (fun q => e q.symm)]; rfl
theorem ent_at {D : List DRow} {i : Nat} {f : Fact} {y n : Nat} (h : D[i]? = some (some (f, y, n))) (s : Nat) : ent D i s = some (if s = 0 then y else n) := by
  unfold ent; rw [h]; rfl
theorem tf_good {ms : List Str} {rows : List (List V)} {D : List DRow} (h : TI D []) (len : rows.length = D.length) (R : ∀ (i : Nat) (d : DRow) (r : List V), D[i]? = some d → rows[i]? = some r → RowD ms r d) :
    ∀ (m i : Nat) (bs : List Bool), m + i = rows.length → bs.length = rows.length → (∀ j, bs.getD j false = true ↔ j < rows.length ∧ (j = 0 ∨ ∃ o s, o < i ∧ s < 2 ∧ ent D o s = some j)) →
      ∃ out, tfRows (nodes ms) (rows.drop i) i bs = .inr out ∧ out.length = rows.length ∧ ∀ j, out.getD j false = true ↔ j < rows.length ∧ (j = 0 ∨ ∃ o s, s < 2 ∧ ent D o s = some j)
  | 0, i, bs, hi, hb, hj => by
    have hi : i = rows.length := by omega
    subst hi
    refine ⟨bs, by rw [List.drop_length]; rfl, hb, fun j => (hj j).trans ⟨fun ⟨q1, q2⟩ => ⟨q1, ?_⟩, fun ⟨q1, q2⟩ => ⟨q1, ?_⟩⟩⟩
    · rcases q2 with q | ⟨o, s, _, q⟩
      · exact .inl q
      · exact .inr ⟨o, s, q⟩
    · rcases q2 with q | ⟨o, s, q1', q⟩
      · exact .inl q
      · exact .inr ⟨o, s, by rw [len]; exact ent_lt q, q1', q⟩
  | m + 1, i, bs, hi, hb, hj => by
    have hir : i < rows.length := by omega
    obtain ⟨r, hr⟩ : ∃ r, rows[i]? = some r := ⟨_, List.getElem?_eq_getElem hir⟩
    obtain ⟨d, hd⟩ : ∃ d, D[i]? = some d := ⟨_, List.getElem?_eq_getElem (by omega)⟩
    have hdrop : rows.drop i = r :: rows.drop (i + 1) := by
      rw [List.drop_eq_getElem_cons hir]
      have := List.getElem?_eq_getElem hir
      rw [hr] at this
      rw [← Option.some.inj this]
    rw [hdrop, tfRows_cons]
    have hR := R i d r hd hr
    rcases d with _ | ⟨f, y, n⟩
    · have hR : isAsk r = false := hR
      rw [hR, if_neg Bool.false_ne_true]
      refine tf_good h len R m (i + 1) bs (by omega) hb fun j => (hj j).trans ⟨fun ⟨q1, q2⟩ => ⟨q1, ?_⟩, fun ⟨q1, q2⟩ => ⟨q1, ?_⟩⟩
      · rcases q2 with q | ⟨o, s, q0, q⟩
        · exact .inl q
        · exact .inr ⟨o, s, by omega, q⟩
      · rcases q2 with q | ⟨o, s, q0, q1', q⟩
        · exact .inl q
        · refine .inr ⟨o, s, ?_, q1', q⟩
          by_cases e : o = i
          · subst e
            unfold ent at q
            rw [hd] at q; cases q
          · omega
    · obtain ⟨rfl, hf⟩ := hR
      have ha : isAsk [.str "ask", .str f.1, .str f.2.1, .int f.2.2, .int (y : Nat), .int (n : Nat)] = true := rfl
      rw [ha, if_pos rfl]
      have e0 := ent_at hd 0
      have e1 := ent_at hd 1
      rw [if_pos rfl] at e0
      rw [if_neg (by decide)] at e1
      have hy : i < y ∧ y < rows.length := by
        rcases h.ev i 0 y (by decide) e0 with ⟨_, q⟩ | q
        · cases q
        · rw [len]; exact q
      have hn : i < n ∧ n < rows.length := by
        rcases h.ev i 1 n (by decide) e1 with ⟨_, q⟩ | q
        · cases q
        · rw [len]; exact q
      have hyn : y ≠ n := fun e => by
        subst e
        exact absurd (h.un i 0 i 1 y (by decide) (by decide) e0 e1 (by omega)).2 (by decide)
      have by_ : ∀ {v s : Nat}, s < 2 → i < v → ent D i s = some v → bs.getD v false = false := fun {v s} hs hv he => by
        refine Bool.eq_false_iff.mpr fun q => ?_
        rcases ((hj v).mp q).2 with q | ⟨o, s', q0, q1, q⟩
        · omega
        · have := (h.un o s' i s v q1 hs q he (by omega)).1
          omega
      have by0 := by_ (by decide) hy.1 e0
      have bn0 := by_ (by decide) hn.1 e1
      have hg : goodAsk (nodes ms) i bs [.str "ask", .str f.1, .str f.2.1, .int f.2.2, .int (y : Nat), .int (n : Nat)] = true := by
        show (factOk (nodes ms) [.str f.1, .str f.2.1, .int f.2.2] && (!decide ((y : Int) = (n : Int)) && ((decide ((i : Int) < (y : Int)) && decide ((y : Int) < (bs.length : Int))) && ((decide ((i : Int) < (n : Int)) && decide ((n : Int) < (bs.length : Int))) && (!(bs.getD ((y : Int)).toNat false) && !(bs.getD ((n : Int)).toNat false)))))) = true
        rw [fok_fact hf, Int.toNat_natCast, Int.toNat_natCast, by0, bn0, decide_eq_false (by omega), decide_eq_true (by omega), decide_eq_true (by omega), decide_eq_true (by omega), decide_eq_true (by omega)]
        rfl
      rw [hg, if_pos rfl]
      have hnb : nameBoth bs [.str "ask", .str f.1, .str f.2.1, .int f.2.2, .int (y : Nat), .int (n : Nat)] = (bs.set y true).set n true := by
        show (bs.set ((y : Int)).toNat true).set ((n : Int)).toNat true = _
        rw [Int.toNat_natCast, Int.toNat_natCast]
      rw [hnb]
      refine tf_good h len R m (i + 1) _ (by omega) (by rw [List.length_set, List.length_set]; exact hb) fun j => ?_
      rw [getD_set (by rw [List.length_set, hb]; exact hn.2), getD_set (by rw [hb]; exact hy.2), Bool.or_eq_true, Bool.or_eq_true, decide_eq_true_eq, decide_eq_true_eq, hj j]
      constructor
      · rintro (rfl | rfl | ⟨q1, q | ⟨o, s, q2, q3, q4⟩⟩)
        · exact ⟨hn.2, .inr ⟨i, 1, by omega, by decide, e1⟩⟩
        · exact ⟨hy.2, .inr ⟨i, 0, by omega, by decide, e0⟩⟩
        · exact ⟨q1, .inl q⟩
        · exact ⟨q1, .inr ⟨o, s, by omega, q3, q4⟩⟩
      · rintro ⟨q1, q | ⟨o, s, q2, q3, q4⟩⟩
        · exact .inr (.inr ⟨q1, .inl q⟩)
        · by_cases e : o = i
          · subst e
            match s, q3, q4 with
            | 0, _, q4 => rw [e0] at q4; exact .inr (.inl (Option.some.inj q4).symm)
            | 1, _, q4 => rw [e1] at q4; exact .inl (Option.some.inj q4).symm
          · exact .inr (.inr ⟨q1, .inr ⟨o, s, by omega, q3, q4⟩⟩)
theorem drawn_good {ms : List Str} {rows : List (List V)} {D : List DRow} (h : TI D []) (h0 : 0 < D.length) (len : rows.length = D.length) (R : ∀ (i : Nat) (d : DRow) (r : List V), D[i]? = some d → rows[i]? = some r → RowD ms r d) : treeFault (nodes ms) rows = none := by
  obtain ⟨out, h1, h2, h3⟩ := tf_good h len R rows.length 0 (named0 rows.length) (by omega) (by unfold named0; simp) fun j => by
    unfold named0
    rw [List.getD_eq_getElem?_getD, List.getElem?_map]
    by_cases q : j < rows.length
    · rw [List.getElem?_range q]
      show decide (j = 0) = true ↔ _
      rw [decide_eq_true_eq]
      exact ⟨fun e => ⟨q, .inl e⟩, fun ⟨_, e⟩ => e.elim id fun ⟨_, _, z, _⟩ => absurd z (Nat.not_lt_zero _)⟩
    · rw [List.getElem?_eq_none (by simpa using q)]
      exact ⟨fun e => Bool.noConfusion e, fun e => absurd e.1 q⟩
  rw [List.drop_zero] at h1
  unfold treeFault
  rw [h1]
  show (if rows.length = 0 then some 0 else first (fun j => !(out.getD j false)) out.length) = none
  rw [if_neg (by omega)]
  refine first_none fun j hj => ?_
  rw [h2] at hj
  have : out.getD j false = true := (h3 j).mpr ⟨hj, by
    by_cases q : j = 0
    · exact .inl q
    · exact .inr (h.al j (by omega) (by omega))⟩
  rw [this]; rfl
end K1
end
section
set_option maxRecDepth 100000
set_option maxHeartbeats 4000000
namespace K1
open PySem PyProof.Rows L2 K01
/-- a row's cell as data -/
def rD : V → PyData
  | .ref _ => .tuple []
  | v => vD v
theorem RV.dp {K : PySem.W.Frag} {H : Hp} {v : V} (h : RV K H v) : Dp K H v (rD v) := by
  cases h with
  | flat h => cases h with
    | non => exact .non
    | bl b => exact .bl b
    | int i => exact .int i
    | str z => exact .str z
  | nilT h => exact .tup h .nil
theorem RV.lv {K : PySem.W.Frag} {H : Hp} {v : V} (h : RV K H v) (ha : ∀ z : Str, v = .str z → AscZ z) : Lv 1 (rD v) := by
  cases h with
  | flat h => cases h with
    | non => exact Lv.none
    | bl b => exact Lv.bl b
    | int i => exact Lv.int i
    | str z => exact Lv.str (ha z rfl)
  | nilT h => exact Lv.tuple (n := 0) fun d hd => nomatch hd
/-- a row's first cell against ('ask',) -/
theorem head_eqv {K : PySem.W.Frag} {H : Hp} {xs : List V} (hR : ∀ x ∈ xs, RV K H x) : PyData.eqv (.tuple ((xs.take 1).map rD)) (.tuple [.str "ask"]) = isAsk xs := by
  cases xs with
  | nil => simp [PyData.eqv, PyData.eqvAll, isAsk]
  | cons x r =>
    show PyData.eqv (.tuple [rD x]) (.tuple [.str "ask"]) = isAsk (x :: r)
    cases hR x List.mem_cons_self with
    | nilT h => simp [PyData.eqv, PyData.eqvAll, rD, isAsk]
    | flat h => cases h with
      | non => simp [PyData.eqv, PyData.eqvAll, rD, vD, isAsk]
      | bl b => simp [PyData.eqv, PyData.eqvAll, rD, vD, isAsk]
      | int i => simp [PyData.eqv, PyData.eqvAll, rD, vD, isAsk]
      | str z =>
        simp only [PyData.eqv, PyData.eqvAll, rD, vD, isAsk, Bool.and_true]
        by_cases q : z = "ask"
        · rw [q]; simp
        · rw [decide_eq_false q]; simpa using q
theorem asc_ask : AscZ "ask" := by
  unfold AscZ
  decide +kernel
section
variable {P : Program} {w : World} {K : PySem.W.Frag} {mg : Str → Option Value} {base : Heap}
abbrev sLA : Stmt := top 64
def spLA (K : PySem.W.Frag) : Sp := fun vs H Q _ => ∃ (t d : Addr) (ms : List Str) (clk : List Int) (ps : List Addr) (rows : List (List V)), vs = [.ref t, .ref d] ∧ H t = some (.lst (ps.map V.ref)) ∧ RowsAt2 K H ps rows ∧ rows.length ≤ 900 ∧ 0 < rows.length ∧ (∀ r ∈ rows, ∀ z : Str, V.str z ∈ r → AscZ z) ∧
  (∀ (j : Nat) (xs : List V), rows[j]? = some xs → isAsk xs = true → ∃ x y c yes no, AskAt (nodes ms) rows.length j xs x y c yes no) ∧ DictOf H d (nodes ms) (fun i => .int (clk.getD i 0)) ∧
  ∀ j H', Same H H' → j < rows.length → Goes (fun z => clk.getD (ix ms z) 0) rows 0 j → Q (.int (j : Nat)) H'
abbrev nsLA : List Str := ["tr", "spots", "k", "ax", "by", "top"]
theorem scLA : FnScope nsLA ["tr", "spots"] (defScope sLA) := ⟨rfl, rfl, rfl, by decide +kernel, rfl, by decide +kernel, by decide +kernel⟩
theorem ok_la {f : Addr} {fd : FuncData} (F : Fun K "_law_leaf_at" "_law_leaf_at" sLA f fd) (T : Bi mg) : FnOk P w K mg base CX0 1 f fd ["tr", "spots"] (spLA K) := by
  refine F.ok scLA (fun vs H Q E h => ?_) (fun cdv A outer s H vs Q E hr h => ?_)
  · obtain ⟨_, _, _, _, _, _, rfl, _⟩ := h
    rfl
  · obtain ⟨t, d, ms, clk, ps, rows, rfl, ht, hT, hrl, h0, has, hgood, hd, k⟩ := h
    have hu := hu_of hr
    refine ⟨_, pss_cons (ps_set (i := 2) scLA.nd rfl (.inl rfl) pe_int)
      (pss_cons (ps_while PassesOwn.never (pt_cmpR (op_eqD hr.units) (pe_slice sl_tupA (pe_ix ix_list (pv 0) (pv 2) (fun _ _ => rfl)) po_none (po_some pe_int)) (pe_tup (pa_cons pe_str pa_nil)) (nomark _))
        (pss_cons (ps_asg (pe_slice sl_tupA (pe_ix ix_list (pv 0) (pv 2) (fun _ _ => rfl)) (po_some pe_int) (po_some pe_int)) (pg_tup rfl (pgs_cons (pg_name (i := 3) scLA.nd rfl (.inl rfl)) (pgs_cons (pg_name (i := 4) scLA.nd rfl (.inl rfl)) (pgs_cons (pg_name (i := 5) scLA.nd rfl (.inl rfl)) pgs_nil)))))
        (pss_one (ps_set (i := 2) scLA.nd rfl (.inl rfl) (pe_ix ix_tup (pe_ix ix_list (pv 0) (pv 2) (fun _ _ => rfl)) (pe_ifExp (pt_cmpR op_le (pe_op op_sub (pe_dget hu (pv 1) (pv 3) (fun _ _ => rfl)) (pe_dget hu (pv 1) (pv 4) (fun _ _ => rfl))) (pv 5) (nomark _)) pe_int pe_int) (fun _ _ => rfl))))))
      (pss_one (ps_ret (pv 2)))), ?_⟩
    have hpl : ps.length = rows.length := hT.len
    refine while_by (fun σ H' => ∃ (i : Nat) (v3 v4 v5 : Option V), σ = [some (.ref t), some (.ref d), some (.int (i : Nat)), v3, v4, v5] ∧ Same H H' ∧ i < rows.length ∧ ∀ j, Goes (fun z => clk.getD (ix ms z) 0) rows i j → Goes (fun z => clk.getD (ix ms z) 0) rows 0 j)
      (fun σ _ => match σ[2]? with | some (some (V.int i)) => rows.length - i.toNat | _ => 0) ?_ ?_ ?_
    · exact ⟨0, none, none, none, rfl, Same.refl H, h0, fun j h => h⟩
    · rintro σ H2 ⟨i, v3, v4, v5, rfl, s2, hi, hgo⟩
      obtain ⟨pf, hpf⟩ : ∃ pf, ps[i]? = some pf := ⟨_, List.getElem?_eq_getElem (by omega)⟩
      obtain ⟨xs, hxs⟩ : ∃ xs, rows[i]? = some xs := ⟨_, List.getElem?_eq_getElem hi⟩
      obtain ⟨r1, r2, r3⟩ := (hT.same s2).row i pf xs hpf hxs
      have hat : atI (ps.map V.ref) (i : Nat) = some (.ref pf) := atI_nat (by rw [List.getElem?_map, hpf]; rfl)
      have ht2 := s2 _ _ ht
      refine ⟨_, rfl, _, rfl, t, _, _, _, rfl, rfl, SqL.of ht2, hat, _, rfl, ?_⟩
      dsimp only [tNoPart]
      refine slA_it r1 fun u H3 s3 hu => ?_
      have ec : cutV xs none (some 1) = xs.take 1 := cut_take _ 1
      rw [ec] at hu
      refine ⟨by show 1 ≤ sizeLine; decide, fun e he => ?_⟩
      have s4 : Same H3 (upd H3 e (.tup [.str "ask"])) := Same.new he
      have hrs : ∀ x ∈ xs.take 1, RV K (upd H3 e (.tup [.str "ask"])) x := fun x hx => ((r2 x (List.mem_of_mem_take hx)).same s3).same s4
      have hxm := List.mem_of_getElem? hxs
      have dps : ∀ {H' : Hp} {ys : List V}, (∀ x ∈ ys, RV K H' x) → DpAll K H' ys (ys.map rD) := fun {H'} => by
        intro ys
        induction ys with
        | nil => intro _; exact .nil
        | cons y r ih => intro h; exact .cons (h y List.mem_cons_self).dp (ih fun x hx => h x (List.mem_cons_of_mem _ hx))
      refine ⟨.tuple ((xs.take 1).map rD), .tuple [.str "ask"], .tup (Same.tup s4 hu) (dps hrs), .tup tup_at (.cons (.str _) .nil), (Lv.tuple (n := 1) fun dd hdd => ?_).shaped (by decide), (Lv.tuple (n := 0) fun dd hdd => ?_).shaped (by decide), _, rfl, ?_⟩
      · obtain ⟨x, hx, rfl⟩ := List.mem_map.mp hdd
        exact (hrs x hx).lv fun z hz => has xs hxm z (by rw [← hz]; exact List.mem_of_mem_take hx)
      · rw [List.mem_singleton] at hdd
        rw [hdd]
        exact Lv.str asc_ask
      rw [head_eqv r2]
      have s24 := (s2.trans s3).trans s4
      generalize upd H3 e (.tup [.str "ask"]) = H4 at s4 hrs s24
      cases ea : isAsk xs with
      | false =>
        rw [if_neg Bool.false_ne_true]
        exact ⟨_, rfl, k i H4 s24 hi (hgo i (.stop hxs ea))⟩
      | true =>
        rw [if_pos rfl]
        obtain ⟨x, y, c, yes, no, A⟩ := hgood i xs hxs ea
        obtain rfl := A.eq
        have r4 := Same.tup (K := K) (s3.trans s4) r1
        have ht4 := s24 _ _ ht
        refine ⟨_, rfl, _, rfl, t, _, _, _, rfl, rfl, SqL.of ht4, hat, _, rfl, _, rfl, slA_it r4 fun u2 H5 s5 hu2 => ?_⟩
        rw [cut_1_4] at hu2
        refine ⟨u2, _, rfl, hu2, rfl, _, _, rfl, _, _, rfl, _, _, rfl, rfl, ?_⟩
        have hd5 := hd.same (s24.trans s5)
        have gx := hd5.get (ix_get A.hx)
        have gy := hd5.get (ix_get A.hy)
        refine ⟨_, rfl, _, rfl, t, _, _, _, rfl, rfl, SqL.of (s5 _ _ ht4), hat, ?_⟩
        refine ⟨_, rfl, _, rfl, d, _, rfl, gx, _, rfl, _, rfl, d, _, rfl, gy, _, _, rfl, rfl, _, rfl, _, _, rfl, rfl, _, rfl, ?_⟩
        have r5 := Same.tup s5 r4
        have me : ∀ {nx : Nat}, i < nx → nx < rows.length → rows.length - ((nx : Nat) : Int).toNat < rows.length - ((i : Nat) : Int).toNat := fun {nx} h1 h2 => by rw [Int.toNat_natCast, Int.toNat_natCast]; omega
        by_cases hc : clk.getD (ix ms x) 0 - clk.getD (ix ms y) 0 ≤ c
        · exact iteDT hc ⟨_, _, _, _, rfl, rfl, r5, at_of (j := 4) rfl rfl, ⟨yes, _, _, _, rfl, s24.trans s5, A.hyes, fun j hj => hgo j (.step hxs (by rw [if_pos hc]; exact hj))⟩, me A.ly A.hyes⟩
        · exact iteDF hc ⟨_, _, _, _, rfl, rfl, r5, at_of (j := 5) rfl rfl, ⟨no, _, _, _, rfl, s24.trans s5, A.hno, fun j hj => hgo j (.step hxs (by rw [if_neg hc]; exact hj))⟩, me A.ln A.hno⟩
    · rintro σ Hx Q1 Q2 h ⟨v, e1, v2, e2, t', ys, i', x', e3, e4, e5, e6, w1, e7, a, xs, e8, e9, f1, f2⟩
      have conv : ∀ {y : V} {H' : Hp}, (1 ≤ sizeLine ∧ ∀ e, H' e = none → rEqD K y (.ref e) (upd H' e (.tup [.str "ask"])) fun z H2 => ∃ b, z = .bl b ∧ Q1 b H2) → (1 ≤ sizeLine ∧ ∀ e, H' e = none → rEqD K y (.ref e) (upd H' e (.tup [.str "ask"])) fun z H2 => ∃ b, z = .bl b ∧ Q2 b H2) := fun {y H'} q => ⟨q.1, fun e he => by
        obtain ⟨d, e', a1, a2, a3, a4, c, a5, q⟩ := q.2 e he
        exact ⟨d, e', a1, a2, a3, a4, c, a5, h _ _ q⟩⟩
      exact ⟨v, e1, v2, e2, t', ys, i', x', e3, e4, e5, e6, w1, e7, a, xs, e8, e9, fun w => conv (f1 w), fun w p hp => conv (f2 w p hp)⟩
end
end K1
end
section
set_option maxRecDepth 100000
set_option maxHeartbeats 4000000
namespace K1
open PySem PyProof.Rows L2 K01
/-- a drawn row's cells -/
structure RowC (K : PySem.W.Frag) (H : Hp) (r : List V) : Prop where
  hd : ∃ z rest, r = .str z :: rest
  rv : ∀ x ∈ r, RV K H x
  as_ : ∀ z, V.str z ∈ r → AscZ z
  len : r.length ≤ 8
  fl : isAsk r = true → ∀ x ∈ r, Flat x
theorem RowC.imp {K : PySem.W.Frag} {H H' : Hp} {r : List V} (h : RowC K H r) (e : ∀ a xs, SqT K H a xs → SqT K H' a xs) : RowC K H' r :=
  ⟨h.hd, fun x hx => by cases h.rv x hx with | flat q => exact .flat q | nilT q => exact .nilT (e _ _ q), h.as_, h.len, h.fl⟩
theorem tup_upd {K : PySem.W.Frag} {H : Hp} {l a : Addr} {ys zs xs : List V} (hl : H l = some (.lst ys)) (h : SqT K H a xs) : SqT K (upd H l (.lst zs)) a xs := But.tupL hl (fun b o nb q => by rw [upd_ne nb]; exact q) h
theorem but_upd {H : Hp} {l : Addr} {o : HO} : But l H (upd H l o) := fun b o nb q => by rw [upd_ne nb]; exact q
theorem eraseMap {α β : Type} (f : α → β) : ∀ (xs : List α) (j : Nat), (xs.map f).eraseIdx j = (xs.eraseIdx j).map f
  | [], _ => by simp
  | x :: xs, 0 => rfl
  | x :: xs, j + 1 => by
    show f x :: (xs.map f).eraseIdx j = f x :: (xs.eraseIdx j).map f
    rw [eraseMap f xs j]
/-- the heap as the rows are drawn: rows in R, slots in S; z turns of the pit -/
structure DS (K : PySem.W.Frag) (ms : List Str) (H0 : Hp) (p n R : Addr) (H : Hp) (z : Int) (S : Addr) (rs : List Addr) (rows : List (List V)) (D : List DRow) (ss : List Addr) (SL : List (Nat × Nat)) : Prop where
  b : But p H0 H
  P : PitAt H p z
  hn : SqT K H n ((nodes ms).map V.str)
  hR : H R = some (.lst (rs.map V.ref))
  nR : H0 R = none
  hr : ∀ (i : Nat) (a : Addr) (r : List V), rs[i]? = some a → rows[i]? = some r → H a = some (.lst r)
  nr : ∀ a ∈ rs, H0 a = none
  rnd : rs.Nodup
  rR : R ∉ rs
  hS : H S = some (.lst (ss.map V.ref))
  nS : H0 S = none
  sR : S ≠ R
  sr : S ∉ rs
  st : ∀ (i : Nat) (a : Addr) (o s : Nat), ss[i]? = some a → SL[i]? = some (o, s) → SqT K H a [.int (o : Nat), .int (s : Nat)]
  sl : ss.length = SL.length
  rl : rs.length = rows.length
  dl : rows.length = D.length
  rel : ∀ (i : Nat) (d : DRow) (r : List V), D[i]? = some d → rows[i]? = some r → RowD ms r d
  rc : ∀ r ∈ rows, RowC K H r
section
variable {K : PySem.W.Frag} {ms : List Str} {H0 H H' : Hp} {p n R S : Addr} {z z' : Int} {rs ss : List Addr} {rows : List (List V)} {D : List DRow} {SL : List (Nat × Nat)}
theorem DS.move (h : DS K ms H0 p n R H z S rs rows D ss SL) (b : But p H0 H') (P : PitAt H' p z') (hR : H' R = some (.lst (rs.map V.ref))) (hr : ∀ (i : Nat) (a : Addr) (r : List V), rs[i]? = some a → rows[i]? = some r → H' a = some (.lst r))
    (hS : H' S = some (.lst (ss.map V.ref))) (tk : ∀ a xs, SqT K H a xs → SqT K H' a xs) : DS K ms H0 p n R H' z' S rs rows D ss SL :=
  ⟨b, P, tk _ _ h.hn, hR, h.nR, hr, h.nr, h.rnd, h.rR, hS, h.nS, h.sR, h.sr, fun i a o s h1 h2 => tk _ _ (h.st i a o s h1 h2), h.sl, h.rl, h.dl, h.rel, fun r hr => (h.rc r hr).imp tk⟩
theorem DS.same (h : DS K ms H0 p n R H z S rs rows D ss SL) (s : Same H H') : DS K ms H0 p n R H' z S rs rows D ss SL :=
  h.move (h.b.trans (Same.but s)) (h.P.same s) (s _ _ h.hR) (fun i a r h1 h2 => s _ _ (h.hr i a r h1 h2)) (s _ _ h.hS) (fun _ _ q => Same.tup s q)
theorem DS.hoist {z0 : Int} (P0 : PitAt H0 p z0) (h : DS K ms H0 p n R H z S rs rows D ss SL) (b : But p H H') (P : PitAt H' p z') : DS K ms H0 p n R H' z' S rs rows D ss SL :=
  h.move (h.b.trans b) P (b _ _ (P0.ne h.nR) h.hR) (fun i a r h1 h2 => b _ _ (P0.ne (h.nr a (List.mem_of_getElem? h1))) (h.hr i a r h1 h2)) (b _ _ (P0.ne h.nS) h.hS) (fun _ _ q => h.P.tup b q)
/-- a fresh address is none of these -/
theorem DS.fresh (h : DS K ms H0 p n R H z S rs rows D ss SL) {a : Addr} (ha : H a = none) : a ∉ rs ∧ a ≠ R ∧ a ≠ S ∧ H0 a = none ∧ a ≠ p := by
  have hp : a ≠ p := h.P.ne ha
  refine ⟨fun hm => ?_, fun e => ?_, fun e => ?_, ?_, hp⟩
  · obtain ⟨i, hi⟩ := List.getElem?_of_mem hm
    have hil := (List.getElem?_eq_some_iff.mp hi).1
    have := h.hr i a _ hi (List.getElem?_eq_getElem (by rw [← h.rl]; exact hil))
    rw [ha] at this; cases this
  · rw [e, h.hR] at ha; cases ha
  · rw [e, h.hS] at ha; cases ha
  · cases e : H0 a with
    | none => rfl
    | some o =>
      have := h.b a o hp e
      rw [ha] at this; cases this
theorem DS.pop {z0 : Int} (P0 : PitAt H0 p z0) (h : DS K ms H0 p n R H z S rs rows D ss SL) (j : Nat) : DS K ms H0 p n R (upd H S (.lst ((ss.map V.ref).eraseIdx j))) z S rs rows D (ss.eraseIdx j) (SL.eraseIdx j) := by
  have tk : ∀ a xs, SqT K H a xs → SqT K (upd H S (.lst ((ss.map V.ref).eraseIdx j))) a xs := fun _ _ q => tup_upd h.hS q
  have pS : p ≠ S := fun e => P0.ne h.nS e.symm
  refine ⟨fun b o nb q => ?_, ?_, tk _ _ h.hn, ?_, h.nR, fun i a r h1 h2 => ?_, h.nr, h.rnd, h.rR, ?_, h.nS, h.sR, h.sr, fun i a o s h1 h2 => ?_, ?_, h.rl, h.dl, h.rel, fun r hr => (h.rc r hr).imp tk⟩
  · rw [upd_ne (fun e => by rw [e, h.nS] at q; cases q)]
    exact h.b b o nb q
  · obtain ⟨x, y, c, q1, q2⟩ := h.P
    exact ⟨x, y, c, by rw [upd_ne pS]; exact q1, q2⟩
  · rw [upd_ne (fun e => h.sR e.symm)]; exact h.hR
  · rw [upd_ne (fun e => h.sr (by rw [← e]; exact List.mem_of_getElem? h1))]; exact h.hr i a r h1 h2
  · rw [upd_same, eraseMap]
  · rw [List.getElem?_eraseIdx] at h1 h2
    by_cases q : i < j
    · rw [if_pos q] at h1 h2
      exact tk _ _ (h.st i a o s h1 h2)
    · rw [if_neg q] at h1 h2
      exact tk _ _ (h.st (i + 1) a o s h1 h2)
  · rw [List.length_eraseIdx, List.length_eraseIdx, h.sl]
theorem ask_set {f : Fact} {y n k s : Nat} (hs : s < 2) : ([.str "ask", .str f.1, .str f.2.1, .int f.2.2, .int (y : Nat), .int (n : Nat)] : List V).set (4 + s) (.int (k : Nat)) = (if s = 0 then [.str "ask", .str f.1, .str f.2.1, .int f.2.2, .int (k : Nat), .int (n : Nat)] else [.str "ask", .str f.1, .str f.2.1, .int f.2.2, .int (y : Nat), .int (k : Nat)]) := by
  match s, hs with
  | 0, _ => rfl
  | 1, _ => rfl
theorem askC {H : Hp} {f : Fact} {y n : Int} (h1 : AscZ f.1) (h2 : AscZ f.2.1) : RowC K H [.str "ask", .str f.1, .str f.2.1, .int f.2.2, .int y, .int n] := by
  have fl : ∀ x ∈ ([.str "ask", .str f.1, .str f.2.1, .int f.2.2, .int y, .int n] : List V), Flat x := fun x hx => by
    simp only [List.mem_cons, List.not_mem_nil, or_false] at hx
    rcases hx with rfl | rfl | rfl | rfl | rfl | rfl
    · exact .str _
    · exact .str _
    · exact .str _
    · exact .int _
    · exact .int _
    · exact .int _
  refine ⟨⟨_, _, rfl⟩, fun x hx => .flat (fl x hx), fun w hw => ?_, (by show 6 ≤ 8; decide), fun _ => fl⟩
  simp only [List.mem_cons, V.str.injEq, List.not_mem_nil, or_false, reduceCtorEq] at hw
  rcases hw with rfl | rfl | rfl
  · exact asc_ask
  · exact h1
  · exact h2
theorem DS.put {z0 : Int} (P0 : PitAt H0 p z0) (has : ∀ w ∈ nodes ms, AscZ w) (h : DS K ms H0 p n R H z S rs rows D ss SL) {o s k : Nat} (hs : s < 2) {a : Addr} {f : Fact} {y m : Nat} (ha : rs[o]? = some a) (hd : D[o]? = some (some (f, y, m))) :
    DS K ms H0 p n R (upd H a (.lst (([.str "ask", .str f.1, .str f.2.1, .int f.2.2, .int (y : Nat), .int (m : Nat)] : List V).set (4 + s) (.int (k : Nat))))) z S rs (rows.set o (([.str "ask", .str f.1, .str f.2.1, .int f.2.2, .int (y : Nat), .int (m : Nat)] : List V).set (4 + s) (.int (k : Nat)))) (D.modify o (putR s k)) ss SL := by
  have hol : o < rows.length := by rw [← h.rl]; exact (List.getElem?_eq_some_iff.mp ha).1
  obtain ⟨r, hr⟩ : ∃ r, rows[o]? = some r := ⟨_, List.getElem?_eq_getElem hol⟩
  obtain ⟨e1, hf⟩ := h.rel o _ r hd hr
  have hHa := h.hr o a r ha hr
  have ham := List.mem_of_getElem? ha
  have tk : ∀ b xs, SqT K H b xs → SqT K (upd H a (.lst (([.str "ask", .str f.1, .str f.2.1, .int f.2.2, .int (y : Nat), .int (m : Nat)] : List V).set (4 + s) (.int (k : Nat))))) b xs := fun _ _ q => tup_upd hHa q
  have na := h.nr a ham
  have pa : p ≠ a := fun e => P0.ne na e.symm
  have newD : RowD ms (([.str "ask", .str f.1, .str f.2.1, .int f.2.2, .int (y : Nat), .int (m : Nat)] : List V).set (4 + s) (.int (k : Nat))) (putR s k (some (f, y, m))) := by
    rw [ask_set hs]
    match s, hs with
    | 0, _ => exact ⟨rfl, hf⟩
    | 1, _ => exact ⟨rfl, hf⟩
  have newC : ∀ {H' : Hp}, RowC K H' (([.str "ask", .str f.1, .str f.2.1, .int f.2.2, .int (y : Nat), .int (m : Nat)] : List V).set (4 + s) (.int (k : Nat))) := by
    intro H'
    rw [ask_set hs]
    match s, hs with
    | 0, _ => exact askC (has _ hf.l) (has _ hf.r)
    | 1, _ => exact askC (has _ hf.l) (has _ hf.r)
  generalize hnr : (([.str "ask", .str f.1, .str f.2.1, .int f.2.2, .int (y : Nat), .int (m : Nat)] : List V).set (4 + s) (.int (k : Nat))) = nr at tk newD newC
  refine ⟨fun b o nb q => ?_, ?_, tk _ _ h.hn, ?_, h.nR, fun i b r' h1 h2 => ?_, h.nr, h.rnd, h.rR, ?_, h.nS, h.sR, h.sr, fun i a o s h1 h2 => tk _ _ (h.st i a o s h1 h2), h.sl, ?_, ?_, fun i d r' h1 h2 => ?_, fun r' hr' => ?_⟩
  · rw [upd_ne (fun e => by rw [e, na] at q; cases q)]
    exact h.b b o nb q
  · obtain ⟨x, y, c, q1, q2⟩ := h.P
    exact ⟨x, y, c, by rw [upd_ne pa]; exact q1, q2⟩
  · rw [upd_ne (fun e => h.rR (by rw [e]; exact ham))]; exact h.hR
  · rw [List.getElem?_set] at h2
    by_cases q : o = i
    · subst q
      rw [ha] at h1
      cases h1
      rw [if_pos rfl, if_pos hol] at h2
      cases h2
      exact upd_same
    · rw [if_neg q] at h2
      rw [upd_ne (fun e => q (nodup_ix2 h.rnd ha (by rw [← e]; exact h1)))]
      exact h.hr i b r' h1 h2
  · rw [upd_ne (fun e => h.sr (by rw [e]; exact ham))]; exact h.hS
  · rw [List.length_set]; exact h.rl
  · rw [List.length_set, List.length_modify]; exact h.dl
  · rw [List.getElem?_modify] at h1
    rw [List.getElem?_set] at h2
    by_cases q : o = i
    · subst q
      rw [if_pos rfl, if_pos hol] at h2
      rw [hd] at h1
      cases h2
      have : putR s k (some (f, y, m)) = d := by simpa using h1
      rw [← this]
      exact newD
    · rw [if_neg q] at h2
      have h1 : D[i]? = some d := by
        cases e : D[i]? with
        | none => rw [e] at h1; cases h1
        | some d' => rw [e] at h1; simpa [q] using h1
      exact h.rel i d r' h1 h2
  · rcases List.mem_or_eq_of_mem_set hr' with q | q
    · exact (h.rc r' q).imp tk
    · rw [q]; exact newC
theorem DS.snoc {z0 : Int} (P0 : PitAt H0 p z0) (h : DS K ms H0 p n R H z S rs rows D ss SL) {a : Addr} {r : List V} {d : DRow} (ha : H a = some (.lst r)) (na : a ∉ rs) (aR : a ≠ R) (aS : a ≠ S) (n0 : H0 a = none) (hd : RowD ms r d) (hc : RowC K H r) :
    DS K ms H0 p n R (upd H R (.lst (rs.map V.ref ++ [.ref a]))) z S (rs ++ [a]) (rows ++ [r]) (D ++ [d]) ss SL := by
  have tk : ∀ b xs, SqT K H b xs → SqT K (upd H R (.lst (rs.map V.ref ++ [.ref a]))) b xs := fun _ _ q => tup_upd h.hR q
  have pR : p ≠ R := fun e => P0.ne h.nR e.symm
  refine ⟨fun b o nb q => ?_, ?_, tk _ _ h.hn, ?_, h.nR, fun i b r' h1 h2 => ?_, fun b hb => ?_, ?_, fun hm => ?_, ?_, h.nS, h.sR, fun hm => ?_, fun i a o s h1 h2 => tk _ _ (h.st i a o s h1 h2), h.sl, ?_, ?_, fun i d' r' h1 h2 => ?_, fun r' hr' => ?_⟩
  · rw [upd_ne (fun e => by rw [e, h.nR] at q; cases q)]
    exact h.b b o nb q
  · obtain ⟨x, y, c, q1, q2⟩ := h.P
    exact ⟨x, y, c, by rw [upd_ne pR]; exact q1, q2⟩
  · rw [upd_same, List.map_append]; rfl
  · by_cases q : i < rs.length
    · rw [List.getElem?_append_left q] at h1
      rw [List.getElem?_append_left (by rw [← h.rl]; exact q)] at h2
      rw [upd_ne (fun e => h.rR (by rw [← e]; exact List.mem_of_getElem? h1))]
      exact h.hr i b r' h1 h2
    · have hi : i = rs.length := by
        have := (List.getElem?_eq_some_iff.mp h1).1
        rw [List.length_append, List.length_singleton] at this
        omega
      subst hi
      rw [List.getElem?_concat_length] at h1
      rw [h.rl, List.getElem?_concat_length] at h2
      cases h1; cases h2
      rw [upd_ne aR]; exact ha
  · rcases List.mem_append.mp hb with q | q
    · exact h.nr b q
    · rw [List.mem_singleton] at q; rw [q]; exact n0
  · refine List.nodup_append.mpr ⟨h.rnd, by simp, fun x hx y hy e => ?_⟩
    rw [List.mem_singleton] at hy
    exact na (by rw [← hy, ← e]; exact hx)
  · rcases List.mem_append.mp hm with q | q
    · exact h.rR q
    · rw [List.mem_singleton] at q; exact aR q.symm
  · rw [upd_ne h.sR]; exact h.hS
  · rcases List.mem_append.mp hm with q | q
    · exact h.sr q
    · rw [List.mem_singleton] at q; exact aS q.symm
  · rw [List.length_append, List.length_append, h.rl]; rfl
  · rw [List.length_append, List.length_append, h.dl]; rfl
  · by_cases q : i < D.length
    · rw [List.getElem?_append_left q] at h1
      rw [List.getElem?_append_left (by rw [h.dl]; exact q)] at h2
      exact h.rel i d' r' h1 h2
    · have hi : i = D.length := by
        have := (List.getElem?_eq_some_iff.mp h1).1
        rw [List.length_append, List.length_singleton] at this
        omega
      subst hi
      rw [List.getElem?_concat_length] at h1
      rw [← h.dl, List.getElem?_concat_length] at h2
      cases h1; cases h2
      exact hd
  · rcases List.mem_append.mp hr' with q | q
    · exact (h.rc r' q).imp tk
    · rw [List.mem_singleton] at q; rw [q]; exact hc.imp tk
/-- other slots -/
theorem DS.slots (h : DS K ms H0 p n R H z S rs rows D ss SL) {S2 : Addr} {ss2 : List Addr} {SL2 : List (Nat × Nat)} (hS : H S2 = some (.lst (ss2.map V.ref))) (nr : S2 ∉ rs) (nR : S2 ≠ R) (n0 : H0 S2 = none)
    (st : ∀ (i : Nat) (a : Addr) (o s : Nat), ss2[i]? = some a → SL2[i]? = some (o, s) → SqT K H a [.int (o : Nat), .int (s : Nat)]) (sl : ss2.length = SL2.length) : DS K ms H0 p n R H z S2 rs rows D ss2 SL2 :=
  ⟨h.b, h.P, h.hn, h.hR, h.nR, h.hr, h.nr, h.rnd, h.rR, hS, n0, nR, nr, st, sl, h.rl, h.dl, h.rel, h.rc⟩
end
end K1
end
section
set_option maxRecDepth 100000
set_option maxHeartbeats 4000000
namespace K1
open PySem PyProof.Rows L2 K01
theorem DS.mono {K : PySem.W.Frag} {ms : List Str} {H0 H : Hp} {p n R S : Addr} {z z' : Int} {rs ss : List Addr} {rows : List (List V)} {D : List DRow} {SL : List (Nat × Nat)} (h : DS K ms H0 p n R H z S rs rows D ss SL) (e : z ≤ z') : DS K ms H0 p n R H z' S rs rows D ss SL :=
  ⟨h.b, h.P.mono e, h.hn, h.hR, h.nR, h.hr, h.nr, h.rnd, h.rR, h.hS, h.nS, h.sR, h.sr, h.st, h.sl, h.rl, h.dl, h.rel, h.rc⟩
theorem asc_leaf : AscZ "leaf" := by
  unfold AscZ
  decide +kernel
theorem asc_good : AscZ "good" := by
  unfold AscZ
  decide +kernel
theorem asc_none : AscZ "none" := by
  unfold AscZ
  decide +kernel
theorem asc_bad : AscZ "bad" := by
  unfold AscZ
  decide +kernel
theorem leafC {K : PySem.W.Frag} {H : Hp} {z : Str} {x : V} (hz : AscZ z) (hx : RV K H x) (ha : ∀ w, V.str w = x → AscZ w) (hn : isAsk [.str z, x] = false := by rfl) : RowC K H [.str z, x] := by
  refine ⟨⟨_, _, rfl⟩, fun y hy => ?_, fun w hw => ?_, by show 2 ≤ 8; decide, fun q => by rw [hn] at q; cases q⟩
  · simp only [List.mem_cons, List.not_mem_nil, or_false] at hy
    rcases hy with rfl | rfl
    · exact .flat (.str _)
    · exact hx
  · simp only [List.mem_cons, List.not_mem_nil, or_false] at hw
    rcases hw with q | q
    · cases q; exact hz
    · exact ha w q
theorem if_gen {t : TT} {a b : TS} {D : Ends} {σ : L2.St} {H : Hp} (A B : Hp → Prop) (ht : ∀ A' B' : Hp → Prop, (∀ H', A H' → A' H') → (∀ H', B H' → B' H') → t σ H (fun k H' => if k = true then A' H' else B' H'))
    (ha : ∀ H', A H' → a D σ H') (hb : ∀ H', B H' → b D σ H') : tIfS t a b D σ H := ht _ _ ha hb
theorem pair_dp {K : PySem.W.Frag} {H : Hp} : ∀ {ss : List Addr} {SL : List (Nat × Nat)}, ss.length = SL.length → (∀ (i : Nat) (a : Addr) (o s : Nat), ss[i]? = some a → SL[i]? = some (o, s) → SqT K H a [.int (o : Nat), .int (s : Nat)]) → DpAll K H (ss.map V.ref) (SL.map fun x => .tuple [.int (x.1 : Nat), .int (x.2 : Nat)])
  | [], [], _, _ => .nil
  | a :: ss, (o, s) :: SL, hl, h => .cons (.tup (h 0 a o s rfl rfl) (.cons (.int _) (.cons (.int _) .nil))) (pair_dp (by simpa using hl) fun i a o s h1 h2 => h (i + 1) a o s h1 h2)
section
variable {P : Program} {w : World} {K : PySem.W.Frag} {mg : Str → Option Value} {base : Heap}
abbrev sDT : Stmt := top 65
def spDT (K : PySem.W.Frag) : Sp := fun vs H Q _ => ∃ (p n : Addr) (ms : List Str) (many : Nat) (far z : Int), vs = [.ref p, .ref n, .int many, .int far] ∧ PitAt H p z ∧ z ≤ 700000 ∧ SqT K H n ((nodes ms).map V.str) ∧ 1 ≤ ms.length ∧ ms.length ≤ 100 ∧ (nodes ms).Nodup ∧ (∀ w ∈ nodes ms, AscZ w) ∧ many ≤ 100 ∧ 0 ≤ far ∧ far ≤ 10 ^ 12 ∧
  ∀ H' t ps rows, But p H H' → PitAt H' p (z + 5 * (2 * many + 1)) → H' t = some (.lst (ps.map V.ref)) → RowsAt2 K H' ps rows → rows.length = 2 * many + 1 → treeFault (nodes ms) rows = none → (∀ r ∈ rows, RowC K H' r) → Q (.ref t) H'
abbrev nsDT : List Str := ["pit", "nodes", "many", "far", "rows", "slots", "left", "k", "owner", "side", "ax", "by", "top", "row"]
theorem scDT : FnScope nsDT ["pit", "nodes", "many", "far"] (defScope sDT) := ⟨rfl, rfl, rfl, by decide +kernel, rfl, by decide +kernel, by decide +kernel⟩
theorem ok_dt {f fH fD : Addr} {fd fdH fdD : FuncData} (F : Fun K "_law_drawn_tree" "_law_drawn_tree" sDT f fd) (T : Bi mg) (FH : Fun K "_law_hoist" "_law_hoist" sHoist fH fdH) (bH : Binds K fdH ["pit", "below"] []) (mH : mg "_law_hoist" = some (.ref fH))
    (FD : Fun K "_law_drawn_fact" "_law_drawn_fact" sDF fD fdD) (bD : Binds K fdD ["pit", "marks_here", "far"] []) (mD : mg "_law_drawn_fact" = some (.ref fD)) :
    FnOk P w K mg base CX0 3 f fd ["pit", "nodes", "many", "far"] (spDT K) := by
  have GH : FnOk P w K mg base CX0 1 fH fdH ["pit", "below"] (spHoist K) := ok_hoist FH T
  have GD : FnOk P w K mg base CX0 2 fD fdD ["pit", "marks_here", "far"] (spDF K) := ok_df FD T FH bH mH
  refine F.ok scDT (fun vs H Q E h => ?_) (fun cdv A outer s H vs Q E hr h => ?_)
  · obtain ⟨_, _, _, _, _, _, rfl, _⟩ := h
    rfl
  · obtain ⟨p, n, ms, many, far, z, rfl, hp, hz, hn, hm1, hml, hN, has, hmany, hf0, hf1, k⟩ := h
    have hr1 : Room 1 _ := hr.mono (by decide)
    refine ⟨_, pss_cons (ps_par3 (i := 4) (j := 5) (l := 6) rfl scDT.nd rfl rfl rfl (by decide) (by decide) (by decide) rfl rfl rfl (pa_cons (pe_lst pa_nil) (pa_cons (pe_lst (pa_cons (pe_tup (pa_cons pe_int (pa_cons pe_int pa_nil))) pa_nil)) (pa_cons (pv 2) pa_nil))) rfl)
      (pss_cons (ps_for PassesOwn.never rfl (pi_range1 (by rfl) T.range (pa_cons (pe_op op_add (pe_op op_mul pe_int (pv 2)) pe_int) pa_nil)) (pg_name (i := 7) scDT.nd rfl (.inl rfl))
        (pss_cons (ps_asg (pe_bm PySem.F.plainAttrs_list PySem.F.slot_list_pop PySem.F.type_list_pop mt_popAt (pv 5) (pa_cons (pe_call GH hr1 rfl mH FH.kp bH .nil pass0 (pa_cons (pv 0) (pa_cons (pe_callB call_len_seq (by rfl) T.len PySem.boot_len (pa_cons (pv 5) pa_nil)) pa_nil))) pa_nil))
            (pg_tup rfl (pgs_cons (pg_name (i := 8) scDT.nd rfl (.inl rfl)) (pgs_cons (pg_name (i := 9) scDT.nd rfl (.inl rfl)) pgs_nil))))
        (pss_cons (ps_if (pt_cmpR op_gt (pv 7) pe_int (nomark _)) (pss_one (ps_asg (pv 7) (pg_sub (pe_ix ix_list (pv 4) (pv 8) (fun _ _ => rfl)) (pe_op op_add pe_int (pv 9)) set_list))) pss_nil)
        (pss_one (ps_if (PW.pt (pw_and (pt_cmpR op_gt (pv 6) pe_int (nomark _)) (pw_and1 (PW.pt (pw_or (pt_cmpR (op_eqD hr.units) (pv 5) (pe_lst pa_nil) (nomark _)) (pw_or1 (pt_cmpR op_eq (pe_call GH hr1 rfl mH FH.kp bH .nil pass0 (pa_cons (pv 0) (pa_cons pe_int pa_nil))) pe_int (nomark _))))))))
          (pss_cons (ps_asg (pe_call GD hr rfl mD FD.kp bD .nil pass0 (pa_cons (pv 0) (pa_cons (pe_slice sl_tupA (pv 1) (po_some pe_int) po_none) (pa_cons (pv 3) pa_nil))))
              (pg_tup rfl (pgs_cons (pg_name (i := 10) scDT.nd rfl (.inl rfl)) (pgs_cons (pg_name (i := 11) scDT.nd rfl (.inl rfl)) (pgs_cons (pg_name (i := 12) scDT.nd rfl (.inl rfl)) pgs_nil)))))
          (pss_cons (ps_expr (pe_bm PySem.F.plainAttrs_list PySem.F.slot_list_append PySem.F.type_list_append mt_append (pv 4) (pa_cons (pe_lst (pa_cons pe_str (pa_cons (pv 10) (pa_cons (pv 11) (pa_cons (pv 12) (pa_cons pe_int (pa_cons pe_int pa_nil))))))) pa_nil)))
          (pss_cons (ps_set (i := 5) scDT.nd rfl (.inl rfl) (pe_op op_cat (pv 5) (pe_lst (pa_cons (pe_tup (pa_cons (pv 7) (pa_cons pe_int pa_nil))) (pa_cons (pe_tup (pa_cons (pv 7) (pa_cons pe_int pa_nil))) pa_nil)))))
          (pss_one (ps_set (i := 6) scDT.nd rfl (.inl rfl) (pe_op op_sub (pv 6) pe_int))))))
          (pss_one (ps_expr (pe_bm PySem.F.plainAttrs_list PySem.F.slot_list_append PySem.F.type_list_append mt_append (pv 4) (pa_cons (pe_ix ix_list (pe_lst (pa_cons (pe_lst (pa_cons pe_str (pa_cons (pv 7) pa_nil))) (pa_cons (pe_lst (pa_cons pe_str pa_nil))
              (pa_cons (pe_lst (pa_cons pe_str (pa_cons (pe_tup pa_nil) pa_nil))) (pa_cons (pe_lst (pa_cons pe_str (pa_cons pe_str pa_nil))) pa_nil)))))
              (pe_call GH hr1 rfl mH FH.kp bH .nil pass0 (pa_cons (pv 0) (pa_cons pe_int pa_nil))) (fun _ _ => rfl)) pa_nil)))))))))
      (pss_one (ps_ret (pe_lc (own := [("row", 13)]) (g := gName 13) (te := tCB (fun xs H Q => ∃ p ys, xs = [V.ref p] ∧ ((SqL K H p ys ∧ ∀ l, H l = none → Q (.ref l) (upd H l (.tup ys))) ∨ SqT K H p ys ∧ Q (.ref p) H)) (tCons (tVar 13) tNil)) rfl scDT.nd (pi_list (pv 4)) (blkOk_by (N := nsDT) (sc := defScope sDT) (by decide +kernel))
        (fun _ _ _ _ _ => pg_name (i := 13) scDT.nd rfl (.inl rfl)) (fun _ _ _ _ _ => pts_nil) (fun _ _ _ _ _ => pe_callTy (T := "tuple") call_tuple_of (by rfl) T.tuple (by decide +kernel) (pa_cons (pv 13) pa_nil)))))), ?_⟩
    refine ⟨by show 0 ≤ sizeLine; decide, fun R hR => ?_⟩
    refine ⟨by show 2 ≤ sizeLine; decide, fun t1 ht1 => ⟨by show 1 ≤ sizeLine; decide, fun S hS => ?_⟩⟩
    refine ⟨_, rfl, _, _, _, rfl, ?_⟩
    have hR0 : H R = none := hR
    have s1 : Same H (upd H R (.lst [])) := Same.new hR
    have s2 : Same (upd H R (.lst [])) (upd (upd H R (.lst [])) t1 (.tup [.int 0, .int 0])) := Same.new ht1
    have s3 : Same (upd (upd H R (.lst [])) t1 (.tup [.int 0, .int 0])) (upd (upd (upd H R (.lst [])) t1 (.tup [.int 0, .int 0])) S (.lst [.ref t1])) := Same.new hS
    have st1 : SqT K (upd (upd (upd H R (.lst [])) t1 (.tup [.int 0, .int 0])) S (.lst [.ref t1])) t1 [.int 0, .int 0] := Same.tup s3 tup_at
    have hRR : (upd (upd (upd H R (.lst [])) t1 (.tup [.int 0, .int 0])) S (.lst [.ref t1])) R = some (.lst []) := s3 _ _ (s2 _ _ upd_same)
    have hSS : (upd (upd (upd H R (.lst [])) t1 (.tup [.int 0, .int 0])) S (.lst [.ref t1])) S = some (.lst [.ref t1]) := upd_same
    have hS0 : H S = none := (s1.trans s2).free hS
    have hSR : S ≠ R := fun e => by rw [e] at hS; rw [s2 _ _ upd_same] at hS; cases hS
    have s03 := (s1.trans s2).trans s3
    generalize upd (upd (upd H R (.lst [])) t1 (.tup [.int 0, .int 0])) S (.lst [.ref t1]) = H3 at st1 hRR hSS s03
    have d0 : DS K ms H p n R H3 (z + 5 * (0 : Nat)) S [] [] [] [t1] [(0, 0)] :=
      ⟨Same.but s03, by simpa using hp.same s03, Same.tup s03 hn, hRR, hR0, (fun i a r h => nomatch h), (fun a h => nomatch h), List.nodup_nil, (fun h => nomatch h), hSS, hS0, hSR, (fun h => nomatch h), (fun i a o s h1 h2 => by
        cases i with
        | zero => cases h1; cases h2; exact st1
        | succ i => cases h1), rfl, rfl, rfl, (fun i d r h => nomatch h), (fun r h => nomatch h)⟩
    dsimp only []
    refine ⟨_, rfl, _, _, rfl, rfl, ?_, _, _, rfl, rfl, _, rfl, ?_, ?_, ?_⟩
    · exact .inl ⟨by decide, by decide⟩
    · omega
    · omega
    rw [show ((2 : Int) * (many : Int) + 1).toNat = 2 * many + 1 by omega]
    refine for_r0 (n := 2 * many + 1) (fun i σ H' => ∃ (S : Addr) (rs : List Addr) (rows : List (List V)) (D : List DRow) (ss : List Addr) (SL : List (Nat × Nat)) (left : Nat) (v7 v8 v9 v10 v11 v12 v13 : Option V),
        σ = [some (.ref p), some (.ref n), some (.int (many : Nat)), some (.int far), some (.ref R), some (.ref S), some (.int (left : Nat)), v7, v8, v9, v10, v11, v12, v13] ∧ DS K ms H p n R H' (z + 5 * (i : Nat)) S rs rows D ss SL ∧ TI D SL ∧ D.length = i ∧ left + asks D = many ∧ (0 < left → SL ≠ []))
      ⟨S, [], [], [], [t1], [(0, 0)], many, none, none, none, none, none, none, none, rfl, d0, TI.start, rfl, rfl, fun _ => by simp⟩ ?_ ?_
    · rintro i σ H4 hi ⟨S, rs, rows, D, ss, SL, left, v7, v8, v9, v10, v11, v12, v13, rfl, d4, hTI, hDl, hla, hne⟩
      have hc := hTI.cnt
      have hSL : 0 < SL.length := by
        by_cases q : left = 0
        · omega
        · exact List.length_pos_iff.mpr (hne (by omega))
      have hsl := d4.sl
      refine ⟨_, rfl, .inl ⟨rfl, _, SqL.of d4.hS⟩, _, rfl, _, rfl, S, _, rfl, .inl (SqL.of d4.hS), p, _, _, rfl, d4.P, by omega, by rw [List.length_map]; omega, by rw [List.length_map]; omega, fun H5 dj b5 P5 l5 u5 => ?_⟩
      rw [List.length_map] at u5
      obtain ⟨j, rfl⟩ := Int.eq_ofNat_of_zero_le l5
      have hj : j < SL.length := by omega
      obtain ⟨⟨o, sd⟩, hos⟩ : ∃ x, SL[j]? = some x := ⟨_, List.getElem?_eq_getElem hj⟩
      obtain ⟨ta, hta⟩ : ∃ x, ss[j]? = some x := ⟨_, List.getElem?_eq_getElem (by omega)⟩
      have d5 := d4.hoist hp b5 P5
      have hta5 := d5.st j ta o sd hta hos
      refine ⟨S, _, _, j, .ref ta, rfl, rfl, d5.hS, by omega, by omega, (ixN_seq (ixN_nat (by rw [List.length_map]; omega))).1, by rw [List.getElem?_map, hta]; rfl, ?_⟩
      have d6 := d5.pop hp j
      have hta6 := tup_upd (zs := (ss.map V.ref).eraseIdx j) d5.hS hta5
      generalize upd H5 S (.lst ((ss.map V.ref).eraseIdx j)) = H6 at d6 hta6
      refine ⟨ta, _, rfl, hta6, rfl, _, _, rfl, _, _, rfl, rfl, ?_⟩
      have hTM := hTI.fill hos
      obtain ⟨hs2, hent⟩ := hTI.sv o sd (List.mem_of_getElem? hos)
      dsimp only [gName]
      show tSeq _ _ _ _ _
      refine seq_gen (fun σ' H' => ∃ rows7, σ' = [some (.ref p), some (.ref n), some (.int (many : Nat)), some (.int far), some (.ref R), some (.ref S), some (.int (left : Nat)), some (.int (i : Nat)), some (.int (o : Nat)), some (.int (sd : Nat)), v10, v11, v12, v13] ∧ DS K ms H p n R H' (z + 5 * (i : Nat) + 1) S rs rows7 (fillT D o sd) (ss.eraseIdx j) (SL.eraseIdx j)) (fun N hN => ?_) ?_
      · refine ⟨_, rfl, _, _, rfl, rfl, _, rfl, ?_⟩
        by_cases hi0 : i = 0
        · have e : fillT D o sd = D := if_pos (by omega)
          rw [e] at hN
          refine iteDF (by omega) ?_
          exact hN _ _ ⟨rows, rfl, d6⟩
        · refine iteDT (by omega) ?_
          have e0 : ent D o sd = some 0 := by
            rcases hent with ⟨q, _⟩ | q
            · omega
            · exact q
          have hoD := ent_lt e0
          have e : fillT D o sd = D.modify o (putR sd i) := by
            unfold fillT
            rw [if_neg (by omega), hDl]
          rw [e] at hN
          obtain ⟨f, y, m, hd⟩ : ∃ f y m, D[o]? = some (some (f, y, m)) := by
            unfold ent at e0
            cases q : D[o]? with
            | none => rw [q] at e0; cases e0
            | some dd =>
              rcases dd with _ | ⟨f, y, m⟩
              · rw [q] at e0; cases e0
              · exact ⟨f, y, m, rfl⟩
          have hrl := d6.rl
          have hdl := d6.dl
          obtain ⟨a, ha⟩ : ∃ a, rs[o]? = some a := ⟨_, List.getElem?_eq_getElem (by omega)⟩
          obtain ⟨r, hr⟩ : ∃ r, rows[o]? = some r := ⟨_, List.getElem?_eq_getElem (by omega)⟩
          obtain ⟨er, _⟩ := d6.rel o _ r hd hr
          have hHa := d6.hr o a r ha hr
          have hlr : r.length = 6 := by rw [er]; rfl
          have d7 := d6.put hp has hs2 (k := i) ha hd
          rw [← er] at d7
          refine ⟨_, rfl, _, rfl, _, rfl, R, _, _, _, rfl, rfl, SqL.of d6.hR, atI_nat (by rw [List.getElem?_map, ha]; rfl), ?_⟩
          refine ⟨_, rfl, _, _, rfl, rfl, a, _, _, 4 + sd, rfl, by show V.int ((4 : Int) + (sd : Int)) = _; rw [show ((4 : Int) + (sd : Int)) = ((4 + sd : Nat) : Int) by omega], hHa, ixN_nat (by omega), ?_⟩
          exact hN _ _ ⟨_, rfl, d7⟩
      · rintro σ' H7 ⟨rows7, rfl, d7⟩
        generalize hD7 : fillT D o sd = D7 at d7 hTM
        generalize hss : ss.eraseIdx j = ss7 at d7
        generalize hSL7 : SL.eraseIdx j = SL7 at d7 hTM
        have hD7l : D7.length = i := by rw [← hD7, fill_len]; exact hDl
        have hD7a : asks D7 = asks D := by
          rw [← hD7]
          unfold fillT
          split
          · rfl
          · exact asks_put
        have hc7 := hTM.cnt
        refine if_gen (fun H8 => ∃ z8 : Int, 0 < left ∧ z8 ≤ z + 5 * (i : Nat) + 2 ∧ DS K ms H p n R H8 z8 S rs rows7 D7 ss7 SL7) (fun H8 => ∃ z8 : Int, (0 < left → SL7 ≠ []) ∧ z8 ≤ z + 5 * (i : Nat) + 2 ∧ DS K ms H p n R H8 z8 S rs rows7 D7 ss7 SL7) (fun A' B' hA hB => ?_) ?_ ?_
        · refine ⟨_, rfl, _, _, rfl, rfl, _, rfl, ?_⟩
          by_cases hl0 : left = 0
          · refine iteDF (by omega) ?_
            exact iteF (hB _ ⟨_, fun q => by omega, by omega, d7⟩)
          · refine iteDT (by omega) ?_
            refine ⟨_, rfl, by show 0 ≤ sizeLine; decide, fun e he => ?_⟩
            have d8 := d7.same (Same.new (o := .lst []) he)
            have hee : (upd H7 e (.lst [])) e = some (.lst []) := upd_same
            generalize upd H7 e (.lst []) = H8 at d8 hee
            refine ⟨_, .list [], .lst (SqL.of d8.hS) (pair_dp d8.sl d8.st), .lst (SqL.of hee) .nil, (Lv.list (n := 1) fun dd hdd => ?_).shaped (by decide), shaped_nil, _, rfl, ?_⟩
            · obtain ⟨x, _, rfl⟩ := List.mem_map.mp hdd
              exact Lv.tuple (n := 0) fun y hy => by
                simp only [List.mem_cons, List.not_mem_nil, or_false] at hy
                rcases hy with rfl | rfl
                · exact Lv.int _
                · exact Lv.int _
            · rw [eqv_nil]
              have hlpos : 0 < left := by omega
              cases hE : SL7 with
              | nil => exact iteT (iteT (hA _ ⟨z + 5 * (i : Nat) + 1, hlpos, by omega, d8⟩))
              | cons s0 sr0 =>
                refine iteF ?_
                refine ⟨_, rfl, p, _, _, rfl, d8.P, by omega, by omega, by omega, fun H9 d9 b9 P9 l9 u9 => ⟨rfl, _, rfl, ?_⟩⟩
                have d9' := d8.hoist hp b9 P9
                by_cases h9 : d9 = 0
                · exact iteDT (by rw [h9]) (iteT (B := B' H9) (hA _ ⟨z + 5 * (i : Nat) + 1 + 1, hlpos, by omega, d9'⟩))
                · exact iteDF (fun q => h9 (V.int.inj q)) (iteF (A := A' H9) (hB _ ⟨z + 5 * (i : Nat) + 1 + 1, fun _ => by rw [hE]; simp, by omega, d9'⟩))
        · rintro H8 ⟨z8, hlpos, hz8, d8⟩
          have cF : cutV ((nodes ms).map V.str) (some 1) none = ms.map V.str := cut_drop _ 1
          refine ⟨_, rfl, _, rfl, _, rfl, ?_⟩
          dsimp only [tNoPart, tPart]
          refine slA_it d8.hn fun u H9 s9 hu => ?_
          rw [cF] at hu
          have d9 := d8.same s9
          refine ⟨_, rfl, p, u, ms, far, _, rfl, d9.P, by omega, hu, hm1, hml, hN, hf0, hf1, fun H10 q f b10 P10 hq hf => ?_⟩
          have d10 := d9.hoist hp b10 P10
          refine ⟨q, _, rfl, .inl (.inl hq), rfl, _, _, rfl, _, _, rfl, _, _, rfl, rfl, ?_⟩
          have hrl := d10.rl
          have hdl := d10.dl
          refine ⟨_, rfl, .inl ⟨rfl, _, SqL.of d10.hR⟩, _, rfl, _, rfl, _, rfl, by show 6 ≤ sizeLine; decide, fun a ha => ?_⟩
          obtain ⟨na1, na2, na3, na4, na5⟩ := d10.fresh ha
          have d11 := d10.same (Same.new (o := .lst [.str "ask", .str f.1, .str f.2.1, .int f.2.2, .int 0, .int 0]) ha)
          have d12 := d11.snoc hp (d := some (f, 0, 0)) upd_same na1 na2 na3 na4 ⟨rfl, hf⟩ (askC (has _ hf.l) (has _ hf.r))
          have hR11 := d11.hR
          refine ⟨R, _, .ref a, rfl, rfl, hR11, by rw [List.length_map]; exact Nat.lt_of_lt_of_le (show rs.length < 1000 by omega) (small1000 (by omega)), ?_⟩
          have na1' : a ∉ rs := na1
          generalize upd (upd H10 a (.lst [.str "ask", .str f.1, .str f.2.1, .int f.2.2, .int 0, .int 0])) R (.lst (rs.map V.ref ++ [.ref a])) = H12 at d12
          have hTI' := hTM.ask f
          rw [hD7l] at hTI'
          refine ⟨_, rfl, _, rfl, by show 2 ≤ sizeLine; decide, fun u1 hu1 => ?_⟩
          have e1 : Same H12 (upd H12 u1 (.tup [.int (i : Nat), .int 0])) := Same.new hu1
          have hu1' : SqT K (upd H12 u1 (.tup [.int (i : Nat), .int 0])) u1 [.int (i : Nat), .int (0 : Nat)] := tup_at
          generalize upd H12 u1 (.tup [.int (i : Nat), .int 0]) = H13 at e1 hu1'
          refine ⟨_, rfl, by show 2 ≤ sizeLine; decide, fun u2 hu2 => ?_⟩
          have e2 : Same H13 (upd H13 u2 (.tup [.int (i : Nat), .int 1])) := Same.new hu2
          have hu2' : SqT K (upd H13 u2 (.tup [.int (i : Nat), .int 1])) u2 [.int (i : Nat), .int (1 : Nat)] := tup_at
          generalize upd H13 u2 (.tup [.int (i : Nat), .int 1]) = H14 at e2 hu2'
          refine ⟨by show 2 ≤ sizeLine; decide, fun l2 hl2 => ?_⟩
          have e3 : Same H14 (upd H14 l2 (.lst [.ref u1, .ref u2])) := Same.new hl2
          have hl2' : (upd H14 l2 (.lst [.ref u1, .ref u2])) l2 = some (.lst [.ref u1, .ref u2]) := upd_same
          generalize upd H14 l2 (.lst [.ref u1, .ref u2]) = H15 at e3 hl2'
          have d15 := d12.same ((e1.trans e2).trans e3)
          have h1 := Same.tup (K := K) (e2.trans e3) hu1'
          have h2 := Same.tup (K := K) e3 hu2'
          have hs15 := d15.sl
          refine ⟨S, l2, _, _, rfl, rfl, d15.hS, hl2', by have q : ss7.length + 2 ≤ sizeLine := small1000 (by omega); rw [List.length_map]; exact q, fun S2 hS2 => ?_⟩
          obtain ⟨nb1, nb2, nb3, nb4, nb5⟩ := d15.fresh hS2
          have e4 : Same H15 (upd H15 S2 (.lst (ss7.map V.ref ++ [.ref u1, .ref u2]))) := Same.new hS2
          have d16 := d15.same e4
          refine ⟨_, rfl, _, _, rfl, rfl, ?_⟩
          have hle : ((left : Nat) : Int) - 1 = ((left - 1 : Nat) : Int) := by omega
          refine ⟨S2, _, _, _, ss7 ++ [u1, u2], _, left - 1, some (.int (i : Nat)), some (.int (o : Nat)), some (.int (sd : Nat)), some (.str f.1), some (.str f.2.1), some (.int f.2.2), v13, ?_, (d16.slots (S2 := S2) (ss2 := ss7 ++ [u1, u2]) (SL2 := SL7 ++ [(i, 0), (i, 1)]) ?_ nb1 nb2 nb4 ?_ ?_).mono ?_, hTI', ?_, ?_, fun _ => by simp⟩
          · rw [← hle]; rfl
          · rw [upd_same, List.map_append]; rfl
          · have k1 := Same.tup (K := K) e4 h1
            have k2 := Same.tup (K := K) e4 h2
            have hst := d16.st
            intro i' a' o' s' q1 q2
            rw [List.getElem?_append] at q1 q2
            rw [hs15] at q1
            by_cases q : i' < SL7.length
            · rw [if_pos q] at q1 q2
              exact hst i' a' o' s' q1 q2
            · rw [if_neg q] at q1 q2
              generalize i' - SL7.length = m at q1 q2
              match m, q1, q2 with
              | 0, q1, q2 => cases q1; cases q2; exact k1
              | 1, q1, q2 => cases q1; cases q2; exact k2
          · rw [List.length_append, List.length_append, hs15]; rfl
          · push_cast; omega
          · rw [List.length_append, hD7l]; rfl
          · rw [asks_snoc, hD7a]
            show left - 1 + (asks D + 1) = many
            omega
        · rintro H8 ⟨z8, hne8, hz8, d8⟩
          refine ⟨_, rfl, .inl ⟨rfl, _, SqL.of d8.hR⟩, _, rfl, by show 2 ≤ sizeLine; decide, fun a0 h0 => ⟨by show 1 ≤ sizeLine; decide, fun a1 h1 => ⟨by show 0 ≤ sizeLine; decide, fun e he => ⟨by show 2 ≤ sizeLine; decide, fun a2 h2 => ⟨by show 2 ≤ sizeLine; decide, fun a3 h3 => ⟨by show 4 ≤ sizeLine; decide, fun l hl => ?_⟩⟩⟩⟩⟩⟩
          have f0 := d8.fresh h0
          have e0 : Same H8 (upd H8 a0 (.lst [.str "leaf", .int (i : Nat)])) := Same.new h0
          have v0 : (upd H8 a0 (.lst [.str "leaf", .int (i : Nat)])) a0 = some (.lst [.str "leaf", .int (i : Nat)]) := upd_same
          generalize upd H8 a0 (.lst [.str "leaf", .int (i : Nat)]) = G0 at e0 v0 h1 he h2 h3 hl
          have dd0 := d8.same e0
          have f1 := dd0.fresh h1
          have e1 : Same G0 (upd G0 a1 (.lst [.str "good"])) := Same.new h1
          have v1 : (upd G0 a1 (.lst [.str "good"])) a1 = some (.lst [.str "good"]) := upd_same
          generalize upd G0 a1 (.lst [.str "good"]) = G1 at e1 v1 he h2 h3 hl
          have dd1 := dd0.same e1
          have ee : Same G1 (upd G1 e (.tup [])) := Same.new he
          have ve : SqT K (upd G1 e (.tup [])) e [] := tup_at
          generalize upd G1 e (.tup []) = Ge at ee ve h2 h3 hl
          have dde := dd1.same ee
          have f2 := dde.fresh h2
          have e2 : Same Ge (upd Ge a2 (.lst [.str "none", .ref e])) := Same.new h2
          have v2 : (upd Ge a2 (.lst [.str "none", .ref e])) a2 = some (.lst [.str "none", .ref e]) := upd_same
          generalize upd Ge a2 (.lst [.str "none", .ref e]) = G2 at e2 v2 h3 hl
          have dd2 := dde.same e2
          have f3 := dd2.fresh h3
          have e3 : Same G2 (upd G2 a3 (.lst [.str "bad", .str "ask"])) := Same.new h3
          have v3 : (upd G2 a3 (.lst [.str "bad", .str "ask"])) a3 = some (.lst [.str "bad", .str "ask"]) := upd_same
          generalize upd G2 a3 (.lst [.str "bad", .str "ask"]) = G3 at e3 v3 hl
          have dd3 := dd2.same e3
          have e4 : Same G3 (upd G3 l (.lst [.ref a0, .ref a1, .ref a2, .ref a3])) := Same.new hl
          have v4 : (upd G3 l (.lst [.ref a0, .ref a1, .ref a2, .ref a3])) l = some (.lst [.ref a0, .ref a1, .ref a2, .ref a3]) := upd_same
          generalize upd G3 l (.lst [.ref a0, .ref a1, .ref a2, .ref a3]) = G4 at e4 v4
          have dd4 := dd3.same e4
          refine ⟨_, rfl, p, _, _, rfl, dd4.P, by omega, by omega, by omega, fun H9 d b9 P9 l9 u9 => ?_⟩
          have d9 := dd4.hoist hp b9 P9
          have keep : ∀ {x : Addr} {o : HO}, H x = none → G4 x = some o → H9 x = some o := fun {x o} hx hv => b9 _ _ (hp.ne hx) hv
          have le0 : H l = none := (d8.same ((((e0.trans e1).trans ee).trans e2).trans e3)).fresh hl |>.2.2.2.1
          have c0 : RowC K H9 [.str "leaf", .int (i : Nat)] := leafC asc_leaf (.flat (.int _)) (fun z q => by cases q)
          have c1 : RowC K H9 [.str "good"] := ⟨⟨_, _, rfl⟩, fun x hx => by rw [List.mem_singleton] at hx; rw [hx]; exact .flat (.str _), fun z hz => by rw [List.mem_singleton] at hz; cases hz; exact asc_good, by show 1 ≤ 8; decide, fun q => by cases q⟩
          have c2 : RowC K H9 [.str "none", .ref e] := leafC asc_none (.nilT (dd4.P.tup b9 (Same.tup ((e2.trans e3).trans e4) ve))) (fun z q => by cases q)
          have c3 : RowC K H9 [.str "bad", .str "ask"] := leafC asc_bad (.flat (.str _)) (fun z q => by cases q; exact asc_ask)
          obtain ⟨a, r, hat, hHa, hfr, hask, hC⟩ : ∃ (a : Addr) (r : List V), atI ([V.ref a0, V.ref a1, V.ref a2, V.ref a3] : List V) d = some (V.ref a) ∧ H9 a = some (.lst r) ∧ (a ∉ rs ∧ a ≠ R ∧ a ≠ S ∧ H a = none ∧ a ≠ p) ∧ isAsk r = false ∧ RowC K H9 r := by
            obtain ⟨dn, rfl⟩ := Int.eq_ofNat_of_zero_le l9
            match dn, u9 with
            | 0, _ => exact ⟨a0, _, at_of (j := 0) rfl rfl, keep f0.2.2.2.1 ((((((e1.trans ee).trans e2).trans e3).trans e4)) _ _ v0), f0, by rfl, c0⟩
            | 1, _ => exact ⟨a1, _, at_of (j := 1) rfl rfl, keep f1.2.2.2.1 ((((ee.trans e2).trans e3).trans e4) _ _ v1), f1, by rfl, c1⟩
            | 2, _ => exact ⟨a2, _, at_of (j := 2) rfl rfl, keep f2.2.2.2.1 ((e3.trans e4) _ _ v2), f2, by rfl, c2⟩
            | 3, _ => exact ⟨a3, _, at_of (j := 3) rfl rfl, keep f3.2.2.2.1 (e4 _ _ v3), f3, by rfl, c3⟩
          have hrl := d9.rl
          have hdl := d9.dl
          refine ⟨l, _, _, _, rfl, rfl, SqL.of (keep le0 v4), hat, R, _, .ref a, rfl, rfl, d9.hR, by rw [List.length_map]; exact Nat.lt_of_lt_of_le (show rs.length < 1000 by omega) (small1000 (by omega)), ?_⟩
          have d10 := d9.snoc hp (d := none) hHa hfr.1 hfr.2.1 hfr.2.2.1 hfr.2.2.2.1 hask hC
          refine ⟨S, _, _, _, ss7, SL7, left, some (.int (i : Nat)), some (.int (o : Nat)), some (.int (sd : Nat)), v10, v11, v12, v13, rfl, d10.mono (by push_cast; omega), hTM.leaf, ?_, ?_, hne8⟩
          · rw [List.length_append, hD7l]; rfl
          · rw [asks_snoc, hD7a]; exact hla
    · rintro σ H4 ⟨S, rs, rows, D, ss, SL, left, v7, v8, v9, v10, v11, v12, v13, rfl, d4, hTI, hDl, hla, hne⟩
      have hc := hTI.cnt
      have hSL : SL = [] := List.length_eq_zero_iff.mp (by omega)
      subst hSL
      have hrl := d4.rl
      have hdl := d4.dl
      have hrlen : rows.length = 2 * many + 1 := by omega
      have hR4 := d4.hR
      refine ⟨_, rfl, R, rfl, ⟨_, SqL.of hR4⟩, fun C hC => ?_⟩
      have bC := Same.but (l := p) (Same.new (o := .lst []) hC)
      refine lc_it (walk_list (K := K) (a := R) (xs := rs.map V.ref)) (fun i H' => ∃ ps : List Addr, Same H4 H' ∧ H' C = some (.lst (ps.map V.ref)) ∧ ps.length = i ∧ ∀ (j : Nat) (q : Addr) (r : List V), ps[j]? = some q → rows[j]? = some r → SqT K H' q r)
        ⟨[], Same.new hC, upd_same, rfl, fun j q r h => nomatch h⟩ (fun i H' _ ⟨ps, s, _⟩ => SqL.of (s _ _ hR4)) ?_ ?_
      · rintro i v Ha Hb hi ⟨ps, sa, hCa, hpl, hrows⟩ ⟨rfl, hv⟩
        obtain ⟨a, ha, rfl⟩ := get_map hv
        rw [List.length_map] at hi
        obtain ⟨r, hr⟩ : ∃ r, rows[i]? = some r := ⟨_, List.getElem?_eq_getElem (by omega)⟩
        have hHa := sa _ _ (d4.hr i a r ha hr)
        have hC4 : H4 C = none := hC
        refine ⟨rfl, yes_ ⟨_, rfl, a, r, rfl, .inl ⟨SqL.of hHa, fun u hu => ?_⟩⟩⟩
        have su : Same Hb (upd Hb u (.tup r)) := Same.new hu
        have nu : C ≠ u := fun e => by rw [← e, hCa] at hu; cases hu
        refine ⟨_, (upd_ne nu).trans hCa, by rw [List.length_map]; exact Nat.lt_of_lt_of_le (show ps.length < 1000 by omega) (small1000 (by omega)), ?_⟩
        refine ⟨ps ++ [u], Same.set (sa.trans su) hC4, by rw [upd_same, List.map_append]; rfl, by rw [List.length_append, hpl]; rfl, fun j q r' h1 h2 => ?_⟩
        have tk : ∀ {x : Addr} {xs : List V}, SqT K (upd Hb u (.tup r)) x xs → SqT K (upd (upd Hb u (.tup r)) C (.lst (ps.map V.ref ++ [.ref u]))) x xs := fun {x xs} h => tup_upd ((upd_ne nu).trans hCa) h
        by_cases q0 : j < ps.length
        · rw [List.getElem?_append_left q0] at h1
          exact tk (Same.tup su (hrows j q r' h1 h2))
        · have hj : j = ps.length := by
            have := (List.getElem?_eq_some_iff.mp h1).1
            rw [List.length_append, List.length_singleton] at this
            omega
          subst hj
          rw [List.getElem?_concat_length] at h1
          rw [hpl, hr] at h2
          cases h1; cases h2
          exact tk tup_at
      · rintro H5 ⟨ps, s5, hC5, hpl, hrows⟩
        rw [List.length_map] at hpl
        have d5 := d4.same s5
        refine k H5 C ps rows d5.b ?_ hC5 ⟨by omega, fun i q xs h1 h2 => ⟨hrows i q xs h1 h2, ?_, ?_⟩⟩ hrlen (drawn_good hTI (by omega) hdl d5.rel) d5.rc
        · exact d5.P.mono (by push_cast; omega)
        · exact (d5.rc xs (List.mem_of_getElem? h2)).rv
        · exact (d5.rc xs (List.mem_of_getElem? h2)).fl
end
end K1
end
section
set_option maxRecDepth 100000
set_option maxHeartbeats 4000000
namespace K1
open PySem PyProof.Rows L2 K01
theorem le1000 {m : Nat} (h : m ≤ 1000) : m ≤ sizeLine := Nat.le_of_lt (small1000 h)
theorem seq_if_gen {t : TT} {a b r : TS} {D : Ends} {σ : L2.St} {H : Hp} (A B : Hp → Prop) (ht : ∀ A' B' : Hp → Prop, (∀ H', A H' → A' H') → (∀ H', B H' → B' H') → t σ H (fun k H' => if k = true then A' H' else B' H'))
    (ha : ∀ H', A H' → a { D with nx := r D } σ H') (hb : ∀ H', B H' → b { D with nx := r D } σ H') : tSeq (tIfS t a b) r D σ H := ht _ _ ha hb
theorem cut_neg1 (xs : List V) : cutV xs none (some (-1)) = xs.take (xs.length - 1) := by
  unfold cutV
  have h0 : HT.sIx xs.length 0 none = 0 := rfl
  have h1 : HT.sIx xs.length xs.length (some (-1)) = xs.length - 1 := by
    show (if (-1 : Int) < 0 then ((-1 : Int) + (xs.length : Int)).toNat else min ((-1 : Int)).toNat xs.length) = xs.length - 1
    rw [if_pos (by decide)]
    omega
  rw [h0, h1, List.drop_zero, Nat.sub_zero]
theorem asc_nm : AscZ "no mark" := by
  unfold AscZ
  decide +kernel
theorem asc_1 : AscZ "1" := by
  unfold AscZ
  decide +kernel
theorem asc_2 : AscZ "2" := by
  unfold AscZ
  decide +kernel
/-- flat, and ascii where it is a text -/
def FA (x : V) : Prop := Flat x ∧ ∀ z, x = .str z → AscZ z
theorem FA.int {i : Int} : FA (.int i) := ⟨.int i, fun z q => nomatch q⟩
theorem FA.bl {b : Bool} : FA (.bl b) := ⟨.bl b, fun z q => nomatch q⟩
theorem FA.non : FA .non := ⟨.non, fun z q => nomatch q⟩
theorem FA.str {z : Str} (h : AscZ z) : FA (.str z) := ⟨.str z, fun w q => by cases q; exact h⟩
def TipAt (K : PySem.W.Frag) (H : Hp) (q : Addr) : Prop := ∃ x y, SqT K H q [x, y] ∧ FA x ∧ FA y
def CandAt (K : PySem.W.Frag) (H : Hp) (q : Addr) : Prop := ∃ rest, SqT K H q (.str "ask" :: rest) ∧ (∀ x ∈ rest, FA x) ∧ rest.length ≤ 7
theorem TipAt.same {K : PySem.W.Frag} {H H' : Hp} {q : Addr} (s : Same H H') (h : TipAt K H q) : TipAt K H' q := by
  obtain ⟨x, y, h1, h2⟩ := h
  exact ⟨x, y, Same.tup s h1, h2⟩
theorem CandAt.same {K : PySem.W.Frag} {H H' : Hp} {q : Addr} (s : Same H H') (h : CandAt K H q) : CandAt K H' q := by
  obtain ⟨x, h1, h2⟩ := h
  exact ⟨x, Same.tup s h1, h2⟩
theorem candC {K : PySem.W.Frag} {H : Hp} {rest : List V} (h : ∀ x ∈ rest, FA x) (hl : rest.length ≤ 7) : RowC K H (.str "ask" :: rest) := by
  have fl : ∀ x ∈ V.str "ask" :: rest, Flat x := fun x hx => by
    rcases List.mem_cons.mp hx with q | q
    · rw [q]; exact .str _
    · exact (h x q).1
  refine ⟨⟨_, _, rfl⟩, fun x hx => .flat (fl x hx), fun z hz => ?_, by rw [List.length_cons]; omega, fun _ => fl⟩
  rcases List.mem_cons.mp hz with q | q
  · cases q; exact asc_ask
  · exact (h _ q).2 z rfl
theorem RowsAt2.take {K : PySem.W.Frag} {H : Hp} {ps : List Addr} {rows : List (List V)} (h : RowsAt2 K H ps rows) (n : Nat) : RowsAt2 K H (ps.take n) (rows.take n) :=
  ⟨by rw [List.length_take, List.length_take, h.len], fun i p xs h1 h2 => by
    rw [List.getElem?_take] at h1 h2
    by_cases q : i < n
    · rw [if_pos q] at h1 h2; exact h.row i p xs h1 h2
    · rw [if_neg q] at h1; cases h1⟩
theorem RowsAt2.drop {K : PySem.W.Frag} {H : Hp} {ps : List Addr} {rows : List (List V)} (h : RowsAt2 K H ps rows) (n : Nat) : RowsAt2 K H (ps.drop n) (rows.drop n) :=
  ⟨by rw [List.length_drop, List.length_drop, h.len], fun i p xs h1 h2 => by
    rw [List.getElem?_drop] at h1 h2
    exact h.row _ p xs h1 h2⟩
theorem RowsAt2.append {K : PySem.W.Frag} {H : Hp} {ps qs : List Addr} {rows r2 : List (List V)} (h : RowsAt2 K H ps rows) (g : RowsAt2 K H qs r2) : RowsAt2 K H (ps ++ qs) (rows ++ r2) :=
  ⟨by rw [List.length_append, List.length_append, h.len, g.len], fun i p xs h1 h2 => by
    rw [List.getElem?_append] at h1 h2
    rw [h.len] at h1
    by_cases q : i < rows.length
    · rw [if_pos q] at h1 h2; exact h.row i p xs h1 h2
    · rw [if_neg q] at h1 h2; exact g.row _ p xs h1 h2⟩
theorem RowsAt2.one {K : PySem.W.Frag} {H : Hp} {q : Addr} {r : List V} (h : SqT K H q r) (c : RowC K H r) : RowsAt2 K H [q] [r] :=
  ⟨rfl, fun i p xs h1 h2 => by
    cases i with
    | zero => cases h1; cases h2; exact ⟨h, c.rv, c.fl⟩
    | succ i => cases h1⟩
theorem RowsAt2.nil {K : PySem.W.Frag} {H : Hp} : RowsAt2 K H [] [] := ⟨rfl, fun i p xs h => nomatch h⟩
theorem RowsAt2.set {K : PySem.W.Frag} {H : Hp} {ps : List Addr} {rows : List (List V)} (h : RowsAt2 K H ps rows) {j : Nat} {q : Addr} {r : List V} (g : SqT K H q r) (c : RowC K H r) : RowsAt2 K H (ps.set j q) (rows.set j r) :=
  ⟨by rw [List.length_set, List.length_set, h.len], fun i p xs h1 h2 => by
    rw [List.getElem?_set] at h1 h2
    by_cases e : j = i
    · rw [if_pos e] at h1 h2
      by_cases e2 : j < rows.length
      · rw [if_pos e2] at h2
        rw [if_pos (by rw [h.len]; exact e2)] at h1
        cases h1; cases h2
        exact ⟨g, c.rv, c.fl⟩
      · rw [if_neg e2] at h2; cases h2
    · rw [if_neg e] at h1 h2; exact h.row i p xs h1 h2⟩
/-- what may come out -/
def OutAt (K : PySem.W.Frag) (n : Nat) (H : Hp) (l : Addr) : Prop := ∃ (ps : List Addr) (rows : List (List V)), H l = some (.lst (ps.map V.ref)) ∧ RowsAt2 K H ps rows ∧ rows.length ≤ n + 1 ∧ ∀ r ∈ rows, RowC K H r
theorem OutAt.same {K : PySem.W.Frag} {n : Nat} {H H' : Hp} {l : Addr} (s : Same H H') (h : OutAt K n H l) : OutAt K n H' l := by
  obtain ⟨ps, rows, h1, h2, h3, h4⟩ := h
  exact ⟨ps, rows, s _ _ h1, h2.same s, h3, fun r hr => (h4 r hr).imp fun _ _ q => Same.tup s q⟩
theorem OutAt.hoist {K : PySem.W.Frag} {n : Nat} {H H' : Hp} {l p : Addr} {z : Int} (P : PitAt H p z) (nl : l ≠ p) (b : But p H H') (h : OutAt K n H l) : OutAt K n H' l := by
  obtain ⟨ps, rows, h1, h2, h3, h4⟩ := h
  exact ⟨ps, rows, b _ _ nl h1, h2.imp fun _ _ q => P.tup b q, h3, fun r hr => (h4 r hr).imp fun _ _ q => P.tup b q⟩
/-- the heap as a tree is spoilt: its rows in L, its asks in A -/
structure SB (K : PySem.W.Frag) (H0 : Hp) (p : Addr) (H : Hp) (z : Int) (L A : Addr) (ps : List Addr) (rows : List (List V)) (as : List Nat) : Prop where
  b : But p H0 H
  P : PitAt H p z
  hL : H L = some (.lst (ps.map V.ref))
  nL : H0 L = none
  hA : H A = some (.lst (as.map fun (n : Nat) => V.int n))
  nA : H0 A = none
  hT : RowsAt2 K H ps rows
  hC : ∀ r ∈ rows, RowC K H r
theorem SB.same {K : PySem.W.Frag} {H0 H H' : Hp} {p L A : Addr} {z : Int} {ps : List Addr} {rows : List (List V)} {as : List Nat} (h : SB K H0 p H z L A ps rows as) (s : Same H H') : SB K H0 p H' z L A ps rows as :=
  ⟨h.b.trans (Same.but s), h.P.same s, s _ _ h.hL, h.nL, s _ _ h.hA, h.nA, h.hT.same s, fun r hr => (h.hC r hr).imp fun _ _ q => Same.tup s q⟩
theorem SB.hoist {K : PySem.W.Frag} {H0 H H' : Hp} {p L A : Addr} {z z' z0 : Int} {ps : List Addr} {rows : List (List V)} {as : List Nat} (P0 : PitAt H0 p z0) (h : SB K H0 p H z L A ps rows as) (b : But p H H') (P : PitAt H' p z') : SB K H0 p H' z' L A ps rows as :=
  ⟨h.b.trans b, P, b _ _ (P0.ne h.nL) h.hL, h.nL, b _ _ (P0.ne h.nA) h.hA, h.nA, h.hT.imp fun _ _ q => h.P.tup b q, fun r hr => (h.hC r hr).imp fun _ _ q => h.P.tup b q⟩
theorem SB.fresh {K : PySem.W.Frag} {H0 H : Hp} {p L A : Addr} {z : Int} {ps : List Addr} {rows : List (List V)} {as : List Nat} (h : SB K H0 p H z L A ps rows as) {a : Addr} (ha : H a = none) : H0 a = none ∧ a ≠ p := by
  have hp := h.P.ne ha
  refine ⟨?_, hp⟩
  cases e : H0 a with
  | none => rfl
  | some o =>
    have := h.b a o hp e
    rw [ha] at this; cases this
section
variable {P : Program} {w : World} {K : PySem.W.Frag} {mg : Str → Option Value} {base : Heap}
abbrev sST : Stmt := top 67
abbrev tT2 (K : PySem.W.Frag) : TT := tAnd (tTest (tOp rEq (tOp (rIxT K) (tOp (rIxL K) (tVar 2) (tVar 4)) (tC (.int 0))) (tC (.str "ask"))))
  (tTest (tOp rEq (tCB (fun xs H Q => ∃ p ys, xs = [.ref p] ∧ (SqL K H p ys ∨ SqT K H p ys) ∧ Q (.int ys.length) H) (tCons (tOp (rIxL K) (tVar 2) (tVar 4)) tNil)) (tC (.int 6))))
def spST (K : PySem.W.Frag) : Sp := fun vs H Q _ => ∃ (p t : Addr) (ps : List Addr) (rows : List (List V)) (z : Int), vs = [.ref p, .ref t] ∧ PitAt H p z ∧ z ≤ 800000 ∧ H t = some (.lst (ps.map V.ref)) ∧ RowsAt2 K H ps rows ∧ (∀ r ∈ rows, RowC K H r) ∧ 0 < rows.length ∧ rows.length ≤ 800 ∧
  ∀ H' t' ps' rows', But p H H' → PitAt H' p (z + 3) → H' t' = some (.lst (ps'.map V.ref)) → RowsAt2 K H' ps' rows' → rows'.length ≤ rows.length + 1 → (∀ r ∈ rows', RowC K H' r) → Q (.ref t') H'
abbrev nsST : List Str := ["pit", "tr", "rows", "asks", "k", "way", "j", "row", "tips", "some", "tip"]
theorem scST : FnScope nsST ["pit", "tr"] (defScope sST) := ⟨rfl, rfl, rfl, by decide +kernel, rfl, by decide +kernel, by decide +kernel⟩
theorem ok_st {f fH : Addr} {fd fdH : FuncData} (F : Fun K "_law_spoilt_tree" "_law_spoilt_tree" sST f fd) (T : Bi mg) (FH : Fun K "_law_hoist" "_law_hoist" sHoist fH fdH) (bH : Binds K fdH ["pit", "below"] []) (mH : mg "_law_hoist" = some (.ref fH)) :
    FnOk P w K mg base CX0 2 f fd ["pit", "tr"] (spST K) := by
  have GH : FnOk P w K mg base CX0 1 fH fdH ["pit", "below"] (spHoist K) := ok_hoist FH T
  refine F.ok scST (fun vs H Q E h => ?_) (fun cdv A outer s H vs Q E hr h => ?_)
  · obtain ⟨_, _, _, _, _, rfl, _⟩ := h
    rfl
  · obtain ⟨p, t, ps, rows, z, rfl, hp, hz, ht, hT, hC, h0, hrl, k⟩ := h
    refine ⟨_, pss_cons (ps_set (i := 2) scST.nd rfl (.inr rfl) (pe_callTy call_list_of (by rfl) T.list (by decide +kernel) (pa_cons (pv 1) pa_nil)))
      (pss_cons (ps_setLc (i := 3) (own := [("k", 4)]) (g := gName 4) (tt := tT2 K) rfl scST.nd rfl rfl rfl (pi_range1 (by rfl) T.range (pa_cons (pe_callB call_len_seq (by rfl) T.len PySem.boot_len (pa_cons (pv 2) pa_nil)) pa_nil)) (blkOk_by (N := nsST) (sc := defScope sST) (by decide +kernel))
        (fun _ _ _ _ _ => pg_name (i := 4) scST.nd rfl (.inl rfl)) (fun _ _ _ _ _ => pts_one (PW.pt (pw_and (pt_cmpR op_eq (pe_ix ix_tup (pe_ix ix_list (pv 2) (pv 4) (fun _ _ => rfl)) pe_int (fun _ _ => rfl)) pe_str (nomark _)) (pw_and1 (pt_cmpR op_eq (pe_callB call_len_seq (by rfl) T.len PySem.boot_len (pa_cons (pe_ix ix_list (pv 2) (pv 4) (fun _ _ => rfl)) pa_nil)) pe_int (nomark _)))))) (fun _ _ _ _ _ => (pv 4)))
      (pss_cons (ps_par (i := 4) (j := 5) rfl scST.nd rfl rfl (by decide) rfl rfl (pa_cons (pe_call GH hr rfl mH FH.kp bH .nil pass0 (pa_cons (pv 0) (pa_cons (pe_callB call_len_seq (by rfl) T.len PySem.boot_len (pa_cons (pv 2) pa_nil)) pa_nil))) (pa_cons (pe_call GH hr rfl mH FH.kp bH .nil pass0 (pa_cons (pv 0) (pa_cons pe_int pa_nil))) pa_nil)) rfl)
      (pss_cons (ps_if (PW.pt (pw_or (pt_cmpR (op_eqD hr.units) (pv 3) (pe_lst pa_nil) (nomark _)) (pw_or1 (pt_cmpR op_gt (pv 5) pe_int (nomark _))))) (pss_one (ps_ret (pe_ix ix_list (pe_lst (pa_cons (pe_slice sl_list (pv 2) po_none (po_some (pe_un un_neg pe_int))) (pa_cons (pe_op op_cat (pv 2) (pe_lst (pa_cons (pe_tup (pa_cons pe_str (pa_cons pe_int pa_nil))) pa_nil))) (pa_cons (pe_lst pa_nil) (pa_cons (pe_op op_cat (pe_op op_cat (pe_slice sl_list (pv 2) po_none (po_some (pv 4))) (pe_lst (pa_cons (pe_tup (pa_cons pe_str (pa_cons pe_int pa_nil))) pa_nil))) (pe_slice sl_list (pv 2) (po_some (pv 4)) po_none)) pa_nil))))) (pe_call GH hr rfl mH FH.kp bH .nil pass0 (pa_cons (pv 0) (pa_cons pe_int pa_nil))) (fun _ _ => rfl)))) pss_nil)
      (pss_cons (ps_set (i := 6) scST.nd rfl (.inl rfl) (pe_ix ix_list (pv 3) (pe_call GH hr rfl mH FH.kp bH .nil pass0 (pa_cons (pv 0) (pa_cons (pe_callB call_len_seq (by rfl) T.len PySem.boot_len (pa_cons (pv 3) pa_nil)) pa_nil))) (fun _ _ => rfl)))
      (pss_cons (ps_set (i := 7) scST.nd rfl (.inr rfl) (pe_ix ix_list (pv 2) (pv 6) (fun _ _ => rfl)))
      (pss_cons (ps_set (i := 8) scST.nd rfl (.inl rfl) (pe_lst (pa_cons (pe_tup (pa_cons (pe_ix ix_tup (pv 7) pe_int (fun _ _ => rfl)) (pa_cons (pe_ix ix_tup (pv 7) pe_int (fun _ _ => rfl)) pa_nil))) (pa_cons (pe_tup (pa_cons (pe_ix ix_tup (pv 7) pe_int (fun _ _ => rfl)) (pa_cons (pe_ix ix_tup (pv 7) pe_int (fun _ _ => rfl)) pa_nil))) (pa_cons (pe_tup (pa_cons (pv 6) (pa_cons (pe_ix ix_tup (pv 7) pe_int (fun _ _ => rfl)) pa_nil))) (pa_cons (pe_tup (pa_cons (pe_ix ix_tup (pv 7) pe_int (fun _ _ => rfl)) (pa_cons (pe_callB call_len_seq (by rfl) T.len PySem.boot_len (pa_cons (pv 2) pa_nil)) pa_nil))) (pa_cons (pe_tup (pa_cons pe_int (pa_cons (pe_ix ix_tup (pv 7) pe_int (fun _ _ => rfl)) pa_nil))) pa_nil)))))))
      (pss_cons (ps_set (i := 8) scST.nd rfl (.inl rfl) (pe_op op_cat (pv 8) (pe_lst (pa_cons (pe_tup (pa_cons pe_str (pa_cons (pe_ix ix_tup (pv 7) pe_int (fun _ _ => rfl)) pa_nil))) (pa_cons (pe_tup (pa_cons (pe_ix ix_tup (pv 7) pe_int (fun _ _ => rfl)) (pa_cons (pe_un un_neg pe_int) pa_nil))) (pa_cons (pe_tup (pa_cons (pe_ix ix_tup (pv 7) pe_int (fun _ _ => rfl)) (pa_cons pe_non pa_nil))) (pa_cons (pe_tup (pa_cons pe_bl (pa_cons (pe_ix ix_tup (pv 7) pe_int (fun _ _ => rfl)) pa_nil))) pa_nil)))))))
      (pss_cons (ps_set (i := 9) scST.nd rfl (.inl rfl) (pe_op op_cat (pe_lc (own := [("tip", 10)]) (g := gName 10) (te := tOp (rCatA K) (tSl (rSlA K) (tVar 7) tNoPart (tPart (tC (.int 4)))) (tVar 10)) rfl scST.nd (pi_list (pv 8)) (blkOk_by (N := nsST) (sc := defScope sST) (by decide +kernel))
        (fun _ _ _ _ _ => pg_name (i := 10) scST.nd rfl (.inl rfl)) (fun _ _ _ _ _ => pts_nil) (fun _ _ _ _ _ => (pe_op op_catA (pe_slice sl_tupA (pv 7) po_none (po_some pe_int)) (pv 10)))) (pe_lst (pa_cons (pe_op op_catA (pe_op op_catA (pe_slice sl_tupA (pv 7) po_none (po_some pe_int)) (pe_tup (pa_cons (pe_ix ix_tup (pv 7) pe_int (fun _ _ => rfl)) (pa_cons (pe_ix ix_tup (pv 7) pe_int (fun _ _ => rfl)) pa_nil)))) (pe_slice sl_tupA (pv 7) (po_some pe_int) po_none)) (pa_cons (pe_slice sl_tupA (pv 7) po_none (po_some pe_int)) pa_nil)))))
      (pss_cons (ps_set (i := 9) scST.nd rfl (.inl rfl) (pe_op op_cat (pv 9) (pe_lst (pa_cons (pe_op op_catA (pe_op op_catA (pe_slice sl_tupA (pv 7) po_none (po_some pe_int)) (pe_tup (pa_cons pe_str pa_nil))) (pe_slice sl_tupA (pv 7) (po_some pe_int) po_none)) (pa_cons (pe_op op_catA (pe_op op_catA (pe_slice sl_tupA (pv 7) po_none (po_some pe_int)) (pe_tup (pa_cons pe_str pa_nil))) (pe_slice sl_tupA (pv 7) (po_some pe_int) po_none)) (pa_cons (pe_op op_catA (pv 7) (pe_tup (pa_cons pe_int pa_nil))) pa_nil))))))
      (pss_cons (ps_set (i := 9) scST.nd rfl (.inl rfl) (pe_op op_cat (pv 9) (pe_lst (pa_cons (pe_op op_catA (pe_op op_catA (pe_slice sl_tupA (pv 7) po_none (po_some pe_int)) (pe_tup (pa_cons pe_bl pa_nil))) (pe_slice sl_tupA (pv 7) (po_some pe_int) po_none)) (pa_cons (pe_op op_catA (pe_op op_catA (pe_slice sl_tupA (pv 7) po_none (po_some pe_int)) (pe_tup (pa_cons pe_str pa_nil))) (pe_slice sl_tupA (pv 7) (po_some pe_int) po_none)) pa_nil)))))
      (pss_cons (ps_expr (pe_bm PySem.F.plainAttrs_list PySem.F.slot_list_append PySem.F.type_list_append mt_append (pv 9) (pa_cons (pe_op op_catA (pe_slice sl_tupA (pv 7) po_none (po_some pe_int)) (pe_tup (pa_cons (pe_ix ix_tup (pv 7) pe_int (fun _ _ => rfl)) (pa_cons (pe_ix ix_tup (pe_ix ix_list (pv 2) (pe_ix ix_list (pv 3) pe_int (fun _ _ => rfl)) (fun _ _ => rfl)) pe_int (fun _ _ => rfl)) pa_nil)))) pa_nil)))
      (pss_cons (ps_asg (pe_ix ix_list (pv 9) (pv 5) (fun _ _ => rfl)) (pg_sub (pv 2) (pv 6) set_list))
      (pss_one (ps_ret (pv 2))))))))))))))), ?_⟩
    have hpl : ps.length = rows.length := hT.len
    refine ⟨_, rfl, t, _, rfl, .inl (SqL.of ht), fun L hL => ?_⟩
    have nL : H L = none := hL
    have s1 : Same H (upd H L (.lst (ps.map V.ref))) := Same.new hL
    have hLL : (upd H L (.lst (ps.map V.ref))) L = some (.lst (ps.map V.ref)) := upd_same
    generalize upd H L (.lst (ps.map V.ref)) = H1 at s1 hLL
    refine ⟨_, rfl, L, _, rfl, .inl (SqL.of hLL), ?_⟩
    rw [List.length_map, hpl]
    refine ⟨_, rfl, by omega, by omega, fun A hA => ?_⟩
    have nA : H A = none := s1.free hA
    rw [Int.toNat_natCast]
    refine lc_it (walk_r0 (n := rows.length)) (fun i H' => ∃ as : List Nat, Same H1 H' ∧ H' A = some (.lst (as.map fun (n : Nat) => V.int n)) ∧ as.length ≤ i ∧ ∀ a ∈ as, ∃ b c d e f, rows[a]? = some [.str "ask", b, c, d, e, f])
      ⟨[], Same.new hA, upd_same, Nat.le_refl _, fun a h => nomatch h⟩ (fun _ _ _ _ => trivial) ?_ ?_
    · rintro i v Ha Hb hi ⟨as, sa, hAa, hal, has⟩ ⟨rfl, rfl⟩
      obtain ⟨pf, hpf⟩ : ∃ pf, ps[i]? = some pf := ⟨_, List.getElem?_eq_getElem (by omega)⟩
      obtain ⟨r, hr⟩ : ∃ r, rows[i]? = some r := ⟨_, List.getElem?_eq_getElem hi⟩
      obtain ⟨q1, q2, q3⟩ := (hT.same (s1.trans sa)).row i pf r hpf hr
      obtain ⟨z0, rest, er⟩ := (hC r (List.mem_of_getElem? hr)).hd
      have hL2 := sa _ _ hLL
      have hat : atI (ps.map V.ref) (i : Nat) = some (.ref pf) := atI_nat (by rw [List.getElem?_map, hpf]; rfl)
      refine ⟨rfl, ?_⟩
      refine ⟨_, rfl, _, rfl, L, _, _, _, rfl, rfl, SqL.of hL2, hat, pf, _, _, _, rfl, rfl, q1, at_of (j := 0) rfl (by rw [er]; rfl), rfl, _, rfl, ?_⟩
      by_cases ea : z0 = "ask"
      · refine iteDT (by rw [ea]) ?_
        refine ⟨_, rfl, _, rfl, L, _, _, _, rfl, rfl, SqL.of hL2, hat, pf, _, rfl, .inr q1, rfl, _, rfl, ?_⟩
        by_cases e6 : r.length = 6
        · refine iteDT (by rw [e6]; rfl) ?_
          have hA1 : H1 A = none := hA
          refine ⟨_, rfl, _, hAa, by rw [List.length_map]; exact Nat.lt_of_lt_of_le (show as.length < 1000 by omega) (small1000 (by omega)), as ++ [i], Same.set sa hA1, by rw [upd_same, List.map_append]; rfl, by rw [List.length_append, List.length_singleton]; omega, fun a ha => ?_⟩
          rcases List.mem_append.mp ha with ha | ha
          · exact has a ha
          · rw [List.mem_singleton] at ha
            subst ha
            rw [hr, er, ea]
            rw [er] at e6
            match rest, e6 with
            | [b, c, d, e, f], _ => exact ⟨b, c, d, e, f, rfl⟩
        · refine iteDF (fun q => e6 (by have := V.int.inj q; omega)) ?_
          exact ⟨as, sa, hAa, by omega, has⟩
      · refine iteDF (fun q => ea (V.str.inj q)) ?_
        exact iteF ⟨as, sa, hAa, by omega, has⟩
    · rintro H2 ⟨as, s2, hAA, hal, has⟩
      have s12 := s1.trans s2
      have B2 : SB K H p H2 z L A ps rows as := ⟨Same.but s12, hp.same s12, s2 _ _ hLL, nL, hAA, nA, hT.same s12, fun r hr => (hC r hr).imp fun _ _ q => Same.tup s12 q⟩
      refine ⟨_, rfl, _, rfl, L, _, rfl, .inl (SqL.of B2.hL), p, _, _, rfl, B2.P, by omega, by rw [List.length_map]; omega, by rw [List.length_map]; omega, fun H3 dk b3 P3 l3 u3 => ?_⟩
      rw [List.length_map, hpl] at u3
      have B3 := B2.hoist hp b3 P3
      obtain ⟨kn, rfl⟩ := Int.eq_ofNat_of_zero_le l3
      refine ⟨_, rfl, p, _, _, rfl, B3.P, by omega, by omega, by omega, fun H4 dw b4 P4 l4 u4 => ⟨_, _, rfl, ?_⟩⟩
      have B4 := B3.hoist hp b4 P4
      obtain ⟨wn, rfl⟩ := Int.eq_ofNat_of_zero_le l4
      dsimp only []
      refine seq_if_gen (fun H5 => SB K H p H5 (z + 1 + 1) L A ps rows as) (fun H5 => SB K H p H5 (z + 1 + 1) L A ps rows as ∧ as ≠ [] ∧ wn ≤ 16) (fun A' B' hA' hB' => ?_) (fun H5 B5 => ?_) (fun H5 B5 => ?_)
      · refine ⟨_, rfl, by show 0 ≤ sizeLine; decide, fun e he => ?_⟩
        have B5 := B4.same (Same.new (o := .lst []) he)
        have hee : (upd H4 e (.lst [])) e = some (.lst []) := upd_same
        generalize upd H4 e (.lst []) = H5 at B5 hee
        refine ⟨_, .list [], .lst (SqL.of B5.hA) (flats_dp fun v hv => ?_), .lst (SqL.of hee) .nil, (Lv.list (n := 0) fun dd hdd => ?_).shaped (by decide), shaped_nil, _, rfl, ?_⟩
        · obtain ⟨x, _, rfl⟩ := List.mem_map.mp hv
          exact .int _
        · obtain ⟨v, hv, rfl⟩ := List.mem_map.mp hdd
          obtain ⟨x, _, rfl⟩ := List.mem_map.mp hv
          exact Lv.int _
        · rw [eqv_nil]
          cases has0 : as with
          | nil => 
            exact iteT (iteT (hA' _ B5))
          | cons a0 ar =>
            refine iteF ?_
            refine ⟨_, rfl, _, _, rfl, rfl, _, rfl, ?_⟩
            by_cases hw : 16 < wn
            · exact iteDT (by omega) (iteT (B := B' H5) (hA' _ B5))
            · exact iteDF (by omega) (iteF (A := A' H5) (hB' _ ⟨B5, by rw [has0]; simp, by omega⟩))
      · refine ⟨_, rfl, _, rfl, _, rfl, L, _, rfl, SqL.of B5.hL, fun l1 h1 => ?_⟩
        have e1 : Same H5 (upd H5 l1 (.lst (cutV (ps.map V.ref) none (some (-1))))) := Same.new h1
        have v1 : (upd H5 l1 (.lst (cutV (ps.map V.ref) none (some (-1))))) l1 = some (.lst (cutV (ps.map V.ref) none (some (-1)))) := upd_same
        generalize upd H5 l1 (.lst (cutV (ps.map V.ref) none (some (-1)))) = G1 at e1 v1
        have B51 := B5.same e1
        have n1 := B5.fresh h1
        have o1 : OutAt K rows.length G1 l1 := ⟨ps.take (ps.length - 1), rows.take (ps.length - 1), by rw [v1, cut_neg1, List.length_map, List.map_take], B51.hT.take _, by rw [List.length_take]; omega, fun r hr => B51.hC r (List.mem_of_mem_take hr)⟩
        refine ⟨_, rfl, by show 2 ≤ sizeLine; decide, fun q2 hq2 => ⟨by show 1 ≤ sizeLine; decide, fun l2 h2 => ?_⟩⟩
        have e2 : Same G1 (upd G1 q2 (.tup [.str "leaf", .int 0])) := Same.new hq2
        have vq2 : SqT K (upd G1 q2 (.tup [.str "leaf", .int 0])) q2 [.str "leaf", .int 0] := tup_at
        generalize upd G1 q2 (.tup [.str "leaf", .int 0]) = G2 at e2 vq2 h2
        have e3 : Same G2 (upd G2 l2 (.lst [.ref q2])) := Same.new h2
        have v2 : (upd G2 l2 (.lst [.ref q2])) l2 = some (.lst [.ref q2]) := upd_same
        generalize upd G2 l2 (.lst [.ref q2]) = G3 at e3 v2
        have B53 := B51.same (e2.trans e3)
        refine ⟨L, l2, _, _, rfl, rfl, B53.hL, v2, by rw [List.length_map]; exact le1000 (show ps.length + 1 ≤ 1000 by omega), fun l3 h3 => ?_⟩
        have e4 : Same G3 (upd G3 l3 (.lst (ps.map V.ref ++ [.ref q2]))) := Same.new h3
        have v3 : (upd G3 l3 (.lst (ps.map V.ref ++ [.ref q2]))) l3 = some (.lst (ps.map V.ref ++ [.ref q2])) := upd_same
        generalize upd G3 l3 (.lst (ps.map V.ref ++ [.ref q2])) = G4 at e4 v3
        have n3 := B53.fresh h3
        have B54 := B53.same e4
        have leafC0 : ∀ {H' : Hp} {i : Int}, RowC K H' [.str "leaf", .int i] := fun {H' i} => leafC asc_leaf (.flat (.int _)) (fun z q => by cases q)
        have o3 : OutAt K rows.length G4 l3 := ⟨ps ++ [q2], rows ++ [[.str "leaf", .int 0]], by rw [v3, List.map_append]; rfl, B54.hT.append (.one (Same.tup (e3.trans e4) vq2) leafC0), by rw [List.length_append, List.length_singleton]; omega, fun r hr => by
          rcases List.mem_append.mp hr with hr | hr
          · exact B54.hC r hr
          · rw [List.mem_singleton] at hr; rw [hr]; exact leafC0⟩
        refine ⟨by show 0 ≤ sizeLine; decide, fun l4 h4 => ?_⟩
        have e5 : Same G4 (upd G4 l4 (.lst [])) := Same.new h4
        have v4 : (upd G4 l4 (.lst [])) l4 = some (.lst []) := upd_same
        generalize upd G4 l4 (.lst []) = G5 at e5 v4
        have n4 := B54.fresh h4
        have B55 := B54.same e5
        have o4 : OutAt K rows.length G5 l4 := ⟨[], [], v4, .nil, Nat.zero_le _, fun r hr => nomatch hr⟩
        refine ⟨_, rfl, _, rfl, _, rfl, L, _, rfl, SqL.of B55.hL, fun l5 h5 => ?_⟩
        have e6 : Same G5 (upd G5 l5 (.lst (cutV (ps.map V.ref) none (some (kn : Int))))) := Same.new h5
        have v5 : (upd G5 l5 (.lst (cutV (ps.map V.ref) none (some (kn : Int))))) l5 = some (.lst ((ps.take kn).map V.ref)) := by rw [upd_same, cut_take, List.map_take]
        generalize upd G5 l5 (.lst (cutV (ps.map V.ref) none (some (kn : Int)))) = G6 at e6 v5
        refine ⟨by show 2 ≤ sizeLine; decide, fun q6 hq6 => ⟨by show 1 ≤ sizeLine; decide, fun l6 h6 => ?_⟩⟩
        have e7 : Same G6 (upd G6 q6 (.tup [.str "leaf", .int 7])) := Same.new hq6
        have vq6 : SqT K (upd G6 q6 (.tup [.str "leaf", .int 7])) q6 [.str "leaf", .int 7] := tup_at
        generalize upd G6 q6 (.tup [.str "leaf", .int 7]) = G7 at e7 vq6 h6
        have e8 : Same G7 (upd G7 l6 (.lst [.ref q6])) := Same.new h6
        have v6 : (upd G7 l6 (.lst [.ref q6])) l6 = some (.lst [.ref q6]) := upd_same
        generalize upd G7 l6 (.lst [.ref q6]) = G8 at e8 v6
        refine ⟨l5, l6, _, _, rfl, rfl, (e7.trans e8) _ _ v5, v6, by rw [List.length_map, List.length_take]; exact le1000 (show min kn ps.length + 1 ≤ 1000 by omega), fun l7 h7 => ?_⟩
        have e9 : Same G8 (upd G8 l7 (.lst ((ps.take kn).map V.ref ++ [.ref q6]))) := Same.new h7
        have v7 : (upd G8 l7 (.lst ((ps.take kn).map V.ref ++ [.ref q6]))) l7 = some (.lst ((ps.take kn).map V.ref ++ [.ref q6])) := upd_same
        generalize upd G8 l7 (.lst ((ps.take kn).map V.ref ++ [.ref q6])) = G9 at e9 v7
        have s59 := (((e6.trans e7).trans e8).trans e9)
        have B59 := B55.same s59
        refine ⟨_, rfl, _, rfl, _, rfl, L, _, rfl, SqL.of B59.hL, fun l8 h8 => ?_⟩
        have e10 : Same G9 (upd G9 l8 (.lst (cutV (ps.map V.ref) (some (kn : Int)) none))) := Same.new h8
        have v8 : (upd G9 l8 (.lst (cutV (ps.map V.ref) (some (kn : Int)) none))) l8 = some (.lst ((ps.drop kn).map V.ref)) := by rw [upd_same, cut_drop, List.map_drop]
        generalize upd G9 l8 (.lst (cutV (ps.map V.ref) (some (kn : Int)) none)) = G10 at e10 v8
        refine ⟨l7, l8, _, _, rfl, rfl, e10 _ _ v7, v8, by rw [List.length_append, List.length_map, List.length_map, List.length_take, List.length_drop]; exact le1000 (show min kn ps.length + 1 + (ps.length - kn) ≤ 1000 by omega), fun l9 h9 => ?_⟩
        have e11 : Same G10 (upd G10 l9 (.lst ((ps.take kn).map V.ref ++ [.ref q6] ++ (ps.drop kn).map V.ref))) := Same.new h9
        have v9 : (upd G10 l9 (.lst ((ps.take kn).map V.ref ++ [.ref q6] ++ (ps.drop kn).map V.ref))) l9 = some (.lst ((ps.take kn ++ [q6] ++ ps.drop kn).map V.ref)) := by rw [upd_same, List.map_append, List.map_append]; rfl
        generalize upd G10 l9 (.lst ((ps.take kn).map V.ref ++ [.ref q6] ++ (ps.drop kn).map V.ref)) = G11 at e11 v9
        have n9 := (B59.same e10).fresh h9
        have B61 := B59.same (e10.trans e11)
        have o9 : OutAt K rows.length G11 l9 := ⟨_, rows.take kn ++ [[.str "leaf", .int 7]] ++ rows.drop kn, v9, ((B61.hT.take kn).append (.one (Same.tup (((e8.trans e9).trans e10).trans e11) vq6) leafC0)).append (B61.hT.drop kn), by
            rw [List.length_append, List.length_append, List.length_singleton, List.length_take, List.length_drop]; omega, fun r hr => by
          rcases List.mem_append.mp hr with hr | hr
          · rcases List.mem_append.mp hr with hr | hr
            · exact B61.hC r (List.mem_of_mem_take hr)
            · rw [List.mem_singleton] at hr; rw [hr]; exact leafC0
          · exact B61.hC r (List.mem_of_mem_drop hr)⟩
        refine ⟨by show 4 ≤ sizeLine; decide, fun M hM => ?_⟩
        have e12 : Same G11 (upd G11 M (.lst [.ref l1, .ref l3, .ref l4, .ref l9])) := Same.new hM
        have vM : (upd G11 M (.lst [.ref l1, .ref l3, .ref l4, .ref l9])) M = some (.lst [.ref l1, .ref l3, .ref l4, .ref l9]) := upd_same
        generalize upd G11 M (.lst [.ref l1, .ref l3, .ref l4, .ref l9]) = G12 at e12 vM
        have nM := B61.fresh hM
        have B62 := B61.same e12
        refine ⟨_, rfl, p, _, _, rfl, B62.P, by omega, by omega, by omega, fun Hz d bz Pz lz uz => ?_⟩
        have Bz := B62.hoist hp bz Pz
        have t412 := ((((s59.trans e10).trans e11).trans e12))
        obtain ⟨l, hat, hout⟩ : ∃ l, atI ([V.ref l1, V.ref l3, V.ref l4, V.ref l9] : List V) d = some (V.ref l) ∧ OutAt K rows.length Hz l := by
          obtain ⟨dn, rfl⟩ := Int.eq_ofNat_of_zero_le lz
          match dn, uz with
          | 0, _ => exact ⟨l1, at_of (j := 0) rfl rfl, (o1.same (((e2.trans e3).trans e4).trans (e5.trans t412))).hoist B62.P n1.2 bz⟩
          | 1, _ => exact ⟨l3, at_of (j := 1) rfl rfl, (o3.same (e5.trans t412)).hoist B62.P n3.2 bz⟩
          | 2, _ => exact ⟨l4, at_of (j := 2) rfl rfl, (o4.same t412).hoist B62.P n4.2 bz⟩
          | 3, _ => exact ⟨l9, at_of (j := 3) rfl rfl, (o9.same e12).hoist B62.P n9.2 bz⟩
        obtain ⟨ps', rows', x1, x2, x3, x4⟩ := hout
        refine ⟨M, _, _, _, rfl, rfl, SqL.of (bz _ _ nM.2 vM), hat, k Hz l ps' rows' Bz.b (Bz.P.mono (by omega)) x1 x2 x3 x4⟩
      · obtain ⟨B5, hne, hwn⟩ := B5
        have hap : 0 < as.length := List.length_pos_iff.mpr hne
        dsimp only [tNext]
        refine ⟨_, rfl, _, rfl, _, rfl, A, _, rfl, .inl (SqL.of B5.hA), p, _, _, rfl, B5.P, by omega, by rw [List.length_map]; omega, by rw [List.length_map]; omega, fun H6 dj b6 P6 l6 u6 => ?_⟩
        rw [List.length_map] at u6
        have B6 := B5.hoist hp b6 P6
        obtain ⟨jn, rfl⟩ := Int.eq_ofNat_of_zero_le l6
        obtain ⟨j, hj⟩ : ∃ j, as[jn]? = some j := ⟨_, List.getElem?_eq_getElem (by omega)⟩
        obtain ⟨b, c, d, e, f, hrow⟩ := has j (List.mem_of_getElem? hj)
        refine ⟨A, _, _, _, rfl, rfl, SqL.of B6.hA, atI_nat (by rw [List.getElem?_map, hj]; rfl), ?_⟩
        dsimp only [gName]
        have cells : ∀ {a' : Nat} {b c d e f : V}, rows[a']? = some [.str "ask", b, c, d, e, f] → FA b ∧ FA c ∧ FA d ∧ FA e ∧ FA f := fun {a' b c d e f} h => by
          have hc' := hC _ (List.mem_of_getElem? h)
          have hfl := hc'.fl rfl
          have hfa : ∀ x ∈ ([b, c, d, e, f] : List V), FA x := fun x hx => ⟨hfl x (List.mem_cons_of_mem _ hx), fun z q => hc'.as_ z (by rw [← q]; exact List.mem_cons_of_mem _ hx)⟩
          exact ⟨hfa b (by simp), hfa c (by simp), hfa d (by simp), hfa e (by simp), hfa f (by simp)⟩
        obtain ⟨Fb, Fc, Fd, Fe, Ff⟩ := cells hrow
        have hjl : j < ps.length := by rw [hpl]; exact (List.getElem?_eq_some_iff.mp hrow).1
        obtain ⟨pr, hpr⟩ : ∃ pr, ps[j]? = some pr := ⟨_, List.getElem?_eq_getElem hjl⟩
        have hR := (B6.hT.row j pr _ hpr hrow).1
        obtain ⟨a0, ha0⟩ : ∃ a0, as[0]? = some a0 := ⟨_, List.getElem?_eq_getElem hap⟩
        obtain ⟨b2, c2, d2, e2', f2, hrow2⟩ := has a0 (List.mem_of_getElem? ha0)
        have Ff2 : FA f2 := (cells hrow2).2.2.2.2
        have h0l : a0 < ps.length := by rw [hpl]; exact (List.getElem?_eq_some_iff.mp hrow2).1
        obtain ⟨p0, hp0⟩ : ∃ p0, ps[a0]? = some p0 := ⟨_, List.getElem?_eq_getElem h0l⟩
        have hR0 := (B6.hT.row a0 p0 _ hp0 hrow2).1
        refine ⟨_, rfl, _, rfl, L, _, _, _, rfl, rfl, SqL.of B6.hL, atI_nat (by rw [List.getElem?_map, hpr]; rfl), ?_⟩
        dsimp only [gName]
        refine ⟨_, rfl, pr, _, _, _, rfl, rfl, (Same.tup (K := K) (Same.refl H6) hR), at_of (j := 5) rfl rfl, _, rfl, pr, _, _, _, rfl, rfl, (Same.tup (K := K) (Same.refl H6) hR), at_of (j := 4) rfl rfl, by show 2 ≤ sizeLine; decide, fun q1 hq1 => ?_⟩
        have e1 : Same H6 (upd H6 q1 (.tup [f, e])) := Same.new hq1
        have v1 : SqT K (upd H6 q1 (.tup [f, e])) q1 [f, e] := tup_at
        generalize upd H6 q1 (.tup [f, e]) = G1 at e1 v1
        refine ⟨_, rfl, pr, _, _, _, rfl, rfl, (Same.tup (K := K) e1 hR), at_of (j := 4) rfl rfl, _, rfl, pr, _, _, _, rfl, rfl, (Same.tup (K := K) e1 hR), at_of (j := 4) rfl rfl, by show 2 ≤ sizeLine; decide, fun q2 hq2 => ?_⟩
        have e2 : Same G1 (upd G1 q2 (.tup [e, e])) := Same.new hq2
        have v2 : SqT K (upd G1 q2 (.tup [e, e])) q2 [e, e] := tup_at
        generalize upd G1 q2 (.tup [e, e]) = G2 at e2 v2
        refine ⟨_, rfl, _, rfl, pr, _, _, _, rfl, rfl, (Same.tup (K := K) (e1.trans e2) hR), at_of (j := 5) rfl rfl, by show 2 ≤ sizeLine; decide, fun q3 hq3 => ?_⟩
        have e3 : Same G2 (upd G2 q3 (.tup [.int (j : Nat), f])) := Same.new hq3
        have v3 : SqT K (upd G2 q3 (.tup [.int (j : Nat), f])) q3 [.int (j : Nat), f] := tup_at
        generalize upd G2 q3 (.tup [.int (j : Nat), f]) = G3 at e3 v3
        refine ⟨_, rfl, pr, _, _, _, rfl, rfl, (Same.tup (K := K) ((e1.trans e2).trans e3) hR), at_of (j := 4) rfl rfl, _, rfl, L, _, rfl, .inl (SqL.of (((e1.trans e2).trans e3) _ _ B6.hL)), by show 2 ≤ sizeLine; decide, fun q4 hq4 => ?_⟩
        have e4 : Same G3 (upd G3 q4 (.tup [e, .int ((ps.map V.ref).length : Nat)])) := Same.new hq4
        have v4 : SqT K (upd G3 q4 (.tup [e, .int ((ps.map V.ref).length : Nat)])) q4 [e, .int ((ps.map V.ref).length : Nat)] := tup_at
        generalize upd G3 q4 (.tup [e, .int ((ps.map V.ref).length : Nat)]) = G4 at e4 v4
        refine ⟨_, rfl, pr, _, _, _, rfl, rfl, (Same.tup (K := K) (((e1.trans e2).trans e3).trans e4) hR), at_of (j := 5) rfl rfl, by show 2 ≤ sizeLine; decide, fun q5 hq5 => ?_⟩
        have e5 : Same G4 (upd G4 q5 (.tup [.int 0, f])) := Same.new hq5
        have v5 : SqT K (upd G4 q5 (.tup [.int 0, f])) q5 [.int 0, f] := tup_at
        generalize upd G4 q5 (.tup [.int 0, f]) = G5 at e5 v5
        refine ⟨by show 5 ≤ sizeLine; decide, fun q6 hq6 => ?_⟩
        have e6 : Same G5 (upd G5 q6 (.lst [.ref q1, .ref q2, .ref q3, .ref q4, .ref q5])) := Same.new hq6
        have v6 : (upd G5 q6 (.lst [.ref q1, .ref q2, .ref q3, .ref q4, .ref q5])) q6 = some (.lst [.ref q1, .ref q2, .ref q3, .ref q4, .ref q5]) := upd_same
        generalize upd G5 q6 (.lst [.ref q1, .ref q2, .ref q3, .ref q4, .ref q5]) = G6 at e6 v6
        refine ⟨_, rfl, ?_⟩
        refine ⟨_, rfl, pr, _, _, _, rfl, rfl, (Same.tup (K := K) (((((e1.trans e2).trans e3).trans e4).trans e5).trans e6) hR), at_of (j := 5) rfl rfl, by show 2 ≤ sizeLine; decide, fun q7 hq7 => ?_⟩
        have e7 : Same G6 (upd G6 q7 (.tup [.str "2", f])) := Same.new hq7
        have v7 : SqT K (upd G6 q7 (.tup [.str "2", f])) q7 [.str "2", f] := tup_at
        generalize upd G6 q7 (.tup [.str "2", f]) = G7 at e7 v7
        refine ⟨_, rfl, pr, _, _, _, rfl, rfl, (Same.tup (K := K) ((((((e1.trans e2).trans e3).trans e4).trans e5).trans e6).trans e7) hR), at_of (j := 4) rfl rfl, _, rfl, by show 2 ≤ sizeLine; decide, fun q8 hq8 => ?_⟩
        have e8 : Same G7 (upd G7 q8 (.tup [e, .int (-1)])) := Same.new hq8
        have v8 : SqT K (upd G7 q8 (.tup [e, .int (-1)])) q8 [e, .int (-1)] := tup_at
        generalize upd G7 q8 (.tup [e, .int (-1)]) = G8 at e8 v8
        refine ⟨_, rfl, pr, _, _, _, rfl, rfl, (Same.tup (K := K) (((((((e1.trans e2).trans e3).trans e4).trans e5).trans e6).trans e7).trans e8) hR), at_of (j := 4) rfl rfl, by show 2 ≤ sizeLine; decide, fun q9 hq9 => ?_⟩
        have e9 : Same G8 (upd G8 q9 (.tup [e, .non])) := Same.new hq9
        have v9 : SqT K (upd G8 q9 (.tup [e, .non])) q9 [e, .non] := tup_at
        generalize upd G8 q9 (.tup [e, .non]) = G9 at e9 v9
        refine ⟨_, rfl, pr, _, _, _, rfl, rfl, (Same.tup (K := K) ((((((((e1.trans e2).trans e3).trans e4).trans e5).trans e6).trans e7).trans e8).trans e9) hR), at_of (j := 5) rfl rfl, by show 2 ≤ sizeLine; decide, fun q10 hq10 => ?_⟩
        have e10 : Same G9 (upd G9 q10 (.tup [.bl true, f])) := Same.new hq10
        have v10 : SqT K (upd G9 q10 (.tup [.bl true, f])) q10 [.bl true, f] := tup_at
        generalize upd G9 q10 (.tup [.bl true, f]) = G10 at e10 v10
        refine ⟨by show 4 ≤ sizeLine; decide, fun q11 hq11 => ?_⟩
        have e11 : Same G10 (upd G10 q11 (.lst [.ref q7, .ref q8, .ref q9, .ref q10])) := Same.new hq11
        have v11 : (upd G10 q11 (.lst [.ref q7, .ref q8, .ref q9, .ref q10])) q11 = some (.lst [.ref q7, .ref q8, .ref q9, .ref q10]) := upd_same
        generalize upd G10 q11 (.lst [.ref q7, .ref q8, .ref q9, .ref q10]) = G11 at e11 v11
        refine ⟨q6, q11, _, _, rfl, rfl, ((((e7.trans e8).trans e9).trans e10).trans e11) _ _ v6, v11, by show 5 + 4 ≤ sizeLine; decide, fun q12 hq12 => ?_⟩
        have e12 : Same G11 (upd G11 q12 (.lst ([.ref q1, .ref q2, .ref q3, .ref q4, .ref q5] ++ [.ref q7, .ref q8, .ref q9, .ref q10]))) := Same.new hq12
        have v12 : (upd G11 q12 (.lst ([.ref q1, .ref q2, .ref q3, .ref q4, .ref q5] ++ [.ref q7, .ref q8, .ref q9, .ref q10]))) q12 = some (.lst (([q1, q2, q3, q4, q5, q7, q8, q9, q10] : List Addr).map V.ref)) := upd_same
        generalize upd G11 q12 (.lst ([.ref q1, .ref q2, .ref q3, .ref q4, .ref q5] ++ [.ref q7, .ref q8, .ref q9, .ref q10])) = G12 at e12 v12
        have T1 : TipAt K G12 q1 := ⟨_, _, Same.tup (K := K) ((((((((((e2.trans e3).trans e4).trans e5).trans e6).trans e7).trans e8).trans e9).trans e10).trans e11).trans e12) v1, Ff, Fe⟩
        have T2 : TipAt K G12 q2 := ⟨_, _, Same.tup (K := K) (((((((((e3.trans e4).trans e5).trans e6).trans e7).trans e8).trans e9).trans e10).trans e11).trans e12) v2, Fe, Fe⟩
        have T3 : TipAt K G12 q3 := ⟨_, _, Same.tup (K := K) ((((((((e4.trans e5).trans e6).trans e7).trans e8).trans e9).trans e10).trans e11).trans e12) v3, FA.int, Ff⟩
        have T4 : TipAt K G12 q4 := ⟨_, _, Same.tup (K := K) (((((((e5.trans e6).trans e7).trans e8).trans e9).trans e10).trans e11).trans e12) v4, Fe, FA.int⟩
        have T5 : TipAt K G12 q5 := ⟨_, _, Same.tup (K := K) ((((((e6.trans e7).trans e8).trans e9).trans e10).trans e11).trans e12) v5, FA.int, Ff⟩
        have T7 : TipAt K G12 q7 := ⟨_, _, Same.tup (K := K) ((((e8.trans e9).trans e10).trans e11).trans e12) v7, (FA.str asc_2), Ff⟩
        have T8 : TipAt K G12 q8 := ⟨_, _, Same.tup (K := K) (((e9.trans e10).trans e11).trans e12) v8, Fe, FA.int⟩
        have T9 : TipAt K G12 q9 := ⟨_, _, Same.tup (K := K) ((e10.trans e11).trans e12) v9, Fe, FA.non⟩
        have T10 : TipAt K G12 q10 := ⟨_, _, Same.tup (K := K) (e11.trans e12) v10, FA.bl, Ff⟩
        have hTL : ∀ q ∈ ([q1, q2, q3, q4, q5, q7, q8, q9, q10] : List Addr), TipAt K G12 q := fun q hq => by
          simp only [List.mem_cons, List.not_mem_nil, or_false] at hq
          rcases hq with rfl | rfl | rfl | rfl | rfl | rfl | rfl | rfl | rfl
          · exact T1
          · exact T2
          · exact T3
          · exact T4
          · exact T5
          · exact T7
          · exact T8
          · exact T9
          · exact T10
        generalize hqs : ([q1, q2, q3, q4, q5, q7, q8, q9, q10] : List Addr) = qs at v12 hTL
        have hql : qs.length = 9 := by rw [← hqs]; rfl
        -- the first candidates
        refine ⟨_, rfl, q12, rfl, ⟨_, SqL.of v12⟩, fun D hD => ?_⟩
        have hD0 : G12 D = none := hD
        refine lc_it (walk_list (K := K) (a := q12) (xs := qs.map V.ref)) (fun i H' => ∃ cs : List Addr, Same G12 H' ∧ H' D = some (.lst (cs.map V.ref)) ∧ cs.length = i ∧ ∀ c ∈ cs, CandAt K H' c)
          ⟨[], Same.new hD, upd_same, rfl, fun c h => nomatch h⟩ (fun i H' _ ⟨_, s, _⟩ => SqL.of (s _ _ v12)) ?_ ?_
        · rintro i v Ha Hb hi ⟨cs, sa, hDa, hcl, hcs⟩ ⟨rfl, hv⟩
          obtain ⟨q, hq, rfl⟩ := get_map hv
          obtain ⟨x, y, g1, g2, g3⟩ := hTL q (List.mem_of_getElem? hq)
          have sG := (((((((((((e1.trans e2).trans e3).trans e4).trans e5).trans e6).trans e7).trans e8).trans e9).trans e10).trans e11).trans e12)
          refine ⟨rfl, yes_ ?_⟩
          refine ⟨_, rfl, _, rfl, ?_⟩
          try dsimp only [tNoPart, tPart]
          refine slA_it (Same.tup (K := K) (sG.trans sa) hR) fun u Hc sc hu => ?_
          have hu : SqT K Hc u [.str "ask", b, c, d] := hu
          refine ⟨_, rfl, catA_it hu (Same.tup (sa.trans sc) g1) (by show 4 + 2 ≤ sizeLine; decide) fun u2 He se hu2 => ?_⟩
          have hu2 : SqT K He u2 (.str "ask" :: [b, c, d, x, y]) := hu2
          have hDe := (sc.trans se) _ _ hDa
          rw [List.length_map] at hi
          refine ⟨_, hDe, by rw [List.length_map]; exact small1000 (by omega), cs ++ [u2], Same.set ((sa.trans sc).trans se) hD0, by rw [upd_same, List.map_append]; rfl, by rw [List.length_append, hcl]; rfl, fun c' hc' => ?_⟩
          have up : ∀ {c' : Addr}, CandAt K He c' → CandAt K (upd He D (.lst (cs.map V.ref ++ [.ref u2]))) c' := fun {c'} ⟨r, h1, h2⟩ => ⟨r, tup_upd hDe h1, h2⟩
          rcases List.mem_append.mp hc' with h | h
          · exact up ((hcs c' h).same (sc.trans se))
          · rw [List.mem_singleton] at h
            rw [h]
            refine up ⟨_, hu2, fun w hw => ?_, by show 5 ≤ 7; decide⟩
            simp only [List.mem_cons, List.not_mem_nil, or_false] at hw
            rcases hw with rfl | rfl | rfl | rfl | rfl
            · exact Fb
            · exact Fc
            · exact Fd
            · exact g2
            · exact g3
        rintro Hd ⟨cs, sd, hDd, hcl, hcs⟩
        rw [List.length_map, hql] at hcl
        refine ⟨_, rfl, _, rfl, ?_⟩
        try dsimp only [tNoPart, tPart]
        refine slA_it (Same.tup (K := K) ((((((((((((e1.trans e2).trans e3).trans e4).trans e5).trans e6).trans e7).trans e8).trans e9).trans e10).trans e11).trans e12).trans sd) hR) fun q13 G13 e13 v13 => ?_
        have v13 : SqT K G13 q13 [.str "ask"] := v13
        refine ⟨_, rfl, pr, _, _, _, rfl, rfl, (Same.tup (K := K) (((((((((((((e1.trans e2).trans e3).trans e4).trans e5).trans e6).trans e7).trans e8).trans e9).trans e10).trans e11).trans e12).trans sd).trans e13) hR), at_of (j := 2) rfl rfl, _, rfl, pr, _, _, _, rfl, rfl, (Same.tup (K := K) (((((((((((((e1.trans e2).trans e3).trans e4).trans e5).trans e6).trans e7).trans e8).trans e9).trans e10).trans e11).trans e12).trans sd).trans e13) hR), at_of (j := 2) rfl rfl, by show 2 ≤ sizeLine; decide, fun q14 hq14 => ?_⟩
        have e14 : Same G13 (upd G13 q14 (.tup [c, c])) := Same.new hq14
        have v14 : SqT K (upd G13 q14 (.tup [c, c])) q14 [c, c] := tup_at
        generalize upd G13 q14 (.tup [c, c]) = G14 at e14 v14
        refine catA_it (Same.tup (K := K) e14 v13) (Same.tup (K := K) (Same.refl G14) v14) (by show 3 ≤ sizeLine; decide) fun q15 G15 e15 v15 => ?_
        have v15 : SqT K G15 q15 [.str "ask", c, c] := v15
        refine ⟨_, rfl, _, rfl, ?_⟩
        try dsimp only [tNoPart, tPart]
        refine slA_it (Same.tup (K := K) (((((((((((((((e1.trans e2).trans e3).trans e4).trans e5).trans e6).trans e7).trans e8).trans e9).trans e10).trans e11).trans e12).trans sd).trans e13).trans e14).trans e15) hR) fun q16 G16 e16 v16 => ?_
        have v16 : SqT K G16 q16 [d, e, f] := v16
        refine catA_it (Same.tup (K := K) e16 v15) (Same.tup (K := K) (Same.refl G16) v16) (by show 6 ≤ sizeLine; decide) fun q17 G17 e17 v17 => ?_
        have v17 : SqT K G17 q17 [.str "ask", c, c, d, e, f] := v17
        have C17 : CandAt K G17 q17 := ⟨_, v17, fun x hx => by
          simp only [List.mem_cons, List.not_mem_nil, or_false] at hx
          rcases hx with rfl | rfl | rfl | rfl | rfl
          · exact Fc
          · exact Fc
          · exact Fd
          · exact Fe
          · exact Ff, by show 5 ≤ 7; decide⟩
        refine ⟨_, rfl, _, rfl, ?_⟩
        try dsimp only [tNoPart, tPart]
        refine slA_it (Same.tup (K := K) (((((((((((((((((e1.trans e2).trans e3).trans e4).trans e5).trans e6).trans e7).trans e8).trans e9).trans e10).trans e11).trans e12).trans sd).trans e13).trans e14).trans e15).trans e16).trans e17) hR) fun q18 G18 e18 v18 => ?_
        have v18 : SqT K G18 q18 [.str "ask", b, c, d, e] := v18
        have C18 : CandAt K G18 q18 := ⟨_, v18, fun x hx => by
          simp only [List.mem_cons, List.not_mem_nil, or_false] at hx
          rcases hx with rfl | rfl | rfl | rfl
          · exact Fb
          · exact Fc
          · exact Fd
          · exact Fe, by show 4 ≤ 7; decide⟩
        refine ⟨by show 2 ≤ sizeLine; decide, fun q19 hq19 => ?_⟩
        have e19 : Same G18 (upd G18 q19 (.lst [.ref q17, .ref q18])) := Same.new hq19
        have v19 : (upd G18 q19 (.lst [.ref q17, .ref q18])) q19 = some (.lst [.ref q17, .ref q18]) := upd_same
        generalize upd G18 q19 (.lst [.ref q17, .ref q18]) = G19 at e19 v19
        refine ⟨D, q19, _, _, rfl, rfl, ((((((e13.trans e14).trans e15).trans e16).trans e17).trans e18).trans e19) _ _ hDd, v19, by rw [List.length_map]; exact le1000 (show cs.length + 2 ≤ 1000 by omega), fun q20 hq20 => ?_⟩
        have e20 : Same G19 (upd G19 q20 (.lst (cs.map V.ref ++ [.ref q17, .ref q18]))) := Same.new hq20
        have v20 : (upd G19 q20 (.lst (cs.map V.ref ++ [.ref q17, .ref q18]))) q20 = some (.lst ((cs ++ [q17, q18]).map V.ref)) := by rw [upd_same, List.map_append]; rfl
        generalize upd G19 q20 (.lst (cs.map V.ref ++ [.ref q17, .ref q18])) = G20 at e20 v20
        obtain ⟨cs20, hcs20⟩ : ∃ x, x = cs ++ [q17, q18] := ⟨_, rfl⟩
        rw [← hcs20] at v20
        have hl20 : cs20.length = 11 := by rw [hcs20, List.length_append, hcl]; rfl
        have hC20 : ∀ c ∈ cs20, CandAt K G20 c := fun c' hc' => by
          rw [hcs20] at hc'
          rcases List.mem_append.mp hc' with h | h
          · exact (hcs c' h).same (((((((e13.trans e14).trans e15).trans e16).trans e17).trans e18).trans e19).trans e20)
          · simp only [List.mem_cons, List.not_mem_nil, or_false] at h
            rcases h with rfl | rfl
            · exact C17.same ((e18.trans e19).trans e20)
            · exact C18.same (e19.trans e20)
        refine ⟨_, rfl, ?_⟩
        refine ⟨_, rfl, _, rfl, ?_⟩
        try dsimp only [tNoPart, tPart]
        refine slA_it (Same.tup (K := K) ((((((((((((((((((((e1.trans e2).trans e3).trans e4).trans e5).trans e6).trans e7).trans e8).trans e9).trans e10).trans e11).trans e12).trans sd).trans e13).trans e14).trans e15).trans e16).trans e17).trans e18).trans e19).trans e20) hR) fun q21 G21 e21 v21 => ?_
        have v21 : SqT K G21 q21 [.str "ask"] := v21
        refine ⟨by show 1 ≤ sizeLine; decide, fun q22 hq22 => ?_⟩
        have e22 : Same G21 (upd G21 q22 (.tup [.str "no mark"])) := Same.new hq22
        have v22 : SqT K (upd G21 q22 (.tup [.str "no mark"])) q22 [.str "no mark"] := tup_at
        generalize upd G21 q22 (.tup [.str "no mark"]) = G22 at e22 v22
        refine catA_it (Same.tup (K := K) e22 v21) (Same.tup (K := K) (Same.refl G22) v22) (by show 2 ≤ sizeLine; decide) fun q23 G23 e23 v23 => ?_
        have v23 : SqT K G23 q23 [.str "ask", .str "no mark"] := v23
        refine ⟨_, rfl, _, rfl, ?_⟩
        try dsimp only [tNoPart, tPart]
        refine slA_it (Same.tup (K := K) (((((((((((((((((((((((e1.trans e2).trans e3).trans e4).trans e5).trans e6).trans e7).trans e8).trans e9).trans e10).trans e11).trans e12).trans sd).trans e13).trans e14).trans e15).trans e16).trans e17).trans e18).trans e19).trans e20).trans e21).trans e22).trans e23) hR) fun q24 G24 e24 v24 => ?_
        have v24 : SqT K G24 q24 [c, d, e, f] := v24
        refine catA_it (Same.tup (K := K) e24 v23) (Same.tup (K := K) (Same.refl G24) v24) (by show 6 ≤ sizeLine; decide) fun q25 G25 e25 v25 => ?_
        have v25 : SqT K G25 q25 [.str "ask", .str "no mark", c, d, e, f] := v25
        have C25 : CandAt K G25 q25 := ⟨_, v25, fun x hx => by
          simp only [List.mem_cons, List.not_mem_nil, or_false] at hx
          rcases hx with rfl | rfl | rfl | rfl | rfl
          · exact (FA.str asc_nm)
          · exact Fc
          · exact Fd
          · exact Fe
          · exact Ff, by show 5 ≤ 7; decide⟩
        refine ⟨_, rfl, _, rfl, ?_⟩
        try dsimp only [tNoPart, tPart]
        refine slA_it (Same.tup (K := K) (((((((((((((((((((((((((e1.trans e2).trans e3).trans e4).trans e5).trans e6).trans e7).trans e8).trans e9).trans e10).trans e11).trans e12).trans sd).trans e13).trans e14).trans e15).trans e16).trans e17).trans e18).trans e19).trans e20).trans e21).trans e22).trans e23).trans e24).trans e25) hR) fun q26 G26 e26 v26 => ?_
        have v26 : SqT K G26 q26 [.str "ask", b, c] := v26
        refine ⟨by show 1 ≤ sizeLine; decide, fun q27 hq27 => ?_⟩
        have e27 : Same G26 (upd G26 q27 (.tup [.str "1"])) := Same.new hq27
        have v27 : SqT K (upd G26 q27 (.tup [.str "1"])) q27 [.str "1"] := tup_at
        generalize upd G26 q27 (.tup [.str "1"]) = G27 at e27 v27
        refine catA_it (Same.tup (K := K) e27 v26) (Same.tup (K := K) (Same.refl G27) v27) (by show 4 ≤ sizeLine; decide) fun q28 G28 e28 v28 => ?_
        have v28 : SqT K G28 q28 [.str "ask", b, c, .str "1"] := v28
        refine ⟨_, rfl, _, rfl, ?_⟩
        try dsimp only [tNoPart, tPart]
        refine slA_it (Same.tup (K := K) ((((((((((((((((((((((((((((e1.trans e2).trans e3).trans e4).trans e5).trans e6).trans e7).trans e8).trans e9).trans e10).trans e11).trans e12).trans sd).trans e13).trans e14).trans e15).trans e16).trans e17).trans e18).trans e19).trans e20).trans e21).trans e22).trans e23).trans e24).trans e25).trans e26).trans e27).trans e28) hR) fun q29 G29 e29 v29 => ?_
        have v29 : SqT K G29 q29 [e, f] := v29
        refine catA_it (Same.tup (K := K) e29 v28) (Same.tup (K := K) (Same.refl G29) v29) (by show 6 ≤ sizeLine; decide) fun q30 G30 e30 v30 => ?_
        have v30 : SqT K G30 q30 [.str "ask", b, c, .str "1", e, f] := v30
        have C30 : CandAt K G30 q30 := ⟨_, v30, fun x hx => by
          simp only [List.mem_cons, List.not_mem_nil, or_false] at hx
          rcases hx with rfl | rfl | rfl | rfl | rfl
          · exact Fb
          · exact Fc
          · exact (FA.str asc_1)
          · exact Fe
          · exact Ff, by show 5 ≤ 7; decide⟩
        refine ⟨_, rfl, ?_⟩
        refine ⟨by show 1 ≤ sizeLine; decide, fun q31 hq31 => ?_⟩
        have e31 : Same G30 (upd G30 q31 (.tup [.int 1])) := Same.new hq31
        have v31 : SqT K (upd G30 q31 (.tup [.int 1])) q31 [.int 1] := tup_at
        generalize upd G30 q31 (.tup [.int 1]) = G31 at e31 v31
        refine catA_it (Same.tup (K := K) (((((((((((((((((((((((((((((((e1.trans e2).trans e3).trans e4).trans e5).trans e6).trans e7).trans e8).trans e9).trans e10).trans e11).trans e12).trans sd).trans e13).trans e14).trans e15).trans e16).trans e17).trans e18).trans e19).trans e20).trans e21).trans e22).trans e23).trans e24).trans e25).trans e26).trans e27).trans e28).trans e29).trans e30).trans e31) hR) v31 (by show 6 + 1 ≤ sizeLine; decide) fun q32 G32 e32 v32 => ?_
        have v32 : SqT K G32 q32 [.str "ask", b, c, d, e, f, .int 1] := v32
        have C32 : CandAt K G32 q32 := ⟨_, v32, fun x hx => by
          simp only [List.mem_cons, List.not_mem_nil, or_false] at hx
          rcases hx with rfl | rfl | rfl | rfl | rfl | rfl
          · exact Fb
          · exact Fc
          · exact Fd
          · exact Fe
          · exact Ff
          · exact FA.int, by show 6 ≤ 7; decide⟩
        refine ⟨by show 3 ≤ sizeLine; decide, fun q33 hq33 => ?_⟩
        have e33 : Same G32 (upd G32 q33 (.lst [.ref q25, .ref q30, .ref q32])) := Same.new hq33
        have v33 : (upd G32 q33 (.lst [.ref q25, .ref q30, .ref q32])) q33 = some (.lst [.ref q25, .ref q30, .ref q32]) := upd_same
        generalize upd G32 q33 (.lst [.ref q25, .ref q30, .ref q32]) = G33 at e33 v33
        refine ⟨q20, q33, _, _, rfl, rfl, ((((((((((((e21.trans e22).trans e23).trans e24).trans e25).trans e26).trans e27).trans e28).trans e29).trans e30).trans e31).trans e32).trans e33) _ _ v20, v33, by rw [List.length_map]; exact le1000 (show cs20.length + 3 ≤ 1000 by omega), fun q34 hq34 => ?_⟩
        have e34 : Same G33 (upd G33 q34 (.lst (cs20.map V.ref ++ [.ref q25, .ref q30, .ref q32]))) := Same.new hq34
        have v34 : (upd G33 q34 (.lst (cs20.map V.ref ++ [.ref q25, .ref q30, .ref q32]))) q34 = some (.lst ((cs20 ++ [q25, q30, q32]).map V.ref)) := by rw [upd_same, List.map_append]; rfl
        generalize upd G33 q34 (.lst (cs20.map V.ref ++ [.ref q25, .ref q30, .ref q32])) = G34 at e34 v34
        obtain ⟨cs34, hcs34⟩ : ∃ x, x = cs20 ++ [q25, q30, q32] := ⟨_, rfl⟩
        rw [← hcs34] at v34
        have hl34 : cs34.length = 14 := by rw [hcs34, List.length_append, hl20]; rfl
        have hC34 : ∀ c ∈ cs34, CandAt K G34 c := fun c' hc' => by
          rw [hcs34] at hc'
          rcases List.mem_append.mp hc' with h | h
          · exact (hC20 c' h).same (((((((((((((e21.trans e22).trans e23).trans e24).trans e25).trans e26).trans e27).trans e28).trans e29).trans e30).trans e31).trans e32).trans e33).trans e34)
          · simp only [List.mem_cons, List.not_mem_nil, or_false] at h
            rcases h with rfl | rfl | rfl
            · exact C25.same ((((((((e26.trans e27).trans e28).trans e29).trans e30).trans e31).trans e32).trans e33).trans e34)
            · exact C30.same (((e31.trans e32).trans e33).trans e34)
            · exact C32.same (e33.trans e34)
        refine ⟨_, rfl, ?_⟩
        refine ⟨_, rfl, _, rfl, ?_⟩
        try dsimp only [tNoPart, tPart]
        refine slA_it (Same.tup (K := K) ((((((((((((((((((((((((((((((((((e1.trans e2).trans e3).trans e4).trans e5).trans e6).trans e7).trans e8).trans e9).trans e10).trans e11).trans e12).trans sd).trans e13).trans e14).trans e15).trans e16).trans e17).trans e18).trans e19).trans e20).trans e21).trans e22).trans e23).trans e24).trans e25).trans e26).trans e27).trans e28).trans e29).trans e30).trans e31).trans e32).trans e33).trans e34) hR) fun q35 G35 e35 v35 => ?_
        have v35 : SqT K G35 q35 [.str "ask", b, c] := v35
        refine ⟨by show 1 ≤ sizeLine; decide, fun q36 hq36 => ?_⟩
        have e36 : Same G35 (upd G35 q36 (.tup [.bl true])) := Same.new hq36
        have v36 : SqT K (upd G35 q36 (.tup [.bl true])) q36 [.bl true] := tup_at
        generalize upd G35 q36 (.tup [.bl true]) = G36 at e36 v36
        refine catA_it (Same.tup (K := K) e36 v35) (Same.tup (K := K) (Same.refl G36) v36) (by show 4 ≤ sizeLine; decide) fun q37 G37 e37 v37 => ?_
        have v37 : SqT K G37 q37 [.str "ask", b, c, .bl true] := v37
        refine ⟨_, rfl, _, rfl, ?_⟩
        try dsimp only [tNoPart, tPart]
        refine slA_it (Same.tup (K := K) (((((((((((((((((((((((((((((((((((((e1.trans e2).trans e3).trans e4).trans e5).trans e6).trans e7).trans e8).trans e9).trans e10).trans e11).trans e12).trans sd).trans e13).trans e14).trans e15).trans e16).trans e17).trans e18).trans e19).trans e20).trans e21).trans e22).trans e23).trans e24).trans e25).trans e26).trans e27).trans e28).trans e29).trans e30).trans e31).trans e32).trans e33).trans e34).trans e35).trans e36).trans e37) hR) fun q38 G38 e38 v38 => ?_
        have v38 : SqT K G38 q38 [e, f] := v38
        refine catA_it (Same.tup (K := K) e38 v37) (Same.tup (K := K) (Same.refl G38) v38) (by show 6 ≤ sizeLine; decide) fun q39 G39 e39 v39 => ?_
        have v39 : SqT K G39 q39 [.str "ask", b, c, .bl true, e, f] := v39
        have C39 : CandAt K G39 q39 := ⟨_, v39, fun x hx => by
          simp only [List.mem_cons, List.not_mem_nil, or_false] at hx
          rcases hx with rfl | rfl | rfl | rfl | rfl
          · exact Fb
          · exact Fc
          · exact FA.bl
          · exact Fe
          · exact Ff, by show 5 ≤ 7; decide⟩
        refine ⟨_, rfl, _, rfl, ?_⟩
        try dsimp only [tNoPart, tPart]
        refine slA_it (Same.tup (K := K) (((((((((((((((((((((((((((((((((((((((e1.trans e2).trans e3).trans e4).trans e5).trans e6).trans e7).trans e8).trans e9).trans e10).trans e11).trans e12).trans sd).trans e13).trans e14).trans e15).trans e16).trans e17).trans e18).trans e19).trans e20).trans e21).trans e22).trans e23).trans e24).trans e25).trans e26).trans e27).trans e28).trans e29).trans e30).trans e31).trans e32).trans e33).trans e34).trans e35).trans e36).trans e37).trans e38).trans e39) hR) fun q40 G40 e40 v40 => ?_
        have v40 : SqT K G40 q40 [.str "ask", b] := v40
        refine ⟨by show 1 ≤ sizeLine; decide, fun q41 hq41 => ?_⟩
        have e41 : Same G40 (upd G40 q41 (.tup [.str "no mark"])) := Same.new hq41
        have v41 : SqT K (upd G40 q41 (.tup [.str "no mark"])) q41 [.str "no mark"] := tup_at
        generalize upd G40 q41 (.tup [.str "no mark"]) = G41 at e41 v41
        refine catA_it (Same.tup (K := K) e41 v40) (Same.tup (K := K) (Same.refl G41) v41) (by show 3 ≤ sizeLine; decide) fun q42 G42 e42 v42 => ?_
        have v42 : SqT K G42 q42 [.str "ask", b, .str "no mark"] := v42
        refine ⟨_, rfl, _, rfl, ?_⟩
        try dsimp only [tNoPart, tPart]
        refine slA_it (Same.tup (K := K) ((((((((((((((((((((((((((((((((((((((((((e1.trans e2).trans e3).trans e4).trans e5).trans e6).trans e7).trans e8).trans e9).trans e10).trans e11).trans e12).trans sd).trans e13).trans e14).trans e15).trans e16).trans e17).trans e18).trans e19).trans e20).trans e21).trans e22).trans e23).trans e24).trans e25).trans e26).trans e27).trans e28).trans e29).trans e30).trans e31).trans e32).trans e33).trans e34).trans e35).trans e36).trans e37).trans e38).trans e39).trans e40).trans e41).trans e42) hR) fun q43 G43 e43 v43 => ?_
        have v43 : SqT K G43 q43 [d, e, f] := v43
        refine catA_it (Same.tup (K := K) e43 v42) (Same.tup (K := K) (Same.refl G43) v43) (by show 6 ≤ sizeLine; decide) fun q44 G44 e44 v44 => ?_
        have v44 : SqT K G44 q44 [.str "ask", b, .str "no mark", d, e, f] := v44
        have C44 : CandAt K G44 q44 := ⟨_, v44, fun x hx => by
          simp only [List.mem_cons, List.not_mem_nil, or_false] at hx
          rcases hx with rfl | rfl | rfl | rfl | rfl
          · exact Fb
          · exact (FA.str asc_nm)
          · exact Fd
          · exact Fe
          · exact Ff, by show 5 ≤ 7; decide⟩
        refine ⟨by show 2 ≤ sizeLine; decide, fun q45 hq45 => ?_⟩
        have e45 : Same G44 (upd G44 q45 (.lst [.ref q39, .ref q44])) := Same.new hq45
        have v45 : (upd G44 q45 (.lst [.ref q39, .ref q44])) q45 = some (.lst [.ref q39, .ref q44]) := upd_same
        generalize upd G44 q45 (.lst [.ref q39, .ref q44]) = G45 at e45 v45
        refine ⟨q34, q45, _, _, rfl, rfl, ((((((((((e35.trans e36).trans e37).trans e38).trans e39).trans e40).trans e41).trans e42).trans e43).trans e44).trans e45) _ _ v34, v45, by rw [List.length_map]; exact le1000 (show cs34.length + 2 ≤ 1000 by omega), fun q46 hq46 => ?_⟩
        have e46 : Same G45 (upd G45 q46 (.lst (cs34.map V.ref ++ [.ref q39, .ref q44]))) := Same.new hq46
        have v46 : (upd G45 q46 (.lst (cs34.map V.ref ++ [.ref q39, .ref q44]))) q46 = some (.lst ((cs34 ++ [q39, q44]).map V.ref)) := by rw [upd_same, List.map_append]; rfl
        generalize upd G45 q46 (.lst (cs34.map V.ref ++ [.ref q39, .ref q44])) = G46 at e46 v46
        obtain ⟨cs46, hcs46⟩ : ∃ x, x = cs34 ++ [q39, q44] := ⟨_, rfl⟩
        rw [← hcs46] at v46
        have hl46 : cs46.length = 16 := by rw [hcs46, List.length_append, hl34]; rfl
        have hC46 : ∀ c ∈ cs46, CandAt K G46 c := fun c' hc' => by
          rw [hcs46] at hc'
          rcases List.mem_append.mp hc' with h | h
          · exact (hC34 c' h).same (((((((((((e35.trans e36).trans e37).trans e38).trans e39).trans e40).trans e41).trans e42).trans e43).trans e44).trans e45).trans e46)
          · simp only [List.mem_cons, List.not_mem_nil, or_false] at h
            rcases h with rfl | rfl
            · exact C39.same ((((((e40.trans e41).trans e42).trans e43).trans e44).trans e45).trans e46)
            · exact C44.same (e45.trans e46)
        refine ⟨_, rfl, .inl ⟨rfl, _, SqL.of v46⟩, ?_⟩
        refine ⟨_, rfl, _, rfl, ?_⟩
        try dsimp only [tNoPart, tPart]
        refine slA_it (Same.tup (K := K) ((((((((((((((((((((((((((((((((((((((((((((((e1.trans e2).trans e3).trans e4).trans e5).trans e6).trans e7).trans e8).trans e9).trans e10).trans e11).trans e12).trans sd).trans e13).trans e14).trans e15).trans e16).trans e17).trans e18).trans e19).trans e20).trans e21).trans e22).trans e23).trans e24).trans e25).trans e26).trans e27).trans e28).trans e29).trans e30).trans e31).trans e32).trans e33).trans e34).trans e35).trans e36).trans e37).trans e38).trans e39).trans e40).trans e41).trans e42).trans e43).trans e44).trans e45).trans e46) hR) fun q47 G47 e47 v47 => ?_
        have v47 : SqT K G47 q47 [.str "ask", b, c, d] := v47
        refine ⟨_, rfl, pr, _, _, _, rfl, rfl, (Same.tup (K := K) (((((((((((((((((((((((((((((((((((((((((((((((e1.trans e2).trans e3).trans e4).trans e5).trans e6).trans e7).trans e8).trans e9).trans e10).trans e11).trans e12).trans sd).trans e13).trans e14).trans e15).trans e16).trans e17).trans e18).trans e19).trans e20).trans e21).trans e22).trans e23).trans e24).trans e25).trans e26).trans e27).trans e28).trans e29).trans e30).trans e31).trans e32).trans e33).trans e34).trans e35).trans e36).trans e37).trans e38).trans e39).trans e40).trans e41).trans e42).trans e43).trans e44).trans e45).trans e46).trans e47) hR), at_of (j := 4) rfl rfl, _, rfl, _, rfl, A, _, _, _, rfl, rfl, SqL.of ((((((((((((((((((((((((((((((((((((((((((((((((e1.trans e2).trans e3).trans e4).trans e5).trans e6).trans e7).trans e8).trans e9).trans e10).trans e11).trans e12).trans sd).trans e13).trans e14).trans e15).trans e16).trans e17).trans e18).trans e19).trans e20).trans e21).trans e22).trans e23).trans e24).trans e25).trans e26).trans e27).trans e28).trans e29).trans e30).trans e31).trans e32).trans e33).trans e34).trans e35).trans e36).trans e37).trans e38).trans e39).trans e40).trans e41).trans e42).trans e43).trans e44).trans e45).trans e46).trans e47) _ _ B6.hA), at_of (j := 0) rfl (by rw [List.getElem?_map, ha0]; rfl), L, _, _, _, rfl, rfl, SqL.of ((((((((((((((((((((((((((((((((((((((((((((((((e1.trans e2).trans e3).trans e4).trans e5).trans e6).trans e7).trans e8).trans e9).trans e10).trans e11).trans e12).trans sd).trans e13).trans e14).trans e15).trans e16).trans e17).trans e18).trans e19).trans e20).trans e21).trans e22).trans e23).trans e24).trans e25).trans e26).trans e27).trans e28).trans e29).trans e30).trans e31).trans e32).trans e33).trans e34).trans e35).trans e36).trans e37).trans e38).trans e39).trans e40).trans e41).trans e42).trans e43).trans e44).trans e45).trans e46).trans e47) _ _ B6.hL), atI_nat (by rw [List.getElem?_map, hp0]; rfl), p0, _, _, _, rfl, rfl, (Same.tup (K := K) (((((((((((((((((((((((((((((((((((((((((((((((e1.trans e2).trans e3).trans e4).trans e5).trans e6).trans e7).trans e8).trans e9).trans e10).trans e11).trans e12).trans sd).trans e13).trans e14).trans e15).trans e16).trans e17).trans e18).trans e19).trans e20).trans e21).trans e22).trans e23).trans e24).trans e25).trans e26).trans e27).trans e28).trans e29).trans e30).trans e31).trans e32).trans e33).trans e34).trans e35).trans e36).trans e37).trans e38).trans e39).trans e40).trans e41).trans e42).trans e43).trans e44).trans e45).trans e46).trans e47) hR0), at_of (j := 5) rfl rfl, by show 2 ≤ sizeLine; decide, fun q48 hq48 => ?_⟩
        have e48 : Same G47 (upd G47 q48 (.tup [e, f2])) := Same.new hq48
        have v48 : SqT K (upd G47 q48 (.tup [e, f2])) q48 [e, f2] := tup_at
        generalize upd G47 q48 (.tup [e, f2]) = G48 at e48 v48
        refine catA_it (Same.tup (K := K) e48 v47) (Same.tup (K := K) (Same.refl G48) v48) (by show 6 ≤ sizeLine; decide) fun q49 G49 e49 v49 => ?_
        have v49 : SqT K G49 q49 [.str "ask", b, c, d, e, f2] := v49
        have C49 : CandAt K G49 q49 := ⟨_, v49, fun x hx => by
          simp only [List.mem_cons, List.not_mem_nil, or_false] at hx
          rcases hx with rfl | rfl | rfl | rfl | rfl
          · exact Fb
          · exact Fc
          · exact Fd
          · exact Fe
          · exact Ff2, by show 5 ≤ 7; decide⟩
        have hS := ((e47.trans e48).trans e49) _ _ v46
        refine ⟨q46, _, .ref q49, rfl, rfl, hS, by rw [List.length_map]; exact small1000 (by omega), ?_⟩
        have up : ∀ {x : Addr} {xs : List V}, SqT K G49 x xs → SqT K (upd G49 q46 (.lst (cs46.map V.ref ++ [.ref q49]))) x xs := fun {x xs} h => tup_upd hS h
        have bS : But q46 G49 (upd G49 q46 (.lst (cs46.map V.ref ++ [.ref q49]))) := but_upd
        have vS : (upd G49 q46 (.lst (cs46.map V.ref ++ [.ref q49]))) q46 = some (.lst ((cs46 ++ [q49]).map V.ref)) := by rw [upd_same, List.map_append]; rfl
        generalize upd G49 q46 (.lst (cs46.map V.ref ++ [.ref q49])) = Hx at up bS vS
        have hCx : ∀ c ∈ cs46 ++ [q49], CandAt K Hx c := fun c' hc' => by
          rcases List.mem_append.mp hc' with h | h
          · obtain ⟨r, h1, h2⟩ := (hC46 c' h).same ((e47.trans e48).trans e49)
            exact ⟨r, up h1, h2⟩
          · rw [List.mem_singleton] at h
            obtain ⟨r, h1, h2⟩ := C49
            exact ⟨r, by rw [h]; exact up h1, h2⟩
        have sEnd := (((((((((((((((((((((((((((((((((((((((((((((((((e1.trans e2).trans e3).trans e4).trans e5).trans e6).trans e7).trans e8).trans e9).trans e10).trans e11).trans e12).trans sd).trans e13).trans e14).trans e15).trans e16).trans e17).trans e18).trans e19).trans e20).trans e21).trans e22).trans e23).trans e24).trans e25).trans e26).trans e27).trans e28).trans e29).trans e30).trans e31).trans e32).trans e33).trans e34).trans e35).trans e36).trans e37).trans e38).trans e39).trans e40).trans e41).trans e42).trans e43).trans e44).trans e45).trans e46).trans e47).trans e48).trans e49)
        have nS : G45 q46 = none := hq46
        have sS := (((((((((((((((((((((((((((((((((((((((((((((e1.trans e2).trans e3).trans e4).trans e5).trans e6).trans e7).trans e8).trans e9).trans e10).trans e11).trans e12).trans sd).trans e13).trans e14).trans e15).trans e16).trans e17).trans e18).trans e19).trans e20).trans e21).trans e22).trans e23).trans e24).trans e25).trans e26).trans e27).trans e28).trans e29).trans e30).trans e31).trans e32).trans e33).trans e34).trans e35).trans e36).trans e37).trans e38).trans e39).trans e40).trans e41).trans e42).trans e43).trans e44).trans e45)
        obtain ⟨n0, np⟩ := (B6.same sS).fresh nS
        have nLS : L ≠ q46 := fun z => by have q := (B6.same sS).hL; rw [z, nS] at q; cases q
        have hLx := bS _ _ nLS (sEnd _ _ B6.hL)
        have hT6 := B6.hT.same sEnd
        have hC6 := fun r hr => (B6.hC r hr).imp (fun _ _ q => Same.tup (K := K) sEnd q)
        have bx : But p H Hx := fun b' o nb q => bS b' o (fun z => by rw [z, n0] at q; cases q) (sEnd b' o (B6.b b' o nb q))
        obtain ⟨xP, yP, cP, g1, g2⟩ := B6.P
        have g1x := bS _ _ (fun z => np z.symm) (sEnd _ _ g1)
        have hlx : (cs46 ++ [q49]).length = 17 := by rw [List.length_append, hl46]; rfl
        generalize cs46 ++ [q49] = cs' at vS hCx hlx
        clear sEnd sS
        obtain ⟨c', hc'⟩ : ∃ c', cs'[wn]? = some c' := ⟨_, List.getElem?_eq_getElem (by omega)⟩
        obtain ⟨rest, r1, r2, r3⟩ := hCx c' (List.mem_of_getElem? hc')
        refine ⟨_, rfl, _, rfl, q46, _, _, _, rfl, rfl, SqL.of vS, atI_nat (by rw [List.getElem?_map, hc']; rfl), ?_⟩
        refine ⟨_, rfl, _, rfl, L, _, _, j, rfl, rfl, hLx, ixN_nat (by rw [List.length_map]; exact hjl), _, rfl, ?_⟩
        have pL : p ≠ L := fun z => hp.ne nL z.symm
        have upL : ∀ {x : Addr} {xs zs : List V}, SqT K Hx x xs → SqT K (upd Hx L (.lst zs)) x xs := fun {x xs zs} h => tup_upd hLx h
        have rC : RowC K Hx (.str "ask" :: rest) := candC r2 r3
        refine k _ L (ps.set j c') (rows.set j (.str "ask" :: rest)) (fun b' o nb q => ?_) ⟨xP, yP, cP, (upd_ne pL).trans g1x, g2.1, g2.2.1, g2.2.2.1, g2.2.2.2.1, by omega⟩ (by rw [upd_same, List.map_set]) ?_ ?_ ?_
        · rw [upd_ne (fun z => by rw [z, nL] at q; cases q)]; exact bx b' o nb q
        · exact ((hT6.imp fun _ _ q => up q).set r1 rC).imp fun _ _ q => upL q
        · rw [List.length_set]; omega
        · intro r hr
          rcases List.mem_or_eq_of_mem_set hr with q | q
          · exact (hC6 r q).imp fun _ _ q => upL (up q)
          · rw [q]; exact rC.imp fun _ _ q => upL q
end
end K1
end
section
set_option maxRecDepth 100000
set_option maxHeartbeats 4000000
namespace K1
open PySem PyProof.Rows L2 K01
/-- the dict of the rows met says what the list of the rows named says -/
def Met (N : Nat) (kvs : List (Key × V)) (bs : List Bool) : Prop := ∀ j : Nat, 1 ≤ j → j < N → (valV kvs (Sum.inl (j : Int)) = none ↔ bs.getD j false = false)
theorem met_nil {N : Nat} : Met N [] (named0 N) := fun j h1 h2 => by
  refine ⟨fun _ => ?_, fun _ => rfl⟩
  unfold named0
  rw [List.getD_eq_getElem?_getD, List.getElem?_map, List.getElem?_range h2]
  show decide (j = 0) = false
  exact decide_eq_false (by omega)
theorem met_put {N : Nat} {kvs : List (Key × V)} {bs : List Bool} {y : Nat} (h : Met N kvs bs) (hb : bs.length = N) (hy : y < N) : Met N (putK kvs (Sum.inl (y : Int)) (.bl true)) (bs.set y true) := fun j h1 h2 => by
  rw [L2.valV_put, List.getD_eq_getElem?_getD, List.getElem?_set]
  by_cases e : y = j
  · subst e
    rw [if_pos rfl, if_pos rfl, if_pos (by omega)]
    simp
  · rw [if_neg (fun q => e (by have := Sum.inl.inj q; omega)), if_neg e, ← List.getD_eq_getElem?_getD]
    exact h j h1 h2
theorem rows_dpa {K : PySem.W.Frag} {H : Hp} : ∀ {ys : List V}, (∀ x ∈ ys, RV K H x) → DpAll K H ys (ys.map rD)
  | [], _ => .nil
  | y :: r, h => .cons (h y List.mem_cons_self).dp (rows_dpa fun x hx => h x (List.mem_cons_of_mem _ hx))
theorem head_dp {K : PySem.W.Frag} {H : Hp} {xs : List V} {u : Addr} (hR : ∀ x ∈ xs, RV K H x) (ha : ∀ z : Str, V.str z ∈ xs → AscZ z) (hu : SqT K H u (xs.take 1)) : Dp K H (.ref u) (.tuple ((xs.take 1).map rD)) ∧ SeqAt.shaped (.tuple ((xs.take 1).map rD)) = true := by
  have hrs : ∀ x ∈ xs.take 1, RV K H x := fun x hx => hR x (List.mem_of_mem_take hx)
  refine ⟨.tup hu (rows_dpa hrs), (Lv.tuple (n := 1) fun dd hdd => ?_).shaped (by decide)⟩
  obtain ⟨x, hx, rfl⟩ := List.mem_map.mp hdd
  exact (hrs x hx).lv fun z hz => ha z (by rw [← hz]; exact List.mem_of_mem_take hx)
theorem shaped_ask : SeqAt.shaped (.tuple [.str "ask"]) = true := (Lv.tuple (n := 0) fun dd hdd => by
  rw [List.mem_singleton] at hdd
  rw [hdd]
  exact Lv.str asc_ask).shaped (by decide)
theorem But.tupD {K : PySem.W.Frag} {l a : Addr} {kvs : List (Key × V)} {xs : List V} {H H' : Hp} (hl : H l = some (.dK kvs)) (e : But l H H') (h : SqT K H a xs) : SqT K H' a xs := by
  rcases h with (q | ⟨o, q⟩) | q
  · exact .inl (.inl (e _ _ (fun z => by rw [z, hl] at q; cases q) q))
  · exact .inl (.inr ⟨o, e _ _ (fun z => by rw [z, hl] at q; cases q) q⟩)
  · exact .inr q
theorem miss_put {bs : List Bool} {m : Nat} (h : bs.getD (m + 1) false = false) : ((List.range (m + 1)).filter fun g => !(bs.getD (g + 1) false)) = ((List.range m).filter fun g => !(bs.getD (g + 1) false)) ++ [m] := by
  rw [List.range_succ, List.filter_append, List.filter_cons_of_pos (by rw [h]; rfl)]; rfl
theorem miss_skip {bs : List Bool} {m : Nat} (h : bs.getD (m + 1) false = true) : ((List.range (m + 1)).filter fun g => !(bs.getD (g + 1) false)) = ((List.range m).filter fun g => !(bs.getD (g + 1) false)) := by
  rw [List.range_succ, List.filter_append, List.filter_cons_of_neg (by rw [h]; exact Bool.false_ne_true), List.filter_nil, List.append_nil]
theorem rows_dp2 {K : PySem.W.Frag} {H : Hp} : ∀ {ps : List Addr} {rows : List (List V)}, RowsAt2 K H ps rows → DpAll K H (ps.map V.ref) (rows.map fun xs => PyData.tuple (xs.map rD))
  | [], [], _ => .nil
  | [], _ :: _, h => by have := h.len; simp at this
  | _ :: _, [], h => by have := h.len; simp at this
  | p :: ps, xs :: rows, h => by
    obtain ⟨q1, q2, _⟩ := h.row 0 p xs rfl rfl
    exact .cons (.tup q1 (rows_dpa q2)) (rows_dp2 ⟨by have := h.len; simpa using this, fun i p' xs' h1 h2 => h.row (i + 1) p' xs' h1 h2⟩)
theorem rows_sh {K : PySem.W.Frag} {H : Hp} {ps : List Addr} {rows : List (List V)} (h : RowsAt2 K H ps rows) (ha : ∀ r ∈ rows, ∀ z : Str, V.str z ∈ r → AscZ z) : SeqAt.shaped (.list (rows.map fun xs => PyData.tuple (xs.map rD))) = true := by
  refine (Lv.list (n := 2) fun dd hdd => ?_).shaped (by decide)
  obtain ⟨xs, hx, rfl⟩ := List.mem_map.mp hdd
  obtain ⟨i, hi⟩ := List.getElem?_of_mem hx
  have hl : i < ps.length := by rw [h.len]; exact (List.getElem?_eq_some_iff.mp hi).1
  obtain ⟨_, q2, _⟩ := h.row i ps[i] xs (List.getElem?_eq_getElem hl) hi
  refine Lv.tuple (n := 1) fun d hd => ?_
  obtain ⟨x, hxx, rfl⟩ := List.mem_map.mp hd
  exact (q2 x hxx).lv fun z hz => ha xs hx z (by rw [← hz]; exact hxx)
theorem filt_head {n g : Nat} {gs : List Nat} {p : Nat → Bool} (h : (List.range n).filter p = g :: gs) : g < n ∧ p g = true ∧ ∀ j, j < g → p j = false := by
  have e : (List.range n).find? p = some g := by rw [← List.head?_filter, h]; rfl
  rw [List.find?_range_eq_some] at e
  obtain ⟨e1, e2, e3⟩ := e
  exact ⟨List.mem_range.mp e2, e1, fun j hj => by simpa using e3 j hj⟩
/-- an ask whose fact and numbers are plain -/
theorem good_nums {ns : List Str} {i : Nat} {bs : List Bool} {x0 x y c : V} {yes no : Int} (h : factOk ns [x, y, c] = true) : goodAsk ns i bs [x0, x, y, c, .int yes, .int no] = true ↔ (yes ≠ no ∧ ((i : Int) < yes ∧ yes < (bs.length : Int)) ∧ ((i : Int) < no ∧ no < (bs.length : Int)) ∧ bs.getD yes.toNat false = false ∧ bs.getD no.toNat false = false) := by
  show (factOk ns [x, y, c] && _) = true ↔ _
  rw [h]
  simp [Bool.and_eq_true]
section
variable {P : Program} {w : World} {K : PySem.W.Frag} {mg : Str → Option Value} {base : Heap}
abbrev sTFa : Stmt := top 63
def spTFa (K : PySem.W.Frag) : Sp := fun vs H Q _ => ∃ (n t : Addr) (ms : List Str) (ps : List Addr) (rows : List (List V)), vs = [.ref n, .ref t] ∧ SqT K H n ((nodes ms).map V.str) ∧ H t = some (.lst (ps.map V.ref)) ∧ RowsAt2 K H ps rows ∧ rows.length ≤ 900 ∧ (∀ r ∈ rows, ∀ z : Str, V.str z ∈ r → AscZ z) ∧
  ∀ H', Same H H' → Q (oV (treeFault (nodes ms) rows)) H'
abbrev nsTFa : List Str := ["nodes", "tr", "met_here", "k", "row", "mate", "missing", "value"]
theorem scTFa : FnScope nsTFa ["nodes", "tr"] (defScope sTFa) := ⟨rfl, rfl, rfl, by decide +kernel, rfl, by decide +kernel, by decide +kernel⟩
theorem ok_tfa {f : Addr} {fd : FuncData} (F : Fun K "_law_tree_fault" "_law_tree_fault" sTFa f fd) (T : Bi mg) : FnOk P w K mg base CX0 1 f fd ["nodes", "tr"] (spTFa K) := by
  refine F.ok scTFa (fun vs H Q E h => ?_) (fun cdv A outer s H vs Q E hr h => ?_)
  · obtain ⟨_, _, _, _, _, rfl, _⟩ := h
    rfl
  · obtain ⟨n, t, ms, ps, rows, rfl, hn, ht, hT, hrl, has, k⟩ := h
    have hu := hu_of hr
    refine ⟨_, pss_cons (ps_set (i := 2) scTFa.nd rfl (.inr rfl) pe_dnewK)
      (pss_cons (ps_for PassesOwn.never rfl (pi_range1 (by rfl) T.range (pa_cons (pe_callB call_len_seq (by rfl) T.len PySem.boot_len (pa_cons (pv 1) pa_nil)) pa_nil)) (pg_name (i := 3) scTFa.nd rfl (.inl rfl))
        (pss_cons (ps_set (i := 4) scTFa.nd rfl (.inl rfl) (pe_ix ix_list (pv 1) (pv 3) (fun _ _ => rfl)))
        (pss_one (ps_if (pt_cmpR (op_eqD hr.units) (pe_slice sl_tupA (pv 4) po_none (po_some pe_int)) (pe_tup (pa_cons pe_str pa_nil)) (nomark _))
          (pss_cons (ps_if (PW.pt (pw_or (pt_cmpR op_ne (pe_callB call_len_seq (by rfl) T.len PySem.boot_len (pa_cons (pv 4) pa_nil)) pe_int (nomark _)) (pw_or (pt_cmpR op_notIn_seq (pe_ix ix_tup (pv 4) pe_int (fun _ _ => rfl)) (pv 0) (by rfl)) (pw_or (pt_cmpR op_notIn_seq (pe_ix ix_tup (pv 4) pe_int (fun _ _ => rfl)) (pv 0) (by rfl)) (pw_or1 (pt_cmpR op_eq (pe_ix ix_tup (pv 4) pe_int (fun _ _ => rfl)) (pe_ix ix_tup (pv 4) pe_int (fun _ _ => rfl)) (nomark _))))))) (pss_one (ps_ret (pv 3))) pss_nil)
          (pss_cons (ps_if (pt_cmpR (op_neD hr.units) (pe_lc (own := [("value", 7)]) (g := gName 7) (tt := tOr (tB (tCB (rIsi K) (tCons (tVar 7) (tCons (tC (V.ty "bool")) tNil)))) (tNot (tB (tCB (rIsi K) (tCons (tVar 7) (tCons (tC (V.ty "int")) tNil)))))) rfl scTFa.nd (pi_tup (pe_slice sl_tupA (pv 4) (po_some pe_int) po_none)) (blkOk_by (N := nsTFa) (sc := defScope sTFa) (by decide +kernel))
              (fun _ _ _ _ _ => pg_name (i := 7) scTFa.nd rfl (.inl rfl)) (fun _ _ _ _ _ => pts_one (PW.pt (pw_or (pt_val (pe_callB call_isi (by rfl) T.isinstance (by decide +kernel) (pa_cons (pv 7) (pa_cons (pe_ty (n := "bool") (by rfl) T.bool (by decide +kernel)) pa_nil)))) (pw_or1 (pt_not (pt_val (pe_callB call_isi (by rfl) T.isinstance (by decide +kernel) (pa_cons (pv 7) (pa_cons (pe_ty (n := "int") (by rfl) T.int (by decide +kernel)) pa_nil))))))))) (fun _ _ _ _ _ => pe_int)) (pe_lst pa_nil) (nomark _)) (pss_one (ps_ret (pv 3))) pss_nil)
          (pss_one (ps_for PassesOwn.never rfl (pi_tup (pe_slice sl_tupA (pv 4) (po_some pe_int) po_none)) (pg_name (i := 5) scTFa.nd rfl (.inl rfl))
            (pss_cons (ps_if (PW.pt (pw_or (pt_cmpR op_le (pv 5) (pv 3) (nomark _)) (pw_or (pt_cmpR op_ge (pv 5) (pe_callB call_len_seq (by rfl) T.len PySem.boot_len (pa_cons (pv 1) pa_nil)) (nomark _)) (pw_or1 (pt_cmp (pc_din hu (pv 5) (pv 2))))))) (pss_one (ps_ret (pv 3))) pss_nil)
            (pss_one (ps_dput hu (pv 2) (pv 5) pe_bl rfl))))))) pss_nil))))
      (pss_cons (ps_setLc (i := 6) (own := [("k", 3)]) (g := gName 3) rfl scTFa.nd rfl rfl rfl (pi_range2 (by rfl) T.range (pa_cons pe_int (pa_cons (pe_callB call_len_seq (by rfl) T.len PySem.boot_len (pa_cons (pv 1) pa_nil)) pa_nil))) (blkOk_by (N := nsTFa) (sc := defScope sTFa) (by decide +kernel))
        (fun _ _ _ _ _ => pg_name (i := 3) scTFa.nd rfl (.inl rfl)) (fun _ _ _ _ _ => pts_one (pt_cmp (pc_dnotin hu (pv 3) (pv 2)))) (fun _ _ _ _ _ => pv 3))
      (pss_one (ps_ret (pe_ifExp (pt_cmpR (op_eqD hr.units) (pv 1) (pe_lst pa_nil) (nomark _)) pe_int (pe_ifExp (pt_cmpR (op_neD hr.units) (pv 6) (pe_lst pa_nil) (nomark _)) (pe_ix ix_list (pv 6) pe_int (fun _ _ => rfl)) pe_non)))))), ?_⟩
    have hpl : ps.length = rows.length := hT.len
    intro D hD
    have s1 : Same H (upd H D (.dK [])) := Same.new hD
    have e1 : (upd H D (.dK [])) D = some (.dK []) := upd_same
    generalize upd H D (.dK []) = H1 at s1 e1 ⊢
    refine ⟨_, rfl, t, _, rfl, .inl (SqL.of (s1 _ _ ht)), ?_⟩
    rw [List.length_map, hpl]
    refine ⟨_, rfl, by omega, by omega, ?_⟩
    rw [Int.toNat_natCast]
    obtain ⟨R0, hR0⟩ : ∃ R0, tfRows (nodes ms) rows 0 (named0 rows.length) = R0 := ⟨_, rfl⟩
    have nl : (named0 rows.length).length = rows.length := by unfold named0; simp
    refine for_r0 (n := rows.length) (fun i σ H' => (∃ v3 v4 v5 : Option V, σ = [some (.ref n), some (.ref t), some (.ref D), v3, v4, v5, none, none]) ∧ Same H H' ∧ ∃ (kvs : List (Key × V)) (bs : List Bool), H' D = some (.dK kvs) ∧ kvs.length ≤ 2 * i ∧ Met rows.length kvs bs ∧ bs.length = rows.length ∧ tfRows (nodes ms) (rows.drop i) i bs = R0 ∧ (0 < rows.length → bs.getD 0 false = true))
      ⟨⟨_, _, _, rfl⟩, s1, [], named0 rows.length, e1, Nat.zero_le _, met_nil, nl, hR0, fun h => by unfold named0; rw [List.getD_eq_getElem?_getD, List.getElem?_map, List.getElem?_range h]; rfl⟩ ?_ ?_
    · rintro i σ H2 hi ⟨⟨v3, v4, v5, rfl⟩, s2, kvs, bs, q1, q2, q3, q4, q5, q6⟩
      obtain ⟨pf, hpf⟩ : ∃ pf, ps[i]? = some pf := ⟨_, List.getElem?_eq_getElem (by omega)⟩
      obtain ⟨xs, hxs⟩ : ∃ xs, rows[i]? = some xs := ⟨_, List.getElem?_eq_getElem hi⟩
      have hdrop : rows.drop i = xs :: rows.drop (i + 1) := by
        rw [List.drop_eq_getElem_cons hi]
        have := List.getElem?_eq_getElem hi
        rw [hxs] at this
        rw [← Option.some.inj this]
      rw [hdrop, tfRows_cons] at q5
      obtain ⟨r1, r2, r3⟩ := (hT.same s2).row i pf xs hpf hxs
      have hat : atI (ps.map V.ref) (i : Nat) = some (.ref pf) := atI_nat (by rw [List.getElem?_map, hpf]; rfl)
      dsimp only [gName]
      refine ⟨_, rfl, _, rfl, t, _, _, _, rfl, rfl, SqL.of (s2 _ _ ht), hat, ?_⟩
      dsimp only [gName]
      refine ⟨_, rfl, _, rfl, ?_⟩
      dsimp only [tNoPart]
      refine slA_it r1 fun u H3 s3 hu => ?_
      have ec : cutV xs none (some 1) = xs.take 1 := cut_take _ 1
      rw [ec] at hu
      refine ⟨by show 1 ≤ sizeLine; decide, fun e he => ?_⟩
      have s4 : Same H3 (upd H3 e (.tup [.str "ask"])) := Same.new he
      have hxm := List.mem_of_getElem? hxs
      obtain ⟨hd1, hd2⟩ := head_dp (fun x hx => ((r2 x hx).same s3).same s4) (has xs hxm) (Same.tup s4 hu)
      refine ⟨.tuple ((xs.take 1).map rD), .tuple [.str "ask"], hd1, .tup tup_at (.cons (.str _) .nil), hd2, shaped_ask, _, rfl, ?_⟩
      rw [head_eqv r2]
      have s24 := s3.trans s4
      generalize upd H3 e (.tup [.str "ask"]) = H4 at s24
      clear s3 s4 hd1 hu he
      cases ea : isAsk xs with
      | false =>
        rw [ea, if_neg Bool.false_ne_true] at q5
        exact iteF ⟨⟨_, _, _, rfl⟩, s2.trans s24, kvs, bs, s24 _ _ q1, by omega, q3, q4, q5, q6⟩
      | true =>
        refine iteT ?_
        rw [ea, if_pos rfl] at q5
        have hfl := r3 ea
        have r4 := Same.tup (K := K) s24 r1
        have sH := s2.trans s24
        -- a fault here
        have bad : ∀ H', Same H H' → goodAsk (nodes ms) i bs xs = false → Q (.int (i : Nat)) H' := fun H' s e => by
          rw [e, if_neg Bool.false_ne_true] at q5
          have hf : treeFault (nodes ms) rows = some i := by
            unfold treeFault
            rw [hR0, ← q5]
          have := k H' s
          rw [hf] at this
          exact this
        refine ⟨_, rfl, pf, _, rfl, .inr r4, rfl, _, rfl, ?_⟩
        by_cases e6 : xs.length = 6
        · obtain ⟨x0, x, y, c, u0, v0, rfl⟩ : ∃ x0 x y c u0 v0, xs = [x0, x, y, c, u0, v0] := by
            match xs, e6 with
            | [x0, x, y, c, u0, v0], _ => exact ⟨x0, x, y, c, u0, v0, rfl⟩
          refine iteNS (by rfl) ?_
          have fx : Flat x := hfl x (by simp)
          have fy : Flat y := hfl y (by simp)
          have fc : Flat c := hfl c (by simp)
          have fu : Flat u0 := hfl u0 (by simp)
          have fv : Flat v0 := hfl v0 (by simp)
          have hn4 := Same.tup (K := K) sH hn
          have badF : ∀ H', Same H H' → factOk (nodes ms) [x, y, c] = false → Q (.int (i : Nat)) H' := fun H' s e => bad H' s (by cases u0 <;> cases v0 <;> simp [goodAsk, e])
          refine ⟨_, rfl, _, _, _, _, rfl, rfl, r4, at_of (j := 1) rfl rfl, _, rfl, n, _, rfl, .inr hn4, fx.v, strs_flat _, _, rfl, ?_⟩
          rw [if_pos rfl]
          cases e1 : inV x ((nodes ms).map V.str) with
          | false => exact iteT ⟨_, rfl, badF H4 sH (by show (inV x ((nodes ms).map V.str) && _) = false; rw [e1]; rfl)⟩
          | true =>
            refine iteF ⟨_, rfl, _, _, _, _, rfl, rfl, r4, at_of (j := 2) rfl rfl, _, rfl, n, _, rfl, .inr hn4, fy.v, strs_flat _, _, rfl, ?_⟩
            rw [if_pos rfl]
            cases e2 : inV y ((nodes ms).map V.str) with
            | false => exact iteT ⟨_, rfl, badF H4 sH (by show (inV x ((nodes ms).map V.str) && (inV y ((nodes ms).map V.str) && _)) = false; rw [e1, e2]; rfl)⟩
            | true =>
              have st : ∀ {v : V}, Flat v → inV v ((nodes ms).map V.str) = true → ∃ z, v = .str z := fun {v} hf hv => by
                by_cases q : ∃ z, v = .str z
                · exact q
                · rw [inV_other hf (fun z e => q ⟨z, e⟩)] at hv; cases hv
              obtain ⟨a, rfl⟩ := st fx e1
              obtain ⟨b, rfl⟩ := st fy e2
              refine iteF ⟨_, rfl, _, _, _, _, rfl, rfl, r4, at_of (j := 1) rfl rfl, _, rfl, _, _, _, _, rfl, rfl, r4, at_of (j := 2) rfl rfl, rfl, _, rfl, ?_⟩
              by_cases e3 : V.str a = V.str b
              · exact iteDT e3 ⟨_, rfl, badF H4 sH (by show (inV (.str a) ((nodes ms).map V.str) && (inV (.str b) ((nodes ms).map V.str) && (!decide (V.str a = V.str b) && _))) = false; rw [e1, e2, decide_eq_true e3]; rfl)⟩
              refine iteDF e3 ?_
              have hfk : factOk (nodes ms) [.str a, .str b, c] = isWhole c := by
                show (inV (.str a) ((nodes ms).map V.str) && (inV (.str b) ((nodes ms).map V.str) && (!decide (V.str a = V.str b) && isWhole c))) = _
                rw [e1, e2, decide_eq_false e3]; rfl
              dsimp only [tNext]
              refine ⟨_, rfl, _, rfl, ?_⟩
              dsimp only [tNoPart]
              refine slA_it r4 fun u5 H5 s5 hu5 => ⟨u5, rfl, ⟨_, hu5⟩, fun C hC => ?_⟩
              have ec3 : cutV [x0, .str a, .str b, c, u0, v0] (some 3) none = [c, u0, v0] := rfl
              rw [ec3] at hu5
              have fl3 : ∀ z ∈ [c, u0, v0], Flat z := fun z hz => hfl z (by simp only [List.mem_cons, List.not_mem_nil, or_false] at hz ⊢; rcases hz with h | h | h <;> simp [h])
              refine lc_it (walk_tup (K := K) (a := u5) (xs := [c, u0, v0])) (fun m H' => Same H5 H' ∧ H' C = some (.lst (((([c, u0, v0].take m).filter fun v => !isWhole v)).map fun _ => V.int 1))) ⟨Same.new hC, upd_same⟩ (fun m H' _ u => Same.tup u.1 hu5) ?_ ?_
              · rintro m v Ha Hb hm ⟨p1, p2⟩ ⟨rfl, hv⟩
                have ts := take_snoc hv
                have ml : (([c, u0, v0].take m).filter fun v => !isWhole v).length ≤ 3 := Nat.le_trans (List.length_filter_le _ _) (by rw [List.length_take]; exact Nat.min_le_right _ _)
                have put : isWhole v = false → ∃ acc, Hb C = some (HO.lst acc) ∧ acc.length < sizeLine ∧ (Same H5 (upd Hb C (.lst (acc ++ [V.int 1]))) ∧ (upd Hb C (.lst (acc ++ [V.int 1]))) C = some (.lst (((([c, u0, v0].take (m + 1)).filter fun v => !isWhole v)).map fun _ => V.int 1))) := fun e =>
                  ⟨_, p2, by rw [List.length_map]; exact small1000 (by omega), Same.set p1 hC, by rw [upd_same, ts, List.filter_append, List.map_append]; simp [e]⟩
                have skip : isWhole v = true → Same H5 Hb ∧ Hb C = some (.lst (((([c, u0, v0].take (m + 1)).filter fun v => !isWhole v)).map fun _ => V.int 1)) := fun e => ⟨p1, by rw [ts, List.filter_append]; simpa [e] using p2⟩
                refine ⟨rfl, ?_⟩
                cases fl3 v (List.mem_of_getElem? hv) with
                | non => exact ⟨_, rfl, _, _, _, _, false, rfl, .ty _, .base .non, kit_ty (by decide +kernel), _, rfl, iteF ⟨_, rfl, _, _, _, _, false, rfl, .ty _, .base .non, kit_ty (by decide +kernel), _, rfl, iteT (put rfl)⟩⟩
                | str z => exact ⟨_, rfl, _, _, _, _, false, rfl, .ty _, .base (.str z), kit_ty (by decide +kernel), _, rfl, iteF ⟨_, rfl, _, _, _, _, false, rfl, .ty _, .base (.str z), kit_ty (by decide +kernel), _, rfl, iteT (put rfl)⟩⟩
                | bl z => exact ⟨_, rfl, _, _, _, _, true, rfl, .ty _, .base (.bl z), kit_ty (by decide +kernel), _, rfl, iteT (iteT (put rfl))⟩
                | int z => exact ⟨_, rfl, _, _, _, _, false, rfl, .ty _, .base (.int z), kit_ty (by decide +kernel), _, rfl, iteF ⟨_, rfl, _, _, _, _, true, rfl, .ty _, .base (.int z), kit_ty (by decide +kernel), _, rfl, iteF (skip rfl)⟩⟩
              rintro H6 ⟨p1, p2⟩
              have e3l : [c, u0, v0].take [c, u0, v0].length = [c, u0, v0] := List.take_length
              rw [e3l] at p2
              refine ⟨by show 0 ≤ sizeLine; decide, fun e he => ?_⟩
              have s7 : Same H6 (upd H6 e (.lst [])) := Same.new he
              refine ⟨.list (((([c, u0, v0].filter fun v => !isWhole v)).map fun _ => V.int 1).map vD), .list [], .lst (SqL.of (s7 _ _ p2)) (flats_dp fun z hz => by obtain ⟨y, _, rfl⟩ := List.mem_map.mp hz; exact .int 1), .lst (SqL.of upd_same) .nil, (Lv.list (n := 0) fun dd hdd => by
                obtain ⟨z, hz, rfl⟩ := List.mem_map.mp hdd
                obtain ⟨y, _, rfl⟩ := List.mem_map.mp hz
                exact Lv.int _).shaped (by decide), shaped_nil, _, rfl, ?_⟩
              rw [eqv_nil]
              have s47 := (s5.trans p1).trans s7
              have sH7 := sH.trans s47
              generalize upd H6 e (.lst []) = H7 at s47 sH7
              clear s7 he p2 hC p1
              cases hW : ([c, u0, v0].filter fun v => !isWhole v) with
              | cons z zs =>
                refine iteT ⟨_, rfl, bad H7 sH7 ?_⟩
                have hz : z ∈ [c, u0, v0].filter fun v => !isWhole v := by rw [hW]; exact List.mem_cons_self
                obtain ⟨h1, h2⟩ := List.mem_filter.mp hz
                have h2 : isWhole z = false := by simpa using h2
                simp only [List.mem_cons, List.not_mem_nil, or_false] at h1
                rcases h1 with rfl | rfl | rfl
                · cases u0 <;> cases v0 <;> simp [goodAsk, hfk, h2]
                · cases z <;> cases v0 <;> simp [goodAsk, isWhole] at h2 ⊢
                · cases u0 <;> cases z <;> simp [goodAsk, isWhole] at h2 ⊢
              | nil =>
                refine iteF ?_
                have whole : ∀ z ∈ [c, u0, v0], isWhole z = true := fun z hz => by
                  by_cases q : isWhole z = true
                  · exact q
                  · have : z ∈ [c, u0, v0].filter fun v => !isWhole v := List.mem_filter.mpr ⟨hz, by simpa using q⟩
                    rw [hW] at this; cases this
                have wi : ∀ {z : V}, isWhole z = true → ∃ j, z = .int j := fun {z} hz => by cases z <;> simp [isWhole] at hz ⊢
                have hc1 := whole c (by simp)
                obtain ⟨yes, rfl⟩ := wi (whole u0 (by simp))
                obtain ⟨no, rfl⟩ := wi (whole v0 (by simp))
                rw [hc1] at hfk
                have gn := good_nums (ns := nodes ms) (i := i) (bs := bs) (x0 := x0) (yes := yes) (no := no) hfk
                have r7 := Same.tup s47 r4
                dsimp only [tNext]
                refine ⟨_, rfl, _, rfl, ?_⟩
                dsimp only [tNoPart]
                refine slA_it r7 fun u8 H8 s8 hu8 => ?_
                have ec4 : cutV [x0, .str a, .str b, c, .int yes, .int no] (some 4) none = [.int yes, .int no] := rfl
                rw [ec4] at hu8
                have hD8 : H8 D = some (.dK kvs) := (s47.trans s8) _ _ (s24 _ _ q1)
                have sH8 := sH7.trans s8
                have htD : t ≠ D := fun z => by rw [z, hD] at ht; cases ht
                have back : ∀ {H'}, But D H8 H' → Same H H' := fun {H'} bb o1 o2 q => bb o1 o2 (fun z => by rw [z, hD] at q; cases q) (sH8 _ _ q)
                refine ⟨u8, rfl, ⟨_, hu8⟩, for_it (D := { nx := _, rt := _ }) (walk_tup (K := K) (a := u8) (xs := [.int yes, .int no])) (fun m σ H' => (∃ w5 : Option V, σ = [some (.ref n), some (.ref t), some (.ref D), some (.int (i : Nat)), some (.ref pf), w5, none, none]) ∧ But D H8 H' ∧ ∃ kv : List (Key × V), H' D = some (.dK kv) ∧ kv.length ≤ 2 * i + m ∧
                    ((m = 0 ∧ kv = kvs) ∨ (m = 1 ∧ kv = putK kvs (Sum.inl yes) (.bl true) ∧ (i : Int) < yes ∧ yes < (rows.length : Int) ∧ valV kvs (Sum.inl yes) = none) ∨
                     (m = 2 ∧ kv = putK (putK kvs (Sum.inl yes) (.bl true)) (Sum.inl no) (.bl true) ∧ ((i : Int) < yes ∧ yes < (rows.length : Int) ∧ valV kvs (Sum.inl yes) = none) ∧ (i : Int) < no ∧ no < (rows.length : Int) ∧ valV (putK kvs (Sum.inl yes) (.bl true)) (Sum.inl no) = none)))
                  ⟨⟨_, rfl⟩, But.refl, kvs, hD8, by omega, .inl ⟨rfl, rfl⟩⟩ (fun m σ H' _ q => But.tupD hD8 q.2.1 hu8) ?_ ?_⟩
                · rintro m v σ Ha Hb hm ⟨⟨w5, rfl⟩, b1, kv, d1, d2, d3⟩ ⟨rfl, hv⟩
                  have met : ∀ {z : Int}, (i : Int) < z → z < (bs.length : Int) → bs.getD z.toNat false = false → valV kvs (Sum.inl z) = none := fun {z} h1 h2 h3 => by
                    obtain ⟨j, rfl⟩ := Int.eq_ofNat_of_zero_le (show 0 ≤ z by omega)
                    rw [Int.toNat_natCast] at h3
                    exact (q3 j (by omega) (by omega)).mpr h3
                  obtain ⟨z, rfl, hz⟩ : ∃ z, v = .int z ∧ ((m = 0 ∧ z = yes) ∨ (m = 1 ∧ z = no)) := by
                    have hm2 : m < 2 := hm
                    match m, hm2, hv with
                    | 0, _, hv => cases hv; exact ⟨yes, rfl, .inl ⟨rfl, rfl⟩⟩
                    | 1, _, hv => cases hv; exact ⟨no, rfl, .inr ⟨rfl, rfl⟩⟩
                  have ok : goodAsk (nodes ms) i bs [x0, .str a, .str b, c, .int yes, .int no] = true → (i : Int) < z ∧ z < (rows.length : Int) ∧ valV kv (Sum.inl z) = none := fun h => by
                    obtain ⟨g0, ⟨g1, g2⟩, ⟨g3, g4⟩, g5, g6⟩ := gn.mp h
                    rw [q4] at g2 g4
                    rcases hz with ⟨rfl, rfl⟩ | ⟨rfl, rfl⟩
                    · rcases d3 with ⟨_, rfl⟩ | ⟨h, _⟩ | ⟨h, _⟩
                      · exact ⟨g1, g2, met g1 (by omega) g5⟩
                      · cases h
                      · cases h
                    · rcases d3 with ⟨h, _⟩ | ⟨_, rfl, _⟩ | ⟨h, _⟩
                      · cases h
                      · refine ⟨g3, g4, ?_⟩
                        rw [L2.valV_put, if_neg (fun q => g0 (Sum.inl.inj q).symm)]
                        exact met g3 (by omega) g6
                      · cases h
                  have no' : ¬ ((i : Int) < z ∧ z < (rows.length : Int) ∧ valV kv (Sum.inl z) = none) → ∀ H', Same H H' → Q (.int (i : Nat)) H' := fun h H' s => bad H' s (by
                    cases e : goodAsk (nodes ms) i bs [x0, .str a, .str b, c, .int yes, .int no] with
                    | false => rfl
                    | true => exact absurd (ok e) h)
                  have htb := (back b1) _ _ ht
                  dsimp only [gName]
                  refine ⟨_, rfl, _, rfl, _, _, rfl, rfl, _, rfl, ?_⟩
                  by_cases a1 : z ≤ (i : Int)
                  · exact iteDT a1 ⟨_, rfl, no' (fun h => by omega) _ (back b1)⟩
                  refine iteDF a1 ⟨_, rfl, _, rfl, t, _, rfl, .inl (SqL.of htb), _, _, rfl, rfl, _, rfl, ?_⟩
                  rw [List.length_map, hpl]
                  by_cases a2 : (rows.length : Int) ≤ z
                  · exact iteDT a2 ⟨_, rfl, no' (fun h => by omega) _ (back b1)⟩
                  refine iteDF a2 ⟨_, rfl, _, rfl, D, _, rfl, DGet.k (k := Sum.inl z) d1, _, rfl, ?_⟩
                  cases a3 : valV kv (Sum.inl z) with
                  | some y0 => exact iteT ⟨_, rfl, no' (fun h => by rw [a3] at h; cases h.2.2) _ (back b1)⟩
                  | none =>
                    refine iteF ?_
                    dsimp only [tNext]
                    refine ⟨_, rfl, _, rfl, D, _, rfl, DPut.k (k := Sum.inl z) d1 (Nat.lt_of_le_of_lt (show kv.length ≤ 1900 by have hm2 : m < 2 := hm; omega) (by decide)), ⟨_, rfl⟩, b1.trans (fun o1 o2 nb q => by rw [upd_ne nb]; exact q), _, upd_same, Nat.le_trans (L2.length_putK _ _ _) (by omega), ?_⟩
                    rcases hz with ⟨rfl, rfl⟩ | ⟨rfl, rfl⟩
                    · rcases d3 with ⟨_, rfl⟩ | ⟨h, _⟩ | ⟨h, _⟩
                      · exact .inr (.inl ⟨rfl, rfl, by omega, by omega, a3⟩)
                      · cases h
                      · cases h
                    · rcases d3 with ⟨h, _⟩ | ⟨_, rfl, h1⟩ | ⟨h, _⟩
                      · cases h
                      · exact .inr (.inr ⟨rfl, rfl, h1, by omega, by omega, a3⟩)
                      · cases h
                · rintro σ Ha ⟨⟨w5, rfl⟩, b1, kv, d1, d2, d3⟩
                  rcases d3 with ⟨h, _⟩ | ⟨h, _⟩ | ⟨_, rfl, ⟨h1, h2, h3⟩, h4, h5, h6⟩
                  · cases h
                  · cases h
                  obtain ⟨y1, rfl⟩ := Int.eq_ofNat_of_zero_le (show 0 ≤ yes by omega)
                  obtain ⟨n1, rfl⟩ := Int.eq_ofNat_of_zero_le (show 0 ≤ no by omega)
                  have g5 := (q3 y1 (by omega) (by omega)).mp h3
                  have m1 := met_put (y := y1) q3 q4 (by omega)
                  have g6 := (m1 n1 (by omega) (by omega)).mp h6
                  have hne : y1 ≠ n1 := fun q => by
                    subst q
                    rw [L2.valV_put, if_pos rfl] at h6
                    cases h6
                  have g6' : bs.getD n1 false = false := by
                    rw [List.getD_eq_getElem?_getD, List.getElem?_set_ne hne, ← List.getD_eq_getElem?_getD] at g6
                    exact g6
                  have gt : goodAsk (nodes ms) i bs [x0, .str a, .str b, c, .int y1, .int n1] = true := gn.mpr ⟨fun q => hne (Int.ofNat.inj q), ⟨h1, by omega⟩, ⟨h4, by omega⟩, by rw [Int.toNat_natCast]; exact g5, by rw [Int.toNat_natCast]; exact g6'⟩
                  rw [gt, if_pos rfl] at q5
                  have m2 := met_put (y := n1) m1 (by rw [List.length_set]; exact q4) (by omega)
                  exact ⟨⟨_, _, _, rfl⟩, back b1, _, _, d1, by have e : [V.int (y1 : Int), V.int (n1 : Int)].length = 2 := rfl; omega, m2, by rw [List.length_set, List.length_set]; exact q4, q5, fun h => by rw [List.getD_eq_getElem?_getD, List.getElem?_set_ne (by omega), List.getElem?_set_ne (by omega), ← List.getD_eq_getElem?_getD]; exact q6 h⟩
        · exact iteNF (fun q => e6 (by have := V.int.inj q; omega)) (iteT ⟨_, rfl, bad H4 sH (by
            unfold goodAsk
            split
            · exact absurd rfl e6
            · rfl)⟩)
    · rintro σ H2 ⟨⟨v3, v4, v5, rfl⟩, s2, kvs, bs, q1, q2, q3, q4, q5, q6⟩
      rw [List.drop_length] at q5
      have q5 : Sum.inr bs = R0 := q5
      have hf : treeFault (nodes ms) rows = if rows.length = 0 then some 0 else first (fun j => !(bs.getD j false)) bs.length := by
        unfold treeFault
        rw [hR0, ← q5]
      have ht2 := s2 _ _ ht
      refine ⟨_, rfl, t, _, rfl, .inl (SqL.of ht2), 1, _, rfl, ⟨by decide, by decide, by rw [List.length_map]; omega, by rw [List.length_map]; omega⟩, fun C hC => ?_⟩
      have em : ((((ps.map V.ref).length : Nat) : Int) - 1).toNat = rows.length - 1 := by rw [List.length_map, hpl]; omega
      rw [em]
      refine lc_it (walk_range (lo := 1) (n := rows.length - 1)) (fun m H' => Same H2 H' ∧ H' C = some (.lst (((List.range m).filter fun g => !(bs.getD (g + 1) false)).map fun g => V.int ((g + 1 : Nat) : Int)))) ⟨Same.new hC, upd_same⟩ (fun _ _ _ _ => trivial) ?_ ?_
      · rintro m v Ha Hb hm ⟨p1, p2⟩ ⟨rfl, rfl⟩
        have em' : (1 : Int) + (m : Nat) = ((m + 1 : Nat) : Int) := by omega
        show gName 3 (V.int (1 + ((m : Nat) : Int))) _ _ _
        rw [em']
        have hq := q3 (m + 1) (by omega) (by omega)
        have ml : ((List.range m).filter fun g => !(bs.getD (g + 1) false)).length ≤ m := Nat.le_trans (List.length_filter_le _ _) (by rw [List.length_range]; exact Nat.le_refl _)
        refine ⟨rfl, _, rfl, _, rfl, D, _, rfl, DGet.k (k := Sum.inl ((m + 1 : Nat) : Int)) (p1 _ _ q1), ?_⟩
        cases ev : valV kvs (Sum.inl ((m + 1 : Nat) : Int)) with
        | none =>
          have hb := hq.mp ev
          exact ⟨_, rfl, iteT ⟨_, rfl, _, p2, by rw [List.length_map]; exact small1000 (by omega), Same.set p1 hC, by rw [upd_same, miss_put hb, List.map_append]; rfl⟩⟩
        | some y0 =>
          have hb : bs.getD (m + 1) false = true := by
            cases hb : bs.getD (m + 1) false with
            | true => rfl
            | false => rw [hq.mpr hb] at ev; cases ev
          exact ⟨_, rfl, iteF ⟨p1, by rw [miss_skip hb]; exact p2⟩⟩
      · rintro H3 ⟨p1, p2⟩
        have hT3 := hT.same (s2.trans p1)
        have s3 := s2.trans p1
        refine ⟨_, rfl, by show 0 ≤ sizeLine; decide, fun e he => ?_⟩
        have s4 : Same H3 (upd H3 e (.lst [])) := Same.new he
        have hdp : Dp K (upd H3 e (.lst [])) (.ref t) (.list (rows.map fun xs => PyData.tuple (xs.map rD))) := .lst (SqL.of (s4 _ _ (s3 _ _ ht))) (rows_dp2 (hT3.same s4))
        refine ⟨_, .list [], hdp, .lst (SqL.of upd_same) .nil, rows_sh hT3 has, shaped_nil, _, rfl, ?_⟩
        rw [eqv_nil]
        have sA := s3.trans s4
        have p4 := s4 _ _ p2
        generalize upd H3 e (.lst []) = H4 at sA p4
        by_cases h0 : rows.length = 0
        · have e0 : rows = [] := List.length_eq_zero_iff.mp h0
          rw [if_pos h0] at hf
          have kk := k H4 sA
          rw [hf] at kk
          rw [e0]
          exact iteT kk
        · rw [if_neg h0] at hf
          have e0 : (rows.map fun xs => PyData.tuple (xs.map rD)).isEmpty = false := by
            cases rows with
            | nil => exact absurd rfl h0
            | cons r rs => rfl
          rw [e0]
          refine iteF ⟨_, rfl, by show 0 ≤ sizeLine; decide, fun e2 he2 => ?_⟩
          have s5 : Same H4 (upd H4 e2 (.lst [])) := Same.new he2
          refine ⟨.list ((((List.range (rows.length - 1)).filter fun g => !(bs.getD (g + 1) false)).map fun g => V.int ((g + 1 : Nat) : Int)).map vD), .list [], .lst (SqL.of (s5 _ _ p4)) (flats_dp fun z hz => by obtain ⟨y, _, rfl⟩ := List.mem_map.mp hz; exact .int _), .lst (SqL.of upd_same) .nil, (Lv.list (n := 0) fun dd hdd => by
            obtain ⟨z, hz, rfl⟩ := List.mem_map.mp hdd
            obtain ⟨y, _, rfl⟩ := List.mem_map.mp hz
            exact Lv.int _).shaped (by decide), shaped_nil, _, rfl, ?_⟩
          rw [eqv_nil]
          have sB := sA.trans s5
          have p5 := s5 _ _ p4
          generalize upd H4 e2 (.lst []) = H5 at sB p5
          have kk := k H5 sB
          cases hm : (List.range (rows.length - 1)).filter fun g => !(bs.getD (g + 1) false) with
          | nil =>
            have fn : first (fun j => !(bs.getD j false)) bs.length = none := first_none fun j hj => by
              cases j with
              | zero => rw [q6 (by omega)]; rfl
              | succ g =>
                cases hb : bs.getD (g + 1) false with
                | true => rfl
                | false =>
                  have : g ∈ (List.range (rows.length - 1)).filter fun g => !(bs.getD (g + 1) false) := List.mem_filter.mpr ⟨List.mem_range.mpr (by omega), by rw [hb]; rfl⟩
                  rw [hm] at this; cases this
            rw [hf, fn] at kk
            exact iteF kk
          | cons g gs =>
            obtain ⟨g1, g2, g3⟩ := filt_head hm
            have fs : first (fun j => !(bs.getD j false)) bs.length = some (g + 1) := first_some (by omega) (fun j hj => by
              cases j with
              | zero => rw [q6 (by omega)]; rfl
              | succ j => exact g3 j (by omega)) g2
            rw [hf, fs] at kk
            rw [hm] at p5
            exact iteT ⟨_, rfl, C, _, _, _, rfl, rfl, SqL.of p5, at_of (j := 0) rfl rfl, kk⟩
end
end K1
end
section
set_option maxRecDepth 100000
set_option maxHeartbeats 4000000
namespace K1
open PySem PyProof.Rows L2 K01
section
variable {P : Program} {w : World} {K : PySem.W.Frag} {mg : Str → Option Value} {base : Heap}
abbrev sFD : Stmt := top 69
def spFD (K : PySem.W.Frag) : Sp := fun vs H Q _ => ∃ (n t b : Addr) (ms : List Str) (ps : List Addr) (rows : List (List V)) (xs : List Int), vs = [.ref n, .ref t, .ref b] ∧ SqT K H n ((nodes ms).map V.str) ∧ (nodes ms).Nodup ∧ ms.length ≤ 100 ∧ H t = some (.lst (ps.map V.ref)) ∧ RowsAt2 K H ps rows ∧ rows.length ≤ 900 ∧ (∀ r ∈ rows, ∀ z : Str, V.str z ∈ r → AscZ z) ∧ SqT K H b (xs.map V.int) ∧ xs.length = ms.length ∧
  (∀ k H' l, treeFault (nodes ms) rows = some k → Same H H' → H' l = some (.lst [.str "tree", .int (k : Nat)]) → Q (.ref l) H') ∧
  (treeFault (nodes ms) rows = none → ∀ j H' q, Same H H' → ps[j]? = some q → Goes (fun z => (0 :: xs).getD (ix ms z) 0) rows 0 j → Q (.ref q) H')
theorem scFD : FnScope ["nodes", "tr", "places"] ["nodes", "tr", "places"] (defScope sFD) := ⟨rfl, rfl, rfl, by decide +kernel, rfl, by decide +kernel, by decide +kernel⟩
theorem ok_fd {f fT fL fS : Addr} {fd fdT fdL fdS : FuncData} (F : Fun K "_law_follow_due" "_law_follow_due" sFD f fd) (T : Bi mg) (FT : Fun K "_law_tree_fault" "_law_tree_fault" sTFa fT fdT) (bT : Binds K fdT ["nodes", "tr"] []) (mT : mg "_law_tree_fault" = some (.ref fT))
    (FL : Fun K "_law_leaf_at" "_law_leaf_at" sLA fL fdL) (bL : Binds K fdL ["tr", "spots"] []) (mL : mg "_law_leaf_at" = some (.ref fL)) (FS : Fun K "_law_spots_of" "_law_spots_of" sSpO fS fdS) (bS : Binds K fdS ["ms", "places"] []) (mS : mg "_law_spots_of" = some (.ref fS)) :
    FnOk P w K mg base CX0 2 f fd ["nodes", "tr", "places"] (spFD K) := by
  have GT : FnOk P w K mg base CX0 1 fT fdT ["nodes", "tr"] (spTFa K) := ok_tfa FT T
  have GL : FnOk P w K mg base CX0 1 fL fdL ["tr", "spots"] (spLA K) := ok_la FL T
  have GS : FnOk P w K mg base CX0 1 fS fdS ["ms", "places"] (spSpO K) := ok_spo FS T
  refine F.ok scFD (fun vs H Q E h => ?_) (fun cdv A outer s H vs Q E hr h => ?_)
  · obtain ⟨_, _, _, _, _, _, _, rfl, _⟩ := h
    rfl
  · obtain ⟨n, t, b, ms, ps, rows, xs, rfl, hn, hN, hml, ht, hT, hrl, has, hb, hxl, kF, kL⟩ := h
    refine ⟨_, pss_cons (ps_if (pt_cmpR op_notN (pe_call GT hr rfl mT FT.kp bT .nil pass0 (pa_cons (pv 0) (pa_cons (pv 1) pa_nil))) pe_non (nomark _)) (pss_one (ps_ret (pe_lst (pa_cons pe_str (pa_cons (pe_call GT hr rfl mT FT.kp bT .nil pass0 (pa_cons (pv 0) (pa_cons (pv 1) pa_nil))) pa_nil))))) pss_nil)
      (pss_one (ps_ret (pe_ix ix_list (pv 1) (pe_call GL hr rfl mL FL.kp bL .nil pass0 (pa_cons (pv 1) (pa_cons (pe_call GS hr rfl mS FS.kp bS .nil pass0 (pa_cons (pe_slice sl_tupA (pv 0) (po_some pe_int) po_none) (pa_cons (pv 2) pa_nil))) pa_nil))) (fun _ _ => rfl)))), ?_⟩
    refine ⟨_, rfl, _, rfl, n, t, ms, ps, rows, rfl, hn, ht, hT, hrl, has, fun H1 s1 => ⟨rfl, _, rfl, ?_⟩⟩
    have hn1 := Same.tup (K := K) s1 hn
    have ht1 := s1 _ _ ht
    cases e : treeFault (nodes ms) rows with
    | some k =>
      refine iteNF (fun q => nomatch q) ⟨_, rfl, _, rfl, n, t, ms, ps, rows, rfl, hn1, ht1, hT.same s1, hrl, has, fun H2 s2 => ?_⟩
      rw [e]
      exact ⟨by show 2 ≤ sizeLine; decide, fun l hl => kF k _ l e ((s1.trans s2).trans (Same.new hl)) upd_same⟩
    | none =>
      refine iteNS rfl ?_
      obtain ⟨h0, hg⟩ := tree_good (fun r hr ha => by
        obtain ⟨i, hi⟩ := List.getElem?_of_mem hr
        have hl : i < ps.length := by rw [hT.len]; exact (List.getElem?_eq_some_iff.mp hi).1
        exact (hT.row i ps[i] r (List.getElem?_eq_getElem hl) hi).2.2 ha) e
      refine ⟨_, rfl, _, rfl, _, rfl, _, rfl, ?_⟩
      dsimp only [tNoPart]
      refine slA_it hn1 fun u H2 s2 hu => ?_
      have ec : cutV ((nodes ms).map V.str) (some 1) none = ms.map V.str := cut_drop _ 1
      rw [ec] at hu
      have s12 := s1.trans s2
      refine ⟨_, rfl, u, b, ms, xs, rfl, hu, hN, Same.tup s12 hb, hxl, hml, fun H3 d s3 hd => ?_⟩
      have s13 := s12.trans s3
      refine ⟨t, d, ms, 0 :: xs, ps, rows, rfl, s13 _ _ ht, hT.same s13, hrl, h0, has, hg, hd, fun j H4 s4 hj hG => ?_⟩
      have hq : ps[j]? = some (ps[j]'(by rw [hT.len]; exact hj)) := List.getElem?_eq_getElem _
      exact ⟨t, _, _, _, rfl, rfl, SqL.of ((s13.trans s4) _ _ ht), atI_nat (by rw [List.getElem?_map, hq]; rfl), kL e j H4 _ (s13.trans s4) hq hG⟩
end
end K1
end
section
set_option maxRecDepth 100000
set_option maxHeartbeats 4000000
namespace PySem
namespace K1X
open PySem.W PySem.Calls PyProof.Rows PySem.HandSPX PySem.Spec
/-- what an __init__ that only calls super leaves of a fresh exception -/
structure InitEnd0 (h h' : Heap) (x C : Addr) : Prop where
  keep : ∀ b o, b ≠ x → h.get? b = some o → h'.get? b = some o
  obj : ∃ t1 : Addr, h'.get? x = some (excO C t1)
section
variable {P : Program} {w : World} {A : Around} {R : Result → Shared → Prop} {s : Shared} {K : Frag} {mg : Str → Option Value} {C fI cc cda e t0 : Addr} {qual : Str} {js : Expr} {p0 p1 p2 p3 p4 : Pos}
theorem init_super0 {params : Arguments} {scope : Scope} {ar : Arg} {oc doc pm ct ccl cl : Value} {od an cdd cld : Option Addr} {osl ccs csl : Array (Option Value)} {vs : Array Value} {file : Str} {tf : Tok}
    {nm q : Str} {N : Addr} {bs bm : List Value} {sn : List Str} {sub : List Value} {ab : Bool} {col : Option Bool} {dd : Option Addr} {k0 k1 k2 k3 k5 : Option Value}
    (X : K.In s.heap) (hlim : s.heap.NoLimit) (G : s.heap.Ns mainGlobals mg) (Bt : ∃ mb, s.heap.Ns builtinsNs mb ∧ ∀ x : Str, x ≠ "__name__" → mb x = bootBuiltins x) (hsup : mg "super" = none)
    (hC : K.lookup C = some (excClassObj nm q C N bs bm true sn sub ab col dd k0 k1 k2 k3 k5 "ValueError.__new__")) (hbm : refsVE bm = true)
    (vE : subIn K (.ref C) (.type "ValueError") = some true) (su : ks_superIn K C C "__init__" = some (some (.builtin "ValueError.__init__"))) (mr : mroIn K C (.ref C) = some true) (st : nsIn K cStatics "thirdparty.any" = some none)
    (ho : K.lookup fI = some ⟨oc, od, .func (ksFn "__init__" qual params [.Expr (.Call (.Attribute (.Call (.Name "super" p0) [] [] p1) "__init__" p2) [js] [] p3) p4] scope .none .none doc pm an (.ref cda) ct cc), osl⟩)
    (hcd : codeIn K (.ref cda) qual = true) (hcode : K.lookup cda = some ⟨ccl, cdd, .fields vs, ccs⟩) (hvs : vs[2]? = some (.str file tf)) (hfile : ((P.main.file : Str) == file) = true) (hcell : K.lookup cc = some ⟨cl, cld, .cell (some (.ref C)), csl⟩)
    (hp : (params.posonlyargs ++ params.args).head? = some ar) (har : ar.arg = "self")
    (hbind : ∀ s' : Shared, BindsTo s' (ksFn "__init__" qual params [.Expr (.Call (.Attribute (.Call (.Name "super" p0) [] [] p1) "__init__" p2) [js] [] p3) p4] scope .none .none doc pm an (.ref cda) ct cc) ⟨[.ref e], []⟩ [("self", .ref e)])
    (hks : scope.names.lookup ("super" : Str) = some .globalImplicit) (hkc : scope.names.lookup ("__class__" : Str) = some .free) (hka : scope.names.lookup ("self" : Str) = some .local) (hk : scope.kind = .function)
    (hnc : ∀ x ∈ scope.names, x.2 ≠ .cell) (hco : scope.isCoroutine = false) (hgen : scope.isGenerator = false) (htop : (P.main.scope.names.lookup ("super" : Str)).isSome = false)
    (hst : ∀ env : Env, starEach [js] env = [(false, eval js env)])
    (hin : ∀ L : Addr, interactive (ksEnv qual scope L fI (.ref cda) cc) = false)
    (hsw : ∀ (f L : Addr), swapsWith (.Call (.Attribute (.Call (.Name "super" p0) [] [] p1) "__init__" p2) [js] [] p3) none p4.line (ksEnv qual scope L f (.ref cda) cc) = pure false)
    {pl : Addr → Sem Bool} (hev : ∀ L : Addr, eval (.Call (.Attribute (.Call (.Name "super" p0) [] [] p1) "__init__" p2) [js] [] p3) (ksEnv qual scope L fI (.ref cda) cc) = (do
      let ov ← attributeBase (.Call (.Name "super" p0) [] [] p1) "__init__" (ksEnv qual scope L fI (.ref cda) cc) (eval (.Call (.Name "super" p0) [] [] p1) (ksEnv qual scope L fI (.ref cda) cc))
      standAt p2.atName
      let (f, first) ← holding [ov] (getMethod ov "__init__" (pl L))
      callWith p3 f first (backTo p3 (starEach [js] (ksEnv qual scope L fI (.ref cda) cc))) []))
    (hjs : ∀ (L : Addr) (B : Around) (EE : Value → Shared → Prop) (s' : Shared) (Q : Value → Shared → Prop), (∀ b o, s.heap.get? b = some o → s'.heap.get? b = some o) → B.units ≤ A.units + 20 →
      (∀ y tk tk', Q (.str y tk) { s' with toks := tk' }) → wpAny (model P w) B (eval js (ksEnv qual scope L fI (.ref cda) cc)) Q EE s')
    (hx : s.heap.get? e = some (excO C t0)) (hnx : K.lookup e = none) (hroom : A.depth < recursionLimit)
    (hq : ∀ h' tk, InitEnd0 s.heap h' e C → R (.ok (.ret .none)) { s with heap := h', toks := tk }) :
    codeAny (model P w) A (.call (.ref fI) ⟨[.ref e], []⟩) R s := by
  have hcl : clsIn K C = some { name := nm, bases := bs, mro := .ref C :: bm, ns := N, qualname := q, hasDict := true, slotNames := sn, subclasses := sub, abstract := ab, collection := col, hasDel := false } := by unfold clsIn; rw [hC] <;> rfl
  have hlocs : ∀ y ∈ ([("self", Value.ref e)] : List (Str × Value)), scope.names.lookup y.1 = some .local := by
    intro y hy
    rcases List.mem_cons.mp hy with rfl | hy
    · exact hka
    · cases hy
  refine ks_codeAny_call_defAt (fd := ksFn "__init__" qual params _ scope .none .none doc pm an (.ref cda) ct cc) (binds := [("self", .ref e)]) hroom (X _ _ ho) rfl hlim (codeRec_of X hcd) rfl (hbind s) hnc hlocs (fun h₁ hns k => ?_) hco hgen hk
  show wpAt (model P w) _ (.func _ (ksEnv qual scope s.heap.objs.size fI (.ref cda) cc)) (execs _ (ksEnv qual scope s.heap.objs.size fI (.ref cda) cc)) _ _ _
  have X₁ : K.In h₁ := X.keeps k
  have hx₁ := k _ _ hx
  obtain ⟨mb, Bn, Bv⟩ := Bt
  have hself : ([("self", Value.ref e)] : List (Str × Value)).reverse.lookup ("self" : Str) = some (.ref e) := by
    simp [List.lookup]
  refine ks_wpAt_execs_cons (ks_wpAt_Expr_any (ks_wpAt_MethodCall (pl := pl s.heap.objs.size) ?_ (hev _)) (hin _) (hsw _ _))
  refine ks_wpAt_super_base (env := ksEnv qual scope s.heap.objs.size fI (.ref cda) cc) hks hkc rfl rfl (X₁ _ _ ho) rfl hp rfl (X₁ _ _ hcode) rfl hvs hfile htop ?_
  refine ks_loadName_global hk hks (loadGlobal_builtin (env := ksEnv qual scope s.heap.objs.size fI (.ref cda) cc) (G.keeps k) hsup (Bn.keeps k) ((Bv "super" (by decide)).trans (by decide +kernel)) ⟨rfl, ?_⟩)
  refine wpAny_loadName_free hk hkc rfl ⟨_, X₁ _ _ hcell, rfl⟩ ?_
  rw [har]
  refine wpAny_loadName_local hk hka hns (v := .ref e) hself ?_
  refine ks_wpAny_isType_cls (X₁ _ _ hC) rfl ⟨rfl, ?_⟩
  refine ks_wpAny_call_super (X₁ _ _ hC) rfl hx₁ rfl (fun c z => by cases z) (looks_mroIn X₁ mr) (fun h₂ hso k₂ => ?_)
  have X₂ : K.In h₂ := X₁.keeps k₂
  have hx₂ := k₂ _ _ hx₁
  have I₂ : InstAt h₂ e (excO C t0) C none := ⟨hx₂, rfl, rfl, trivial⟩
  have hI : Looks (model P w) h₂ (isInstance (.ref e) (.type "ValueError")) true := I₂.type.andThen (looks_subIn X₂ vE)
  have su' : alongIn K "__init__" (((Value.ref C :: bm).dropWhile (· != .ref C)).drop 1) = some (some (.builtin "ValueError.__init__")) := by
    unfold ks_superIn at su
    rw [hcl] at su
    exact su
  refine kxs_getMethod kxs_ValueError hso (looks_opaque X₂ st) (l₀ := .ref C :: bm) (fun A Q E s k q => wpAny_bind ((looks_clsIn X₂ hcl) A _ E s k (wpAny_pure q))) rfl X₂ su' hI (ks_ne X₂ I₂ hcl) rfl ?_
  have k3 : ∀ b o, s.heap.get? b = some o → (h₂.push (kxs_mw "ValueError.__init__" e)).get? b = some o := fun b o q => Heap.get?_push_of_some _ (k₂ _ _ (k _ _ q))
  refine kxs_callWith (i := "ValueError.__init__") (x := e) (by rw [hst]; rfl) ?_
  rw [hst]
  refine PySem.Calls.evalArgs_plain ?_
  refine PySem.Calls.spliced_cons (hjs _ _ _ _ _ k3 ?_ fun y tk tk' => ?_)
  · show A.units + 3 ≤ A.units + 20
    omega
  refine PySem.Calls.spliced_nil ⟨?_, ?_⟩
  · exact Heap.get?_push_at rfl rfl
  refine vcall (t0 := t0) (X₂.keeps (fun _ _ q => Heap.get?_push_of_some _ q) _ _ hC) (Heap.get?_push_of_some _ hx₂) (Heap.get?_push_at rfl rfl) (by rw [sizeLine_eq]; exact (by decide : 1 ≤ 16777216)) fun h₄ t1 k₄ hx₄ => ?_
  refine wpAt_of_wpAny ?_
  exact wpAny_execs_nil (hq h₄ _ ⟨fun b o hb q => k₄ b o hb (k3 b o q), ⟨t1, hx₄⟩⟩)
end
/-- what the written part says of an own error class without fields -/
structure XC0 (P : Program) (K : Frag) (mg : Str → Option Value) (x : Str) (C fI : Addr) : Prop where
  gC : mg x = some (.ref C)
  cls : ∃ nm q N bs bm sn sub ab col dd k0 k1 k2 k3 k5, K.lookup C = some (excClassObj nm q C N bs bm true sn sub ab col dd k0 k1 k2 k3 k5 "ValueError.__new__") ∧ refsVE bm = true
  iC : findIn K (.ref C) "__init__" = some (some (.ref fI))
  tC : typeIn K (.ref fI) = some (.type "function")
  kC : keepIn K (.ref C) = true
  exC : subIn K (.ref C) (.type "BaseException") = some true
  tyC : typeIn K (.ref C) = some (.type "type")
  run : ∀ (w : World) (A : Around) (s : Shared) (R : Result → Shared → Prop) (e t0 : Addr), K.In s.heap → s.heap.NoLimit → s.heap.Ns mainGlobals mg → (∃ mb, s.heap.Ns builtinsNs mb ∧ ∀ x : Str, x ≠ "__name__" → mb x = bootBuiltins x) →
    s.heap.get? e = some (excO C t0) → K.lookup e = none → A.depth < recursionLimit → A.units + 40 < cLine →
    (∀ h' tk, InitEnd0 s.heap h' e C → R (.ok (.ret .none)) { s with heap := h', toks := tk }) → codeAny (model P w) A (.call (.ref fI) ⟨[.ref e], []⟩) R s
/-- a made one -/
structure Made0 (h h' : Heap) (e C : Addr) : Prop where
  keep : ∀ b o, h.get? b = some o → h'.get? b = some o
  new : h.objs.size ≤ e
  obj : ∃ oe vs, h'.get? e = some oe ∧ oe.cls = .ref C ∧ oe.dict = none ∧ oe.data = .fields vs ∧ vs[1]? = some .none ∧ vs[2]? = some .none
theorem made0 {P : Program} {w : World} {A : Around} {R : Result → Shared → Prop} {s : Shared} {K : Frag} {mg : Str → Option Value} {x : Str} {C fI : Addr} (T : XC0 P K mg x C fI) (X : K.In s.heap) (hlim : s.heap.NoLimit)
    (G : s.heap.Ns mainGlobals mg) (Bt : ∃ mb, s.heap.Ns builtinsNs mb ∧ ∀ x : Str, x ≠ "__name__" → mb x = bootBuiltins x) (hroom : A.depth + 1 < recursionLimit) (hu : A.units + 41 < cLine)
    (hq : ∀ h' tk e, Made0 s.heap h' e C → R (.ok (.ret (.ref e))) { s with heap := h', toks := tk }) :
    codeAny (model P w) A (.call (.ref C) ⟨[], []⟩) R s := by
  obtain ⟨nm, q, N, bs, bm, sn, sub, ab, col, dd, k0, k1, k2, k3, k5, hC, hbm⟩ := T.cls
  obtain ⟨hp, g, dr, tk, os⟩ := s
  have k : ∀ b o, hp.get? b = some o → ((hp.push (kdv_tup [])).push (excO C hp.objs.size)).get? b = some o := fun b o e => Heap.get?_push_of_some _ (Heap.get?_push_of_some _ e)
  have hget : ((hp.push (kdv_tup [])).push (excO C hp.objs.size)).get? (hp.objs.size + 1) = some (excO C hp.objs.size) := by heap_get
  have hnx : K.lookup (hp.objs.size + 1) = none := by
    cases e : K.lookup (hp.objs.size + 1) with
    | none => rfl
    | some o =>
      have z : hp.get? (hp.objs.size + 1) = some o := X _ _ e
      exact absurd (Nat.lt_of_succ_lt (Heap.lt_size z)) (Nat.lt_irrefl _)
  obtain ⟨mb, B1, B2⟩ := Bt
  refine call_own F.excBase_ValueError (fun X => refsVE_contains X bm hbm) (X _ _ hC) (looks_findIn X T.iC) (fun self => bind_fn X self T.tC) (Nat.zero_le _) ?_
  refine T.run w _ ⟨(hp.push (kdv_tup [])).push (excO C hp.objs.size), g, dr, tk, os⟩ _ (hp.objs.size + 1) hp.objs.size (X.keeps k) (hlim.keeps k) (G.keeps k) ⟨mb, B1.keeps k, B2⟩ hget hnx ?_ ?_ fun h' tk' ⟨k', hx⟩ => ?_
  · show A.depth + 1 < recursionLimit
    exact hroom
  · have : (A.under (.builtin "type.__call__" ⟨.ref C :: [], []⟩)).units = A.units + 1 := L2.make_units
    rw [this]
    omega
  · have old : ∀ b o, hp.get? b = some o → h'.get? b = some o := fun b o e => k' b o (Nat.ne_of_lt (Nat.lt_succ_of_lt (Heap.lt_size e))) (k b o e)
    obtain ⟨t1, hx⟩ := hx
    exact ⟨rfl, hq h' tk' (hp.objs.size + 1) ⟨old, Nat.le_succ _, ⟨_, _, hx, rfl, rfl, rfl, rfl, rfl⟩⟩⟩
end K1X
end PySem
namespace L2
open PySem PySem.Spec PyProof.Rows
section
variable {X : Cx} {C fI : Addr} {x : Str}
/-- C() -/
def tMkX0 (C : Addr) : St → Hp → XK → Prop := fun _ H Q => Q (.ref C) none H
theorem pmk_x0 {p pos : Pos} {k : Nat} (T : PySem.K1X.XC0 X.prog X.K X.mg x C fI) (hr : Room k X.A) (hg : Gl X x) (hdb : (x == ("__debug__" : Str)) = false := by decide) : L2N.PMk X (.Call (.Name x p) [] [] pos) (tMkX0 C) := by
  intro pins s σ H Q I h
  refine wpAny_Call_Name_kw (ld_glob I hg T.gC ?_ hdb)
  refine PySem.W.callWith_K0 I.kIn T.kC ?_
  show wpAny _ _ (call (.ref C) []) _ _ _
  have hG := I.mod.glob.keeps I.bk
  obtain ⟨mb, b1, b2⟩ := I.mod.blt
  have hB := b1.keeps I.bk
  have hlim := I.nolimit
  refine wpAny_call (PySem.K1X.made0 T I.kIn hlim hG ⟨mb, hB, b2⟩ (by have := hr.dp; omega) (by have := hr.un; omega) fun h' tk' e M => ?_)
  obtain ⟨oe, fv, hoe, hc, hd, hdat, h1, h2⟩ := M.obj
  exact ⟨e, oe, fv, s, H, .ref C, none, rfl, I, M.keep, Heap.get?_none_of_le M.new, hoe, ⟨hc, hd, fun vs q => by rw [hdat] at q; cases q; exact h2⟩, hdat, h1, I.hok.fresh M.new, rfl, I.bare, raises_own T.exC T.tyC, h⟩
def tRaiseX0 (C : Addr) (W : WX) : TS := fun _ σ H => W (.ref C) none σ H
theorem ps_raiseX0 {W : WX} {p pos pos2 : Pos} {k : Nat} (hc : X.calm = true) (T : PySem.K1X.XC0 X.prog X.K X.mg x C fI) (hr : Room k X.A) (tk : L2N.Takes X W) (hg : Gl X x) (hdb : (x == ("__debug__" : Str)) = false := by decide) :
    PS X (.Raise (some (.Call (.Name x p) [] [] pos)) none pos2) (tRaiseX0 C W) := L2N.ps_raise hc tk (pmk_x0 T hr hg hdb)
/-- e.fld, e a pinned exception -/
theorem pe_getXP {p : Addr × Obj} {fld : Str} {Ok : Value → Heap → Prop} {cls : Value} {d : Option Addr} {e : Expr} {te : TE} {pos : Pos} (T : PySem.K1X.XC X.prog X.K X.mg x fld C fI Ok) (hp : p ∈ X.pn) (hz : Zc cls d p.2) (hf : ∃ vs, p.2.data = .fields vs) (he : PE X e te)
    (hb : attributeBase e fld X.env (eval e X.env) = eval e X.env := by rfl) : PE X (.Attribute e fld pos) (tGetX C fld p.1 cls d te) := by
  refine ⟨fun pins s σ H Q I h => ?_⟩
  refine attr_of hb (thn (he.run pins s σ H _ I h) fun u s1 hh => ?_)
  obtain ⟨y, H1, I1, rx, ex, ec, dd, v, ed, ea, q⟩ := hh
  subst ex
  obtain rfl : u = Value.ref p.1 := rx
  subst ec
  subst ed
  obtain ⟨ha, _⟩ := I1.pin p (List.mem_append_left _ hp)
  obtain ⟨vs, hd⟩ := hf
  have hx : ObjOk X.prog X.w H1 s1.heap dd (.xd [(fld, v)]) := I1.hok dd _ ea
  obtain ⟨mA, hns, hr⟩ := hx
  obtain ⟨od, ho, hl⟩ := lookIn_ns hns
  have l : List.lookup fld [(fld, v)] = some v := by simp [List.lookup]
  obtain ⟨u, hu, ru⟩ := RelO.some_of (v := v) (o := mA fld) (by rw [← l]; exact hr fld)
  have J : PySem.W.InstAt s1.heap p.1 p.2 C (some od) := ⟨ha, hz.1, by unfold PySem.W.notCls; rw [hd] <;> rfl, by rw [hz.2]; exact ho⟩
  exact HandSPX.exc_get I1.kIn J T.ga T.gg T.exC (PySem.W.findObj_own T.hdC T.noN rfl (by rw [hl, hu])) (handed_of ru) ⟨v, H1, I1.tok _, ru, q⟩
/-- isinstance of a pinned error without a dict -/
theorem call_isEP {p : Addr × Obj} {D : Addr} (C : ExcC X.K D) (hp : p ∈ X.pn) (hz : Zc (.ref D) none p.2) (hf : ∃ vs, p.2.data = .fields vs) : CallR X (.builtin "isinstance") (rIsE X.K D p.1) := by
  intro pins s σ H xs us Q I r h
  obtain ⟨c, cv, b, rfl, hcv, e, q⟩ := h
  cases r with
  | cons rx rr =>
    cases rr with
    | cons rt rr =>
      cases rr
      cases rx
      have ec := hcv _ rt
      subst ec
      obtain ⟨hget, _⟩ := I.pin p (List.mem_append.mpr (.inl hp))
      obtain ⟨vs, hv⟩ := hf
      have J : PySem.W.InstAt s.heap p.1 p.2 D none := ⟨hget, hz.1, by unfold PySem.W.notCls; rw [hv] <;> rfl, by rw [hz.2]; trivial⟩
      exact PySem.W.kia_one (PySem.W.handS_kitx_exc C.hg C.hk C.hs C.hd C.ha C.hn C.ht C.hm) I.kIn J e (fun z => nomatch z) fun tk => ⟨.bl b, H, I.kept (t' := tk) fun _ _ z => z, rfl, q⟩
end
end L2
end
section
set_option maxRecDepth 100000
set_option maxHeartbeats 4000000
namespace L2
open PySem PySem.Spec PyProof.Rows
/-- an error that flies over our frames, beside the state without it -/
structure Flies (X : Cx) (pins : List (Addr × Obj)) (σ : L2.St) (H : Hp) (sI : Shared) (B : Heap) (a : Addr) (cls : Value) (d : Option Addr) (s : Shared) : Prop where
  inv : Inv X pins σ H sI
  nb : ∀ b o, sI.heap.get? b = some o → b ∉ frs X.stack → B.get? b = some o
  up : sI.heap.UpToSlots s.heap
  fly : HandSPX.FlyingZ B (X.env :: X.outer) a (L2N.Zn cls d) s.heap
  na : H a = none
  os : s.os = sI.os
  ag : AllBare s.gens
section
variable {X : Cx} {pins : List (Addr × Obj)} {σ : L2.St} {H : Hp} {sI s0 : Shared} {B h3 : Heap} {a : Addr} {cls : Value} {d : Option Addr}
theorem Flies.state (F : Flies X pins σ H sI B a cls d s0) : Inv X pins σ H s0 := Inv.landed F.inv F.nb F.fly.1 F.up F.os F.ag
theorem Flies.fresh (F : Flies X pins σ H sI B a cls d s0) (hf : X.env.frame = some X.env.locals) {oe : Obj} {vs : Array Value} (he : s0.heap.get? a = some oe) (hd : oe.data = .fields vs) : a ≠ X.env.locals ∧ a ∉ X.fs := by
  have off : ∀ b ∈ frs (X.env :: X.outer), a ≠ b := by
    rintro b hb rfl
    obtain ⟨_, o', e', hnf⟩ := Heap.FunFrames.mem F.fly.2.2.1 hb
    cases he.symm.trans e'
    exact hnf vs hd
  refine ⟨off _ (List.mem_filterMap.mpr ⟨X.env, List.mem_cons_self, hf⟩), fun hm => ?_⟩
  obtain ⟨e, he, q⟩ := List.mem_filterMap.mp hm
  exact off a (List.mem_filterMap.mpr ⟨e, List.mem_cons_of_mem X.env he, q⟩) rfl
/-- behind the suite the error stays where it was: pinned, not handled -/
theorem Inv.behind {oe : Obj} (ok : X.Ok) (I : Inv (X.suite a ((a, oe) :: (X.pn ++ pins))) [] σ H s0) : Inv (X.tr ((a, oe) :: (X.pn ++ pins)) X.xe) [] σ H s0 where
  ok := ok.toTry _ _
  os := I.os
  bare := I.bare
  base := I.base
  loc := I.loc
  cell := I.cell
  free := I.free
  freeC := I.freeC
  pin := I.pin
  hok := I.hok
  len := I.len
theorem Inv.unpin {q : Addr × Obj} {l : List (Addr × Obj)} {xe : Value → Shared → Prop} (ok : X.Ok) (I : Inv (X.tr (q :: (X.pn ++ pins)) xe) l σ H s0) : Inv X pins σ H s0 where
  ok := ok
  os := I.os
  bare := I.bare
  base := I.base
  loc := I.loc
  cell := I.cell
  free := I.free
  freeC := I.freeC
  pin := fun p hp => I.pin p (List.mem_append.mpr (.inl (.tail _ hp)))
  hok := I.hok
  len := I.len
theorem unpin_sp {q : Addr × Obj} {l : List (Addr × Obj)} {xe : Value → Shared → Prop} {D : Ends} (ok : X.Ok) : ∀ {f : Flow}, SP (X.tr (q :: (X.pn ++ pins)) xe) l D f s0 → SP X pins D f s0
  | .next, ⟨_, _, J, w⟩ => ⟨_, _, J.unpin ok, w⟩
  | .brk, ⟨_, _, J, w⟩ => ⟨_, _, J.unpin ok, w⟩
  | .cont, ⟨_, _, J, w⟩ => ⟨_, _, J.unpin ok, w⟩
  | .ret _, ⟨_, _, _, J, r, w⟩ => ⟨_, _, _, J.unpin ok, r, w⟩
end
/-- how a suite ends, where the rest goes on behind it -/
abbrev endR (i : Nat) (t : TS) (D : Ends) : Ends := { nx := fun σ' H' => t D (σ'.set i none) H', rt := D.rt, bk := fun σ' H' => D.bk (σ'.set i none) H', ct := fun σ' H' => D.ct (σ'.set i none) H' }
/-- what [try: body, except x as n: suite, then rest] wishes of an error: behind the suite the rest goes on, where the error is pinned -/
def wAsR (K : PySem.W.Frag) (c : Value) (i : Nat) (ts tr : Addr → Value → Option Addr → TS) (Wout : WX) (D : Ends) : WX := fun cls d σ H =>
  ∃ b, PySem.W.exmOne K cls c = some b ∧ (b = true → ∀ a, H a = none → ts a cls d (endR i (tr a cls d) D) (σ.set i (some (.ref a))) H) ∧ (b = false → Wout cls d σ H)
section
variable {X : Cx} {x n : Str} {c : Value} {i : Nat} {body suite rest : List Stmt} {b₀ : Stmt} {np pos pos' : Pos} {tb : WX → TS} {ts tr : Addr → Value → Option Addr → TS} {t0 : TS} {Wout : WX} {D : Ends} {pins : List (Addr × Obj)} {σ : L2.St} {H : Hp} {sI s0 : Shared} {B : Heap} {a : Addr} {cls : Value} {d : Option Addr}
/-- the end of the try, and the rest -/
abbrev goOn (X : Cx) (rest : List Stmt) (pins : List (Addr × Obj)) (D : Ends) : Flow → Shared → Prop
  | .next, s' => wpAny (model X.prog X.w) X.A (execs rest X.env) (SP X pins D) X.xe s'
  | f, s' => SP X pins D f s'
/-- the clause -/
theorem clause_then (hs : X.stack = X.env :: X.outer) (hf : X.env.frame = some X.env.locals) (hN : X.N.Nodup) (hi : X.N[i]? = some n) (hln : X.env.kindOf n = some .local) (named : Names X x c) (tk : L2N.Takes X Wout)
    (hsu : ∀ (a : Addr) (oe : Obj) (cls : Value) (d : Option Addr) (pn : List (Addr × Obj)), L2N.Zn cls d oe → (∃ vs, oe.data = .fields vs) → PSs (X.suite a ((a, oe) :: pn)) (b₀ :: suite) (ts a cls d))
    (hr1 : ∀ (a : Addr) (oe : Obj) (cls : Value) (d : Option Addr) (pn : List (Addr × Obj)), L2N.Zn cls d oe → (∃ vs, oe.data = .fields vs) → PSs (X.tr ((a, oe) :: pn) X.xe) rest (tr a cls d))
    (F : Flies X pins σ H sI B a cls d s0) (hw : wAsR X.K c i ts tr Wout D cls d σ H) :
    wpAny (model X.prog X.w) X.A (handleBy (.ref a) X.env [.ExceptHandler (some (.Name x np)) (some n) (b₀ :: suite) pos']) (goOn X rest pins D) X.xe s0 := by
  have ok := F.inv.ok
  obtain ⟨o1, u1, e1, z1, d1⟩ := HandSPX.FlyingZ.there F.fly
  obtain ⟨nL, nF⟩ := F.fresh hf e1 d1
  have S1 := F.state.suite e1 d1 F.na nL nF
  obtain ⟨t, ht, yes, no⟩ := hw
  refine wpAny_handleBy_cons (codeAny_handlers_test ?_) (fun q => nomatch q)
  have L1 : PySem.W.Looks (model X.prog X.w) s0.heap (typeOf (.ref a)) cls := fun A Q E s k q => wpAny_typeOf_ref (k _ _ e1) (by rw [z1.1]; exact q)
  have clsName : ∀ {Q : Value → Shared → Prop} {E : Value → Shared → Prop}, Q c s0 → wpAny (model X.prog X.w) (X.A.mark (some (.ref a))) (eval (.Name x np) X.env) Q E s0 := fun {Q E} q =>
    match named with
    | ⟨g, db, .inl m⟩ => ld_glob (X := X.suite a ((a, o1) :: (X.pn ++ pins))) S1 g m q db
    | ⟨g, db, .inr ⟨m, v, ne⟩⟩ => ld_blt (X := X.suite a ((a, o1) :: (X.pn ++ pins))) S1 g m v q ne db
  refine clsName ((PySem.W.exm_one (M := model X.prog X.w) F.state.kIn L1 ht).here ?_)
  cases t with
  | true =>
    refine codeAny_handlers_suite_as (HandSPX.lands_againZ F.fly fun h2 fl2 up2 => ?_)
    have F2 : Flies X pins σ H sI B a cls d { s0 with heap := h2 } := { inv := F.inv, nb := F.nb, up := F.up.trans up2, fly := fl2, na := F.na, os := F.os, ag := F.ag }
    obtain ⟨o2, u2, e2, z2, d2⟩ := HandSPX.FlyingZ.there fl2
    have S2 := F2.state.suite e2 d2 F.na nL nF
    refine store_ok (X := X.suite a ((a, o2) :: (X.pn ++ pins))) (v := .ref a) S2 hN hi (.inl hln) rfl (fun s3 S3 => ?_) (.inr hln)
    refine wpAny_mono ((hsu a o2 cls d (X.pn ++ pins) z2 ⟨_, d2⟩).run [] s3 _ H _ S3 (yes rfl a F.na)) ?_ (fun _ _ z => z.elim)
    have gone : ∀ {σ4 : L2.St} {H4 : Hp} {s4 : Shared} {Q : Shared → Prop}, Inv (X.suite a ((a, o2) :: (X.pn ++ pins))) [] σ4 H4 s4 → (∀ s5, Inv (X.tr ((a, o2) :: (X.pn ++ pins)) X.xe) [] (σ4.set i none) H4 s5 → Q s5) →
        wpAny (model X.prog X.w) X.A (do bindName X.env n .none; unbindBehindTheSuite X.env n pos') (fun _ s5 => Q s5) X.xe s4 := fun S4 q => gone_ok (X := X.tr ((a, o2) :: (X.pn ++ pins)) X.xe) (S4.behind ok) hN hi hln q
    intro f s4 w4
    match f, w4 with
    | .next, ⟨_, _, S4, q⟩ => exact gone S4 fun s5 J => thn ((hr1 a o2 cls d (X.pn ++ pins) z2 ⟨_, d2⟩).run [] s5 _ _ D J q) fun f s6 w6 => unpin_sp ok w6
    | .brk, ⟨_, _, S4, q⟩ => exact gone S4 fun s5 J => ⟨_, _, J.unpin ok, q⟩
    | .cont, ⟨_, _, S4, q⟩ => exact gone S4 fun s5 J => ⟨_, _, J.unpin ok, q⟩
    | .ret u, ⟨_, _, _, S4, r, q⟩ => exact gone S4 fun s5 J => ⟨_, _, _, J.unpin ok, r, q⟩
  | false =>
    show wpAny _ X.A (handleBy (.ref a) X.env []) _ _ _
    refine wpAny_handleBy_nil ?_
    obtain ⟨_, _, _, oe, vs, T, oT, _, he, _, hd, h1, _⟩ := id F.fly
    have out : ∀ {Q : Flow → Shared → Prop}, wpAny (model X.prog X.w) X.A (setFlight (.ref a) X.env.frame) (fun _ s4 => wpAny (model X.prog X.w) X.A (throw (.ref a) : Sem Flow) Q X.xe s4) X.xe s0 := fun {Q} => by
      rw [hf]
      refine HandSPX.setFlight_upZ F.fly fun h2 hh2 up2 => wpAny_throw (tk _ _ ?_)
      exact ⟨a, B, sI, pins, σ, H, cls, d, rfl, F.inv, F.nb, F.up.trans up2, .inr (.inr (by rw [hs]; exact hh2)), F.na, F.os, F.ag, no rfl⟩
    unfold PySem.passOn
    refine wpAny_bind (wpAny_field he hd h1 ?_)
    rw [if_neg (by simp)]
    first
      | exact wpAny_bind out
      | exact wpAny_bind (wpAny_pure (wpAny_bind out))
theorem pss_try_then (hs : X.stack = X.env :: X.outer) (hf : X.env.frame = some X.env.locals) (hN : X.N.Nodup) (hi : X.N[i]? = some n) (hln : X.env.kindOf n = some .local) (hc : Names X x c) (tk : L2N.Takes X Wout)
    (hb : ∀ (W : WX) (pn : List (Addr × Obj)) (xe : Value → Shared → Prop), L2N.Takes (X.tr pn xe) W → PassesOwn (model X.prog X.w) X.A X.env xe → PSs (X.tr pn xe) body (tb W))
    (hsu : ∀ (a : Addr) (oe : Obj) (cls : Value) (d : Option Addr) (pn : List (Addr × Obj)), L2N.Zn cls d oe → (∃ vs, oe.data = .fields vs) → PSs (X.suite a ((a, oe) :: pn)) (b₀ :: suite) (ts a cls d))
    (hr0 : PSs X rest t0)
    (hr1 : ∀ (a : Addr) (oe : Obj) (cls : Value) (d : Option Addr) (pn : List (Addr × Obj)), L2N.Zn cls d oe → (∃ vs, oe.data = .fields vs) → PSs (X.tr ((a, oe) :: pn) X.xe) rest (tr a cls d)) :
    PSs X (.Try body [.ExceptHandler (some (.Name x np)) (some n) (b₀ :: suite) pos'] [] [] pos :: rest) (fun D σ H => tb (wAsR X.K c i ts tr Wout D) { D with nx := t0 D } σ H) where
  run := by
    intro pins s σ H D I h
    have ok := I.ok
    have fr : X.A.frames = some (X.env :: X.outer) := by rw [ok.frames, hs]
    have caught : ∀ (xe : Value → Shared → Prop) (u : Value) (s' : Shared), L2N.XE (X.tr (X.pn ++ pins) xe) (wAsR X.K c i ts tr Wout D) u s' → wpAny (model X.prog X.w) X.A (noteFrame u X.env) (fun _ s₂ => wpAny (model X.prog X.w) X.A (setFlight u none)
        (fun _ s₃ => wpAny (model X.prog X.w) X.A (handleBy u X.env [.ExceptHandler (some (.Name x np)) (some n) (b₀ :: suite) pos']) (goOn X rest pins D) X.xe s₃) X.xe s₂) X.xe s' := by
      rintro xe u s' ⟨a, B, sI, pins', σ', H', cls, d, rfl, J', nb, up, sky, na, os, ag, w⟩
      refine L2N.Sky.land L2N.Zn.steady fr hf (by rw [← hs]; exact sky) fun h3 fl3 up3 => ?_
      exact clause_then hs hf hN hi hln hc tk hsu hr1 { inv := Inv.ofTry J' ok, nb := nb, up := up.trans up3, fly := fl3, na := na, os := os, ag := ag } w
    refine wpAny_execs_cons (wpAny_mono (wpAny_Try_except (Q := goOn X rest pins D) (wpAny_mono ((hb (wAsR X.K c i ts tr Wout D) (X.pn ++ pins) _ (fun u s' xx => ?_) PassesOwn.looking).run [] s σ H { D with nx := t0 D } (I.toTry _) h) ?_ (fun e s1 he => he))) (fun f s1 w => ?_) fun _ _ z => z)
    · exact caught _ u s' xx
    · intro f s1 w
      match f, w with
      | .next, ⟨_, _, J, q⟩ => exact wpAny_execs_nil (hr0.run pins s1 _ _ D (Inv.ofTry J ok) q)
      | .brk, ⟨_, _, J, q⟩ => exact ⟨_, _, Inv.ofTry J ok, q⟩
      | .cont, ⟨_, _, J, q⟩ => exact ⟨_, _, Inv.ofTry J ok, q⟩
      | .ret _, ⟨_, _, _, J, r, q⟩ => exact ⟨_, _, _, Inv.ofTry J ok, r, q⟩
    · cases f <;> exact w
end
end L2
end
section
set_option maxRecDepth 100000
set_option maxHeartbeats 4000000
namespace K1
open PySem PyProof.Rows L2 K01
section
variable {P : Program} {w : World} {K : PySem.W.Frag} {mg : Str → Option Value} {base : Heap}
abbrev sFo : Stmt := top 52
def spFo (K : PySem.W.Frag) (C CB CN : Addr) : Sp := fun vs H Q E => ∃ (x t n a b c p : Addr) (ms ts : List Str) (MS : List Fact) (B : Mat) (ps : List Addr) (rows : List (List V)) (xs : List Int), vs = [.ref x, .ref t, .ref n] ∧ ShI K H C x a b c p ms ts MS B ∧ ShG ms MS B ∧
  H t = some (.lst (ps.map V.ref)) ∧ RowsAt2 K H ps rows ∧ rows.length ≤ 900 ∧ SqT K H n (xs.map V.int) ∧ xs.length ≤ 900 ∧
  (¬(xs.length = ms.length ∧ Fits (ms.length + 1) B (0 :: xs)) → ∀ H', Same H H' → E (.ref CN) none H') ∧
  (xs.length = ms.length → Fits (ms.length + 1) B (0 :: xs) → ∀ k H' d, treeFault (nodes ms) rows = some k → Same H H' → H d = none → H' d = some (.xd [("index", .int (k : Nat))]) → E (.ref CB) (some d) H') ∧
  (xs.length = ms.length → Fits (ms.length + 1) B (0 :: xs) → treeFault (nodes ms) rows = none → ∀ j H' q, Same H H' → ps[j]? = some q → Goes (fun z => (0 :: xs).getD (ix ms z) 0) rows 0 j → Q (.ref q) H')
abbrev nsFo : List Str := ["sheet", "tree", "numbers", "clock", "spots", "at", "_", "x", "y", "number", "yes", "no"]
theorem scFo : FnScope nsFo ["sheet", "tree", "numbers"] (defScope sFo) := ⟨rfl, rfl, rfl, by decide +kernel, rfl, by decide +kernel, by decide +kernel⟩
theorem ok_fo {f fI fN fA fG fF fW fT fS fR fB C CB CN iB iN : Addr} {fd fdI fdN fdA fdG fdF fdW fdT fdS fdR fdB : FuncData} (F : Fun K "follow" "follow" sFo f fd) (T : Bi mg) (hall : mg "all" = none) (S : ShT K C)
    (FI : Fun K "__contains__" "Sheet.__contains__" sIn fI fdI) (bI : Binds K fdI ["self", "numbers"] []) (mI : Meth K C "__contains__" fI)
    (FR : Fun K "are_numbers" "are_numbers" sAre fR fdR) (bR : Binds K fdR ["x", "many"] []) (mR : mg "are_numbers" = some (.ref fR)) (FB : Fun K "fits" "fits" sFits fB fdB) (bB : Binds K fdB ["bounds", "numbers"] []) (mB : mg "fits" = some (.ref fB))
    (FT : Fun K "check_tree" "check_tree" sCT fT fdT) (bT : Binds K fdT ["sheet", "tree"] []) (mT : mg "check_tree" = some (.ref fT)) (FS : Fun K "spots_of" "spots_of" sSpots fS fdS) (bS : Binds K fdS ["marks"] []) (mS : mg "spots_of" = some (.ref fS))
    (FN : Fun K "names_of" "names_of" sNames fN fdN) (bN : Binds K fdN ["marks"] []) (mN : mg "names_of" = some (.ref fN)) (FA : Fun K "is_ask_row" "is_ask_row" sAsk fA fdA) (bA : Binds K fdA ["row"] []) (mA : mg "is_ask_row" = some (.ref fA))
    (FG : Fun K "is_good_ask" "is_good_ask" sGA fG fdG) (bG : Binds K fdG ["row", "names", "at", "named"] []) (mG : mg "is_good_ask" = some (.ref fG)) (FF : Fun K "is_fact" "is_fact" sFact fF fdF) (bF : Binds K fdF ["fact", "names"] []) (mF : mg "is_fact" = some (.ref fF))
    (FW : Fun K "is_whole" "is_whole" sWhole fW fdW) (bW : Binds K fdW ["x"] []) (mW : mg "is_whole" = some (.ref fW)) (XB : PySem.K1X.XC P K mg "BadTree" "index" CB iB OkInt) (XN : PySem.K1X.XC0 P K mg "NotRecording" CN iN) :
    FnOk P w K mg base (L2N.CX P w) 5 f fd ["sheet", "tree", "numbers"] (spFo K C CB CN) := by
  have GI : FnOk P w K mg base CX0 3 fI fdI ["self", "numbers"] (spIn K C) := ok_in FI S T hall FR bR mR FB bB mB FW bW mW
  have GT : FnOk P w K mg base (L2N.CX P w) 4 fT fdT ["sheet", "tree"] (spCT K C CB) := ok_ct FT T S FN bN mN FA bA mA FG bG mG FF bF mF FW bW mW XB
  have GS : FnOk P w K mg base CX0 2 fS fdS ["marks"] (spSpots K) := ok_spots FS T FN bN mN
  have GA : FnOk P w K mg base CX0 1 fA fdA ["row"] (spAsk K) := ok_ask FA T
  refine F.okN scFo (fun vs H Q E h => ?_) (fun cdv A outer s H vs Q E hr h => ?_)
  · obtain ⟨_, _, _, _, _, _, _, _, _, _, _, _, _, _, rfl, _⟩ := h
    rfl
  · obtain ⟨x, t, n, a, b, c, p, ms, ts, MS, B, ps, rows, xs, rfl, hI, hG, ht, hT, hrl, hn, hxl, kN, kB, kQ⟩ := h
    have hu := hu_of hr
    have hr3 : Room 3 _ := hr.mono (by decide)
    have hr2 : Room 2 _ := hr.mono (by decide)
    have hr1 : Room 1 _ := hr.mono (by decide)
    refine ⟨_, pss_cons (ps_if (pt_cmpR (op_notInO (E := E0) mI GI hr3 bI pass0) (pv 2) (pv 0) (by rfl)) (pss_one (ps_raiseX0 rfl XN hr (L2N.takes_of rfl rfl rfl rfl) rfl)) pss_nil)
      (pss_cons (ps_expr (pe_call GT hr rfl mT FT.kp bT .nil (L2N.passes_call (L2N.takes_of rfl rfl rfl rfl) fun _ _ _ _ h => h) (pa_cons (pv 0) (pa_cons (pv 1) pa_nil))))
      (pss_cons (ps_par (i := 3) (j := 4) rfl scFo.nd rfl rfl (by decide) rfl rfl (pa_cons (pe_tup (pa_cons pe_int (StX.pa_star (pv 2) pa_nil))) (pa_cons (pe_call GS hr2 rfl mS FS.kp bS .nil pass0 (pa_cons (pe_fld (pv 0) rfl) pa_nil)) pa_nil)) rfl)
      (pss_cons (ps_set (i := 5) scFo.nd rfl (.inl rfl) pe_int)
      (pss_cons (ps_while (passes_of rfl) (pt_val (pe_call GA hr1 rfl mA FA.kp bA .nil pass0 (pa_cons (pe_ix ix_list (pv 1) (pv 5) (fun _ _ => rfl)) pa_nil)))
        (pss_cons (ps_asg (pe_ix ix_list (pv 1) (pv 5) (fun _ _ => rfl)) (pg_tup rfl (pgs_cons (pg_name (i := 6) scFo.nd rfl (.inl rfl)) (pgs_cons (pg_name (i := 7) scFo.nd rfl (.inl rfl)) (pgs_cons (pg_name (i := 8) scFo.nd rfl (.inl rfl))
            (pgs_cons (pg_name (i := 9) scFo.nd rfl (.inl rfl)) (pgs_cons (pg_name (i := 10) scFo.nd rfl (.inl rfl)) (pgs_cons (pg_name (i := 11) scFo.nd rfl (.inl rfl)) pgs_nil))))))))
        (pss_one (ps_set (i := 5) scFo.nd rfl (.inl rfl) (pe_ifExp (pt_cmpR op_le (pe_op op_sub (pe_ix ix_tup (pv 3) (pe_dget hu (pv 4) (pv 7) (fun _ _ => rfl)) (fun _ _ => rfl)) (pe_ix ix_tup (pv 3) (pe_dget hu (pv 4) (pv 8) (fun _ _ => rfl)) (fun _ _ => rfl))) (pv 9) (nomark _)) (pv 10) (pv 11))))))
      (pss_one (ps_ret (pe_ix ix_list (pv 1) (pv 5) (fun _ _ => rfl)))))))), ?_⟩
    obtain ⟨dx, hx⟩ := hI.at_
    refine ⟨_, rfl, _, rfl, x, dx, _, rfl, hx, x, a, b, c, p, n, ms, ts, MS, B, xs, rfl, hI, hG, hn, hxl, fun r H1 hr' s1 => ⟨r, rfl, _, rfl, ?_⟩⟩
    cases r with
    | false =>
      refine iteT ?_
      have : ¬(xs.length = ms.length ∧ Fits (ms.length + 1) B (0 :: xs)) := fun q => Bool.false_ne_true (hr'.mpr q)
      exact kN this _ s1
    | true =>
      obtain ⟨hl, hFit⟩ := hr'.mp rfl
      have kB := kB hl hFit
      have kQ := kQ hl hFit
      refine iteF ?_
      dsimp only [tNext]
      have hI1 := hI.same s1
      have ht1 := s1 _ _ ht
      refine ⟨_, rfl, _, rfl, x, t, a, b, c, p, ms, ts, MS, B, ps, rows, rfl, hI1, hG, ht1, hT.same s1, hrl, fun k H' d e s2 hd hx' => kB k H' d e (s1.trans s2) (s1.free hd) hx', fun hF H2 s2 => ?_⟩
      have kQ := kQ hF
      have s12 := s1.trans s2
      have hn2 := Same.tup (K := K) s12 hn
      dsimp only [tNext]
      refine ⟨_, rfl, n, _, rfl, .inl hn2, by rw [List.append_nil, List.length_cons, List.length_map]; exact small1000 (by omega), fun e he => ?_⟩
      have s3 : Same H2 (upd H2 e (.tup (V.int 0 :: (xs.map V.int ++ [])))) := Same.new he
      have hcl : SqT K (upd H2 e (.tup (V.int 0 :: (xs.map V.int ++ [])))) e ((0 :: xs).map V.int) := by rw [List.append_nil]; exact tup_at
      generalize upd H2 e (.tup (V.int 0 :: (xs.map V.int ++ []))) = H3 at s3 hcl
      have s13 := s12.trans s3
      obtain ⟨dx3, hx3⟩ := (hI.same s13).at_
      have hml := hG.ml
      refine ⟨_, rfl, x, C, dx3, _, _, rfl, hx3, S.cl, S.nm, look_m, a, ms, rfl, (hI.same s13).ha, by omega, hG.nd, fun H4 d s4 hd => ⟨_, _, rfl, ?_⟩⟩
      have s14 := s13.trans s4
      have hcl4 := Same.tup (K := K) s4 hcl
      obtain ⟨h0, hgood⟩ := tree_good (fun r hr ha => by
        obtain ⟨i, hi⟩ := List.getElem?_of_mem hr
        have hl : i < ps.length := by rw [hT.len]; exact (List.getElem?_eq_some_iff.mp hi).1
        exact (hT.row i ps[i] r (List.getElem?_eq_getElem hl) hi).2.2 ha) hF
      have hpl : ps.length = rows.length := hT.len
      have nl : (nodes ms).length = ms.length + 1 := rfl
      refine while_by (fun σ H' => ∃ (i : Nat) (v6 v7 v8 v9 v10 v11 : Option V), σ = [some (.ref x), some (.ref t), some (.ref n), some (.ref e), some (.ref d), some (.int (i : Nat)), v6, v7, v8, v9, v10, v11] ∧ Same H4 H' ∧ i < rows.length ∧ ∀ j, Goes (fun z => (0 :: xs).getD (ix ms z) 0) rows i j → Goes (fun z => (0 :: xs).getD (ix ms z) 0) rows 0 j)
        (fun σ _ => match σ[5]? with | some (some (V.int i)) => rows.length - i.toNat | _ => 0) ?_ ?_ ?_
      · exact ⟨0, none, none, none, none, none, none, rfl, Same.refl H4, h0, fun j h => h⟩
      · rintro σ H5 ⟨i, v6, v7, v8, v9, v10, v11, rfl, s5, hi, hgo⟩
        obtain ⟨pf, hpf⟩ : ∃ pf, ps[i]? = some pf := ⟨_, List.getElem?_eq_getElem (by omega)⟩
        obtain ⟨ys, hys⟩ : ∃ ys, rows[i]? = some ys := ⟨_, List.getElem?_eq_getElem hi⟩
        have s15 := s14.trans s5
        obtain ⟨r1, r2, r3⟩ := (hT.same s15).row i pf ys hpf hys
        have hat : atI (ps.map V.ref) (i : Nat) = some (.ref pf) := atI_nat (by rw [List.getElem?_map, hpf]; rfl)
        have ht5 := s15 _ _ ht
        refine ⟨_, rfl, _, rfl, t, _, _, _, rfl, rfl, SqL.of ht5, hat, pf, ys, rfl, r1, r2, ?_⟩
        refine ⟨_, rfl, ?_⟩
        cases ea : isAsk ys with
        | false =>
          rw [if_neg Bool.false_ne_true]
          exact ⟨_, rfl, _, rfl, t, _, _, _, rfl, rfl, SqL.of ht5, hat, kQ i _ pf s15 hpf (hgo i (.stop hys ea))⟩
        | true =>
          rw [if_pos rfl]
          obtain ⟨u, v, c0, yes, no, A⟩ := hgood i ys hys ea
          obtain rfl := A.eq
          have gx := (hd.same s5).get (ix_get A.hx)
          have gy := (hd.same s5).get (ix_get A.hy)
          have hcl5 := Same.tup (K := K) s5 hcl4
          have atx : ∀ {z : Str}, z ∈ nodes ms → atI ((0 :: xs).map V.int) ((ix ms z : Nat) : Int) = some (.int ((0 :: xs).getD (ix ms z) 0)) := fun {z} hz => by
            have hlt : ix ms z < (0 :: xs).length := by rw [List.length_cons, hl]; exact ix_lt hz
            refine atI_nat ?_
            rw [List.getElem?_map, List.getElem?_eq_getElem hlt, List.getD_eq_getElem?_getD, List.getElem?_eq_getElem hlt]; rfl
          refine ⟨_, rfl, _, rfl, t, _, _, _, rfl, rfl, SqL.of ht5, hat, pf, _, rfl, r1, rfl, _, _, rfl, _, _, rfl, _, _, rfl, _, _, rfl, _, _, rfl, _, _, rfl, rfl, ?_⟩
          refine ⟨_, rfl, _, rfl, _, rfl, d, _, rfl, gx, e, _, _, _, rfl, rfl, hcl5, atx A.hx, ?_⟩
          refine ⟨_, rfl, _, rfl, _, rfl, d, _, rfl, gy, e, _, _, _, rfl, rfl, hcl5, atx A.hy, _, _, rfl, rfl, _, rfl, _, _, rfl, rfl, _, rfl, ?_⟩
          have me : ∀ {nx : Nat}, i < nx → nx < rows.length → rows.length - ((nx : Nat) : Int).toNat < rows.length - ((i : Nat) : Int).toNat := fun {nx} h1 h2 => by rw [Int.toNat_natCast, Int.toNat_natCast]; omega
          by_cases hc : (0 :: xs).getD (ix ms u) 0 - (0 :: xs).getD (ix ms v) 0 ≤ c0
          · exact iteDT hc ⟨_, rfl, ⟨yes, _, _, _, _, _, _, rfl, s5, A.hyes, fun j hj => hgo j (.step hys (by rw [if_pos hc]; exact hj))⟩, me A.ly A.hyes⟩
          · exact iteDF hc ⟨_, rfl, ⟨no, _, _, _, _, _, _, rfl, s5, A.hno, fun j hj => hgo j (.step hys (by rw [if_neg hc]; exact hj))⟩, me A.ln A.hno⟩
      · rintro σ Hx Q1 Q2 h ⟨w1, e1, w2, e2, t', ys', i', x', e3, e4, e5, e6, pf', ys2, e7, e8, e9, b', e10, q⟩
        exact ⟨w1, e1, w2, e2, t', ys', i', x', e3, e4, e5, e6, pf', ys2, e7, e8, e9, b', e10, h _ _ q⟩
end
end K1
end
section
set_option maxRecDepth 100000
set_option maxHeartbeats 4000000
namespace PySem
open PyProof.Rows
theorem k1_classE {prog : Program} {w : World} {A : Around} {E : Value → Shared → Prop} {s : Shared} {K : W.Frag} {x D : Addr} {ox o : Obj} {Q : Option Value → Shared → Prop}
    (hga : W.findIn K (Value.ref D) (Str.ofString "__getattribute__") = some (some (Value.builtin "BaseException.__getattribute__"))) (hgt : W.findIn K (Value.ref D) (Str.ofString "__getattr__") = some none)
    (hsub : W.subIn K (Value.ref D) (Value.type "BaseException") = some true) (hdct : W.hasDictIn K D = true) (ha : W.findIn K (Value.ref D) (Str.ofString "__class__") = some (some (Value.builtin "object.__class__")))
    (hn : W.specialIn K (Value.builtin "object.__class__") (Str.ofString "__get__") = some (some (Value.builtin "getset_descriptor.__get__"))) (htk : W.takesIn K (Value.builtin "object.__class__") = some true)
    (hm : W.mroIn K D (Value.type "object") = some true) (X : K.In s.heap) (I : W.InstAt s.heap x ox D (some o))
    (h : Q (some (Value.ref D)) { s with toks := s.toks + 1 }) : wpAny (model prog w) A (getAttr? (Value.ref x) (Str.ofString "__class__")) Q E s := by
  have hf : W.findObj K D (some o) (Str.ofString "__class__") = _ := W.findObj_data (by obtain ⟨cd, hc, _⟩ := W.any_some hdct; rw [hc]; rfl) ha hn htk
  obtain ⟨hp, g, d, t, os⟩ := s
  have L0 := W.InstAt.type I (M := model prog w)
  have L1 := W.looks_findIn X hga (M := model prog w)
  have L2 := W.looks_findIn X hgt (M := model prog w)
  have L3 := W.looks_find X I hf (M := model prog w)
  have sub : W.Looks (model prog w) hp (isInstance (Value.ref x) (Value.type "BaseException")) true := W.Looks.andThen L0 (W.looks_subIn X hsub)
  unfold getAttr?
  refine wpAny_bind (wpAny_mkText (wpAny_bind (wpAny_attempt (wpAny_holding (wpAny_bind (L0.at ?_))))))
  refine wpAny_bind (L1.at ?_)
  have hx2 : (Value.builtin "BaseException.__getattribute__" == Value.builtin "object.__getattribute__") = false := by decide
  show wpAny _ _ (if (onTheHeap (Value.ref D) && (Value.builtin "BaseException.__getattribute__" == Value.builtin "object.__getattribute__")) = true then _ else _) _ _ _
  rw [hx2, Bool.and_false, if_neg Bool.false_ne_true]
  unfold getAttrByItsOwn
  refine wpAny_bind ?_
  unfold hookBefore
  rw [if_pos (by rfl)]
  refine L2.at (wpAny_bind (wpAny_attempt (wpAny_holding ?_)))
  unfold callGetattribute
  rw [if_neg (show ¬((false && onTheHeap (Value.builtin "BaseException.__getattribute__")) = true) from Bool.false_ne_true)]
  unfold boundAndCalled
  rw [F.excAttr_ValueError.ga.bind (Value.ref x)]
  refine wpAny_bind (wpAny_pure ?_)
  show wpAny (model prog w) A (call (.builtin "BaseException.__getattribute__") [Value.ref x, Value.str (Str.ofString "__class__") t]) _ _ _
  refine wpAny_call ?_
  refine codeAny_call_builtin F.excAttr_ValueError.ga.plain F.entry_bexc_ga ?_
  have hargs : argsOk "BaseException.__getattribute__" { pos := [Value.ref x, Value.str (Str.ofString "__class__") t], kw := [] } := F.args_bexc_ga (Value.ref x) (Value.str (Str.ofString "__class__") t)
  refine @W.check_slot (model prog w) A.in1 _ ⟨hp, g, d, t + 1, os⟩ "BaseException.__getattribute__" "BaseException" "__getattribute__" (Value.ref x) [Value.str (Str.ofString "__class__") t] [] _ W.kin_classE._proof_2 W.kin_classE._proof_3 sub hargs ?_
  unfold Builtin.«object.__getattribute__»
  refine wpAny_bind (wpAny_of_eq (show slotArgs "__getattribute__" 1 { pos := [Value.ref x, Value.str (Str.ofString "__class__") t] } = pure (Value.ref x, [Value.str (Str.ofString "__class__") t]) from rfl) ?_)
  refine wpAny_bind (show wpAny _ _ (pure (Str.ofString "__class__")) _ _ _ from wpAny_pure ?_)
  refine wpAny_bind (L0.at (wpAny_bind (L3.at ?_)))
  show wpAny _ _ (Builtin.ObjectAttr.bindTo _ _ _ _) _ _ _
  unfold Builtin.ObjectAttr.bindTo
  refine wpAny_bind (wpAny_holding (wpAny_call (W.class_get X I hm (wpAny_pure ?_))))
  show wpAny _ _ (handedOut (Value.ref D)) _ _ _
  rw [W.handedOut_of rfl]
  exact wpAny_pure (wpAny_pure h)
end PySem
end
section
set_option maxRecDepth 100000
set_option maxHeartbeats 4000000
namespace PySem
theorem k1_isType {K : W.Frag} {M : Model} {h : Heap} {D : Addr} (hdct : W.hasDictIn K D = true) (X : K.In h) : W.Looks M h (isType (Value.ref D)) true := by
  obtain ⟨cdD, hcD, _⟩ := W.any_some hdct
  unfold W.clsIn at hcD
  split at hcD
  · rename_i cls dict cd slots heq
    intro A' Q' E' s' k q
    exact wpAny_bind (wpAny_loadPart (k D _ (X D _ heq)) (wpAny_pure q))
  · cases hcD
theorem k1_kitx {K : W.Frag} {x D : Addr} {ox o : Obj} (C : L2.ExcC K D) : W.KitX K (Value.ref x) (Value.ref D) (fun h => W.InstAt h x ox D (some o)) where
  ty := fun _ _ _ I => W.InstAt.type I
  it := fun _ _ X _ => k1_isType C.hd X
  ne := (W.handS_kitx_exc (x := x) (ox := ox) C.hg C.hk C.hs C.hd C.ha C.hn C.ht C.hm).ne
  ca := fun X I q => k1_classE C.hg C.hk C.hs C.hd C.ha C.hn C.ht C.hm X I q
end PySem
end
section
set_option maxRecDepth 100000
set_option maxHeartbeats 4000000
namespace K1
open PySem L2 L2H K01
/-- isinstance of a pinned error that has a dict -/
def rIsED (K : PySem.W.Frag) (D a d : Addr) : List V → Hp → VK → Prop := fun xs H Q => ∃ (c : V) (cv : Value) (b : Bool) (fs : List (Str × V)), xs = [.ref a, c] ∧ (∀ u, RelV c u → u = cv) ∧ PySem.W.kitOne K (.ref D) cv = some b ∧ H d = some (.xd fs) ∧ Q (.bl b) H
theorem call_isED {X : Cx} {p : Addr × Obj} {D d : Addr} (C : ExcC X.K D) (hp : p ∈ X.pn) (hz : Zc (.ref D) (some d) p.2) (hf : ∃ vs, p.2.data = .fields vs) : CallR X (.builtin "isinstance") (rIsED X.K D p.1 d) := by
  rintro pins s σ H xs us Q I r ⟨c, cv, b, fs, rfl, hcv, e, hd, q⟩
  obtain ⟨u1, us', rx, rr, rfl⟩ : ∃ u1 us', RelV (.ref p.1) u1 ∧ Vals [c] us' ∧ us = u1 :: us' := by
    cases r with
    | cons rx rr => exact ⟨_, _, rx, rr, rfl⟩
  obtain ⟨u2, rc, rfl⟩ : ∃ u2, RelV c u2 ∧ us' = [u2] := by
    cases rr with
    | cons rx rr => cases rr; exact ⟨_, rx, rfl⟩
  cases rx
  obtain rfl := hcv u2 rc
  obtain ⟨hget, _⟩ := I.pin p (List.mem_append.mpr (.inl hp))
  obtain ⟨vs, hv⟩ := hf
  have hok := I.hok d _ hd
  obtain ⟨o, ho⟩ : ∃ o, s.heap.get? d = some o := by
    obtain ⟨m, h, _⟩ := hok
    obtain ⟨o, es, ep, ho, _⟩ := h
    exact ⟨o, ho⟩
  have J : PySem.W.InstAt s.heap p.1 p.2 D (some o) := ⟨hget, hz.1, by unfold PySem.W.notCls; rw [hv], by rw [hz.2]; exact ho⟩
  exact PySem.W.kia_one (PySem.k1_kitx C) (Inv.kIn I) J e (fun z => nomatch z) fun tk => ⟨.bl b, H, Inv.kept I fun x x_1 z => z, rfl, q⟩
end K1
end
section
set_option maxRecDepth 100000
set_option maxHeartbeats 4000000
namespace K1
open PySem PyProof.Rows L2 K01
theorem pss_wish {X : Cx} {st : List Stmt} {u : TS} (h : ∀ D σ H, u D σ H → ∃ t, PSs X st t ∧ t D σ H) : PSs X st u := ⟨fun pins s σ H D I q => by
  obtain ⟨t, p, r⟩ := h D σ H q
  exact p.run pins s σ H D I r⟩
theorem pss_dead {X : Cx} {st : List Stmt} : PSs X st (fun _ _ _ => False) := ⟨fun _ _ _ _ _ _ h => h.elim⟩
theorem noT {α : Prop} (e : true = false) : α := nomatch e
theorem takes_no {X : Cx} : L2N.Takes X (fun _ _ _ _ => False) := fun _ _ ⟨_, _, _, _, _, _, _, _, _, _, _, _, _, _, _, _, w⟩ => w.elim
/-- the two errors of follow, and what is asked of them -/
structure ErF (K : PySem.W.Frag) (mg : Str → Option Value) (CB CN TE : Addr) : Prop where
  mB : mg "BadTree" = some (.ref CB)
  mN : mg "NotRecording" = some (.ref CN)
  mE : mg "TakesError" = some (.ref TE)
  xB : ExcC K CB
  xN : ExcC K CN
  eB : PySem.W.exmOne K (.ref CB) (.ref TE) = some true
  eN : PySem.W.exmOne K (.ref CN) (.ref TE) = some true
  bb : PySem.W.kitOne K (.ref CB) (.ref CB) = some true
  nb : PySem.W.kitOne K (.ref CN) (.ref CB) = some false
  nn : PySem.W.kitOne K (.ref CN) (.ref CN) = some true
section
variable {P : Program} {w : World} {K : PySem.W.Frag} {mg : Str → Option Value} {base : Heap}
abbrev sFH : Stmt := top 68
def spFH (K : PySem.W.Frag) (C : Addr) : Sp := fun vs H Q _ => ∃ (x t n a b c p : Addr) (ms ts : List Str) (MS : List Fact) (B : Mat) (ps : List Addr) (rows : List (List V)) (xs : List Int), vs = [.ref x, .ref t, .ref n] ∧ ShI K H C x a b c p ms ts MS B ∧ ShG ms MS B ∧
  H t = some (.lst (ps.map V.ref)) ∧ RowsAt2 K H ps rows ∧ rows.length ≤ 900 ∧ SqT K H n (xs.map V.int) ∧ xs.length ≤ 900 ∧
  (¬(xs.length = ms.length ∧ Fits (ms.length + 1) B (0 :: xs)) → ∀ H' l, Same H H' → H' l = some (.lst [.str "numbers"]) → Q (.ref l) H') ∧
  (xs.length = ms.length → Fits (ms.length + 1) B (0 :: xs) → ∀ k H' l, treeFault (nodes ms) rows = some k → Same H H' → H' l = some (.lst [.str "tree", .int (k : Nat)]) → Q (.ref l) H') ∧
  (xs.length = ms.length → Fits (ms.length + 1) B (0 :: xs) → treeFault (nodes ms) rows = none → ∀ j H' q, Same H H' → ps[j]? = some q → Goes (fun z => (0 :: xs).getD (ix ms z) 0) rows 0 j → Q (.ref q) H')
abbrev nsFH : List Str := ["paper", "tr", "places", "heard", "caught", "e"]
theorem scFH : FnScope nsFH ["paper", "tr", "places"] (defScope sFH) := ⟨rfl, rfl, rfl, by decide +kernel, rfl, by decide +kernel, by decide +kernel⟩
theorem ok_fh {f fO C CB CN TE iB : Addr} {fd fdO : FuncData} (F : Fun K "_law_follow_heard" "_law_follow_heard" sFH f fd) (T : Bi mg) (FO : Fun K "follow" "follow" sFo fO fdO) (bO : Binds K fdO ["sheet", "tree", "numbers"] []) (mO : mg "follow" = some (.ref fO))
    (GO : FnOk P w K mg base (L2N.CX P w) 5 fO fdO ["sheet", "tree", "numbers"] (spFo K C CB CN)) (XB : PySem.K1X.XC P K mg "BadTree" "index" CB iB OkInt) (ER : ErF K mg CB CN TE) :
    FnOk P w K mg base CX0 6 f fd ["paper", "tr", "places"] (spFH K C) := by
  refine F.ok scFH (fun vs H Q E h => ?_) (fun cdv A outer s H vs Q E hr h => ?_)
  · obtain ⟨_, _, _, _, _, _, _, _, _, _, _, _, _, _, rfl, _⟩ := h
    rfl
  · obtain ⟨x, t, n, a, b, c, p, ms, ts, MS, B, ps, rows, xs, rfl, hI, hG, ht, hT, hrl, hn, hxl, kN, kB, kQ⟩ := h
    refine ⟨_, pss_cons (ps_asg (pe_tup (pa_cons pe_non (pa_cons pe_non pa_nil))) (pg_tup rfl (pgs_cons (pg_name (i := 3) scFH.nd rfl (.inl rfl)) (pgs_cons (pg_name (i := 4) scFH.nd rfl (.inl rfl)) pgs_nil))))
      (pss_try_then (i := 5) (n := "e") (x := "TakesError") (c := .ref TE) (tr := fun a0 cls d D σ H' => σ = [some (.ref x), some (.ref t), some (.ref n), some .non, some (.ref a0), none] ∧
          ((cls = .ref CN ∧ d = none ∧ ∀ H2 l, Same H' H2 → H2 l = some (.lst [.str "numbers"]) → D.rt (.ref l) H2) ∨
          ∃ dx k, cls = .ref CB ∧ d = some dx ∧ H' dx = some (.xd [("index", .int k)]) ∧ ∀ H2 l, Same H' H2 → H2 l = some (.lst [.str "tree", .int k]) → D.rt (.ref l) H2))
        rfl rfl scFH.nd rfl rfl ⟨rfl, rfl, .inl ER.mE⟩ takes_no
        (fun W pn xe tkW po => pss_one (ps_set (i := 3) scFH.nd rfl (.inl rfl) (pe_callS (E := WE W) GO hr rfl mO FO.kp bO (fun σ => L2N.passAt tkW σ) (pa_cons (pv 0) (pa_cons (pv 1) (pa_cons (pv 2) pa_nil))))))
        (fun a0 oe cls d pn hz hf => pss_one (ps_set (i := 4) scFH.nd rfl (.inl rfl) (pv 5)))
        (pss_cons (ps_if (pt_cmpR op_isN (pv 4) pe_non (nomark _)) (pss_one (ps_ret (pv 3))) pss_nil) pss_dead)
        (fun a0 oe cls d pn hz hf => pss_wish fun D σ H' hw => ?_)), ?_⟩
    · obtain ⟨rfl, hw⟩ := hw
      rcases hw with ⟨rfl, rfl, k⟩ | ⟨dx, k0, rfl, rfl, hdx, k⟩
      · have ci := fun {X : Cx} (e : X.K = K) (hp : (a0, oe) ∈ X.pn) => call_isEP (X := X) (p := (a0, oe)) (D := CN) (e ▸ ER.xN) hp hz.zc hf
        refine ⟨_, pss_cons (ps_if (pt_cmpR op_isN (pv 4) pe_non (nomark _)) (pss_one (ps_ret (pv 3))) pss_nil)
          (pss_cons (ps_if (pt_val (pe_callB (ci rfl List.mem_cons_self) (by rfl) T.isinstance (by decide +kernel) (pa_cons (pv 4) (pa_cons (pe_glob (v := .ref CB) (by rfl) ER.mB rfl) pa_nil)))) pss_dead pss_nil)
          (pss_one (ps_ret (pe_lst (pa_cons (pe_ifExp (pt_val (pe_callB (ci rfl List.mem_cons_self) (by rfl) T.isinstance (by decide +kernel) (pa_cons (pv 4) (pa_cons (pe_glob (v := .ref CN) (by rfl) ER.mN rfl) pa_nil)))) pe_str pe_str) pa_nil))))), ?_⟩
        refine ⟨_, rfl, rfl, _, rfl, iteDF (fun q => nomatch q) ?_⟩
        dsimp only [tNext]
        refine ⟨_, rfl, _, _, false, rfl, (fun u r => r), ER.nb, false, rfl, iteF ?_⟩
        refine ⟨_, rfl, _, _, true, rfl, (fun u r => r), ER.nn, true, rfl, iteT ?_⟩
        exact ⟨by show 1 ≤ sizeLine; decide, fun l hl => k _ _ (Same.new hl) upd_same⟩
      · have ci := fun {X : Cx} (e : X.K = K) (hp : (a0, oe) ∈ X.pn) => call_isED (X := X) (p := (a0, oe)) (D := CB) (d := dx) (e ▸ ER.xB) hp hz.zc hf
        refine ⟨_, pss_cons (ps_if (pt_cmpR op_isN (pv 4) pe_non (nomark _)) (pss_one (ps_ret (pv 3))) pss_nil)
          (pss_cons (ps_if (pt_val (pe_callB (ci rfl List.mem_cons_self) (by rfl) T.isinstance (by decide +kernel) (pa_cons (pv 4) (pa_cons (pe_glob (v := .ref CB) (by rfl) ER.mB rfl) pa_nil))))
              (pss_one (ps_ret (pe_lst (pa_cons pe_str (pa_cons (pe_getXP (p := (a0, oe)) XB List.mem_cons_self hz.zc hf (pv 4)) pa_nil))))) pss_nil) pss_dead), ?_⟩
        refine ⟨_, rfl, rfl, _, rfl, iteDF (fun q => nomatch q) ?_⟩
        dsimp only [tNext]
        refine ⟨_, rfl, _, _, true, _, rfl, (fun u r => r), ER.bb, hdx, true, rfl, iteT ?_⟩
        exact ⟨_, rfl, rfl, rfl, dx, _, rfl, hdx, by show 2 ≤ sizeLine; decide, fun l hl => k _ _ (Same.new hl) upd_same⟩
    · refine ⟨by show 2 ≤ sizeLine; decide, fun q0 hq0 => ?_⟩
      have s0 : Same H (upd H q0 (.tup [.non, .non])) := Same.new hq0
      refine ⟨q0, _, rfl, tup_at, rfl, _, _, rfl, _, _, rfl, rfl, ?_⟩
      generalize upd H q0 (.tup [.non, .non]) = H0 at s0
      refine ⟨_, rfl, _, rfl, _, rfl, x, t, n, a, b, c, p, ms, ts, MS, B, ps, rows, xs, rfl, hI.same s0, hG, s0 _ _ ht, hT.same s0, hrl, Same.tup s0 hn, hxl, fun hno H' s1 => ?_, fun hl hF k H' d e s1 hd hx => ?_, fun hl hF e j H' q s1 hq hgo => ?_⟩
      · exact ⟨true, ER.eN, fun _ a0 ha0 => ⟨_, rfl, rfl, .inl ⟨rfl, rfl, fun H2 l s2 hl => kN hno H2 l ((s0.trans s1).trans s2) hl⟩⟩, noT⟩
      · exact ⟨true, ER.eB, fun _ a0 ha0 => ⟨_, rfl, rfl, .inr ⟨d, _, rfl, rfl, hx, fun H2 l s2 hl' => kB hl hF k H2 l e ((s0.trans s1).trans s2) hl'⟩⟩, noT⟩
      · exact ⟨_, rfl, rfl, _, rfl, iteDT rfl ⟨_, rfl, kQ hl hF e j H' q (s0.trans s1) hq hgo⟩⟩
end
end K1
end
section
set_option maxRecDepth 100000
set_option maxHeartbeats 4000000
namespace K1
open PySem L2 K01
theorem eg_in {ms : List Str} {MS : List Fact} (hI : InN ms MS) : InN ms (MS ++ zeros ms) := fun f hf => by
  rcases List.mem_append.mp hf with hf | hf
  · exact hI f hf
  · exact zeros_in ms f hf
/-- a ring below zero: the law's closing tells it -/
theorem ring_negs {ms : List Str} {MS RG : List Fact} (hI : InN ms MS) (hN : (nodes ms).Nodup) (h : isRing (MS ++ zeros ms) RG) : negs (ms.length + 1) (closedM (ms.length + 1) (MS.map (eF ms))) ≠ [] := by
  obtain ⟨_, x, c, hp, hc⟩ := h
  have hx : x ∈ nodes ms := by
    cases RG with
    | nil => obtain ⟨_, e⟩ := hp; omega
    | cons f r =>
      obtain ⟨hf, hfx, _⟩ := hp
      rw [← hfx]
      exact (eg_in hI f hf).1
  refine negs_ring (hI.inR) ((eg_in hI).inR) (fun e he => ?_) (ix_lt hx) (isPath.walk (ms := ms) hp) hc
  rw [List.map_append] at he
  rcases List.mem_append.mp he with he | he
  · exact .inl he
  · rw [zeros_edges hN] at he
    obtain ⟨a, b, d⟩ := e
    have := zero_mem he
    exact .inr ⟨this.1, this.2.1⟩
/-- a sheet that can be: the law's closing has nothing below zero -/
theorem made_negs {ms : List Str} {MS : List Fact} {B : Mat} (hI : InN ms MS) (hN : (nodes ms).Nodup) (G : Good (ms.length + 1) (EG ms MS) B) : negs (ms.length + 1) (closedM (ms.length + 1) (MS.map (eF ms))) = [] := by
  refine negs_good G (fun {y} hy => ?_) hI.inR (fun e he => by unfold EG; rw [List.map_append]; exact List.mem_append_left _ he)
  cases y with
  | zero => exact G.diag0 (by omega)
  | succ i =>
    refine G.edge ?_
    unfold EG
    rw [List.map_append, zeros_edges hN]
    exact List.mem_append_right _ (List.mem_map.mpr ⟨i, List.mem_range.mpr (by omega), rfl⟩)
end K1
end
section
set_option maxRecDepth 100000
set_option maxHeartbeats 4000000
namespace K1
open PySem L2 K01
theorem factV_inj {F G : List Fact} (h : F.map factV = G.map factV) : F = G := by
  induction F generalizing G with
  | nil => cases G with
    | nil => rfl
    | cons g G => cases h
  | cons f F ih => cases G with
    | nil => cases h
    | cons g G =>
      simp only [List.map_cons, List.cons.injEq] at h
      have e : f = g := by
        obtain ⟨f1, f2, f3⟩ := f
        obtain ⟨g1, g2, g3⟩ := g
        have := h.1
        simp only [factV, List.cons.injEq, V.str.injEq, V.int.injEq, and_true] at this
        obtain ⟨rfl, rfl, rfl⟩ := this
        rfl
      rw [e, ih h.2]
/-- the script's list, beside the pit at p -/
def Scr (K : PySem.W.Frag) (a : Addr) (xs : List V) (p : Addr) (H : Hp) : Prop := SqL K H a xs ∧ (p = a → ∀ H', SqL K H' a xs)
theorem sql_at {K : PySem.W.Frag} {a : Addr} {xs : List V} {H H' : Hp} (h : SqL K H a xs) (e : ∀ o, H a = some o → H' a = some o) : SqL K H' a xs := by
  rcases h with (q | ⟨o, q⟩) | q
  · exact .inl (.inl (e _ q))
  · exact .inl (.inr ⟨o, e _ q⟩)
  · exact .inr q
theorem sql_free {K : PySem.W.Frag} {a : Addr} {xs : List V} {H : Hp} (h : SqL K H a xs) (e : H a = none) (H' : Hp) : SqL K H' a xs := by
  rcases h with (q | ⟨o, q⟩) | q
  · rw [e] at q; cases q
  · rw [e] at q; cases q
  · exact .inr q
theorem Scr.but {K : PySem.W.Frag} {a : Addr} {xs : List V} {p : Addr} {H H' : Hp} (h : Scr K a xs p H) (e : But p H H') : Scr K a xs p H' := by
  refine ⟨?_, h.2⟩
  by_cases q : p = a
  · exact h.2 q H'
  · exact sql_at h.1 fun o ho => e a o (fun z => q z.symm) ho
theorem Scr.new {K : PySem.W.Frag} {a : Addr} {xs : List V} {p : Addr} {H H' : Hp} (h : SqL K H a xs) (e : H p = none) (s : Same H H') : Scr K a xs p H' :=
  ⟨sql_at h fun o ho => s _ _ ho, fun q => by subst q; exact sql_free h e⟩
/-- a drawn sheet has no fault -/
theorem ShOk.fault {ms ts : List Str} {F : List Fact} (h : ShOk ms ts F) : K1.fault ms ts (F.map factV) = none := by
  have hM : first (badMark ms) ms.length = none := first_none fun j hj => by
    have hz : ms[j]? = some ms[j] := List.getElem?_eq_getElem hj
    have hm : markAt ms j = ms[j] := by unfold markAt; rw [hz]; rfl
    have hin : ms[j] ∈ ms := List.getElem_mem hj
    unfold badMark
    rw [hm, (h.gm.gn _ hin).ok, decide_eq_false (p := ms[j] = "zero") (fun e => h.gm.nz (by rw [← e]; exact hin)), decide_eq_false (p := ms[j] ∈ ms.take j)]
    · rfl
    · intro hk
      obtain ⟨k, hk1, hk2⟩ := List.mem_take_iff_getElem.mp hk
      have := nodup_get h.gm.nd (i := k) (j := j) (List.getElem?_eq_some_iff.mpr ⟨by omega, hk2⟩) hz
      omega
  have hT : first (badTake ms ts) ts.length = none := first_none fun j hj => by
    have hz : ts[j]? = some ts[j] := List.getElem?_eq_getElem hj
    have hm : markAt ts j = ts[j] := by unfold markAt; rw [hz]; rfl
    unfold badTake
    rw [hm, decide_eq_true (h.tm _ (List.getElem_mem hj)), decide_eq_false]
    · rfl
    · intro hk
      obtain ⟨k, hk1, hk2⟩ := List.mem_take_iff_getElem.mp hk
      have := nodup_get h.tn (i := k) (j := j) (List.getElem?_eq_some_iff.mpr ⟨by omega, hk2⟩) hz
      omega
  have hF : first (badFact ms (F.map factV)) (F.map factV).length = none := first_none fun j hj => by
    rw [List.length_map] at hj
    have hz : (F.map factV)[j]? = some (factV F[j]) := by rw [List.getElem?_map, List.getElem?_eq_getElem hj]; rfl
    have ho := h.fo _ (List.getElem_mem hj)
    unfold badFact
    rw [hz]
    show (!(inV (.str F[j].1) ((nodes ms).map V.str) && (inV (.str F[j].2.1) ((nodes ms).map V.str) && (!decide (V.str F[j].1 = V.str F[j].2.1) && true)))) = false
    rw [inV_str, inV_str, decide_eq_true ho.l, decide_eq_true ho.r, decide_eq_false (fun e => ho.ne (V.str.inj e))]
    rfl
  unfold K1.fault
  rw [hM]
  simp only []
  rw [hT]
  simp only []
  rw [hF]

theorem facts_flat {F : List Fact} : FlatF (F.map factV) := fun xs hx x hxx => by
  obtain ⟨f, _, rfl⟩ := List.mem_map.mp hx
  simp only [factV, List.mem_cons, List.not_mem_nil, or_false] at hxx
  rcases hxx with rfl | rfl | rfl
  · exact .str _
  · exact .str _
  · exact .int _
theorem facts_small {F : List Fact} (h : ∀ f ∈ F, f.2.2.natAbs ≤ 10 ^ 13) : SmallI (F.map factV) := fun xs hx i hi => by
  obtain ⟨f, hf, rfl⟩ := List.mem_map.mp hx
  simp only [factV, List.mem_cons, List.not_mem_nil, or_false] at hi
  rcases hi with e | e | e
  · cases e
  · cases e
  · cases e
    have h1 := h f hf
    by_cases h0 : f.2.2.natAbs = 0
    · rw [h0]; decide
    · exact (Nat.log2_lt h0).mpr (Nat.lt_of_le_of_lt h1 (by decide +kernel))
/-- a sheet that can be is made -/
theorem sheet_ok {K : PySem.W.Frag} {C CC : Addr} {cls : Nat → Addr} {H : Hp} {x dx a b c : Addr} {ms ts : List Str} {F : List Fact} {Q : Hp → Prop} {E : XK} (hx : H x = none) (hdx : H dx = none) (hne : dx ≠ x)
    (hm : strsT K H a ms) (hs : Short ms) (hml : ms.length ≤ 28) (ht : strsT K H b ts) (htl : ts.length ≤ 400) (hf : TTAt K H c (F.map factV)) (hfl : F.length ≤ 100) (hfi : ∀ f ∈ F, f.2.2.natAbs ≤ 10 ^ 13)
    (hF : K1.fault ms ts (F.map factV) = none) (hI : InN ms F) (hN : (nodes ms).Nodup) (hng : negs (ms.length + 1) (closedM (ms.length + 1) (F.map (eF ms))) = [])
    (k : ∀ H' p B, Same H H' → ShI K H' C x a b c p ms ts F B → ShG ms F B → Q H') :
    spSheet K C CC cls [.ref x, .ref a, .ref b, .ref c] (upd (upd H dx (.own x)) x (.ins C dx [])) (fun v H2 => v = .non ∧ Q H2) E := by
  have s1 : Same H (upd H dx (.own x)) := Same.new hdx
  have hx1 : (upd H dx (.own x)) x = none := by rw [upd_ne hne.symm]; exact hx
  have s2 : Same H (upd (upd H dx (.own x)) x (.ins C dx [])) := s1.trans (Same.new hx1)
  have back : ∀ H', But x (upd (upd H dx (.own x)) x (.ins C dx [])) H' → Same H H' := fun H' h b o e => h b o (fun z => by rw [z, hx] at e; cases e) (s2 b o e)
  refine ⟨x, dx, a, b, c, ms, ts, F.map factV, rfl, upd_same, Same.tup s2 hm, hs, by omega, Same.tup s2 ht, htl, hf.same s2, facts_flat, by rw [List.length_map]; omega, facts_small hfi, fun k i H' d e _ _ _ => ?_,
    fun _ MS e1 e2 H' d rp RG h _ hd hR hr => ?_, fun _ MS e1 e2 e3 B G H' p h hp hi => ⟨rfl, ?_⟩⟩
  · rw [hF] at e; cases e
  · rw [← factV_inj e1] at hr
    exact absurd hng (ring_negs hI hN hr)
  · rw [← factV_inj e1] at G
    have s := back H' h
    exact k H' p B s ⟨⟨dx, hi⟩, Same.tup s hm, Same.tup s ht, hf.same s, hp⟩ ⟨hml, hfl, hN, hI, G⟩
/-- the made sheet's numbers, and the law's -/
def leastI (ms : List Str) (B : Mat) : List Int := ((leastOf (ms.length + 1) B).drop 1).map fun i => -i
theorem leastI_len {ms : List Str} {B : Mat} : (leastI ms B).length = ms.length := by unfold leastI leastOf; simp
theorem leastI_at {ms : List Str} {B : Mat} {j : Nat} (hj : j < ms.length) : (leastI ms B)[j]? = some (-((cell B 0 (j + 1)).getD 0)) := by
  unfold leastI leastOf
  rw [List.getElem?_map, List.getElem?_drop, List.getElem?_map, List.getElem?_range (by omega)]
  have : 1 + j = j + 1 := by omega
  rw [this]
  rfl
/-- two tuples of the same ints -/
theorem kt_ints {K : PySem.W.Frag} {H : Hp} {n : Nat} {a b : Addr} {xs : List Int} (h1 : SqT K H a (xs.map V.int)) (h2 : SqT K H b (xs.map V.int)) (hl : xs.length ≤ 500) : KT K H (n + 1) (.ref a) (.ref b) :=
  kt_row h1 h2 (by rw [List.length_map]; exact hl) fun x hx => by
    obtain ⟨i, _, rfl⟩ := List.mem_map.mp hx
    exact .int i
theorem ShG.fits {ms : List Str} {MS : List Fact} {B : Mat} (h : ShG ms MS B) : Fits (ms.length + 1) B (0 :: leastI ms B) := by
  have G := h.good
  have R : InR (ms.length + 1) (EG ms MS) := InN.inR fun f hf => by
    rcases List.mem_append.mp hf with hf | hf
    · exact h.inn f hf
    · exact zeros_in ms f hf
  refine least_fits G G R (fun e he => he) leastI_len fun i x hx => ?_
  have hi : i < ms.length := by have := (List.getElem?_eq_some_iff.mp hx).1; rwa [leastI_len] at this
  rw [leastI_at hi] at hx
  obtain ⟨d, hd, _⟩ := eg_row0 h.nd G (y := i + 1) (by omega)
  rw [hd] at hx ⊢
  have := Option.some.inj hx
  rw [← this]
  exact congrArg some (by simp)
end K1
end
section
set_option maxRecDepth 100000
set_option maxHeartbeats 4000000
namespace K1
open PySem PySem.Spec PyProof.Rows L2 K01
theorem ShI.but {K : PySem.W.Frag} {H H' : Hp} {C x a b c p q : Addr} {ms ts : List Str} {MS : List Fact} {B : Mat} {z : Int} (hq : PitAt H q z) (e : But q H H') (h : ShI K H C x a b c p ms ts MS B) : ShI K H' C x a b c p ms ts MS B := by
  obtain ⟨dx, h1⟩ := h.at_
  obtain ⟨as, m1, m2, m3⟩ := h.hp
  refine ⟨⟨dx, e _ _ (fun z => ?_) h1⟩, hq.tup e h.ha, hq.tup e h.hb, hq.tt e h.hc, as, m1, hq.tup e m2, fun i r row e1 e2 => hq.tup e (m3 i r row e1 e2)⟩
  obtain ⟨_, _, _, g, _⟩ := hq
  rw [z, g] at h1
  cases h1
/-- f(k = v, ..), f a name of the module -/
def tCallK0 (m : Nat) (sp : Sp) (gV : List V → List V → List V) (E : XK) (tk : TA) : TE := fun σ H Q => tk σ H fun zs H2 => zs.length = m ∧ sp (gV [] zs) H2 Q E
theorem pe_callK0 {X : Cx} {CX : CXT} {k : Nat} {f : Addr} {fd : FuncData} {ps ks : List Str} {sp : Sp} {E : XK} {x : Str} {p pos : Pos} {kws : List Keyword} {tk : TA} {g : List Value → List Value → List Value} {gV : List V → List V → List V}
    (F : FnOk X.prog X.w X.K X.mg X.base CX k f fd ps sp) (hr : Room k X.A) (hg : Gl X x) (hm : X.mg x = some (.ref f)) (hk : PySem.W.keepIn X.K (.ref f) = true) (hb : KBn X.K fd ps 0 ks g gV) (hx : Passes CX X E) (hkw : PK X kws tk)
    (hall : ((backToKw pos (keywordEach kws X.env)).all fun x => x.1.isSome) = true := by rfl) (hks : (backToKw pos (keywordEach kws X.env)).filterMap (fun x => x.1) = ks := by rfl) (hdb : (x == ("__debug__" : Str)) = false := by rfl)
    (hpl : (((backTo pos (starEach [] X.env)).any fun x => x.1) || ((backToKw pos (keywordEach kws X.env)).any fun x => x.1.isNone)) = false := by rfl) :
    PE X ((Expr.Name x p).Call [] kws pos) (tCallK0 ks.length sp gV E tk) where
  run := by
    intro pins s σ H Q I h
    refine wpAny_Call_Name_kw (ld_glob I hg hm (PySem.W.callWith_KW0 (first := []) (h₀ := X.base) I.ok.mod.kin hk hall (thn (hkw.run pos pins s σ H _ I h) ?_) hpl) hdb)
    rintro ws s2 ⟨zs, H2, I2, rz, l2, q2⟩
    refine ⟨I2.kIn, ?_⟩
    rw [hks]
    exact run_fnN F hr hb hx I2 .nil rz rfl l2 q2
theorem fo_kbn {K : PySem.W.Frag} {f : Addr} {fd : FuncData} (F : Fun K "follow" "follow" sFo f fd) :
    KBn K fd ["sheet", "tree", "numbers"] 0 ["numbers", "sheet", "tree"] (fun us ws => match us, ws with | [], [n, s, t] => [s, t, n] | _, _ => []) (fun us ws => match us, ws with | [], [n, s, t] => [s, t, n] | _, _ => []) where
  to := fun s us ws _ h1 h2 => by
    obtain ⟨oc, od, kV, doc, pm, an, cdv, ct, osl, rfl, lk, hcd⟩ := F.ex
    match us, ws, h1, h2 with
    | [], [n, s, t], _, _ => exact .of_eq rfl
  rel := fun {vs us zs ws} h1 h3 => by
    cases h1 with
    | cons _ _ => exact .nil
    | nil => cases h3 with
      | nil => exact .nil
      | cons p1 q1 => cases q1 with
        | nil => exact .nil
        | cons p2 q2 => cases q2 with
          | nil => exact .nil
          | cons p3 q3 => cases q3 with
            | nil => exact .cons p2 (.cons p3 (.cons p1 .nil))
            | cons _ _ => exact .nil
theorem passN {X : Cx} : Passes (L2N.CX X.prog X.w) X E0 := fun pins σ => L2N.passAt takes_no σ pins
/-- a tree in the heap -/
structure TreeB (K : PySem.W.Frag) (H : Hp) (t : Addr) (ps : List Addr) (rows : List (List V)) : Prop where
  hL : H t = some (.lst (ps.map V.ref))
  hT : RowsAt2 K H ps rows
  hC : ∀ r ∈ rows, RowC K H r
  len : rows.length ≤ 300
section
variable {K : PySem.W.Frag} {H H' : Hp} {t p : Addr} {ps : List Addr} {rows : List (List V)} {z : Int}
theorem TreeB.same (h : TreeB K H t ps rows) (s : Same H H') : TreeB K H' t ps rows := ⟨s _ _ h.hL, h.hT.same s, fun r hr => (h.hC r hr).imp fun _ _ q => Same.tup s q, h.len⟩
theorem TreeB.ne (h : TreeB K H t ps rows) (P : PitAt H p z) : t ≠ p := fun e => by
  obtain ⟨x, y, c, q, _⟩ := P
  have := h.hL
  rw [e, q] at this
  cases ps with
  | nil => cases this
  | cons a r => cases this
theorem TreeB.but (h : TreeB K H t ps rows) (P : PitAt H p z) (b : But p H H') : TreeB K H' t ps rows :=
  ⟨b _ _ (h.ne P) h.hL, h.hT.imp fun _ _ q => P.tup b q, fun r hr => (h.hC r hr).imp fun _ _ q => P.tup b q, h.len⟩
/-- a tree as data -/
def rowsD (rows : List (List V)) : PyData := .list (rows.map fun r => .tuple (r.map rD))
theorem rvs_dp : ∀ {xs : List V}, (∀ x ∈ xs, RV K H x) → DpAll K H xs (xs.map rD)
  | [], _ => .nil
  | x :: r, h => .cons (h x List.mem_cons_self).dp (rvs_dp fun y hy => h y (List.mem_cons_of_mem _ hy))
theorem rows_dp : ∀ {ps : List Addr} {rows : List (List V)}, RowsAt2 K H ps rows → (∀ r ∈ rows, RowC K H r) → DpAll K H (ps.map V.ref) (rows.map fun r => .tuple (r.map rD))
  | [], [], _, _ => .nil
  | [], r :: rows, h, _ => by have := h.len; cases this
  | a :: ps, [], h, _ => by have := h.len; cases this
  | a :: ps, r :: rows, h, hC => .cons (.tup (h.row 0 a r rfl rfl).1 (rvs_dp (h.row 0 a r rfl rfl).2.1)) (rows_dp ⟨by simpa using h.len, fun i p xs h1 h2 => h.row (i + 1) p xs h1 h2⟩ fun r hr => hC r (List.mem_cons_of_mem _ hr))
theorem TreeB.dp (h : TreeB K H t ps rows) : Dp K H (.ref t) (rowsD rows) := .lst (SqL.of h.hL) (rows_dp h.hT h.hC)
theorem TreeB.lv (h : TreeB K H t ps rows) : Lv 3 (rowsD rows) := Lv.list (n := 2) fun d hd => by
  obtain ⟨r, hr, rfl⟩ := List.mem_map.mp hd
  refine Lv.tuple (n := 1) fun e he => ?_
  obtain ⟨x, hx, rfl⟩ := List.mem_map.mp he
  exact ((h.hC r hr).rv x hx).lv fun z q => (h.hC r hr).as_ z (by rw [← q]; exact hx)
theorem eqv_rows (h : TreeB K H t ps rows) : PyData.eqv (rowsD rows) (rowsD rows) = true := PySem.SeqAt.eqv_refl _ h.lv.1
/-- a leaf beside itself -/
theorem kt_cells {n : Nat} {q : Addr} {r : List V} (h : SqT K H q r) (hC : RowC K H r) : KT K H (n + 2) (.ref q) (.ref q) :=
  .tup (n + 1) h h rfl (by have := hC.len; omega) fun i x y e1 e2 => by
    rw [e1] at e2
    cases e2
    cases hC.rv x (List.mem_of_getElem? e1) with
    | flat f => exact kt_flat f
    | nilT f => exact .tup n f f rfl (Nat.zero_le _) fun i x y e1 e2 => nomatch e1
end
/-- numbers that end below 0 are no recording -/
theorem off_not {m : Nat} {B : Mat} (hr : ∃ d, cell B 0 m = some d ∧ d ≤ 0) (hm : 1 ≤ m) {xs : List Int} (hl : xs.length = m) (hF : Fits (m + 1) B (0 :: xs)) {x : Int} (hx : xs[m - 1]? = some x) {ys : List Int} (hy : ys[m - 1]? = some (-1 - x)) : ¬Fits (m + 1) B (0 :: ys) := by
  intro hF2
  obtain ⟨d, hd, hd0⟩ := hr
  have e1 : (0 :: xs)[m]? = some x := by
    obtain ⟨k, rfl⟩ : ∃ k, m = k + 1 := ⟨m - 1, by omega⟩
    exact hx
  have e2 : (0 :: ys)[m]? = some (-1 - x) := by
    obtain ⟨k, rfl⟩ : ∃ k, m = k + 1 := ⟨m - 1, by omega⟩
    exact hy
  have h1 := hF 0 m d 0 x (by omega) (by omega) hd rfl e1
  have h2 := hF2 0 m d 0 (-1 - x) (by omega) (by omega) hd rfl e2
  omega
theorem take_off {xs : List Int} {m : Nat} (hl : xs.length = m) (h1 : 1 ≤ m) {y : Int} : (xs.take (m - 1) ++ [y]).length = m ∧ (xs.take (m - 1) ++ [y])[m - 1]? = some y := by
  have e : (xs.take (m - 1)).length = m - 1 := by rw [List.length_take]; omega
  refine ⟨by rw [List.length_append, e, List.length_singleton]; omega, ?_⟩
  rw [List.getElem?_append_right (by omega), e, Nat.sub_self]; rfl
theorem map_ne {xs : List Int} (h : 1 ≤ xs.length) : xs.map V.int ≠ [] := by
  cases xs with
  | nil => cases h
  | cons x r => simp
theorem tn {σ : L2.St} {H : Hp} {Q : List V → Hp → Prop} (h : Q [] H) : tNil σ H Q := h
/-- what is told of a tree at numbers: its fault, or the leaf -/
def Told (ns : List Str) (ps : List Addr) (rows : List (List V)) (val : Str → Int) (u : V) (H : Hp) : Prop :=
  (∀ k, treeFault ns rows = some k → ∃ l, u = .ref l ∧ H l = some (.lst [.str "tree", .int (k : Nat)])) ∧ (treeFault ns rows = none → ∃ j q, ps[j]? = some q ∧ Goes val rows 0 j ∧ u = .ref q)
theorem Told.same {ns : List Str} {ps : List Addr} {rows : List (List V)} {val : Str → Int} {u : V} {H H' : Hp} (h : Told ns ps rows val u H) (s : Same H H') : Told ns ps rows val u H' :=
  ⟨fun k e => by
    obtain ⟨l, h1, h2⟩ := h.1 k e
    exact ⟨l, h1, s _ _ h2⟩, h.2⟩
theorem told_kt {K : PySem.W.Frag} {ns : List Str} {ps : List Addr} {rows : List (List V)} {val : Str → Int} {u v : V} {H : Hp} {t : Addr} {n : Nat} (hu : Told ns ps rows val u H) (hv : Told ns ps rows val v H) (T : TreeB K H t ps rows) : KT K H (n + 2) u v := by
  cases e : treeFault ns rows with
  | some k =>
    obtain ⟨l1, rfl, h1⟩ := hu.1 k e
    obtain ⟨l2, rfl, h2⟩ := hv.1 k e
    refine .lst (n + 1) h1 h2 rfl (by show 2 ≤ 900; decide) fun i x y e1 e2 => ?_
    rw [e1] at e2
    cases e2
    match i, e1 with
    | 0, e1 => cases e1; exact .str (n + 1) _
    | 1, e1 => cases e1; exact .int (n + 1) _
  | none =>
    obtain ⟨j, q, h1, h2, rfl⟩ := hu.2 e
    obtain ⟨j', q', h1', h2', rfl⟩ := hv.2 e
    obtain rfl := h2.det h2'
    rw [h1] at h1'
    cases h1'
    have hj : j < rows.length := by rw [← T.hT.len]; exact (List.getElem?_eq_some_iff.mp h1).1
    have hr : rows[j]? = some rows[j] := List.getElem?_eq_getElem hj
    exact kt_cells (T.hT.row j q _ h1 hr).1 (T.hC _ (List.getElem_mem hj))
theorem fh_in {K : PySem.W.Frag} {C x t n a b c p : Addr} {ms ts : List Str} {MS : List Fact} {B : Mat} {ps : List Addr} {rows : List (List V)} {xs : List Int} {H : Hp} {Q : VK} {E : XK} (hI : ShI K H C x a b c p ms ts MS B) (hG : ShG ms MS B) (T : TreeB K H t ps rows) (hn : SqT K H n (xs.map V.int)) (hl : xs.length = ms.length)
    (hF : Fits (ms.length + 1) B (0 :: xs)) (k : ∀ u H', Same H H' → Told (nodes ms) ps rows (fun z => (0 :: xs).getD (ix ms z) 0) u H' → Q u H') : spFH K C [.ref x, .ref t, .ref n] H Q E := by
  have := hG.ml
  have := T.len
  refine ⟨x, t, n, a, b, c, p, ms, ts, MS, B, ps, rows, xs, rfl, hI, hG, T.hL, T.hT, by omega, hn, by omega, fun q => absurd ⟨hl, hF⟩ q, fun _ _ k0 H' l e s hl' => k _ _ s ⟨fun k1 e1 => ?_, fun e1 => ?_⟩, fun _ _ e j H' q s hq hgo => k _ _ s ⟨fun k1 e1 => ?_, fun _ => ⟨j, q, hq, hgo, rfl⟩⟩⟩
  · rw [e] at e1; cases e1; exact ⟨l, rfl, hl'⟩
  · rw [e] at e1; cases e1
  · rw [e] at e1; cases e1
theorem fh_out {K : PySem.W.Frag} {C x t n a b c p : Addr} {ms ts : List Str} {MS : List Fact} {B : Mat} {ps : List Addr} {rows : List (List V)} {xs : List Int} {H : Hp} {Q : VK} {E : XK} (hI : ShI K H C x a b c p ms ts MS B) (hG : ShG ms MS B) (T : TreeB K H t ps rows) (hn : SqT K H n (xs.map V.int)) (hl : xs.length ≤ 900)
    (hF : ¬(xs.length = ms.length ∧ Fits (ms.length + 1) B (0 :: xs))) (k : ∀ l H', Same H H' → H' l = some (.lst [.str "numbers"]) → Q (.ref l) H') : spFH K C [.ref x, .ref t, .ref n] H Q E := by
  have := T.len
  exact ⟨x, t, n, a, b, c, p, ms, ts, MS, B, ps, rows, xs, rfl, hI, hG, T.hL, T.hT, by omega, hn, hl, fun _ H' l s h => k l H' s h, fun h1 h2 => absurd ⟨h1, h2⟩ hF, fun h1 h2 => absurd ⟨h1, h2⟩ hF⟩
theorem fd_all {K : PySem.W.Frag} {n t b : Addr} {ms : List Str} {ps : List Addr} {rows : List (List V)} {xs : List Int} {H : Hp} {Q : VK} {E : XK} (hn : SqT K H n ((nodes ms).map V.str)) (hN : (nodes ms).Nodup) (hm : ms.length ≤ 100) (T : TreeB K H t ps rows) (hb : SqT K H b (xs.map V.int)) (hl : xs.length = ms.length)
    (k : ∀ u H', Same H H' → Told (nodes ms) ps rows (fun z => (0 :: xs).getD (ix ms z) 0) u H' → Q u H') : spFD K [.ref n, .ref t, .ref b] H Q E := by
  have := T.len
  refine ⟨n, t, b, ms, ps, rows, xs, rfl, hn, hN, hm, T.hL, T.hT, by omega, fun r hr z hz => (T.hC r hr).as_ z hz, hb, hl, fun k0 H' l e s hl' => k _ _ s ⟨fun k1 e1 => ?_, fun e1 => ?_⟩, fun e j H' q s hq hgo => k _ _ s ⟨fun k1 e1 => ?_, fun _ => ⟨j, q, hq, hgo, rfl⟩⟩⟩
  · rw [e] at e1; cases e1; exact ⟨l, rfl, hl'⟩
  · rw [e] at e1; cases e1
  · rw [e] at e1; cases e1
end K1
end
section
set_option maxRecDepth 100000
set_option maxHeartbeats 4000000
namespace K1
open PySem PyProof.Rows L2 K01
def spLaw (K : PySem.W.Frag) : Sp := fun vs H Q _ => ∃ (a : Addr) (ns : List Int), vs = [.ref a] ∧ SqL K H a (ns.map V.int) ∧ ns.length ≤ 63 ∧ ∀ H', Q (.bl true) H'
theorem asc_numbers : AscZ "numbers" := by
  unfold AscZ
  decide +kernel
theorem asc_zero : AscZ "zero" := by
  unfold AscZ
  decide +kernel
theorem sharedB {K : PySem.W.Frag} {H : Hp} {l q1 q2 q3 q4 : Addr} {z0 : Str} (hz : AscZ z0) (hl : H l = some (.lst (([q1, q2, q3, q4] : List Addr).map V.ref))) (h1 : SqT K H q1 [.str "ask", .str "zero", .str z0, .int 0, .int 1, .int 2]) (h2 : SqT K H q2 [.str "ask", .str z0, .str "zero", .int 0, .int 2, .int 3])
    (h3 : SqT K H q3 [.str "good"]) (h4 : SqT K H q4 [.str "bad"]) : TreeB K H l [q1, q2, q3, q4] [[.str "ask", .str "zero", .str z0, .int 0, .int 1, .int 2], [.str "ask", .str z0, .str "zero", .int 0, .int 2, .int 3], [.str "good"], [.str "bad"]] := by
  have c1 : RowC K H [.str "ask", .str "zero", .str z0, .int 0, .int 1, .int 2] := askC (f := ("zero", z0, 0)) asc_zero hz
  have c2 : RowC K H [.str "ask", .str z0, .str "zero", .int 0, .int 2, .int 3] := askC (f := (z0, "zero", 0)) hz asc_zero
  have c3 : RowC K H [.str "good"] := ⟨⟨_, _, rfl⟩, fun x hx => by rw [List.mem_singleton] at hx; rw [hx]; exact .flat (.str _), fun z hz => by rw [List.mem_singleton] at hz; cases hz; exact asc_good, by show 1 ≤ 8; decide, fun q => by cases q⟩
  have c4 : RowC K H [.str "bad"] := ⟨⟨_, _, rfl⟩, fun x hx => by rw [List.mem_singleton] at hx; rw [hx]; exact .flat (.str _), fun z hz => by rw [List.mem_singleton] at hz; cases hz; exact asc_bad, by show 1 ≤ 8; decide, fun q => by cases q⟩
  exact ⟨hl, (((RowsAt2.one h1 c1).append (.one h2 c2)).append (.one h3 c3)).append (.one h4 c4), fun r hr => by
    simp only [List.mem_cons, List.not_mem_nil, or_false] at hr
    rcases hr with rfl | rfl | rfl | rfl
    · exact c1
    · exact c2
    · exact c3
    · exact c4, by show 4 ≤ 300; decide⟩
/-- what stands as the law goes on: the pit at p, the sheet at x, the trees TT -/
structure LB (K : PySem.W.Frag) (C a p x a1 b1 c1 pp n : Addr) (sc : List V) (ms ts : List Str) (F : List Fact) (B : Mat) (TT : List (Addr × List Addr × List (List V))) (H : Hp) (z : Int) : Prop where
  P : PitAt H p z
  S : Scr K a sc p H
  hm : strsT K H a1 ms
  hn : SqT K H n ((nodes ms).map V.str)
  hc : TTAt K H c1 (F.map factV)
  hI : ShI K H C x a1 b1 c1 pp ms ts F B
  trees : ∀ T ∈ TT, TreeB K H T.1 T.2.1 T.2.2
theorem LB.same {K : PySem.W.Frag} {C a p x a1 b1 c1 pp n : Addr} {sc : List V} {ms ts : List Str} {F : List Fact} {B : Mat} {TT : List (Addr × List Addr × List (List V))} {H H' : Hp} {z : Int} (h : LB K C a p x a1 b1 c1 pp n sc ms ts F B TT H z) (s : Same H H') : LB K C a p x a1 b1 c1 pp n sc ms ts F B TT H' z :=
  ⟨h.P.same s, h.S.but (Same.but s), Same.tup s h.hm, Same.tup s h.hn, h.hc.same s, h.hI.same s, fun T hT => (h.trees T hT).same s⟩
theorem LB.but {K : PySem.W.Frag} {C a p x a1 b1 c1 pp n : Addr} {sc : List V} {ms ts : List Str} {F : List Fact} {B : Mat} {TT : List (Addr × List Addr × List (List V))} {H H' : Hp} {z z' : Int} (h : LB K C a p x a1 b1 c1 pp n sc ms ts F B TT H z) (b : But p H H') (P : PitAt H' p z') : LB K C a p x a1 b1 c1 pp n sc ms ts F B TT H' z' :=
  ⟨P, h.S.but b, h.P.tup b h.hm, h.P.tup b h.hn, h.P.tt b h.hc, h.hI.but h.P b, fun T hT => (h.trees T hT).but h.P b⟩
theorem LB.more {K : PySem.W.Frag} {C a p x a1 b1 c1 pp n : Addr} {sc : List V} {ms ts : List Str} {F : List Fact} {B : Mat} {TT : List (Addr × List Addr × List (List V))} {H : Hp} {z : Int} (h : LB K C a p x a1 b1 c1 pp n sc ms ts F B TT H z) {T : Addr × List Addr × List (List V)} (hT : TreeB K H T.1 T.2.1 T.2.2) : LB K C a p x a1 b1 c1 pp n sc ms ts F B (TT ++ [T]) H z :=
  ⟨h.P, h.S, h.hm, h.hn, h.hc, h.hI, fun U hU => by
    rcases List.mem_append.mp hU with q | q
    · exact h.trees U q
    · rw [List.mem_singleton] at q; rw [q]; exact hT⟩
section
variable {P : Program} {w : World} {K : PySem.W.Frag} {mg : Str → Option Value} {base : Heap}
abbrev sLaw : Stmt := top 70
abbrev nsLaw : List Str := ["script", "at", "pit", "ms", "far", "nodes", "ts", "fs", "paper", "tr", "broken", "worse", "shared", "trial", "places", "rows", "due", "given_here", "heard", "off"]
theorem scLaw : FnScope nsLaw ["script"] (defScope sLaw) := ⟨rfl, rfl, rfl, by decide +kernel, rfl, by decide +kernel, by decide +kernel⟩
theorem ok_law {f iS C CC CB CN D0 : Addr} {cls : Nat → Addr} {fd fdSh : FuncData} {fP fH fC fS fT fX fR fE fU fK fO : Addr} {fdP fdH fdC fdS fdT fdX fdR fdE fdU fdK fdO : FuncData} (F : Fun K "law" "law" sLaw f fd) (T : Bi mg) (S : ShT K C)
    (FSh : FunD K "__init__" "Sheet.__init__" (defArgs sSheet) (defBody sSheet) (defScope sSheet) [.ref D0] [] iS fdSh) (GSh : FnOk P w K mg base (L2N.CX P w) 5 iS fdSh ["self", "marks", "takes", "facts"] (spSheet K C CC cls)) (Mc : Mk K C iS) (mSh : mg "Sheet" = some (.ref C)) (hD : ∀ H, SqT K H D0 [])
    (FP : Fun K "_law_pit" "_law_pit" sPit fP fdP) (bP : Binds K fdP ["script", "at"] []) (mP : mg "_law_pit" = some (.ref fP))
    (FH : Fun K "_law_hoist" "_law_hoist" sHoist fH fdH) (bH : Binds K fdH ["pit", "below"] []) (mH : mg "_law_hoist" = some (.ref fH))
    (FC : Fun K "_law_call_names" "_law_call_names" sCN fC fdC) (bC : Binds K fdC ["pit", "many"] []) (mC : mg "_law_call_names" = some (.ref fC))
    (FS : Fun K "_law_some_facts" "_law_some_facts" sSoF fS fdS) (bS : Binds K fdS ["pit", "ms", "fs", "most", "far"] []) (mS : mg "_law_some_facts" = some (.ref fS))
    (FT : Fun K "_law_drawn_tree" "_law_drawn_tree" sDT fT fdT) (bT : Binds K fdT ["pit", "nodes", "many", "far"] []) (mT : mg "_law_drawn_tree" = some (.ref fT))
    (FX : Fun K "_law_spoilt_tree" "_law_spoilt_tree" sST fX fdX) (bX : Binds K fdX ["pit", "tr"] []) (mX : mg "_law_spoilt_tree" = some (.ref fX))
    (FR : Fun K "_law_drawn_recording" "_law_drawn_recording" sDR fR fdR) (bR : Binds K fdR ["pit", "marks_here", "facts_here", "far"] []) (mR : mg "_law_drawn_recording" = some (.ref fR))
    (FE : Fun K "_law_follow_heard" "_law_follow_heard" sFH fE fdE) (bE : Binds K fdE ["paper", "tr", "places"] []) (mE : mg "_law_follow_heard" = some (.ref fE))
    (FU : Fun K "_law_follow_due" "_law_follow_due" sFD fU fdU) (bU : Binds K fdU ["nodes", "tr", "places"] []) (mU : mg "_law_follow_due" = some (.ref fU))
    (FK : Fun K "_law_kin" "_law_kin" sKin fK fdK) (bK : Binds K fdK ["found", "due"] []) (mK : mg "_law_kin" = some (.ref fK))
    (FO : Fun K "follow" "follow" sFo fO fdO) (bO : Binds K fdO ["sheet", "tree", "numbers"] []) (mO : mg "follow" = some (.ref fO))
    (GCN : FnOk P w K mg base CX0 2 fC fdC ["pit", "many"] (spCN K))
    (GS : FnOk P w K mg base CX0 3 fS fdS ["pit", "ms", "fs", "most", "far"] (spSoF K))
    (GT : FnOk P w K mg base CX0 3 fT fdT ["pit", "nodes", "many", "far"] (spDT K))
    (GX : FnOk P w K mg base CX0 2 fX fdX ["pit", "tr"] (spST K))
    (GR : FnOk P w K mg base CX0 2 fR fdR ["pit", "marks_here", "facts_here", "far"] (spDR K))
    (GFH : FnOk P w K mg base CX0 6 fE fdE ["paper", "tr", "places"] (spFH K C))
    (GFD : FnOk P w K mg base CX0 2 fU fdU ["nodes", "tr", "places"] (spFD K))
    (GFO : FnOk P w K mg base (L2N.CX P w) 5 fO fdO ["sheet", "tree", "numbers"] (spFo K C CB CN)) :
    FnOk P w K mg base CX0 7 f fd ["script"] (spLaw K) := by
  have GP : FnOk P w K mg base CX0 1 fP fdP ["script", "at"] (spPit K) := ok_pit FP T
  have GH : FnOk P w K mg base CX0 1 fH fdH ["pit", "below"] (spHoist K) := ok_hoist FH T
  have GK : FnOk P w K mg base CX0 4 fK fdK ["found", "due"] (spKin K 4) := ok_kin FK T bK mK 4
  obtain ⟨ds4, v4, b4⟩ := FSh.binds1 4 1 (by simp) rfl (ps := ["self", "marks", "takes", "facts"]) (fun T kV doc pm an cdv ct us its hl hi => match us, hl, its, hi with | [_, _, _, _], _, [_], _ => ⟨_, rfl, rfl⟩)
  refine F.ok scLaw (fun vs H Q E h => ?_) (fun cdv A outer s H vs Q E hr h => ?_)
  · obtain ⟨_, _, rfl, _⟩ := h
    rfl
  · obtain ⟨a, ns, rfl, ha, hl, kQ⟩ := h
    have hr1 : Room 1 _ := hr.mono (by decide)
    have hr2 : Room 2 _ := hr.mono (by decide)
    have hr3 : Room 3 _ := hr.mono (by decide)
    have hr4 : Room 4 _ := hr.mono (by decide)
    have hr5 : Room 5 _ := hr.mono (by decide)
    have hr6 : Room 6 _ := hr
    refine ⟨_, pss_cons (ps_for PassesOwn.never rfl (pi_range1 (by rfl) T.range (pa_cons (pe_callB (call_max2 rfl) (by rfl) T.max (by decide +kernel) (pa_cons pe_int (pa_cons (pe_callB (call_min2 rfl) (by rfl) T.min (by decide +kernel) (pa_cons pe_int (pa_cons (pe_callB call_len_seq (by rfl) T.len PySem.boot_len (pa_cons (pv 0) pa_nil)) pa_nil))) pa_nil))) pa_nil)) (pg_name (i := 1) scLaw.nd rfl (.inl rfl))
        (pss_cons (ps_set (i := 2) scLaw.nd rfl (.inl rfl) (pe_call GP hr1 rfl mP FP.kp bP .nil pass0 (pa_cons (pv 0) (pa_cons (pv 1) pa_nil))))
        (pss_cons (ps_set (i := 3) scLaw.nd rfl (.inl rfl) (pe_call GCN hr2 rfl mC FC.kp bC .nil pass0 (pa_cons (pv 2) (pa_cons (pe_op op_add pe_int (pe_call GH hr1 rfl mH FH.kp bH .nil pass0 (pa_cons (pv 2) (pa_cons pe_int pa_nil)))) pa_nil))))
        (pss_cons (ps_par (i := 4) (j := 5) rfl scLaw.nd rfl rfl (by decide) rfl rfl (pa_cons (pe_ix ix_list (pe_lst (pa_cons pe_int (pa_cons pe_int (pa_cons (pe_op op_powW pe_int pe_int) (pa_cons (pe_op op_powW pe_int pe_int) pa_nil))))) (pe_call GH hr1 rfl mH FH.kp bH .nil pass0 (pa_cons (pv 2) (pa_cons pe_int pa_nil))) (fun _ _ => rfl)) (pa_cons (pe_op op_catA (pe_tup (pa_cons pe_str pa_nil)) (pv 3)) pa_nil)) rfl)
        (pss_cons (ps_set (i := 6) scLaw.nd rfl (.inl rfl) (pe_slice sl_tupA (pv 3) po_none (po_some (pe_call GH hr1 rfl mH FH.kp bH .nil pass0 (pa_cons (pv 2) (pa_cons (pe_op op_add (pe_callB call_len_seq (by rfl) T.len PySem.boot_len (pa_cons (pv 3) pa_nil)) pe_int) pa_nil))))))
        (pss_cons (ps_set (i := 7) scLaw.nd rfl (.inl rfl) (pe_call GS hr3 rfl mS FS.kp bS .nil pass0 (pa_cons (pv 2) (pa_cons (pv 3) (pa_cons (pe_tup pa_nil) (pa_cons pe_int (pa_cons (pv 4) pa_nil)))))))
        (pss_cons (ps_set (i := 8) scLaw.nd rfl (.inl rfl) (pe_make Mc GSh hr rfl mSh b4 v4 passN (pa_cons (pv 3) (pa_cons (pv 6) (pa_cons (pv 7) pa_nil)))))
        (pss_cons (ps_set (i := 9) scLaw.nd rfl (.inl rfl) (pe_call GT hr3 rfl mT FT.kp bT .nil pass0 (pa_cons (pv 2) (pa_cons (pv 5) (pa_cons (pe_call GH hr1 rfl mH FH.kp bH .nil pass0 (pa_cons (pv 2) (pa_cons pe_int pa_nil))) (pa_cons (pv 4) pa_nil))))))
        (pss_cons (ps_set (i := 10) scLaw.nd rfl (.inl rfl) (pe_call GX hr2 rfl mX FX.kp bX .nil pass0 (pa_cons (pv 2) (pa_cons (pv 9) pa_nil))))
        (pss_cons (ps_set (i := 11) scLaw.nd rfl (.inl rfl) (pe_ifExp (pt_cmpR (op_neD hr.units) (pv 10) (pe_lst pa_nil) (nomark _)) (pe_call GX hr2 rfl mX FX.kp bX .nil pass0 (pa_cons (pv 2) (pa_cons (pv 10) pa_nil))) (pv 10)))
        (pss_cons (ps_set (i := 12) scLaw.nd rfl (.inl rfl) (pe_lst (pa_cons (pe_tup (pa_cons pe_str (pa_cons pe_str (pa_cons (pe_ix ix_tup (pv 3) pe_int (fun _ _ => rfl)) (pa_cons pe_int (pa_cons pe_int (pa_cons pe_int pa_nil))))))) (pa_cons (pe_tup (pa_cons pe_str (pa_cons (pe_ix ix_tup (pv 3) pe_int (fun _ _ => rfl)) (pa_cons pe_str (pa_cons pe_int (pa_cons pe_int (pa_cons pe_int pa_nil))))))) (pa_cons (pe_tup (pa_cons pe_str pa_nil)) (pa_cons (pe_tup (pa_cons pe_str pa_nil)) pa_nil))))))
        (pss_cons (ps_set (i := 12) scLaw.nd rfl (.inl rfl) (pe_lst (pa_cons (pe_tup (pa_cons pe_str (pa_cons pe_str (pa_cons (pe_ix ix_tup (pv 3) pe_int (fun _ _ => rfl)) (pa_cons pe_int (pa_cons pe_int (pa_cons pe_int pa_nil))))))) (pa_cons (pe_tup (pa_cons pe_str (pa_cons (pe_ix ix_tup (pv 3) pe_int (fun _ _ => rfl)) (pa_cons pe_str (pa_cons pe_int (pa_cons pe_int (pa_cons pe_int pa_nil))))))) (pa_cons (pe_tup (pa_cons pe_str pa_nil)) (pa_cons (pe_tup (pa_cons pe_str pa_nil)) pa_nil))))))
        (pss_cons (ps_for PassesOwn.never rfl (pi_range1 (by rfl) T.range (pa_cons pe_int pa_nil)) (pg_name (i := 13) scLaw.nd rfl (.inl rfl))
          (pss_cons (ps_set (i := 14) scLaw.nd rfl (.inl rfl) (pe_call GR hr2 rfl mR FR.kp bR .nil pass0 (pa_cons (pv 2) (pa_cons (pv 3) (pa_cons (pv 7) (pa_cons (pv 4) pa_nil))))))
          (pss_cons (ps_for PassesOwn.never rfl (pi_list (pe_lst (pa_cons (pv 9) (pa_cons (pv 10) (pa_cons (pv 9) (pa_cons (pv 11) (pa_cons (pv 12) pa_nil))))))) (pg_name (i := 15) scLaw.nd rfl (.inl rfl))
            (pss_cons (ps_set (i := 16) scLaw.nd rfl (.inl rfl) (pe_call GFD hr2 rfl mU FU.kp bU .nil pass0 (pa_cons (pv 5) (pa_cons (pv 15) (pa_cons (pv 14) pa_nil)))))
            (pss_cons (ps_set (i := 17) scLaw.nd rfl (.inl rfl) (pe_callTy call_list_of (by rfl) T.list (by decide +kernel) (pa_cons (pv 15) pa_nil)))
            (pss_one (ps_if (PW.pt (pw_or (pt_not (pt_val (pe_call GK hr4 rfl mK FK.kp bK .nil pass0 (pa_cons (pe_call GFH hr6 rfl mE FE.kp bE .nil pass0 (pa_cons (pv 8) (pa_cons (pv 17) (pa_cons (pv 14) pa_nil)))) (pa_cons (pv 16) pa_nil))))) (pw_or1 (pt_cmpR (op_neD hr.units) (pv 17) (pv 15) (nomark _))))) (pss_one (ps_ret pe_bl)) pss_nil)))))
          (pss_cons (ps_set (i := 18) scLaw.nd rfl (.inl rfl) (pe_callK0 GFO hr5 rfl mO FO.kp (fo_kbn FO) passN (pk_cons (pv 14) (pk_cons (pv 8) (pk_cons (pv 9) pk_nil)))))
          (pss_one (ps_if (pt_not (pt_val (pe_call GK hr4 rfl mK FK.kp bK .nil pass0 (pa_cons (pv 18) (pa_cons (pe_call GFD hr2 rfl mU FU.kp bU .nil pass0 (pa_cons (pv 5) (pa_cons (pv 9) (pa_cons (pv 14) pa_nil)))) pa_nil))))) (pss_one (ps_ret pe_bl)) pss_nil))))))
        (pss_cons (ps_set (i := 19) scLaw.nd rfl (.inl rfl) (pe_op op_catA (pe_slice sl_tupA (pv 14) po_none (po_some (pe_un un_neg pe_int))) (pe_tup (pa_cons (pe_op op_sub (pe_un un_neg pe_int) (pe_ix ix_tup (pv 14) (pe_un un_neg pe_int) (fun _ _ => rfl))) pa_nil))))
        (pss_cons (ps_set (i := 18) scLaw.nd rfl (.inl rfl) (pe_lst (pa_cons (pe_call GFH hr6 rfl mE FE.kp bE .nil pass0 (pa_cons (pv 8) (pa_cons (pv 11) (pa_cons (pv 19) pa_nil)))) (pa_cons (pe_call GFH hr6 rfl mE FE.kp bE .nil pass0 (pa_cons (pv 8) (pa_cons (pv 9) (pa_cons (pv 19) pa_nil)))) pa_nil))))
        (pss_cons (ps_expr (pe_bm PySem.F.plainAttrs_list PySem.F.slot_list_append PySem.F.type_list_append mt_append (pv 18) (pa_cons (pe_call GFH hr6 rfl mE FE.kp bE .nil pass0 (pa_cons (pv 8) (pa_cons (pv 9) (pa_cons (pe_op op_catA (pv 14) (pe_tup (pa_cons pe_int pa_nil))) pa_nil)))) pa_nil)))
        (pss_one (ps_if (pt_cmpR (op_neD hr.units) (pv 18) (pe_op op_rep (pe_lst (pa_cons (pe_lst (pa_cons pe_str pa_nil)) pa_nil)) pe_int) (nomark _)) (pss_one (ps_ret pe_bl)) pss_nil))))))))))))))))))
      (pss_one (ps_ret pe_bl)), ?_⟩
    obtain ⟨m, hm, hm5⟩ : ∃ m : Nat, (if (if (((ns.map V.int).length : Nat) : Int) < 2 then (((ns.map V.int).length : Nat) : Int) else 2) > 1 then (if (((ns.map V.int).length : Nat) : Int) < 2 then (((ns.map V.int).length : Nat) : Int) else 2) else 1) = (m : Int) ∧ m ≤ 2 := by
      by_cases q1 : (((ns.map V.int).length : Nat) : Int) < 2
      · rw [if_pos q1]
        by_cases q2 : (((ns.map V.int).length : Nat) : Int) > 1
        · rw [if_pos q2]; exact ⟨_, rfl, by omega⟩
        · rw [if_neg q2]; exact ⟨1, rfl, by omega⟩
      · rw [if_neg q1]; exact ⟨2, rfl, by omega⟩
    refine ⟨_, rfl, a, _, rfl, .inl ha, _, _, rfl, _, _, rfl, ?_⟩
    rw [hm]
    refine ⟨_, rfl, by omega, by omega, ?_⟩
    rw [Int.toNat_natCast]
    refine for_r0 (n := m) (fun i σ H' => (∃ v1 v2 v3 v4 v5 v6 v7 v8 v9 v10 v11 v12 v13 v14 v15 v16 v17 v18 v19 : Option V, σ = [some (.ref a), v1, v2, v3, v4, v5, v6, v7, v8, v9, v10, v11, v12, v13, v14, v15, v16, v17, v18, v19]) ∧ SqL K H' a (ns.map V.int)) ⟨⟨_, _, _, _, _, _, _, _, _, _, _, _, _, _, _, _, _, _, _, rfl⟩, ha⟩ ?_ ?_
    · rintro i σ H1 hi ⟨⟨v1, v2, v3, v4, v5, v6, v7, v8, v9, v10, v11, v12, v13, v14, v15, v16, v17, v18, v19, rfl⟩, ha1⟩
      refine ⟨_, rfl, _, rfl, a, ns, i, rfl, ha1, hl, by omega, fun H2 p s2 hp P2 => ?_⟩
      have S2 : Scr K a (ns.map V.int) p H2 := Scr.new ha1 hp s2
      clear s2 hp
      dsimp only [gName]
      -- the marks
      refine ⟨_, rfl, _, rfl, p, 4, _, rfl, P2, by decide, by decide, by decide, fun H3 d3 b3 P3 l3 u3 => ⟨_, _, rfl, rfl, ?_⟩⟩
      obtain ⟨n3, rfl⟩ := Int.eq_ofNat_of_zero_le l3
      have S3 := S2.but b3
      refine ⟨p, 1 + n3, _, by show [V.ref p, V.int ((1 : Int) + (n3 : Int))] = _; rw [show ((1 : Int) + (n3 : Int)) = ((1 + n3 : Nat) : Int) by omega], P3, by omega, by omega, fun H4 a1 ms b4 P4 hm4 hml gm => ?_⟩
      have S4 := S3.but b4
      have hm1 : 1 ≤ ms.length := by omega
      have hm4' : ms.length ≤ 4 := by omega
      clear S2 S3 P2 P3 b3 b4
      -- far, nodes
      refine ⟨_, _, rfl, rfl, pow_ok (n := 6) (by decide) (by decide), _, _, rfl, rfl, pow_ok (n := 11) (by decide) (by decide), by show 4 ≤ sizeLine; decide, fun l hl => ?_⟩
      have sl : Same H4 (upd H4 l (.lst [.int 3, .int 40, .int (10 ^ 6), .int (10 ^ 11)])) := Same.new hl
      have P5 := P4.same sl
      have nl : l ≠ p := P4.ne hl
      refine ⟨_, rfl, p, 4, _, rfl, P5, by omega, by decide, by decide, fun H5 d5 b5 P5' l5 u5 => ?_⟩
      obtain ⟨far, hat, hf0, hf1⟩ : ∃ far : Int, atI [V.int 3, V.int 40, V.int (10 ^ 6), V.int (10 ^ 11)] d5 = some (.int far) ∧ 0 ≤ far ∧ far ≤ 10 ^ 12 := by
        have : d5 = 0 ∨ d5 = 1 ∨ d5 = 2 ∨ d5 = 3 := by omega
        rcases this with rfl | rfl | rfl | rfl
        · exact ⟨3, at_of (j := 0) rfl rfl, by decide, by decide⟩
        · exact ⟨40, at_of (j := 1) rfl rfl, by decide, by decide⟩
        · exact ⟨10 ^ 6, at_of (j := 2) rfl rfl, by decide, by decide⟩
        · exact ⟨10 ^ 11, at_of (j := 3) rfl rfl, by decide, by decide⟩
      refine ⟨l, _, _, _, rfl, rfl, SqL.of (b5 _ _ nl upd_same), hat, ?_⟩
      have S5 := (S4.but (Same.but sl)).but b5
      have hm5' := P5.tup b5 (Same.tup (K := K) sl hm4)
      clear S4 P4 hat b5 l5 u5 nl P5 hm4 sl hl
      refine ⟨by show 1 ≤ sizeLine; decide, fun q6 hq6 => ⟨_, rfl, ?_⟩⟩
      have e6 : Same H5 (upd H5 q6 (.tup [.str "zero"])) := Same.new hq6
      have v6 : SqT K (upd H5 q6 (.tup [.str "zero"])) q6 [.str "zero"] := tup_at
      generalize upd H5 q6 (.tup [.str "zero"]) = H6 at e6 v6
      refine catA_it v6 (Same.tup (K := K) e6 hm5') (by rw [List.length_map]; exact le1000 (show 1 + ms.length ≤ 1000 by omega)) fun n H7 e7 hn => ⟨_, _, rfl, ?_⟩
      have hn : SqT K H7 n ((nodes ms).map V.str) := hn
      have s57 := e6.trans e7
      have P7 := P5'.same s57
      have S7 := S5.but (Same.but s57)
      have hm7 := Same.tup (K := K) s57 hm5'
      clear S5 P5' hm5' s57 e6 e7 v6 hq6
      dsimp only [gName]
      -- the takes
      refine ⟨_, rfl, _, rfl, _, rfl, a1, _, rfl, .inr hm7, _, _, rfl, rfl, p, _, _, rfl, P7, by omega, by rw [List.length_map]; omega, by rw [List.length_map]; omega, fun H8 d8 b8 P8 l8 u8 => ?_⟩
      obtain ⟨n8, rfl⟩ := Int.eq_ofNat_of_zero_le l8
      have S8 := S7.but b8
      have hm8 := P7.tup b8 hm7
      have hn8 := P7.tup b8 hn
      clear S7 P7 hm7 hn b8
      refine ⟨_, rfl, slA_it hm8 fun b1 H9 s9 hb9 => ?_⟩
      have hb9 : strsT K H9 b1 (ms.take n8) := by
        have e : cutV (ms.map V.str) none (some (n8 : Int)) = (ms.take n8).map V.str := by rw [cut_take, List.map_take]
        rw [e] at hb9; exact hb9
      have P9 := P8.same s9
      have S9 := S8.but (Same.but s9)
      have hm9 := Same.tup (K := K) s9 hm8
      have hn9 := Same.tup (K := K) s9 hn8
      clear S8 P8 hm8 hn8 s9
      -- the facts
      refine ⟨_, rfl, _, rfl, by show 0 ≤ sizeLine; decide, fun c0 hc0 => ⟨_, rfl, ?_⟩⟩
      have s10 : Same H9 (upd H9 c0 (.tup [])) := Same.new hc0
      have t10 : TTAt K (upd H9 c0 (.tup [])) c0 (([] : List Fact).map factV) := ⟨[], tup_at, rfl, fun i q r h => nomatch h⟩
      generalize upd H9 c0 (.tup []) = H10 at s10 t10
      have S10 := S9.but (Same.but s10)
      have P10 := P9.same s10
      refine ⟨p, a1, c0, ms, [], 4, far, _, rfl, P10, by omega, Same.tup s10 hm9, hm1, by omega, gm, t10, by decide, (fun f h => nomatch h), negs_nil ms.length, hf0, hf1, fun H11 c1 F11 b11 P11 hc11 hF1 hF2 hF3 => ?_⟩
      have S11 := S10.but b11
      have hm11 := P10.tup b11 (Same.tup (K := K) s10 hm9)
      have hn11 := P10.tup b11 (Same.tup (K := K) s10 hn9)
      have hb11 := P10.tup b11 (Same.tup (K := K) s10 hb9)
      clear S10 P10 s10 t10 S9 P9 hm9 hn9 hb9 b11 hc0
      have ok : ShOk ms (ms.take n8) F11 := ⟨gm, by omega, hm1, fun t ht => List.mem_of_mem_take ht, gm.nd.sublist (List.take_sublist _ _), by rw [List.length_take]; omega, by simp at hF1; omega, hF2, hF3⟩
      have htl := ok.tl
      have hfl := ok.fl
      have hI := FOk.inN ok.fo
      -- the sheet
      refine ⟨_, rfl, _, rfl, _, rfl, fun x dx hx hdx hne => ?_⟩
      show spSheet K C CC cls [.ref x, .ref a1, .ref b1, .ref c1] _ _ _
      refine sheet_ok hx hdx hne hm11 ⟨by omega, fun z hz => by have := (ok.gm.gn z hz).len'; omega⟩ (by omega) hb11 (by omega) hc11 (by omega) (fun f hf => (ok.fo f hf).sm) ok.fault hI ok.gm.nodes ok.ng fun H12 pp B s12 hS12 hG => ?_
      have S12 := S11.but (Same.but s12)
      have P12 := P11.same s12
      have hm12 := Same.tup (K := K) s12 hm11
      have hn12 := Same.tup (K := K) s12 hn11
      have hc12 := hc11.same s12
      clear S11 P11 hm11 hn11 hb11 hc11 s12 hx hdx hne
      have has : ∀ w ∈ nodes ms, AscZ w := fun w hw => by
        rcases List.mem_cons.mp hw with q | q
        · rw [q]; exact asc_zero
        · exact (gm.gn w q).asc
      -- the tree
      refine ⟨_, rfl, _, rfl, _, rfl, p, 10, _, rfl, P12, by omega, by decide, by decide, fun H13 d13 b13 P13 l13 u13 => ⟨_, rfl, ?_⟩⟩
      obtain ⟨many, rfl⟩ := Int.eq_ofNat_of_zero_le l13
      have S13 := S12.but b13
      have hm13 := P12.tup b13 hm12
      have hn13 := P12.tup b13 hn12
      have hc13 := P12.tt b13 hc12
      have hS13 := hS12.but P12 b13
      clear S12 P12 hm12 hn12 hc12 hS12 b13
      refine ⟨p, n, ms, many, far, _, rfl, P13, by omega, hn13, hm1, by omega, gm.nodes, has, by omega, hf0, hf1, fun H14 t0 ps0 rows0 b14 P14 hL14 hT14 hl14 hg0 hC14 => ?_⟩
      have T14 : TreeB K H14 t0 ps0 rows0 := ⟨hL14, hT14, hC14, by omega⟩
      have S14 := S13.but b14
      have hm14 := P13.tup b14 hm13
      have hn14 := P13.tup b14 hn13
      have hc14 := P13.tt b14 hc13
      have hS14 := hS13.but P13 b14
      clear S13 P13 hm13 hn13 hc13 hS13 b14 hL14 hT14 hC14
      have P14 := P14.mono (z' := 400) (by omega)
      -- the spoilt ones
      refine ⟨_, rfl, _, rfl, p, t0, ps0, rows0, _, rfl, P14, by decide, T14.hL, T14.hT, T14.hC, by omega, by omega, fun H15 t1 ps1 rows1 b15 P15 hL15 hT15 hl15 hC15 => ?_⟩
      have T15 : TreeB K H15 t1 ps1 rows1 := ⟨hL15, hT15, hC15, by omega⟩
      have A15 : LB K C a p x a1 b1 c1 pp n (ns.map V.int) ms (ms.take n8) F11 B [(t0, ps0, rows0), (t1, ps1, rows1)] H15 (400 + 3) := ⟨P15, S14.but b15, P14.tup b15 hm14, P14.tup b15 hn14, P14.tt b15 hc14, hS14.but P14 b15, fun T hT => by
        simp only [List.mem_cons, List.not_mem_nil, or_false] at hT
        rcases hT with rfl | rfl
        · exact T14.but P14 b15
        · exact T15⟩
      clear S14 P14 hm14 hn14 hc14 hS14 b15 T14 T15 P15 hL15 hT15 hC15
      dsimp only [gName]
      show tSeq _ _ _ _ _
      refine seq_gen (fun σ' H' => ∃ t2 ps2 rows2, σ' = [some (.ref a), some (.int (i : Nat)), some (.ref p), some (.ref a1), some (.int far), some (.ref n), some (.ref b1), some (.ref c1), some (.ref x), some (.ref t0), some (.ref t1), some (.ref t2), v12, v13, v14, v15, v16, v17, v18, v19] ∧
          LB K C a p x a1 b1 c1 pp n (ns.map V.int) ms (ms.take n8) F11 B [(t0, ps0, rows0), (t1, ps1, rows1), (t2, ps2, rows2)] H' 406) (fun N hN => ?_) ?_
      · have T1 := A15.trees (t1, ps1, rows1) (by simp)
        refine ⟨_, rfl, by show 0 ≤ sizeLine; decide, fun e he => ?_⟩
        have se : Same H15 (upd H15 e (.lst [])) := Same.new he
        have hee : (upd H15 e (.lst [])) e = some (.lst []) := upd_same
        generalize upd H15 e (.lst []) = H16 at se hee
        have A16 := A15.same se
        have T16 := T1.same se
        refine ⟨rowsD rows1, .list [], T16.dp, .lst (SqL.of hee) .nil, T16.lv.shaped (by decide), shaped_nil, _, rfl, ?_⟩
        rw [show PyData.eqv (rowsD rows1) (.list []) = (rows1.map fun r => PyData.tuple (r.map rD)).isEmpty from eqv_nil _]
        cases hr1 : rows1 with
        | nil =>
          refine iteF ⟨_, rfl, ?_⟩
          refine hN _ _ ⟨t1, ps1, rows1, rfl, ⟨A16.P.mono (by decide), A16.S, A16.hm, A16.hn, A16.hc, A16.hI, fun T hT => ?_⟩⟩
          simp only [List.mem_cons, List.not_mem_nil, or_false] at hT
          rcases hT with rfl | rfl | rfl
          · exact A16.trees _ (by simp)
          · exact A16.trees _ (by simp)
          · exact A16.trees (t1, ps1, rows1) (by simp)
        | cons r0 rr =>
          refine iteT ⟨_, rfl, _, rfl, p, t1, ps1, rows1, _, rfl, A16.P, by decide, T16.hL, T16.hT, T16.hC, by rw [hr1]; exact Nat.succ_pos _, by omega, fun H17 t2 ps2 rows2 b17 P17 hL17 hT17 hl17 hC17 => ?_⟩
          exact hN _ _ ⟨t2, ps2, rows2, rfl, (A16.but b17 (P17.mono (by decide))).more (T := (t2, ps2, rows2)) ⟨hL17, hT17, hC17, by show rows2.length ≤ 300; omega⟩⟩
      · rintro σ' H17 ⟨t2, ps2, rows2, rfl, A17⟩
        clear A15
        obtain ⟨z0, hmz⟩ : ∃ z0, ms[0]? = some z0 := ⟨_, List.getElem?_eq_getElem (by omega)⟩
        have hz0 : (ms.map V.str)[0]? = some (.str z0) := by rw [List.getElem?_map, hmz]; rfl
        have az0 : AscZ z0 := (gm.gn _ (List.mem_of_getElem? hmz)).asc
        refine ⟨_, rfl, a1, _, _, _, rfl, rfl, Same.tup (K := K) (Same.refl H17) A17.hm, at_of (j := 0) rfl hz0, by show 6 ≤ sizeLine; decide, fun q1A hq1A => ?_⟩
        have eq1A : Same H17 (upd H17 q1A (.tup [.str "ask", .str "zero", .str z0, .int 0, .int 1, .int 2])) := Same.new hq1A
        have vq1A : SqT K (upd H17 q1A (.tup [.str "ask", .str "zero", .str z0, .int 0, .int 1, .int 2])) q1A [.str "ask", .str "zero", .str z0, .int 0, .int 1, .int 2] := tup_at
        generalize upd H17 q1A (.tup [.str "ask", .str "zero", .str z0, .int 0, .int 1, .int 2]) = G1A at eq1A vq1A
        refine ⟨_, rfl, a1, _, _, _, rfl, rfl, Same.tup (K := K) eq1A A17.hm, at_of (j := 0) rfl hz0, by show 6 ≤ sizeLine; decide, fun q2A hq2A => ?_⟩
        have eq2A : Same G1A (upd G1A q2A (.tup [.str "ask", .str z0, .str "zero", .int 0, .int 2, .int 3])) := Same.new hq2A
        have vq2A : SqT K (upd G1A q2A (.tup [.str "ask", .str z0, .str "zero", .int 0, .int 2, .int 3])) q2A [.str "ask", .str z0, .str "zero", .int 0, .int 2, .int 3] := tup_at
        generalize upd G1A q2A (.tup [.str "ask", .str z0, .str "zero", .int 0, .int 2, .int 3]) = G2A at eq2A vq2A
        refine ⟨by show 1 ≤ sizeLine; decide, fun q3A hq3A => ?_⟩
        have eq3A : Same G2A (upd G2A q3A (.tup [.str "good"])) := Same.new hq3A
        have vq3A : SqT K (upd G2A q3A (.tup [.str "good"])) q3A [.str "good"] := tup_at
        generalize upd G2A q3A (.tup [.str "good"]) = G3A at eq3A vq3A
        refine ⟨by show 1 ≤ sizeLine; decide, fun q4A hq4A => ?_⟩
        have eq4A : Same G3A (upd G3A q4A (.tup [.str "bad"])) := Same.new hq4A
        have vq4A : SqT K (upd G3A q4A (.tup [.str "bad"])) q4A [.str "bad"] := tup_at
        generalize upd G3A q4A (.tup [.str "bad"]) = G4A at eq4A vq4A
        refine ⟨by show 4 ≤ sizeLine; decide, fun lA hlA => ?_⟩
        have elA : Same G4A (upd G4A lA (.lst [.ref q1A, .ref q2A, .ref q3A, .ref q4A])) := Same.new hlA
        have vlA : (upd G4A lA (.lst [.ref q1A, .ref q2A, .ref q3A, .ref q4A])) lA = some (.lst (([q1A, q2A, q3A, q4A] : List Addr).map V.ref)) := upd_same
        generalize upd G4A lA (.lst [.ref q1A, .ref q2A, .ref q3A, .ref q4A]) = GlA at elA vlA
        have sA := ((((eq1A.trans eq2A).trans eq3A).trans eq4A).trans elA)
        have BA := A17.same sA
        have TA : TreeB K GlA lA [q1A, q2A, q3A, q4A] [[.str "ask", .str "zero", .str z0, .int 0, .int 1, .int 2], [.str "ask", .str z0, .str "zero", .int 0, .int 2, .int 3], [.str "good"], [.str "bad"]] := sharedB az0 vlA (Same.tup (K := K) (((eq2A.trans eq3A).trans eq4A).trans elA) vq1A) (Same.tup (K := K) ((eq3A.trans eq4A).trans elA) vq2A) (Same.tup (K := K) (eq4A.trans elA) vq3A) (Same.tup (K := K) elA vq4A)
        dsimp only [gName]
        refine ⟨_, rfl, a1, _, _, _, rfl, rfl, Same.tup (K := K) (Same.refl GlA) BA.hm, at_of (j := 0) rfl hz0, by show 6 ≤ sizeLine; decide, fun q1C hq1C => ?_⟩
        have eq1C : Same GlA (upd GlA q1C (.tup [.str "ask", .str "zero", .str z0, .int 0, .int 1, .int 2])) := Same.new hq1C
        have vq1C : SqT K (upd GlA q1C (.tup [.str "ask", .str "zero", .str z0, .int 0, .int 1, .int 2])) q1C [.str "ask", .str "zero", .str z0, .int 0, .int 1, .int 2] := tup_at
        generalize upd GlA q1C (.tup [.str "ask", .str "zero", .str z0, .int 0, .int 1, .int 2]) = G1C at eq1C vq1C
        refine ⟨_, rfl, a1, _, _, _, rfl, rfl, Same.tup (K := K) eq1C BA.hm, at_of (j := 0) rfl hz0, by show 6 ≤ sizeLine; decide, fun q2C hq2C => ?_⟩
        have eq2C : Same G1C (upd G1C q2C (.tup [.str "ask", .str z0, .str "zero", .int 0, .int 2, .int 3])) := Same.new hq2C
        have vq2C : SqT K (upd G1C q2C (.tup [.str "ask", .str z0, .str "zero", .int 0, .int 2, .int 3])) q2C [.str "ask", .str z0, .str "zero", .int 0, .int 2, .int 3] := tup_at
        generalize upd G1C q2C (.tup [.str "ask", .str z0, .str "zero", .int 0, .int 2, .int 3]) = G2C at eq2C vq2C
        refine ⟨by show 1 ≤ sizeLine; decide, fun q3C hq3C => ?_⟩
        have eq3C : Same G2C (upd G2C q3C (.tup [.str "good"])) := Same.new hq3C
        have vq3C : SqT K (upd G2C q3C (.tup [.str "good"])) q3C [.str "good"] := tup_at
        generalize upd G2C q3C (.tup [.str "good"]) = G3C at eq3C vq3C
        refine ⟨by show 1 ≤ sizeLine; decide, fun q4C hq4C => ?_⟩
        have eq4C : Same G3C (upd G3C q4C (.tup [.str "bad"])) := Same.new hq4C
        have vq4C : SqT K (upd G3C q4C (.tup [.str "bad"])) q4C [.str "bad"] := tup_at
        generalize upd G3C q4C (.tup [.str "bad"]) = G4C at eq4C vq4C
        refine ⟨by show 4 ≤ sizeLine; decide, fun lC hlC => ?_⟩
        have elC : Same G4C (upd G4C lC (.lst [.ref q1C, .ref q2C, .ref q3C, .ref q4C])) := Same.new hlC
        have vlC : (upd G4C lC (.lst [.ref q1C, .ref q2C, .ref q3C, .ref q4C])) lC = some (.lst (([q1C, q2C, q3C, q4C] : List Addr).map V.ref)) := upd_same
        generalize upd G4C lC (.lst [.ref q1C, .ref q2C, .ref q3C, .ref q4C]) = GlC at elC vlC
        have sC := ((((eq1C.trans eq2C).trans eq3C).trans eq4C).trans elC)
        have BC := BA.same sC
        have TC : TreeB K GlC lC [q1C, q2C, q3C, q4C] [[.str "ask", .str "zero", .str z0, .int 0, .int 1, .int 2], [.str "ask", .str z0, .str "zero", .int 0, .int 2, .int 3], [.str "good"], [.str "bad"]] := sharedB az0 vlC (Same.tup (K := K) (((eq2C.trans eq3C).trans eq4C).trans elC) vq1C) (Same.tup (K := K) ((eq3C.trans eq4C).trans elC) vq2C) (Same.tup (K := K) (eq4C.trans elC) vq3C) (Same.tup (K := K) elC vq4C)
        have A18 := BC.more (T := (lC, [q1C, q2C, q3C, q4C], _)) TC
        dsimp only [gName]
        clear BA TA BC TC A17
        refine ⟨_, rfl, by omega, by omega, ?_⟩
        refine for_r0 (n := 3) (fun j σ H' => ∃ v13 v14 v15 v16 v17 v18 v19 : Option V, σ = [some (.ref a), some (.int (i : Nat)), some (.ref p), some (.ref a1), some (.int far), some (.ref n), some (.ref b1), some (.ref c1), some (.ref x), some (.ref t0), some (.ref t1), some (.ref t2), some (.ref lC), v13, v14, v15, v16, v17, v18, v19] ∧
            (0 < j → ∃ t xs, v14 = some (.ref t) ∧ SqT K H' t (xs.map V.int) ∧ xs.length = ms.length ∧ Fits (ms.length + 1) B (0 :: xs)) ∧
            LB K C a p x a1 b1 c1 pp n (ns.map V.int) ms (ms.take n8) F11 B ([(t0, ps0, rows0), (t1, ps1, rows1), (t2, ps2, rows2)] ++ [(lC, [q1C, q2C, q3C, q4C], [[.str "ask", .str "zero", .str z0, .int 0, .int 1, .int 2], [.str "ask", .str z0, .str "zero", .int 0, .int 2, .int 3], [.str "good"], [.str "bad"]])]) H' (406 + 28 * (j : Nat)))
          ⟨_, _, _, _, _, _, _, rfl, fun q => absurd q (Nat.lt_irrefl _), by simpa using A18⟩ ?_ ?_
        · rintro j σ Hj hj ⟨v13, v14, v15, v16, v17, v18, v19, rfl, _, Aj⟩
          clear A18
          dsimp only [gName]
          refine ⟨_, rfl, _, rfl, _, rfl, _, rfl, p, a1, c1, ms, F11, B, far, _, rfl, Aj.P, by omega, Aj.hm, hG, Aj.hc, hf0, hf1, fun Hk t xs bk Pk ht hxl hFit => ?_⟩
          have Ak := Aj.but bk Pk
          clear Aj bk Pk
          dsimp only [gName]
          -- the five trees
          refine ⟨_, rfl, _, rfl, _, rfl, _, rfl, _, rfl, by show 5 ≤ sizeLine; decide, fun M hM => ?_⟩
          have sM : Same Hk (upd Hk M (.lst [.ref t0, .ref t1, .ref t0, .ref t2, .ref lC])) := Same.new hM
          have vM : (upd Hk M (.lst [.ref t0, .ref t1, .ref t0, .ref t2, .ref lC])) M = some (.lst [.ref t0, .ref t1, .ref t0, .ref t2, .ref lC]) := upd_same
          generalize upd Hk M (.lst [.ref t0, .ref t1, .ref t0, .ref t2, .ref lC]) = Hl at sM vM
          have Al := Ak.same sM
          have tl := Same.tup (K := K) sM ht
          clear Ak sM ht hM
          refine ⟨M, rfl, ⟨_, SqL.of vM⟩, for_it (walk_list (K := K) (a := M) (xs := [.ref t0, .ref t1, .ref t0, .ref t2, .ref lC])) (fun g σ H' => (∃ v15 v16 v17 : Option V, σ = [some (.ref a), some (.int (i : Nat)), some (.ref p), some (.ref a1), some (.int far), some (.ref n), some (.ref b1), some (.ref c1), some (.ref x), some (.ref t0), some (.ref t1), some (.ref t2), some (.ref lC), some (.int (j : Nat)), some (.ref t), v15, v16, v17, v18, v19]) ∧ Same Hl H')
            ⟨⟨_, _, _, rfl⟩, Same.refl Hl⟩ (fun g σ H' _ q => SqL.of (q.2 _ _ vM)) ?_ ?_⟩
          · rintro g v σ Ha Hb hg ⟨⟨v15, v16, v17, rfl⟩, sa⟩ ⟨rfl, hv⟩
            obtain ⟨tt, pst, rowst, rfl, hTt⟩ : ∃ tt pst rowst, v = .ref tt ∧ TreeB K Hl tt pst rowst := by
              match g, hg, hv with
              | 0, _, hv => cases hv; exact ⟨_, _, _, rfl, Al.trees (t0, ps0, rows0) (by simp)⟩
              | 1, _, hv => cases hv; exact ⟨_, _, _, rfl, Al.trees (t1, ps1, rows1) (by simp)⟩
              | 2, _, hv => cases hv; exact ⟨_, _, _, rfl, Al.trees (t0, ps0, rows0) (by simp)⟩
              | 3, _, hv => cases hv; exact ⟨_, _, _, rfl, Al.trees (t2, ps2, rows2) (by simp)⟩
              | 4, _, hv => cases hv; exact ⟨_, _, _, rfl, Al.trees (lC, _, _) (List.mem_append_right _ (List.mem_singleton.mpr rfl))⟩
            have A0 := Al.same sa
            have T0 := hTt.same sa
            have tb := Same.tup (K := K) sa tl
            dsimp only [gName]
            refine ⟨_, rfl, _, rfl, _, rfl, ?_⟩
            refine tn ?_
            dsimp only
            refine fd_all A0.hn gm.nodes (by omega) T0 tb hxl fun u H2 s2 hD => ?_
            have T2 := T0.same s2
            have t2' := Same.tup (K := K) s2 tb
            dsimp only [gName]
            refine ⟨_, rfl, tt, _, rfl, .inl (SqL.of T2.hL), fun gv hgv => ?_⟩
            have s3 : Same H2 (upd H2 gv (.lst (pst.map V.ref))) := Same.new hgv
            have v3 : (upd H2 gv (.lst (pst.map V.ref))) gv = some (.lst (pst.map V.ref)) := upd_same
            generalize upd H2 gv (.lst (pst.map V.ref)) = H3 at s3 v3
            have T3 := T2.same s3
            have G3 : TreeB K H3 gv pst rowst := ⟨v3, T3.hT, T3.hC, T3.len⟩
            have D3 := hD.same s3
            have t3 := Same.tup (K := K) s3 t2'
            have s03 := s2.trans s3
            dsimp only [gName]
            refine ⟨_, rfl, _, rfl, _, rfl, ?_⟩
            refine tn ?_
            dsimp only
            refine fh_in (A0.hI.same s03) hG G3 t3 hxl hFit fun hv' H4 s4 hW => ⟨_, rfl, hv', u, rfl, told_kt (n := 1) hW (D3.same s4) (G3.same s4), fun H5 s5 => ⟨_, rfl, iteF ?_⟩⟩
            have s35 := s4.trans s5
            have T5 := T3.same s35
            have G5 := G3.same s35
            refine ⟨_, rfl, _, rfl, rowsD rowst, rowsD rowst, G5.dp, T5.dp, G5.lv.shaped (by decide), T5.lv.shaped (by decide), _, rfl, ?_⟩
            rw [eqv_rows T5]
            exact iteF ⟨⟨_, _, _, rfl⟩, sa.trans (s03.trans s35)⟩
          · rintro σ H2 ⟨⟨v15, v16, v17, rfl⟩, s2⟩
            have A2 := Al.same s2
            have T2 := A2.trees (t0, ps0, rows0) (by simp)
            have tt2 := Same.tup (K := K) s2 tl
            dsimp only [gName]
            refine ⟨_, rfl, _, rfl, _, rfl, rfl, ?_⟩
            have hGml := hG.ml
            have hTl := T2.len
            refine ⟨x, t0, t, a1, b1, c1, pp, ms, _, F11, B, ps0, rows0, xs, rfl, A2.hI, hG, T2.hL, T2.hT, by show rows0.length ≤ 900; omega, tt2, by omega, fun q => absurd ⟨hxl, hFit⟩ q, fun _ _ k0 H' d e _ _ _ => ?_, fun _ _ e0 jq H3 q s3 hq hgo => ?_⟩
            · rw [hg0] at e; cases e
            · dsimp only [gName]
              have A3 := A2.same s3
              have T3 := T2.same s3
              have tt3 := Same.tup (K := K) s3 tt2
              have hW : Told (nodes ms) ps0 rows0 (fun z => (0 :: xs).getD (ix ms z) 0) (.ref q) H3 := ⟨(fun k1 e1 => by rw [e0] at e1; cases e1), fun _ => ⟨jq, q, hq, hgo, rfl⟩⟩
              refine ⟨_, rfl, _, rfl, _, rfl, _, rfl, ?_⟩
              refine tn ?_
              dsimp only
              refine fd_all A3.hn gm.nodes (by omega) T3 tt3 hxl fun u H4 s4 hD => ⟨.ref q, u, rfl, told_kt (n := 1) (hW.same s4) hD (T3.same s4), fun H5 s5 => ⟨_, rfl, iteF ?_⟩⟩
              have s35 := s4.trans s5
              refine ⟨_, _, _, _, _, _, _, rfl, fun _ => ⟨t, xs, rfl, Same.tup s35 tt3, hxl, hFit⟩, ?_⟩
              have A5 := A3.same s35
              exact ⟨A5.P.mono (by push_cast; omega), A5.S, A5.hm, A5.hn, A5.hc, A5.hI, A5.trees⟩
        · rintro σ Hj ⟨v13, v14, v15, v16, v17, v18, v19, rfl, hpl, Aj⟩
          clear A18
          obtain ⟨t, xs, rfl, ht, hxl, hFit⟩ := hpl (by decide)
          dsimp only [gName]
          -- numbers that are no recording
          have T2 := Aj.trees (t2, ps2, rows2) (by simp)
          have T0 := Aj.trees (t0, ps0, rows0) (by simp)
          have hI := Aj.hI
          have hSc := Aj.S
          clear Aj
          obtain ⟨lx, hlx⟩ : ∃ lx, xs[ms.length - 1]? = some lx := ⟨_, List.getElem?_eq_getElem (by omega)⟩
          have hlx' : (xs.map V.int)[(xs.map V.int).length - 1]? = some (.int lx) := by rw [List.length_map, List.getElem?_map, hxl, hlx]; rfl
          have hxne := map_ne (xs := xs) (by omega)
          refine ⟨_, rfl, _, rfl, _, rfl, slA_it ht fun u1 K1 k1 hu1 => ?_⟩
          have hu1 : SqT K K1 u1 ((xs.take (ms.length - 1)).map V.int) := by
            rw [cut_neg1, List.length_map, hxl, ← List.map_take] at hu1; exact hu1
          refine ⟨_, rfl, _, rfl, _, rfl, t, _, _, _, rfl, rfl, Same.tup (K := K) k1 ht, at_last hxne hlx', _, _, rfl, rfl, by show 1 ≤ sizeLine; decide, fun q2 hq2 => ?_⟩
          have k2 : Same K1 (upd K1 q2 (.tup [.int (-1 - lx)])) := Same.new hq2
          have v2 : SqT K (upd K1 q2 (.tup [.int (-1 - lx)])) q2 [.int (-1 - lx)] := tup_at
          show rCatA K _ _ (upd K1 q2 (.tup [.int (-1 - lx)])) _
          generalize upd K1 q2 (.tup [.int (-1 - lx)]) = K2 at k2 v2
          refine catA_it (Same.tup (K := K) k2 hu1) v2 (by rw [List.length_map, List.length_take]; exact le1000 (show min (ms.length - 1) xs.length + 1 ≤ 1000 by omega)) fun q3 K3 k3 hq3 => ?_
          have hoff : SqT K K3 q3 ((xs.take (ms.length - 1) ++ [-1 - lx]).map V.int) := by rw [List.map_append]; exact hq3
          obtain ⟨hol, hoy⟩ := take_off hxl hm1 (y := -1 - lx)
          generalize hys : xs.take (ms.length - 1) ++ [-1 - lx] = ys at hoff hol hoy
          have hno : ¬(ys.length = ms.length ∧ Fits (ms.length + 1) B (0 :: ys)) := fun q => off_not (eg_row0 hG.nd hG.good (by omega)) hm1 hxl hFit hlx hoy q.2
          have k13 := (k1.trans k2).trans k3
          have ht3 := Same.tup (K := K) k13 ht
          have T23 := T2.same k13
          have T03 := T0.same k13
          have hI3 := hI.same k13
          have S3 := hSc.but (Same.but k13)
          clear hq3 hu1 v2 k1 k2 k3 k13 T2 T0 hI hSc hq2 ht
          dsimp only [gName]
          refine ⟨_, rfl, _, rfl, _, rfl, ?_⟩
          refine tn ?_
          dsimp only
          refine fh_out hI3 hG T23 hoff (by omega) hno fun l1 K4 k4 v4 => ?_
          refine ⟨_, rfl, _, rfl, _, rfl, ?_⟩
          refine tn ?_
          dsimp only
          refine fh_out (hI3.same k4) hG (T03.same k4) (Same.tup (K := K) k4 hoff) (by omega) hno fun l2 K5 k5 v5 => ?_
          refine ⟨by show 2 ≤ sizeLine; decide, fun L hL => ?_⟩
          have k6 : Same K5 (upd K5 L (.lst [.ref l1, .ref l2])) := Same.new hL
          have v6 : (upd K5 L (.lst [.ref l1, .ref l2])) L = some (.lst [.ref l1, .ref l2]) := upd_same
          generalize upd K5 L (.lst [.ref l1, .ref l2]) = K6 at k6 v6
          have v46 := (k5.trans k6) _ _ v4
          have v56 := k6 _ _ v5
          have k36 := (k4.trans k5).trans k6
          have T06 := T03.same k36
          have hI6 := hI3.same k36
          have S6 := S3.but (Same.but k36)
          have ht6 := Same.tup (K := K) k36 ht3
          dsimp only [gName]
          refine ⟨_, rfl, .inl ⟨rfl, _, SqL.of v6⟩, _, rfl, _, rfl, _, rfl, by show 1 ≤ sizeLine; decide, fun q7 hq7 => ?_⟩
          have k7 : Same K6 (upd K6 q7 (.tup [.int 0])) := Same.new hq7
          have v7 : SqT K (upd K6 q7 (.tup [.int 0])) q7 [.int 0] := tup_at
          generalize upd K6 q7 (.tup [.int 0]) = K7 at k7 v7
          refine catA_it (Same.tup (K := K) k7 ht6) v7 (by rw [List.length_map]; exact le1000 (show xs.length + 1 ≤ 1000 by omega)) fun q8 K8 k8 hq8 => ?_
          have hlong : SqT K K8 q8 ((xs ++ [0]).map V.int) := by rw [List.map_append]; exact hq8
          have k78 := k7.trans k8
          refine tn ?_
          dsimp only
          refine fh_out (hI6.same k78) hG (T06.same k78) hlong (by rw [List.length_append, List.length_singleton]; omega) (fun q => by have := q.1; rw [List.length_append, List.length_singleton] at this; omega) fun l3 K9 k9 v9 => ?_
          have k69 := k78.trans k9
          have v49 := k69 _ _ v46
          have v59 := k69 _ _ v56
          have v69 := k69 _ _ v6
          have nL : ∀ {y : Addr}, K9 y = some (.lst [.str "numbers"]) → y ≠ L := fun {y} hy e => by rw [e, v69] at hy; cases hy
          refine ⟨L, _, .ref l3, rfl, rfl, v69, by show 2 < sizeLine; decide, ?_⟩
          have w4 : (upd K9 L (.lst ([.ref l1, .ref l2] ++ [.ref l3]))) l1 = some (.lst [.str "numbers"]) := (upd_ne (nL v49)).trans v49
          have w5 : (upd K9 L (.lst ([.ref l1, .ref l2] ++ [.ref l3]))) l2 = some (.lst [.str "numbers"]) := (upd_ne (nL v59)).trans v59
          have w9 : (upd K9 L (.lst ([.ref l1, .ref l2] ++ [.ref l3]))) l3 = some (.lst [.str "numbers"]) := (upd_ne (nL v9)).trans v9
          have wL : (upd K9 L (.lst ([.ref l1, .ref l2] ++ [.ref l3]))) L = some (.lst [.ref l1, .ref l2, .ref l3]) := upd_same
          have SL : SqL K (upd K9 L (.lst ([.ref l1, .ref l2] ++ [.ref l3]))) a (ns.map V.int) := by
            by_cases e : a = L
            · exact sql_free (S3.but (Same.but (k4.trans k5))).1 (by rw [e]; exact hL) _
            · exact sql_at (S6.but (Same.but k69)).1 fun o ho => (upd_ne e).trans ho
          generalize upd K9 L (.lst ([.ref l1, .ref l2] ++ [.ref l3])) = Ka at w4 w5 w9 wL SL
          refine ⟨_, rfl, by show 1 ≤ sizeLine; decide, fun m1 hm1' => ?_⟩
          have k10 : Same Ka (upd Ka m1 (.lst [.str "numbers"])) := Same.new hm1'
          have x1 : (upd Ka m1 (.lst [.str "numbers"])) m1 = some (.lst [.str "numbers"]) := upd_same
          generalize upd Ka m1 (.lst [.str "numbers"]) = Kb at k10 x1
          refine ⟨by show 1 ≤ sizeLine; decide, fun m2 hm2' => ?_⟩
          have k11 : Same Kb (upd Kb m2 (.lst [.ref m1])) := Same.new hm2'
          have x2 : (upd Kb m2 (.lst [.ref m1])) m2 = some (.lst [.ref m1]) := upd_same
          generalize upd Kb m2 (.lst [.ref m1]) = Kc at k11 x2
          refine ⟨m2, 3, _, rfl, rfl, x2, by decide, by decide, by show 3 ≤ sizeLine; decide, fun m3 hm3' => ?_⟩
          have k12 : Same Kc (upd Kc m3 (.lst (List.replicate (3 : Int).toNat [.ref m1]).flatten)) := Same.new hm3'
          have x3 : (upd Kc m3 (.lst (List.replicate (3 : Int).toNat [.ref m1]).flatten)) m3 = some (.lst [.ref m1, .ref m1, .ref m1]) := upd_same
          generalize upd Kc m3 (.lst (List.replicate (3 : Int).toNat [.ref m1]).flatten) = Kd at k12 x3
          have kad := (k10.trans k11).trans k12
          have one : ∀ {y : Addr}, Kd y = some (.lst [.str "numbers"]) → Dp K Kd (.ref y) (.list [.str "numbers"]) := fun {y} hy => .lst (SqL.of hy) (.cons (.str _) .nil)
          have lv2 : Lv 2 (.list [.list [.str "numbers"], .list [.str "numbers"], .list [.str "numbers"]]) := Lv.list (n := 1) fun d hd => by
            have hd : d = .list [.str "numbers"] := by simpa using hd
            rw [hd]
            exact Lv.list (n := 0) fun e he => by
              rw [List.mem_singleton] at he
              rw [he]; exact Lv.str asc_numbers
          refine ⟨.list [.list [.str "numbers"], .list [.str "numbers"], .list [.str "numbers"]], .list [.list [.str "numbers"], .list [.str "numbers"], .list [.str "numbers"]], .lst (SqL.of (kad _ _ wL)) (.cons (one (kad _ _ w4)) (.cons (one (kad _ _ w5)) (.cons (one (kad _ _ w9)) .nil))),
            .lst (SqL.of x3) (.cons (one ((k11.trans k12) _ _ x1)) (.cons (one ((k11.trans k12) _ _ x1)) (.cons (one ((k11.trans k12) _ _ x1)) .nil))), lv2.shaped (by decide), lv2.shaped (by decide), _, rfl, ?_⟩
          rw [PySem.SeqAt.eqv_refl _ lv2.1]
          refine iteF ⟨⟨_, _, _, _, _, _, _, _, _, _, _, _, _, _, _, _, _, _, _, rfl⟩, sql_at SL fun o ho => kad _ _ ho⟩
    · rintro σ H1 _
      exact kQ H1
end
end K1
end
section
set_option maxRecDepth 100000
set_option maxHeartbeats 4000000
namespace K1
open PySem PyProof.Rows L2 K01
/-- a def of the top -/
structure DefAt (K : PySem.W.Frag) (x : Str) (st : Stmt) (ps : List Str) : Prop where
  ex : ∃ (f : Addr) (fd : FuncData), PySem.W.nsIn K mainGlobals x = some (some (.ref f)) ∧ Fun K x x st f fd ∧ Binds K fd ps []
theorem defAt {K : PySem.W.Frag} {x : Str} {st : Stmt} {ps : List Str} {f : Addr} {oc : Value} {od an : Option Addr} {osl : Array (Option Value)} {kV doc pm cdv ct : Value} (a : PySem.W.nsIn K mainGlobals x = some (some (.ref f)))
    (l : K.lookup f = some ⟨oc, od, .func (PySem.W.fnOf x x (defArgs st) (defBody st) (defScope st) .none kV doc pm an cdv ct), osl⟩) (c : PySem.W.codeIn K cdv x = true) (k : PySem.W.keepIn K (.ref f) = true)
    (b : ∀ (kV doc pm : Value) (an : Option Addr) (cdv ct : Value) (us : List Value), us.length = ps.length → bindArgs (PySem.W.fnOf x x (defArgs st) (defBody st) (defScope st) .none kV doc pm an cdv ct) ⟨us, []⟩ = pure (ps.zip us)) : DefAt K x st ps :=
  ⟨f, _, a, fun_mk l c k, (fun_mk l c k).binds b⟩
/-- the class Sheet -/
structure ShAt (K : PySem.W.Frag) (C iS D0 : Addr) : Prop where
  a : PySem.W.nsIn K mainGlobals "Sheet" = some (some (.ref C))
  makes : PySem.W.makesIn K C = true
  init : PySem.W.findIn K (.ref C) "__init__" = some (some (.ref iS))
  fn : PySem.W.isFn K (.ref iS) = true
  kp : PySem.W.keepIn K (.ref C) = true
  pg : PySem.W.plainGet K C Str.empty = true
  hd : PySem.W.hasDictIn K C = true
  po : PySem.W.plainOver K C = true
  sa : PySem.W.findIn K (.ref C) "__setattr__" = some (some (.builtin "object.__setattr__"))
  nm : PySem.W.findIn K (.ref C) "marks" = some none
  nt : PySem.W.findIn K (.ref C) "takes" = some none
  nf : PySem.W.findIn K (.ref C) "facts" = some none
  nl : PySem.W.findIn K (.ref C) "_limits" = some none
  nb : PySem.W.findIn K (.ref C) "bounds" = some none
  ex : ∃ (oc kV doc pm : Value) (od an : Option Addr) (cdv ct : Value) (osl : Array (Option Value)) (T : Addr) (oT : Obj) (n : Nat) (o0 : Obj) (n0 : Nat),
    K.lookup iS = some ⟨oc, od, .func (PySem.W.fnOf "__init__" "Sheet.__init__" (defArgs sSheet) (defBody sSheet) (defScope sSheet) (.ref T) kV doc pm an cdv ct), osl⟩ ∧ PySem.W.codeIn K cdv "Sheet.__init__" = true ∧ PySem.W.keepIn K (.ref iS) = true ∧
      K.lookup T = some oT ∧ oT.data = .seq #[.ref D0] n ∧ K.lookup D0 = some o0 ∧ o0.cls = .type "tuple" ∧ o0.data = .seq #[] n0
theorem ShAt.dflt {K : PySem.W.Frag} {C iS D0 : Addr} (S : ShAt K C iS D0) : ∀ H, SqT K H D0 [] := fun H => by
  obtain ⟨oc, kV, doc, pm, od, an, cdv, ct, osl, T, oT, n, o0, n0, h1, h2, h3, h4, h5, h6, h7, h8⟩ := S.ex
  exact .inr ⟨o0, #[], n0, h6, h7, h8, Nat.zero_le _, .nil⟩
theorem ShAt.fund {K : PySem.W.Frag} {C iS D0 : Addr} (S : ShAt K C iS D0) : ∃ fd, FunD K "__init__" "Sheet.__init__" (defArgs sSheet) (defBody sSheet) (defScope sSheet) [.ref D0] [] iS fd := by
  obtain ⟨oc, kV, doc, pm, od, an, cdv, ct, osl, T, oT, n, o0, n0, h1, h2, h3, h4, h5, h6, h7, h8⟩ := S.ex
  exact ⟨_, ⟨oc, od, .ref T, kV, doc, pm, an, cdv, ct, osl, rfl, h1, h2, .inr ⟨by simp, T, oT, [.ref D0], n, rfl, h4, h5, .cons rfl .nil⟩, .inl rfl⟩, h3⟩
theorem ShAt.sh {K : PySem.W.Frag} {C iS D0 : Addr} (S : ShAt K C iS D0) : ShT K C := ⟨⟨S.pg, S.hd, S.po, S.sa⟩, S.nm, S.nt, S.nf, S.nl, S.nb⟩
theorem ShAt.maker {K : PySem.W.Frag} {C iS D0 : Addr} (S : ShAt K C iS D0) : Mk K C iS := ⟨S.makes, S.init, S.fn, S.kp⟩
/-- a method of the class at C -/
structure MetAt (K : PySem.W.Frag) (C : Addr) (m qual : Str) (st : Stmt) (ps : List Str) : Prop where
  ex : ∃ (f : Addr) (fd : FuncData), Meth K C m f ∧ PySem.W.fnIn K f = true ∧ Fun K m qual st f fd ∧ Binds K fd ps []
theorem metAt {K : PySem.W.Frag} {C : Addr} {m qual : Str} {st : Stmt} {ps : List Str} {f : Addr} {oc : Value} {od an : Option Addr} {osl : Array (Option Value)} {kV doc pm cdv ct : Value} (a : PySem.W.findIn K (.ref C) m = some (some (.ref f))) (fn : PySem.W.isFn K (.ref f) = true) (fn2 : PySem.W.fnIn K f = true)
    (l : K.lookup f = some ⟨oc, od, .func (PySem.W.fnOf m qual (defArgs st) (defBody st) (defScope st) .none kV doc pm an cdv ct), osl⟩) (c : PySem.W.codeIn K cdv qual = true) (k : PySem.W.keepIn K (.ref f) = true)
    (b : ∀ (kV doc pm : Value) (an : Option Addr) (cdv ct : Value) (us : List Value), us.length = ps.length → bindArgs (PySem.W.fnOf m qual (defArgs st) (defBody st) (defScope st) .none kV doc pm an cdv ct) ⟨us, []⟩ = pure (ps.zip us)) : MetAt K C m qual st ps :=
  ⟨f, _, ⟨a, fn, k⟩, fn2, fun_mk l c k, (fun_mk l c k).binds b⟩
/-- the two errors of follow, and the one above them -/
structure EfAt (K : PySem.W.Frag) (CB CN TE : Addr) : Prop where
  nb : PySem.W.subIn K (.ref CN) (.ref CB) = some false
  be : PySem.W.subIn K (.ref CB) (.ref TE) = some true
  ne : PySem.W.subIn K (.ref CN) (.ref TE) = some true
  eg : PySem.W.nsIn K mainGlobals "TakesError" = some (some (.ref TE))
  ex : PySem.W.subIn K (.ref TE) (.type "BaseException") = some true
  ed : PySem.W.hasDictIn K TE = true
  et : PySem.W.typeIn K (.ref TE) = some (.type "type")
  hn : PySem.W.specialIn K (.builtin "object.__class__") "__get__" = some (some (.builtin "getset_descriptor.__get__"))
  ht : PySem.W.takesIn K (.builtin "object.__class__") = some true
  ba : PySem.W.findIn K (.ref CB) "__class__" = some (some (.builtin "object.__class__"))
  na : PySem.W.findIn K (.ref CN) "__class__" = some (some (.builtin "object.__class__"))
  bo : PySem.W.mroIn K CB (.type "object") = some true
  no_ : PySem.W.mroIn K CN (.type "object") = some true
theorem kit_ref {K : PySem.W.Frag} {D C : Addr} {b : Bool} (h1 : PySem.W.subIn K (.ref C) (.type "BaseException") = some true) (hd : PySem.W.hasDictIn K C = true) (ht : PySem.W.typeIn K (.ref C) = some (.type "type")) (h4 : PySem.W.subIn K (.ref D) (.ref C) = some b)
    (hs : PySem.W.subIn K (.ref D) (.ref D) = some true) : PySem.W.kitOne K (.ref D) (.ref C) = some b := by
  have e := PySem.W.exm_ref h1 hd ht h4
  unfold PySem.W.exmOne at e
  rw [if_pos (by rw [h1]; rfl)] at e
  unfold PySem.W.kitOne
  by_cases q : D = C
  · subst q
    rw [hs] at h4
    cases h4
    rw [if_pos (by simp)]
  · rw [if_neg (by simpa using q)]
    exact e
theorem errF_of {K : PySem.W.Frag} {CB CN TE iB iN : Addr} {h : Heap} {mg : Str → Option Value} (E : EfAt K CB CN TE) (XB : XAt K (sXI 22) "BadTree" "index" "BadTree.__init__" CB iB) (XN : XAt K (sXI 21) "NotRecording" "index" "NotRecording.__init__" CN iN) (X : K.In h) (G : h.Ns mainGlobals mg) : ErF K mg CB CN TE where
  mB := PySem.W.mg_of X G XB.g
  mN := PySem.W.mg_of X G XN.g
  mE := PySem.W.mg_of X G E.eg
  xB := ⟨XB.ga, XB.gg, XB.exC, XB.hdC, E.ba, E.hn, E.ht, E.bo⟩
  xN := ⟨XN.ga, XN.gg, XN.exC, XN.hdC, E.na, E.hn, E.ht, E.no_⟩
  eB := PySem.W.exm_ref E.ex E.ed E.et E.be
  eN := PySem.W.exm_ref E.ex E.ed E.et E.ne
  bb := kit_ref XB.exC XB.hdC XB.tyC XB.se XB.se
  nb := kit_ref XB.exC XB.hdC XB.tyC E.nb XN.se
  nn := kit_ref XN.exC XN.hdC XN.tyC XN.se XN.se
theorem xc_tree {K : PySem.W.Frag} {mg : Str → Option Value} {C fI : Addr} (T : XAt K (sXI 22) "BadTree" "index" "BadTree.__init__" C fI) {h0 : Heap} (X0 : K.In h0) (G0 : h0.Ns mainGlobals mg) : PySem.K1X.XC prg K mg "BadTree" "index" C fI OkInt := by
  obtain ⟨nm, q, N, bs, sn, sub, ab, col, dd, k0, k1, k2, k3, k5, TE, hC⟩ := T.cls
  obtain ⟨oc, doc, pm, ct, ccl, cl, od, an, cdd, cld, osl, ccs, csl, cda, cc, vs, file, tf, ho, hcd, hcode, hvs, hfile, hcell⟩ := T.fn
  refine { gC := PySem.W.mg_of X0 G0 T.g, cls := ⟨nm, q, N, bs, _, sn, sub, ab, col, dd, k0, k1, k2, k3, k5, hC, refsVE_T TE⟩, ga := T.ga, gg := T.gg, noN := T.noN, iC := T.iC, tC := T.tC, kC := T.kC, exC := T.exC, tyC := T.tyC, hdC := T.hdC, te := PySem.W.exm_ref T.exC T.hdC T.tyC T.se, mono := fun u h h' _ z => z, run := ?_ }
  intro w A s R e t0 v X hlim G Bt hx hnx hr hu hok hq
  obtain ⟨i, t, rfl, hi⟩ := hok
  refine PySem.K1X.init_super X hlim G Bt (PySem.W.mg_none_of X0 G0 T.sp) hC (refsVE_T TE) T.sa T.noN T.vE T.su T.mr T.sc ho hcd hcode hvs hfile hcell rfl rfl (by decide +kernel) (by decide +kernel) (fun s' => .of_eq rfl) rfl rfl rfl rfl rfl (by decide +kernel) rfl rfl (by decide +kernel) (fun env => rfl) (fun L => rfl) (fun f L => rfl) (fun L => rfl) ?_ hx hnx hr hq
  intro L B EE s' Q hn hk hb h
  exact PySem.K1X.js_int hn rfl rfl (by decide +kernel) hi (by decide +kernel) (by decide +kernel) h
theorem xc_none {K : PySem.W.Frag} {mg : Str → Option Value} {C fI : Addr} (T : XAt K (sXI 21) "NotRecording" "index" "NotRecording.__init__" C fI) {h0 : Heap} (X0 : K.In h0) (G0 : h0.Ns mainGlobals mg) : PySem.K1X.XC0 prg K mg "NotRecording" C fI := by
  obtain ⟨nm, q, N, bs, sn, sub, ab, col, dd, k0, k1, k2, k3, k5, TE, hC⟩ := T.cls
  obtain ⟨oc, doc, pm, ct, ccl, cl, od, an, cdd, cld, osl, ccs, csl, cda, cc, vs, file, tf, ho, hcd, hcode, hvs, hfile, hcell⟩ := T.fn
  refine { gC := PySem.W.mg_of X0 G0 T.g, cls := ⟨nm, q, N, bs, _, sn, sub, ab, col, dd, k0, k1, k2, k3, k5, hC, refsVE_T TE⟩, iC := T.iC, tC := T.tC, kC := T.kC, exC := T.exC, tyC := T.tyC, run := ?_ }
  intro w A s R e t0 X hlim G Bt hx hnx hr hu hq
  refine PySem.K1X.init_super0 X hlim G Bt (PySem.W.mg_none_of X0 G0 T.sp) hC (refsVE_T TE) T.vE T.su T.mr T.sc ho hcd hcode hvs hfile hcell rfl rfl (fun s' => .of_eq rfl) rfl rfl rfl rfl (by decide +kernel) rfl rfl (by decide +kernel) (fun env => rfl) (fun L => rfl) (fun f L => rfl) (fun L => rfl) ?_ hx hnx hr hq
  intro L B EE s' Q hk hb h
  exact wpAny_Constant_str (h _ _ _)
end K1
end
section
set_option maxRecDepth 100000
set_option maxHeartbeats 4000000
namespace K1
open PySem PyProof.Rows L2 K01
/-- built-in names that the head leaves -/
structure BiAt (K : PySem.W.Frag) : Prop where
  isinstance_ : PySem.W.nsIn K mainGlobals "isinstance" = some none
  len_ : PySem.W.nsIn K mainGlobals "len" = some none
  range_ : PySem.W.nsIn K mainGlobals "range" = some none
  enumerate_ : PySem.W.nsIn K mainGlobals "enumerate" = some none
  zip_ : PySem.W.nsIn K mainGlobals "zip" = some none
  tuple_ : PySem.W.nsIn K mainGlobals "tuple" = some none
  list_ : PySem.W.nsIn K mainGlobals "list" = some none
  int_ : PySem.W.nsIn K mainGlobals "int" = some none
  str_ : PySem.W.nsIn K mainGlobals "str" = some none
  bool_ : PySem.W.nsIn K mainGlobals "bool" = some none
  abs_ : PySem.W.nsIn K mainGlobals "abs" = some none
  max_ : PySem.W.nsIn K mainGlobals "max" = some none
  min_ : PySem.W.nsIn K mainGlobals "min" = some none
  sum_ : PySem.W.nsIn K mainGlobals "sum" = some none
  super_ : PySem.W.nsIn K mainGlobals "super" = some none
  all_ : PySem.W.nsIn K mainGlobals "all" = some none
theorem BiAt.bi {K : PySem.W.Frag} {h : Heap} {mg : Str → Option Value} (B : BiAt K) (X : K.In h) (G : h.Ns mainGlobals mg) : Bi mg :=
  ⟨PySem.W.mg_none_of X G B.isinstance_, PySem.W.mg_none_of X G B.len_, PySem.W.mg_none_of X G B.range_, PySem.W.mg_none_of X G B.enumerate_, PySem.W.mg_none_of X G B.zip_, PySem.W.mg_none_of X G B.tuple_, PySem.W.mg_none_of X G B.list_, PySem.W.mg_none_of X G B.int_, PySem.W.mg_none_of X G B.str_, PySem.W.mg_none_of X G B.bool_, PySem.W.mg_none_of X G B.abs_, PySem.W.mg_none_of X G B.max_, PySem.W.mg_none_of X G B.min_, PySem.W.mg_none_of X G B.sum_, PySem.W.mg_none_of X G B.super_⟩
/-- all defs -/
structure DfAt (K : PySem.W.Frag) : Prop where
  dsFree : DefAt K "free_bounds" sFree ["many"]
  dsBarred : DefAt K "is_barred" sBarred ["bounds", "x", "y", "number"]
  dsKept : DefAt K "is_kept" sKept ["bounds", "x", "y", "number"]
  dsLesser : DefAt K "lesser_row" sLesser ["row", "step", "onward"]
  dsTight : DefAt K "tightened" sTight ["bounds", "x", "y", "number"]
  dsFits : DefAt K "fits" sFits ["bounds", "numbers"]
  dsWhole : DefAt K "is_whole" sWhole ["x"]
  dsName : DefAt K "is_name" sName ["x"]
  dsAre : DefAt K "are_numbers" sAre ["x", "many"]
  dsNames : DefAt K "names_of" sNames ["marks"]
  dsSpots : DefAt K "spots_of" sSpots ["marks"]
  dsBadMark : DefAt K "first_bad_mark" sBadMark ["marks"]
  dsBadTake : DefAt K "first_bad_take" sBadTake ["marks", "takes"]
  dsFact : DefAt K "is_fact" sFact ["fact", "names"]
  dsBadFact : DefAt K "first_bad_fact" sBadFact ["marks", "facts"]
  dsCheck : DefAt K "check_parts" sCheck ["marks", "takes", "facts"]
  dsAll : DefAt K "all_facts" sAll ["marks", "facts"]
  dsStraight : DefAt K "is_straight" sStraight ["fact", "ahead"]
  dsChain : DefAt K "chain_of" sChain ["marks", "facts", "bounds", "x", "y"]
  dsBounds : DefAt K "bounds_with" sBounds ["marks", "facts", "bounds", "more"]
  dsAsk : DefAt K "is_ask_row" sAsk ["row"]
  dsGA : DefAt K "is_good_ask" sGA ["row", "names", "at", "named"]
  dsCT : DefAt K "check_tree" sCT ["sheet", "tree"]
  dsFo : DefAt K "follow" sFo ["sheet", "tree", "numbers"]
  dsPit : DefAt K "_law_pit" sPit ["script", "at"]
  dsHoist : DefAt K "_law_hoist" sHoist ["pit", "below"]
  dsKin : DefAt K "_law_kin" sKin ["found", "due"]
  dsCN : DefAt K "_law_call_names" sCN ["pit", "many"]
  dsClosed : DefAt K "_law_closed" sClosed ["many", "facts_here"]
  dsNum : DefAt K "_law_numbered" sNum ["marks_here", "facts_here"]
  dsDF : DefAt K "_law_drawn_fact" sDF ["pit", "marks_here", "far"]
  dsDR : DefAt K "_law_drawn_recording" sDR ["pit", "marks_here", "facts_here", "far"]
  dsSoF : DefAt K "_law_some_facts" sSoF ["pit", "ms", "fs", "most", "far"]
  dsTFa : DefAt K "_law_tree_fault" sTFa ["nodes", "tr"]
  dsLA : DefAt K "_law_leaf_at" sLA ["tr", "spots"]
  dsDT : DefAt K "_law_drawn_tree" sDT ["pit", "nodes", "many", "far"]
  dsSpO : DefAt K "_law_spots_of" sSpO ["ms", "places"]
  dsST : DefAt K "_law_spoilt_tree" sST ["pit", "tr"]
  dsFH : DefAt K "_law_follow_heard" sFH ["paper", "tr", "places"]
  dsFD : DefAt K "_law_follow_due" sFD ["nodes", "tr", "places"]
/-- all methods -/
structure MtAt (K : PySem.W.Frag) (C : Addr) : Prop where
  dsIn : MetAt K C "__contains__" "Sheet.__contains__" sIn ["self", "numbers"]
theorem law_all {K : PySem.W.Frag} {h : Heap} {mg : Str → Option Value} {w : World} {fa C iS D0 CM CT CF CC CB CN TE iM iT iF iC iB iN : Addr} {fd : FuncData} (X : K.In h) (G : h.Ns mainGlobals mg) (B : BiAt K) (D : DfAt K) (S : ShAt K C iS D0) (M : MtAt K C)
    (XM : XAt K (sXI 14) "BadMarks" "index" "BadMarks.__init__" CM iM) (XT : XAt K (sXI 15) "BadTakes" "index" "BadTakes.__init__" CT iT) (XF : XAt K (sXI 16) "BadFact" "index" "BadFact.__init__" CF iF) (XC : XAt K (sXI 17) "Contradiction" "ring" "Contradiction.__init__" CC iC)
    (XB : XAt K (sXI 22) "BadTree" "index" "BadTree.__init__" CB iB) (XN : XAt K (sXI 21) "NotRecording" "index" "NotRecording.__init__" CN iN) (E : EfAt K CB CN TE)
    (F : Fun K "law" "law" sLaw fa fd) :
    (∀ (s : Shared) (u : Value), BindsTo s fd ⟨[u], []⟩ [("script", u)]) ∧ ∀ base : Heap, K.In base → base.Ns mainGlobals mg → FnOk prg w K mg base CX0 7 fa fd ["script"] (spLaw K) := by
  refine ⟨fun s u => ?_, fun base _ _ => ?_⟩
  · obtain ⟨oc, od, kV, doc, pm, an, cdv, ct, osl, rfl, lk, hcd⟩ := F.ex
    exact .of_eq rfl
  have T := B.bi X G
  have hall : mg "all" = none := PySem.W.mg_none_of X G B.all_
  obtain ⟨fsFree, fdsFree, nsFree, FsFree, bsFree⟩ := D.dsFree.ex
  have msFree := PySem.W.mg_of X G nsFree
  obtain ⟨fsBarred, fdsBarred, nsBarred, FsBarred, bsBarred⟩ := D.dsBarred.ex
  have msBarred := PySem.W.mg_of X G nsBarred
  obtain ⟨fsKept, fdsKept, nsKept, FsKept, bsKept⟩ := D.dsKept.ex
  have msKept := PySem.W.mg_of X G nsKept
  obtain ⟨fsLesser, fdsLesser, nsLesser, FsLesser, bsLesser⟩ := D.dsLesser.ex
  have msLesser := PySem.W.mg_of X G nsLesser
  obtain ⟨fsTight, fdsTight, nsTight, FsTight, bsTight⟩ := D.dsTight.ex
  have msTight := PySem.W.mg_of X G nsTight
  obtain ⟨fsFits, fdsFits, nsFits, FsFits, bsFits⟩ := D.dsFits.ex
  have msFits := PySem.W.mg_of X G nsFits
  obtain ⟨fsWhole, fdsWhole, nsWhole, FsWhole, bsWhole⟩ := D.dsWhole.ex
  have msWhole := PySem.W.mg_of X G nsWhole
  obtain ⟨fsName, fdsName, nsName, FsName, bsName⟩ := D.dsName.ex
  have msName := PySem.W.mg_of X G nsName
  obtain ⟨fsAre, fdsAre, nsAre, FsAre, bsAre⟩ := D.dsAre.ex
  have msAre := PySem.W.mg_of X G nsAre
  obtain ⟨fsNames, fdsNames, nsNames, FsNames, bsNames⟩ := D.dsNames.ex
  have msNames := PySem.W.mg_of X G nsNames
  obtain ⟨fsSpots, fdsSpots, nsSpots, FsSpots, bsSpots⟩ := D.dsSpots.ex
  have msSpots := PySem.W.mg_of X G nsSpots
  obtain ⟨fsBadMark, fdsBadMark, nsBadMark, FsBadMark, bsBadMark⟩ := D.dsBadMark.ex
  have msBadMark := PySem.W.mg_of X G nsBadMark
  obtain ⟨fsBadTake, fdsBadTake, nsBadTake, FsBadTake, bsBadTake⟩ := D.dsBadTake.ex
  have msBadTake := PySem.W.mg_of X G nsBadTake
  obtain ⟨fsFact, fdsFact, nsFact, FsFact, bsFact⟩ := D.dsFact.ex
  have msFact := PySem.W.mg_of X G nsFact
  obtain ⟨fsBadFact, fdsBadFact, nsBadFact, FsBadFact, bsBadFact⟩ := D.dsBadFact.ex
  have msBadFact := PySem.W.mg_of X G nsBadFact
  obtain ⟨fsCheck, fdsCheck, nsCheck, FsCheck, bsCheck⟩ := D.dsCheck.ex
  have msCheck := PySem.W.mg_of X G nsCheck
  obtain ⟨fsAll, fdsAll, nsAll, FsAll, bsAll⟩ := D.dsAll.ex
  have msAll := PySem.W.mg_of X G nsAll
  obtain ⟨fsStraight, fdsStraight, nsStraight, FsStraight, bsStraight⟩ := D.dsStraight.ex
  have msStraight := PySem.W.mg_of X G nsStraight
  obtain ⟨fsChain, fdsChain, nsChain, FsChain, bsChain⟩ := D.dsChain.ex
  have msChain := PySem.W.mg_of X G nsChain
  obtain ⟨fsBounds, fdsBounds, nsBounds, FsBounds, bsBounds⟩ := D.dsBounds.ex
  have msBounds := PySem.W.mg_of X G nsBounds
  obtain ⟨fsAsk, fdsAsk, nsAsk, FsAsk, bsAsk⟩ := D.dsAsk.ex
  have msAsk := PySem.W.mg_of X G nsAsk
  obtain ⟨fsGA, fdsGA, nsGA, FsGA, bsGA⟩ := D.dsGA.ex
  have msGA := PySem.W.mg_of X G nsGA
  obtain ⟨fsCT, fdsCT, nsCT, FsCT, bsCT⟩ := D.dsCT.ex
  have msCT := PySem.W.mg_of X G nsCT
  obtain ⟨fsFo, fdsFo, nsFo, FsFo, bsFo⟩ := D.dsFo.ex
  have msFo := PySem.W.mg_of X G nsFo
  obtain ⟨fsPit, fdsPit, nsPit, FsPit, bsPit⟩ := D.dsPit.ex
  have msPit := PySem.W.mg_of X G nsPit
  obtain ⟨fsHoist, fdsHoist, nsHoist, FsHoist, bsHoist⟩ := D.dsHoist.ex
  have msHoist := PySem.W.mg_of X G nsHoist
  obtain ⟨fsKin, fdsKin, nsKin, FsKin, bsKin⟩ := D.dsKin.ex
  have msKin := PySem.W.mg_of X G nsKin
  obtain ⟨fsCN, fdsCN, nsCN, FsCN, bsCN⟩ := D.dsCN.ex
  have msCN := PySem.W.mg_of X G nsCN
  obtain ⟨fsClosed, fdsClosed, nsClosed, FsClosed, bsClosed⟩ := D.dsClosed.ex
  have msClosed := PySem.W.mg_of X G nsClosed
  obtain ⟨fsNum, fdsNum, nsNum, FsNum, bsNum⟩ := D.dsNum.ex
  have msNum := PySem.W.mg_of X G nsNum
  obtain ⟨fsDF, fdsDF, nsDF, FsDF, bsDF⟩ := D.dsDF.ex
  have msDF := PySem.W.mg_of X G nsDF
  obtain ⟨fsDR, fdsDR, nsDR, FsDR, bsDR⟩ := D.dsDR.ex
  have msDR := PySem.W.mg_of X G nsDR
  obtain ⟨fsSoF, fdsSoF, nsSoF, FsSoF, bsSoF⟩ := D.dsSoF.ex
  have msSoF := PySem.W.mg_of X G nsSoF
  obtain ⟨fsTFa, fdsTFa, nsTFa, FsTFa, bsTFa⟩ := D.dsTFa.ex
  have msTFa := PySem.W.mg_of X G nsTFa
  obtain ⟨fsLA, fdsLA, nsLA, FsLA, bsLA⟩ := D.dsLA.ex
  have msLA := PySem.W.mg_of X G nsLA
  obtain ⟨fsDT, fdsDT, nsDT, FsDT, bsDT⟩ := D.dsDT.ex
  have msDT := PySem.W.mg_of X G nsDT
  obtain ⟨fsSpO, fdsSpO, nsSpO, FsSpO, bsSpO⟩ := D.dsSpO.ex
  have msSpO := PySem.W.mg_of X G nsSpO
  obtain ⟨fsST, fdsST, nsST, FsST, bsST⟩ := D.dsST.ex
  have msST := PySem.W.mg_of X G nsST
  obtain ⟨fsFH, fdsFH, nsFH, FsFH, bsFH⟩ := D.dsFH.ex
  have msFH := PySem.W.mg_of X G nsFH
  obtain ⟨fsFD, fdsFD, nsFD, FsFD, bsFD⟩ := D.dsFD.ex
  have msFD := PySem.W.mg_of X G nsFD
  obtain ⟨fsIn, fdsIn, msIn, isIn, FsIn, bsIn⟩ := M.dsIn.ex
  have xM := xc_marks XM X G
  have xT := xc_takes XT X G
  have xF := xc_fact XF X G
  have xC := xc_ring XC X G
  have xB := xc_tree XB X G
  have xN := xc_none XN X G
  have ER := errF_of E XB XN X G
  have G1 : FnOk prg w K mg base (L2N.CX prg w) 4 fsCheck fdsCheck ["marks", "takes", "facts"] (spCheck K (clsOf CM CT CF)) :=
    ok_check FsCheck T FsBadMark bsBadMark msBadMark FsBadTake bsBadTake msBadTake FsBadFact bsBadFact msBadFact FsName bsName msName FsFact bsFact msFact FsNames bsNames msNames FsWhole bsWhole msWhole xM xT xF
  have G2 : FnOk prg w K mg base (L2N.CX prg w) 4 fsBounds fdsBounds ["marks", "facts", "bounds", "more"] (spBounds K CC) :=
    ok_bounds FsBounds T FsSpots bsSpots msSpots FsNames bsNames msNames FsAll bsAll msAll FsStraight bsStraight msStraight FsChain bsChain msChain FsBarred bsBarred msBarred FsKept bsKept msKept FsTight bsTight msTight FsLesser bsLesser msLesser xC
  obtain ⟨fdS, FS⟩ := S.fund
  have G3 : FnOk prg w K mg base (L2N.CX prg w) 5 iS fdS ["self", "marks", "takes", "facts"] (spSheet K C CC (clsOf CM CT CF)) := ok_sheet FS T S.sh FsCheck bsCheck msCheck G1 FsBounds bsBounds msBounds G2 FsFree bsFree msFree
  have GCN : FnOk prg w K mg base CX0 2 fsCN fdsCN ["pit", "many"] (spCN K) := ok_cn FsCN T FsHoist bsHoist msHoist
  have GS : FnOk prg w K mg base CX0 3 fsSoF fdsSoF ["pit", "ms", "fs", "most", "far"] (spSoF K) := ok_sof FsSoF T FsHoist bsHoist msHoist FsDF bsDF msDF FsNum bsNum msNum FsClosed bsClosed msClosed
  have GT : FnOk prg w K mg base CX0 3 fsDT fdsDT ["pit", "nodes", "many", "far"] (spDT K) := ok_dt FsDT T FsHoist bsHoist msHoist FsDF bsDF msDF
  have GX : FnOk prg w K mg base CX0 2 fsST fdsST ["pit", "tr"] (spST K) := ok_st FsST T FsHoist bsHoist msHoist
  have GR : FnOk prg w K mg base CX0 2 fsDR fdsDR ["pit", "marks_here", "facts_here", "far"] (spDR K) := ok_dr FsDR T FsNum bsNum msNum FsClosed bsClosed msClosed FsHoist bsHoist msHoist
  have GFO : FnOk prg w K mg base (L2N.CX prg w) 5 fsFo fdsFo ["sheet", "tree", "numbers"] (spFo K C CB CN) := ok_fo FsFo T hall S.sh FsIn bsIn msIn FsAre bsAre msAre FsFits bsFits msFits FsCT bsCT msCT FsSpots bsSpots msSpots FsNames bsNames msNames FsAsk bsAsk msAsk FsGA bsGA msGA FsFact bsFact msFact FsWhole bsWhole msWhole xB xN
  have GFH : FnOk prg w K mg base CX0 6 fsFH fdsFH ["paper", "tr", "places"] (spFH K C) := ok_fh FsFH T FsFo bsFo msFo GFO xB ER
  have GFD : FnOk prg w K mg base CX0 2 fsFD fdsFD ["nodes", "tr", "places"] (spFD K) := ok_fd FsFD T FsTFa bsTFa msTFa FsLA bsLA msLA FsSpO bsSpO msSpO
  exact ok_law F T S.sh FS G3 S.maker (PySem.W.mg_of X G S.a) S.dflt FsPit bsPit msPit FsHoist bsHoist msHoist FsCN bsCN msCN FsSoF bsSoF msSoF FsDT bsDT msDT FsST bsST msST FsDR bsDR msDR FsFH bsFH msFH FsFD bsFD msFD FsKin bsKin msKin FsFo bsFo msFo GCN GS GT GX GR GFH GFD GFO
theorem walk {l : PySem.W.OpenLaw} {q : Program} {loose : List Str} {XP : (Str → Option Value) → Heap → Prop} {YP : World → Heap → Prop} {d : DefRec} {K : Params → PySem.W.Frag} (hn : l.most = some 63) (hdf : d.params.defaults = [])
    (hY : ∀ (w : World) (h : Heap), YP w h → (K w.params).In h)
    (F : ∀ (w : World) (mg : Str → Option Value) (fa : Addr) (h : Heap), (K w.params).In h → h.Ns mainGlobals mg → mg d.name = some (.ref fa) →
      ∃ fd : FuncData, (∀ (s : Shared) (u : Value), BindsTo s fd ⟨[u], []⟩ [("script", u)]) ∧ ∀ base : Heap, (K w.params).In base → base.Ns mainGlobals mg → FnOk l.prog w (K w.params) mg base CX0 7 fa fd ["script"] (spLaw (K w.params))) :
    PySem.W.WalkO q loose XP YP l.row.toRowW d [] (fun f vs => PySem.call f vs) :=
  L2.walk_of (n := 63) (k := 7) (x := "script") (CX := fun _ => CX0) (sp := fun w => spLaw (K w.params)) hn (by decide) hdf ⟨rfl, by decide, by decide⟩ hY F (fun _ _ a ns hl _ hS => ⟨a, ns, rfl, hS, hl, fun _ => rfl⟩) fun _ _ _ _ _ z => z
end K1
end
section
set_option maxRecDepth 100000
set_option maxHeartbeats 4000000
namespace K1
open PySem PyProof.Rows L2 K01
theorem bd_sFree (kV doc pm : Value) (an : Option Addr) (cdv ct : Value) (us : List Value) (hl : us.length = (["many"] : List Str).length) : bindArgs (PySem.W.fnOf "free_bounds" "free_bounds" (defArgs sFree) (defBody sFree) (defScope sFree) .none kV doc pm an cdv ct) ⟨us, []⟩ = pure ((["many"] : List Str).zip us) := match us, hl with | [_], _ => rfl
theorem bd_sBarred (kV doc pm : Value) (an : Option Addr) (cdv ct : Value) (us : List Value) (hl : us.length = (["bounds", "x", "y", "number"] : List Str).length) : bindArgs (PySem.W.fnOf "is_barred" "is_barred" (defArgs sBarred) (defBody sBarred) (defScope sBarred) .none kV doc pm an cdv ct) ⟨us, []⟩ = pure ((["bounds", "x", "y", "number"] : List Str).zip us) := match us, hl with | [_, _, _, _], _ => rfl
theorem bd_sKept (kV doc pm : Value) (an : Option Addr) (cdv ct : Value) (us : List Value) (hl : us.length = (["bounds", "x", "y", "number"] : List Str).length) : bindArgs (PySem.W.fnOf "is_kept" "is_kept" (defArgs sKept) (defBody sKept) (defScope sKept) .none kV doc pm an cdv ct) ⟨us, []⟩ = pure ((["bounds", "x", "y", "number"] : List Str).zip us) := match us, hl with | [_, _, _, _], _ => rfl
theorem bd_sLesser (kV doc pm : Value) (an : Option Addr) (cdv ct : Value) (us : List Value) (hl : us.length = (["row", "step", "onward"] : List Str).length) : bindArgs (PySem.W.fnOf "lesser_row" "lesser_row" (defArgs sLesser) (defBody sLesser) (defScope sLesser) .none kV doc pm an cdv ct) ⟨us, []⟩ = pure ((["row", "step", "onward"] : List Str).zip us) := match us, hl with | [_, _, _], _ => rfl
theorem bd_sTight (kV doc pm : Value) (an : Option Addr) (cdv ct : Value) (us : List Value) (hl : us.length = (["bounds", "x", "y", "number"] : List Str).length) : bindArgs (PySem.W.fnOf "tightened" "tightened" (defArgs sTight) (defBody sTight) (defScope sTight) .none kV doc pm an cdv ct) ⟨us, []⟩ = pure ((["bounds", "x", "y", "number"] : List Str).zip us) := match us, hl with | [_, _, _, _], _ => rfl
theorem bd_sFits (kV doc pm : Value) (an : Option Addr) (cdv ct : Value) (us : List Value) (hl : us.length = (["bounds", "numbers"] : List Str).length) : bindArgs (PySem.W.fnOf "fits" "fits" (defArgs sFits) (defBody sFits) (defScope sFits) .none kV doc pm an cdv ct) ⟨us, []⟩ = pure ((["bounds", "numbers"] : List Str).zip us) := match us, hl with | [_, _], _ => rfl
theorem bd_sWhole (kV doc pm : Value) (an : Option Addr) (cdv ct : Value) (us : List Value) (hl : us.length = (["x"] : List Str).length) : bindArgs (PySem.W.fnOf "is_whole" "is_whole" (defArgs sWhole) (defBody sWhole) (defScope sWhole) .none kV doc pm an cdv ct) ⟨us, []⟩ = pure ((["x"] : List Str).zip us) := match us, hl with | [_], _ => rfl
theorem bd_sName (kV doc pm : Value) (an : Option Addr) (cdv ct : Value) (us : List Value) (hl : us.length = (["x"] : List Str).length) : bindArgs (PySem.W.fnOf "is_name" "is_name" (defArgs sName) (defBody sName) (defScope sName) .none kV doc pm an cdv ct) ⟨us, []⟩ = pure ((["x"] : List Str).zip us) := match us, hl with | [_], _ => rfl
theorem bd_sAre (kV doc pm : Value) (an : Option Addr) (cdv ct : Value) (us : List Value) (hl : us.length = (["x", "many"] : List Str).length) : bindArgs (PySem.W.fnOf "are_numbers" "are_numbers" (defArgs sAre) (defBody sAre) (defScope sAre) .none kV doc pm an cdv ct) ⟨us, []⟩ = pure ((["x", "many"] : List Str).zip us) := match us, hl with | [_, _], _ => rfl
theorem bd_sNames (kV doc pm : Value) (an : Option Addr) (cdv ct : Value) (us : List Value) (hl : us.length = (["marks"] : List Str).length) : bindArgs (PySem.W.fnOf "names_of" "names_of" (defArgs sNames) (defBody sNames) (defScope sNames) .none kV doc pm an cdv ct) ⟨us, []⟩ = pure ((["marks"] : List Str).zip us) := match us, hl with | [_], _ => rfl
theorem bd_sSpots (kV doc pm : Value) (an : Option Addr) (cdv ct : Value) (us : List Value) (hl : us.length = (["marks"] : List Str).length) : bindArgs (PySem.W.fnOf "spots_of" "spots_of" (defArgs sSpots) (defBody sSpots) (defScope sSpots) .none kV doc pm an cdv ct) ⟨us, []⟩ = pure ((["marks"] : List Str).zip us) := match us, hl with | [_], _ => rfl
theorem bd_sBadMark (kV doc pm : Value) (an : Option Addr) (cdv ct : Value) (us : List Value) (hl : us.length = (["marks"] : List Str).length) : bindArgs (PySem.W.fnOf "first_bad_mark" "first_bad_mark" (defArgs sBadMark) (defBody sBadMark) (defScope sBadMark) .none kV doc pm an cdv ct) ⟨us, []⟩ = pure ((["marks"] : List Str).zip us) := match us, hl with | [_], _ => rfl
theorem bd_sBadTake (kV doc pm : Value) (an : Option Addr) (cdv ct : Value) (us : List Value) (hl : us.length = (["marks", "takes"] : List Str).length) : bindArgs (PySem.W.fnOf "first_bad_take" "first_bad_take" (defArgs sBadTake) (defBody sBadTake) (defScope sBadTake) .none kV doc pm an cdv ct) ⟨us, []⟩ = pure ((["marks", "takes"] : List Str).zip us) := match us, hl with | [_, _], _ => rfl
theorem bd_sFact (kV doc pm : Value) (an : Option Addr) (cdv ct : Value) (us : List Value) (hl : us.length = (["fact", "names"] : List Str).length) : bindArgs (PySem.W.fnOf "is_fact" "is_fact" (defArgs sFact) (defBody sFact) (defScope sFact) .none kV doc pm an cdv ct) ⟨us, []⟩ = pure ((["fact", "names"] : List Str).zip us) := match us, hl with | [_, _], _ => rfl
theorem bd_sBadFact (kV doc pm : Value) (an : Option Addr) (cdv ct : Value) (us : List Value) (hl : us.length = (["marks", "facts"] : List Str).length) : bindArgs (PySem.W.fnOf "first_bad_fact" "first_bad_fact" (defArgs sBadFact) (defBody sBadFact) (defScope sBadFact) .none kV doc pm an cdv ct) ⟨us, []⟩ = pure ((["marks", "facts"] : List Str).zip us) := match us, hl with | [_, _], _ => rfl
theorem bd_sCheck (kV doc pm : Value) (an : Option Addr) (cdv ct : Value) (us : List Value) (hl : us.length = (["marks", "takes", "facts"] : List Str).length) : bindArgs (PySem.W.fnOf "check_parts" "check_parts" (defArgs sCheck) (defBody sCheck) (defScope sCheck) .none kV doc pm an cdv ct) ⟨us, []⟩ = pure ((["marks", "takes", "facts"] : List Str).zip us) := match us, hl with | [_, _, _], _ => rfl
theorem bd_sAll (kV doc pm : Value) (an : Option Addr) (cdv ct : Value) (us : List Value) (hl : us.length = (["marks", "facts"] : List Str).length) : bindArgs (PySem.W.fnOf "all_facts" "all_facts" (defArgs sAll) (defBody sAll) (defScope sAll) .none kV doc pm an cdv ct) ⟨us, []⟩ = pure ((["marks", "facts"] : List Str).zip us) := match us, hl with | [_, _], _ => rfl
theorem bd_sStraight (kV doc pm : Value) (an : Option Addr) (cdv ct : Value) (us : List Value) (hl : us.length = (["fact", "ahead"] : List Str).length) : bindArgs (PySem.W.fnOf "is_straight" "is_straight" (defArgs sStraight) (defBody sStraight) (defScope sStraight) .none kV doc pm an cdv ct) ⟨us, []⟩ = pure ((["fact", "ahead"] : List Str).zip us) := match us, hl with | [_, _], _ => rfl
theorem bd_sChain (kV doc pm : Value) (an : Option Addr) (cdv ct : Value) (us : List Value) (hl : us.length = (["marks", "facts", "bounds", "x", "y"] : List Str).length) : bindArgs (PySem.W.fnOf "chain_of" "chain_of" (defArgs sChain) (defBody sChain) (defScope sChain) .none kV doc pm an cdv ct) ⟨us, []⟩ = pure ((["marks", "facts", "bounds", "x", "y"] : List Str).zip us) := match us, hl with | [_, _, _, _, _], _ => rfl
theorem bd_sBounds (kV doc pm : Value) (an : Option Addr) (cdv ct : Value) (us : List Value) (hl : us.length = (["marks", "facts", "bounds", "more"] : List Str).length) : bindArgs (PySem.W.fnOf "bounds_with" "bounds_with" (defArgs sBounds) (defBody sBounds) (defScope sBounds) .none kV doc pm an cdv ct) ⟨us, []⟩ = pure ((["marks", "facts", "bounds", "more"] : List Str).zip us) := match us, hl with | [_, _, _, _], _ => rfl
theorem bd_sAsk (kV doc pm : Value) (an : Option Addr) (cdv ct : Value) (us : List Value) (hl : us.length = (["row"] : List Str).length) : bindArgs (PySem.W.fnOf "is_ask_row" "is_ask_row" (defArgs sAsk) (defBody sAsk) (defScope sAsk) .none kV doc pm an cdv ct) ⟨us, []⟩ = pure ((["row"] : List Str).zip us) := match us, hl with | [_], _ => rfl
theorem bd_sGA (kV doc pm : Value) (an : Option Addr) (cdv ct : Value) (us : List Value) (hl : us.length = (["row", "names", "at", "named"] : List Str).length) : bindArgs (PySem.W.fnOf "is_good_ask" "is_good_ask" (defArgs sGA) (defBody sGA) (defScope sGA) .none kV doc pm an cdv ct) ⟨us, []⟩ = pure ((["row", "names", "at", "named"] : List Str).zip us) := match us, hl with | [_, _, _, _], _ => rfl
theorem bd_sCT (kV doc pm : Value) (an : Option Addr) (cdv ct : Value) (us : List Value) (hl : us.length = (["sheet", "tree"] : List Str).length) : bindArgs (PySem.W.fnOf "check_tree" "check_tree" (defArgs sCT) (defBody sCT) (defScope sCT) .none kV doc pm an cdv ct) ⟨us, []⟩ = pure ((["sheet", "tree"] : List Str).zip us) := match us, hl with | [_, _], _ => rfl
theorem bd_sFo (kV doc pm : Value) (an : Option Addr) (cdv ct : Value) (us : List Value) (hl : us.length = (["sheet", "tree", "numbers"] : List Str).length) : bindArgs (PySem.W.fnOf "follow" "follow" (defArgs sFo) (defBody sFo) (defScope sFo) .none kV doc pm an cdv ct) ⟨us, []⟩ = pure ((["sheet", "tree", "numbers"] : List Str).zip us) := match us, hl with | [_, _, _], _ => rfl
theorem bd_sPit (kV doc pm : Value) (an : Option Addr) (cdv ct : Value) (us : List Value) (hl : us.length = (["script", "at"] : List Str).length) : bindArgs (PySem.W.fnOf "_law_pit" "_law_pit" (defArgs sPit) (defBody sPit) (defScope sPit) .none kV doc pm an cdv ct) ⟨us, []⟩ = pure ((["script", "at"] : List Str).zip us) := match us, hl with | [_, _], _ => rfl
theorem bd_sHoist (kV doc pm : Value) (an : Option Addr) (cdv ct : Value) (us : List Value) (hl : us.length = (["pit", "below"] : List Str).length) : bindArgs (PySem.W.fnOf "_law_hoist" "_law_hoist" (defArgs sHoist) (defBody sHoist) (defScope sHoist) .none kV doc pm an cdv ct) ⟨us, []⟩ = pure ((["pit", "below"] : List Str).zip us) := match us, hl with | [_, _], _ => rfl
theorem bd_sKin (kV doc pm : Value) (an : Option Addr) (cdv ct : Value) (us : List Value) (hl : us.length = (["found", "due"] : List Str).length) : bindArgs (PySem.W.fnOf "_law_kin" "_law_kin" (defArgs sKin) (defBody sKin) (defScope sKin) .none kV doc pm an cdv ct) ⟨us, []⟩ = pure ((["found", "due"] : List Str).zip us) := match us, hl with | [_, _], _ => rfl
theorem bd_sCN (kV doc pm : Value) (an : Option Addr) (cdv ct : Value) (us : List Value) (hl : us.length = (["pit", "many"] : List Str).length) : bindArgs (PySem.W.fnOf "_law_call_names" "_law_call_names" (defArgs sCN) (defBody sCN) (defScope sCN) .none kV doc pm an cdv ct) ⟨us, []⟩ = pure ((["pit", "many"] : List Str).zip us) := match us, hl with | [_, _], _ => rfl
theorem bd_sClosed (kV doc pm : Value) (an : Option Addr) (cdv ct : Value) (us : List Value) (hl : us.length = (["many", "facts_here"] : List Str).length) : bindArgs (PySem.W.fnOf "_law_closed" "_law_closed" (defArgs sClosed) (defBody sClosed) (defScope sClosed) .none kV doc pm an cdv ct) ⟨us, []⟩ = pure ((["many", "facts_here"] : List Str).zip us) := match us, hl with | [_, _], _ => rfl
theorem bd_sNum (kV doc pm : Value) (an : Option Addr) (cdv ct : Value) (us : List Value) (hl : us.length = (["marks_here", "facts_here"] : List Str).length) : bindArgs (PySem.W.fnOf "_law_numbered" "_law_numbered" (defArgs sNum) (defBody sNum) (defScope sNum) .none kV doc pm an cdv ct) ⟨us, []⟩ = pure ((["marks_here", "facts_here"] : List Str).zip us) := match us, hl with | [_, _], _ => rfl
theorem bd_sDF (kV doc pm : Value) (an : Option Addr) (cdv ct : Value) (us : List Value) (hl : us.length = (["pit", "marks_here", "far"] : List Str).length) : bindArgs (PySem.W.fnOf "_law_drawn_fact" "_law_drawn_fact" (defArgs sDF) (defBody sDF) (defScope sDF) .none kV doc pm an cdv ct) ⟨us, []⟩ = pure ((["pit", "marks_here", "far"] : List Str).zip us) := match us, hl with | [_, _, _], _ => rfl
theorem bd_sDR (kV doc pm : Value) (an : Option Addr) (cdv ct : Value) (us : List Value) (hl : us.length = (["pit", "marks_here", "facts_here", "far"] : List Str).length) : bindArgs (PySem.W.fnOf "_law_drawn_recording" "_law_drawn_recording" (defArgs sDR) (defBody sDR) (defScope sDR) .none kV doc pm an cdv ct) ⟨us, []⟩ = pure ((["pit", "marks_here", "facts_here", "far"] : List Str).zip us) := match us, hl with | [_, _, _, _], _ => rfl
theorem bd_sSoF (kV doc pm : Value) (an : Option Addr) (cdv ct : Value) (us : List Value) (hl : us.length = (["pit", "ms", "fs", "most", "far"] : List Str).length) : bindArgs (PySem.W.fnOf "_law_some_facts" "_law_some_facts" (defArgs sSoF) (defBody sSoF) (defScope sSoF) .none kV doc pm an cdv ct) ⟨us, []⟩ = pure ((["pit", "ms", "fs", "most", "far"] : List Str).zip us) := match us, hl with | [_, _, _, _, _], _ => rfl
theorem bd_sTFa (kV doc pm : Value) (an : Option Addr) (cdv ct : Value) (us : List Value) (hl : us.length = (["nodes", "tr"] : List Str).length) : bindArgs (PySem.W.fnOf "_law_tree_fault" "_law_tree_fault" (defArgs sTFa) (defBody sTFa) (defScope sTFa) .none kV doc pm an cdv ct) ⟨us, []⟩ = pure ((["nodes", "tr"] : List Str).zip us) := match us, hl with | [_, _], _ => rfl
theorem bd_sLA (kV doc pm : Value) (an : Option Addr) (cdv ct : Value) (us : List Value) (hl : us.length = (["tr", "spots"] : List Str).length) : bindArgs (PySem.W.fnOf "_law_leaf_at" "_law_leaf_at" (defArgs sLA) (defBody sLA) (defScope sLA) .none kV doc pm an cdv ct) ⟨us, []⟩ = pure ((["tr", "spots"] : List Str).zip us) := match us, hl with | [_, _], _ => rfl
theorem bd_sDT (kV doc pm : Value) (an : Option Addr) (cdv ct : Value) (us : List Value) (hl : us.length = (["pit", "nodes", "many", "far"] : List Str).length) : bindArgs (PySem.W.fnOf "_law_drawn_tree" "_law_drawn_tree" (defArgs sDT) (defBody sDT) (defScope sDT) .none kV doc pm an cdv ct) ⟨us, []⟩ = pure ((["pit", "nodes", "many", "far"] : List Str).zip us) := match us, hl with | [_, _, _, _], _ => rfl
theorem bd_sSpO (kV doc pm : Value) (an : Option Addr) (cdv ct : Value) (us : List Value) (hl : us.length = (["ms", "places"] : List Str).length) : bindArgs (PySem.W.fnOf "_law_spots_of" "_law_spots_of" (defArgs sSpO) (defBody sSpO) (defScope sSpO) .none kV doc pm an cdv ct) ⟨us, []⟩ = pure ((["ms", "places"] : List Str).zip us) := match us, hl with | [_, _], _ => rfl
theorem bd_sST (kV doc pm : Value) (an : Option Addr) (cdv ct : Value) (us : List Value) (hl : us.length = (["pit", "tr"] : List Str).length) : bindArgs (PySem.W.fnOf "_law_spoilt_tree" "_law_spoilt_tree" (defArgs sST) (defBody sST) (defScope sST) .none kV doc pm an cdv ct) ⟨us, []⟩ = pure ((["pit", "tr"] : List Str).zip us) := match us, hl with | [_, _], _ => rfl
theorem bd_sFH (kV doc pm : Value) (an : Option Addr) (cdv ct : Value) (us : List Value) (hl : us.length = (["paper", "tr", "places"] : List Str).length) : bindArgs (PySem.W.fnOf "_law_follow_heard" "_law_follow_heard" (defArgs sFH) (defBody sFH) (defScope sFH) .none kV doc pm an cdv ct) ⟨us, []⟩ = pure ((["paper", "tr", "places"] : List Str).zip us) := match us, hl with | [_, _, _], _ => rfl
theorem bd_sFD (kV doc pm : Value) (an : Option Addr) (cdv ct : Value) (us : List Value) (hl : us.length = (["nodes", "tr", "places"] : List Str).length) : bindArgs (PySem.W.fnOf "_law_follow_due" "_law_follow_due" (defArgs sFD) (defBody sFD) (defScope sFD) .none kV doc pm an cdv ct) ⟨us, []⟩ = pure ((["nodes", "tr", "places"] : List Str).zip us) := match us, hl with | [_, _, _], _ => rfl
theorem bd_sIn (kV doc pm : Value) (an : Option Addr) (cdv ct : Value) (us : List Value) (hl : us.length = (["self", "numbers"] : List Str).length) : bindArgs (PySem.W.fnOf "__contains__" "Sheet.__contains__" (defArgs sIn) (defBody sIn) (defScope sIn) .none kV doc pm an cdv ct) ⟨us, []⟩ = pure ((["self", "numbers"] : List Str).zip us) := match us, hl with | [_, _], _ => rfl
/-- the class Sheet, flat -/
theorem shAt {K : PySem.W.Frag} {C iS D0 T : Addr} {oc kV doc pm cdv ct : Value} {od an : Option Addr} {osl : Array (Option Value)} {oT o0 : Obj} {n n0 : Nat}
    (a : PySem.W.nsIn K mainGlobals "Sheet" = some (some (.ref C))) (makes : PySem.W.makesIn K C = true) (init : PySem.W.findIn K (.ref C) "__init__" = some (some (.ref iS))) (fn : PySem.W.isFn K (.ref iS) = true) (kp : PySem.W.keepIn K (.ref C) = true)
    (pg : PySem.W.plainGet K C Str.empty = true) (hd : PySem.W.hasDictIn K C = true) (po : PySem.W.plainOver K C = true) (sa : PySem.W.findIn K (.ref C) "__setattr__" = some (some (.builtin "object.__setattr__")))
    (nm : PySem.W.findIn K (.ref C) "marks" = some none) (nt : PySem.W.findIn K (.ref C) "takes" = some none) (nf : PySem.W.findIn K (.ref C) "facts" = some none) (nl : PySem.W.findIn K (.ref C) "_limits" = some none) (nb : PySem.W.findIn K (.ref C) "bounds" = some none)
    (l : K.lookup iS = some ⟨oc, od, .func (PySem.W.fnOf "__init__" "Sheet.__init__" (defArgs sSheet) (defBody sSheet) (defScope sSheet) (.ref T) kV doc pm an cdv ct), osl⟩) (c : PySem.W.codeIn K cdv "Sheet.__init__" = true) (k : PySem.W.keepIn K (.ref iS) = true)
    (lT : K.lookup T = some oT) (dT : oT.data = .seq #[.ref D0] n) (l0 : K.lookup D0 = some o0) (c0 : o0.cls = .type "tuple") (d0 : o0.data = .seq #[] n0) : ShAt K C iS D0 :=
  ⟨a, makes, init, fn, kp, pg, hd, po, sa, nm, nt, nf, nl, nb, oc, kV, doc, pm, od, an, cdv, ct, osl, T, oT, n, o0, n0, l, c, k, lT, dT, l0, c0, d0⟩
/-- an error class, flat -/
theorem xAt {K : PySem.W.Frag} {st : Stmt} {x fld qual : Str} {C fI N T cda cc : Addr} {nm q : Str} {bs : List Value} {sn : List Str} {sub : List Value} {ab : Bool} {col : Option Bool} {dd : Option Addr} {k0 k1 k2 k3 k5 : Option Value}
    {oc doc pm ct ccl cl : Value} {od an cdd cld : Option Addr} {osl ccs csl : Array (Option Value)} {vs : Array Value} {file : Str} {tf : Tok}
    (g : PySem.W.nsIn K mainGlobals x = some (some (.ref C))) (cls : K.lookup C = some (excClassObj nm q C N bs [.ref T, .type "ValueError", .type "Exception", .type "BaseException", .type "object"] true sn sub ab col dd k0 k1 k2 k3 k5 "ValueError.__new__"))
    (sa : PySem.W.findIn K (.ref C) "__setattr__" = some (some (.builtin "object.__setattr__"))) (ga : PySem.W.findIn K (.ref C) "__getattribute__" = some (some (.builtin "BaseException.__getattribute__"))) (gg : PySem.W.findIn K (.ref C) "__getattr__" = some none) (noN : PySem.W.findIn K (.ref C) fld = some none)
    (iC : PySem.W.findIn K (.ref C) "__init__" = some (some (.ref fI))) (tC : PySem.W.typeIn K (.ref fI) = some (.type "function")) (kC : PySem.W.keepIn K (.ref C) = true) (exC : PySem.W.subIn K (.ref C) (.type "BaseException") = some true) (vE : PySem.W.subIn K (.ref C) (.type "ValueError") = some true)
    (tyC : PySem.W.typeIn K (.ref C) = some (.type "type")) (hdC : PySem.W.hasDictIn K C = true) (se : PySem.W.subIn K (.ref C) (.ref C) = some true) (su : PySem.W.ks_superIn K C C "__init__" = some (some (.builtin "ValueError.__init__"))) (mr : PySem.W.mroIn K C (.ref C) = some true)
    (sc : PySem.W.nsIn K cStatics "thirdparty.any" = some none) (sp : PySem.W.nsIn K mainGlobals "super" = some none)
    (l : K.lookup fI = some ⟨oc, od, .func (PySem.W.ksFn "__init__" qual (defArgs st) (defBody st) (defScope st) .none .none doc pm an (.ref cda) ct cc), osl⟩) (c : PySem.W.codeIn K (.ref cda) qual = true) (lc : K.lookup cda = some ⟨ccl, cdd, .fields vs, ccs⟩) (hvs : vs[2]? = some (.str file tf)) (hf : ((prg.main.file : Str) == file) = true)
    (lcc : K.lookup cc = some ⟨cl, cld, .cell (some (.ref C)), csl⟩) : XAt K st x fld qual C fI :=
  ⟨g, ⟨nm, q, N, bs, sn, sub, ab, col, dd, k0, k1, k2, k3, k5, T, cls⟩, sa, ga, gg, noN, iC, tC, kC, exC, vE, tyC, hdC, se, su, mr, sc, sp, oc, doc, pm, ct, ccl, cl, od, an, cdd, cld, osl, ccs, csl, cda, cc, vs, file, tf, l, c, lc, hvs, hf, lcc⟩
theorem law_ex {K : PySem.W.Frag} {h : Heap} {mg : Str → Option Value} {w : World} {fa f C iS D0 CM CT CF CC CB CN TE iM iT iF iC iB iN : Addr} {oc : Value} {od an : Option Addr} {osl : Array (Option Value)} {kV doc pm cdv ct : Value} (X : K.In h) (G : h.Ns mainGlobals mg) (hfa : mg "law" = some (.ref fa))
    (a : PySem.W.nsIn K mainGlobals "law" = some (some (.ref f))) (l : K.lookup f = some ⟨oc, od, .func (PySem.W.fnOf "law" "law" (defArgs sLaw) (defBody sLaw) (defScope sLaw) .none kV doc pm an cdv ct), osl⟩) (c : PySem.W.codeIn K cdv "law" = true) (k : PySem.W.keepIn K (.ref f) = true)
    (B : BiAt K) (D : DfAt K) (S : ShAt K C iS D0) (M : MtAt K C) (XM : XAt K (sXI 14) "BadMarks" "index" "BadMarks.__init__" CM iM) (XT : XAt K (sXI 15) "BadTakes" "index" "BadTakes.__init__" CT iT) (XF : XAt K (sXI 16) "BadFact" "index" "BadFact.__init__" CF iF) (XC : XAt K (sXI 17) "Contradiction" "ring" "Contradiction.__init__" CC iC)
    (XB : XAt K (sXI 22) "BadTree" "index" "BadTree.__init__" CB iB) (XN : XAt K (sXI 21) "NotRecording" "index" "NotRecording.__init__" CN iN) (E : EfAt K CB CN TE) :
    ∃ fd : FuncData, (∀ (s : Shared) (u : Value), BindsTo s fd ⟨[u], []⟩ [("script", u)]) ∧ ∀ base : Heap, K.In base → base.Ns mainGlobals mg → FnOk prg w K mg base CX0 7 fa fd ["script"] (spLaw K) := by
  have e := hfa.symm.trans (PySem.W.mg_of X G a)
  cases e
  exact ⟨_, law_all X G B D S M XM XT XF XC XB XN E (fun_mk l c k)⟩
end K1
end
section
set_option maxRecDepth 100000
set_option maxHeartbeats 0
open PySem PySem.W PyProof.Rows
theorem PySem.Challenge.cw_unknowntakes_k46_trees_followed_holds : PySem.Challenge.rw_unknowntakes_k46_trees_followed.Holds := by
  exact PySem.K46.hd (by
    w_strict (
      k_fill
      refine K1.walk (l := PySem.Challenge.rw_unknowntakes_k46_trees_followed) rfl rfl (fun w h Y => PySem.W.kIn_of Y) ?F
      case F =>
        intro w mg fa h KX G hmg
        refine' K1.law_ex KX G hmg ?a ?l ?c ?k ?B ?D ?S ?M ?XM ?XT ?XF ?XC ?XB ?XN ?E
        case a => (first | k_is | rfl | kernel_rfl)
        case l => (first | k_is | rfl | kernel_rfl)
        case c => (first | k_is | rfl | kernel_rfl)
        case k => (first | k_is | rfl | kernel_rfl)
        case B => exact ⟨by (first | k_is | rfl | kernel_rfl), by (first | k_is | rfl | kernel_rfl), by (first | k_is | rfl | kernel_rfl), by (first | k_is | rfl | kernel_rfl), by (first | k_is | rfl | kernel_rfl), by (first | k_is | rfl | kernel_rfl), by (first | k_is | rfl | kernel_rfl), by (first | k_is | rfl | kernel_rfl), by (first | k_is | rfl | kernel_rfl), by (first | k_is | rfl | kernel_rfl), by (first | k_is | rfl | kernel_rfl), by (first | k_is | rfl | kernel_rfl), by (first | k_is | rfl | kernel_rfl), by (first | k_is | rfl | kernel_rfl), by (first | k_is | rfl | kernel_rfl), by (first | k_is | rfl | kernel_rfl)⟩
        case D =>
          refine' ⟨?dsFree, ?dsBarred, ?dsKept, ?dsLesser, ?dsTight, ?dsFits, ?dsWhole, ?dsName, ?dsAre, ?dsNames, ?dsSpots, ?dsBadMark, ?dsBadTake, ?dsFact, ?dsBadFact, ?dsCheck, ?dsAll, ?dsStraight, ?dsChain, ?dsBounds, ?dsAsk, ?dsGA, ?dsCT, ?dsFo, ?dsPit, ?dsHoist, ?dsKin, ?dsCN, ?dsClosed, ?dsNum, ?dsDF, ?dsDR, ?dsSoF, ?dsTFa, ?dsLA, ?dsDT, ?dsSpO, ?dsST, ?dsFH, ?dsFD⟩
          case dsFree => (refine' K1.defAt ?a ?l ?c ?k K1.bd_sFree; (case a => (first | k_is | rfl | kernel_rfl)); (case l => (first | k_is | rfl | kernel_rfl)); (case c => (first | k_is | rfl | kernel_rfl)); (case k => (first | k_is | rfl | kernel_rfl)))
          case dsBarred => (refine' K1.defAt ?a ?l ?c ?k K1.bd_sBarred; (case a => (first | k_is | rfl | kernel_rfl)); (case l => (first | k_is | rfl | kernel_rfl)); (case c => (first | k_is | rfl | kernel_rfl)); (case k => (first | k_is | rfl | kernel_rfl)))
          case dsKept => (refine' K1.defAt ?a ?l ?c ?k K1.bd_sKept; (case a => (first | k_is | rfl | kernel_rfl)); (case l => (first | k_is | rfl | kernel_rfl)); (case c => (first | k_is | rfl | kernel_rfl)); (case k => (first | k_is | rfl | kernel_rfl)))
          case dsLesser => (refine' K1.defAt ?a ?l ?c ?k K1.bd_sLesser; (case a => (first | k_is | rfl | kernel_rfl)); (case l => (first | k_is | rfl | kernel_rfl)); (case c => (first | k_is | rfl | kernel_rfl)); (case k => (first | k_is | rfl | kernel_rfl)))
          case dsTight => (refine' K1.defAt ?a ?l ?c ?k K1.bd_sTight; (case a => (first | k_is | rfl | kernel_rfl)); (case l => (first | k_is | rfl | kernel_rfl)); (case c => (first | k_is | rfl | kernel_rfl)); (case k => (first | k_is | rfl | kernel_rfl)))
          case dsFits => (refine' K1.defAt ?a ?l ?c ?k K1.bd_sFits; (case a => (first | k_is | rfl | kernel_rfl)); (case l => (first | k_is | rfl | kernel_rfl)); (case c => (first | k_is | rfl | kernel_rfl)); (case k => (first | k_is | rfl | kernel_rfl)))
          case dsWhole => (refine' K1.defAt ?a ?l ?c ?k K1.bd_sWhole; (case a => (first | k_is | rfl | kernel_rfl)); (case l => (first | k_is | rfl | kernel_rfl)); (case c => (first | k_is | rfl | kernel_rfl)); (case k => (first | k_is | rfl | kernel_rfl)))
          case dsName => (refine' K1.defAt ?a ?l ?c ?k K1.bd_sName; (case a => (first | k_is | rfl | kernel_rfl)); (case l => (first | k_is | rfl | kernel_rfl)); (case c => (first | k_is | rfl | kernel_rfl)); (case k => (first | k_is | rfl | kernel_rfl)))
          case dsAre => (refine' K1.defAt ?a ?l ?c ?k K1.bd_sAre; (case a => (first | k_is | rfl | kernel_rfl)); (case l => (first | k_is | rfl | kernel_rfl)); (case c => (first | k_is | rfl | kernel_rfl)); (case k => (first | k_is | rfl | kernel_rfl)))
          case dsNames => (refine' K1.defAt ?a ?l ?c ?k K1.bd_sNames; (case a => (first | k_is | rfl | kernel_rfl)); (case l => (first | k_is | rfl | kernel_rfl)); (case c => (first | k_is | rfl | kernel_rfl)); (case k => (first | k_is | rfl | kernel_rfl)))
          case dsSpots => (refine' K1.defAt ?a ?l ?c ?k K1.bd_sSpots; (case a => (first | k_is | rfl | kernel_rfl)); (case l => (first | k_is | rfl | kernel_rfl)); (case c => (first | k_is | rfl | kernel_rfl)); (case k => (first | k_is | rfl | kernel_rfl)))
          case dsBadMark => (refine' K1.defAt ?a ?l ?c ?k K1.bd_sBadMark; (case a => (first | k_is | rfl | kernel_rfl)); (case l => (first | k_is | rfl | kernel_rfl)); (case c => (first | k_is | rfl | kernel_rfl)); (case k => (first | k_is | rfl | kernel_rfl)))
          case dsBadTake => (refine' K1.defAt ?a ?l ?c ?k K1.bd_sBadTake; (case a => (first | k_is | rfl | kernel_rfl)); (case l => (first | k_is | rfl | kernel_rfl)); (case c => (first | k_is | rfl | kernel_rfl)); (case k => (first | k_is | rfl | kernel_rfl)))
          case dsFact => (refine' K1.defAt ?a ?l ?c ?k K1.bd_sFact; (case a => (first | k_is | rfl | kernel_rfl)); (case l => (first | k_is | rfl | kernel_rfl)); (case c => (first | k_is | rfl | kernel_rfl)); (case k => (first | k_is | rfl | kernel_rfl)))
          case dsBadFact => (refine' K1.defAt ?a ?l ?c ?k K1.bd_sBadFact; (case a => (first | k_is | rfl | kernel_rfl)); (case l => (first | k_is | rfl | kernel_rfl)); (case c => (first | k_is | rfl | kernel_rfl)); (case k => (first | k_is | rfl | kernel_rfl)))
          case dsCheck => (refine' K1.defAt ?a ?l ?c ?k K1.bd_sCheck; (case a => (first | k_is | rfl | kernel_rfl)); (case l => (first | k_is | rfl | kernel_rfl)); (case c => (first | k_is | rfl | kernel_rfl)); (case k => (first | k_is | rfl | kernel_rfl)))
          case dsAll => (refine' K1.defAt ?a ?l ?c ?k K1.bd_sAll; (case a => (first | k_is | rfl | kernel_rfl)); (case l => (first | k_is | rfl | kernel_rfl)); (case c => (first | k_is | rfl | kernel_rfl)); (case k => (first | k_is | rfl | kernel_rfl)))
          case dsStraight => (refine' K1.defAt ?a ?l ?c ?k K1.bd_sStraight; (case a => (first | k_is | rfl | kernel_rfl)); (case l => (first | k_is | rfl | kernel_rfl)); (case c => (first | k_is | rfl | kernel_rfl)); (case k => (first | k_is | rfl | kernel_rfl)))
          case dsChain => (refine' K1.defAt ?a ?l ?c ?k K1.bd_sChain; (case a => (first | k_is | rfl | kernel_rfl)); (case l => (first | k_is | rfl | kernel_rfl)); (case c => (first | k_is | rfl | kernel_rfl)); (case k => (first | k_is | rfl | kernel_rfl)))
          case dsBounds => (refine' K1.defAt ?a ?l ?c ?k K1.bd_sBounds; (case a => (first | k_is | rfl | kernel_rfl)); (case l => (first | k_is | rfl | kernel_rfl)); (case c => (first | k_is | rfl | kernel_rfl)); (case k => (first | k_is | rfl | kernel_rfl)))
          case dsAsk => (refine' K1.defAt ?a ?l ?c ?k K1.bd_sAsk; (case a => (first | k_is | rfl | kernel_rfl)); (case l => (first | k_is | rfl | kernel_rfl)); (case c => (first | k_is | rfl | kernel_rfl)); (case k => (first | k_is | rfl | kernel_rfl)))
          case dsGA => (refine' K1.defAt ?a ?l ?c ?k K1.bd_sGA; (case a => (first | k_is | rfl | kernel_rfl)); (case l => (first | k_is | rfl | kernel_rfl)); (case c => (first | k_is | rfl | kernel_rfl)); (case k => (first | k_is | rfl | kernel_rfl)))
          case dsCT => (refine' K1.defAt ?a ?l ?c ?k K1.bd_sCT; (case a => (first | k_is | rfl | kernel_rfl)); (case l => (first | k_is | rfl | kernel_rfl)); (case c => (first | k_is | rfl | kernel_rfl)); (case k => (first | k_is | rfl | kernel_rfl)))
          case dsFo => (refine' K1.defAt ?a ?l ?c ?k K1.bd_sFo; (case a => (first | k_is | rfl | kernel_rfl)); (case l => (first | k_is | rfl | kernel_rfl)); (case c => (first | k_is | rfl | kernel_rfl)); (case k => (first | k_is | rfl | kernel_rfl)))
          case dsPit => (refine' K1.defAt ?a ?l ?c ?k K1.bd_sPit; (case a => (first | k_is | rfl | kernel_rfl)); (case l => (first | k_is | rfl | kernel_rfl)); (case c => (first | k_is | rfl | kernel_rfl)); (case k => (first | k_is | rfl | kernel_rfl)))
          case dsHoist => (refine' K1.defAt ?a ?l ?c ?k K1.bd_sHoist; (case a => (first | k_is | rfl | kernel_rfl)); (case l => (first | k_is | rfl | kernel_rfl)); (case c => (first | k_is | rfl | kernel_rfl)); (case k => (first | k_is | rfl | kernel_rfl)))
          case dsKin => (refine' K1.defAt ?a ?l ?c ?k K1.bd_sKin; (case a => (first | k_is | rfl | kernel_rfl)); (case l => (first | k_is | rfl | kernel_rfl)); (case c => (first | k_is | rfl | kernel_rfl)); (case k => (first | k_is | rfl | kernel_rfl)))
          case dsCN => (refine' K1.defAt ?a ?l ?c ?k K1.bd_sCN; (case a => (first | k_is | rfl | kernel_rfl)); (case l => (first | k_is | rfl | kernel_rfl)); (case c => (first | k_is | rfl | kernel_rfl)); (case k => (first | k_is | rfl | kernel_rfl)))
          case dsClosed => (refine' K1.defAt ?a ?l ?c ?k K1.bd_sClosed; (case a => (first | k_is | rfl | kernel_rfl)); (case l => (first | k_is | rfl | kernel_rfl)); (case c => (first | k_is | rfl | kernel_rfl)); (case k => (first | k_is | rfl | kernel_rfl)))
          case dsNum => (refine' K1.defAt ?a ?l ?c ?k K1.bd_sNum; (case a => (first | k_is | rfl | kernel_rfl)); (case l => (first | k_is | rfl | kernel_rfl)); (case c => (first | k_is | rfl | kernel_rfl)); (case k => (first | k_is | rfl | kernel_rfl)))
          case dsDF => (refine' K1.defAt ?a ?l ?c ?k K1.bd_sDF; (case a => (first | k_is | rfl | kernel_rfl)); (case l => (first | k_is | rfl | kernel_rfl)); (case c => (first | k_is | rfl | kernel_rfl)); (case k => (first | k_is | rfl | kernel_rfl)))
          case dsDR => (refine' K1.defAt ?a ?l ?c ?k K1.bd_sDR; (case a => (first | k_is | rfl | kernel_rfl)); (case l => (first | k_is | rfl | kernel_rfl)); (case c => (first | k_is | rfl | kernel_rfl)); (case k => (first | k_is | rfl | kernel_rfl)))
          case dsSoF => (refine' K1.defAt ?a ?l ?c ?k K1.bd_sSoF; (case a => (first | k_is | rfl | kernel_rfl)); (case l => (first | k_is | rfl | kernel_rfl)); (case c => (first | k_is | rfl | kernel_rfl)); (case k => (first | k_is | rfl | kernel_rfl)))
          case dsTFa => (refine' K1.defAt ?a ?l ?c ?k K1.bd_sTFa; (case a => (first | k_is | rfl | kernel_rfl)); (case l => (first | k_is | rfl | kernel_rfl)); (case c => (first | k_is | rfl | kernel_rfl)); (case k => (first | k_is | rfl | kernel_rfl)))
          case dsLA => (refine' K1.defAt ?a ?l ?c ?k K1.bd_sLA; (case a => (first | k_is | rfl | kernel_rfl)); (case l => (first | k_is | rfl | kernel_rfl)); (case c => (first | k_is | rfl | kernel_rfl)); (case k => (first | k_is | rfl | kernel_rfl)))
          case dsDT => (refine' K1.defAt ?a ?l ?c ?k K1.bd_sDT; (case a => (first | k_is | rfl | kernel_rfl)); (case l => (first | k_is | rfl | kernel_rfl)); (case c => (first | k_is | rfl | kernel_rfl)); (case k => (first | k_is | rfl | kernel_rfl)))
          case dsSpO => (refine' K1.defAt ?a ?l ?c ?k K1.bd_sSpO; (case a => (first | k_is | rfl | kernel_rfl)); (case l => (first | k_is | rfl | kernel_rfl)); (case c => (first | k_is | rfl | kernel_rfl)); (case k => (first | k_is | rfl | kernel_rfl)))
          case dsST => (refine' K1.defAt ?a ?l ?c ?k K1.bd_sST; (case a => (first | k_is | rfl | kernel_rfl)); (case l => (first | k_is | rfl | kernel_rfl)); (case c => (first | k_is | rfl | kernel_rfl)); (case k => (first | k_is | rfl | kernel_rfl)))
          case dsFH => (refine' K1.defAt ?a ?l ?c ?k K1.bd_sFH; (case a => (first | k_is | rfl | kernel_rfl)); (case l => (first | k_is | rfl | kernel_rfl)); (case c => (first | k_is | rfl | kernel_rfl)); (case k => (first | k_is | rfl | kernel_rfl)))
          case dsFD => (refine' K1.defAt ?a ?l ?c ?k K1.bd_sFD; (case a => (first | k_is | rfl | kernel_rfl)); (case l => (first | k_is | rfl | kernel_rfl)); (case c => (first | k_is | rfl | kernel_rfl)); (case k => (first | k_is | rfl | kernel_rfl)))
        case S =>
          refine' K1.shAt ?a ?makes ?init ?fn ?kp ?pg ?hd ?po ?sa ?nm ?nt ?nf ?nl ?nb ?l ?c ?k ?lT ?dT ?l0 ?c0 ?d0
          case a => (first | k_is | rfl | kernel_rfl)
          case makes => (first | k_is | rfl | kernel_rfl)
          case init => (first | k_is | rfl | kernel_rfl)
          case fn => (first | k_is | rfl | kernel_rfl)
          case kp => (first | k_is | rfl | kernel_rfl)
          case pg => (first | k_is | rfl | kernel_rfl)
          case hd => (first | k_is | rfl | kernel_rfl)
          case po => (first | k_is | rfl | kernel_rfl)
          case sa => (first | k_is | rfl | kernel_rfl)
          case nm => (first | k_is | rfl | kernel_rfl)
          case nt => (first | k_is | rfl | kernel_rfl)
          case nf => (first | k_is | rfl | kernel_rfl)
          case nl => (first | k_is | rfl | kernel_rfl)
          case nb => (first | k_is | rfl | kernel_rfl)
          case l => (first | k_is | rfl | kernel_rfl)
          case c => (first | k_is | rfl | kernel_rfl)
          case k => (first | k_is | rfl | kernel_rfl)
          case lT => (first | k_is | rfl | kernel_rfl)
          case dT => rfl
          case l0 => (first | k_is | rfl | kernel_rfl)
          case c0 => rfl
          case d0 => rfl
        case M =>
          refine' ⟨?dsIn⟩
          case dsIn => (refine' K1.metAt ?a ?fn ?fn2 ?l ?c ?k K1.bd_sIn; (case a => (first | k_is | rfl | kernel_rfl)); (case fn => (first | k_is | rfl | kernel_rfl)); (case fn2 => (first | k_is | rfl | kernel_rfl)); (case l => (first | k_is | rfl | kernel_rfl)); (case c => (first | k_is | rfl | kernel_rfl)); (case k => (first | k_is | rfl | kernel_rfl)))
        case XM => (refine' K1.xAt ?g ?cls ?sa ?ga ?gg ?noN ?iC ?tC ?kC ?exC ?vE ?tyC ?hdC ?se ?su ?mr ?sc ?sp ?l ?c ?lc ?hvs ?hf ?lcc; (case g => (first | k_is | rfl | kernel_rfl)); (case cls => (first | k_is | rfl | kernel_rfl)); (case sa => (first | k_is | rfl | kernel_rfl)); (case ga => (first | k_is | rfl | kernel_rfl)); (case gg => (first | k_is | rfl | kernel_rfl)); (case noN => (first | k_is | rfl | kernel_rfl)); (case iC => (first | k_is | rfl | kernel_rfl)); (case tC => (first | k_is | rfl | kernel_rfl)); (case kC => (first | k_is | rfl | kernel_rfl)); (case exC => (first | k_is | rfl | kernel_rfl)); (case vE => (first | k_is | rfl | kernel_rfl)); (case tyC => (first | k_is | rfl | kernel_rfl)); (case hdC => (first | k_is | rfl | kernel_rfl)); (case se => (first | k_is | rfl | kernel_rfl)); (case su => (first | k_is | rfl | kernel_rfl)); (case mr => (first | k_is | rfl | kernel_rfl)); (case sc => (first | k_is | rfl | kernel_rfl)); (case sp => (first | k_is | rfl | kernel_rfl)); (case l => (first | k_is | rfl | kernel_rfl)); (case c => (first | k_is | rfl | kernel_rfl)); (case lc => (first | k_is | rfl | kernel_rfl)); (case hvs => rfl); (case hf => rfl); (case lcc => (first | k_is | rfl | kernel_rfl)))
        case XT => (refine' K1.xAt ?g ?cls ?sa ?ga ?gg ?noN ?iC ?tC ?kC ?exC ?vE ?tyC ?hdC ?se ?su ?mr ?sc ?sp ?l ?c ?lc ?hvs ?hf ?lcc; (case g => (first | k_is | rfl | kernel_rfl)); (case cls => (first | k_is | rfl | kernel_rfl)); (case sa => (first | k_is | rfl | kernel_rfl)); (case ga => (first | k_is | rfl | kernel_rfl)); (case gg => (first | k_is | rfl | kernel_rfl)); (case noN => (first | k_is | rfl | kernel_rfl)); (case iC => (first | k_is | rfl | kernel_rfl)); (case tC => (first | k_is | rfl | kernel_rfl)); (case kC => (first | k_is | rfl | kernel_rfl)); (case exC => (first | k_is | rfl | kernel_rfl)); (case vE => (first | k_is | rfl | kernel_rfl)); (case tyC => (first | k_is | rfl | kernel_rfl)); (case hdC => (first | k_is | rfl | kernel_rfl)); (case se => (first | k_is | rfl | kernel_rfl)); (case su => (first | k_is | rfl | kernel_rfl)); (case mr => (first | k_is | rfl | kernel_rfl)); (case sc => (first | k_is | rfl | kernel_rfl)); (case sp => (first | k_is | rfl | kernel_rfl)); (case l => (first | k_is | rfl | kernel_rfl)); (case c => (first | k_is | rfl | kernel_rfl)); (case lc => (first | k_is | rfl | kernel_rfl)); (case hvs => rfl); (case hf => rfl); (case lcc => (first | k_is | rfl | kernel_rfl)))
        case XF => (refine' K1.xAt ?g ?cls ?sa ?ga ?gg ?noN ?iC ?tC ?kC ?exC ?vE ?tyC ?hdC ?se ?su ?mr ?sc ?sp ?l ?c ?lc ?hvs ?hf ?lcc; (case g => (first | k_is | rfl | kernel_rfl)); (case cls => (first | k_is | rfl | kernel_rfl)); (case sa => (first | k_is | rfl | kernel_rfl)); (case ga => (first | k_is | rfl | kernel_rfl)); (case gg => (first | k_is | rfl | kernel_rfl)); (case noN => (first | k_is | rfl | kernel_rfl)); (case iC => (first | k_is | rfl | kernel_rfl)); (case tC => (first | k_is | rfl | kernel_rfl)); (case kC => (first | k_is | rfl | kernel_rfl)); (case exC => (first | k_is | rfl | kernel_rfl)); (case vE => (first | k_is | rfl | kernel_rfl)); (case tyC => (first | k_is | rfl | kernel_rfl)); (case hdC => (first | k_is | rfl | kernel_rfl)); (case se => (first | k_is | rfl | kernel_rfl)); (case su => (first | k_is | rfl | kernel_rfl)); (case mr => (first | k_is | rfl | kernel_rfl)); (case sc => (first | k_is | rfl | kernel_rfl)); (case sp => (first | k_is | rfl | kernel_rfl)); (case l => (first | k_is | rfl | kernel_rfl)); (case c => (first | k_is | rfl | kernel_rfl)); (case lc => (first | k_is | rfl | kernel_rfl)); (case hvs => rfl); (case hf => rfl); (case lcc => (first | k_is | rfl | kernel_rfl)))
        case XC => (refine' K1.xAt ?g ?cls ?sa ?ga ?gg ?noN ?iC ?tC ?kC ?exC ?vE ?tyC ?hdC ?se ?su ?mr ?sc ?sp ?l ?c ?lc ?hvs ?hf ?lcc; (case g => (first | k_is | rfl | kernel_rfl)); (case cls => (first | k_is | rfl | kernel_rfl)); (case sa => (first | k_is | rfl | kernel_rfl)); (case ga => (first | k_is | rfl | kernel_rfl)); (case gg => (first | k_is | rfl | kernel_rfl)); (case noN => (first | k_is | rfl | kernel_rfl)); (case iC => (first | k_is | rfl | kernel_rfl)); (case tC => (first | k_is | rfl | kernel_rfl)); (case kC => (first | k_is | rfl | kernel_rfl)); (case exC => (first | k_is | rfl | kernel_rfl)); (case vE => (first | k_is | rfl | kernel_rfl)); (case tyC => (first | k_is | rfl | kernel_rfl)); (case hdC => (first | k_is | rfl | kernel_rfl)); (case se => (first | k_is | rfl | kernel_rfl)); (case su => (first | k_is | rfl | kernel_rfl)); (case mr => (first | k_is | rfl | kernel_rfl)); (case sc => (first | k_is | rfl | kernel_rfl)); (case sp => (first | k_is | rfl | kernel_rfl)); (case l => (first | k_is | rfl | kernel_rfl)); (case c => (first | k_is | rfl | kernel_rfl)); (case lc => (first | k_is | rfl | kernel_rfl)); (case hvs => rfl); (case hf => rfl); (case lcc => (first | k_is | rfl | kernel_rfl)))
        case XB => (refine' K1.xAt ?g ?cls ?sa ?ga ?gg ?noN ?iC ?tC ?kC ?exC ?vE ?tyC ?hdC ?se ?su ?mr ?sc ?sp ?l ?c ?lc ?hvs ?hf ?lcc; (case g => (first | k_is | rfl | kernel_rfl)); (case cls => (first | k_is | rfl | kernel_rfl)); (case sa => (first | k_is | rfl | kernel_rfl)); (case ga => (first | k_is | rfl | kernel_rfl)); (case gg => (first | k_is | rfl | kernel_rfl)); (case noN => (first | k_is | rfl | kernel_rfl)); (case iC => (first | k_is | rfl | kernel_rfl)); (case tC => (first | k_is | rfl | kernel_rfl)); (case kC => (first | k_is | rfl | kernel_rfl)); (case exC => (first | k_is | rfl | kernel_rfl)); (case vE => (first | k_is | rfl | kernel_rfl)); (case tyC => (first | k_is | rfl | kernel_rfl)); (case hdC => (first | k_is | rfl | kernel_rfl)); (case se => (first | k_is | rfl | kernel_rfl)); (case su => (first | k_is | rfl | kernel_rfl)); (case mr => (first | k_is | rfl | kernel_rfl)); (case sc => (first | k_is | rfl | kernel_rfl)); (case sp => (first | k_is | rfl | kernel_rfl)); (case l => (first | k_is | rfl | kernel_rfl)); (case c => (first | k_is | rfl | kernel_rfl)); (case lc => (first | k_is | rfl | kernel_rfl)); (case hvs => rfl); (case hf => rfl); (case lcc => (first | k_is | rfl | kernel_rfl)))
        case XN => (refine' K1.xAt ?g ?cls ?sa ?ga ?gg ?noN ?iC ?tC ?kC ?exC ?vE ?tyC ?hdC ?se ?su ?mr ?sc ?sp ?l ?c ?lc ?hvs ?hf ?lcc; (case g => (first | k_is | rfl | kernel_rfl)); (case cls => (first | k_is | rfl | kernel_rfl)); (case sa => (first | k_is | rfl | kernel_rfl)); (case ga => (first | k_is | rfl | kernel_rfl)); (case gg => (first | k_is | rfl | kernel_rfl)); (case noN => (first | k_is | rfl | kernel_rfl)); (case iC => (first | k_is | rfl | kernel_rfl)); (case tC => (first | k_is | rfl | kernel_rfl)); (case kC => (first | k_is | rfl | kernel_rfl)); (case exC => (first | k_is | rfl | kernel_rfl)); (case vE => (first | k_is | rfl | kernel_rfl)); (case tyC => (first | k_is | rfl | kernel_rfl)); (case hdC => (first | k_is | rfl | kernel_rfl)); (case se => (first | k_is | rfl | kernel_rfl)); (case su => (first | k_is | rfl | kernel_rfl)); (case mr => (first | k_is | rfl | kernel_rfl)); (case sc => (first | k_is | rfl | kernel_rfl)); (case sp => (first | k_is | rfl | kernel_rfl)); (case l => (first | k_is | rfl | kernel_rfl)); (case c => (first | k_is | rfl | kernel_rfl)); (case lc => (first | k_is | rfl | kernel_rfl)); (case hvs => rfl); (case hf => rfl); (case lcc => (first | k_is | rfl | kernel_rfl)))
        case E =>
          refine' { nb := ?nb, be := ?be, ne := ?ne, eg := ?eg, ex := ?ex, ed := ?ed, et := ?et, hn := ?hn, ht := ?ht, ba := ?ba, na := ?na, bo := ?bo, no_ := ?no_ }
          case eg => (first | k_is | rfl | kernel_rfl)
          case nb => (first | k_is | rfl | kernel_rfl)
          case be => (first | k_is | rfl | kernel_rfl)
          case ne => (first | k_is | rfl | kernel_rfl)
          case ex => (first | k_is | rfl | kernel_rfl)
          case ed => (first | k_is | rfl | kernel_rfl)
          case et => (first | k_is | rfl | kernel_rfl)
          case hn => (first | k_is | rfl | kernel_rfl)
          case ht => (first | k_is | rfl | kernel_rfl)
          case ba => (first | k_is | rfl | kernel_rfl)
          case na => (first | k_is | rfl | kernel_rfl)
          case bo => (first | k_is | rfl | kernel_rfl)
          case no_ => (first | k_is | rfl | kernel_rfl)))
end
