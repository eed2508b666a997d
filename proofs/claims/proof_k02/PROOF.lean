import PyProof.Rows.All
import Wide.All
import OpenK.AllK
import Wide.FinOn
import KE.KExcTry
import KE.KExcIs
import KE.KExcStr
import KE.KExcSuper
import Open.Tops
import HandS.ForMost
import HandS.ForExc
import HandS.Zip
import HandS.IsInst
import HandS.Flow
import HandS.TupAny
import HandS.Wide
import HandS.Star
import HandS.Walk
import HandS.FStr
import HandS.StrMore
import HandS.DictComp
import KE.GoesMore
import KE.KTurns
import KE.GoesEnum
import HandS.FStrTup
import HandS.Exc
import HandS.ExcSuper
import HandS.ExcInit
import HandS.WordsExc
import HandS.TryMany
import HandS.TryOnly
import HandS.ExcOwn
import HandS.ExcCtx
import HandS.Defaults
import HandS.MakeKw
import HandS.MakeKwOnly
import HandS.ExcIs
import HandS.Property
import KE.KCallOwn
import HandS.Deep
import HandS.Style
import HandS.Text
import PySem.Challenge.RW_unknowntakes_k02_sheets_told
set_option Elab.async false
set_option linter.all false
set_option rowWalk.seconds 0
section
open PySem PySem.W PyProof.Rows
set_option maxRecDepth 100000
set_option maxHeartbeats 0
open_top PySem.K02.hd for PySem.Challenge.rw_unknowntakes_k02_sheets_told
end
section
open PySem PySem.W PyProof.Rows
theorem k02_off : True := by
  w_top off
  trivial
end
section
set_option autoImplicit false
namespace K01
abbrev Cell := Option Int
abbrev Mat := List (List Cell)
abbrev Edge := Nat × Nat × Int
def rowAt (B : Mat) (x : Nat) : List Cell := (B[x]?).getD []
def cell (B : Mat) (x y : Nat) : Cell := ((rowAt B x)[y]?).getD none
def LeC (c : Cell) (k : Int) : Prop := ∃ d, c = some d ∧ d ≤ k
def Le (B : Mat) (x y : Nat) (k : Int) : Prop := LeC (cell B x y) k
def Sized (n : Nat) (B : Mat) : Prop := B.length = n ∧ ∀ r ∈ B, r.length = n
theorem LeC.mono {c : Cell} {k l : Int} (h : LeC c k) (e : k ≤ l) : LeC c l := by
  obtain ⟨d, h1, h2⟩ := h
  exact ⟨d, h1, by omega⟩
theorem Le.mono {B : Mat} {x y : Nat} {k l : Int} (h : Le B x y k) (e : k ≤ l) : Le B x y l := LeC.mono h e
theorem LeC.some {d k : Int} (h : d ≤ k) : LeC (some d) k := ⟨d, rfl, h⟩
theorem rowAt_of {B : Mat} {x : Nat} {r : List Cell} (h : B[x]? = some r) : rowAt B x = r := by
  unfold rowAt; rw [h]; rfl
theorem Sized.row {n : Nat} {B : Mat} (h : Sized n B) {x : Nat} (hx : x < n) : ∃ r, B[x]? = some r ∧ r.length = n := by
  have h1 : x < B.length := by rw [h.1]; exact hx
  exact ⟨B[x], List.getElem?_eq_getElem h1, h.2 _ (List.getElem_mem h1)⟩
theorem Sized.rowAt {n : Nat} {B : Mat} (h : Sized n B) {x : Nat} (hx : x < n) : (K01.rowAt B x).length = n := by
  obtain ⟨r, h1, h2⟩ := h.row hx
  rw [rowAt_of h1]; exact h2

/-! walks -/
inductive Walk (E : List Edge) : Nat → Nat → Int → Prop
  | nil (x : Nat) : Walk E x x 0
  | cons {x u y : Nat} {c d : Int} : (x, u, c) ∈ E → Walk E u y d → Walk E x y (c + d)
theorem Walk.mono {E F : List Edge} (h : ∀ e ∈ E, e ∈ F) {x y : Nat} {c : Int} (w : Walk E x y c) : Walk F x y c := by
  induction w with
  | nil x => exact .nil x
  | cons e _ ih => exact .cons (h _ e) ih
theorem Walk.app {E : List Edge} {x y z : Nat} {c d : Int} (w : Walk E x y c) (v : Walk E y z d) : Walk E x z (c + d) := by
  induction w with
  | nil x => rw [Int.zero_add]; exact v
  | cons e _ ih => rw [Int.add_assoc]; exact .cons e (ih v)
def InR (n : Nat) (E : List Edge) : Prop := ∀ e ∈ E, e.1 < n ∧ e.2.1 < n
structure Good (n : Nat) (E : List Edge) (B : Mat) : Prop where
  sized : Sized n B
  tri : ∀ {x y z : Nat} {k l : Int}, x < n → y < n → z < n → Le B x z k → Le B z y l → Le B x y (k + l)
  diag0 : ∀ {x : Nat}, x < n → Le B x x 0
  diag : ∀ {x : Nat} {k : Int}, x < n → Le B x x k → 0 ≤ k
  edge : ∀ {x y : Nat} {c : Int}, (x, y, c) ∈ E → Le B x y c
  walk : ∀ {x y : Nat} {k : Int}, x < n → y < n → Le B x y k → ∃ c, c ≤ k ∧ Walk E x y c
theorem Good.leW {n : Nat} {E : List Edge} {B : Mat} (G : Good n E B) (R : InR n E) {x y : Nat} {c : Int} (w : Walk E x y c) (hx : x < n) (hy : y < n) : Le B x y c := by
  induction w with
  | nil x => exact G.diag0 hx
  | cons e w ih =>
    have hu := (R _ e).2
    exact G.tri hx hy hu (G.edge e) (ih hu hy)
/-- the value of a good matrix' cell is the sum of a walk, and none is less -/
theorem Good.tightW {n : Nat} {E : List Edge} {B : Mat} (G : Good n E B) (R : InR n E) {x y : Nat} {d : Int} (hx : x < n) (hy : y < n) (h : cell B x y = some d) : Walk E x y d := by
  obtain ⟨c, h1, h2⟩ := G.walk hx hy ⟨d, h, Int.le_refl _⟩
  obtain ⟨d', h3, h4⟩ := G.leW R h2 hx hy
  rw [h] at h3
  cases h3
  have : c = d := by omega
  rw [← this]; exact h2
/-- one step out of a set of nodes, along a straight edge -/
theorem Good.out {n : Nat} {E : List Edge} {B : Mat} (G : Good n E B) (R : InR n E) (S : Nat → Prop) {x goal : Nat} {c : Int} (w : Walk E x goal c) (hx : x < n) (hg : goal < n)
    (hc : cell B x goal = some c) (hS : S x) (hN : ¬ S goal) : ∃ u v k d1 d2, (u, v, k) ∈ E ∧ S u ∧ ¬ S v ∧ cell B u goal = some d1 ∧ cell B v goal = some d2 ∧ d1 = k + d2 := by
  induction w with
  | nil x => exact absurd hS hN
  | @cons x u y c d e w ih =>
    have hu := (R _ e).2
    obtain ⟨d2, h1, h2⟩ := G.leW R w hu hg
    obtain ⟨d3, h3, h4⟩ := G.tri hx hg hu (G.edge e) ⟨d2, h1, Int.le_refl _⟩
    rw [hc] at h3
    cases h3
    have : d = d2 := by omega
    subst this
    by_cases s : S u
    · exact ih hu hg h1 s hN
    · exact ⟨x, u, c, _, d, e, hS, s, hc, h1, rfl⟩

/-! the matrix without facts -/
def freeM (m : Nat) : Mat := List.replicate (m + 1) (some 0) :: (List.range m).map fun i => (List.range (m + 1)).map fun s => if s = i + 1 then some 0 else none
def zeroE (m : Nat) : List Edge := (List.range m).map fun i => (0, i + 1, 0)
theorem free_sized (m : Nat) : Sized (m + 1) (freeM m) := by
  refine ⟨by simp [freeM], fun r hr => ?_⟩
  rcases List.mem_cons.mp hr with e | h
  · rw [e]; simp
  · obtain ⟨i, _, rfl⟩ := List.mem_map.mp h
    simp
theorem free_cell {m x y : Nat} (hx : x < m + 1) (hy : y < m + 1) : cell (freeM m) x y = if x = 0 ∨ x = y then some 0 else none := by
  unfold cell rowAt freeM
  cases x with
  | zero => simp [List.getElem?_replicate, hy]
  | succ i =>
    have hi : i < m := by omega
    simp only [List.getElem?_cons_succ, List.getElem?_map, List.getElem?_range hi, Option.map_some, Option.getD_some, List.getElem?_range hy]
    by_cases e : y = i + 1
    · simp [e]
    · have : ¬ i + 1 = y := fun q => e q.symm
      simp [e, this]
theorem free_le {m x y : Nat} {k : Int} (hx : x < m + 1) (hy : y < m + 1) : Le (freeM m) x y k ↔ (x = 0 ∨ x = y) ∧ 0 ≤ k := by
  unfold Le LeC
  rw [free_cell hx hy]
  constructor
  · rintro ⟨d, h1, h2⟩
    split at h1
    · rename_i e; cases h1; exact ⟨e, h2⟩
    · cases h1
  · rintro ⟨e, h⟩
    rw [if_pos e]; exact ⟨0, rfl, h⟩
theorem zero_mem {m x y : Nat} {c : Int} (h : (x, y, c) ∈ zeroE m) : x = 0 ∧ c = 0 ∧ 0 < y ∧ y < m + 1 := by
  obtain ⟨i, h1, h2⟩ := List.mem_map.mp h
  have := List.mem_range.mp h1
  simp only [Prod.mk.injEq] at h2
  obtain ⟨a, b, d⟩ := h2
  omega
theorem free_good (m : Nat) : Good (m + 1) (zeroE m) (freeM m) where
  sized := free_sized m
  tri := by
    intro x y z k l hx hy hz h1 h2
    rw [free_le hx hz] at h1
    rw [free_le hz hy] at h2
    rw [free_le hx hy]
    omega
  diag0 := by intro x hx; rw [free_le hx hx]; omega
  diag := by intro x k hx h; rw [free_le hx hx] at h; exact h.2
  edge := by
    intro x y c h
    obtain ⟨a, b, c1, d⟩ := zero_mem h
    rw [free_le (by omega) d]; omega
  walk := by
    intro x y k hx hy h
    rw [free_le hx hy] at h
    refine ⟨0, h.2, ?_⟩
    by_cases e : x = y
    · rw [e]; exact .nil y
    · have hx0 : x = 0 := by omega
      subst hx0
      have : (0, y, (0 : Int)) ∈ zeroE m := List.mem_map.mpr ⟨y - 1, List.mem_range.mpr (by omega), by congr 1; congr 1; omega⟩
      have w := Walk.cons this (.nil y)
      rwa [Int.add_zero] at w

/-! one fact more -/
def lesser1 (s : Int) (old more : Cell) : Cell := match more with
  | none => old
  | some m => match old with
    | none => some (s + m)
    | some o => if o ≤ s + m then some o else some (s + m)
theorem lesser1_le (s : Int) (old more : Cell) (k : Int) : LeC (lesser1 s old more) k ↔ LeC old k ∨ ∃ b, more = some b ∧ s + b ≤ k := by
  unfold LeC
  cases more with
  | none => simp [lesser1]
  | some m =>
    cases old with
    | none => simp [lesser1]
    | some o =>
      simp only [lesser1, Option.some.injEq, exists_eq_left']
      split
      · rename_i h; simp only [Option.some.injEq, exists_eq_left']; omega
      · rename_i h; simp only [Option.some.injEq, exists_eq_left']; omega
def lesserRow (row : List Cell) (s : Int) (onward : List Cell) : List Cell := List.zipWith (lesser1 s) row onward
/-- is this row left as it is? -/
def skips (row : List Cell) (x y : Nat) (c : Int) : Bool := match (row[x]?).getD none with
  | none => true
  | some a => match (row[y]?).getD none with
    | none => false
    | some b => decide (b ≤ a + c)
def tightRow (B : Mat) (x y : Nat) (c : Int) (row : List Cell) : List Cell := if skips row x y c then row else lesserRow row (((row[x]?).getD none).getD 0 + c) (rowAt B y)
def tightM (B : Mat) (x y : Nat) (c : Int) : Mat := B.map (tightRow B x y c)
theorem tight_sized {n : Nat} {B : Mat} (h : Sized n B) {x y : Nat} (hy : y < n) (c : Int) : Sized n (tightM B x y c) := by
  refine ⟨by unfold tightM; rw [List.length_map]; exact h.1, fun r hr => ?_⟩
  obtain ⟨r0, h0, rfl⟩ := List.mem_map.mp hr
  unfold tightRow
  split
  · exact h.2 _ h0
  · unfold lesserRow
    rw [List.length_zipWith, h.2 _ h0, h.rowAt hy, Nat.min_self]
theorem tight_le {n : Nat} {E : List Edge} {B : Mat} (G : Good n E B) {x y r t : Nat} {c k : Int} (hx : x < n) (hy : y < n) (hr : r < n) (ht : t < n) :
    Le (tightM B x y c) r t k ↔ Le B r t k ∨ ∃ a b, Le B r x a ∧ Le B y t b ∧ a + c + b ≤ k := by
  obtain ⟨row, e1, l1⟩ := G.sized.row hr
  obtain ⟨ry, e2, l2⟩ := G.sized.row hy
  have f1 : rowAt B r = row := rowAt_of e1
  have f2 : rowAt B y = ry := rowAt_of e2
  have g : rowAt (tightM B x y c) r = tightRow B x y c row := by
    unfold rowAt tightM
    rw [List.getElem?_map, e1]; rfl
  have cx : cell B r x = (row[x]?).getD none := by unfold cell; rw [f1]
  have cy : cell B r y = (row[y]?).getD none := by unfold cell; rw [f1]
  have ct : cell B r t = (row[t]?).getD none := by unfold cell; rw [f1]
  have cb : cell B y t = (ry[t]?).getD none := by unfold cell; rw [f2]
  show LeC (((rowAt (tightM B x y c) r)[t]?).getD none) k ↔ _
  rw [g]
  unfold tightRow
  by_cases s : skips row x y c = true
  · rw [if_pos s]
    refine ⟨fun h => .inl (by unfold Le; rw [ct]; exact h), fun h => ?_⟩
    rcases h with h | ⟨a, b, h1, h2, h3⟩
    · unfold Le at h; rw [ct] at h; exact h
    · obtain ⟨a0, q1, q2⟩ := h1
      rw [cx] at q1
      unfold skips at s
      rw [q1] at s
      simp only at s
      cases q : (row[y]?).getD none with
      | none => rw [q] at s; simp at s
      | some b0 =>
        rw [q] at s
        have s' : b0 ≤ a0 + c := by simpa using s
        have t1 : Le B r y b0 := by unfold Le; rw [cy, q]; exact .some (Int.le_refl _)
        have t2 := G.tri hr ht hy t1 h2
        unfold Le at t2
        rw [ct] at t2
        exact t2.mono (by omega)
  · rw [if_neg s]
    cases q : (row[x]?).getD none with
    | none => exact absurd (by unfold skips; rw [q]) s
    | some a0 =>
      have z : ((lesserRow row ((Option.getD (some a0) 0) + c) (rowAt B y))[t]?).getD none = lesser1 (a0 + c) (cell B r t) (cell B y t) := by
        unfold lesserRow
        rw [f2, List.getElem?_zipWith, ct, cb]
        have p1 : t < row.length := by omega
        have p2 : t < ry.length := by omega
        rw [List.getElem?_eq_getElem p1, List.getElem?_eq_getElem p2]
        rfl
      rw [z, lesser1_le]
      constructor
      · rintro (h | ⟨b, h1, h2⟩)
        · exact .inl h
        · exact .inr ⟨a0, b, by unfold Le; rw [cx, q]; exact .some (Int.le_refl _), by unfold Le; rw [h1]; exact .some (Int.le_refl _), by omega⟩
      · rintro (h | ⟨a, b, h1, h2, h3⟩)
        · exact .inl h
        · obtain ⟨a1, p1, p2⟩ := h1
          obtain ⟨b1, p3, p4⟩ := h2
          rw [cx, q] at p1
          cases p1
          exact .inr ⟨b1, p3, by omega⟩
/-- a fact that does not bar: the matrix with it is good again -/
theorem tight_good {n : Nat} {E : List Edge} {B : Mat} (G : Good n E B) (R : InR n E) {x y : Nat} {c : Int} (hx : x < n) (hy : y < n) (hb : ∀ k, Le B y x k → 0 ≤ k + c) : Good n (E ++ [(x, y, c)]) (tightM B x y c) where
  sized := tight_sized G.sized hy c
  tri := by
    intro r t z k l hr ht hz h1 h2
    rw [tight_le G hx hy hr hz] at h1
    rw [tight_le G hx hy hz ht] at h2
    rw [tight_le G hx hy hr ht]
    rcases h1 with h1 | ⟨a, b, h1, h1', e1⟩
    · rcases h2 with h2 | ⟨a', b', h2, h2', e2⟩
      · exact .inl (G.tri hr ht hz h1 h2)
      · exact .inr ⟨k + a', b', G.tri hr hx hz h1 h2, h2', by omega⟩
    · rcases h2 with h2 | ⟨a', b', h2, h2', e2⟩
      · exact .inr ⟨a, b + l, h1, G.tri hy ht hz h1' h2, by omega⟩
      · have := hb _ (G.tri hy hx hz h1' h2)
        exact .inr ⟨a, b', h1, h2', by omega⟩
  diag0 := by
    intro r hr
    rw [tight_le G hx hy hr hr]
    exact .inl (G.diag0 hr)
  diag := by
    intro r k hr h
    rw [tight_le G hx hy hr hr] at h
    rcases h with h | ⟨a, b, h1, h2, e⟩
    · exact G.diag hr h
    · have := hb _ (G.tri hy hx hr h2 h1)
      omega
  edge := by
    intro r t k h
    rcases List.mem_append.mp h with h | h
    · have := R _ h
      rw [tight_le G hx hy this.1 this.2]
      exact .inl (G.edge h)
    · have h' := List.mem_singleton.mp h
      cases h'
      rw [tight_le G hx hy hx hy]
      exact .inr ⟨0, 0, G.diag0 hx, G.diag0 hy, by omega⟩
  walk := by
    intro r t k hr ht h
    have mono : ∀ e ∈ E, e ∈ E ++ [(x, y, c)] := fun e he => List.mem_append_left _ he
    rw [tight_le G hx hy hr ht] at h
    rcases h with h | ⟨a, b, h1, h2, e⟩
    · obtain ⟨d, q1, q2⟩ := G.walk hr ht h
      exact ⟨d, q1, q2.mono mono⟩
    · obtain ⟨d1, q1, q2⟩ := G.walk hr hx h1
      obtain ⟨d2, q3, q4⟩ := G.walk hy ht h2
      have w := (q2.mono mono).app (Walk.cons (List.mem_append_right E (List.mem_singleton.mpr rfl)) (q4.mono mono))
      exact ⟨_, by omega, w⟩
/-- a fact that is kept already -/
theorem kept_good {n : Nat} {E : List Edge} {B : Mat} (G : Good n E B) {x y : Nat} {c : Int} (h : Le B x y c) : Good n (E ++ [(x, y, c)]) B where
  sized := G.sized
  tri := G.tri
  diag0 := G.diag0
  diag := G.diag
  edge := by
    intro r t k q
    rcases List.mem_append.mp q with q | q
    · exact G.edge q
    · have h' := List.mem_singleton.mp q
      cases h'
      exact h
  walk := by
    intro r t k hr ht q
    obtain ⟨d, q1, q2⟩ := G.walk hr ht q
    exact ⟨d, q1, q2.mono fun e he => List.mem_append_left _ he⟩
theorem Good.perm {n : Nat} {E F : List Edge} {B : Mat} (G : Good n E B) (h : ∀ e, e ∈ E ↔ e ∈ F) : Good n F B where
  sized := G.sized
  tri := G.tri
  diag0 := G.diag0
  diag := G.diag
  edge := fun q => G.edge ((h _).mpr q)
  walk := by
    intro r t k hr ht q
    obtain ⟨d, q1, q2⟩ := G.walk hr ht q
    exact ⟨d, q1, q2.mono fun e he => (h e).mp he⟩
end K01
end
section
set_option autoImplicit false
namespace K01
/-! cells stored -/
def setC (R : Mat) (a b : Nat) (v : Cell) : Mat := R.set a ((rowAt R a).set b v)
theorem setC_sized {n : Nat} {R : Mat} (h : Sized n R) {a : Nat} (ha : a < n) (b : Nat) (v : Cell) : Sized n (setC R a b v) := by
  refine ⟨by unfold setC; rw [List.length_set]; exact h.1, fun r hr => ?_⟩
  rcases List.mem_or_eq_of_mem_set hr with h1 | h1
  · exact h.2 _ h1
  · rw [h1, List.length_set]; exact h.rowAt ha
theorem setC_cell {n : Nat} {R : Mat} (h : Sized n R) {a b x y : Nat} {v : Cell} (ha : a < n) (hb : b < n) (hx : x < n) (hy : y < n) : cell (setC R a b v) x y = if x = a ∧ y = b then v else cell R x y := by
  have h1 : a < R.length := by rw [h.1]; exact ha
  unfold cell
  by_cases e : x = a
  · subst e
    have : rowAt (setC R x b v) x = (rowAt R x).set b v := by
      unfold setC
      exact rowAt_of (List.getElem?_set_self h1)
    rw [this]
    by_cases e2 : y = b
    · subst e2
      rw [if_pos ⟨rfl, rfl⟩, List.getElem?_set_self (by rw [h.rowAt hx]; exact hy)]
      rfl
    · rw [if_neg (fun q => e2 q.2), List.getElem?_set_ne (fun q => e2 q.symm)]
  · have : rowAt (setC R a b v) x = rowAt R x := by
      unfold setC
      show (((R.set a _)[x]?).getD []) = _
      rw [List.getElem?_set_ne (fun q => e q.symm)]
      rfl
    rw [this, if_neg (fun q => e q.1)]
/-- the cell takes the less of both -/
def lower (R : Mat) (a b : Nat) (s : Int) : Mat := match cell R a b with
  | none => setC R a b (some s)
  | some o => if s < o then setC R a b (some s) else R
theorem lower_sized {n : Nat} {R : Mat} (h : Sized n R) {a : Nat} (ha : a < n) (b : Nat) (s : Int) : Sized n (lower R a b s) := by
  unfold lower
  split
  · exact setC_sized h ha b _
  · split
    · exact setC_sized h ha b _
    · exact h
theorem lower_le {n : Nat} {R : Mat} (h : Sized n R) {a b x y : Nat} {s k : Int} (ha : a < n) (hb : b < n) (hx : x < n) (hy : y < n) :
    Le (lower R a b s) x y k ↔ Le R x y k ∨ (x = a ∧ y = b ∧ s ≤ k) := by
  unfold Le
  unfold lower
  cases q : cell R a b with
  | none =>
    show LeC (cell (setC R a b (some s)) x y) k ↔ _
    rw [setC_cell h ha hb hx hy]
    by_cases e : x = a ∧ y = b
    · rw [if_pos e, e.1, e.2, q]
      unfold LeC
      simp
    · rw [if_neg e]
      constructor
      · exact .inl
      · rintro (h | h)
        · exact h
        · exact absurd ⟨h.1, h.2.1⟩ e
  | some o =>
    show LeC (cell (if s < o then setC R a b (some s) else R) x y) k ↔ _
    by_cases l : s < o
    · rw [if_pos l, setC_cell h ha hb hx hy]
      by_cases e : x = a ∧ y = b
      · rw [if_pos e, e.1, e.2, q]
        unfold LeC
        simp
        omega
      · rw [if_neg e]
        constructor
        · exact .inl
        · rintro (h | h)
          · exact h
          · exact absurd ⟨h.1, h.2.1⟩ e
    · rw [if_neg l]
      constructor
      · exact .inl
      · rintro (h | h)
        · exact h
        · rw [h.1, h.2.1, q]
          exact .some (by omega)

/-! the first rows and the facts -/
def row0 (n : Nat) : Mat := (List.range n).map fun ax => (List.range n).map fun b => if ax = 0 ∨ ax = b then some 0 else none
theorem row0_sized (n : Nat) : Sized n (row0 n) := by
  refine ⟨by simp [row0], fun r hr => ?_⟩
  obtain ⟨i, _, rfl⟩ := List.mem_map.mp hr
  simp
theorem row0_le {n x y : Nat} {k : Int} (hx : x < n) (hy : y < n) : Le (row0 n) x y k ↔ (x = 0 ∨ x = y) ∧ 0 ≤ k := by
  have : cell (row0 n) x y = if x = 0 ∨ x = y then some 0 else none := by
    unfold cell rowAt row0
    simp [hx, hy]
  unfold Le LeC
  rw [this]
  constructor
  · rintro ⟨d, h1, h2⟩
    split at h1
    · rename_i e; cases h1; exact ⟨e, h2⟩
    · cases h1
  · rintro ⟨e, h⟩
    rw [if_pos e]; exact ⟨0, rfl, h⟩
def putE (R : Mat) (e : Edge) : Mat := lower R e.1 e.2.1 e.2.2
def start (n : Nat) (E : List Edge) : Mat := E.foldl putE (row0 n)

/-! one turn, and all -/
def relax (R : Mat) (m a b : Nat) : Mat := match cell R a m with
  | none => R
  | some p => match cell R m b with
    | none => R
    | some q => lower R a b (p + q)
theorem relax_sized {n : Nat} {R : Mat} (h : Sized n R) {a : Nat} (ha : a < n) (m b : Nat) : Sized n (relax R m a b) := by
  unfold relax
  split
  · exact h
  · split
    · exact h
    · exact lower_sized h ha b _
theorem relax_le {n : Nat} {R : Mat} (h : Sized n R) {m a b x y : Nat} {k : Int} (hm : m < n) (ha : a < n) (hb : b < n) (hx : x < n) (hy : y < n) :
    Le (relax R m a b) x y k ↔ Le R x y k ∨ (x = a ∧ y = b ∧ ∃ p q, Le R a m p ∧ Le R m b q ∧ p + q ≤ k) := by
  unfold relax
  cases e1 : cell R a m with
  | none =>
    show Le R x y k ↔ _
    constructor
    · exact .inl
    · rintro (h | ⟨_, _, p, q, ⟨d, h1, _⟩, _⟩)
      · exact h
      · rw [e1] at h1; cases h1
  | some p0 =>
    cases e2 : cell R m b with
    | none =>
      show Le R x y k ↔ _
      constructor
      · exact .inl
      · rintro (h | ⟨_, _, p, q, _, ⟨d, h1, _⟩, _⟩)
        · exact h
        · rw [e2] at h1; cases h1
    | some q0 =>
      show Le (lower R a b (p0 + q0)) x y k ↔ _
      rw [lower_le h ha hb hx hy]
      constructor
      · rintro (h | ⟨h1, h2, h3⟩)
        · exact .inl h
        · exact .inr ⟨h1, h2, p0, q0, by unfold Le; rw [e1]; exact .some (Int.le_refl _), by unfold Le; rw [e2]; exact .some (Int.le_refl _), h3⟩
      · rintro (h | ⟨h1, h2, p, q, ⟨d1, h3, h4⟩, ⟨d2, h5, h6⟩, h7⟩)
        · exact .inl h
        · rw [e1] at h3; cases h3
          rw [e2] at h5; cases h5
          exact .inr ⟨h1, h2, by omega⟩
def turnB (m a : Nat) (R : Mat) (b : Nat) : Mat := relax R m a b
def turnA (n m : Nat) (R : Mat) (a : Nat) : Mat := (List.range n).foldl (turnB m a) R
def turnM (n : Nat) (R : Mat) (m : Nat) : Mat := (List.range n).foldl (turnA n m) R
def fw (n : Nat) (R : Mat) : Mat := (List.range n).foldl (turnM n) R
def closedM (n : Nat) (E : List Edge) : Mat := fw n (start n E)
def below0 (R : Mat) (x : Nat) : Bool := match cell R x x with | none => false | some d => decide (d < 0)
def negs (n : Nat) (R : Mat) : List Nat := (List.range n).filter (below0 R)

theorem fold_ind {α β : Type} {f : β → α → β} (P : β → Prop) (l : List α) (b : β) (h0 : P b) (hs : ∀ b a, a ∈ l → P b → P (f b a)) : P (l.foldl f b) := by
  induction l generalizing b with
  | nil => exact h0
  | cons a l ih => exact ih (f b a) (hs b a (by simp) h0) fun b' a' ha' => hs b' a' (by simp [ha'])
/-- over range, with the count -/
theorem range_ind {β : Type} {f : β → Nat → β} (P : Nat → β → Prop) (n : Nat) (b : β) (h0 : P 0 b) (hs : ∀ i b, i < n → P i b → P (i + 1) (f b i)) : P n ((List.range n).foldl f b) := by
  have : ∀ k, k ≤ n → P k ((List.range k).foldl f b) := by
    intro k
    induction k with
    | zero => intro _; exact h0
    | succ k ih =>
      intro hk
      rw [List.range_succ, List.foldl_append]
      exact hs k _ (by omega) (ih (by omega))
  exact this n (Nat.le_refl n)

/-- what no step takes away: at or above a matrix with the triangle -/
def Above (n : Nat) (B R : Mat) : Prop := Sized n R ∧ ∀ {x y : Nat} {k : Int}, x < n → y < n → Le R x y k → Le B x y k
theorem relax_above {n : Nat} {E : List Edge} {B : Mat} (G : Good n E B) {R : Mat} (h : Above n B R) {m a b : Nat} (hm : m < n) (ha : a < n) (hb : b < n) : Above n B (relax R m a b) := by
  refine ⟨relax_sized h.1 ha m b, fun hx hy hk => ?_⟩
  rcases (relax_le h.1 hm ha hb hx hy).mp hk with q | ⟨rfl, rfl, p, q, h1, h2, h3⟩
  · exact h.2 hx hy q
  · exact (G.tri hx hy hm (h.2 hx hm h1) (h.2 hm hy h2)).mono h3
theorem start_above {n : Nat} {E : List Edge} {B : Mat} {Z : List Edge} (G : Good n Z B) (hZ : ∀ {y}, y < n → Le B 0 y 0) (R : InR n E) (hE : ∀ e ∈ E, e ∈ Z) : Above n B (start n E) := by
  unfold start
  refine fold_ind (Above n B) E _ ⟨row0_sized n, fun hx hy h => ?_⟩ fun M e he h => ?_
  · obtain ⟨q, h0⟩ := (row0_le hx hy).mp h
    rcases q with rfl | rfl
    · exact (hZ hy).mono h0
    · exact (G.diag0 hx).mono h0
  · have := R e he
    refine ⟨lower_sized h.1 this.1 _ _, fun {x y k} hx hy q0 => ?_⟩
    have q1 := (lower_le h.1 this.1 this.2 hx hy).mp q0
    clear q0
    rcases q1 with q | ⟨e1, e2, q⟩
    · exact h.2 hx hy q
    · rw [e1, e2]
      exact (G.edge (hE _ he)).mono q
theorem closed_above {n : Nat} {E : List Edge} {B : Mat} {Z : List Edge} (G : Good n Z B) (hZ : ∀ {y}, y < n → Le B 0 y 0) (R : InR n E) (hE : ∀ e ∈ E, e ∈ Z) : Above n B (closedM n E) := by
  unfold closedM fw
  refine fold_ind (Above n B) _ _ (start_above G hZ R hE) fun M m hm h => ?_
  refine fold_ind (Above n B) _ _ h fun M a ha h => ?_
  refine fold_ind (Above n B) _ _ h fun M b hb h => ?_
  exact relax_above G h (List.mem_range.mp hm) (List.mem_range.mp ha) (List.mem_range.mp hb)
/-- the law's closing tells no fault where a good matrix is -/
theorem negs_good {n : Nat} {E : List Edge} {B : Mat} {Z : List Edge} (G : Good n Z B) (hZ : ∀ {y}, y < n → Le B 0 y 0) (R : InR n E) (hE : ∀ e ∈ E, e ∈ Z) : negs n (closedM n E) = [] := by
  have A := closed_above G hZ R hE
  unfold negs
  rw [List.filter_eq_nil_iff]
  intro x hx
  have hx := List.mem_range.mp hx
  unfold below0
  cases q : cell (closedM n E) x x with
  | none => simp
  | some d =>
    have := G.diag hx (A.2 hx hx ⟨d, q, Int.le_refl _⟩)
    simp
    exact this

/-! the other way: a ring below 0 is seen -/
/-- R' has come from R -/
def Down (n : Nat) (R R' : Mat) : Prop := Sized n R' ∧ ∀ {x y : Nat} {k : Int}, x < n → y < n → Le R x y k → Le R' x y k
def NonNeg (n : Nat) (R : Mat) : Prop := ∀ {x : Nat} {k : Int}, x < n → Le R x x k → 0 ≤ k
theorem Down.refl {n : Nat} {R : Mat} (h : Sized n R) : Down n R R := ⟨h, fun _ _ q => q⟩
theorem Down.trans {n : Nat} {R S T : Mat} (h1 : Down n R S) (h2 : Down n S T) : Down n R T := ⟨h2.1, fun hx hy q => h2.2 hx hy (h1.2 hx hy q)⟩
theorem Down.nonneg {n : Nat} {R S : Mat} (h : Down n R S) (hN : NonNeg n S) : NonNeg n R := fun hx q => hN hx (h.2 hx hx q)
theorem relax_down {n : Nat} {R : Mat} (h : Sized n R) {m a b : Nat} (hm : m < n) (ha : a < n) (hb : b < n) : Down n R (relax R m a b) :=
  ⟨relax_sized h ha m b, fun hx hy q => (relax_le h hm ha hb hx hy).mpr (.inl q)⟩
/-- within mid m: the pairs that are done (P) have taken the way by m, the others stand as they stood -/
def Mid (n m : Nat) (R0 R : Mat) (P : Nat → Nat → Prop) : Prop := Down n R0 R ∧ (NonNeg n R → ∀ {x y : Nat} {k : Int}, x < n → y < n → (Le R x y k ↔ Le R0 x y k ∨ (P x y ∧ ∃ p q, Le R0 x m p ∧ Le R0 m y q ∧ p + q ≤ k)))
theorem mid_step {n m : Nat} {R0 R : Mat} {P : Nat → Nat → Prop} (h : Mid n m R0 R P) {a b : Nat} (hm : m < n) (ha : a < n) (hb : b < n) : Mid n m R0 (relax R m a b) (fun x y => P x y ∨ (x = a ∧ y = b)) := by
  have hs := h.1.1
  refine ⟨h.1.trans (relax_down hs hm ha hb), fun hN x y k hx hy => ?_⟩
  have hN' : NonNeg n R := (relax_down hs hm ha hb).nonneg hN
  have F := @h.2 hN'
  have hN0 : NonNeg n R0 := h.1.nonneg hN'
  have c1 : ∀ {z p}, z < n → (Le R z m p ↔ Le R0 z m p) := by
    intro z p hz
    rw [F hz hm]
    constructor
    · rintro (q | ⟨_, p1, q1, h1, h2, h3⟩)
      · exact q
      · exact h1.mono (by have := hN0 hm h2; omega)
    · exact .inl
  have c2 : ∀ {z p}, z < n → (Le R m z p ↔ Le R0 m z p) := by
    intro z p hz
    rw [F hm hz]
    constructor
    · rintro (q | ⟨_, p1, q1, h1, h2, h3⟩)
      · exact q
      · exact h2.mono (by have := hN0 hm h1; omega)
    · exact .inl
  rw [relax_le hs hm ha hb hx hy, F hx hy]
  constructor
  · rintro ((q | ⟨hp, q⟩) | ⟨rfl, rfl, p, q, h1, h2, h3⟩)
    · exact .inl q
    · exact .inr ⟨.inl hp, q⟩
    · exact .inr ⟨.inr ⟨rfl, rfl⟩, p, q, (c1 ha).mp h1, (c2 hb).mp h2, h3⟩
  · rintro (q | ⟨hp | ⟨rfl, rfl⟩, p, q, h1, h2, h3⟩)
    · exact .inl (.inl q)
    · exact .inl (.inr ⟨hp, p, q, h1, h2, h3⟩)
    · exact .inr ⟨rfl, rfl, p, q, (c1 ha).mpr h1, (c2 hb).mpr h2, h3⟩
theorem Mid.iff {n m : Nat} {R0 R : Mat} {P P' : Nat → Nat → Prop} (h : Mid n m R0 R P) (e : ∀ x y, x < n → y < n → (P x y ↔ P' x y)) : Mid n m R0 R P' := by
  refine ⟨h.1, fun hN x y k hx hy => ?_⟩
  rw [h.2 hN hx hy, e x y hx hy]
theorem mid_turnA {n m : Nat} {R0 R : Mat} {i : Nat} (h : Mid n m R0 R (fun x _ => x < i)) (hm : m < n) (hi : i < n) : Mid n m R0 (turnA n m R i) (fun x _ => x < i + 1) := by
  have := range_ind (f := turnB m i) (fun j S => Mid n m R0 S (fun x y => x < i ∨ (x = i ∧ y < j))) n R (h.iff fun x y _ _ => by omega) fun j S hj hS => (mid_step hS hm hi hj).iff fun x y _ _ => by omega
  exact this.iff fun x y _ hy => by omega
theorem mid_turnM {n m : Nat} {R : Mat} (h : Sized n R) (hm : m < n) : Mid n m R (turnM n R m) (fun _ _ => True) := by
  have := range_ind (f := turnA n m) (fun i S => Mid n m R S (fun x _ => x < i)) n R ⟨Down.refl h, fun _ x y k _ _ => by simp⟩ fun i S hi hS => mid_turnA hS hm hi
  exact this.iff fun x y hx _ => by simp [hx]
/-- the triangle over all mids below m -/
def Tri (n m : Nat) (R : Mat) : Prop := NonNeg n R → ∀ {x y z : Nat} {k l : Int}, x < n → y < n → z < m → Le R x z k → Le R z y l → Le R x y (k + l)
theorem tri_turnM {n m : Nat} {R : Mat} (h : Sized n R) (hm : m < n) (T : Tri n m R) : Tri n (m + 1) (turnM n R m) := by
  have M := mid_turnM h hm
  intro hN x y z k l hx hy hz h1 h2
  have hN0 : NonNeg n R := M.1.nonneg hN
  have hzn : z < n := by omega
  have F := @M.2 hN
  have T' := @T hN0
  rw [F hx hzn] at h1
  rw [F hzn hy] at h2
  rw [F hx hy]
  by_cases e : z = m
  · subst e
    have g1 : Le R x z k := by
      rcases h1 with q | ⟨_, p, q, a1, a2, a3⟩
      · exact q
      · exact a1.mono (by have := hN0 hm a2; omega)
    have g2 : Le R z y l := by
      rcases h2 with q | ⟨_, p, q, a1, a2, a3⟩
      · exact q
      · exact a2.mono (by have := hN0 hm a1; omega)
    exact .inr ⟨trivial, k, l, g1, g2, Int.le_refl _⟩
  · have hz' : z < m := by omega
    rcases h1 with h1 | ⟨_, p, q, a1, a2, a3⟩
    · rcases h2 with h2 | ⟨_, p', q', b1, b2, b3⟩
      · exact .inl (T' hx hy hz' h1 h2)
      · exact .inr ⟨trivial, k + p', q', T' hx hm hz' h1 b1, b2, by omega⟩
    · rcases h2 with h2 | ⟨_, p', q', b1, b2, b3⟩
      · exact .inr ⟨trivial, p, q + l, a1, T' hm hy hz' a2 h2, by omega⟩
      · have := hN0 hm (T' hm hm hz' a2 b1)
        exact .inr ⟨trivial, p, q', a1, b2, by omega⟩
theorem fw_tri {n : Nat} {R : Mat} (h : Sized n R) : Down n R (fw n R) ∧ Tri n n (fw n R) := by
  have := range_ind (f := turnM n) (fun m S => Down n R S ∧ Tri n m S) n R ⟨Down.refl h, fun _ x y z k l _ _ hz => absurd hz (Nat.not_lt_zero _)⟩ fun m S hm hS =>
    ⟨hS.1.trans (mid_turnM hS.1.1 hm).1, tri_turnM hS.1.1 hm hS.2⟩
  exact this
theorem start_le {n : Nat} {E : List Edge} (R : InR n E) : Sized n (start n E) ∧ (∀ {y}, y < n → Le (start n E) 0 y 0) ∧ (∀ {x}, x < n → Le (start n E) x x 0) ∧ ∀ e ∈ E, Le (start n E) e.1 e.2.1 e.2.2 := by
  unfold start
  have key : ∀ (F : List Edge) (M : Mat), InR n F → Sized n M → Down n M (F.foldl putE M) ∧ ∀ e ∈ F, Le (F.foldl putE M) e.1 e.2.1 e.2.2 := by
    intro F
    induction F with
    | nil => intro M _ hM; exact ⟨Down.refl hM, fun e he => nomatch he⟩
    | cons e F ih =>
      intro M hF hM
      have h1 := hF e (by simp)
      have hS : Sized n (putE M e) := lower_sized hM h1.1 _ _
      have hD : Down n M (putE M e) := ⟨hS, fun hx hy q => (lower_le hM h1.1 h1.2 hx hy).mpr (.inl q)⟩
      obtain ⟨d, g⟩ := ih (putE M e) (fun f hf => hF f (by simp [hf])) hS
      refine ⟨hD.trans d, fun f hf => ?_⟩
      rcases List.mem_cons.mp hf with rfl | hf
      · exact d.2 h1.1 h1.2 ((lower_le hM h1.1 h1.2 h1.1 h1.2).mpr (.inr ⟨rfl, rfl, Int.le_refl _⟩))
      · exact g f hf
  obtain ⟨d, g⟩ := key E (row0 n) R (row0_sized n)
  refine ⟨d.1, fun {y} hy => d.2 (by omega) hy ((row0_le (by omega) hy).mpr ⟨.inl rfl, Int.le_refl _⟩), fun {x} hx => d.2 hx hx ((row0_le hx hx).mpr ⟨.inr rfl, Int.le_refl _⟩), g⟩
/-- a ring of facts below 0: the law's closing tells it -/
theorem negs_ring {n : Nat} {E Z : List Edge} (R : InR n E) (RZ : InR n Z) (hZ : ∀ e ∈ Z, e ∈ E ∨ (e.1 = 0 ∧ e.2.2 = 0)) {x : Nat} {c : Int} (hx : x < n) (w : Walk Z x x c) (hc : c < 0) : negs n (closedM n E) ≠ [] := by
  intro hnil
  have hN : NonNeg n (closedM n E) := by
    intro y k hy ⟨d, q1, q2⟩
    have := List.filter_eq_nil_iff.mp hnil y (List.mem_range.mpr hy)
    unfold below0 at this
    rw [q1] at this
    simp at this
    omega
  obtain ⟨s1, s2, s3, s4⟩ := start_le R
  obtain ⟨D, T⟩ := fw_tri s1
  have T' := @T hN
  have key : ∀ {u v : Nat} {e : Int}, Walk Z u v e → u < n → v < n → Le (closedM n E) u v e := by
    intro u v e w
    induction w with
    | nil u => intro hu _; exact D.2 hu hu (s3 hu)
    | @cons u t v c d h w ih =>
      intro hu hv
      have ht : t < n := (RZ _ h).2
      refine T' hu hv ht (D.2 hu ht ?_) (ih ht hv)
      rcases hZ _ h with q | ⟨q1, q2⟩
      · exact s4 _ q
      · simp only at q1 q2
        subst q1 q2
        exact s2 ht
  have := hN hx (key w hx hx)
  omega
end K01
end
section
set_option maxRecDepth 100000
namespace K1
open PySem L2 K01
def top (i : Nat) : Stmt := PySem.Challenge.pw_unknowntakes_k02_sheets_told.main.body.getD i (.Pass ⟨0, 0, 0, 0⟩)
/-! ### heaps -/
theorem Same.tup {K : PySem.W.Frag} {H H' : Hp} {a : Addr} {xs : List V} (e : Same H H') (h : SqT K H a xs) : SqT K H' a xs := by
  rcases h with (h | ⟨o, h⟩) | h
  · exact .inl (.inl (e _ _ h))
  · exact .inl (.inr ⟨o, e _ _ h⟩)
  · exact .inr h
theorem Same.new {H : Hp} {p : Addr} {o : HO} (h : H p = none) : Same H (upd H p o) := fun b x e => by
  rw [upd_ne (ne_of_none e h)]
  exact e
theorem tup_at {K : PySem.W.Frag} {H : Hp} {p : Addr} {xs : List V} : SqT K (upd H p (.tup xs)) p xs := .inl (.inl upd_same)
/-! ### matrices on the heap -/
def cV : Cell → V
  | none => .non
  | some i => .int i
def RowAt (K : PySem.W.Frag) (H : Hp) (a : Addr) (r : List Cell) : Prop := SqT K H a (r.map cV)
def MatAt (K : PySem.W.Frag) (H : Hp) (a : Addr) (B : Mat) : Prop := ∃ as : List Addr, as.length = B.length ∧ SqT K H a (as.map V.ref) ∧ ∀ (i : Nat) (p : Addr) (r : List Cell), as[i]? = some p → B[i]? = some r → RowAt K H p r
theorem MatAt.same {K : PySem.W.Frag} {H H' : Hp} {a : Addr} {B : Mat} (e : Same H H') (h : MatAt K H a B) : MatAt K H' a B := by
  obtain ⟨as, h1, h2, h3⟩ := h
  exact ⟨as, h1, Same.tup e h2, fun i p r q1 q2 => Same.tup e (h3 i p r q1 q2)⟩
/-- the row of a matrix, on the heap -/
theorem MatAt.row {K : PySem.W.Frag} {H : Hp} {a : Addr} {B : Mat} {n x : Nat} (h : MatAt K H a B) (S : Sized n B) (hx : x < n) : ∃ (xs : List V) (p : Addr), SqT K H a xs ∧ xs[x]? = some (.ref p) ∧ RowAt K H p (rowAt B x) := by
  obtain ⟨as, h1, h2, h3⟩ := h
  obtain ⟨r, q1, q2⟩ := S.row hx
  have hl : x < as.length := by rw [h1, S.1]; exact hx
  refine ⟨_, as[x], h2, ?_, ?_⟩
  · rw [List.getElem?_map, List.getElem?_eq_getElem hl]; rfl
  · rw [rowAt_of q1]
    exact h3 x _ r (List.getElem?_eq_getElem hl) q1
theorem row_cell {n : Nat} {B : Mat} (S : Sized n B) {x y : Nat} (hx : x < n) (hy : y < n) : ((rowAt B x).map cV)[y]? = some (cV (cell B x y)) := by
  have h := S.rowAt hx
  rw [List.getElem?_map]
  unfold cell
  rw [List.getElem?_eq_getElem (by rw [h]; exact hy)]
  rfl
theorem get_map {α β : Type} {f : α → β} {l : List α} {i : Nat} {x : β} (h : (l.map f)[i]? = some x) : ∃ y, l[i]? = some y ∧ x = f y := by
  rw [List.getElem?_map] at h
  cases e : l[i]? with
  | none => rw [e] at h; cases h
  | some y => rw [e] at h; exact ⟨y, rfl, (Option.some.inj h).symm⟩
theorem take_snoc {α : Type} {l : List α} {i : Nat} {x : α} (h : l[i]? = some x) : l.take (i + 1) = l.take i ++ [x] := by
  rw [List.take_succ, h]
  rfl
theorem iteDT {c A B : Prop} [Decidable c] (hc : c) (h : A) : if decide c = true then A else B := by
  rw [decide_eq_true hc]
  exact iteT h
theorem iteDF {c A B : Prop} [Decidable c] (hc : ¬ c) (h : B) : if decide c = true then A else B := by
  rw [decide_eq_false hc]
  exact iteF h
theorem iteNF {c A B : Prop} [Decidable c] (hc : ¬ c) (h : A) : if (!decide c) = true then A else B := by
  rw [decide_eq_false hc]
  exact iteT h
theorem yes_ {σ : L2.St} {H : Hp} {A B : Hp → Prop} (h : A H) : tYes σ H fun b H3 => if b = true then A H3 else B H3 := by
  show if true = true then A H else B H
  exact iteT h
/-! ### built-in names that the text leaves as they are -/
structure Bi (mg : Str → Option Value) : Prop where
  isinstance : mg "isinstance" = none
  len : mg "len" = none
  range : mg "range" = none
  enumerate : mg "enumerate" = none
  zip : mg "zip" = none
  tuple : mg "tuple" = none
  list : mg "list" = none
  int : mg "int" = none
  str : mg "str" = none
  bool : mg "bool" = none
  abs : mg "abs" = none
  max : mg "max" = none
  min : mg "min" = none
  sum : mg "sum" = none
  super : mg "super" = none
section
variable {X : Cx}
/-- the name of a built-in class as a value -/
theorem pe_ty {x : Str} {pos : Pos} {n : String} (hg : Gl X x) (hm : X.mg x = none) (hv : bootBuiltins x = some (.type n)) (hn : x ≠ "__name__" := by decide) (hd : (x == ("__debug__" : Str)) = false := by decide) : PE X (.Name x pos) (tC (.ty n)) := pe_bltn hg hm hv rfl hn hd
end
def RowsAt (K : PySem.W.Frag) (H : Hp) (as : List Addr) (B : Mat) : Prop := as.length = B.length ∧ ∀ (i : Nat) (p : Addr) (r : List Cell), as[i]? = some p → B[i]? = some r → RowAt K H p r
theorem RowsAt.nil {K : PySem.W.Frag} {H : Hp} : RowsAt K H [] [] := ⟨rfl, fun i p r h => nomatch h⟩
theorem RowsAt.same {K : PySem.W.Frag} {H H' : Hp} {as : List Addr} {B : Mat} (e : Same H H') (h : RowsAt K H as B) : RowsAt K H' as B := ⟨h.1, fun i p r q1 q2 => Same.tup e (h.2 i p r q1 q2)⟩
theorem RowsAt.snoc {K : PySem.W.Frag} {H : Hp} {as : List Addr} {B : Mat} {p : Addr} {r : List Cell} (h : RowsAt K H as B) (hp : RowAt K H p r) : RowsAt K H (as ++ [p]) (B ++ [r]) := by
  refine ⟨by simp [h.1], fun i q s q1 q2 => ?_⟩
  by_cases e : i < as.length
  · rw [List.getElem?_append_left e] at q1
    rw [List.getElem?_append_left (by rw [← h.1]; exact e)] at q2
    exact h.2 i q s q1 q2
  · have e1 : i = as.length := by
      have := (List.getElem?_eq_some_iff.mp q1).1
      simp at this
      omega
    subst e1
    rw [List.getElem?_append_right (Nat.le_refl _), Nat.sub_self] at q1
    rw [h.1, List.getElem?_append_right (Nat.le_refl _), Nat.sub_self] at q2
    cases q1
    cases q2
    exact hp
theorem MatAt.of {K : PySem.W.Frag} {H : Hp} {a : Addr} {as : List Addr} {B : Mat} (h1 : SqT K H a (as.map V.ref)) (h : RowsAt K H as B) : MatAt K H a B := ⟨as, h.1, h1, h.2⟩
/-- all but the list at l stays -/
def But (l : Addr) (H H' : Hp) : Prop := ∀ b o, b ≠ l → H b = some o → H' b = some o
theorem RowsAt.but {K : PySem.W.Frag} {H H' : Hp} {l : Addr} {xs : List V} {as : List Addr} {B : Mat} (hl : H l = some (.lst xs)) (e : But l H H') (h : RowsAt K H as B) : RowsAt K H' as B := by
  refine ⟨h.1, fun i p r q1 q2 => ?_⟩
  rcases h.2 i p r q1 q2 with (q | ⟨o, q⟩) | q
  · exact .inl (.inl (e _ _ (fun z => by rw [z, hl] at q; cases q) q))
  · exact .inl (.inr ⟨o, e _ _ (fun z => by rw [z, hl] at q; cases q) q⟩)
  · exact .inr q
theorem But.set {l : Addr} {H : Hp} {o : HO} : But l H (upd H l o) := fun b x n e => by
  rw [upd_ne n]; exact e
theorem Same.set {H H' : Hp} {l : Addr} {o : HO} (h : Same H H') (hl : H l = none) : Same H (upd H' l o) := fun b x e => by
  rw [upd_ne (ne_of_none e hl)]; exact h _ _ e
theorem row_upd {K : PySem.W.Frag} {H : Hp} {l p : Addr} {xs ys zs : List V} (hl : H l = some (.lst xs)) (h : SqT K H p zs) : SqT K (upd H l (.lst ys)) p zs := by
  rcases h with (q | ⟨o, q⟩) | q
  · exact .inl (.inl (by rw [upd_ne (fun z => by rw [z, hl] at q; cases q)]; exact q))
  · exact .inl (.inr ⟨o, by rw [upd_ne (fun z => by rw [z, hl] at q; cases q)]; exact q⟩)
  · exact .inr q
theorem cut_take (xs : List V) (k : Nat) : cutV xs none (some (k : Int)) = xs.take k := by
  unfold cutV
  rw [HT.sIx_nat, HT.sIx_none, List.drop_zero, Nat.sub_zero]
  by_cases h : k ≤ xs.length
  · rw [Nat.min_eq_left h]
  · rw [Nat.min_eq_right (by omega), List.take_length, List.take_of_length_le (by omega)]
theorem cut_drop (xs : List V) (k : Nat) : cutV xs (some (k : Int)) none = xs.drop k := by
  unfold cutV
  rw [HT.sIx_nat, HT.sIx_none]
  by_cases h : k ≤ xs.length
  · rw [Nat.min_eq_left h, List.take_of_length_le (by rw [List.length_drop]; omega)]
  · rw [Nat.min_eq_right (by omega), List.drop_length, List.drop_of_length_le (by omega)]
    simp
/-- the first of n for which p holds -/
def first (p : Nat → Bool) : Nat → Option Nat
  | 0 => none
  | n + 1 => match first p n with
    | some i => some i
    | none => if p n = true then some n else none
theorem first_none {p : Nat → Bool} : ∀ {n : Nat}, (∀ j, j < n → p j = false) → first p n = none
  | 0, _ => rfl
  | n + 1, h => by
    unfold first
    rw [first_none fun j hj => h j (by omega), h n (by omega)]
    rfl
theorem first_some {p : Nat → Bool} {i : Nat} : ∀ {n : Nat}, i < n → (∀ j, j < i → p j = false) → p i = true → first p n = some i
  | 0, h, _, _ => absurd h (Nat.not_lt_zero _)
  | n + 1, h, h1, h2 => by
    unfold first
    by_cases e : i = n
    · subst e
      rw [first_none h1]
      simp [h2]
    · rw [first_some (by omega) h1 h2]
theorem first_inv {p : Nat → Bool} : ∀ {n : Nat}, (first p n = none → ∀ j, j < n → p j = false) ∧ ∀ i, first p n = some i → i < n ∧ p i = true ∧ ∀ j, j < i → p j = false
  | 0 => ⟨fun _ j h => absurd h (Nat.not_lt_zero _), fun i h => (nomatch h)⟩
  | n + 1 => by
    obtain ⟨h1, h2⟩ := first_inv (p := p) (n := n)
    unfold first
    cases e : first p n with
    | some i =>
      refine ⟨fun h => (nomatch h), fun i' h => ?_⟩
      cases h
      obtain ⟨a, b, c⟩ := h2 i e
      exact ⟨by omega, b, c⟩
    | none =>
      have h1' := h1 e
      by_cases q : p n = true
      · rw [if_pos q]
        refine ⟨fun h => (nomatch h), fun i h => ?_⟩
        cases h
        exact ⟨by omega, q, h1'⟩
      · rw [if_neg q]
        refine ⟨fun _ j hj => ?_, fun i h => (nomatch h)⟩
        by_cases e2 : j = n
        · rw [e2]; simpa using q
        · exact h1' j (by omega)
theorem first_congr {p q : Nat → Bool} : ∀ {n : Nat}, (∀ j, j < n → p j = q j) → first p n = first q n
  | 0, _ => rfl
  | n + 1, h => by
    unfold first
    rw [first_congr fun j hj => h j (by omega), h n (by omega)]
def oV : Option Nat → V
  | none => .non
  | some i => .int i
/-! ### flat values -/
inductive Flat : V → Prop
  | non : Flat .non
  | bl (b : Bool) : Flat (.bl b)
  | int (i : Int) : Flat (.int i)
  | str (z : Str) : Flat (.str z)
theorem Flat.v {v : V} (h : Flat v) : flatV v = true := by cases h <;> rfl
theorem strs_flat (ms : List Str) : (ms.map V.str).all flatV = true := by
  rw [List.all_eq_true]
  intro v hv
  obtain ⟨z, _, rfl⟩ := List.mem_map.mp hv
  rfl
theorem inV_str (z : Str) (ms : List Str) : inV (.str z) (ms.map V.str) = decide (z ∈ ms) := by
  unfold inV
  rw [List.any_map, Bool.eq_iff_iff, List.any_eq_true]
  simp only [decide_eq_true_eq, Function.comp]
  constructor
  · rintro ⟨u, hu, h⟩
    have : u = z := by simpa [eqV] using h
    rw [← this]; exact hu
  · intro h
    exact ⟨z, h, by simp [eqV]⟩
theorem inV_other {v : V} (hv : Flat v) (h : ∀ z, v ≠ .str z) (ms : List Str) : inV v (ms.map V.str) = false := by
  unfold inV
  rw [List.any_map, Bool.eq_false_iff]
  intro q
  obtain ⟨u, hu, e⟩ := List.any_eq_true.mp q
  cases hv with
  | str z => exact h z rfl
  | non => simp [eqV] at e
  | bl b => simp [eqV] at e
  | int i => simp [eqV] at e
def strsT (K : PySem.W.Frag) (H : Hp) (a : Addr) (ms : List Str) : Prop := SqT K H a (ms.map V.str)
/-- tuples on the heap, one by one -/
def TupsAt (H : Hp) (ps : List Addr) (xss : List (List V)) : Prop := ps.length = xss.length ∧ ∀ (i : Nat) (p : Addr) (xs : List V), ps[i]? = some p → xss[i]? = some xs → H p = some (.tup xs)
theorem TupsAt.nil {H : Hp} : TupsAt H [] [] := ⟨rfl, fun i p r h => nomatch h⟩
theorem TupsAt.same {H H' : Hp} {ps : List Addr} {xss : List (List V)} (e : Same H H') (h : TupsAt H ps xss) : TupsAt H' ps xss := ⟨h.1, fun i p r q1 q2 => e _ _ (h.2 i p r q1 q2)⟩
theorem TupsAt.get {H : Hp} {ps : List Addr} {xss : List (List V)} (h : TupsAt H ps xss) {i : Nat} {p : Addr} (hp : ps[i]? = some p) : ∃ xs, xss[i]? = some xs ∧ H p = some (.tup xs) := by
  have hi : i < xss.length := by rw [← h.1]; exact (List.getElem?_eq_some_iff.mp hp).1
  exact ⟨xss[i], List.getElem?_eq_getElem hi, h.2 i p _ hp (List.getElem?_eq_getElem hi)⟩
theorem TupsAt.app {H : Hp} {ps qs : List Addr} {xss yss : List (List V)} (h : TupsAt H ps xss) (g : TupsAt H qs yss) : TupsAt H (ps ++ qs) (xss ++ yss) := by
  refine ⟨by simp [h.1, g.1], fun i q s q1 q2 => ?_⟩
  by_cases e : i < ps.length
  · rw [List.getElem?_append_left e] at q1
    rw [List.getElem?_append_left (by rw [← h.1]; exact e)] at q2
    exact h.2 i q s q1 q2
  · rw [List.getElem?_append_right (by omega)] at q1
    rw [List.getElem?_append_right (by rw [← h.1]; omega), ← h.1] at q2
    exact g.2 _ q s q1 q2
theorem TupsAt.one {H : Hp} {p : Addr} {xs : List V} (h : H p = some (.tup xs)) : TupsAt H [p] [xs] := by
  refine ⟨rfl, fun i q s q1 q2 => ?_⟩
  cases i with
  | zero => cases q1; cases q2; exact h
  | succ i => exact nomatch q1
theorem TupsAt.snoc {H : Hp} {ps : List Addr} {xss : List (List V)} {p : Addr} {xs : List V} (h : TupsAt H ps xss) (hp : H p = some (.tup xs)) : TupsAt H (ps ++ [p]) (xss ++ [xs]) := h.app (.one hp)
theorem TupsAt.take {H : Hp} {ps : List Addr} {xss : List (List V)} (h : TupsAt H ps xss) (k : Nat) : TupsAt H (ps.take k) (xss.take k) := by
  refine ⟨by simp [h.1], fun i q s q1 q2 => ?_⟩
  rw [List.getElem?_take] at q1 q2
  split at q1
  · rename_i hi
    rw [if_pos hi] at q2
    exact h.2 i q s q1 q2
  · cases q1
theorem TupsAt.upd {H : Hp} {l : Addr} {xs ys : List V} {ps : List Addr} {xss : List (List V)} (hl : H l = some (.lst xs)) (h : TupsAt H ps xss) : TupsAt (upd H l (.lst ys)) ps xss :=
  ⟨h.1, fun i p r q1 q2 => by
    have := h.2 i p r q1 q2
    rw [upd_ne (fun z => by rw [z, hl] at this; cases this)]
    exact this⟩
/-- a tuple of tuples -/
def TTAt (K : PySem.W.Frag) (H : Hp) (a : Addr) (xss : List (List V)) : Prop := ∃ ps, SqT K H a (ps.map V.ref) ∧ TupsAt H ps xss
theorem TTAt.same {K : PySem.W.Frag} {H H' : Hp} {a : Addr} {xss : List (List V)} (e : Same H H') (h : TTAt K H a xss) : TTAt K H' a xss := by
  obtain ⟨ps, h1, h2⟩ := h
  exact ⟨ps, Same.tup e h1, h2.same e⟩
abbrev Fact := Str × Str × Int
def factV (f : Fact) : List V := [.str f.1, .str f.2.1, .int f.2.2]
end K1
end
section
set_option maxRecDepth 100000
set_option maxHeartbeats 4000000
namespace K1
open PySem L2 K01
section
variable {P : Program} {w : World} {K : PySem.W.Frag} {mg : Str → Option Value} {base : Heap}
abbrev sWhole : Stmt := top 19
def isWhole : V → Bool
  | .int _ => true
  | _ => false
def spWhole (K : PySem.W.Frag) : Sp := fun vs H Q _ => ∃ (v : V), vs = [v] ∧ Flat v ∧ Q (.bl (isWhole v)) H
theorem scWhole : FnScope ["x"] ["x"] (defScope sWhole) := ⟨rfl, rfl, rfl, by decide +kernel, rfl, by decide +kernel, by decide +kernel⟩
theorem ok_whole {f : Addr} {fd : FuncData} (F : Fun K "is_whole" "is_whole" sWhole f fd) (T : Bi mg) : FnOk P w K mg base CX0 1 f fd ["x"] (spWhole K) := by
  refine F.ok scWhole (fun vs H Q E h => ?_) (fun cdv A outer s H vs Q E hr h => ?_)
  · obtain ⟨_, rfl, _⟩ := h
    rfl
  · obtain ⟨v, rfl, hv, k⟩ := h
    refine ⟨_, pss_one (ps_ret (pe_and (pe_callB call_isi (by rfl) T.isinstance (by decide +kernel) (pa_cons (pv 0) (pa_cons (pe_ty (n := "int") (by rfl) T.int (by decide +kernel)) pa_nil)))
      (pe_one (pe_not (pe_callB call_isi (by rfl) T.isinstance (by decide +kernel) (pa_cons (pv 0) (pa_cons (pe_ty (n := "bool") (by rfl) T.bool (by decide +kernel)) pa_nil))))))), ?_⟩
    refine ⟨v, rfl, ?_⟩
    cases hv with
    | non => exact ⟨_, _, _, _, false, rfl, .ty _, .base .non, kit_ty (by decide +kernel), _, rfl, iteF k⟩
    | str z => exact ⟨_, _, _, _, false, rfl, .ty _, .base (.str _), kit_ty (by decide +kernel), _, rfl, iteF k⟩
    | int i => exact ⟨_, _, _, _, true, rfl, .ty _, .base (.int _), kit_ty (by decide +kernel), _, rfl, iteT ⟨_, rfl, _, _, _, _, false, rfl, .ty _, .base (.int _), kit_ty (by decide +kernel), _, rfl, k⟩⟩
    | bl b => exact ⟨_, _, _, _, true, rfl, .ty _, .base (.bl _), kit_ty (by decide +kernel), _, rfl, iteT ⟨_, rfl, _, _, _, _, true, rfl, .ty _, .base (.bl _), kit_ty (by decide +kernel), _, rfl, k⟩⟩
abbrev sName : Stmt := top 20
def nameOk (z : Str) : Bool := decide ((z.length : Int) ≤ 8) && (Txt.isascii z && Txt.isalpha z)
def spName (K : PySem.W.Frag) : Sp := fun vs H Q _ => ∃ (z : Str), vs = [.str z] ∧ z.length ≤ 1000 ∧ Q (.bl (nameOk z)) H
theorem scName : FnScope ["x"] ["x"] (defScope sName) := ⟨rfl, rfl, rfl, by decide +kernel, rfl, by decide +kernel, by decide +kernel⟩
theorem ok_name {f : Addr} {fd : FuncData} (F : Fun K "is_name" "is_name" sName f fd) (T : Bi mg) : FnOk P w K mg base CX0 1 f fd ["x"] (spName K) := by
  refine F.ok scName (fun vs H Q E h => ?_) (fun cdv A outer s H vs Q E hr h => ?_)
  · obtain ⟨_, rfl, _⟩ := h
    rfl
  · obtain ⟨z, rfl, hz, k⟩ := h
    refine ⟨_, pss_one (ps_ret (pe_and (pe_callB call_isi (by rfl) T.isinstance (by decide +kernel) (pa_cons (pv 0) (pa_cons (pe_ty (n := "str") (by rfl) T.str (by decide +kernel)) pa_nil)))
      (pe_and (pe_cmpR op_le (pe_callB call_len_str (by rfl) T.len (by decide +kernel) (pa_cons (pv 0) pa_nil)) pe_int (nomark _))
      (pe_and (pe_m0 PySem.F.slot_str_isascii PySem.F.type_str_isascii mt_isascii (pv 0)) (pe_one (pe_m0 PySem.F.slot_str_isalpha PySem.F.type_str_isalpha mt_isalpha (pv 0))))))), ?_⟩
    refine ⟨_, rfl, _, _, _, _, true, rfl, .ty _, .base (.str _), kit_ty (by decide +kernel), _, rfl, iteT ?_⟩
    refine ⟨_, rfl, _, rfl, Nat.le_of_lt (small1000 hz), _, _, rfl, rfl, _, rfl, ?_⟩
    unfold nameOk at k
    by_cases q : ((z.length : Nat) : Int) ≤ 8
    · rw [decide_eq_true q] at k ⊢
      refine iteT ⟨_, rfl, ⟨_, rfl⟩, _, rfl, rfl, trivial, _, rfl, ?_⟩
      cases e : Txt.isascii z with
      | false => rw [e] at k; exact iteF k
      | true =>
        rw [e] at k
        exact iteT ⟨_, rfl, ⟨_, rfl⟩, _, rfl, rfl, trivial, k⟩
    · rw [decide_eq_false q] at k ⊢
      exact iteF k
abbrev sNames : Stmt := top 29
def spNames (K : PySem.W.Frag) : Sp := fun vs H Q _ => ∃ (a : Addr) (ms : List Str), vs = [.ref a] ∧ strsT K H a ms ∧ ms.length ≤ 1000 ∧ ∀ H' p, Same H H' → strsT K H' p ("zero" :: ms) → Q (.ref p) H'
theorem scNames : FnScope ["marks"] ["marks"] (defScope sNames) := ⟨rfl, rfl, rfl, by decide +kernel, rfl, by decide +kernel, by decide +kernel⟩
theorem ok_names {f : Addr} {fd : FuncData} (F : Fun K "names_of" "names_of" sNames f fd) : FnOk P w K mg base CX0 1 f fd ["marks"] (spNames K) := by
  refine F.ok scNames (fun vs H Q E h => ?_) (fun cdv A outer s H vs Q E hr h => ?_)
  · obtain ⟨_, _, rfl, _⟩ := h
    rfl
  · obtain ⟨a, ms, rfl, hm, hl, k⟩ := h
    refine ⟨_, pss_one (ps_ret (pe_op op_catT (pe_tup (pa_cons pe_str pa_nil)) (pv 0))), ?_⟩
    refine ⟨by show 1 ≤ sizeLine; decide, fun t ht => ?_⟩
    have s1 : Same H (upd H t (.tup [.str "zero"])) := Same.new ht
    refine ⟨_, rfl, _, _, _, _, rfl, rfl, tup_at, Same.tup s1 hm, ?_⟩
    refine ⟨by simp, ?_, fun e => ?_, fun e p hp => ?_⟩
    · rw [List.length_map]
      exact Nat.le_of_lt (Nat.lt_of_le_of_lt (show 1 + ms.length ≤ 1001 by omega) (by decide))
    · refine k _ t s1 ?_
      have : ms = [] := by simpa using e
      rw [this]
      exact tup_at
    · exact k _ p (s1.trans (Same.new hp)) tup_at
end
end K1
end
section
set_option maxRecDepth 100000
namespace PySem
set_option maxHeartbeats 1000000 in
theorem k1_newE {v : Value} {o : Obj} {H : Heap → Prop} (B : Begins v o H) :
    Meets (Builtin.«enumerate.__new__» ⟨[.type "enumerate", v], []⟩) (fun _ R s => H s.heap ∧
      R (.ok (.ret (.ref (s.heap.push o).objs.size))) { s with heap := (s.heap.push o).push { cls := .type "enumerate", data := .fields #[.none, .bool false, .ref s.heap.objs.size, rawInt 0, .none, .none] } }) :=
  .of_wp fun prog w A R s h => by
    obtain ⟨hp, gs, dr, tk, os⟩ := s
    obtain ⟨h1, h⟩ := h
    have sub := sub_enumerate
    have q1 : ∀ {A' : Around} {E : Value → Shared → Prop} {Q : Value → Shared → Prop}, Q (.ref hp.objs.size) ⟨hp.push o, gs, dr, tk, os⟩ → wpAny (model prog w) A' (pyIter v) Q E ⟨hp, gs, dr, tk, os⟩ :=
      fun q => B.iter prog w _ _ ⟨hp, gs, dr, tk, os⟩ _ h1 q
    wp_walk using q1
    refine wpAny_stack_any fun st => wpAny_pure ?_
    split
    · rename_i c _ _ _ _ _
      cases (c == Value.type "enumerate") <;> (wp_walk using q1; exact ⟨_, rfl, h⟩)
    · wp_walk using q1
      exact ⟨_, rfl, h⟩
theorem k1_enumCall {prog : Program} {w : World} {A : Around} {E : Value → Shared → Prop} {s : Shared} {v : Value} {o : Obj} {H : Heap → Prop} {Q : Value → Shared → Prop} (B : Begins v o H) (h1 : H s.heap)
    (h : ∀ h', IsEnum h' (s.heap.objs.size + 1) s.heap.objs.size 0 .none → h'.get? s.heap.objs.size = some o → h'.objs.size = s.heap.objs.size + 2 →
      (∀ b o, s.heap.get? b = some o → h'.get? b = some o) → Q (.ref (s.heap.objs.size + 1)) { s with heap := h' }) :
    wpAny (model prog w) A (call (.type "enumerate") [v]) Q E s := by
  refine callType_new F.called_enumerate (by decide) (F.typeCall_enumerate_1 _) (F.newCall_enumerate_1 _) (fun obj => F.args_object_init_2 obj _) F.entry_enumerate_new (k1_newE B) ⟨h1, ?_⟩
  have hz : (s.heap.push o).objs.size = s.heap.objs.size + 1 := Heap.size_push ..
  show _ ∧ _
  rw [hz]
  have he : IsEnum ((s.heap.push o).push { cls := .type "enumerate", data := .fields #[.none, .bool false, .ref s.heap.objs.size, rawInt 0, .none, .none] }) (s.heap.objs.size + 1) s.heap.objs.size 0 .none := by
    have z := Heap.get?_push_size (s.heap.push o) (o := { cls := .type "enumerate", data := .fields #[.none, .bool false, .ref s.heap.objs.size, rawInt 0, .none, .none] }) rfl
    rw [hz] at z
    exact z
  refine ⟨⟨_, he, rfl⟩, h _ he (Heap.get?_push_of_some _ (Heap.get?_push_size _ B.free)) (by rw [Heap.size_push, hz]) fun b o x => Heap.get?_push_of_some _ (Heap.get?_push_of_some _ x)⟩
end PySem
namespace K1
open PySem PySem.Spec PyProof.Rows L2
/-! ### enumerate(tuple) -/
def IteT (K : PySem.W.Frag) (a : Addr) : It :=
  ⟨fun i H => ∃ (xs : List V) (x : V), SqT K H a xs ∧ xs[i]? = some x, fun i H v H' => ∃ T x, v = .ref T ∧ H T = none ∧ H' = upd H T (.tup [.int (i : Nat), x]) ∧ ∀ xs, SqT K H a xs → xs[i]? = some x, fun i H => ∃ xs : List V, SqT K H a xs ∧ xs.length = i⟩
theorem turn_enumT {P : Program} {w : World} {K : PySem.W.Frag} {elts : List Expr} {kk : Nat} {tpos : Pos} (a e it : Addr) (hia : a ≠ it) (hea : a ≠ e) :
    Turn P w K (.Tuple elts kk tpos) (IteT K a) [e, it] e (fun i h => (∃ old, IsEnum h e it ((i : Nat) : Int) old) ∧ h.IsTupleIter it a i ∧ e ≠ it) where
  mem := by simp
  obj := fun i h st b hb => by
    obtain ⟨⟨old, he⟩, ⟨o, ho, hc, hd⟩, _⟩ := st
    have e' : b = e ∨ b = it := by simpa using hb
    rcases e' with z | z
    · rw [z]; exact ⟨_, he, fun v q => nomatch q⟩
    · rw [z]; exact ⟨o, ho, fun v q => by rw [hd] at q; cases q⟩
  keep := fun i h h' st k => let ⟨⟨old, he⟩, hi, hne⟩ := st; ⟨⟨old, k e (by simp) _ he⟩, hi.at fun o q => k it (by simp) o q, hne⟩
  item := by
    intro X hP hw hK hc i pins s σ H E I hf st hg
    subst hP hw hK
    obtain ⟨⟨old, he⟩, hit, hne⟩ := st
    obtain ⟨xs, x, hq, hx⟩ := hg
    obtain ⟨its, rv, p, hz⟩ := I.tuple hq
    obtain ⟨u, hu, ru⟩ := rv.get hx
    have hel : e < s.heap.objs.size := Heap.lt_size he
    have hil : it < s.heap.objs.size := by obtain ⟨_, q, _⟩ := hit; exact Heap.lt_size q
    have D := Draws.tuple (prog := X.prog) (w := X.w) (A := X.A.in1) (I.ok.hd hc) it a hia its.toArray
    have hi : i < its.toArray.size := by
      have := (List.getElem?_eq_some_iff.mp hu).1
      simpa using this
    refine wpAny_pyNext_enum_itemD D he ⟨hit, p⟩ hi hne (by simp [hne, Ne.symm hea]) fun u' h' tk hP ho hst hT hsz hk => ?_
    have eu : u' = u := by
      have hP' : its[i]? = some u' := by simpa using hP
      rw [hu] at hP'
      exact (Option.some.inj hP').symm
    subst eu
    obtain ⟨hit', _⟩ := hst
    refine ⟨_, rfl, wpAny_letOwnedTupleGo_enum (s := { s with heap := h', toks := tk + 1 }) ho fun h'' he' sb => ?_⟩
    have hT2 : h''.get? s.heap.objs.size = some { cls := .type "tuple", data := .seq #[.int i tk, u'] } := (sb.2 _ (Nat.ne_of_gt hel)).trans hT
    have new : ObjOk X.prog X.w (upd H s.heap.objs.size (.tup [.int (i : Nat), x])) h'' s.heap.objs.size (.tup [.int (i : Nat), x]) :=
      ⟨by show 2 ≤ sizeLine; decide, [.int i tk, u'], .cons ⟨_, rfl⟩ (.cons ru .nil), ⟨_, hT2, rfl, _, rfl⟩⟩
    have I1 : L2.Inv X pins σ (upd H s.heap.objs.size (.tup [.int (i : Nat), x])) { s with heap := h'', toks := tk + 1 } :=
      I.turnedNew (ch := [e, it]) (fun b ob hb q => (sb.2 b (fun z => hb (by simp [z]))).trans (hk b ob (fun z => hb (by simp [z])) (fun z => hb (by simp [z])) q)) hf (Nat.le_refl _) new
    refine ⟨.ref s.heap.objs.size, _, I1, rfl, ⟨_, x, rfl, I.hok.fresh (Nat.le_refl _), rfl, fun ys hy => by rw [I.tuple_inj hy hq]; exact hx⟩, ⟨⟨u', ?_⟩, hit'.at fun o q => (sb.2 it (Ne.symm hne)).trans q, hne⟩, fun b hb => ?_⟩
    · have e1 : ((i + 1 : Nat) : Int) = (i : Int) + 1 := by omega
      rw [e1]; exact he'
    · have hb' : b < s.heap.objs.size := by
        have e' : b = e ∨ b = it := by simpa using hb
        rcases e' with z | z
        · rw [z]; exact hel
        · rw [z]; exact hil
      rw [upd_ne (Nat.ne_of_lt hb')]
      exact (hf b hb).1
  done := by
    intro X hP hw hK hc i pins s σ H E I hf st hg
    subst hP hw hK
    obtain ⟨⟨old, he⟩, hit, hne⟩ := st
    obtain ⟨xs, hq, hx⟩ := hg
    obtain ⟨its, rv, p, hz⟩ := I.tuple hq
    obtain ⟨f0, f1, f2, f3, f4, f5⟩ := hf it (by simp)
    have hl := rv.length
    have D := Draws.tuple (prog := X.prog) (w := X.w) (A := X.A.in1) (I.ok.hd hc) it a hia its.toArray
    have hi : i = its.toArray.size := by simp; omega
    subst hi
    exact wpAny_pyNext_enum_endD D he ⟨hit, p⟩ fun h' eb => ⟨rfl, I.turned (t' := s.toks) (fun b o hb q => eb b o hb q) f0 f1 f3 f4 f5⟩
  self := fun A i s Q E st h => let ⟨⟨_, he⟩, _⟩ := st; wpAny_pyIter_enum he h
def iEnumT (K : PySem.W.Frag) (ta : TA) : TI := fun σ H R => ta σ H fun vs H1 => ∃ a xs, vs = [.ref a] ∧ SqT K H1 a xs ∧ R (IteT K a) H1
theorem pi_enumT {X : Cx} {e : Expr} {ta : TA} {p pos tpos : Pos} {elts : List Expr} {kk : Nat} (hg : Gl X "enumerate") (hm : X.mg "enumerate" = none) (ha : PA X [e] ta) (hs : starEach [e] X.env = [(false, eval e X.env)] := by rfl) :
    PI X (.Tuple elts kk tpos) (.Call (.Name "enumerate" p) [e] [] pos) (iEnumT X.K ta) := by
  refine ⟨fun pins s σ H R I h => ?_⟩
  refine PyProof.Rows.Call_ (ld_blt I hg hm boot_enumerate (PyProof.Rows.callWith_type1 (thn (ha.run pos pins s σ H _ I h) fun us s1 ⟨vs, H1, I1, r1, q1⟩ => ?_) hs rfl))
  obtain ⟨a, xs, ex, hq, q⟩ := q1
  subst ex
  cases r1 with
  | cons r rr =>
    cases rr
    cases r
    obtain ⟨its, rv, p', hz⟩ := I1.tuple hq
    have p'' : s1.heap.IsTuple a its.toArray := p'
    obtain ⟨o1, ho1, _⟩ := id p''
    have low : a < s1.heap.objs.size := Heap.lt_size ho1
    refine k1_enumCall (begins_tuple a its.toArray) p'' fun h' he hI hsz hk => wpAny_pyIter_enum he ?_
    have I2 : L2.Inv X pins σ H1 { s1 with heap := h' } := I1.kept (t' := s1.toks) hk
    refine ⟨s1.heap.objs.size + 1, [s1.heap.objs.size + 1, s1.heap.objs.size], _, _, H1, rfl, I2, turn_enumT a (s1.heap.objs.size + 1) s1.heap.objs.size (Nat.ne_of_lt low) (Nat.ne_of_lt (Nat.lt_succ_of_lt low)), ⟨⟨.none, he⟩, ⟨_, hI, rfl, rfl⟩, Nat.succ_ne_self _⟩, fun b hb => ?_, q⟩
    have e' : b = s1.heap.objs.size + 1 ∨ b = s1.heap.objs.size := by simpa using hb
    have hle : s1.heap.objs.size ≤ b := by
      rcases e' with z | z
      · rw [z]; exact Nat.le_add_right _ _
      · rw [z]; exact Nat.le_refl _
    exact I1.fpOk hle (I1.hok.fresh hle)
theorem walk_enumT {K : PySem.W.Frag} {a : Addr} {xs : List V} : Walk (IteT K a) xs.length (fun H => SqT K H a xs) (YPair (fun i => some (.int (i : Nat))) (fun i => xs[i]?)) := by
  refine ⟨fun i _ hi q => ⟨xs, xs[i], q, by simp [hi]⟩, fun _ q => ⟨xs, q, rfl⟩, fun i H v H' _ q y => ?_⟩
  obtain ⟨T, x, h1, h2, h3, h4⟩ := y
  exact ⟨T, .int (i : Nat), x, h1, h2, h3, rfl, h4 xs q⟩
theorem walk_zipT {K : PySem.W.Frag} {a b : Addr} {xs ys : List V} (hl : xs.length = ys.length) : Walk (RZ.ItzT K a b) xs.length (fun H => SqT K H a xs ∧ SqT K H b ys) (YPair (fun i => xs[i]?) (fun i => ys[i]?)) := by
  refine ⟨fun i _ hi q => ?_, fun _ q => ⟨xs, ys, q.1, q.2, by omega⟩, fun i H v H' _ q y => ?_⟩
  · have h2 : i < ys.length := by omega
    exact ⟨xs, ys, xs[i], ys[i], q.1, q.2, by simp [hi], by simp [h2]⟩
  · obtain ⟨T, x, z, h1, h2, h3, h4, h5⟩ := y
    exact ⟨T, x, z, h1, h2, h3, h4 xs q.1, h5 ys q.2⟩
theorem dc_it {J : It} {n : Nat} {G : Hp → Prop} {Y : Nat → Hp → V → Hp → Prop} (w : Walk J n G Y) {g : TG} {tt : TT} {tk tv : TE} {vs : List Nat} {σ : L2.St} {H1 : Hp} {D : Addr} {Qd : Hp → Prop} (Pv : Nat → Hp → Prop) (h0 : Pv 0 (upd H1 D (.dK []))) (hG : ∀ i H, i ≤ n → Pv i H → G H)
    (hs : ∀ i x H H', i < n → Pv i H → Y i H x H' → g x (wipe σ vs) H' fun σ2 H2 => wipe σ2 vs = wipe σ vs ∧ tt σ2 H2 fun b H3 =>
      if b = true then tk σ2 H3 fun y H4 => tv σ2 H4 fun z H5 => ∃ kvs k, y = kV k ∧ H5 D = some (.dK kvs) ∧ kvs.length < sizeLine ∧ Pv (i + 1) (upd H5 D (.dK (putK kvs k z))) else Pv (i + 1) H3) (hd : ∀ H, Pv n H → Qd H) :
    ∃ W : Nat → Nat → Hp → Prop, (∃ m, W 0 m (upd H1 D (.dK []))) ∧ ∀ i m H, W i m H →
      (J.stop i H ∧ Qd H) ∨ (J.go i H ∧ ∃ Nx : Hp → Prop, (∀ H', Nx H' → ∃ m', m' < m ∧ W (i + 1) m' H') ∧ ∀ x H', J.yld i H x H' → g x (wipe σ vs) H' fun σ2 H2 => wipe σ2 vs = wipe σ vs ∧ tt σ2 H2 fun b H3 =>
        if b = true then tk σ2 H3 fun y H4 => tv σ2 H4 fun z H5 => ∃ kvs k, y = kV k ∧ H5 D = some (.dK kvs) ∧ kvs.length < sizeLine ∧ Nx (upd H5 D (.dK (putK kvs k z))) else Nx H3) := by
  refine ⟨fun i m H => m = n - i ∧ i ≤ n ∧ Pv i H, ⟨n, by simp, Nat.zero_le _, h0⟩, ?_⟩
  rintro i m H ⟨rfl, hi, p⟩
  have q := hG i H hi p
  by_cases hlt : i < n
  · exact .inr ⟨w.goes i H hlt q, Pv (i + 1), fun H' p' => ⟨n - (i + 1), by omega, rfl, hlt, p'⟩, fun x H' y => hs i x H H' hlt p (w.yields i H x H' hlt q y)⟩
  · have e : i = n := by omega
    subst e
    exact .inl ⟨w.stops H q, hd H p⟩
theorem valV_put {κ : Type} [DecidableEq κ] (kvs : List (κ × V)) (k : κ) (v : V) (k' : κ) : valV (putK kvs k v) k' = if k' = k then some v else valV kvs k' := by
  unfold putK
  split
  · rename_i h
    induction kvs with
    | nil => simp at h
    | cons p r ih =>
      by_cases e : p.1 = k
      · by_cases e2 : k' = k
        · rw [if_pos e2, List.map_cons, if_pos e]
          exact valV_pos (by rw [e2]; exact e)
        · have n1 : ¬ p.1 = k' := fun q => e2 (by rw [← q, e])
          rw [if_neg e2, List.map_cons, if_pos e, valV_neg (p := (p.1, v)) n1, valV_neg n1]
          by_cases h2 : (r.any fun kv => decide (kv.1 = k)) = true
          · have := ih h2
            rw [if_neg e2] at this
            exact this
          · have hm : r.map (fun kv => if kv.1 = k then (kv.1, v) else kv) = r := by
              have : ∀ x ∈ r, (fun kv : κ × V => if kv.1 = k then (kv.1, v) else kv) x = id x := by
                intro x hx
                have : ¬ x.1 = k := fun q => h2 (List.any_eq_true.mpr ⟨x, hx, by simpa using q⟩)
                simp [this]
              rw [List.map_congr_left this, List.map_id]
            rw [hm]
      · have h2 : (r.any fun kv => decide (kv.1 = k)) = true := by
          rw [List.any_cons] at h
          simpa [e] using h
        rw [List.map_cons, if_neg e]
        by_cases e3 : p.1 = k'
        · rw [valV_pos e3, valV_pos e3, if_neg (fun q => e (by rw [e3, q]))]
        · rw [valV_neg e3, valV_neg e3]
          exact ih h2
  · rename_i h
    induction kvs with
    | nil =>
      by_cases e2 : k' = k
      · rw [if_pos e2]; exact valV_pos e2.symm
      · rw [if_neg e2]; exact valV_neg (fun q => e2 q.symm)
    | cons p r ih =>
      have h1 : ¬ p.1 = k := fun q => h (by rw [List.any_cons]; simp [q])
      have h2 : ¬ (r.any fun kv => decide (kv.1 = k)) = true := fun q => h (by rw [List.any_cons, q]; simp)
      have := ih h2
      by_cases e3 : p.1 = k'
      · rw [List.cons_append, valV_pos e3, valV_pos e3, if_neg (fun q => h1 (by rw [e3, q]))]
      · rw [List.cons_append, valV_neg e3, valV_neg e3]
        exact this
theorem putK_length {κ : Type} [DecidableEq κ] (kvs : List (κ × V)) (k : κ) (v : V) : (putK kvs k v).length ≤ kvs.length + 1 := by
  unfold putK
  split
  · rw [List.length_map]; omega
  · rw [List.length_append]; exact Nat.le_refl _
end K1
end
section
set_option maxRecDepth 100000
set_option maxHeartbeats 4000000
namespace K1
open PySem L2 K01
section
variable {P : Program} {w : World} {K : PySem.W.Frag} {mg : Str → Option Value} {base : Heap}
abbrev sBadMark : Stmt := top 31
def markAt (ms : List Str) (i : Nat) : Str := (ms[i]?).getD ""
def badMark (ms : List Str) (i : Nat) : Bool := !(nameOk (markAt ms i)) || (decide (markAt ms i = "zero") || decide (markAt ms i ∈ ms.take i))
def Short (ms : List Str) : Prop := ms.length ≤ 1000 ∧ ∀ z ∈ ms, z.length ≤ 1000
def spBadMark (K : PySem.W.Frag) : Sp := fun vs H Q _ => ∃ (a : Addr) (ms : List Str), vs = [.ref a] ∧ strsT K H a ms ∧ Short ms ∧ ∀ H', Same H H' → Q (oV (first (badMark ms) ms.length)) H'
theorem scBadMark : FnScope ["marks", "at", "mark"] ["marks"] (defScope sBadMark) := ⟨rfl, rfl, rfl, by decide +kernel, rfl, by decide +kernel, by decide +kernel⟩
theorem ok_badMark {f fN : Addr} {fd fdN : FuncData} (F : Fun K "first_bad_mark" "first_bad_mark" sBadMark f fd) (T : Bi mg) (FN : Fun K "is_name" "is_name" sName fN fdN) (bN : Binds K fdN ["x"] []) (mN : mg "is_name" = some (.ref fN)) : FnOk P w K mg base CX0 2 f fd ["marks"] (spBadMark K) := by
  have GN : FnOk P w K mg base CX0 1 fN fdN ["x"] (spName K) := ok_name FN T
  refine F.ok scBadMark (fun vs H Q E h => ?_) (fun cdv A outer s H vs Q E hr h => ?_)
  · obtain ⟨_, _, rfl, _⟩ := h
    rfl
  · obtain ⟨a, ms, rfl, hm, hs, k⟩ := h
    refine ⟨_, pss_cons (ps_for PassesOwn.never rfl (pi_enumT (by rfl) T.enumerate (pa_cons (pv 0) pa_nil)) (pg_tup rfl (pgs_cons (pg_name (i := 1) scBadMark.nd rfl (.inl rfl)) (pgs_cons (pg_name (i := 2) scBadMark.nd rfl (.inl rfl)) pgs_nil)))
        (pss_one (ps_if (PW.pt (pw_or (pt_not (pt_val (pe_call GN hr rfl mN FN.kp bN .nil pass0 (pa_cons (pv 2) pa_nil)))) (pw_or (pt_cmpR op_eq (pv 2) pe_str (nomark _)) (pw_or1 (pt_cmpR op_in_seq (pv 2) (pe_slice sl_tupA (pv 0) po_none (po_some (pv 1))) (by rfl))))))
          (pss_one (ps_ret (pv 1))) pss_nil)))
      (pss_one (ps_ret pe_non)), ?_⟩
    refine ⟨_, rfl, a, _, rfl, hm, for_it (walk_enumT (K := K) (a := a)) (fun i σ H' => ∃ v1 v2 : Option V, σ = [some (.ref a), v1, v2] ∧ Same H H' ∧ ∀ j, j < i → badMark ms j = false)
      ⟨none, none, rfl, Same.refl H, fun j h => absurd h (Nat.not_lt_zero _)⟩ (fun i σ H' _ ⟨_, _, _, q, _⟩ => Same.tup q hm) ?_ ?_⟩
    · rintro i v σ H1 H2 hi ⟨v1, v2, rfl, q1, q2⟩ ⟨p, x, y, rfl, hp, rfl, hx, hy⟩
      obtain ⟨z, hz, rfl⟩ := get_map hy
      cases hx
      have hi' : i < ms.length := by rw [List.length_map] at hi; exact hi
      have s2 : Same H (upd H1 p (.tup [.int (i : Nat), .str z])) := q1.trans (Same.new hp)
      have hmk : markAt ms i = z := by unfold markAt; rw [hz]; rfl
      have hb : badMark ms i = (!(nameOk z) || (decide (z = "zero") || decide (z ∈ ms.take i))) := by unfold badMark; rw [hmk]
      have yes : ∀ H', Same H H' → badMark ms i = true → Q (.int (i : Nat)) H' := fun H' s3 e => by
        have := k H' s3
        rw [first_some hi' q2 e] at this
        exact this
      refine ⟨p, _, rfl, tup_at, rfl, _, _, rfl, _, _, rfl, rfl, _, rfl, ?_⟩
      refine ⟨z, rfl, hs.2 z (List.mem_of_getElem? hz), _, rfl, ?_⟩
      cases e1 : nameOk z with
      | false => exact iteT (iteT ⟨_, rfl, yes _ s2 (by rw [hb, e1]; rfl)⟩)
      | true =>
        refine iteF ⟨_, rfl, rfl, _, rfl, ?_⟩
        by_cases e2 : z = "zero"
        · exact iteDT (by rw [e2]) (iteT ⟨_, rfl, yes _ s2 (by rw [hb, e1, decide_eq_true e2]; rfl)⟩)
        · refine iteDF (fun q => e2 (V.str.inj q)) ?_
          have fin : ∀ H3 u, Same H H3 → SqT K H3 u ((ms.take i).map V.str) → ∃ p xs, V.ref u = .ref p ∧ (SqL K H3 p xs ∨ SqT K H3 p xs) ∧ flatV (.str z) = true ∧ xs.all flatV = true ∧ ∃ k', V.bl (if false = true then !inV (.str z) xs else inV (.str z) xs) = .bl k' ∧
              if k' = true then (∃ v, ([some (.ref a), some (.int (i : Nat)), some (.str z)] : List (Option V))[1]? = some (some v) ∧ Q v H3) else (∃ v1 v2 : Option V, ([some (.ref a), some (.int (i : Nat)), some (.str z)] : List (Option V)) = [some (.ref a), v1, v2] ∧ Same H H3 ∧ ∀ j, j < i + 1 → badMark ms j = false) := by
            intro H3 u s3 hu
            refine ⟨u, _, rfl, .inr hu, rfl, strs_flat _, _, rfl, ?_⟩
            rw [if_neg Bool.false_ne_true, inV_str]
            by_cases e3 : z ∈ ms.take i
            · exact iteDT e3 ⟨_, rfl, yes _ s3 (by rw [hb, decide_eq_true e3]; simp)⟩
            · refine iteDF e3 ⟨_, _, rfl, s3, fun j hj => ?_⟩
              by_cases e4 : j = i
              · rw [e4, hb, e1, decide_eq_false e2, decide_eq_false e3]; rfl
              · exact q2 j (by omega)
          refine ⟨_, rfl, _, rfl, _, rfl, _, rfl, a, _, rfl, Same.tup s2 hm, fun w => ?_, fun w u hu => ?_⟩
          · rw [HT.sIx_nat, HT.sIx_none, List.length_map] at w
            omega
          · exact fin _ u (s2.trans (Same.new hu)) (by rw [cut_take, ← List.map_take]; exact tup_at)
    · rintro σ H1 ⟨v1, v2, rfl, q1, q2⟩
      have := k H1 q1
      rw [first_none (fun j hj => q2 j (by rw [List.length_map]; exact hj))] at this
      exact this
end
end K1
end
section
set_option maxRecDepth 100000
set_option maxHeartbeats 4000000
namespace K1
open PySem L2 K01
section
variable {P : Program} {w : World} {K : PySem.W.Frag} {mg : Str → Option Value} {base : Heap}
abbrev sBadTake : Stmt := top 32
def badTake (ms ts : List Str) (i : Nat) : Bool := !decide (markAt ts i ∈ ms) || decide (markAt ts i ∈ ts.take i)
def spBadTake (K : PySem.W.Frag) : Sp := fun vs H Q _ => ∃ (a b : Addr) (ms ts : List Str), vs = [.ref a, .ref b] ∧ strsT K H a ms ∧ strsT K H b ts ∧ ∀ H', Same H H' → Q (oV (first (badTake ms ts) ts.length)) H'
theorem scBadTake : FnScope ["marks", "takes", "at", "take"] ["marks", "takes"] (defScope sBadTake) := ⟨rfl, rfl, rfl, by decide +kernel, rfl, by decide +kernel, by decide +kernel⟩
theorem ok_badTake {f : Addr} {fd : FuncData} (F : Fun K "first_bad_take" "first_bad_take" sBadTake f fd) (T : Bi mg) : FnOk P w K mg base CX0 1 f fd ["marks", "takes"] (spBadTake K) := by
  refine F.ok scBadTake (fun vs H Q E h => ?_) (fun cdv A outer s H vs Q E hr h => ?_)
  · obtain ⟨_, _, _, _, rfl, _⟩ := h
    rfl
  · obtain ⟨a, b, ms, ts, rfl, hm, ht, k⟩ := h
    refine ⟨_, pss_cons (ps_for PassesOwn.never rfl (pi_enumT (by rfl) T.enumerate (pa_cons (pv 1) pa_nil)) (pg_tup rfl (pgs_cons (pg_name (i := 2) scBadTake.nd rfl (.inl rfl)) (pgs_cons (pg_name (i := 3) scBadTake.nd rfl (.inl rfl)) pgs_nil)))
        (pss_one (ps_if (PW.pt (pw_or (pt_cmpR op_notIn_seq (pv 3) (pv 0) (by rfl)) (pw_or1 (pt_cmpR op_in_seq (pv 3) (pe_slice sl_tupA (pv 1) po_none (po_some (pv 2))) (by rfl)))))
          (pss_one (ps_ret (pv 2))) pss_nil)))
      (pss_one (ps_ret pe_non)), ?_⟩
    refine ⟨_, rfl, b, _, rfl, ht, for_it (walk_enumT (K := K) (a := b)) (fun i σ H' => ∃ v1 v2 : Option V, σ = [some (.ref a), some (.ref b), v1, v2] ∧ Same H H' ∧ ∀ j, j < i → badTake ms ts j = false)
      ⟨none, none, rfl, Same.refl H, fun j h => absurd h (Nat.not_lt_zero _)⟩ (fun i σ H' _ ⟨_, _, _, q, _⟩ => Same.tup q ht) ?_ ?_⟩
    · rintro i v σ H1 H2 hi ⟨v1, v2, rfl, q1, q2⟩ ⟨p, x, y, rfl, hp, rfl, hx, hy⟩
      obtain ⟨z, hz, rfl⟩ := get_map hy
      cases hx
      have hi' : i < ts.length := by rw [List.length_map] at hi; exact hi
      have s2 : Same H (upd H1 p (.tup [.int (i : Nat), .str z])) := q1.trans (Same.new hp)
      have hmk : markAt ts i = z := by unfold markAt; rw [hz]; rfl
      have hb : badTake ms ts i = (!decide (z ∈ ms) || decide (z ∈ ts.take i)) := by unfold badTake; rw [hmk]
      have yes : ∀ H', Same H H' → badTake ms ts i = true → Q (.int (i : Nat)) H' := fun H' s3 e => by
        have := k H' s3
        rw [first_some hi' q2 e] at this
        exact this
      refine ⟨p, _, rfl, tup_at, rfl, _, _, rfl, _, _, rfl, rfl, _, rfl, _, rfl, a, _, rfl, .inr (Same.tup s2 hm), rfl, strs_flat _, _, rfl, ?_⟩
      rw [if_pos rfl, inV_str]
      by_cases e1 : z ∈ ms
      · refine iteNS e1 ?_
        have fin : ∀ H3 u, Same H H3 → SqT K H3 u ((ts.take i).map V.str) → ∃ p xs, V.ref u = .ref p ∧ (SqL K H3 p xs ∨ SqT K H3 p xs) ∧ flatV (.str z) = true ∧ xs.all flatV = true ∧ ∃ k', V.bl (if false = true then !inV (.str z) xs else inV (.str z) xs) = .bl k' ∧
              if k' = true then (∃ v, ([some (.ref a), some (.ref b), some (.int (i : Nat)), some (.str z)] : List (Option V))[2]? = some (some v) ∧ Q v H3) else (∃ v1 v2 : Option V, ([some (.ref a), some (.ref b), some (.int (i : Nat)), some (.str z)] : List (Option V)) = [some (.ref a), some (.ref b), v1, v2] ∧ Same H H3 ∧ ∀ j, j < i + 1 → badTake ms ts j = false) := by
            intro H3 u s3 hu
            refine ⟨u, _, rfl, .inr hu, rfl, strs_flat _, _, rfl, ?_⟩
            rw [if_neg Bool.false_ne_true, inV_str]
            by_cases e3 : z ∈ ts.take i
            · exact iteDT e3 ⟨_, rfl, yes _ s3 (by rw [hb, decide_eq_true e3]; simp)⟩
            · refine iteDF e3 ⟨_, _, rfl, s3, fun j hj => ?_⟩
              by_cases e4 : j = i
              · rw [e4, hb, decide_eq_true e1, decide_eq_false e3]; rfl
              · exact q2 j (by omega)
        refine ⟨_, rfl, _, rfl, _, rfl, _, rfl, b, _, rfl, Same.tup s2 ht, fun w => ?_, fun w u hu => ?_⟩
        · rw [HT.sIx_nat, HT.sIx_none, List.length_map] at w
          omega
        · exact fin _ u (s2.trans (Same.new hu)) (by rw [cut_take, ← List.map_take]; exact tup_at)
      · exact iteNF e1 (iteT ⟨_, rfl, yes _ s2 (by rw [hb, decide_eq_false e1]; rfl)⟩)
    · rintro σ H1 ⟨v1, v2, rfl, q1, q2⟩
      have := k H1 q1
      rw [first_none (fun j hj => q2 j (by rw [List.length_map]; exact hj))] at this
      exact this
end
end K1
end
section
set_option maxRecDepth 100000
set_option maxHeartbeats 4000000
namespace K1
open PySem L2 K01
section
variable {P : Program} {w : World} {K : PySem.W.Frag} {mg : Str → Option Value} {base : Heap}
abbrev sFact : Stmt := top 33
def factOk (ns : List Str) : List V → Bool
  | [x, y, c] => inV x (ns.map V.str) && (inV y (ns.map V.str) && (!decide (x = y) && isWhole c))
  | _ => false
def spFact (K : PySem.W.Frag) : Sp := fun vs H Q _ => ∃ (p a : Addr) (xs : List V) (ns : List Str), vs = [.ref p, .ref a] ∧ H p = some (.tup xs) ∧ (∀ x ∈ xs, Flat x) ∧ strsT K H a ns ∧ Q (.bl (factOk ns xs)) H
theorem scFact : FnScope ["fact", "names", "x", "y", "number"] ["fact", "names"] (defScope sFact) := ⟨rfl, rfl, rfl, by decide +kernel, rfl, by decide +kernel, by decide +kernel⟩
theorem ok_fact {f fW : Addr} {fd fdW : FuncData} (F : Fun K "is_fact" "is_fact" sFact f fd) (T : Bi mg) (FW : Fun K "is_whole" "is_whole" sWhole fW fdW) (bW : Binds K fdW ["x"] []) (mW : mg "is_whole" = some (.ref fW)) : FnOk P w K mg base CX0 2 f fd ["fact", "names"] (spFact K) := by
  have GW : FnOk P w K mg base CX0 1 fW fdW ["x"] (spWhole K) := ok_whole FW T
  refine F.ok scFact (fun vs H Q E h => ?_) (fun cdv A outer s H vs Q E hr h => ?_)
  · obtain ⟨_, _, _, _, rfl, _⟩ := h
    rfl
  · obtain ⟨p, a, xs, ns, rfl, hp, hf, hn, k⟩ := h
    refine ⟨_, pss_cons (ps_if (PW.pt (pw_or (pt_not (pt_val (pe_callB call_isi (by rfl) T.isinstance (by decide +kernel) (pa_cons (pv 0) (pa_cons (pe_ty (n := "tuple") (by rfl) T.tuple (by decide +kernel)) pa_nil)))))
          (pw_or1 (pt_cmpR op_ne (pe_callB call_len_seq (by rfl) T.len PySem.boot_len (pa_cons (pv 0) pa_nil)) pe_int (nomark _))))) (pss_one (ps_ret pe_bl)) pss_nil)
      (pss_cons (ps_asg (pv 0) (pg_tup rfl (pgs_cons (pg_name (i := 2) scFact.nd rfl (.inl rfl)) (pgs_cons (pg_name (i := 3) scFact.nd rfl (.inl rfl)) (pgs_cons (pg_name (i := 4) scFact.nd rfl (.inl rfl)) pgs_nil)))))
      (pss_one (ps_ret (pe_and (pe_cmpR op_in_seq (pv 2) (pv 1) (by rfl)) (pe_and (pe_cmpR op_in_seq (pv 3) (pv 1) (by rfl)) (pe_and (pe_cmpR op_ne (pv 2) (pv 3) (nomark _)) (pe_one (pe_call GW hr rfl mW FW.kp bW .nil pass0 (pa_cons (pv 4) pa_nil))))))))), ?_⟩
    have hS : SqT K H p xs := .inl (.inl hp)
    refine ⟨_, rfl, _, _, _, _, true, rfl, .ty _, .base (.tup hp), kit_ty (by decide +kernel), _, rfl, iteF ?_⟩
    refine ⟨_, rfl, p, _, rfl, .inr hS, rfl, _, rfl, ?_⟩
    by_cases e : xs.length = 3
    · obtain ⟨x, y, c, rfl⟩ : ∃ x y c, xs = [x, y, c] := by
        match xs, e with
        | [x, y, c], _ => exact ⟨x, y, c, rfl⟩
      refine iteNS (by rfl) ?_
      refine ⟨_, rfl, p, _, rfl, hS, rfl, _, _, rfl, _, _, rfl, _, _, rfl, rfl, ?_⟩
      have fx : Flat x := hf x (by simp)
      have fy : Flat y := hf y (by simp)
      have fc : Flat c := hf c (by simp)
      refine ⟨_, rfl, _, rfl, a, _, rfl, .inr hn, fx.v, strs_flat _, _, rfl, ?_⟩
      rw [if_neg Bool.false_ne_true]
      have k : Q (.bl (inV x (ns.map V.str) && (inV y (ns.map V.str) && (!decide (x = y) && isWhole c)))) H := k
      cases e1 : inV x (ns.map V.str) with
      | false => rw [e1] at k; exact iteF k
      | true =>
        rw [e1] at k
        refine iteT ⟨_, rfl, _, rfl, a, _, rfl, .inr hn, fy.v, strs_flat _, _, rfl, ?_⟩
        rw [if_neg Bool.false_ne_true]
        cases e2 : inV y (ns.map V.str) with
        | false => rw [e2] at k; exact iteF k
        | true =>
          rw [e2] at k
          have sx : ∃ z, x = .str z := by
            by_cases q : ∃ z, x = .str z
            · exact q
            · rw [inV_other fx (fun z e => q ⟨z, e⟩)] at e1; cases e1
          have sy : ∃ z, y = .str z := by
            by_cases q : ∃ z, y = .str z
            · exact q
            · rw [inV_other fy (fun z e => q ⟨z, e⟩)] at e2; cases e2
          obtain ⟨x, rfl⟩ := sx
          obtain ⟨y, rfl⟩ := sy
          refine iteT ⟨_, rfl, _, rfl, rfl, _, rfl, ?_⟩
          by_cases e3 : V.str x = V.str y
          · rw [decide_eq_true e3] at k ⊢
            exact iteF k
          · rw [decide_eq_false e3] at k ⊢
            exact iteT ⟨_, rfl, c, rfl, fc, k⟩
    · have h3 : ¬ V.int (xs.length : Nat) = V.int 3 := fun q => e (by have := V.int.inj q; omega)
      have : factOk ns xs = false := by
        unfold factOk
        split
        · exact absurd rfl e
        · rfl
      rw [this] at k
      first
        | exact iteNF h3 (iteT k)
        | exact iteNF h3 k
end
end K1
end
section
set_option maxRecDepth 100000
set_option maxHeartbeats 4000000
namespace K1
open PySem L2 K01
section
variable {P : Program} {w : World} {K : PySem.W.Frag} {mg : Str → Option Value} {base : Heap}
abbrev sBadFact : Stmt := top 34
def badFact (ms : List Str) (fs : List (List V)) (i : Nat) : Bool := !factOk ("zero" :: ms) ((fs[i]?).getD [])
def FlatF (fs : List (List V)) : Prop := ∀ xs ∈ fs, ∀ x ∈ xs, Flat x
def spBadFact (K : PySem.W.Frag) : Sp := fun vs H Q _ => ∃ (a b : Addr) (ms : List Str) (fs : List (List V)), vs = [.ref a, .ref b] ∧ strsT K H a ms ∧ ms.length ≤ 1000 ∧ TTAt K H b fs ∧ FlatF fs ∧ ∀ H', Same H H' → Q (oV (first (badFact ms fs) fs.length)) H'
theorem scBadFact : FnScope ["marks", "facts", "names", "at", "fact"] ["marks", "facts"] (defScope sBadFact) := ⟨rfl, rfl, rfl, by decide +kernel, rfl, by decide +kernel, by decide +kernel⟩
theorem ok_badFact {f fN fF fW : Addr} {fd fdN fdF fdW : FuncData} (F : Fun K "first_bad_fact" "first_bad_fact" sBadFact f fd) (T : Bi mg) (FN : Fun K "names_of" "names_of" sNames fN fdN) (bN : Binds K fdN ["marks"] []) (mN : mg "names_of" = some (.ref fN))
    (FF : Fun K "is_fact" "is_fact" sFact fF fdF) (bF : Binds K fdF ["fact", "names"] []) (mF : mg "is_fact" = some (.ref fF)) (FW : Fun K "is_whole" "is_whole" sWhole fW fdW) (bW : Binds K fdW ["x"] []) (mW : mg "is_whole" = some (.ref fW)) :
    FnOk P w K mg base CX0 3 f fd ["marks", "facts"] (spBadFact K) := by
  have GN : FnOk P w K mg base CX0 1 fN fdN ["marks"] (spNames K) := ok_names FN
  have GF : FnOk P w K mg base CX0 2 fF fdF ["fact", "names"] (spFact K) := ok_fact FF T FW bW mW
  refine F.ok scBadFact (fun vs H Q E h => ?_) (fun cdv A outer s H vs Q E hr h => ?_)
  · obtain ⟨_, _, _, _, rfl, _⟩ := h
    rfl
  · obtain ⟨a, b, ms, fs, rfl, hm, hl, ⟨ps, ht, hT⟩, hf, k⟩ := h
    refine ⟨_, pss_cons (ps_set (i := 2) scBadFact.nd rfl (.inl rfl) (pe_call GN (hr.mono (by decide)) rfl mN FN.kp bN .nil pass0 (pa_cons (pv 0) pa_nil)))
      (pss_cons (ps_for PassesOwn.never rfl (pi_enumT (by rfl) T.enumerate (pa_cons (pv 1) pa_nil)) (pg_tup rfl (pgs_cons (pg_name (i := 3) scBadFact.nd rfl (.inl rfl)) (pgs_cons (pg_name (i := 4) scBadFact.nd rfl (.inl rfl)) pgs_nil)))
        (pss_one (ps_if (pt_not (pt_val (pe_call GF hr rfl mF FF.kp bF .nil pass0 (pa_cons (pv 4) (pa_cons (pv 2) pa_nil)))))
          (pss_one (ps_ret (pv 3))) pss_nil)))
      (pss_one (ps_ret pe_non))), ?_⟩
    refine ⟨_, rfl, a, ms, rfl, hm, hl, fun H0 nm s0 hnm => ?_⟩
    refine ⟨_, rfl, b, _, rfl, Same.tup s0 ht, for_it (walk_enumT (K := K) (a := b)) (fun i σ H' => ∃ v1 v2 : Option V, σ = [some (.ref a), some (.ref b), some (.ref nm), v1, v2] ∧ Same H0 H' ∧ ∀ j, j < i → badFact ms fs j = false)
      ⟨none, none, rfl, Same.refl H0, fun j h => absurd h (Nat.not_lt_zero _)⟩ (fun i σ H' _ ⟨_, _, _, q, _⟩ => Same.tup (s0.trans q) ht) ?_ ?_⟩
    · rintro i v σ H1 H2 hi ⟨v1, v2, rfl, q1, q2⟩ ⟨p, x, y, rfl, hp, rfl, hx, hy⟩
      obtain ⟨pf, hpf, rfl⟩ := get_map hy
      obtain ⟨xs, hxs, hH⟩ := hT.get hpf
      cases hx
      have hi' : i < fs.length := (List.getElem?_eq_some_iff.mp hxs).1
      have s2 : Same H (upd H1 p (.tup [.int (i : Nat), .ref pf])) := (s0.trans q1).trans (Same.new hp)
      have hb : badFact ms fs i = !factOk ("zero" :: ms) xs := by unfold badFact; rw [hxs]; rfl
      refine ⟨p, _, rfl, tup_at, rfl, _, _, rfl, _, _, rfl, rfl, _, rfl, _, rfl, pf, nm, xs, _, rfl, s2 _ _ hH, hf xs (List.mem_of_getElem? hxs), Same.tup (q1.trans (Same.new hp)) hnm, _, rfl, ?_⟩
      cases e : factOk ("zero" :: ms) xs with
      | false =>
        refine iteT ⟨_, rfl, ?_⟩
        have := k _ s2
        rw [first_some hi' q2 (by rw [hb, e]; rfl)] at this
        exact this
      | true =>
        refine iteF ⟨_, _, rfl, q1.trans (Same.new hp), fun j hj => ?_⟩
        by_cases e4 : j = i
        · rw [e4, hb, e]; rfl
        · exact q2 j (by omega)
    · rintro σ H1 ⟨v1, v2, rfl, q1, q2⟩
      have := k H1 (s0.trans q1)
      rw [first_none (fun j hj => q2 j (by rw [List.length_map, hT.1]; exact hj))] at this
      exact this
end
end K1
end
section
set_option maxRecDepth 100000
set_option maxHeartbeats 4000000
namespace K1
open PySem L2 K01
section
variable {P : Program} {w : World} {K : PySem.W.Frag} {mg : Str → Option Value} {base : Heap}
abbrev sSpots : Stmt := top 30
abbrev nodes (ms : List Str) : List Str := "zero" :: ms
/-- a dict from the names to what f says of their places -/
def DictOf (H : Hp) (d : Addr) (ns : List Str) (f : Nat → V) : Prop := ∃ kvs, H d = some (.dK kvs) ∧ kvs.length ≤ ns.length ∧ ∀ (i : Nat) (z : Str), ns[i]? = some z → valV kvs (Sum.inr z) = some (f i)
theorem DictOf.same {H H' : Hp} {d : Addr} {ns : List Str} {f : Nat → V} (e : Same H H') (h : DictOf H d ns f) : DictOf H' d ns f := by
  obtain ⟨kvs, h1, h2⟩ := h
  exact ⟨kvs, e _ _ h1, h2⟩
theorem nodup_get {ns : List Str} (hN : ns.Nodup) {i j : Nat} {z : Str} (h1 : ns[i]? = some z) (h2 : ns[j]? = some z) : i = j := nd_ix hN h1 h2
def spSpots (K : PySem.W.Frag) : Sp := fun vs H Q _ => ∃ (a : Addr) (ms : List Str), vs = [.ref a] ∧ strsT K H a ms ∧ ms.length ≤ 900 ∧ (nodes ms).Nodup ∧ ∀ H' d, Same H H' → DictOf H' d (nodes ms) (fun i => .int (i : Nat)) → Q (.ref d) H'
theorem scSpots : FnScope ["marks", "spot", "name"] ["marks"] (defScope sSpots) := ⟨rfl, rfl, rfl, by decide +kernel, rfl, by decide +kernel, by decide +kernel⟩
theorem ok_spots {f fN : Addr} {fd fdN : FuncData} (F : Fun K "spots_of" "spots_of" sSpots f fd) (T : Bi mg) (FN : Fun K "names_of" "names_of" sNames fN fdN) (bN : Binds K fdN ["marks"] []) (mN : mg "names_of" = some (.ref fN)) : FnOk P w K mg base CX0 2 f fd ["marks"] (spSpots K) := by
  have GN : FnOk P w K mg base CX0 1 fN fdN ["marks"] (spNames K) := ok_names FN
  refine F.ok scSpots (fun vs H Q E h => ?_) (fun cdv A outer s H vs Q E hr h => ?_)
  · obtain ⟨_, _, rfl, _⟩ := h
    rfl
  · obtain ⟨a, ms, rfl, hm, hl, hN, k⟩ := h
    refine ⟨_, pss_one (ps_ret (pe_dc (own := [("spot", 1), ("name", 2)]) (g := gTup K 2 (gCons (gName 1) (gCons (gName 2) gNil))) rfl scSpots.nd (pi_enumT (by rfl) T.enumerate (pa_cons (pe_call GN hr rfl mN FN.kp bN .nil pass0 (pa_cons (pv 0) pa_nil)) pa_nil))
      (blkOk_by (N := ["marks", "spot", "name"]) (sc := defScope sSpots) (by decide +kernel))
      (fun _ _ _ _ _ => pg_tup rfl (pgs_cons (pg_name (i := 1) scSpots.nd rfl (.inl rfl)) (pgs_cons (pg_name (i := 2) scSpots.nd rfl (.inl rfl)) pgs_nil)))
      (fun _ _ _ _ _ => pts_nil) (fun _ _ _ _ _ => pv 2) (fun _ _ _ _ _ => pv 1))), ?_⟩
    refine ⟨_, rfl, a, ms, rfl, hm, by omega, fun H0 nm s0 hnm => ⟨nm, _, rfl, hnm, fun D hD => ?_⟩⟩
    refine dc_it (walk_enumT (K := K) (a := nm)) (fun i H' => Same H0 H' ∧ ∃ kvs, H' D = some (.dK kvs) ∧ kvs.length ≤ i ∧ ∀ (j : Nat) (z : Str), j < i → (nodes ms)[j]? = some z → valV kvs (Sum.inr z) = some (.int (j : Nat))) ?_ (fun i H' _ q => Same.tup q.1 hnm) ?_ ?_
    · exact ⟨Same.new hD, [], upd_same, Nat.le_refl _, fun j z h => absurd h (Nat.not_lt_zero _)⟩
    · rintro i v H1 H2 hi ⟨q1, kvs, q2, q3, q4⟩ ⟨p, x, y, rfl, hp, rfl, hx, hy⟩
      obtain ⟨z, hz, rfl⟩ := get_map hy
      cases hx
      have nD : p ≠ D := fun e => by rw [e, q2] at hp; cases hp
      refine ⟨p, _, rfl, tup_at, rfl, _, _, rfl, _, _, rfl, rfl, rfl, yes_ ⟨_, rfl, _, rfl, kvs, Sum.inr z, rfl, by rw [upd_ne nD.symm]; exact q2, ?_, Same.set (q1.trans (Same.new hp)) hD, _, upd_same, ?_, ?_⟩⟩
      · rw [List.length_map, List.length_cons] at hi
        exact small1000 (by omega)
      · exact Nat.le_trans (putK_length _ _ _) (by omega)
      · intro j u hj hu
        rw [valV_put]
        by_cases e : j = i
        · subst e
          rw [hz] at hu
          cases hu
          rw [if_pos rfl]
        · rw [if_neg (fun q => e (nodup_get hN hu (by rw [Sum.inr.inj q]; exact hz))), q4 j u (by omega) hu]
    · rintro H1 ⟨q1, kvs, q2, q3, q4⟩
      rw [List.length_map] at q3 q4
      refine k H1 D (s0.trans q1) ⟨kvs, q2, q3, fun j z h => q4 j z (List.getElem?_eq_some_iff.mp h).1 h⟩
end
end K1
end
section
set_option maxRecDepth 100000
set_option maxHeartbeats 4000000
namespace K1
open PySem L2 K01
theorem DictOf.get {H : Hp} {d : Addr} {ns : List Str} {f : Nat → V} (h : DictOf H d ns f) {i : Nat} {z : Str} (e : ns[i]? = some z) : DGet H d (.str z) (some (f i)) := by
  obtain ⟨kvs, h1, h2, h3⟩ := h
  rw [← h3 i z e]
  exact .inl ⟨kvs, Sum.inr z, .inl h1, rfl, rfl⟩
def zeros (ms : List Str) : List Fact := ms.map fun m => ("zero", m, 0)
section
variable {P : Program} {w : World} {K : PySem.W.Frag} {mg : Str → Option Value} {base : Heap}
abbrev sAll : Stmt := top 36
def spAll (K : PySem.W.Frag) : Sp := fun vs H Q _ => ∃ (a b : Addr) (ms : List Str) (ps : List Addr), vs = [.ref a, .ref b] ∧ strsT K H a ms ∧ SqT K H b (ps.map V.ref) ∧ ms.length ≤ 900 ∧ ps.length ≤ 900 ∧
  ∀ H' l qs, Same H H' → H l = none → H' l = some (.lst ((ps ++ qs).map V.ref)) → TupsAt H' qs ((zeros ms).map factV) → Q (.ref l) H'
theorem scAll : FnScope ["marks", "facts", "mark"] ["marks", "facts"] (defScope sAll) := ⟨rfl, rfl, rfl, by decide +kernel, rfl, by decide +kernel, by decide +kernel⟩
theorem ok_all {f : Addr} {fd : FuncData} (F : Fun K "all_facts" "all_facts" sAll f fd) : FnOk P w K mg base CX0 1 f fd ["marks", "facts"] (spAll K) := by
  refine F.ok scAll (fun vs H Q E h => ?_) (fun cdv A outer s H vs Q E hr h => ?_)
  · obtain ⟨_, _, _, _, rfl, _⟩ := h
    rfl
  · obtain ⟨a, b, ms, ps, rfl, hm, hp, hl, hz, k⟩ := h
    refine ⟨_, pss_one (ps_ret (pe_lst (StX.pa_star (pv 1) (StX.pa_star (pe_lc (own := [("mark", 2)]) (g := gName 2) rfl scAll.nd (pi_tup (pv 0)) (blkOk_by (N := ["marks", "facts", "mark"]) (sc := defScope sAll) (by decide +kernel))
      (fun _ _ _ _ _ => pg_name (i := 2) scAll.nd rfl (.inl rfl)) (fun _ _ _ _ _ => pts_nil) (fun _ _ _ _ _ => pe_tup (pa_cons pe_str (pa_cons (pv 2) (pa_cons pe_int pa_nil))))) pa_nil)))), ?_⟩
    refine ⟨_, rfl, b, _, rfl, .inl hp, _, rfl, a, rfl, ⟨_, hm⟩, fun D hD => lc_it (walk_tup (K := K) (a := a)) (fun i H' => Same H H' ∧ ∃ qs, H' D = some (.lst (qs.map V.ref)) ∧ TupsAt H' qs (((zeros ms).take i).map factV)) ⟨Same.new hD, [], upd_same, .nil⟩ (fun i H' _ q => Same.tup q.1 hm) ?_ ?_⟩
    · rintro i v H1 H2 hi ⟨q1, qs, q2, q3⟩ ⟨rfl, hv⟩
      obtain ⟨z, hz', rfl⟩ := get_map hv
      have hi' : i < ms.length := by rw [List.length_map] at hi; exact hi
      refine ⟨rfl, yes_ ⟨_, rfl, by show 3 ≤ sizeLine; decide, fun p hp' => ?_⟩⟩
      have nD : p ≠ D := fun e => by rw [e, q2] at hp'; cases hp'
      have ql : qs.length = i := by
        have := q3.1
        rw [List.length_map, List.length_take, zeros, List.length_map] at this
        omega
      refine ⟨_, by rw [upd_ne nD.symm]; exact q2, by rw [List.length_map]; exact small1000 (by omega), Same.set (q1.trans (Same.new hp')) hD, qs ++ [p], ?_, ?_⟩
      · rw [upd_same, List.map_append]; rfl
      · have hg : (zeros ms)[i]? = some ((("zero" : Str), z, (0 : Int)) : Fact) := by unfold zeros; rw [List.getElem?_map, hz']; rfl
        rw [take_snoc hg, List.map_append]
        have h2 : (upd H2 p (HO.tup [.str "zero", .str z, .int 0])) D = some (.lst (qs.map V.ref)) := by rw [upd_ne nD.symm]; exact q2
        exact (TupsAt.upd h2 (q3.same (Same.new hp'))).snoc (by rw [upd_ne nD]; exact upd_same)
    · rintro H1 ⟨q1, qs, q2, q3⟩
      have e : ((zeros ms).take (ms.map V.str).length) = zeros ms := by
        rw [List.length_map]
        have : (zeros ms).length = ms.length := by unfold zeros; rw [List.length_map]
        rw [← this, List.take_length]
      rw [e] at q3
      have ql : qs.length = ms.length := by
        have := q3.1
        rw [List.length_map, zeros, List.length_map] at this
        exact this
      refine ⟨D, _, rfl, .inr (SqL.of q2), ?_, fun l hl' => ?_⟩
      · rw [List.length_append, List.length_append, List.length_map, List.length_map]
        exact Nat.le_of_lt (Nat.lt_of_le_of_lt (show _ ≤ 2000 by simp; omega) (by decide))
      · refine k _ l qs (q1.trans (Same.new hl')) (Same.free q1 hl') ?_ (q3.same (Same.new hl'))
        rw [upd_same, List.map_append, List.append_nil]
abbrev sStraight : Stmt := top 37
def straight (a b : Cell) (c : Int) : Bool := match b with | none => false | some d => decide (a = some (c + d))
def spStraight (K : PySem.W.Frag) : Sp := fun vs H Q _ => ∃ (p d : Addr) (fa : Fact) (ns : List Str) (col : Nat → Cell) (i j : Nat), vs = [.ref p, .ref d] ∧ H p = some (.tup (factV fa)) ∧ DictOf H d ns (fun i => cV (col i)) ∧ ns[i]? = some fa.1 ∧ ns[j]? = some fa.2.1 ∧ Q (.bl (straight (col i) (col j) fa.2.2)) H
theorem scStraight : FnScope ["fact", "ahead", "x", "y", "number"] ["fact", "ahead"] (defScope sStraight) := ⟨rfl, rfl, rfl, by decide +kernel, rfl, by decide +kernel, by decide +kernel⟩
theorem ok_straight {f : Addr} {fd : FuncData} (F : Fun K "is_straight" "is_straight" sStraight f fd) : FnOk P w K mg base CX0 1 f fd ["fact", "ahead"] (spStraight K) := by
  refine F.ok scStraight (fun vs H Q E h => ?_) (fun cdv A outer s H vs Q E hr h => ?_)
  · obtain ⟨_, _, _, _, _, _, _, rfl, _⟩ := h
    rfl
  · obtain ⟨p, d, ⟨x, y, c⟩, ns, col, i, j, rfl, hp, hd, hi, hj, k⟩ := h
    have hu := hu_of hr
    refine ⟨_, pss_cons (ps_asg (pv 0) (pg_tup rfl (pgs_cons (pg_name (i := 2) scStraight.nd rfl (.inl rfl)) (pgs_cons (pg_name (i := 3) scStraight.nd rfl (.inl rfl)) (pgs_cons (pg_name (i := 4) scStraight.nd rfl (.inl rfl)) pgs_nil)))))
      (pss_one (ps_ret (pe_and (pe_cmpR op_notN (pe_dget hu (pv 1) (pv 3) (fun _ _ => rfl)) pe_non (nomark _)) (pe_one (pe_cmpR op_eq (pe_dget hu (pv 1) (pv 2) (fun _ _ => rfl)) (pe_op op_add (pv 4) (pe_dget hu (pv 1) (pv 3) (fun _ _ => rfl))) (nomark _)))))), ?_⟩
    refine ⟨_, rfl, p, _, rfl, .inl (.inl hp), rfl, _, _, rfl, _, _, rfl, _, _, rfl, rfl, ?_⟩
    have gx : DGet H d (.str x) (some (cV (col i))) := hd.get hi
    have gy : DGet H d (.str y) (some (cV (col j))) := hd.get hj
    refine ⟨_, rfl, _, rfl, d, _, rfl, gy, rfl, _, rfl, ?_⟩
    have k : Q (.bl (straight (col i) (col j) c)) H := k
    unfold straight at k
    cases e : col j with
    | none => rw [e] at k; exact iteF k
    | some b =>
      rw [e] at k gy
      refine iteT ⟨_, rfl, _, rfl, d, _, rfl, gx, _, rfl, _, rfl, _, rfl, d, _, rfl, gy, _, _, rfl, rfl, ?_, ?_⟩
      · cases col i <;> rfl
      · have e2 : decide (cV (col i) = V.int (c + b)) = decide (col i = some (c + b)) := by
          cases e3 : col i with
          | none => rfl
          | some a0 =>
            rw [Bool.eq_iff_iff]
            simp [cV]
        show Q (.bl (decide (cV (col i) = V.int (c + b)))) H
        rw [e2]
        exact k
end
end K1
end
section
set_option maxRecDepth 100000
namespace K1
open PySem L2 K01
def ix (ms : List Str) (z : Str) : Nat := (nodes ms).idxOf z
def eF (ms : List Str) (f : Fact) : Edge := (ix ms f.1, ix ms f.2.1, f.2.2)
theorem ix_get {ms : List Str} {z : Str} (h : z ∈ nodes ms) : (nodes ms)[ix ms z]? = some z := by
  have h1 : (nodes ms).idxOf z < (nodes ms).length := List.idxOf_lt_length_of_mem h
  unfold ix
  rw [List.getElem?_eq_getElem h1, List.getElem_idxOf h1]
theorem ix_lt {ms : List Str} {z : Str} (h : z ∈ nodes ms) : ix ms z < ms.length + 1 := List.idxOf_lt_length_of_mem h
theorem ix_of {ms : List Str} {z : Str} {i : Nat} (hN : (nodes ms).Nodup) (h : (nodes ms)[i]? = some z) : ix ms z = i :=
  nodup_get hN (ix_get (List.mem_of_getElem? h)) h
theorem ix_inj {ms : List Str} {u v : Str} (hu : u ∈ nodes ms) (hv : v ∈ nodes ms) (e : ix ms u = ix ms v) : u = v := by
  have h1 := ix_get hu
  have h2 := ix_get hv
  rw [e, h2] at h1
  exact (Option.some.inj h1).symm
/-- the facts speak of nodes -/
def InN (ms : List Str) (F : List Fact) : Prop := ∀ f ∈ F, f.1 ∈ nodes ms ∧ f.2.1 ∈ nodes ms
theorem InN.inR {ms : List Str} {F : List Fact} (h : InN ms F) : InR (ms.length + 1) (F.map (eF ms)) := by
  intro e he
  obtain ⟨f, hf, rfl⟩ := List.mem_map.mp he
  exact ⟨ix_lt (h f hf).1, ix_lt (h f hf).2⟩
theorem zeros_in (ms : List Str) : InN ms (zeros ms) := by
  intro f hf
  obtain ⟨m, hm, rfl⟩ := List.mem_map.mp hf
  exact ⟨List.mem_cons_self, List.mem_cons_of_mem _ hm⟩
theorem zeros_edges {ms : List Str} (hN : (nodes ms).Nodup) : (zeros ms).map (eF ms) = zeroE ms.length := by
  unfold zeros zeroE
  apply List.ext_getElem?
  intro i
  rw [List.map_map, List.getElem?_map, List.getElem?_map]
  by_cases h : i < ms.length
  · rw [List.getElem?_eq_getElem h, List.getElem?_range h]
    have e0 : ix ms ("zero" : Str) = 0 := ix_of hN rfl
    have e1 : ix ms ms[i] = i + 1 := ix_of hN (by rw [List.getElem?_cons_succ, List.getElem?_eq_getElem h])
    show some (eF ms ("zero", ms[i], 0)) = _
    unfold eF
    rw [e0, e1]
    rfl
  · rw [List.getElem?_eq_none (by omega), List.getElem?_eq_none (by simp; omega)]
    rfl
/-- a way of facts from x to y, of this sum -/
def isPath (F : List Fact) : Str → Str → Int → List Fact → Prop
  | x, y, c, [] => x = y ∧ c = 0
  | x, y, c, f :: r => f ∈ F ∧ f.1 = x ∧ isPath F f.2.1 y (c - f.2.2) r
theorem isPath.snoc {F : List Fact} {f : Fact} (hf : f ∈ F) : ∀ {CH : List Fact} {x : Str} {c : Int}, isPath F x f.1 c CH → isPath F x f.2.1 (c + f.2.2) (CH ++ [f])
  | [], x, c, h => by
    obtain ⟨rfl, rfl⟩ := h
    exact ⟨hf, rfl, rfl, by omega⟩
  | g :: r, x, c, h => by
    obtain ⟨h1, h2, h3⟩ := h
    refine ⟨h1, h2, ?_⟩
    have := isPath.snoc hf h3
    have e : c - g.2.2 + f.2.2 = c + f.2.2 - g.2.2 := by omega
    rw [e] at this
    exact this
theorem isPath.walk {ms : List Str} {F : List Fact} : ∀ {CH : List Fact} {x y : Str} {c : Int}, isPath F x y c CH → Walk (F.map (eF ms)) (ix ms x) (ix ms y) c
  | [], x, y, c, h => by
    obtain ⟨rfl, rfl⟩ := h
    exact .nil _
  | g :: r, x, y, c, h => by
    obtain ⟨h1, rfl, h3⟩ := h
    have w := Walk.cons (List.mem_map.mpr ⟨g, h1, rfl⟩) (isPath.walk (ms := ms) h3)
    have e : g.2.2 + (c - g.2.2) = c := by omega
    rw [e] at w
    exact w
theorem isPath.mono {F G : List Fact} (h : ∀ f ∈ F, f ∈ G) : ∀ {CH : List Fact} {x y : Str} {c : Int}, isPath F x y c CH → isPath G x y c CH
  | [], _, _, _, q => q
  | _ :: _, _, _, _, ⟨h1, h2, h3⟩ => ⟨h _ h1, h2, isPath.mono h h3⟩
theorem isPath.mem {F : List Fact} : ∀ {CH : List Fact} {x y : Str} {c : Int}, isPath F x y c CH → ∀ f ∈ CH, f ∈ F
  | [], _, _, _, _, f, hf => nomatch hf
  | g :: r, _, _, _, ⟨h1, h2, h3⟩, f, hf => by
    rcases List.mem_cons.mp hf with rfl | hf
    · exact h1
    · exact h3.mem f hf
/-- how many of the nodes the dict has not -/
def lacks (ns : List Str) (kvs : List (Key × V)) : Nat := (ns.filter fun z => (valV kvs (Sum.inr z)).isNone).length
theorem filter_le {α : Type} {p q : α → Bool} : ∀ {l : List α}, (∀ x ∈ l, p x = true → q x = true) → (l.filter p).length ≤ (l.filter q).length
  | [], _ => Nat.le_refl _
  | a :: l, h => by
    have ih := filter_le (p := p) (q := q) (l := l) fun x hx => h x (List.mem_cons_of_mem _ hx)
    rw [List.filter_cons, List.filter_cons]
    by_cases e : p a = true
    · rw [if_pos e, if_pos (h a List.mem_cons_self e)]
      simp only [List.length_cons]; omega
    · rw [if_neg e]
      split
      · simp only [List.length_cons]; omega
      · exact ih
theorem filter_lt {α : Type} {p q : α → Bool} : ∀ {l : List α}, (∀ x ∈ l, p x = true → q x = true) → ∀ {z : α}, z ∈ l → q z = true → p z = false → (l.filter p).length < (l.filter q).length
  | [], _, z, hz, _, _ => nomatch hz
  | a :: l, h, z, hz, h1, h2 => by
    have ih := filter_le (p := p) (q := q) (l := l) fun x hx => h x (List.mem_cons_of_mem _ hx)
    rw [List.filter_cons, List.filter_cons]
    rcases List.mem_cons.mp hz with rfl | hz
    · rw [if_neg (by rw [h2]; exact Bool.false_ne_true), if_pos h1]
      simp only [List.length_cons]; omega
    · have ih2 := filter_lt (p := p) (q := q) (l := l) (fun x hx => h x (List.mem_cons_of_mem _ hx)) hz h1 h2
      by_cases e : p a = true
      · rw [if_pos e, if_pos (h a List.mem_cons_self e)]
        simp only [List.length_cons]; omega
      · rw [if_neg e]
        split
        · simp only [List.length_cons]; omega
        · exact ih2
theorem lacks_put {ns : List Str} {kvs : List (Key × V)} {z : Str} {v : V} (hz : z ∈ ns) (h : valV kvs (Sum.inr z) = none) : lacks ns (putK kvs (Sum.inr z) v) < lacks ns kvs := by
  unfold lacks
  refine filter_lt (fun x _ hx => ?_) hz (by rw [h]; rfl) (by rw [L2.valV_put, if_pos rfl]; rfl)
  rw [L2.valV_put] at hx
  split at hx
  · cases hx
  · exact hx
end K1
end
section
set_option maxRecDepth 100000
set_option maxHeartbeats 4000000
namespace K1
open PySem PySem.Spec PyProof.Rows L2
section
variable {X : Cx}
theorem ps_setDc {i : Nat} {y : Str} {py : Pos} {kx vx tg iter : Expr} {ifs : List Expr} {scope : Scope} {own : List (Str × Nat)} {pos spos : Pos} {wi : TI} {g : TG} {tt : TT} {tk tv : TE} (hc : X.calm = true) (hN : X.N.Nodup) (hy : X.N[i]? = some y) (hyl : X.env.scope.names.lookup y = some .local)
    (hsw : swapsWith (.DictComp kx vx [⟨tg, iter, ifs, 0⟩] scope pos) (some (.Name y py)) spos.line X.env = pure true) (hi : PI X tg iter wi) (ok : BlkOk X.N X.env.scope scope own)
    (hg : ∀ (s : Shared) (H : Hp) (C : Addr) (cl : List (Str × Addr)) (fp : List Addr), PG (X.blk s H scope (compEnvC scope cl C X.env) fp) tg g) (ht : ∀ (s : Shared) (H : Hp) (C : Addr) (cl : List (Str × Addr)) (fp : List Addr), PTs (X.blk s H scope (compEnvC scope cl C X.env) fp) ifs tt)
    (hk : ∀ (s : Shared) (H : Hp) (C : Addr) (cl : List (Str × Addr)) (fp : List Addr), PE (X.blk s H scope (compEnvC scope cl C X.env) fp) kx tk)
    (he : ∀ (s : Shared) (H : Hp) (C : Addr) (cl : List (Str × Addr)) (fp : List Addr), PE (X.blk s H scope (compEnvC scope cl C X.env) fp) vx tv) (hs : ∀ x, foldedSetIterable iter X.env x = pure x := by intro _; rfl) :
    PS X (.Assign [.Name y py] (.DictComp kx vx [⟨tg, iter, ifs, 0⟩] scope pos) spos) (tAsg (tDc wi g tt tk tv (own.map (·.2))) (gName i)) := by
  refine ⟨fun pins s σ H D I h => ?_⟩
  rw [exec_Assign_Name_used _ _ _ _ hsw]
  refine wpAny_bind (wpAny_standAt (wpAny_bind ?_))
  show wpAny _ X.A (do let _ ← comprehension (.DictComp kx vx [⟨tg, iter, ifs, 0⟩] scope pos) scope X.env (firstIterPos [⟨tg, iter, ifs, 0⟩] pos) newDict false (eval iter X.env) (some (assign (.Name y py) X.env))) _ _ s
  have h : tDc wi g tt tk tv (own.map (·.2)) σ H (fun x H1 => gName i x σ H1 D.nx) := h
  refine wpAny_bind (thn (dc_core (Qf := fun _ s' => SP X pins D .next s') hc hN I hi ok hg ht hk he hs h fun L C s' m H' I' q hn f => ?_) fun _ s' hq => wpAny_pure (wpAny_pure hq))
  show wpAny _ _ (assign (.Name y py) X.env (.ref L)) _ _ _
  refine wpAny_assign_Name (store_ok2 (v := V.ref L) I' hN hy (.inl hyl) rfl (fun s2 I2 ⟨a, sb, ha⟩ => ?_) (.inr hyl))
  obtain ⟨f0, f1, f2, f3, f4, f5⟩ := f
  have haC : C ≠ a := by
    rcases ha with z | z
    · rw [z]; exact f1
    · exact fun e => f4 y a z e.symm
  refine ⟨m, hn.sameBut sb haC, fun h3 sb3 => ?_⟩
  exact ⟨_, H', I2.turned (t' := s2.toks) (fun b o hb e => (sb3.2 b hb).trans e) f0 f1 f3 f4 f5, q⟩
theorem sw_trueD {kx vx : Expr} {gs : List Comprehension} {scope : Scope} {pos py : Pos} {y : Str} {l : Nat} {env : Env} (hk : env.scope.kind = .function) (hy : env.scope.names.lookup y = some .local) (hl : (py.line == pos.line) = true)
    (ha : (scope.names.any fun (n, k) => n == y && (k == .local || k == .cell)) = false) : swapsWith (.DictComp kx vx gs scope pos) (some (.Name y py)) l env = pure true := by
  have ky : env.kindOf y = some .local := hy
  have hb : env.blockKind = .function := by unfold Env.blockKind; rw [hk]; rfl
  unfold swapsWith
  simp only [hb, ky, ha, Expr.pos, hl]
  rfl
end
end K1
end
section
set_option maxRecDepth 100000
set_option maxHeartbeats 4000000
namespace K1
open PySem L2 K01
section
variable {P : Program} {w : World} {K : PySem.W.Frag} {mg : Str → Option Value} {base : Heap}
abbrev sChain : Stmt := top 38
/-- what the dict of the ways holds -/
def CI (ms : List Str) (F : List Fact) (B : Mat) (x y : Str) (d : Int) (H0 H : Hp) (kvs : List (Key × V)) : Prop :=
  kvs.length + lacks (nodes ms) kvs ≤ ms.length + 1 ∧ (valV kvs (Sum.inr x)).isSome = true ∧ ∀ z v, z ∈ nodes ms → valV kvs (Sum.inr z) = some v →
    ∃ l qs CH du, v = .ref l ∧ (H0 l = none ∧ (z = x → qs = [])) ∧ H l = some (.lst (qs.map V.ref)) ∧ qs.length + lacks (nodes ms) kvs ≤ ms.length + 1 ∧ TupsAt H qs (CH.map factV) ∧ cell B (ix ms z) (ix ms y) = some du ∧ isPath F x z (d - du) CH
theorem CI.same {ms : List Str} {F : List Fact} {B : Mat} {x y : Str} {d : Int} {H0 H H' : Hp} {kvs : List (Key × V)} (h : CI ms F B x y d H0 H kvs) (e : Same H H') : CI ms F B x y d H0 H' kvs := by
  obtain ⟨h1, h2, h3⟩ := h
  refine ⟨h1, h2, fun z v hz hv => ?_⟩
  obtain ⟨l, qs, CH, du, q1, q0, q2, q3, q4, q5, q6⟩ := h3 z v hz hv
  exact ⟨l, qs, CH, du, q1, q0, e _ _ q2, q3, q4.same e, q5, q6⟩
theorem TupsAt.updD {H : Hp} {l : Addr} {kvs ws : List (Key × V)} {ps : List Addr} {xss : List (List V)} (hl : H l = some (.dK kvs)) (h : TupsAt H ps xss) : TupsAt (L2.upd H l (.dK ws)) ps xss :=
  ⟨h.1, fun i p r q1 q2 => by
    have := h.2 i p r q1 q2
    rw [upd_ne (fun z => by rw [z, hl] at this; cases this)]
    exact this⟩
/-- one way more -/
theorem CI.put {ms : List Str} {F : List Fact} {B : Mat} {x y : Str} {d : Int} {H0 H : Hp} {kvs : List (Key × V)} (h : CI ms F B x y d H0 H kvs) {D : Addr} (hD : H D = some (.dK kvs)) {f : Fact} (hf : f ∈ F) (h1 : f.1 ∈ nodes ms) (h2 : f.2.1 ∈ nodes ms)
    (hv : valV kvs (Sum.inr f.2.1) = none) {l p : Addr} {qs : List Addr} {CH : List Fact} {d1 d2 : Int} (q3 : qs.length + lacks (nodes ms) kvs ≤ ms.length + 1) (q4 : TupsAt H qs (CH.map factV)) (q5 : cell B (ix ms f.1) (ix ms y) = some d1)
    (q6 : isPath F x f.1 (d - d1) CH) (c2 : cell B (ix ms f.2.1) (ix ms y) = some d2) (e : d1 = f.2.2 + d2) (hl : H l = some (.lst ((qs ++ [p]).map V.ref))) (hp : H p = some (.tup (factV f))) (hfr : H0 l = none) :
    CI ms F B x y d H0 (upd H D (.dK (putK kvs (Sum.inr f.2.1) (.ref l)))) (putK kvs (Sum.inr f.2.1) (.ref l)) := by
  obtain ⟨g1, g2, g3⟩ := h
  have hlk := lacks_put (v := V.ref l) h2 hv
  have hln := L2.length_putK kvs (Sum.inr f.2.1) (V.ref l)
  refine ⟨by omega, ?_, fun z v hz hzv => ?_⟩
  · rw [L2.valV_put]
    split
    · rfl
    · exact g2
  · rw [L2.valV_put] at hzv
    by_cases ez : (Sum.inr z : Key) = Sum.inr f.2.1
    · rw [if_pos ez] at hzv
      cases hzv
      have ez' : z = f.2.1 := Sum.inr.inj ez
      subst ez'
      refine ⟨l, qs ++ [p], CH ++ [f], d2, rfl, ⟨hfr, fun e => by rw [← e, hv] at g2; cases g2⟩, ?_, ?_, ?_, c2, ?_⟩
      · rw [upd_ne (fun z => by rw [z, hD] at hl; cases hl)]; exact hl
      · rw [List.length_append, List.length_singleton]; omega
      · rw [List.map_append]
        exact (q4.updD hD).snoc (by rw [upd_ne (fun z => by rw [z, hD] at hp; cases hp)]; exact hp)
      · have := isPath.snoc hf q6
        have e2 : d - d1 + f.2.2 = d - d2 := by omega
        rw [e2] at this
        exact this
    · rw [if_neg ez] at hzv
      obtain ⟨l', qs', CH', du, r1, r0, r2, r3, r4, r5, r6⟩ := g3 z v hz hzv
      refine ⟨l', qs', CH', du, r1, r0, ?_, by omega, r4.updD hD, r5, r6⟩
      rw [upd_ne (fun z => by rw [z, hD] at r2; cases r2)]; exact r2
def Out (ms : List Str) (B : Mat) (y : Str) (kvs : List (Key × V)) (f : Fact) : Prop :=
  (valV kvs (Sum.inr f.1)).isSome = true ∧ valV kvs (Sum.inr f.2.1) = none ∧ straight (cell B (ix ms f.1) (ix ms y)) (cell B (ix ms f.2.1) (ix ms y)) f.2.2 = true
theorem out_exists {ms : List Str} {F : List Fact} {B : Mat} {x y : Str} {d : Int} {kvs : List (Key × V)} (hI : InN ms F) (G : Good (ms.length + 1) (F.map (eF ms)) B) (hx : x ∈ nodes ms) (hy : y ∈ nodes ms) (hc : cell B (ix ms x) (ix ms y) = some d)
    (h1 : (valV kvs (Sum.inr x)).isSome = true) (h2 : valV kvs (Sum.inr y) = none) : ∃ (k : Nat) (f : Fact), F[k]? = some f ∧ Out ms B y kvs f := by
  obtain ⟨u, v, k, d1, d2, e, su, sv, c1, c2, e2⟩ := G.out hI.inR (fun u => ∃ z, z ∈ nodes ms ∧ ix ms z = u ∧ (valV kvs (Sum.inr z)).isSome = true) (G.tightW hI.inR (ix_lt hx) (ix_lt hy) hc) (ix_lt hx) (ix_lt hy) hc ⟨x, hx, rfl, h1⟩
    (fun ⟨z, hz, ez, hv⟩ => by rw [ix_inj hz hy ez, h2] at hv; cases hv)
  obtain ⟨f, hf, ef⟩ := List.mem_map.mp e
  have i1 := hI f hf
  simp only [eF, Prod.mk.injEq] at ef
  obtain ⟨rfl, rfl, rfl⟩ := ef
  obtain ⟨n, hn⟩ := List.getElem?_of_mem hf
  refine ⟨n, f, hn, ?_, ?_, ?_⟩
  · obtain ⟨z, hz, ez, hv⟩ := su
    rw [ix_inj hz i1.1 ez] at hv
    exact hv
  · cases q : valV kvs (Sum.inr f.2.1) with
    | none => rfl
    | some v => exact absurd ⟨f.2.1, i1.2, rfl, by rw [q]; rfl⟩ sv
  · unfold straight
    rw [c1, c2, e2]
    simp
def spChain (K : PySem.W.Frag) : Sp := fun vs H Q _ => ∃ (a b m : Addr) (x y : Str) (ms : List Str) (ps : List Addr) (FS : List Fact) (B : Mat) (d : Int), vs = [.ref a, .ref b, .ref m, .str x, .str y] ∧ strsT K H a ms ∧ ms.length ≤ 900 ∧ (nodes ms).Nodup ∧
  SqT K H b (ps.map V.ref) ∧ TupsAt H ps (FS.map factV) ∧ ps.length ≤ 900 ∧ InN ms FS ∧ MatAt K H m B ∧ Good (ms.length + 1) ((FS ++ zeros ms).map (eF ms)) B ∧ x ∈ nodes ms ∧ y ∈ nodes ms ∧ cell B (ix ms x) (ix ms y) = some d ∧
  ∀ H' l qs CH, Same H H' → H l = none → (x = y → qs = []) → H' l = some (.lst (qs.map V.ref)) → qs.length ≤ 2000 → TupsAt H' qs (CH.map factV) → isPath (FS ++ zeros ms) x y d CH → Q (.ref l) H'
theorem scChain : FnScope ["marks", "facts", "bounds", "x", "y", "goal", "ahead", "chains", "fact", "name", "row"] ["marks", "facts", "bounds", "x", "y"] (defScope sChain) := ⟨rfl, rfl, rfl, by decide +kernel, rfl, by decide +kernel, by decide +kernel⟩
theorem ok_chain {f fS fN fA fT : Addr} {fd fdS fdN fdA fdT : FuncData} (F : Fun K "chain_of" "chain_of" sChain f fd) (T : Bi mg) (Fs : Fun K "spots_of" "spots_of" sSpots fS fdS) (bS : Binds K fdS ["marks"] []) (mS : mg "spots_of" = some (.ref fS))
    (FN : Fun K "names_of" "names_of" sNames fN fdN) (bN : Binds K fdN ["marks"] []) (mN : mg "names_of" = some (.ref fN)) (FA : Fun K "all_facts" "all_facts" sAll fA fdA) (bA : Binds K fdA ["marks", "facts"] []) (mA : mg "all_facts" = some (.ref fA))
    (FT : Fun K "is_straight" "is_straight" sStraight fT fdT) (bT : Binds K fdT ["fact", "ahead"] []) (mT : mg "is_straight" = some (.ref fT)) :
    FnOk P w K mg base CX0 3 f fd ["marks", "facts", "bounds", "x", "y"] (spChain K) := by
  have GN : FnOk P w K mg base CX0 1 fN fdN ["marks"] (spNames K) := ok_names FN
  have GS : FnOk P w K mg base CX0 2 fS fdS ["marks"] (spSpots K) := ok_spots Fs T FN bN mN
  have GA : FnOk P w K mg base CX0 1 fA fdA ["marks", "facts"] (spAll K) := ok_all FA
  have GT : FnOk P w K mg base CX0 1 fT fdT ["fact", "ahead"] (spStraight K) := ok_straight FT
  refine F.ok scChain (fun vs H Q E h => ?_) (fun cdv A outer s H vs Q E hr h => ?_)
  · obtain ⟨_, _, _, _, _, _, _, _, _, _, rfl, _⟩ := h
    rfl
  · obtain ⟨a, b, m, x, y, ms, ps, FS, B, d, rfl, hm, hl, hN, hb, hT, hz, hI, hM, G, hx, hy, hc, k⟩ := h
    have hu := hu_of hr
    have hr1 : Room 1 _ := hr.mono (by decide)
    refine ⟨_, pss_cons (ps_set (i := 5) scChain.nd rfl (.inr rfl) (pe_dget hu (pe_call GS hr rfl mS Fs.kp bS .nil pass0 (pa_cons (pv 0) pa_nil)) (pv 4) (fun _ _ => rfl)))
      (pss_cons (ps_setDc (i := 6) (own := [("name", 9), ("row", 10)]) (g := gTup K 2 (gCons (gName 9) (gCons (gName 10) gNil))) (tv := tOp (rIxT K) (tVar 10) (tVar 5)) rfl scChain.nd rfl rfl (sw_trueD rfl rfl rfl (by decide +kernel))
        (RZ.pi_zipA (by rfl) T.zip (pa_cons (pe_call GN hr1 rfl mN FN.kp bN .nil pass0 (pa_cons (pv 0) pa_nil)) (pa_cons (pv 2) pa_nil)))
        (blkOk_by (N := ["marks", "facts", "bounds", "x", "y", "goal", "ahead", "chains", "fact", "name", "row"]) (sc := defScope sChain) (by decide +kernel))
        (fun _ _ _ _ _ => pg_tup rfl (pgs_cons (pg_name (i := 9) scChain.nd rfl (.inl rfl)) (pgs_cons (pg_name (i := 10) scChain.nd rfl (.inl rfl)) pgs_nil)))
        (fun _ _ _ _ _ => pts_nil) (fun _ _ _ _ _ => pv 9) (fun _ _ _ _ _ => pe_ix ix_tup (pv 10) (pv 5) (fun _ _ => rfl)))
      (pss_cons (ps_set (i := 7) scChain.nd rfl (.inl rfl) (pe_disp (pps_cons (pv 3) (pe_lst pa_nil) pps_nil) (by rfl) (by rfl) (fun z => by cases z) (by decide)))
      (pss_cons (ps_while PassesOwn.never (pt_cmp (pc_dnotin hu (pv 4) (pv 7)))
        (pss_one (ps_for PassesOwn.never rfl (pi_list (pe_call GA hr1 rfl mA FA.kp bA .nil pass0 (pa_cons (pv 0) (pa_cons (pv 1) pa_nil)))) (pg_name (i := 8) scChain.nd rfl (.inl rfl))
          (pss_one (ps_if (PW.pt (pw_and (pt_cmp (pc_din hu (pe_ix ix_tup (pv 8) pe_int (fun _ _ => rfl)) (pv 7))) (pw_and (pt_cmp (pc_dnotin hu (pe_ix ix_tup (pv 8) pe_int (fun _ _ => rfl)) (pv 7)))
              (pw_and1 (pt_val (pe_call GT hr1 rfl mT FT.kp bT .nil pass0 (pa_cons (pv 8) (pa_cons (pv 6) pa_nil))))))))
            (pss_one (ps_dput hu (pv 7) (pe_ix ix_tup (pv 8) pe_int (fun _ _ => rfl)) (pe_lst (StX.pa_star (pe_dget hu (pv 7) (pe_ix ix_tup (pv 8) pe_int (fun _ _ => rfl)) (fun _ _ => rfl)) (pa_cons (pv 8) pa_nil))) rfl)) pss_nil)))))
      (pss_one (ps_ret (pe_dget hu (pv 7) (pv 4) (fun _ _ => rfl))))))), ?_⟩
    refine ⟨_, rfl, a, ms, rfl, hm, hl, hN, fun H1 sd s1 hsd => ⟨_, rfl, sd, _, rfl, hsd.get (ix_get hy), ?_⟩⟩
    obtain ⟨as, l1, m2, m3⟩ := id hM
    have hjl : ix ms y < ms.length + 1 := ix_lt hy
    refine ⟨_, rfl, a, ms, rfl, Same.tup s1 hm, by omega, fun H2 nm s2 hnm => ⟨_, rfl, nm, m, _, _, rfl, .inr ⟨hnm, Same.tup (s1.trans s2) m2, fun D hD => ?_⟩⟩⟩
    have hlen : ((nodes ms).map V.str).length = (as.map V.ref).length := by rw [List.length_map, List.length_map, l1, G.sized.1]; rfl
    refine dc_it (walk_zipT (K := K) (a := nm) (b := m) hlen) (fun i H' => Same H2 H' ∧ ∃ kvs, H' D = some (.dK kvs) ∧ kvs.length ≤ i ∧ ∀ (j : Nat) (z : Str), j < i → (nodes ms)[j]? = some z → valV kvs (Sum.inr z) = some (cV (cell B j (ix ms y)))) ?_ (fun i H' _ q => ⟨Same.tup q.1 hnm, Same.tup ((s1.trans s2).trans q.1) m2⟩) ?_ ?_
    · exact ⟨Same.new hD, [], upd_same, Nat.le_refl _, fun j z h => absurd h (Nat.not_lt_zero _)⟩
    · rintro i v Ha Hb hi ⟨q1, kvs, q2, q3, q4⟩ ⟨p, x', y', rfl, hp, rfl, hx', hy'⟩
      obtain ⟨z, hz', rfl⟩ := get_map hx'
      obtain ⟨pr, hpr, rfl⟩ := get_map hy'
      have nD : p ≠ D := fun e => by rw [e, q2] at hp; cases hp
      have hi' : i < ms.length + 1 := (List.getElem?_eq_some_iff.mp hz').1
      obtain ⟨r, hr1', hr2'⟩ := G.sized.row hi'
      have hR : RowAt K (upd Ha p (.tup [.str z, .ref pr])) pr r := Same.tup (((s1.trans s2).trans q1).trans (Same.new hp)) (m3 i pr r hpr hr1')
      have hcl : (r.map cV)[ix ms y]? = some (cV (cell B i (ix ms y))) := by
        have := row_cell G.sized hi' hjl
        rw [rowAt_of hr1'] at this
        exact this
      refine ⟨p, _, rfl, tup_at, rfl, _, _, rfl, _, _, rfl, rfl, rfl, yes_ ⟨_, rfl, _, rfl, _, rfl, _, _, _, _, rfl, rfl, hR, atI_nat hcl, kvs, Sum.inr z, rfl, by rw [upd_ne nD.symm]; exact q2, small1000 (by omega), Same.set (q1.trans (Same.new hp)) hD, _, upd_same, ?_, ?_⟩⟩
      · exact Nat.le_trans (L2.length_putK _ _ _) (by omega)
      · intro j u hj hu'
        rw [L2.valV_put]
        by_cases e : j = i
        · subst e
          rw [hz'] at hu'
          cases hu'
          rw [if_pos rfl]
        · rw [if_neg (fun q => e (nodup_get hN hu' (by rw [Sum.inr.inj q]; exact hz'))), q4 j u (by omega) hu']
    rintro H3 ⟨q1, kvs, q2, q3, q4⟩
    rw [List.length_map] at q3 q4
    have hA : DictOf H3 D (nodes ms) (fun i => cV (cell B i (ix ms y))) := ⟨kvs, q2, q3, fun j z h => q4 j z (List.getElem?_eq_some_iff.mp h).1 h⟩
    have s3 : Same H H3 := (s1.trans s2).trans q1
    clear q4 q3 q2 q1 kvs
    intro Dc hDc
    refine ⟨_, rfl, Nat.zero_le _, fun l0 hl0 => ⟨?_, [(Sum.inr x, .ref l0)], rfl, by show 1 ≤ 15; decide, ?_⟩⟩
    · rw [upd_ne (fun z => by rw [← z, upd_same] at hl0; cases hl0)]; exact upd_same
    have nl0 : l0 ≠ Dc := fun z => by rw [z, upd_same] at hl0; cases hl0
    have hl00 : H3 l0 = none := by rw [upd_ne nl0] at hl0; exact hl0
    have s4 : Same H3 (upd (upd (upd H3 Dc (.dK [])) l0 (.lst [])) Dc (.dK (mergeK [] [(Sum.inr x, .ref l0)]))) := Same.set (Same.set (Same.new hDc) hl00) hDc
    have hDH : H Dc = none := Same.free s3 hDc
    have hF : InN ms (FS ++ zeros ms) := fun f hf => by
      rcases List.mem_append.mp hf with h | h
      · exact hI f h
      · exact zeros_in ms f h
    have em : mergeK [] [((Sum.inr x : Key), V.ref l0)] = [(Sum.inr x, .ref l0)] := rfl
    rw [em] at s4 ⊢
    refine while_by (fun σ H' => ∃ (v : Option V) (kvs : List (Key × V)), σ = [some (.ref a), some (.ref b), some (.ref m), some (.str x), some (.str y), some (.int (ix ms y : Nat)), some (.ref D), some (.ref Dc), v, none, none] ∧ Same H3 H' ∧ H' Dc = some (.dK kvs) ∧ CI ms (FS ++ zeros ms) B x y d H H' kvs)
      (fun _ H' => match H' Dc with | some (.dK kvs) => lacks (nodes ms) kvs | _ => 0) ?_ ?_ ?_
    · refine ⟨none, _, rfl, s4, upd_same, ?_, ?_, ?_⟩
      · have h1 : lacks (nodes ms) (putK ([] : List (Key × V)) (Sum.inr x) (.ref l0)) < lacks (nodes ms) ([] : List (Key × V)) := lacks_put hx rfl
        have h2 : lacks (nodes ms) ([] : List (Key × V)) ≤ ms.length + 1 := List.length_filter_le _ _
        have h3 : (putK ([] : List (Key × V)) (Sum.inr x) (.ref l0)) = [(Sum.inr x, .ref l0)] := rfl
        rw [h3] at h1
        show 1 + _ ≤ _
        omega
      · rw [valV_pos rfl]; rfl
      · intro z v hz' hv
        by_cases e : x = z
        · subst e
          rw [valV_pos rfl] at hv
          cases hv
          refine ⟨l0, [], [], d, rfl, ⟨s3.free hl00, fun _ => rfl⟩, ?_, ?_, .nil, hc, rfl, by omega⟩
          · rw [upd_ne nl0]; exact upd_same
          · exact Nat.le_trans (by rw [List.length_nil, Nat.zero_add]; exact Nat.le_refl _) (List.length_filter_le _ _)
        · rw [valV_neg (fun q => e (Sum.inr.inj q))] at hv
          cases hv
    · rintro σ H5 ⟨v, kvs, rfl, s5, hDk, hCI⟩
      refine ⟨_, rfl, _, rfl, Dc, _, rfl, DGet.k (k := Sum.inr y) hDk, _, rfl, ?_⟩
      cases ey : valV kvs (Sum.inr y) with
      | some v0 =>
        refine iteF ?_
        obtain ⟨l, qs, CH, du, rfl, r0, r2, r3, r4, r5, r6⟩ := hCI.2.2 y v0 hy ey
        have hdu : du = 0 := by
          obtain ⟨d', e1, e2⟩ := G.diag0 hjl
          rw [r5] at e1
          cases e1
          have := G.diag hjl (k := du) ⟨du, r5, Int.le_refl _⟩
          omega
        subst hdu
        rw [Int.sub_zero] at r6
        have gy : DGet H5 Dc (.str y) (some (.ref l)) := by rw [← ey]; exact DGet.k (k := Sum.inr y) hDk
        exact ⟨_, rfl, _, rfl, Dc, _, rfl, gy, k H5 l qs CH (s3.trans s5) r0.1 (fun e => r0.2 e.symm) r2 (by omega) r4 r6⟩
      | none =>
        refine iteT ?_
        refine ⟨_, rfl, _, rfl, a, b, ms, ps, rfl, Same.tup (s3.trans s5) hm, Same.tup (s3.trans s5) hb, hl, hz, fun H6 L qs6 s6 hL0 hL hZ => ⟨L, rfl, ⟨_, SqL.of hL⟩, ?_⟩⟩
        have hTT : TupsAt H6 (ps ++ qs6) ((FS ++ zeros ms).map factV) := by
          rw [List.map_append]
          exact (hT.same ((s3.trans s5).trans s6)).app hZ
        have nLD : L ≠ Dc := fun z => by rw [z, hDk] at hL0; cases hL0
        refine for_it (walk_list (K := K) (a := L)) (fun i σ H' => ∃ (v : Option V) (kv2 : List (Key × V)), σ = [some (.ref a), some (.ref b), some (.ref m), some (.str x), some (.str y), some (.int (ix ms y : Nat)), some (.ref D), some (.ref Dc), v, none, none] ∧ Same H3 H' ∧ H' L = some (.lst ((ps ++ qs6).map V.ref)) ∧ TupsAt H' (ps ++ qs6) ((FS ++ zeros ms).map factV) ∧ H' Dc = some (.dK kv2) ∧ CI ms (FS ++ zeros ms) B x y d H H' kv2 ∧
          (lacks (nodes ms) kv2 < lacks (nodes ms) kvs ∨ (kv2 = kvs ∧ ∀ (j : Nat) (f : Fact), j < i → (FS ++ zeros ms)[j]? = some f → ¬ Out ms B y kvs f))) ?_ (fun i σ H' _ ⟨_, _, _, _, q, _⟩ => SqL.of q) ?_ ?_
        · exact ⟨v, kvs, rfl, s5.trans s6, hL, hTT, s6 _ _ hDk, hCI.same s6, .inr ⟨rfl, fun j f h => absurd h (Nat.not_lt_zero _)⟩⟩
        · rintro i v' σ H7 H8 hi ⟨v1, kv2, rfl, s7, hL7, hT7, hD7, hC7, hP7⟩ ⟨rfl, hv'⟩
          obtain ⟨pf, hpf, rfl⟩ := get_map hv'
          obtain ⟨xs, hxs, hpt⟩ := hT7.get hpf
          obtain ⟨f, hf, rfl⟩ := get_map hxs
          have hfm := List.mem_of_getElem? hf
          have i1 := hF f hfm
          have hSq : SqT K H8 pf (factV f) := .inl (.inl hpt)
          have stay : ¬ Out ms B y kv2 f → ∃ (v : Option V) (kv3 : List (Key × V)), [some (.ref a), some (.ref b), some (.ref m), some (.str x), some (.str y), some (.int (ix ms y : Nat)), some (.ref D), some (.ref Dc), some (.ref pf), none, none] = [some (V.ref a), some (.ref b), some (.ref m), some (.str x), some (.str y), some (.int (ix ms y : Nat)), some (.ref D), some (.ref Dc), v, none, none] ∧ Same H3 H8 ∧ H8 L = some (.lst ((ps ++ qs6).map V.ref)) ∧ TupsAt H8 (ps ++ qs6) ((FS ++ zeros ms).map factV) ∧ H8 Dc = some (.dK kv3) ∧ CI ms (FS ++ zeros ms) B x y d H H8 kv3 ∧
              (lacks (nodes ms) kv3 < lacks (nodes ms) kvs ∨ (kv3 = kvs ∧ ∀ (j : Nat) (f : Fact), j < i + 1 → (FS ++ zeros ms)[j]? = some f → ¬ Out ms B y kvs f)) := by
            intro no
            refine ⟨_, kv2, rfl, s7, hL7, hT7, hD7, hC7, ?_⟩
            rcases hP7 with h | ⟨rfl, h⟩
            · exact .inl h
            · refine .inr ⟨rfl, fun j g hj hg => ?_⟩
              by_cases e : j = i
              · subst e
                rw [hf] at hg
                cases hg
                exact no
              · exact h j g (by omega) hg
          refine ⟨_, rfl, _, _, _, _, rfl, rfl, hSq, at_of (j := 0) rfl rfl, _, rfl, Dc, _, rfl, DGet.k (k := Sum.inr f.1) hD7, _, rfl, ?_⟩
          cases e1 : valV kv2 (Sum.inr f.1) with
          | none => exact iteF (stay fun o => by rw [Out, e1] at o; cases o.1)
          | some w1 =>
            refine iteT ⟨_, rfl, _, _, _, _, rfl, rfl, hSq, at_of (j := 1) rfl rfl, _, rfl, Dc, _, rfl, DGet.k (k := Sum.inr f.2.1) hD7, _, rfl, ?_⟩
            cases e2 : valV kv2 (Sum.inr f.2.1) with
            | some w2 => exact iteF (stay fun o => by rw [Out, e2] at o; cases o.2.1)
            | none =>
              refine iteT ⟨_, rfl, _, rfl, pf, D, f, nodes ms, fun i => cell B i (ix ms y), ix ms f.1, ix ms f.2.1, rfl, hpt, hA.same s7, ix_get i1.1, ix_get i1.2, _, rfl, ?_⟩
              cases e3 : straight (cell B (ix ms f.1) (ix ms y)) (cell B (ix ms f.2.1) (ix ms y)) f.2.2 with
              | false => exact iteF (stay fun o => by rw [Out, e3] at o; cases o.2.2)
              | true =>
                obtain ⟨l1', qs, CH, du, rfl, r0, r2, r3, r4, r5, r6⟩ := hC7.2.2 f.1 w1 i1.1 e1
                have g1 : DGet H8 Dc (.str f.1) (some (.ref l1')) := by rw [← e1]; exact DGet.k (k := Sum.inr f.1) hD7
                refine iteT ⟨_, rfl, _, rfl, _, _, _, _, rfl, rfl, hSq, at_of (j := 0) rfl rfl, Dc, _, rfl, g1, l1', _, rfl, .inr (SqL.of r2), _, rfl, ?_, fun l2 hl2 => ?_⟩
                · rw [List.length_append, List.length_map]
                  show qs.length + 1 ≤ sizeLine
                  exact Nat.le_of_lt (Nat.lt_of_le_of_lt (show qs.length + 1 ≤ 1000 by omega) (by decide))
                · have hD9 : (upd H8 l2 (.lst (qs.map V.ref ++ [.ref pf]))) Dc = some (.dK kv2) := Same.new hl2 _ _ hD7
                  refine ⟨_, rfl, _, rfl, _, _, _, _, rfl, rfl, Same.tup (Same.new hl2) hSq, at_of (j := 1) rfl rfl, Dc, _, rfl, DPut.k (k := Sum.inr f.2.1) hD9 (small1000 (by have := hC7.1; omega)), ?_⟩
                  have hDH3 : H3 Dc = none := hDc
                  have s8 : Same H8 (upd H8 l2 (.lst (qs.map V.ref ++ [.ref pf]))) := Same.new hl2
                  have hs : straight (some du) (cell B (ix ms f.2.1) (ix ms y)) f.2.2 = true := by rw [← r5]; exact e3
                  obtain ⟨d2, c2, c3⟩ : ∃ d2, cell B (ix ms f.2.1) (ix ms y) = some d2 ∧ du = f.2.2 + d2 := by
                    unfold straight at hs
                    cases q : cell B (ix ms f.2.1) (ix ms y) with
                    | none => rw [q] at hs; cases hs
                    | some d2 =>
                      rw [q] at hs
                      exact ⟨d2, rfl, by simpa using hs⟩
                  refine ⟨_, _, rfl, Same.set (s7.trans s8) hDH3, ?_, ?_, upd_same, (hC7.same s8).put hD9 hfm i1.1 i1.2 e2 (l := l2) (p := pf) (qs := qs) (CH := CH) (d1 := du) (d2 := d2) r3 (r4.same s8) r5 r6 c2 c3 ?_ (s8 _ _ hpt) ((s3.trans s7).free hl2), ?_⟩
                  · rw [upd_ne nLD]; exact s8 _ _ hL7
                  · exact TupsAt.updD hD9 (hT7.same s8)
                  · rw [upd_same, List.map_append]; rfl
                  · left
                    have := lacks_put (v := V.ref l2) i1.2 e2
                    rcases hP7 with h | ⟨rfl, h⟩
                    · omega
                    · exact this
        · rintro σ H7 ⟨v1, kv2, rfl, s7, hL7, hT7, hD7, hC7, hP7⟩
          refine ⟨⟨v1, kv2, rfl, s7, hD7, hC7⟩, ?_⟩
          rw [hD7, hDk]
          show lacks (nodes ms) kv2 < lacks (nodes ms) kvs
          rcases hP7 with h | ⟨rfl, h⟩
          · exact h
          · obtain ⟨n, f, hn, ho⟩ := out_exists hF G hx hy hc hCI.2.1 ey
            refine absurd ho (h n f ?_ hn)
            have := (List.getElem?_eq_some_iff.mp hn).1
            rw [List.length_map]
            have e := hT7.1
            rw [List.length_map] at e
            omega
    · rintro σ Hx Q1 Q2 h ⟨v, e1, v2, e2, a', o, e3, g, c, e4, q⟩
      exact ⟨v, e1, v2, e2, a', o, e3, g, c, e4, h _ _ q⟩
end
end K1
end
section
set_option maxRecDepth 100000
set_option maxHeartbeats 4000000
namespace K1
open PySem L2 K01
section
variable {P : Program} {w : World} {K : PySem.W.Frag} {mg : Str → Option Value} {base : Heap}
abbrev sLesser : Stmt := top 5
def spLesser (K : PySem.W.Frag) : Sp := fun vs H Q _ => ∃ (a b : Addr) (r o : List Cell) (s : Int), vs = [.ref a, .int s, .ref b] ∧ RowAt K H a r ∧ RowAt K H b o ∧ r.length = o.length ∧ r.length ≤ 1000 ∧
  ∀ H' p, Same H H' → RowAt K H' p (lesserRow r s o) → Q (.ref p) H'
theorem scLesser : FnScope ["row", "step", "onward", "old", "more"] ["row", "step", "onward"] (defScope sLesser) := ⟨rfl, rfl, rfl, by decide +kernel, rfl, by decide +kernel, by decide +kernel⟩
theorem lesser_getElem {r o : List Cell} {s : Int} {i : Nat} {x y : Cell} (h1 : r[i]? = some x) (h2 : o[i]? = some y) : (lesserRow r s o)[i]? = some (lesser1 s x y) := by
  unfold lesserRow
  rw [List.getElem?_zipWith, h1, h2]
theorem ok_lesser {f : Addr} {fd : FuncData} (F : Fun K "lesser_row" "lesser_row" sLesser f fd) (T : Bi mg) : FnOk P w K mg base CX0 1 f fd ["row", "step", "onward"] (spLesser K) := by
  refine F.ok scLesser (fun vs H Q E h => ?_) (fun cdv A outer s H vs Q E hr h => ?_)
  · obtain ⟨_, _, _, _, _, rfl, _⟩ := h
    rfl
  · obtain ⟨a, b, r, o, c, rfl, hR, hO, hl, hz, k⟩ := h
    refine ⟨_, pss_one (ps_ret (pe_callTy call_tuple_of (by rfl) T.tuple (by decide +kernel) (pa_cons
      (pe_lc (own := [("old", 3), ("more", 4)]) (g := gTup K 2 (gCons (gName 3) (gCons (gName 4) gNil))) rfl scLesser.nd (RZ.pi_zipA (by rfl) T.zip (pa_cons (pv 0) (pa_cons (pv 2) pa_nil)))
        (blkOk_by (N := ["row", "step", "onward", "old", "more"]) (sc := defScope sLesser) (by decide +kernel))
        (fun _ _ _ _ _ => pg_tup rfl (pgs_cons (pg_name (i := 3) scLesser.nd rfl (.inl rfl)) (pgs_cons (pg_name (i := 4) scLesser.nd rfl (.inl rfl)) pgs_nil)))
        (fun _ _ _ _ _ => pts_nil)
        (fun _ _ _ _ _ => pe_ifExp (PW.pt (pw_or (pt_cmpR op_isN (pv 4) pe_non (nomark _)) (pw_or1 (PW.pt (pw_and (pt_cmpR op_notN (pv 3) pe_non (nomark _)) (pw_and1 (pt_cmpR op_le (pv 3) (pe_op op_add (pv 1) (pv 4)) (nomark _))))))))
          (pv 3) (pe_op op_add (pv 1) (pv 4)))) pa_nil))), ?_⟩
    have hl' : (r.map cV).length = (o.map cV).length := by rw [List.length_map, List.length_map, hl]
    refine ⟨_, rfl, _, rfl, a, b, _, _, rfl, .inr ⟨hR, hO, fun D hD => lc_it (walk_zipT (K := K) (a := a) (b := b) hl') (fun i H' => Same H H' ∧ H' D = some (.lst (((lesserRow r c o).take i).map cV))) ⟨Same.new hD, upd_same⟩ (fun i H' _ q => ⟨Same.tup q.1 hR, Same.tup q.1 hO⟩) ?_ ?_⟩⟩
    · rintro i v H1 H2 hi ⟨q1, q2⟩ ⟨p, x, y, rfl, hp, rfl, hx, hy⟩
      obtain ⟨x, hx', rfl⟩ := get_map hx
      obtain ⟨y, hy', rfl⟩ := get_map hy
      have hi' : i < r.length := by simpa using hi
      have nD : p ≠ D := fun e => by rw [e, q2] at hp; cases hp
      refine ⟨p, _, rfl, tup_at, rfl, _, _, rfl, _, _, rfl, rfl, rfl, ?_⟩
      have fin : ∀ {z}, z = cV (lesser1 c x y) → ∃ acc, (upd H1 p (HO.tup [cV x, cV y])) D = some (HO.lst acc) ∧ acc.length < sizeLine ∧ (Same H (upd (upd H1 p (HO.tup [cV x, cV y])) D (.lst (acc ++ [z]))) ∧ (upd (upd H1 p (HO.tup [cV x, cV y])) D (.lst (acc ++ [z]))) D = some (.lst (((lesserRow r c o).take (i + 1)).map cV))) := by
        intro z hz'
        refine ⟨_, by rw [upd_ne nD.symm]; exact q2, ?_, fun u ob e => ?_, ?_⟩
        · rw [List.length_map, List.length_take]
          refine Nat.lt_of_le_of_lt (Nat.min_le_left _ _) (small1000 (by omega))
        · have n1 : u ≠ D := ne_of_none e hD
          rw [upd_ne n1, upd_ne (ne_of_none (q1 _ _ e) hp)]
          exact q1 _ _ e
        · rw [upd_same, take_snoc (lesser_getElem hx' hy'), List.map_append, hz']
          rfl
      refine yes_ ?_
      cases y with
      | none => exact ⟨_, rfl, rfl, _, rfl, iteDT rfl (iteT ⟨_, rfl, fin rfl⟩)⟩
      | some m =>
        refine ⟨_, rfl, rfl, _, rfl, iteDF (fun e => nomatch e) ?_⟩
        cases x with
        | none =>
          exact ⟨_, rfl, rfl, _, rfl, iteNS rfl (iteF ⟨_, rfl, _, rfl, _, _, rfl, rfl, fin rfl⟩)⟩
        | some o0 =>
          refine ⟨_, rfl, rfl, _, rfl, iteNF (fun e => nomatch e) ⟨_, rfl, _, rfl, _, rfl, _, _, rfl, rfl, _, _, rfl, rfl, _, rfl, ?_⟩⟩
          by_cases g : o0 ≤ c + m
          · exact iteDT g ⟨_, rfl, fin (by simp only [lesser1, if_pos g])⟩
          · exact iteDF g ⟨_, rfl, _, rfl, _, _, rfl, rfl, fin (by simp only [lesser1, if_neg g]; rfl)⟩
    · rintro H1 ⟨q1, q2⟩
      refine ⟨D, _, rfl, .inl ⟨SqL.of q2, fun l hn => k _ _ (q1.trans (Same.new hn)) ?_⟩⟩
      have e : (r.map cV).length = (lesserRow r c o).length := by unfold lesserRow; rw [List.length_map, List.length_zipWith, hl, Nat.min_self]
      rw [e, List.take_length]
      exact tup_at
end
end K1
end
section
set_option maxRecDepth 100000
set_option maxHeartbeats 4000000
namespace K1
open PySem L2 K01
section
variable {P : Program} {w : World} {K : PySem.W.Frag} {mg : Str → Option Value} {base : Heap}
abbrev sTight : Stmt := top 6
def spTight (K : PySem.W.Frag) : Sp := fun vs H Q _ => ∃ (a : Addr) (B : Mat) (n x y : Nat) (c : Int), vs = [.ref a, .int x, .int y, .int c] ∧ MatAt K H a B ∧ Sized n B ∧ x < n ∧ y < n ∧ n ≤ 1000 ∧
  ∀ H' p, Same H H' → MatAt K H' p (tightM B x y c) → Q (.ref p) H'
theorem scTight : FnScope ["bounds", "x", "y", "number", "rows", "row"] ["bounds", "x", "y", "number"] (defScope sTight) := ⟨rfl, rfl, rfl, by decide +kernel, rfl, by decide +kernel, by decide +kernel⟩
theorem ok_tight {f fL : Addr} {fd fdL : FuncData} (F : Fun K "tightened" "tightened" sTight f fd) (T : Bi mg) (FL : Fun K "lesser_row" "lesser_row" sLesser fL fdL) (bL : Binds K fdL ["row", "step", "onward"] []) (mL : mg "lesser_row" = some (.ref fL)) :
    FnOk P w K mg base CX0 2 f fd ["bounds", "x", "y", "number"] (spTight K) := by
  have GL : FnOk P w K mg base CX0 1 fL fdL ["row", "step", "onward"] (spLesser K) := ok_lesser FL T
  refine F.ok scTight (fun vs H Q E h => ?_) (fun cdv A outer s H vs Q E hr h => ?_)
  · obtain ⟨_, _, _, _, _, _, rfl, _⟩ := h
    rfl
  · obtain ⟨a, B, n, x, y, c, rfl, hM, hS, hx, hy, hn, k⟩ := h
    refine ⟨_, pss_cons (ps_set (i := 4) scTight.nd rfl (.inl rfl) (pe_lst pa_nil))
      (pss_cons (ps_for PassesOwn.never rfl (pi_tup (pv 0)) (pg_name (i := 5) scTight.nd rfl (.inl rfl))
        (pss_one (ps_if (PW.pt (pw_or (pt_cmpR op_isN (pe_ix ix_tup (pv 5) (pv 1) (fun _ _ => rfl)) pe_non (nomark _)) (pw_or1 (PW.pt (pw_and (pt_cmpR op_notN (pe_ix ix_tup (pv 5) (pv 2) (fun _ _ => rfl)) pe_non (nomark _))
            (pw_and1 (pt_cmpR op_le (pe_ix ix_tup (pv 5) (pv 2) (fun _ _ => rfl)) (pe_op op_add (pe_ix ix_tup (pv 5) (pv 1) (fun _ _ => rfl)) (pv 3)) (nomark _))))))))
          (pss_one (ps_expr (pe_bm PySem.F.plainAttrs_list PySem.F.slot_list_append PySem.F.type_list_append mt_append (pv 4) (pa_cons (pv 5) pa_nil))))
          (pss_one (ps_expr (pe_bm PySem.F.plainAttrs_list PySem.F.slot_list_append PySem.F.type_list_append mt_append (pv 4)
            (pa_cons (pe_call GL hr rfl mL FL.kp bL .nil pass0 (pa_cons (pv 5) (pa_cons (pe_op op_add (pe_ix ix_tup (pv 5) (pv 1) (fun _ _ => rfl)) (pv 3)) (pa_cons (pe_ix ix_tup (pv 0) (pv 2) (fun _ _ => rfl)) pa_nil)))) pa_nil)))))))
      (pss_one (ps_ret (pe_callTy call_tuple_of (by rfl) T.tuple (by decide +kernel) (pa_cons (pv 4) pa_nil))))), ?_⟩
    refine ⟨Nat.zero_le _, fun l hl => ?_⟩
    have hM1 : MatAt K (upd H l (.lst [])) a B := hM.same (Same.new hl)
    obtain ⟨as, m1, m2, m3⟩ := id hM
    have s1 : Same H (upd H l (.lst [])) := Same.new hl
    refine ⟨_, rfl, a, rfl, ⟨_, Same.tup s1 m2⟩, for_it (walk_tup (K := K) (a := a)) (fun i σ H' => ∃ (ps : List Addr) (v : Option V), σ = [some (.ref a), some (.int x), some (.int y), some (.int c), some (.ref l), v] ∧ Same H H' ∧ H' l = some (.lst (ps.map V.ref)) ∧ RowsAt K H' ps ((B.take i).map (tightRow B x y c)))
      ⟨[], none, rfl, s1, upd_same, RowsAt.nil⟩ (fun i σ H' _ ⟨_, _, _, q, _⟩ => Same.tup q m2) ?_ ?_⟩
    · rintro i v σ H1 H2 hi ⟨ps, v0, rfl, q1, q2, q3⟩ ⟨rfl, hv⟩
      obtain ⟨p, hp, rfl⟩ := get_map hv
      have hi' : i < B.length := by rw [List.length_map] at hi; omega
      have hB : B[i]? = some B[i] := List.getElem?_eq_getElem hi'
      have hin : i < n := by rw [← hS.1]; exact hi'
      have hR : RowAt K H2 p B[i] := Same.tup q1 (m3 i p _ hp hB)
      have hlen : B[i].length = n := hS.2 _ (List.getElem_mem hi')
      have gx : ((B[i]).map cV)[x]? = some (cV (((B[i])[x]?).getD none)) := by
        rw [List.getElem?_map, List.getElem?_eq_getElem (by omega)]; rfl
      have gy : ((B[i]).map cV)[y]? = some (cV (((B[i])[y]?).getD none)) := by
        rw [List.getElem?_map, List.getElem?_eq_getElem (by omega)]; rfl
      have pl : ps.length = i := by
        have := q3.1
        rw [List.length_map, List.length_take, Nat.min_eq_left (Nat.le_of_lt hi')] at this
        exact this
      have hnl : ps.length < sizeLine := small1000 (by omega)
      obtain ⟨xs, pu, w1, w2, w3⟩ := hM.row hS hy
      have ht : (B.take (i + 1)).map (tightRow B x y c) = (B.take i).map (tightRow B x y c) ++ [tightRow B x y c B[i]] := by
        rw [take_snoc hB, List.map_append]; rfl
      -- rows.append(row)
      have keep : tightRow B x y c B[i] = B[i] → (fun (Z : Hp → Prop) => Z (upd H2 l (.lst (ps.map V.ref ++ [.ref p])))) fun H3 => ∃ (ps : List Addr) (v : Option V), [some (.ref a), some (.int x), some (.int y), some (.int c), some (.ref l), some (.ref p)] = [some (V.ref a), some (.int x), some (.int y), some (.int c), some (.ref l), v] ∧ Same H H3 ∧ H3 l = some (.lst (ps.map V.ref)) ∧ RowsAt K H3 ps ((B.take (i + 1)).map (tightRow B x y c)) := by
        intro e
        refine ⟨ps ++ [p], _, rfl, Same.set q1 hl, ?_, ?_⟩
        · rw [upd_same, List.map_append]; rfl
        · rw [ht, e]
          exact (q3.but q2 But.set).snoc (Same.tup (Same.set q1 hl) (m3 i p _ hp hB))
      refine ⟨_, rfl, _, rfl, _, _, _, _, rfl, rfl, hR, atI_nat gx, rfl, _, rfl, ?_⟩
      cases eA : ((B[i])[x]?).getD none with
      | none =>
        rw [eA] at gx
        refine iteDT rfl (iteT ⟨_, rfl, .inl ⟨rfl, _, SqL.of q2⟩, _, rfl, l, _, _, rfl, rfl, q2, by rw [List.length_map]; exact hnl, ?_⟩)
        refine keep ?_
        unfold tightRow skips
        rw [eA]; rfl
      | some a0 =>
        rw [eA] at gx
        refine iteDF (fun e => nomatch e) ?_
        refine ⟨_, rfl, _, rfl, _, _, _, _, rfl, rfl, hR, atI_nat gy, rfl, _, rfl, ?_⟩
        cases eB : ((B[i])[y]?).getD none with
        | none =>
          rw [eB] at gy
          refine iteNS rfl (iteF ?_)
          refine ⟨_, rfl, .inl ⟨rfl, _, SqL.of q2⟩, _, rfl, _, rfl, _, rfl, _, _, _, _, rfl, rfl, hR, atI_nat gx, _, rfl, _, _, rfl, rfl, _, rfl, _, rfl, _, _, _, _, rfl, rfl, Same.tup q1 w1, atI_nat w2, ?_⟩
          refine ⟨p, _, _, _, _, rfl, hR, Same.tup q1 w3, by rw [hlen, hS.rowAt hy], by omega, fun H3 u s3 hu => ⟨l, _, _, rfl, rfl, s3 _ _ q2, by rw [List.length_map]; exact hnl, ?_⟩⟩
          refine ⟨ps ++ [u], _, rfl, Same.set (q1.trans s3) hl, ?_, ?_⟩
          · rw [upd_same, List.map_append]; rfl
          · rw [ht]
            refine ((q3.same s3).but (s3 _ _ q2) But.set).snoc ?_
            have e : tightRow B x y c B[i] = lesserRow B[i] (a0 + c) (rowAt B y) := by
              unfold tightRow skips
              rw [eA, eB]
              rfl
            rw [e]
            exact row_upd (s3 _ _ q2) hu
        | some b0 =>
          rw [eB] at gy
          refine iteNF (fun e => nomatch e) ?_
          refine ⟨_, rfl, _, rfl, _, _, _, _, rfl, rfl, hR, atI_nat gy, _, rfl, _, rfl, _, _, _, _, rfl, rfl, hR, atI_nat gx, _, rfl, _, _, rfl, rfl, _, _, rfl, rfl, _, rfl, ?_⟩
          by_cases g : b0 ≤ a0 + c
          · refine iteDT g ⟨_, rfl, .inl ⟨rfl, _, SqL.of q2⟩, _, rfl, l, _, _, rfl, rfl, q2, by rw [List.length_map]; exact hnl, ?_⟩
            refine keep ?_
            unfold tightRow skips
            rw [eA, eB]
            simp [g]
          · refine iteDF g ?_
            refine ⟨_, rfl, .inl ⟨rfl, _, SqL.of q2⟩, _, rfl, _, rfl, _, rfl, _, _, _, _, rfl, rfl, hR, atI_nat gx, _, rfl, _, _, rfl, rfl, _, rfl, _, rfl, _, _, _, _, rfl, rfl, Same.tup q1 w1, atI_nat w2, ?_⟩
            refine ⟨p, _, _, _, _, rfl, hR, Same.tup q1 w3, by rw [hlen, hS.rowAt hy], by omega, fun H3 u s3 hu => ⟨l, _, _, rfl, rfl, s3 _ _ q2, by rw [List.length_map]; exact hnl, ?_⟩⟩
            refine ⟨ps ++ [u], _, rfl, Same.set (q1.trans s3) hl, ?_, ?_⟩
            · rw [upd_same, List.map_append]; rfl
            · rw [ht]
              refine ((q3.same s3).but (s3 _ _ q2) But.set).snoc ?_
              have e : tightRow B x y c B[i] = lesserRow B[i] (a0 + c) (rowAt B y) := by
                unfold tightRow skips
                rw [eA, eB]
                simp [g]
              rw [e]
              exact row_upd (s3 _ _ q2) hu
    · rintro σ H1 ⟨ps, v0, rfl, q1, q2, q3⟩
      have e : (B.take (as.map V.ref).length) = B := by rw [List.length_map, m1, List.take_length]
      rw [e] at q3
      exact ⟨_, rfl, l, _, rfl, .inl ⟨SqL.of q2, fun p hp => k _ p (q1.trans (Same.new hp)) (MatAt.of tup_at (q3.same (Same.new hp)))⟩⟩
end
end K1
end
section
set_option maxRecDepth 100000
set_option maxHeartbeats 4000000
namespace K1
open PySem L2 K01
section
variable {P : Program} {w : World} {K : PySem.W.Frag} {mg : Str → Option Value} {base : Heap}
abbrev sKept : Stmt := top 4
def kept (B : Mat) (x y : Nat) (c : Int) : Bool := match cell B x y with | none => false | some b => decide (b ≤ c)
def spKept (K : PySem.W.Frag) : Sp := fun vs H Q _ => ∃ (a : Addr) (B : Mat) (n x y : Nat) (c : Int), vs = [.ref a, .int x, .int y, .int c] ∧ MatAt K H a B ∧ Sized n B ∧ x < n ∧ y < n ∧ Q (.bl (kept B x y c)) H
theorem scKept : FnScope ["bounds", "x", "y", "number", "most"] ["bounds", "x", "y", "number"] (defScope sKept) := ⟨rfl, rfl, rfl, by decide +kernel, rfl, by decide +kernel, by decide +kernel⟩
theorem ok_kept {f : Addr} {fd : FuncData} (F : Fun K "is_kept" "is_kept" sKept f fd) : FnOk P w K mg base CX0 1 f fd ["bounds", "x", "y", "number"] (spKept K) := by
  refine F.ok scKept (fun vs H Q E h => ?_) (fun cdv A outer s H vs Q E hr h => ?_)
  · obtain ⟨_, _, _, _, _, _, rfl, _⟩ := h
    rfl
  · obtain ⟨a, B, n, x, y, c, rfl, M, S, hx, hy, k⟩ := h
    refine ⟨_, pss_cons (ps_set (i := 4) scKept.nd rfl (.inl rfl) (pe_ix ix_tup (pe_ix ix_tup (pv 0) (pv 1) (fun _ _ => rfl)) (pv 2) (fun _ _ => rfl)))
      (pss_one (ps_ret (pe_and (pe_cmpR op_notN (pv 4) pe_non (nomark _)) (pe_one (pe_cmpR op_le (pv 4) (pv 3) (nomark _)))))), ?_⟩
    obtain ⟨xs, p, h1, h2, h3⟩ := M.row S hx
    refine ⟨_, rfl, _, rfl, _, _, _, _, rfl, rfl, h1, atI_nat h2, _, rfl, _, _, _, _, rfl, rfl, h3, atI_nat (row_cell S hx hy), _, rfl, rfl, _, rfl, ?_⟩
    unfold kept at k
    cases q : cell B x y with
    | none =>
      rw [q] at k
      exact iteF k
    | some b =>
      rw [q] at k
      refine iteT ?_
      exact ⟨_, rfl, _, rfl, _, _, rfl, rfl, k⟩
abbrev sFree : Stmt := top 2
def spFree (K : PySem.W.Frag) : Sp := fun vs H Q _ => ∃ (m : Nat), vs = [.int m] ∧ m ≤ 100 ∧ ∀ H' p, Same H H' → MatAt K H' p (freeM m) → Q (.ref p) H'
theorem scFree : FnScope ["many", "rows", "mark", "spot"] ["many"] (defScope sFree) := ⟨rfl, rfl, rfl, by decide +kernel, rfl, by decide +kernel, by decide +kernel⟩
theorem ok_free {f : Addr} {fd : FuncData} (F : Fun K "free_bounds" "free_bounds" sFree f fd) (T : Bi mg) : FnOk P w K mg base CX0 1 f fd ["many"] (spFree K) := by
  refine F.ok scFree (fun vs H Q E h => ?_) (fun cdv A outer s H vs Q E hr h => ?_)
  · obtain ⟨_, rfl, _⟩ := h
    rfl
  · obtain ⟨m, rfl, hm, k⟩ := h
    refine ⟨_, pss_cons (ps_set (i := 1) scFree.nd rfl (.inl rfl) (pe_lst (pa_cons (pe_callTy call_tuple_of (by rfl) T.tuple (by decide +kernel) (pa_cons (pe_op op_rep (pe_lst (pa_cons pe_int pa_nil)) (pe_op op_add (pv 0) pe_int)) pa_nil)) pa_nil)))
      (pss_cons (ps_for PassesOwn.never rfl (pi_range2 (by rfl) T.range (pa_cons pe_int (pa_cons (pe_op op_add (pv 0) pe_int) pa_nil))) (pg_name (i := 2) scFree.nd rfl (.inr rfl))
        (pss_one (ps_expr (pe_bm PySem.F.plainAttrs_list PySem.F.slot_list_append PySem.F.type_list_append mt_append (pv 1)
            (pa_cons (pe_callTy call_tuple_of (by rfl) T.tuple (by decide +kernel) (pa_cons
              (pe_lc (own := [("spot", 3)]) (g := gName 3) rfl scFree.nd (pi_range1 (by rfl) T.range (pa_cons (pe_op op_add (pv 0) pe_int) pa_nil)) (blkOk_by (N := ["many", "rows", "mark", "spot"]) (sc := defScope sFree) (by decide +kernel))
                (fun _ _ _ _ _ => pg_name (i := 3) scFree.nd rfl (.inl rfl)) (fun _ _ _ _ _ => pts_nil) (fun _ _ _ _ _ => pe_ifExp (pt_cmpR op_eq (pv 3) (pv 2) (nomark _)) pe_int pe_non)) pa_nil)) pa_nil)))))
      (pss_one (ps_ret (pe_callTy call_tuple_of (by rfl) T.tuple (by decide +kernel) (pa_cons (pv 1) pa_nil))))), ?_⟩
    refine ⟨by show 1 ≤ sizeLine; decide, fun l0 h0 => ?_⟩
    refine ⟨_, rfl, _, _, rfl, rfl, _, _, _, rfl, rfl, upd_same, ?_⟩
    refine ⟨by omega, by omega, ?_, fun l1 h1 => ⟨l1, _, rfl, .inl ⟨SqL.of upd_same, fun t ht => ?_⟩⟩⟩
    · refine Nat.le_of_lt (small1000 ?_)
      show 1 * ((m : Int) + 1).toNat ≤ 1000
      omega
    refine ⟨by show 1 ≤ sizeLine; decide, fun l hl => ?_⟩
    have ez : ((List.replicate ((m : Int) + 1).toNat [V.int 0]).flatten) = (List.replicate (m + 1) (some 0 : Cell)).map cV := by
      have e1 : ((m : Int) + 1).toNat = m + 1 := by omega
      rw [e1, List.map_replicate]
      generalize m + 1 = q
      induction q with
      | zero => rfl
      | succ q ih => rw [List.replicate_succ, List.flatten_cons, ih]; rfl
    have z0 := (((Same.new h0).trans (Same.new h1)).trans (Same.new ht)).trans (Same.new (o := .lst [V.ref t]) hl)
    have hr0 := Same.tup (K := K) (Same.new (o := .lst [V.ref t]) hl) (tup_at (K := K) (H := (upd (upd H l0 (.lst [V.int 0])) l1 (.lst ((List.replicate ((m : Int) + 1).toNat [V.int 0]).flatten)))) (p := t) (xs := ((List.replicate ((m : Int) + 1).toNat [V.int 0]).flatten)))
    have hl0 : H l = none := (Same.free ((Same.new h0).trans ((Same.new h1).trans (Same.new ht))) hl)
    refine ⟨_, rfl, _, _, rfl, rfl, 1, _, rfl, ⟨by decide, by decide, by omega, by omega⟩, ?_⟩
    have em : ((m : Int) + 1 - 1).toNat = m := by omega
    rw [em]
    refine for_range (lo := 1) (n := m) (fun i σ H' => ∃ (ps : List Addr) (v : Option V), σ = [some (.int m), some (.ref l), v, none] ∧ Same H H' ∧ H' l = some (.lst (ps.map V.ref)) ∧ RowsAt K H' ps ((freeM m).take (i + 1))) ?_ ?_ ?_
    · refine ⟨[t], none, rfl, z0, upd_same, ?_⟩
      refine RowsAt.nil.snoc (p := t) ?_
      show SqT K _ t ((List.replicate (m + 1) (some 0 : Cell)).map cV)
      rw [← ez]
      exact hr0
    · rintro i σ H1 hi ⟨ps, v, rfl, q1, q2, q3⟩
      have pl : ps.length = i + 1 := by
        have := q3.1
        rw [List.length_take, (free_sized m).1] at this
        omega
      have hf : (freeM m)[i + 1]? = some ((List.range (m + 1)).map fun s => if s = i + 1 then some 0 else none) := by
        unfold freeM
        rw [List.getElem?_cons_succ, List.getElem?_map, List.getElem?_range hi]
        rfl
      generalize hrf : ((List.range (m + 1)).map fun s => if s = i + 1 then (some 0 : Cell) else none) = rf at hf
      have rl : rf.length = m + 1 := by rw [← hrf]; simp
      refine ⟨_, rfl, .inl ⟨rfl, _, SqL.of q2⟩, _, rfl, _, _, rfl, rfl, _, rfl, by omega, by omega, fun D hD => ?_⟩
      have em1 : ((m : Int) + 1).toNat = m + 1 := by omega
      rw [em1]
      refine lc_it (walk_range (lo := 0) (n := m + 1)) (fun j H' => Same H1 H' ∧ H' D = some (.lst ((rf.take j).map cV))) ⟨Same.new hD, upd_same⟩ (fun _ _ _ _ => trivial) ?_ ?_
      · rintro j v' H2 H3 hj ⟨s1, s2⟩ ⟨rfl, rfl⟩
        refine ⟨rfl, yes_ ⟨_, rfl, _, rfl, rfl, _, rfl, ?_⟩⟩
        have hg : rf[j]? = some (if j = i + 1 then some 0 else none) := by
          rw [← hrf, List.getElem?_map, List.getElem?_range hj]
          rfl
        have fin : ∀ {z}, z = cV (if j = i + 1 then some 0 else none) → ∃ acc, H3 D = some (HO.lst acc) ∧ acc.length < sizeLine ∧ (Same H1 (upd H3 D (.lst (acc ++ [z]))) ∧ (upd H3 D (.lst (acc ++ [z]))) D = some (.lst ((rf.take (j + 1)).map cV))) := by
          intro z hz
          refine ⟨_, s2, ?_, Same.set s1 hD, ?_⟩
          · rw [List.length_map, List.length_take]
            exact Nat.lt_of_le_of_lt (Nat.min_le_left _ _) (small1000 (by omega))
          · rw [upd_same, take_snoc hg, List.map_append, hz]
            rfl
        by_cases e : j = i + 1
        · refine iteDT (congrArg V.int (by omega)) (fin (by rw [if_pos e]; rfl))
        · refine iteDF (fun q => e ?_) (fin (by rw [if_neg e]; rfl))
          have q' := V.int.inj q
          omega
      · rintro H2 ⟨s1, s2⟩
        refine ⟨D, _, rfl, .inl ⟨SqL.of s2, fun u hu => ⟨l, _, _, rfl, rfl, Same.new hu _ _ (s1 _ _ q2), ?_, ?_⟩⟩⟩
        · rw [List.length_map]; exact small1000 (by omega)
        · have s3 : Same H1 (upd H2 u (.tup ((rf.take (m + 1)).map cV))) := s1.trans (Same.new hu)
          refine ⟨ps ++ [u], _, rfl, Same.set (q1.trans s3) hl0, ?_, ?_⟩
          · rw [upd_same, List.map_append]; rfl
          · rw [take_snoc hf]
            refine ((q3.same s3).but (s3 _ _ q2) But.set).snoc ?_
            have e : rf.take (m + 1) = rf := by rw [← rl, List.take_length]
            have := row_upd (K := K) (ys := ps.map V.ref ++ [.ref u]) (s3 _ _ q2) (tup_at (K := K) (H := H2) (p := u) (xs := (rf.take (m + 1)).map cV))
            rw [e] at this ⊢
            exact this
    · rintro σ H1 ⟨ps, v, rfl, q1, q2, q3⟩
      have e : (freeM m).take (m + 1) = freeM m := by rw [← (free_sized m).1, List.take_length]
      rw [e] at q3
      exact ⟨_, rfl, l, _, rfl, .inl ⟨SqL.of q2, fun p hp => k _ p (q1.trans (Same.new hp)) (MatAt.of tup_at (q3.same (Same.new hp)))⟩⟩
end
end K1
end
section
set_option maxRecDepth 100000
set_option maxHeartbeats 4000000
namespace K1
open PySem L2 K01
section
variable {P : Program} {w : World} {K : PySem.W.Frag} {mg : Str → Option Value} {base : Heap}
abbrev sBarred : Stmt := top 3
def barred (B : Mat) (x y : Nat) (c : Int) : Bool := match cell B y x with | none => false | some b => decide (b + c < 0)
def spBarred (K : PySem.W.Frag) : Sp := fun vs H Q _ => ∃ (a : Addr) (B : Mat) (n x y : Nat) (c : Int), vs = [.ref a, .int x, .int y, .int c] ∧ MatAt K H a B ∧ Sized n B ∧ x < n ∧ y < n ∧ Q (.bl (barred B x y c)) H
theorem scBarred : FnScope ["bounds", "x", "y", "number", "back"] ["bounds", "x", "y", "number"] (defScope sBarred) := ⟨rfl, rfl, rfl, by decide +kernel, rfl, by decide +kernel, by decide +kernel⟩
theorem ok_barred {f : Addr} {fd : FuncData} (F : Fun K "is_barred" "is_barred" sBarred f fd) : FnOk P w K mg base CX0 1 f fd ["bounds", "x", "y", "number"] (spBarred K) := by
  refine F.ok scBarred (fun vs H Q E h => ?_) (fun cdv A outer s H vs Q E hr h => ?_)
  · obtain ⟨_, _, _, _, _, _, rfl, _⟩ := h
    rfl
  · obtain ⟨a, B, n, x, y, c, rfl, M, S, hx, hy, k⟩ := h
    refine ⟨_, pss_cons (ps_set (i := 4) scBarred.nd rfl (.inl rfl) (pe_ix ix_tup (pe_ix ix_tup (pv 0) (pv 2) (fun _ _ => rfl)) (pv 1) (fun _ _ => rfl)))
      (pss_one (ps_ret (pe_and (pe_cmpR op_notN (pv 4) pe_non (nomark _)) (pe_one (pe_cmpR op_lt (pe_op op_add (pv 4) (pv 3)) pe_int (nomark _)))))), ?_⟩
    obtain ⟨xs, p, h1, h2, h3⟩ := M.row S hy
    refine ⟨_, rfl, _, rfl, _, _, _, _, rfl, rfl, h1, atI_nat h2, _, rfl, _, _, _, _, rfl, rfl, h3, atI_nat (row_cell S hy hx), _, rfl, rfl, _, rfl, ?_⟩
    unfold barred at k
    cases q : cell B y x with
    | none =>
      rw [q] at k
      exact iteF k
    | some b =>
      rw [q] at k
      refine iteT ?_
      exact ⟨_, rfl, _, rfl, _, _, rfl, rfl, _, _, rfl, rfl, k⟩
end
end K1
end
section
set_option maxRecDepth 100000
set_option maxHeartbeats 2000000
namespace PySem
open PySem.Spec PyProof.Rows
section
variable {prog : Program} {w : World} {A : Around} {E : Value → Shared → Prop} {s : Shared}
/-- x's repr is some text of at most b signs, while h₀'s objects stand -/
def K1Rep (prog : Program) (w : World) (h₀ : Heap) (x : Value) (b : Nat) : Prop :=
  ∀ (n : Nat), n + b ≤ sizeLine → ∀ (A : Around) (E : Value → Shared → Prop) (s : Shared) (Q : Str → Shared → Prop), A.units + 3 < cLine → (∀ c o, h₀.get? c = some o → s.heap.get? c = some o) →
    (∀ t tk, t.length ≤ b → Q t { s with toks := tk }) → wpAny (model prog w) A (pyReprUnder n x) Q E s
theorem K1Rep.tuple {h₀ : Heap} {a : Addr} {o : Obj} {items : Array Value} {m : Nat} {ts : List Str} {b : Nat} (ha : h₀.get? a = some o) (hc : o.cls = .type "tuple") (hd : o.data = .seq items m) (hT : ReprAll prog w items.toList ts) (hb : (tupleText ts).length + 5 ≤ b) :
    K1Rep prog w h₀ (.ref a) b := by
  intro n hn A E s Q hu hk0 hQ
  refine wpAny_pyReprUnder_ref (by omega) (wpAny_pyReprObjUnder_twin (twin := "tuple.__repr__.under") ⟨o, hk0 _ _ ha, hc⟩ F.slot_tuple_repr rfl (by omega) ?_)
  refine call_twin_own (F.quiet_tuple_repr_under _) F.entry_tuple_repr_under F.check_tuple_repr_under ⟨o, hk0 _ _ ha, hc⟩ F.slot_tuple_repr (F.args_tuple_repr_1 _) (wpOwn_of_wpAny ?_)
  rw [tuple_repr_tree]
  refine wpAny_bind (fmt_underWay fun c => ?_)
  cases c with
  | true =>
    refine PySem.W.KFB.if_so rfl ?_
    refine wpAny_bind (wpAny_rule ?_)
    refine wpAny_bind (wpAny_mkStr (wpAny_pure ?_) (by decide +kernel))
    exact ⟨⟨_, _, rfl⟩, _, _, rfl, hQ "(...)" _ (Nat.le_trans fmt_way (by omega))⟩
  | false =>
    refine PySem.W.KFB.if_not rfl ?_
    exact wpAny_tupleReprRest (hk0 _ _ ha) hd hT (fun u tk => ⟨⟨_, _, rfl⟩, _, _, rfl, hQ (tupleText ts) tk (by omega)⟩) (by omega)
inductive K1Reps (prog : Program) (w : World) (h₀ : Heap) (b : Nat) : List Value → Prop
  | nil : K1Reps prog w h₀ b []
  | cons {x : Value} {l : List Value} : K1Rep prog w h₀ x b → K1Reps prog w h₀ b l → K1Reps prog w h₀ b (x :: l)
theorem k1_tupFold {h₀ : Heap} {b : Nat} (hu : A.units + 3 < cLine) : ∀ (l : List Value) (acc : Array Str) (n : Nat) (s : Shared) (Q : (Array Str × Nat) → Shared → Prop), K1Reps prog w h₀ b l → n + l.length * (b + 2) ≤ sizeLine →
    (∀ c o, h₀.get? c = some o → s.heap.get? c = some o) →
    (∀ ts tk, ts.length = l.length → piled ts ≤ l.length * (b + 2) → Q ⟨acc ++ ts.toArray, n + piled ts⟩ { s with toks := tk }) → wpAny (model prog w) A (forIn l (⟨acc, n⟩ : (Array Str × Nat)) tupBody) Q E s := by
  intro l
  induction l with
  | nil =>
    intro acc n s Q hT hn hk h
    have h0 := h [] s.toks rfl (by simp [piled])
    simp only [List.forIn_nil]
    exact wpAny_pure (by simpa [piled] using h0)
  | cons x l ih =>
    intro acc n s Q hT hn hk h
    cases hT with
    | cons hx hl =>
      have hn' : n + (l.length * (b + 2) + (b + 2)) ≤ sizeLine := by
        rw [List.length_cons, Nat.add_mul, Nat.one_mul] at hn
        exact hn
      rw [List.forIn_cons]
      refine wpAny_bind (wpAny_bind (hx (n + 1) (by omega) _ _ _ _ hu hk fun t tk ht => wpAny_pure ?_))
      refine ih (acc.push t) (n + (t.length + 2)) _ Q hl (by omega) hk fun ts tk' hts hp => ?_
      have h1 := h (t :: ts) tk' (by simp [hts]) (by rw [piled_cons, List.length_cons, Nat.add_mul, Nat.one_mul]; omega)
      have e : n + piled (t :: ts) = n + (t.length + 2) + piled ts := by rw [piled_cons]; omega
      rw [e] at h1
      simpa using h1
/-- {t}, t a tuple of such: some text -/
theorem k1_fmt {h₀ : Heap} {a : Addr} {o : Obj} {items : Array Value} {n b : Nat} {Q : Value → Shared → Prop} (hu : A.units + 8 < cLine) (ha : s.heap.get? a = some o) (hc : o.cls = .type "tuple") (hd : o.data = .seq items n) (hT : K1Reps prog w s.heap b items.toList)
    (hsz : items.size * (b + 2) + 10 ≤ sizeLine) (h : ∀ (m : Str) (u tk : Tok), m.length ≤ items.size * (b + 2) + 10 → Q (.str m u) { s with toks := tk }) : wpAny (model prog w) A (formatField (.ref a) Str.empty) Q E s := by
  refine wpAny_formatField_slot (fun _ _ => nofun) (by omega) ⟨o, ha, hc⟩ F.slot_tuple_format F.slot_tuple_str F.slot_tuple_repr ?_
  refine wpAny_call (codeAny_call_builtin_own (Code.quiet_builtin _ (by decide +kernel)) F.entry_tuple_repr (F.slot_tuple_repr.check _ _ _ _ _ _ _ _ ⟨o, ha, hc⟩ (F.args_tuple_repr_1 _) (wpOwn_of_wpAny ?_)))
  show wpAny _ _ (Builtin.tupleReprAt 0 ⟨[.ref a], []⟩) _ _ _
  rw [tuple_repr_tree]
  refine wpAny_bind (fmt_underWay fun c => ?_)
  cases c with
  | true =>
    refine PySem.W.KFB.if_so rfl ?_
    refine wpAny_bind (wpAny_rule ?_)
    refine wpAny_bind (wpAny_mkStr (wpAny_pure ?_) (by decide +kernel))
    exact ⟨"(...)", _, rfl, h "(...)" _ _ (Nat.le_trans fmt_way (by omega))⟩
  | false =>
    refine PySem.W.KFB.if_not rfl ?_
    unfold tupleReprRest Builtin.Tuple.tupleItemsOf
    refine wpAny_bind (wpAny_bind (wpAny_seqItems ha hd (wpAny_pure ?_)))
    rw [← Array.forIn_toList]
    refine wpAny_bind (k1_tupFold (h₀ := s.heap) (b := b) ?_ _ _ _ _ _ hT (by simpa using (by omega : 0 + items.size * (b + 2) ≤ sizeLine)) (fun _ _ e => e) fun ts tk hts hp => ?_)
    · rw [units_under_tuple_repr]
      show A.units + 1 + 1 + 1 + 3 < cLine
      omega
    · have hlen : ts.length = items.size := by simpa using hts
      have hft := fmt_text ts
      have hp' : piled ts ≤ items.size * (b + 2) := by simpa using hp
      refine wpAny_bind (wpAny_mkStr (wpAny_pure ?_) ?_)
      · refine ⟨_, _, rfl, ?_⟩
        have t := h (tupleText ts) tk (tk + 1) (by omega)
        simpa [tupleText, hlen] using t
      · have : (tupleText ts).length ≤ sizeLine := by omega
        simpa [tupleText, hlen] using this
end
end PySem
end
section
set_option maxRecDepth 100000
set_option maxHeartbeats 4000000
namespace PySem
namespace K1X
open PySem.W PySem.Calls PyProof.Rows PySem.HandSPX PySem.Spec
section
variable {prog : Program} {w : World} {A : Around} {E : Value → Shared → Prop} {h : Heap} {g : Array GenState} {d : Drawn} {t : Nat} {os : OsState}
variable {nm q : Str} {C N : Addr} {bs bm : List Value} {hdct : Bool} {sn : List Str} {sub : List Value} {ab : Bool} {col : Option Bool} {dd : Option Addr} {k0 k1 k2 k3 k5 : Option Value}
theorem vcall {u e t0 : Addr} {rest : List Value} {Q : Value → Shared → Prop}
    (hC : h.get? C = some (excClassObj nm q C N bs bm hdct sn sub ab col dd k0 k1 k2 k3 k5 "ValueError.__new__")) (he : h.get? e = some (HandSPX.excO C t0)) (hu : h.get? u = some (kxs_mw "ValueError.__init__" e)) (hrest : rest.length ≤ sizeLine)
    (hq : ∀ h' t1, (∀ b o, b ≠ e → h.get? b = some o → h'.get? b = some o) → h'.get? e = some (HandSPX.excO C t1) → Q .none ⟨h', g, d, t, os⟩) :
    wpAny (model prog w) A (call (.ref u) rest) Q E ⟨h, g, d, t, os⟩ := by
  refine wpAny_call (codeAny_of_tree ?_)
  show wpAny _ A.in1 (callAny (.ref u) ⟨rest, []⟩) _ _ _
  simp only [callAny]
  refine wpAny_bind (wpAny_load hu ?_)
  simp only [kxs_mw, show (Value.type "method-wrapper" == Value.type "method" || Value.type "method-wrapper" == Value.type "builtin_function_or_method" || Value.type "method-wrapper" == Value.type "method-wrapper") = true by decide, if_true]
  refine W.KFB.if_so (by decide) ?_
  refine wpAny_bind (ESX.check_bound F.excBase_ValueError hC he rfl ?_)
  refine wpAny_bind (wpAny_pure (wpAny_pure ?_))
  refine ⟨Code.quiet_builtin _ (by decide +kernel), codeAny_builtin F.excBase_ValueError.initEntry ?_⟩
  rw [Around.under_plainId F.excBase_ValueError.init.plain _]
  wp_walk
  refine hq _ h.objs.size (fun b o hb ho => ?_) ?_
  · rw [Heap.get?_update_other _ _ (Ne.symm hb)]
    exact Heap.get?_push_of_some _ ho
  · rw [Heap.get?_update_self _ (Heap.get?_push_of_some _ he) rfl]
    rfl
end
/-- what __init__ leaves of a fresh exception at x -/
structure InitEnd (h h' : Heap) (x C dx : Addr) (fld : Str) (v : Value) : Prop where
  keep : ∀ b o, b ≠ x → h.get? b = some o → h'.get? b = some o
  obj : ∃ t1 : Addr, h'.get? x = some { cls := .ref C, dict := some dx, data := .fields #[.ref t1, .none, .none, .none, .bool false, .none] }
  dbig : h.objs.size ≤ dx
  dne : dx ≠ x
  ns : h'.Ns1 dx (fun y => if y = fld then some v else none)
section
variable {P : Program} {w : World} {A : Around} {R : Result → Shared → Prop} {s : Shared} {K : Frag} {mg : Str → Option Value} {C fI cc cda e t0 : Addr} {fld qual : Str} {js : Expr} {p0 p1 p2 p3 p4 p5 p6 p7 p8 : Pos}
theorem init_super {params : Arguments} {scope : Scope} {ar : Arg} {oc doc pm ct ccl cl : Value} {od an cdd cld : Option Addr} {osl ccs csl : Array (Option Value)} {vs : Array Value} {file : Str} {tf : Tok} {v : Value}
    {nm q : Str} {N : Addr} {bs bm : List Value} {sn : List Str} {sub : List Value} {ab : Bool} {col : Option Bool} {dd : Option Addr} {k0 k1 k2 k3 k5 : Option Value}
    (X : K.In s.heap) (hlim : s.heap.NoLimit) (G : s.heap.Ns mainGlobals mg) (Bt : ∃ mb, s.heap.Ns builtinsNs mb ∧ ∀ x : Str, x ≠ "__name__" → mb x = bootBuiltins x) (hsup : mg "super" = none)
    (hC : K.lookup C = some (excClassObj nm q C N bs bm true sn sub ab col dd k0 k1 k2 k3 k5 "ValueError.__new__")) (hbm : refsVE bm = true) (sa : findIn K (.ref C) "__setattr__" = some (some (.builtin "object.__setattr__"))) (noN : findIn K (.ref C) fld = some none)
    (vE : subIn K (.ref C) (.type "ValueError") = some true) (su : ks_superIn K C C "__init__" = some (some (.builtin "ValueError.__init__"))) (mr : mroIn K C (.ref C) = some true) (st : nsIn K cStatics "thirdparty.any" = some none)
    (ho : K.lookup fI = some ⟨oc, od, .func (ksFn "__init__" qual params [.Expr (.Call (.Attribute (.Call (.Name "super" p0) [] [] p1) "__init__" p2) [js] [] p3) p4, .Assign [.Attribute (.Name "self" p5) fld p6] (.Name fld p7) p8] scope .none .none doc pm an (.ref cda) ct cc), osl⟩)
    (hcd : codeIn K (.ref cda) qual = true) (hcode : K.lookup cda = some ⟨ccl, cdd, .fields vs, ccs⟩) (hvs : vs[2]? = some (.str file tf)) (hfile : ((P.main.file : Str) == file) = true) (hcell : K.lookup cc = some ⟨cl, cld, .cell (some (.ref C)), csl⟩)
    (hp : (params.posonlyargs ++ params.args).head? = some ar) (har : ar.arg = "self") (hfs : fld ≠ "self") (hdf : (fld == ("__debug__" : Str)) = false)
    (hbind : ∀ s' : Shared, BindsTo s' (ksFn "__init__" qual params [.Expr (.Call (.Attribute (.Call (.Name "super" p0) [] [] p1) "__init__" p2) [js] [] p3) p4, .Assign [.Attribute (.Name "self" p5) fld p6] (.Name fld p7) p8] scope .none .none doc pm an (.ref cda) ct cc) ⟨[.ref e, v], []⟩ [("self", .ref e), (fld, v)])
    (hks : scope.names.lookup ("super" : Str) = some .globalImplicit) (hkc : scope.names.lookup ("__class__" : Str) = some .free) (hka : scope.names.lookup ("self" : Str) = some .local) (hkf : scope.names.lookup fld = some .local) (hk : scope.kind = .function)
    (hnc : ∀ x ∈ scope.names, x.2 ≠ .cell) (hco : scope.isCoroutine = false) (hgen : scope.isGenerator = false) (htop : (P.main.scope.names.lookup ("super" : Str)).isSome = false)
    (hst : ∀ env : Env, starEach [js] env = [(false, eval js env)])
    (hin : ∀ L : Addr, interactive (ksEnv qual scope L fI (.ref cda) cc) = false)
    (hsw : ∀ (f L : Addr), swapsWith (.Call (.Attribute (.Call (.Name "super" p0) [] [] p1) "__init__" p2) [js] [] p3) none p4.line (ksEnv qual scope L f (.ref cda) cc) = pure false)
    {pl : Addr → Sem Bool} (hev : ∀ L : Addr, eval (.Call (.Attribute (.Call (.Name "super" p0) [] [] p1) "__init__" p2) [js] [] p3) (ksEnv qual scope L fI (.ref cda) cc) = (do
      let ov ← attributeBase (.Call (.Name "super" p0) [] [] p1) "__init__" (ksEnv qual scope L fI (.ref cda) cc) (eval (.Call (.Name "super" p0) [] [] p1) (ksEnv qual scope L fI (.ref cda) cc))
      standAt p2.atName
      let (f, first) ← holding [ov] (getMethod ov "__init__" (pl L))
      callWith p3 f first (backTo p3 (starEach [js] (ksEnv qual scope L fI (.ref cda) cc))) []))
    (hjs : ∀ (L : Addr) (B : Around) (EE : Value → Shared → Prop) (s' : Shared) (Q : Value → Shared → Prop), s'.heap.Ns L (fun x => ([("self", Value.ref e), (fld, v)] : List (Str × Value)).reverse.lookup x) → (∀ b o, s.heap.get? b = some o → s'.heap.get? b = some o) → B.units ≤ A.units + 20 →
      (∀ y tk tk', Q (.str y tk) { s' with toks := tk' }) → wpAny (model P w) B (eval js (ksEnv qual scope L fI (.ref cda) cc)) Q EE s')
    (hx : s.heap.get? e = some (excO C t0)) (hnx : K.lookup e = none) (hroom : A.depth < recursionLimit)
    (hq : ∀ h' tk dx, InitEnd s.heap h' e C dx fld v → R (.ok (.ret .none)) { s with heap := h', toks := tk }) :
    codeAny (model P w) A (.call (.ref fI) ⟨[.ref e, v], []⟩) R s := by
  have hcl : clsIn K C = some { name := nm, bases := bs, mro := .ref C :: bm, ns := N, qualname := q, hasDict := true, slotNames := sn, subclasses := sub, abstract := ab, collection := col, hasDel := false } := by unfold clsIn; rw [hC] <;> rfl
  have hlocs : ∀ y ∈ ([("self", Value.ref e), (fld, v)] : List (Str × Value)), scope.names.lookup y.1 = some .local := by
    intro y hy
    rcases List.mem_cons.mp hy with rfl | hy
    · exact hka
    · rcases List.mem_cons.mp hy with rfl | hy
      · exact hkf
      · cases hy
  refine ks_codeAny_call_defAt (fd := ksFn "__init__" qual params _ scope .none .none doc pm an (.ref cda) ct cc) (binds := [("self", .ref e), (fld, v)]) hroom (X _ _ ho) rfl hlim (codeRec_of X hcd) rfl (hbind s) hnc hlocs (fun h₁ hns k => ?_) hco hgen hk
  show wpAt (model P w) _ (.func _ (ksEnv qual scope s.heap.objs.size fI (.ref cda) cc)) (execs _ (ksEnv qual scope s.heap.objs.size fI (.ref cda) cc)) _ _ _
  have X₁ : K.In h₁ := X.keeps k
  have hx₁ := k _ _ hx
  obtain ⟨mb, Bn, Bv⟩ := Bt
  have hself : ([("self", Value.ref e), (fld, v)] : List (Str × Value)).reverse.lookup ("self" : Str) = some (.ref e) := by
    have h1 : ((("self" : Str)) == fld) = false := by simpa using fun z => hfs (Eq.symm z)
    show List.lookup ("self" : Str) [(fld, v), (("self" : Str), Value.ref e)] = _
    simp only [List.lookup, h1]
    rfl
  have hfld : ([("self", Value.ref e), (fld, v)] : List (Str × Value)).reverse.lookup fld = some v := by
    show List.lookup fld [(fld, v), (("self" : Str), Value.ref e)] = _
    simp [List.lookup]
  refine ks_wpAt_execs_cons (ks_wpAt_Expr_any (ks_wpAt_MethodCall (pl := pl s.heap.objs.size) ?_ (hev _)) (hin _) (hsw _ _))
  refine ks_wpAt_super_base (env := ksEnv qual scope s.heap.objs.size fI (.ref cda) cc) hks hkc rfl rfl (X₁ _ _ ho) rfl hp rfl (X₁ _ _ hcode) rfl hvs hfile htop ?_
  refine ks_loadName_global hk hks (loadGlobal_builtin (env := ksEnv qual scope s.heap.objs.size fI (.ref cda) cc) (G.keeps k) hsup (Bn.keeps k) ((Bv "super" (by decide)).trans (by decide +kernel)) ⟨rfl, ?_⟩)
  refine wpAny_loadName_free hk hkc rfl ⟨_, X₁ _ _ hcell, rfl⟩ ?_
  rw [har]
  refine wpAny_loadName_local hk hka hns (v := .ref e) hself ?_
  refine ks_wpAny_isType_cls (X₁ _ _ hC) rfl ⟨rfl, ?_⟩
  refine ks_wpAny_call_super (X₁ _ _ hC) rfl hx₁ rfl (fun c z => by cases z) (looks_mroIn X₁ mr) (fun h₂ hso k₂ => ?_)
  have X₂ : K.In h₂ := X₁.keeps k₂
  have hx₂ := k₂ _ _ hx₁
  have I₂ : InstAt h₂ e (excO C t0) C none := ⟨hx₂, rfl, rfl, trivial⟩
  have hI : Looks (model P w) h₂ (isInstance (.ref e) (.type "ValueError")) true := I₂.type.andThen (looks_subIn X₂ vE)
  have su' : alongIn K "__init__" (((Value.ref C :: bm).dropWhile (· != .ref C)).drop 1) = some (some (.builtin "ValueError.__init__")) := by
    unfold ks_superIn at su
    rw [hcl] at su
    exact su
  refine kxs_getMethod kxs_ValueError hso (looks_opaque X₂ st) (l₀ := .ref C :: bm) (fun A Q E s k q => wpAny_bind ((looks_clsIn X₂ hcl) A _ E s k (wpAny_pure q))) rfl X₂ su' hI (ks_ne X₂ I₂ hcl) rfl ?_
  have k3 : ∀ b o, s.heap.get? b = some o → (h₂.push (kxs_mw "ValueError.__init__" e)).get? b = some o := fun b o q => Heap.get?_push_of_some _ (k₂ _ _ (k _ _ q))
  refine kxs_callWith (i := "ValueError.__init__") (x := e) (by rw [hst]; rfl) ?_
  rw [hst]
  refine PySem.Calls.evalArgs_plain ?_
  have ns3 : (h₂.push (kxs_mw "ValueError.__init__" e)).Ns s.heap.objs.size (fun x => ([("self", Value.ref e), (fld, v)] : List (Str × Value)).reverse.lookup x) := by
    obtain ⟨oL, es, ep, hL, r⟩ := hns
    exact ⟨oL, es, ep, Heap.get?_push_of_some _ (k₂ _ _ hL), r⟩
  refine PySem.Calls.spliced_cons (hjs _ _ _ _ _ ns3 k3 ?_ fun y tk tk' => ?_)
  · show A.units + 3 ≤ A.units + 20
    omega
  refine PySem.Calls.spliced_nil ⟨?_, ?_⟩
  · exact Heap.get?_push_at rfl rfl
  refine vcall (t0 := t0) (X₂.keeps (fun _ _ q => Heap.get?_push_of_some _ q) _ _ hC) (Heap.get?_push_of_some _ hx₂) (Heap.get?_push_at rfl rfl) (by rw [sizeLine_eq]; exact (by decide : 1 ≤ 16777216)) fun h₄ t1 k₄ hx₄ => ?_
  have eL : e ≠ s.heap.objs.size := Nat.ne_of_lt (Heap.lt_size hx)
  have X₄ : K.In h₄ := fun a o q => k₄ a o (fun z => by rw [z, hnx] at q; cases q) (Heap.get?_push_of_some _ (X₂ _ _ q))
  have ns4 : h₄.Ns s.heap.objs.size (fun x => ([("self", Value.ref e), (fld, v)] : List (Str × Value)).reverse.lookup x) := by
    obtain ⟨oL, es, ep, hL, r⟩ := ns3
    exact ⟨oL, es, ep, k₄ _ _ (Ne.symm eL) hL, r⟩
  refine wpAt_of_wpAny ?_
  refine wpAny_execs_cons (plainObj_wpAny_Assign_Attribute ?_)
  refine ESX.ldL ns4 hfld (ESX.ldL ns4 hself ?_ hk hka) hk hkf hdf
  refine set_plain X₄ (ox := excO C t1) (od := none) ⟨hx₄, rfl, rfl, trivial⟩ sa ?_
  refine exc_osa X₄ hx₄ hcl (show refsVE (.ref C :: bm) = true from hbm) rfl noN (fun h₅ tk₅ dx k₅ dn dne hx₅ hn₅ => ?_)
  show wpAny _ _ (execs _ _) _ _ _
  have z1 : s.heap.objs.size ≤ dx := by
    have a1 : s.heap.objs.size < h₄.objs.size := by
      obtain ⟨oL, es, ep, hL, r⟩ := ns4
      exact Heap.lt_size hL
    have dn' : h₄.objs.size ≤ dx := dn
    omega
  exact wpAny_execs_nil (hq h₅ tk₅ dx ⟨fun b o hb q => k₅ b o hb (k₄ b o hb (k3 b o q)), ⟨t1, hx₅⟩, z1, dne, hn₅⟩)
end
end K1X
end PySem
end
section
set_option maxRecDepth 100000
set_option maxHeartbeats 4000000
namespace PySem
namespace K1X
open PySem.W PySem.Calls PyProof.Rows PySem.HandSPX PySem.Spec
/-- what the written part says of an own error class at C, its __init__ at fI, its field fld; Ok: the values that it may be called with -/
structure XC (P : Program) (K : Frag) (mg : Str → Option Value) (x fld : Str) (C fI : Addr) (Ok : Value → Heap → Prop) : Prop where
  gC : mg x = some (.ref C)
  cls : ∃ nm q N bs bm sn sub ab col dd k0 k1 k2 k3 k5, K.lookup C = some (excClassObj nm q C N bs bm true sn sub ab col dd k0 k1 k2 k3 k5 "ValueError.__new__") ∧ refsVE bm = true
  ga : findIn K (.ref C) "__getattribute__" = some (some (.builtin "BaseException.__getattribute__"))
  gg : findIn K (.ref C) "__getattr__" = some none
  noN : findIn K (.ref C) fld = some none
  iC : findIn K (.ref C) "__init__" = some (some (.ref fI))
  tC : typeIn K (.ref fI) = some (.type "function")
  kC : keepIn K (.ref C) = true
  exC : subIn K (.ref C) (.type "BaseException") = some true
  tyC : typeIn K (.ref C) = some (.type "type")
  hdC : hasDictIn K C = true
  te : exmOne K (.ref C) (.ref C) = some true
  mono : ∀ u h h', (∀ b o, h.get? b = some o → h'.get? b = some o) → Ok u h → Ok u h'
  /-- its __init__, called with the new exception and one value that it may be called with -/
  run : ∀ (w : World) (A : Around) (s : Shared) (R : Result → Shared → Prop) (e t0 : Addr) (v : Value), K.In s.heap → s.heap.NoLimit → s.heap.Ns mainGlobals mg → (∃ mb, s.heap.Ns builtinsNs mb ∧ ∀ x : Str, x ≠ "__name__" → mb x = bootBuiltins x) →
    s.heap.get? e = some (excO C t0) → K.lookup e = none → A.depth < recursionLimit → A.units + 40 < cLine → Ok v s.heap →
    (∀ h' tk dx, InitEnd s.heap h' e C dx fld v → R (.ok (.ret .none)) { s with heap := h', toks := tk }) → codeAny (model P w) A (.call (.ref fI) ⟨[.ref e, v], []⟩) R s
/-- a made one -/
structure Made (h h' : Heap) (e C d : Addr) (fld : Str) (v : Value) : Prop where
  keep : ∀ b o, h.get? b = some o → h'.get? b = some o
  new : h.objs.size ≤ e
  obj : ∃ oe vs, h'.get? e = some oe ∧ oe.cls = .ref C ∧ oe.dict = some d ∧ oe.data = .fields vs ∧ vs[1]? = some .none ∧ vs[2]? = some .none
  dbig : h.objs.size ≤ d
  dne : d ≠ e
  ns : h'.Ns1 d (fun y => if y = fld then some v else none)
theorem one_size (v : Value) : [v].length ≤ sizeLine := by
  rw [sizeLine_eq]
  exact (by decide : 1 ≤ 16777216)
theorem made {P : Program} {w : World} {A : Around} {R : Result → Shared → Prop} {s : Shared} {K : Frag} {mg : Str → Option Value} {x fld : Str} {C fI : Addr} {Ok : Value → Heap → Prop} (T : XC P K mg x fld C fI Ok) {v : Value} (X : K.In s.heap) (hlim : s.heap.NoLimit)
    (G : s.heap.Ns mainGlobals mg) (Bt : ∃ mb, s.heap.Ns builtinsNs mb ∧ ∀ x : Str, x ≠ "__name__" → mb x = bootBuiltins x) (hroom : A.depth + 1 < recursionLimit) (hu : A.units + 41 < cLine) (hok : Ok v s.heap)
    (hq : ∀ h' tk e d, Made s.heap h' e C d fld v → R (.ok (.ret (.ref e))) { s with heap := h', toks := tk }) :
    codeAny (model P w) A (.call (.ref C) ⟨[v], []⟩) R s := by
  obtain ⟨nm, q, N, bs, bm, sn, sub, ab, col, dd, k0, k1, k2, k3, k5, hC, hbm⟩ := T.cls
  obtain ⟨hp, g, dr, tk, os⟩ := s
  have k : ∀ b o, hp.get? b = some o → ((hp.push (kdv_tup [v])).push (excO C hp.objs.size)).get? b = some o := fun b o e => Heap.get?_push_of_some _ (Heap.get?_push_of_some _ e)
  have hget : ((hp.push (kdv_tup [v])).push (excO C hp.objs.size)).get? (hp.objs.size + 1) = some (excO C hp.objs.size) := by heap_get
  have hnx : K.lookup (hp.objs.size + 1) = none := by
    cases e : K.lookup (hp.objs.size + 1) with
    | none => rfl
    | some o =>
      have z : hp.get? (hp.objs.size + 1) = some o := X _ _ e
      exact absurd (Nat.lt_of_succ_lt (Heap.lt_size z)) (Nat.lt_irrefl _)
  obtain ⟨mb, B1, B2⟩ := Bt
  refine call_own F.excBase_ValueError (fun X => refsVE_contains X bm hbm) (X _ _ hC) (looks_findIn X T.iC) (fun self => bind_fn X self T.tC) (one_size v) ?_
  refine T.run w _ ⟨(hp.push (kdv_tup [v])).push (excO C hp.objs.size), g, dr, tk, os⟩ _ (hp.objs.size + 1) hp.objs.size v (X.keeps k) (hlim.keeps k) (G.keeps k) ⟨mb, B1.keeps k, B2⟩ hget hnx ?_ ?_ (T.mono _ _ _ k hok) fun h' tk' dx ⟨k', hx, dn, dne, hns⟩ => ?_
  · show A.depth + 1 < recursionLimit
    exact hroom
  · have : (A.under (.builtin "type.__call__" ⟨.ref C :: [v], []⟩)).units = A.units + 1 := L2.make_units
    rw [this]
    omega
  · have old : ∀ b o, hp.get? b = some o → h'.get? b = some o := fun b o e => k' b o (Nat.ne_of_lt (Nat.lt_succ_of_lt (Heap.lt_size e))) (k b o e)
    have z : hp.objs.size + 1 + 1 ≤ dx := by
      first
        | (simpa only [Heap.size_push] using dn)
        | exact dn
        | (have q := dn; rw [Heap.size_push, Heap.size_push] at q; exact q)
    obtain ⟨t1, hx⟩ := hx
    exact ⟨rfl, hq h' tk' (hp.objs.size + 1) dx ⟨old, Nat.le_succ _, ⟨_, _, hx, rfl, rfl, rfl, rfl, rfl⟩, Nat.le_trans (Nat.le_trans (Nat.le_succ _) (Nat.le_succ _)) z, dne, hns⟩⟩
end K1X
end PySem
namespace L2
open PySem PySem.Spec PyProof.Rows
theorem relO_one {fld : Str} {v : V} {v' : Value} (r : RelV v v') (f : Str) : RelO (List.lookup f [(fld, v)]) (if f = fld then some v' else none) := by
  by_cases hw : f = fld
  · subst hw
    rw [if_pos rfl]
    have q : List.lookup f [(f, v)] = some v := by simp [List.lookup]
    rw [q]
    exact r
  · rw [if_neg hw]
    have qw : (f == fld) = false := by simpa using hw
    have q2 : List.lookup f [(fld, v)] = none := by simp [List.lookup, qw]
    rw [q2]
    trivial
section
variable {X : Cx} {C fI : Addr} {x fld : Str} {Ok : Value → Heap → Prop}
/-- C(e) -/
def tMkX (C : Addr) (fld : Str) (OkV : V → Hp → Prop) (ta : TA) : St → Hp → XK → Prop := fun σ H Q => ta σ H fun vs H1 => ∃ v, vs = [v] ∧ OkV v H1 ∧ ∀ d, H1 d = none → Q (.ref C) (some d) (upd H1 d (.xd [(fld, v)]))
theorem pmk_x {OkV : V → Hp → Prop} {a : Expr} {ta : TA} {p pos : Pos} {k : Nat} (T : PySem.K1X.XC X.prog X.K X.mg x fld C fI Ok) (hov : ∀ pins σ H s v u, Inv X pins σ H s → RelV v u → OkV v H → Ok u s.heap) (hr : Room k X.A) (ha : PA X [a] ta) (hg : Gl X x)
    (hdb : (x == ("__debug__" : Str)) = false := by decide) (he : starEach (a :: []) X.env = (false, eval a X.env) :: starEach [] X.env := by rfl) (hpl : (backTo pos (starEach [] X.env)).any (·.1) = false := by rfl) :
    L2N.PMk X (.Call (.Name x p) [a] [] pos) (tMkX C fld OkV ta) := by
  intro pins s σ H Q I h
  refine wpAny_Call_Name_kw (ld_glob I hg T.gC ?_ hdb)
  refine PySem.W.callWith_K (h₀ := X.base) I.ok.mod.kin T.kC (thn (ha.run pos pins s σ H _ I h) fun us s1 hh => ?_) he hpl
  obtain ⟨vs, H1, I1, r1, v, ev, ok1, q1⟩ := hh
  subst ev
  refine ⟨I1.kIn, ?_⟩
  cases r1 with
  | cons rv rn =>
    rename_i v' us'
    cases rn
    show wpAny _ _ (call (.ref C) [v']) _ _ _
    have hlim := I1.nolimit
    have hok := hov _ _ _ _ _ _ I1 rv ok1
    have hG := I1.mod.glob.keeps I1.bk
    obtain ⟨mb, b1, b2⟩ := I1.mod.blt
    have hB := b1.keeps I1.bk
    obtain ⟨hp, g, dr, tk, os⟩ := s1
    refine wpAny_call (PySem.K1X.made T I1.kIn hlim hG ⟨mb, hB, b2⟩ (by have := hr.dp; omega) (by have := hr.un; omega) hok fun h' tk' e d M => ?_)
    show L2N.MkP X pins σ Q (.ref e) ⟨h', g, dr, tk', os⟩
    obtain ⟨oe, fv, hoe, hc, hd, hdat, h1, h2⟩ := M.obj
    have hns := M.ns
    obtain ⟨G', g1, g2⟩ := restrict h' fun b => decide (b ≠ e)
    have gk : ∀ b, b ≠ e → G'.get? b = h'.get? b := fun b hb => g1 b (decide_eq_true hb)
    have ge : G'.get? e = none := g2 e (by simp)
    have old : ∀ b o, hp.get? b = some o → G'.get? b = some o := fun b o q => (gk b (Nat.ne_of_lt (Nat.lt_of_lt_of_le (Heap.lt_size q) M.new))).trans (M.keep b o q)
    have ob : ObjOk X.prog X.w (upd H1 d (.xd [(fld, v)])) G' d (.xd [(fld, v)]) :=
      ⟨_, hns.at (fun o q => (gk d M.dne).trans q), fun f => relO_one rv f⟩
    have J : Inv X pins σ (upd H1 d (.xd [(fld, v)])) ⟨G', g, dr, tk', os⟩ := I1.laid (t' := tk') old M.dbig ob
    refine ⟨e, oe, fv, ⟨G', g, dr, tk', os⟩, _, .ref C, some d, rfl, J, fun b o q => ?_, ge, hoe, ⟨hc, hd, fun vs q => by rw [hdat] at q; cases q; exact h2⟩, hdat, h1, ?_, rfl, I1.bare, raises_own T.exC T.tyC, q1 d (I1.hok.fresh M.dbig)⟩
    · by_cases hb : b = e
      · have q' : G'.get? b = some o := q
        rw [hb, ge] at q'; cases q'
      · exact (gk b hb).symm.trans q
    · rw [upd_ne (Ne.symm M.dne)]
      exact I1.hok.fresh M.new
def tRaiseX (C : Addr) (fld : Str) (OkV : V → Hp → Prop) (W : WX) (ta : TA) : TS := fun _ σ H => tMkX C fld OkV ta σ H fun cls d H' => W cls d σ H'
theorem ps_raiseX {OkV : V → Hp → Prop} {a : Expr} {ta : TA} {W : WX} {p pos pos2 : Pos} {k : Nat} (hc : X.calm = true) (T : PySem.K1X.XC X.prog X.K X.mg x fld C fI Ok) (hov : ∀ pins σ H s v u, Inv X pins σ H s → RelV v u → OkV v H → Ok u s.heap) (hr : Room k X.A) (tk : L2N.Takes X W) (ha : PA X [a] ta) (hg : Gl X x)
    (hdb : (x == ("__debug__" : Str)) = false := by decide) (he : starEach (a :: []) X.env = (false, eval a X.env) :: starEach [] X.env := by rfl) (hpl : (backTo pos (starEach [] X.env)).any (·.1) = false := by rfl) :
    PS X (.Raise (some (.Call (.Name x p) [a] [] pos)) none pos2) (tRaiseX C fld OkV W ta) := L2N.ps_raise hc tk (pmk_x T hov hr ha hg hdb he hpl)
/-- e.fld, e the exception that the suite holds -/
def tGetX (C : Addr) (fld : Str) (a : Addr) (cls : Value) (d : Option Addr) (te : TE) : TE := fun σ H Q => te σ H fun y H1 => y = .ref a ∧ cls = .ref C ∧ ∃ (dd : Addr) (v : V), d = some dd ∧ H1 dd = some (.xd [(fld, v)]) ∧ Q v H1
theorem pe_getX {a : Addr} {oe : Obj} {cls : Value} {d : Option Addr} {pn : List (Addr × Obj)} {e : Expr} {te : TE} {pos : Pos} (T : PySem.K1X.XC X.prog X.K X.mg x fld C fI Ok) (hz : Zc cls d oe) (hf : ∃ vs, oe.data = .fields vs) (he : PE (X.suite a ((a, oe) :: pn)) e te)
    (hb : attributeBase e fld X.env (eval e X.env) = eval e X.env := by rfl) :
    PE (X.suite a ((a, oe) :: pn)) (.Attribute e fld pos) (tGetX C fld a cls d te) := by
  refine ⟨fun pins s σ H Q I h => ?_⟩
  refine attr_of hb (thn (he.run pins s σ H _ I h) fun u s1 hh => ?_)
  obtain ⟨y, H1, I1, rx, ex, ec, dd, v, ed, ea, q⟩ := hh
  subst ex
  obtain rfl : u = Value.ref a := rx
  subst ec
  subst ed
  obtain ⟨ha, _⟩ := I1.pin (a, oe) (List.mem_append_left _ List.mem_cons_self)
  obtain ⟨vs, hd⟩ := hf
  have hx : ObjOk X.prog X.w H1 s1.heap dd (.xd [(fld, v)]) := I1.hok dd _ ea
  obtain ⟨mA, hns, hr⟩ := hx
  obtain ⟨od, ho, hl⟩ := lookIn_ns hns
  have l : List.lookup fld [(fld, v)] = some v := by simp [List.lookup]
  obtain ⟨u, hu, ru⟩ := RelO.some_of (v := v) (o := mA fld) (by rw [← l]; exact hr fld)
  have J : PySem.W.InstAt s1.heap a oe C (some od) := ⟨ha, hz.1, by unfold PySem.W.notCls; rw [hd] <;> rfl, by rw [hz.2]; exact ho⟩
  exact HandSPX.exc_get I1.kIn J T.ga T.gg T.exC (PySem.W.findObj_own T.hdC T.noN rfl (by rw [hl, hu])) (handed_of ru) ⟨v, H1, I1.tok _, ru, q⟩
end
end L2
namespace L2
open PySem PySem.Spec PyProof.Rows
/-- a def that may raise, whatever is asked of its errors -/
theorem Fun.okN {P : Program} {w : World} {K : PySem.W.Frag} {mg : Str → Option Value} {base : Heap} {CX : CXT} {x qual : Str} {st : Stmt} {f : Addr} {fd : FuncData} {N ps : List Str} {k : Nat} {sp : Sp} (F : Fun K x qual st f fd) (S : FnScope N ps (defScope st))
    (len : ∀ (vs : List V) (H : Hp) (Q : VK) (E : XK), sp vs H Q E → vs.length = ps.length)
    (body : ∀ (cdv : Value) (A : Around) (outer : List Env) (s : Shared) (H : Hp) (vs : List V) (Q : VK) (E : XK), Room k (A.deeper (envOfC qual (defScope st) s.heap.objs.size f cdv)) → sp vs H Q E →
      ∃ t, PSs (cxOf CX P w K mg base N qual (defScope st) f cdv A outer s H E) (defBody st) t ∧ t { nx := fun x H' => Q V.non H', rt := Q } (start N vs) H) : FnOk P w K mg base CX (k + 1) f fd ps sp := by
  obtain ⟨oc, od, kV, doc, pm, an, cdv, ct, osl, rfl, lk, hcd⟩ := F.ex
  exact fn_of lk hcd S len (fun A outer s H vs Q E hr hsp => body cdv A outer s H vs Q E hr hsp)
end L2
end
section
set_option maxRecDepth 100000
set_option maxHeartbeats 4000000
namespace K1
open PySem L2 K01
/-! ### rings in messages -/
/-- names and numbers that are not too long -/
def SmallZ (z : Str) : Prop := z.length ≤ 8 ∧ ∀ c ∈ z.cps.toList, c < 16 ^ 8
def SmallF (F : List Fact) : Prop := ∀ f ∈ F, SmallZ f.1 ∧ SmallZ f.2.1 ∧ f.2.2.natAbs.log2 < 1920
def OkRing (P : Program) (u : Value) (h : Heap) : Prop := ∃ (a : Addr) (o : Obj) (items : Array Value) (n : Nat), u = .ref a ∧ h.get? a = some o ∧ o.cls = .type "tuple" ∧ o.data = .seq items n ∧ items.size ≤ 2100 ∧ ∀ w, PySem.K1Reps P w h 2200 items.toList
def OkRingV (K : PySem.W.Frag) (v : V) (H : Hp) : Prop := ∃ (a : Addr) (ps : List Addr) (RG : List Fact), v = .ref a ∧ SqT K H a (ps.map V.ref) ∧ TupsAt H ps (RG.map factV) ∧ ps.length ≤ 2100 ∧ SmallF RG
theorem reps_mono {P : Program} {w : World} {h h' : Heap} {b : Nat} (k : ∀ b o, h.get? b = some o → h'.get? b = some o) : ∀ {l : List Value}, PySem.K1Reps P w h b l → PySem.K1Reps P w h' b l
  | _, .nil => .nil
  | _, .cons r s => .cons (fun n hn A E s Q hu hk => r n hn A E s Q hu fun c o e => hk c o (k c o e)) (reps_mono k s)
theorem okRing_mono {P : Program} : ∀ u h h', (∀ b o, h.get? b = some o → h'.get? b = some o) → OkRing P u h → OkRing P u h' := by
  rintro u h h' k ⟨a, o, items, n, e, h1, h2, h3, h4, h5⟩
  exact ⟨a, o, items, n, e, k _ _ h1, h2, h3, h4, fun w => reps_mono k (h5 w)⟩
theorem okRing_of {X : Cx} : ∀ pins σ H s v u, L2.Inv X pins σ H s → L2.RelV v u → OkRingV X.K v H → OkRing X.prog u s.heap := by
  rintro pins σ H s v u I r ⟨a, ps, RG, rfl, h1, h2, h3, h4⟩
  obtain rfl : u = Value.ref a := r
  obtain ⟨its, rv, ⟨o, ho, hc, n, hd⟩, hz⟩ := I.tuple h1
  have hl : its.length = ps.length := by rw [← rv.length, List.length_map]
  refine ⟨a, o, its.toArray, n, rfl, ho, hc, hd, by simpa [hl] using h3, fun w => ?_⟩
  show PySem.K1Reps X.prog w s.heap 2200 its
  have key : ∀ (qs : List Addr) (RS : List Fact) (vs : List Value), Vals (qs.map V.ref) vs → TupsAt H qs (RS.map factV) → SmallF RS → PySem.K1Reps X.prog w s.heap 2200 vs := by
    intro qs
    induction qs with
    | nil => intro RS vs r _ _; cases r; exact .nil
    | cons q qs ih =>
      intro RS vs r hT hS
      cases RS with
      | nil => exact absurd hT.1 (by simp)
      | cons f RS =>
        cases r with
        | cons r1 r2 =>
          rename_i v1 vs
          obtain rfl : v1 = Value.ref q := r1
          have hq : H q = some (.tup (factV f)) := hT.2 0 q _ rfl rfl
          obtain ⟨its2, rv2, ⟨o2, ho2, hc2, n2, hd2⟩, _⟩ := I.tuple (show SqT X.K H q (factV f) from .inl (.inl hq))
          have sf := hS f List.mem_cons_self
          refine .cons ?_ (ih RS vs r2 ⟨by have := hT.1; simpa using this, fun i p xs e1 e2 => hT.2 (i + 1) p xs e1 e2⟩ (fun g hg => hS g (List.mem_cons_of_mem _ hg)))
          obtain ⟨x, y, c⟩ := f
          obtain ⟨⟨x1, x2⟩, ⟨y1, y2⟩, c1⟩ := sf
          cases rv2 with
          | cons q1 rv2 =>
            cases rv2 with
            | cons q2 rv2 =>
              cases rv2 with
              | cons q3 rv2 =>
                cases rv2
                obtain ⟨t1, rfl⟩ := q1
                obtain ⟨t2, rfl⟩ := q2
                obtain ⟨t3, rfl⟩ := q3
                replace x1 : x.length ≤ 8 := x1
                replace y1 : y.length ≤ 8 := y1
                replace c1 : c.natAbs.log2 < 1920 := c1
                have lx := PySem.StrLaws.reprText_len x x2
                have ly := PySem.StrLaws.reprText_len y y2
                have lc := PyProof.Rows.int_text_len_1921 c1
                have hs : (2000 : Nat) ≤ sizeLine := by rw [sizeLine_eq]; decide
                refine PySem.K1Rep.tuple (ts := [reprText x, reprText y, (toString c : Str)]) ho2 hc2 hd2 (.cons (ReprIs.str x _ (by omega)) (.cons (ReprIs.str y _ (by omega)) (.cons (ReprIs.int _ c1) .nil))) ?_
                have h1 := PySem.fmt_text [reprText x, reprText y, (Str.ofString (toString c) : Str)]
                have h2 : PySem.piled [reprText x, reprText y, (Str.ofString (toString c) : Str)] = (reprText x).length + 2 + ((reprText y).length + 2 + ((Str.ofString (toString c)).length + 2 + 0)) := by
                  rw [piled_cons, piled_cons, piled_cons]
                  rfl
                omega
  exact key ps RG its rv h2 h4
end K1
end
section
set_option maxRecDepth 100000
set_option maxHeartbeats 4000000
namespace K1
open PySem L2 K01
def isRing (F : List Fact) (RG : List Fact) : Prop := RG.length ≤ 2100 ∧ ∃ x c, isPath F x x c RG ∧ c < 0
theorem nodes_in {ms : List Str} {F : List Fact} (h : InN ms F) (hz : ∀ z ∈ nodes ms, SmallZ z) (hi : ∀ f ∈ F, f.2.2.natAbs.log2 < 1920) : SmallF F := fun f hf => ⟨hz _ (h f hf).1, hz _ (h f hf).2, hi f hf⟩
/-- the facts that a matrix is closed for -/
abbrev EG (ms : List Str) (F : List Fact) : List Edge := (F ++ zeros ms).map (eF ms)
theorem good_more {ms : List Str} {F : List Fact} {f : Fact} {B' : Mat} (G : Good (ms.length + 1) (EG ms F ++ [eF ms f]) B') : Good (ms.length + 1) (EG ms (F ++ [f])) B' :=
  G.perm fun e => by
    simp only [EG, List.map_append, List.mem_append, List.map_cons, List.map_nil]
    constructor
    · rintro ((h | h) | h)
      · exact .inl (.inl h)
      · exact .inr h
      · exact .inl (.inr h)
    · rintro ((h | h) | h)
      · exact .inl (.inl h)
      · exact .inr h
      · exact .inl (.inr h)
section
variable {P : Program} {w : World} {K : PySem.W.Frag} {mg : Str → Option Value} {base : Heap}
abbrev sBounds : Stmt := top 39
def spBounds (K : PySem.W.Frag) (C : Addr) : Sp := fun vs H Q E => ∃ (a b m mo : Addr) (ms : List Str) (ps qs : List Addr) (FS MS : List Fact) (B : Mat), vs = [.ref a, .ref b, .ref m, .ref mo] ∧ strsT K H a ms ∧ ms.length ≤ 900 ∧ (nodes ms).Nodup ∧ (∀ z ∈ nodes ms, SmallZ z) ∧
  SqT K H b (ps.map V.ref) ∧ TupsAt H ps (FS.map factV) ∧ ps.length ≤ 400 ∧ InN ms FS ∧ (∀ f ∈ FS, f.2.2.natAbs.log2 < 1920) ∧ SqT K H mo (qs.map V.ref) ∧ TupsAt H qs (MS.map factV) ∧ qs.length ≤ 400 ∧ InN ms MS ∧ (∀ f ∈ MS, f.1 ≠ f.2.1 ∧ f.2.2.natAbs.log2 < 1920) ∧
  MatAt K H m B ∧ Good (ms.length + 1) (EG ms FS) B ∧
  (∀ H' p B', Same H H' → MatAt K H' p B' → Good (ms.length + 1) (EG ms (FS ++ MS)) B' → Q (.ref p) H') ∧
  (∀ H' d rp RG, Same H H' → H d = none → H' d = some (.xd [("ring", .ref rp)]) → TTAt K H' rp (RG.map factV) → isRing (FS ++ MS ++ zeros ms) RG → E (.ref C) (some d) H')
theorem scBounds : FnScope ["marks", "facts", "bounds", "more", "spots", "closer", "at", "fact", "x", "y", "number", "one", "two", "back"] ["marks", "facts", "bounds", "more"] (defScope sBounds) := ⟨rfl, rfl, rfl, by decide +kernel, rfl, by decide +kernel, by decide +kernel⟩
theorem ok_bounds {f fS fN fA fT fC fB fK fG fL C fI : Addr} {fd fdS fdN fdA fdT fdC fdB fdK fdG fdL : FuncData} (F : Fun K "bounds_with" "bounds_with" sBounds f fd) (T : Bi mg) (Fs : Fun K "spots_of" "spots_of" sSpots fS fdS) (bS : Binds K fdS ["marks"] []) (mS : mg "spots_of" = some (.ref fS))
    (FN : Fun K "names_of" "names_of" sNames fN fdN) (bN : Binds K fdN ["marks"] []) (mN : mg "names_of" = some (.ref fN)) (FA : Fun K "all_facts" "all_facts" sAll fA fdA) (bA : Binds K fdA ["marks", "facts"] []) (mA : mg "all_facts" = some (.ref fA))
    (FT : Fun K "is_straight" "is_straight" sStraight fT fdT) (bT : Binds K fdT ["fact", "ahead"] []) (mT : mg "is_straight" = some (.ref fT)) (FC : Fun K "chain_of" "chain_of" sChain fC fdC) (bC : Binds K fdC ["marks", "facts", "bounds", "x", "y"] []) (mC : mg "chain_of" = some (.ref fC))
    (FB : Fun K "is_barred" "is_barred" sBarred fB fdB) (bB : Binds K fdB ["bounds", "x", "y", "number"] []) (mB : mg "is_barred" = some (.ref fB)) (FK : Fun K "is_kept" "is_kept" sKept fK fdK) (bK : Binds K fdK ["bounds", "x", "y", "number"] []) (mK : mg "is_kept" = some (.ref fK))
    (FG : Fun K "tightened" "tightened" sTight fG fdG) (bG : Binds K fdG ["bounds", "x", "y", "number"] []) (mG : mg "tightened" = some (.ref fG)) (FL : Fun K "lesser_row" "lesser_row" sLesser fL fdL) (bL : Binds K fdL ["row", "step", "onward"] []) (mL : mg "lesser_row" = some (.ref fL))
    (TX : PySem.K1X.XC P K mg "Contradiction" "ring" C fI (OkRing P)) :
    FnOk P w K mg base (L2N.CX P w) 4 f fd ["marks", "facts", "bounds", "more"] (spBounds K C) := by
  have GS : FnOk P w K mg base CX0 2 fS fdS ["marks"] (spSpots K) := ok_spots Fs T FN bN mN
  have GC : FnOk P w K mg base CX0 3 fC fdC ["marks", "facts", "bounds", "x", "y"] (spChain K) := ok_chain FC T Fs bS mS FN bN mN FA bA mA FT bT mT
  have GB : FnOk P w K mg base CX0 1 fB fdB ["bounds", "x", "y", "number"] (spBarred K) := ok_barred FB
  have GK : FnOk P w K mg base CX0 1 fK fdK ["bounds", "x", "y", "number"] (spKept K) := ok_kept FK
  have GG : FnOk P w K mg base CX0 2 fG fdG ["bounds", "x", "y", "number"] (spTight K) := ok_tight FG T FL bL mL
  refine F.okN scBounds (fun vs H Q E h => ?_) (fun cdv A outer s H vs Q E hr h => ?_)
  · obtain ⟨_, _, _, _, _, _, _, _, _, _, rfl, _⟩ := h
    rfl
  · obtain ⟨a, b, m, mo, ms, ps, qs, FS, MS, B, rfl, hm, hl, hN, hzs, hb, hbT, hbl, hbI, hbi, hq, hqT, hql, hqI, hqi, hM, G, kQ, kE⟩ := h
    have hu := hu_of hr
    have hr1 : Room 1 _ := hr.mono (by decide)
    have hr2 : Room 2 _ := hr.mono (by decide)
    refine ⟨_, pss_cons (ps_set (i := 4) scBounds.nd rfl (.inl rfl) (pe_call GS hr2 rfl mS Fs.kp bS .nil pass0 (pa_cons (pv 0) pa_nil)))
      (pss_cons (ps_set (i := 5) scBounds.nd rfl (.inl rfl) (pv 2))
      (pss_cons (ps_for (passes_of rfl) rfl (pi_enumT (by rfl) T.enumerate (pa_cons (pv 3) pa_nil)) (pg_tup rfl (pgs_cons (pg_name (i := 6) scBounds.nd rfl (.inl rfl)) (pgs_cons (pg_name (i := 7) scBounds.nd rfl (.inl rfl)) pgs_nil)))
        (pss_cons (ps_asg (pv 7) (pg_tup rfl (pgs_cons (pg_name (i := 8) scBounds.nd rfl (.inl rfl)) (pgs_cons (pg_name (i := 9) scBounds.nd rfl (.inl rfl)) (pgs_cons (pg_name (i := 10) scBounds.nd rfl (.inl rfl)) pgs_nil)))))
        (pss_cons (ps_par (i := 11) (j := 12) (by rfl) scBounds.nd rfl rfl (by decide) rfl rfl (pa_cons (pe_dget hu (pv 4) (pv 8) (fun _ _ => rfl)) (pa_cons (pe_dget hu (pv 4) (pv 9) (fun _ _ => rfl)) pa_nil)) (by rfl))
        (pss_cons (ps_if (pt_val (pe_call GB hr1 rfl mB FB.kp bB .nil pass0 (pa_cons (pv 5) (pa_cons (pv 11) (pa_cons (pv 12) (pa_cons (pv 10) pa_nil))))))
            (pss_cons (ps_set (i := 13) scBounds.nd rfl (.inl rfl) (pe_call GC hr rfl mC FC.kp bC .nil pass0 (pa_cons (pv 0) (pa_cons (pe_tup (StX.pa_star (pv 1) (StX.pa_star (pe_slice sl_tupA (pv 3) po_none (po_some (pv 6))) pa_nil))) (pa_cons (pv 5) (pa_cons (pv 9) (pa_cons (pv 8) pa_nil)))))))
            (pss_one (ps_raiseX (OkV := OkRingV K) rfl TX okRing_of hr (L2N.takes_of rfl rfl rfl rfl) (pa_cons (pe_tup (pa_cons (pv 7) (StX.pa_star (pv 13) pa_nil))) pa_nil) rfl))) pss_nil)
        (pss_one (ps_if (pt_not (pt_val (pe_call GK hr1 rfl mK FK.kp bK .nil pass0 (pa_cons (pv 5) (pa_cons (pv 11) (pa_cons (pv 12) (pa_cons (pv 10) pa_nil)))))))
            (pss_one (ps_set (i := 5) scBounds.nd rfl (.inl rfl) (pe_call GG hr2 rfl mG FG.kp bG .nil pass0 (pa_cons (pv 5) (pa_cons (pv 11) (pa_cons (pv 12) (pa_cons (pv 10) pa_nil))))))) pss_nil))))))
      (pss_one (ps_ret (pv 5))))), ?_⟩
    refine ⟨_, rfl, a, ms, rfl, hm, hl, hN, fun H1 sd s1 hsd => ⟨_, rfl, ?_⟩⟩
    refine ⟨_, rfl, mo, _, rfl, Same.tup s1 hq, for_it (walk_enumT (K := K) (a := mo)) (fun i σ H' => ∃ (cl : Addr) (B' : Mat) (v6 v7 v8 v9 v10 v11 v12 v13 : Option V), σ = [some (.ref a), some (.ref b), some (.ref m), some (.ref mo), some (.ref sd), some (.ref cl), v6, v7, v8, v9, v10, v11, v12, v13] ∧ Same H1 H' ∧ MatAt K H' cl B' ∧ Good (ms.length + 1) (EG ms (FS ++ MS.take i)) B')
      ⟨m, B, none, none, none, none, none, none, none, none, rfl, Same.refl H1, hM.same s1, by rw [List.take_zero, List.append_nil]; exact G⟩ (fun i σ H' _ ⟨_, _, _, _, _, _, _, _, _, _, _, q, _⟩ => Same.tup (s1.trans q) hq) ?_ ?_⟩
    · rintro i v σ H2 H3 hi ⟨cl, B', v6, v7, v8, v9, v10, v11, v12, v13, rfl, q1, q2, q3⟩ ⟨p, x', y', rfl, hp, rfl, hx', hy'⟩
      obtain ⟨pf, hpf, rfl⟩ := get_map hy'
      obtain ⟨xs, hxs, hpt⟩ := hqT.get hpf
      obtain ⟨f, hf, rfl⟩ := get_map hxs
      cases hx'
      have hfm := List.mem_of_getElem? hf
      have i1 := hqI f hfm
      have i2 := hqi f hfm
      have sP : Same H (upd H2 p (.tup [.int (i : Nat), .ref pf])) := (s1.trans q1).trans (Same.new hp)
      have s2 : Same H2 (upd H2 p (.tup [.int (i : Nat), .ref pf])) := Same.new hp
      generalize hH3 : upd H2 p (.tup [.int (i : Nat), .ref pf]) = H3 at sP s2
      have hpp : SqT K H3 p [.int (i : Nat), .ref pf] := by rw [← hH3]; exact tup_at
      have hpf3 : SqT K H3 pf (factV f) := .inl (.inl (sP _ _ hpt))
      have hiq : i < qs.length := (List.getElem?_eq_some_iff.mp hpf).1
      have hsd3 := hsd.same (q1.trans s2)
      have gx := hsd3.get (ix_get i1.1)
      have gy := hsd3.get (ix_get i1.2)
      have hx : ix ms f.1 < ms.length + 1 := ix_lt i1.1
      have hy : ix ms f.2.1 < ms.length + 1 := ix_lt i1.2
      have hM3 := q2.same s2
      have InF : InN ms (FS ++ MS.take i) := fun g hg => by
        rcases List.mem_append.mp hg with h | h
        · exact hbI g h
        · exact hqI g (List.mem_of_mem_take h)
      have InZ : InN ms (FS ++ MS.take i ++ zeros ms) := fun g hg => by
        rcases List.mem_append.mp hg with h | h
        · exact InF g h
        · exact zeros_in ms g h
      have htk : MS.take (i + 1) = MS.take i ++ [f] := take_snoc hf
      refine ⟨p, _, rfl, hpp, rfl, _, _, rfl, _, _, rfl, rfl, _, rfl, pf, _, rfl, hpf3, rfl, _, _, rfl, _, _, rfl, _, _, rfl, rfl, _, rfl, _, rfl, sd, _, rfl, gx, _, rfl, _, rfl, sd, _, rfl, gy, _, _, rfl, ?_⟩
      refine ⟨_, rfl, _, rfl, _, rfl, _, rfl, cl, B', ms.length + 1, ix ms f.1, ix ms f.2.1, f.2.2, rfl, hM3, q3.sized, hx, hy, _, rfl, ?_⟩
      cases eb : barred B' (ix ms f.1) (ix ms f.2.1) f.2.2 with
      | true =>
        refine iteT ?_
        obtain ⟨k0, hk0, hk1⟩ : ∃ k0, cell B' (ix ms f.2.1) (ix ms f.1) = some k0 ∧ k0 + f.2.2 < 0 := by
          unfold barred at eb
          cases q : cell B' (ix ms f.2.1) (ix ms f.1) with
          | none => rw [q] at eb; cases eb
          | some k0 => rw [q] at eb; exact ⟨k0, rfl, by simpa using eb⟩
        refine ⟨_, rfl, _, rfl, b, _, rfl, .inl (Same.tup sP hb), _, rfl, _, rfl, _, rfl, mo, _, rfl, Same.tup sP hq, fun w => ?_, fun w u hu' => ?_⟩
        · rw [HT.sIx_nat, HT.sIx_none, List.length_map] at w
          omega
        · have s3 : Same H3 (upd H3 u (.tup (cutV (qs.map V.ref) none (some (i : Int))))) := Same.new hu'
          have ec : cutV (qs.map V.ref) none (some (i : Int)) = (qs.take i).map V.ref := by rw [cut_take, List.map_take]
          rw [ec] at s3 ⊢
          refine ⟨u, _, rfl, .inl tup_at, ?_, fun tp htp => ?_⟩
          · rw [List.length_append, List.length_append, List.length_map, List.length_map, List.length_take]
            exact Nat.le_of_lt (small1000 (by simp; omega))
          · have s4 := s3.trans (Same.new (o := .tup (ps.map V.ref ++ ((qs.take i).map V.ref ++ []))) htp)
            have eT : ps.map V.ref ++ ((qs.take i).map V.ref ++ []) = (ps ++ qs.take i).map V.ref := by rw [List.append_nil, List.map_append]
            refine ⟨_, rfl, _, rfl, _, rfl, a, tp, cl, f.2.1, f.1, ms, ps ++ qs.take i, FS ++ MS.take i, B', k0, rfl, Same.tup (sP.trans s4) hm, hl, hN, by rw [← eT]; exact tup_at, ?_, ?_, InF, hM3.same s4, q3, i1.2, i1.1, hk0, fun H5 l qs5 CH s5 _ _ h5l h5n h5T h5P => ?_⟩
            · rw [List.map_append]
              exact (hbT.same (sP.trans s4)).app (by have h9 := (hqT.same (sP.trans s4)).take i; rw [← List.map_take] at h9; exact h9)
            · rw [List.length_append, List.length_take]; omega
            · refine ⟨_, rfl, _, rfl, l, _, rfl, .inr (SqL.of h5l), ?_, fun rp hrp => ?_⟩
              · rw [List.length_cons, List.length_append, List.length_map]
                exact Nat.le_of_lt (Nat.lt_of_le_of_lt (show _ ≤ 2002 by simp; omega) (by decide))
              · have s6 : Same H5 (upd H5 rp (.tup (.ref pf :: (qs5.map V.ref ++ [])))) := Same.new hrp
                have sA : Same H (upd H5 rp (.tup (.ref pf :: (qs5.map V.ref ++ [])))) := ((sP.trans s4).trans s5).trans s6
                have eR : (V.ref pf :: (qs5.map V.ref ++ [])) = (pf :: qs5).map V.ref := by rw [List.append_nil]; rfl
                have hrT : SqT K (upd H5 rp (.tup (.ref pf :: (qs5.map V.ref ++ [])))) rp ((pf :: qs5).map V.ref) := by rw [← eR]; exact tup_at
                have hTT : TupsAt (upd H5 rp (.tup (.ref pf :: (qs5.map V.ref ++ [])))) (pf :: qs5) ((f :: CH).map factV) := (TupsAt.one (sA _ _ hpt)).app (h5T.same s6)
                have hmem : ∀ g ∈ f :: CH, g ∈ FS ++ MS ++ zeros ms := fun g hg => by
                  rcases List.mem_cons.mp hg with rfl | hg
                  · exact List.mem_append_left _ (List.mem_append_right _ hfm)
                  · rcases List.mem_append.mp (h5P.mem g hg) with h | h
                    · rcases List.mem_append.mp h with h | h
                      · exact List.mem_append_left _ (List.mem_append_left _ h)
                      · exact List.mem_append_left _ (List.mem_append_right _ (List.mem_of_mem_take h))
                    · exact List.mem_append_right _ h
                have InA : InN ms (FS ++ MS ++ zeros ms) := fun g hg => by
                  rcases List.mem_append.mp hg with h | h
                  · rcases List.mem_append.mp h with h | h
                    · exact hbI g h
                    · exact hqI g h
                  · exact zeros_in ms g h
                have sml : SmallF (f :: CH) := fun g hg => by
                  have := hmem g hg
                  refine ⟨hzs _ (InA g this).1, hzs _ (InA g this).2, ?_⟩
                  rcases List.mem_append.mp this with h | h
                  · rcases List.mem_append.mp h with h | h
                    · exact hbi g h
                    · exact (hqi g h).2
                  · obtain ⟨z, _, rfl⟩ := List.mem_map.mp h
                    show (0 : Int).natAbs.log2 < 1920
                    decide
                refine ⟨.ref rp, rfl, ⟨rp, pf :: qs5, f :: CH, rfl, hrT, hTT, by rw [List.length_cons]; omega, sml⟩, fun d hd => ?_⟩
                refine kE _ d rp (f :: CH) (sA.trans (Same.new hd)) (Same.free sA hd) upd_same (TTAt.same (Same.new hd) ⟨pf :: qs5, hrT, hTT⟩) ⟨by have := hTT.1; rw [List.length_map] at this; rw [← this, List.length_cons]; omega, f.1, f.2.2 + k0, ⟨hmem f List.mem_cons_self, rfl, ?_⟩, by omega⟩
                have e : f.2.2 + k0 - f.2.2 = k0 := by omega
                rw [e]
                refine h5P.mono fun g hg => ?_
                rcases List.mem_append.mp hg with h | h
                · rcases List.mem_append.mp h with h | h
                  · exact List.mem_append_left _ (List.mem_append_left _ h)
                  · exact List.mem_append_left _ (List.mem_append_right _ (List.mem_of_mem_take h))
                · exact List.mem_append_right _ h
      | false =>
        refine iteF ?_
        have hb0 : ∀ k, Le B' (ix ms f.2.1) (ix ms f.1) k → 0 ≤ k + f.2.2 := by
          rintro k ⟨d, e1, e2⟩
          unfold barred at eb
          rw [e1] at eb
          have : ¬ d + f.2.2 < 0 := by simpa using eb
          omega
        refine ⟨_, rfl, _, rfl, _, rfl, _, rfl, cl, B', ms.length + 1, ix ms f.1, ix ms f.2.1, f.2.2, rfl, hM3, q3.sized, hx, hy, _, rfl, ?_⟩
        cases ek : kept B' (ix ms f.1) (ix ms f.2.1) f.2.2 with
        | true =>
          refine iteF ⟨cl, B', _, _, _, _, _, _, _, _, rfl, q1.trans s2, hM3, ?_⟩
          rw [htk, ← List.append_assoc]
          refine good_more (kept_good q3 ?_)
          unfold kept at ek
          cases q : cell B' (ix ms f.1) (ix ms f.2.1) with
          | none => rw [q] at ek; cases ek
          | some d => rw [q] at ek; exact ⟨d, q, by simpa using ek⟩
        | false =>
          refine iteT ⟨_, rfl, _, rfl, _, rfl, _, rfl, cl, B', ms.length + 1, ix ms f.1, ix ms f.2.1, f.2.2, rfl, hM3, q3.sized, hx, hy, by omega, fun H5 p5 s5 h5 => ?_⟩
          refine ⟨p5, _, _, _, _, _, _, _, _, _, rfl, (q1.trans s2).trans s5, h5, ?_⟩
          rw [htk, ← List.append_assoc]
          exact good_more (tight_good q3 InZ.inR hx hy hb0)
    · rintro σ H2 ⟨cl, B', v6, v7, v8, v9, v10, v11, v12, v13, rfl, q1, q2, q3⟩
      have e : MS.take ((qs.map V.ref).length) = MS := by
        have := hqT.1
        rw [List.length_map] at this
        rw [List.length_map, this, List.take_length]
      rw [e] at q3
      exact ⟨_, rfl, kQ H2 cl B' (s1.trans q1) q2 q3⟩
end
end K1
end
section
set_option maxRecDepth 100000
set_option maxHeartbeats 4000000
namespace K1
open PySem L2 K01
def OkInt (u : Value) (_ : Heap) : Prop := ∃ (i : Int) (t : Tok), u = .int i t ∧ i.natAbs.log2 < 1920
def OkIntV (v : V) (_ : Hp) : Prop := ∃ i : Int, v = .int i ∧ i.natAbs.log2 < 1920
theorem okInt_of {X : Cx} : ∀ pins σ H s v u, L2.Inv X pins σ H s → L2.RelV v u → OkIntV v H → OkInt u s.heap := by
  rintro pins σ H s v u I r ⟨i, rfl, h⟩
  obtain ⟨t, rfl⟩ := r
  exact ⟨i, t, rfl, h⟩
theorem small_log {n : Nat} (h : n ≤ 1000) : ((n : Nat) : Int).natAbs.log2 < 1920 := by
  rw [Int.natAbs_natCast]
  exact Nat.lt_of_le_of_lt (Nat.log2_le_self n) (by omega)
/-- the first fault: 0 a mark, 1 a take, 2 a fact -/
def fault (ms ts : List Str) (fs : List (List V)) : Option (Nat × Nat) := match first (badMark ms) ms.length with
  | some i => some (0, i)
  | none => match first (badTake ms ts) ts.length with
    | some i => some (1, i)
    | none => match first (badFact ms fs) fs.length with
      | some i => some (2, i)
      | none => none
def clsOf (CM CT CF : Addr) : Nat → Addr
  | 0 => CM
  | 1 => CT
  | _ => CF
section
variable {P : Program} {w : World} {K : PySem.W.Frag} {mg : Str → Option Value} {base : Heap}
abbrev sCheck : Stmt := top 35
def spCheck (K : PySem.W.Frag) (cls : Nat → Addr) : Sp := fun vs H Q E => ∃ (a b c : Addr) (ms ts : List Str) (fs : List (List V)), vs = [.ref a, .ref b, .ref c] ∧ strsT K H a ms ∧ Short ms ∧ strsT K H b ts ∧ ts.length ≤ 1000 ∧ TTAt K H c fs ∧ FlatF fs ∧ fs.length ≤ 1000 ∧
  (∀ k i H' d, fault ms ts fs = some (k, i) → Same H H' → H d = none → H' d = some (.xd [("index", .int (i : Nat))]) → E (.ref (cls k)) (some d) H') ∧ (fault ms ts fs = none → ∀ H', Same H H' → Q .non H')
theorem scCheck : FnScope ["marks", "takes", "facts", "at"] ["marks", "takes", "facts"] (defScope sCheck) := ⟨rfl, rfl, rfl, by decide +kernel, rfl, by decide +kernel, by decide +kernel⟩
theorem ok_check {f fM fT fF fN fA fS fW CM CT CF iM iT iF : Addr} {fd fdM fdT fdF fdN fdA fdS fdW : FuncData} (F : Fun K "check_parts" "check_parts" sCheck f fd) (T : Bi mg)
    (FM : Fun K "first_bad_mark" "first_bad_mark" sBadMark fM fdM) (bM : Binds K fdM ["marks"] []) (mM : mg "first_bad_mark" = some (.ref fM)) (FT : Fun K "first_bad_take" "first_bad_take" sBadTake fT fdT) (bT : Binds K fdT ["marks", "takes"] []) (mT : mg "first_bad_take" = some (.ref fT))
    (FF : Fun K "first_bad_fact" "first_bad_fact" sBadFact fF fdF) (bF : Binds K fdF ["marks", "facts"] []) (mF : mg "first_bad_fact" = some (.ref fF)) (FN : Fun K "is_name" "is_name" sName fN fdN) (bN : Binds K fdN ["x"] []) (mN : mg "is_name" = some (.ref fN))
    (FA : Fun K "is_fact" "is_fact" sFact fA fdA) (bA : Binds K fdA ["fact", "names"] []) (mA : mg "is_fact" = some (.ref fA)) (FS : Fun K "names_of" "names_of" sNames fS fdS) (bS : Binds K fdS ["marks"] []) (mS : mg "names_of" = some (.ref fS))
    (FW : Fun K "is_whole" "is_whole" sWhole fW fdW) (bW : Binds K fdW ["x"] []) (mW : mg "is_whole" = some (.ref fW))
    (XM : PySem.K1X.XC P K mg "BadMarks" "index" CM iM OkInt) (XT : PySem.K1X.XC P K mg "BadTakes" "index" CT iT OkInt) (XF : PySem.K1X.XC P K mg "BadFact" "index" CF iF OkInt) :
    FnOk P w K mg base (L2N.CX P w) 4 f fd ["marks", "takes", "facts"] (spCheck K (clsOf CM CT CF)) := by
  have GM : FnOk P w K mg base CX0 2 fM fdM ["marks"] (spBadMark K) := ok_badMark FM T FN bN mN
  have GT : FnOk P w K mg base CX0 1 fT fdT ["marks", "takes"] (spBadTake K) := ok_badTake FT T
  have GF : FnOk P w K mg base CX0 3 fF fdF ["marks", "facts"] (spBadFact K) := ok_badFact FF T FS bS mS FA bA mA FW bW mW
  refine F.okN scCheck (fun vs H Q E h => ?_) (fun cdv A outer s H vs Q E hr h => ?_)
  · obtain ⟨_, _, _, _, _, _, rfl, _⟩ := h
    rfl
  · obtain ⟨a, b, c, ms, ts, fs, rfl, hm, hs, ht, htl, hf, hff, hfl, kE, kQ⟩ := h
    have hr1 : Room 1 _ := hr.mono (by decide)
    have hr2 : Room 2 _ := hr.mono (by decide)
    refine ⟨_, pss_cons (ps_set (i := 3) scCheck.nd rfl (.inl rfl) (pe_call GM hr2 rfl mM FM.kp bM .nil pass0 (pa_cons (pv 0) pa_nil)))
      (pss_cons (ps_if (pt_cmpR op_notN (pv 3) pe_non (nomark _)) (pss_one (ps_raiseX (OkV := OkIntV) rfl XM okInt_of hr (L2N.takes_of rfl rfl rfl rfl) (pa_cons (pv 3) pa_nil) rfl)) pss_nil)
      (pss_cons (ps_set (i := 3) scCheck.nd rfl (.inl rfl) (pe_call GT hr1 rfl mT FT.kp bT .nil pass0 (pa_cons (pv 0) (pa_cons (pv 1) pa_nil))))
      (pss_cons (ps_if (pt_cmpR op_notN (pv 3) pe_non (nomark _)) (pss_one (ps_raiseX (OkV := OkIntV) rfl XT okInt_of hr (L2N.takes_of rfl rfl rfl rfl) (pa_cons (pv 3) pa_nil) rfl)) pss_nil)
      (pss_cons (ps_set (i := 3) scCheck.nd rfl (.inl rfl) (pe_call GF hr rfl mF FF.kp bF .nil pass0 (pa_cons (pv 0) (pa_cons (pv 2) pa_nil))))
      (pss_one (ps_if (pt_cmpR op_notN (pv 3) pe_non (nomark _)) (pss_one (ps_raiseX (OkV := OkIntV) rfl XF okInt_of hr (L2N.takes_of rfl rfl rfl rfl) (pa_cons (pv 3) pa_nil) rfl)) pss_nil)))))), ?_⟩
    refine ⟨_, rfl, a, ms, rfl, hm, hs, fun H1 s1 => ?_⟩
    unfold fault at kE kQ
    refine ⟨_, rfl, rfl, _, rfl, ?_⟩
    cases e1 : first (badMark ms) ms.length with
    | some i =>
      rw [e1] at kE
      have hi := (first_inv.2 i e1).1
      refine iteNF (fun q => nomatch q) ⟨_, rfl, _, rfl, ⟨i, rfl, small_log (by have := hs.1; omega)⟩, fun d hd => kE 0 i _ d rfl (s1.trans (Same.new hd)) (Same.free s1 hd) upd_same⟩
    | none =>
      rw [e1] at kE kQ
      refine iteNS rfl ?_
      refine ⟨_, rfl, _, rfl, a, b, ms, ts, rfl, Same.tup s1 hm, Same.tup s1 ht, fun H2 s2 => ?_⟩
      refine ⟨_, rfl, rfl, _, rfl, ?_⟩
      cases e2 : first (badTake ms ts) ts.length with
      | some i =>
        rw [e2] at kE
        have hi := (first_inv.2 i e2).1
        refine iteNF (fun q => nomatch q) ⟨_, rfl, _, rfl, ⟨i, rfl, small_log (by omega)⟩, fun d hd => kE 1 i _ d rfl ((s1.trans s2).trans (Same.new hd)) (Same.free (s1.trans s2) hd) upd_same⟩
      | none =>
        rw [e2] at kE kQ
        refine iteNS rfl ?_
        refine ⟨_, rfl, _, rfl, a, c, ms, fs, rfl, Same.tup (s1.trans s2) hm, hs.1, hf.same (s1.trans s2), hff, fun H3 s3 => ?_⟩
        refine ⟨_, rfl, rfl, _, rfl, ?_⟩
        have sA := (s1.trans s2).trans s3
        cases e3 : first (badFact ms fs) fs.length with
        | some i =>
          rw [e3] at kE
          have hi := (first_inv.2 i e3).1
          refine iteNF (fun q => nomatch q) ⟨_, rfl, _, rfl, ⟨i, rfl, small_log (by omega)⟩, fun d hd => kE 2 i _ d rfl (sA.trans (Same.new hd)) (Same.free sA hd) upd_same⟩
        | none =>
          rw [e3] at kQ
          exact iteNS rfl (kQ rfl H3 sA)
end
end K1
end
section
set_option maxRecDepth 100000
set_option maxHeartbeats 4000000
namespace K1
open PySem L2 K01
theorem putF_new {f : Str} {v : V} : ∀ {fs : List (Str × V)}, (∀ p ∈ fs, p.1 ≠ f) → putF f v fs = fs ++ [(f, v)]
  | [], _ => rfl
  | (g, u) :: fs, h => by
    have h1 : ¬ g = f := h (g, u) List.mem_cons_self
    have ih := putF_new (f := f) (v := v) (fs := fs) fun p hp => h p (List.mem_cons_of_mem _ hp)
    show (if g = f then (g, v) :: fs else (g, u) :: putF f v fs) = _
    rw [if_neg h1, ih]
    rfl
theorem mark_bad {ms : List Str} (h : first (badMark ms) ms.length = none) {i : Nat} {z : Str} (hz : ms[i]? = some z) : nameOk z = true ∧ z ≠ "zero" ∧ z ∉ ms.take i := by
  have hi : i < ms.length := (List.getElem?_eq_some_iff.mp hz).1
  have hb := first_inv.1 h i hi
  have hm : markAt ms i = z := by unfold markAt; rw [hz]; rfl
  unfold badMark at hb
  rw [hm] at hb
  simp only [Bool.or_eq_false_iff, Bool.not_eq_false', decide_eq_false_iff_not] at hb
  exact ⟨hb.1, hb.2.1, hb.2.2⟩
theorem small_of {z : Str} (h : nameOk z = true) : SmallZ z := by
  unfold nameOk at h
  simp only [Bool.and_eq_true, decide_eq_true_eq] at h
  refine ⟨by omega, fun c hc => ?_⟩
  have h2 := h.2.1
  unfold Txt.isascii at h2
  rw [Array.all_eq_true'] at h2
  have := h2 c (by simpa using hc)
  have h3 : c < 128 := by simpa using this
  exact Nat.lt_trans h3 (by decide)
theorem marks_ok {ms : List Str} (h : first (badMark ms) ms.length = none) : (nodes ms).Nodup ∧ ∀ z ∈ nodes ms, SmallZ z := by
  refine ⟨?_, fun z hz => ?_⟩
  · rw [List.nodup_cons]
    refine ⟨fun hz => ?_, ?_⟩
    · obtain ⟨i, hi⟩ := List.getElem?_of_mem hz
      exact (mark_bad h hi).2.1 rfl
    · refine List.pairwise_iff_getElem.mpr fun i j hi hj hij e => ?_
      have hz : ms[j]? = some ms[j] := List.getElem?_eq_getElem hj
      refine (mark_bad h hz).2.2 ?_
      exact List.mem_of_getElem? (i := i) (by rw [List.getElem?_take, if_pos hij, List.getElem?_eq_getElem hi, e])
  · rcases List.mem_cons.mp hz with rfl | hz
    · exact ⟨by decide, by decide⟩
    · obtain ⟨i, hi⟩ := List.getElem?_of_mem hz
      exact small_of (mark_bad h hi).1
theorem fact_ok {ms : List Str} {xs : List V} (hf : ∀ x ∈ xs, Flat x) (h : factOk (nodes ms) xs = true) : ∃ f : Fact, xs = factV f ∧ f.1 ∈ nodes ms ∧ f.2.1 ∈ nodes ms ∧ f.1 ≠ f.2.1 := by
  unfold factOk at h
  split at h
  · rename_i x y c
    simp only [Bool.and_eq_true, Bool.not_eq_true', decide_eq_false_iff_not] at h
    obtain ⟨h1, h2, h3, h4⟩ := h
    have fx : Flat x := hf x (by simp)
    have fy : Flat y := hf y (by simp)
    have sx : ∃ z, x = .str z := by
      by_cases q : ∃ z, x = .str z
      · exact q
      · rw [inV_other fx (fun z e => q ⟨z, e⟩)] at h1; cases h1
    have sy : ∃ z, y = .str z := by
      by_cases q : ∃ z, y = .str z
      · exact q
      · rw [inV_other fy (fun z e => q ⟨z, e⟩)] at h2; cases h2
    obtain ⟨x, rfl⟩ := sx
    obtain ⟨y, rfl⟩ := sy
    obtain ⟨i, rfl⟩ : ∃ i, c = .int i := by
      unfold isWhole at h4
      split at h4
      · exact ⟨_, rfl⟩
      · cases h4
    rw [inV_str] at h1 h2
    exact ⟨(x, y, i), rfl, by simpa using h1, by simpa using h2, fun e => h3 (by rw [show x = y from e])⟩
  · cases h
theorem facts_ok {ms : List Str} : ∀ {fs : List (List V)}, FlatF fs → (∀ xs ∈ fs, factOk (nodes ms) xs = true) → ∃ MS : List Fact, fs = MS.map factV ∧ InN ms MS ∧ ∀ f ∈ MS, f.1 ≠ f.2.1
  | [], _, _ => ⟨[], rfl, fun f hf => (nomatch hf), fun f hf => (nomatch hf)⟩
  | xs :: fs, hf, h => by
    obtain ⟨f, e, h1, h2, h3⟩ := fact_ok (hf xs List.mem_cons_self) (h xs List.mem_cons_self)
    obtain ⟨MS, e2, h4, h5⟩ := facts_ok (ms := ms) (fs := fs) (fun ys hy => hf ys (List.mem_cons_of_mem _ hy)) fun ys hy => h ys (List.mem_cons_of_mem _ hy)
    refine ⟨f :: MS, by rw [e, e2]; rfl, fun g hg => ?_, fun g hg => ?_⟩
    · rcases List.mem_cons.mp hg with rfl | hg
      · exact ⟨h1, h2⟩
      · exact h4 g hg
    · rcases List.mem_cons.mp hg with rfl | hg
      · exact h3
      · exact h5 g hg
theorem facts_all {ms : List Str} {fs : List (List V)} (h : first (badFact ms fs) fs.length = none) : ∀ xs ∈ fs, factOk (nodes ms) xs = true := by
  intro xs hxs
  obtain ⟨i, hi⟩ := List.getElem?_of_mem hxs
  have hlt : i < fs.length := (List.getElem?_eq_some_iff.mp hi).1
  have := first_inv.1 h i hlt
  unfold badFact at this
  rw [hi] at this
  simpa using this
theorem fault_none {ms ts : List Str} {fs : List (List V)} (h : fault ms ts fs = none) : first (badMark ms) ms.length = none ∧ first (badTake ms ts) ts.length = none ∧ first (badFact ms fs) fs.length = none := by
  unfold fault at h
  cases e1 : first (badMark ms) ms.length with
  | some i => rw [e1] at h; cases h
  | none =>
    rw [e1] at h
    cases e2 : first (badTake ms ts) ts.length with
    | some i => rw [e2] at h; cases h
    | none =>
      rw [e2] at h
      cases e3 : first (badFact ms fs) fs.length with
      | some i => rw [e3] at h; cases h
      | none => exact ⟨rfl, rfl, rfl⟩
end K1
end
section
set_option maxRecDepth 100000
set_option maxHeartbeats 4000000
namespace K1
open PySem L2 K01
theorem But.refl {l : Addr} {H : Hp} : But l H H := fun _ _ _ e => e
theorem But.trans {l : Addr} {H1 H2 H3 : Hp} (h : But l H1 H2) (g : But l H2 H3) : But l H1 H3 := fun b o n e => g b o n (h b o n e)
theorem Same.but {l : Addr} {H1 H2 : Hp} (h : Same H1 H2) : But l H1 H2 := fun b o _ e => h b o e
theorem But.tup {K : PySem.W.Frag} {l C dx a : Addr} {fs : List (Str × V)} {H H' : Hp} {xs : List V} (hl : H l = some (.ins C dx fs)) (e : But l H H') (h : SqT K H a xs) : SqT K H' a xs := by
  rcases h with (q | ⟨o, q⟩) | q
  · exact .inl (.inl (e _ _ (fun z => by rw [z, hl] at q; cases q) q))
  · exact .inl (.inr ⟨o, e _ _ (fun z => by rw [z, hl] at q; cases q) q⟩)
  · exact .inr q
theorem But.tups {l C dx : Addr} {fs : List (Str × V)} {H H' : Hp} {ps : List Addr} {xss : List (List V)} (hl : H l = some (.ins C dx fs)) (e : But l H H') (h : TupsAt H ps xss) : TupsAt H' ps xss :=
  ⟨h.1, fun i p r q1 q2 => by
    have := h.2 i p r q1 q2
    exact e _ _ (fun z => by rw [z, hl] at this; cases this) this⟩
theorem But.tt {K : PySem.W.Frag} {l C dx a : Addr} {fs : List (Str × V)} {H H' : Hp} {xss : List (List V)} (hl : H l = some (.ins C dx fs)) (e : But l H H') (h : TTAt K H a xss) : TTAt K H' a xss := by
  obtain ⟨ps, h1, h2⟩ := h
  exact ⟨ps, But.tup hl e h1, But.tups hl e h2⟩
theorem nm_tm : ("marks" : Str) ≠ "takes" := by decide +kernel
theorem nm_fm : ("marks" : Str) ≠ "facts" := by decide +kernel
theorem nm_lm : ("marks" : Str) ≠ "_limits" := by decide +kernel
theorem nm_bm : ("marks" : Str) ≠ "bounds" := by decide +kernel
theorem nm_ft : ("takes" : Str) ≠ "facts" := by decide +kernel
theorem nm_lt : ("takes" : Str) ≠ "_limits" := by decide +kernel
theorem nm_bt : ("takes" : Str) ≠ "bounds" := by decide +kernel
theorem nm_lf : ("facts" : Str) ≠ "_limits" := by decide +kernel
theorem nm_bf : ("facts" : Str) ≠ "bounds" := by decide +kernel
theorem nm_bl : ("_limits" : Str) ≠ "bounds" := by decide +kernel
abbrev f1 (a : Addr) : List (Str × V) := [("marks", .ref a)]
abbrev f2 (a b : Addr) : List (Str × V) := [("marks", .ref a), ("takes", .ref b)]
abbrev f3 (a b c : Addr) : List (Str × V) := [("marks", .ref a), ("takes", .ref b), ("facts", .ref c)]
abbrev f4 (a b c : Addr) : List (Str × V) := [("marks", .ref a), ("takes", .ref b), ("facts", .ref c), ("_limits", .non)]
abbrev f5 (a b c p : Addr) : List (Str × V) := [("marks", .ref a), ("takes", .ref b), ("facts", .ref c), ("_limits", .non), ("bounds", .ref p)]
theorem put2 (a b : Addr) : putF "takes" (.ref b) (f1 a) = f2 a b := putF_new (by simp [nm_tm])
theorem put3 (a b c : Addr) : putF "facts" (.ref c) (f2 a b) = f3 a b c := putF_new (by simp [nm_fm, nm_ft])
theorem put4 (a b c : Addr) : putF "_limits" .non (f3 a b c) = f4 a b c := putF_new (by simp [nm_lm, nm_lt, nm_lf])
theorem put5 (a b c p : Addr) : putF "bounds" (.ref p) (f4 a b c) = f5 a b c p := putF_new (by simp [nm_bm, nm_bt, nm_bf, nm_bl])
theorem look_m {u : V} {r : List (Str × V)} : List.lookup ("marks" : Str) (("marks", u) :: r) = some u := by simp [List.lookup]
theorem look_t {u v : V} {r : List (Str × V)} : List.lookup ("takes" : Str) (("marks", u) :: ("takes", v) :: r) = some v := by
  have : (("takes" : Str) == "marks") = false := by decide +kernel
  simp [List.lookup, this]
theorem look_f {u v x : V} {r : List (Str × V)} : List.lookup ("facts" : Str) (("marks", u) :: ("takes", v) :: ("facts", x) :: r) = some x := by
  have h1 : (("facts" : Str) == "marks") = false := by decide +kernel
  have h2 : (("facts" : Str) == "takes") = false := by decide +kernel
  simp [List.lookup, h1, h2]
structure ShT (K : PySem.W.Frag) (C : Addr) : Prop where
  cl : Cls K C
  nm : NoAttr K C "marks"
  nt : NoAttr K C "takes"
  nf : NoAttr K C "facts"
  nl : NoAttr K C "_limits"
  nb : NoAttr K C "bounds"
section
variable {P : Program} {w : World} {K : PySem.W.Frag} {mg : Str → Option Value} {base : Heap}
abbrev sSheet : Stmt := inClass (top 47) 0
def SmallI (fs : List (List V)) : Prop := ∀ xs ∈ fs, ∀ i : Int, V.int i ∈ xs → i.natAbs.log2 < 1920
def spSheet (K : PySem.W.Frag) (C CC : Addr) (cls : Nat → Addr) : Sp := fun vs H Q E => ∃ (self dx a b c : Addr) (ms ts : List Str) (fs : List (List V)), vs = [.ref self, .ref a, .ref b, .ref c] ∧ H self = some (.ins C dx []) ∧ strsT K H a ms ∧ Short ms ∧ ms.length ≤ 100 ∧ strsT K H b ts ∧ ts.length ≤ 400 ∧ TTAt K H c fs ∧ FlatF fs ∧ fs.length ≤ 400 ∧ SmallI fs ∧
  (∀ k i H' d, fault ms ts fs = some (k, i) → But self H H' → H d = none → H' d = some (.xd [("index", .int (i : Nat))]) → E (.ref (cls k)) (some d) H') ∧
  (fault ms ts fs = none → ∀ MS : List Fact, fs = MS.map factV → InN ms MS → ∀ H' d rp RG, But self H H' → H d = none → H' d = some (.xd [("ring", .ref rp)]) → TTAt K H' rp (RG.map factV) → isRing (MS ++ zeros ms) RG → E (.ref CC) (some d) H') ∧
  (fault ms ts fs = none → ∀ MS : List Fact, fs = MS.map factV → InN ms MS → (nodes ms).Nodup → ∀ B, Good (ms.length + 1) (EG ms MS) B → ∀ H' p, But self H H' → MatAt K H' p B → H' self = some (.ins C dx (f5 a b c p)) → Q .non H')
theorem scSheet : FnScope ["self", "marks", "takes", "facts"] ["self", "marks", "takes", "facts"] (defScope sSheet) := ⟨rfl, rfl, rfl, by decide +kernel, rfl, by decide +kernel, by decide +kernel⟩
theorem ok_sheet {f fC fB fF C CC D0 : Addr} {fd fdC fdB fdF : FuncData} {cls : Nat → Addr} (F : FunD K "__init__" "Sheet.__init__" (defArgs sSheet) (defBody sSheet) (defScope sSheet) [.ref D0] [] f fd) (T : Bi mg) (S : ShT K C)
    (FC : Fun K "check_parts" "check_parts" sCheck fC fdC) (bC : Binds K fdC ["marks", "takes", "facts"] []) (mC : mg "check_parts" = some (.ref fC)) (GC : FnOk P w K mg base (L2N.CX P w) 4 fC fdC ["marks", "takes", "facts"] (spCheck K cls))
    (FB : Fun K "bounds_with" "bounds_with" sBounds fB fdB) (bB : Binds K fdB ["marks", "facts", "bounds", "more"] []) (mB : mg "bounds_with" = some (.ref fB)) (GB : FnOk P w K mg base (L2N.CX P w) 4 fB fdB ["marks", "facts", "bounds", "more"] (spBounds K CC))
    (FF : Fun K "free_bounds" "free_bounds" sFree fF fdF) (bF : Binds K fdF ["many"] []) (mF : mg "free_bounds" = some (.ref fF)) :
    FnOk P w K mg base (L2N.CX P w) 5 f fd ["self", "marks", "takes", "facts"] (spSheet K C CC cls) := by
  have GF : FnOk P w K mg base CX0 1 fF fdF ["many"] (spFree K) := ok_free FF T
  refine F.ok scSheet (fun vs H Q E h => ?_) (fun cdv A outer s H vs Q E hr h => ?_)
  · obtain ⟨_, _, _, _, _, _, _, _, rfl, _⟩ := h
    rfl
  · obtain ⟨self, dx, a, b, c, ms, ts, fs, rfl, hself, hm, hs, hml, ht, htl, hf, hff, hfl, hfi, kE, kR, kQ⟩ := h
    have hr1 : Room 1 _ := hr.mono (by decide)
    refine ⟨_, pss_cons (ps_fld (pv 0) (pe_callTy call_tuple_of (by rfl) T.tuple (by decide +kernel) (pa_cons (pv 1) pa_nil)) rfl)
      (pss_cons (ps_fld (pv 0) (pe_callTy call_tuple_of (by rfl) T.tuple (by decide +kernel) (pa_cons (pv 2) pa_nil)) rfl)
      (pss_cons (ps_fld (pv 0) (pe_callTy call_tuple_of (by rfl) T.tuple (by decide +kernel) (pa_cons (pv 3) pa_nil)) rfl)
      (pss_cons (ps_fld (pv 0) pe_non rfl)
      (pss_cons (ps_expr (pe_call GC hr rfl mC FC.kp bC .nil (L2N.passes_call (L2N.takes_of rfl rfl rfl rfl) fun _ _ _ _ h => h) (pa_cons (pe_fld (pv 0) rfl) (pa_cons (pe_fld (pv 0) rfl) (pa_cons (pe_fld (pv 0) rfl) pa_nil)))))
      (pss_one (ps_fld (pv 0) (pe_call GB hr rfl mB FB.kp bB .nil (L2N.passes_call (L2N.takes_of rfl rfl rfl rfl) fun _ _ _ _ h => h) (pa_cons (pe_fld (pv 0) rfl) (pa_cons (pe_tup pa_nil)
        (pa_cons (pe_call GF hr1 rfl mF FF.kp bF .nil pass0 (pa_cons (pe_callB call_len_seq (by rfl) T.len PySem.boot_len (pa_cons (pe_fld (pv 0) rfl) pa_nil)) pa_nil)) (pa_cons (pe_fld (pv 0) rfl) pa_nil))))) rfl)))))), ?_⟩
    obtain ⟨qs0, hq0, hT0⟩ := id hf
    refine ⟨_, rfl, a, _, rfl, .inr ⟨hm, _, rfl, self, C, dx, [], rfl, hself, S.cl, S.nm, by decide, ?_⟩⟩
    have B1 : But self H (upd H self (.ins C dx (f1 a))) := But.set
    have g1 : upd H self (.ins C dx (f1 a)) self = some (.ins C dx (f1 a)) := upd_same
    show tSeq _ _ _ _ (upd H self (.ins C dx (f1 a)))
    generalize upd H self (.ins C dx (f1 a)) = H1 at B1 g1
    refine ⟨_, rfl, b, _, rfl, .inr ⟨But.tup hself B1 ht, _, rfl, self, C, dx, _, rfl, g1, S.cl, S.nt, by show 1 < 1000; decide, ?_⟩⟩
    rw [put2]
    have B2 : But self H (upd H1 self (.ins C dx (f2 a b))) := B1.trans But.set
    have g2 : upd H1 self (.ins C dx (f2 a b)) self = some (.ins C dx (f2 a b)) := upd_same
    generalize upd H1 self (.ins C dx (f2 a b)) = H2 at B2 g2
    refine ⟨_, rfl, c, _, rfl, .inr ⟨But.tup hself B2 hq0, _, rfl, self, C, dx, _, rfl, g2, S.cl, S.nf, by show 2 < 1000; decide, ?_⟩⟩
    rw [put3]
    have B3 : But self H (upd H2 self (.ins C dx (f3 a b c))) := B2.trans But.set
    have g3 : upd H2 self (.ins C dx (f3 a b c)) self = some (.ins C dx (f3 a b c)) := upd_same
    generalize upd H2 self (.ins C dx (f3 a b c)) = H3 at B3 g3
    refine ⟨_, rfl, self, C, dx, _, rfl, g3, S.cl, S.nl, by show 3 < 1000; decide, ?_⟩
    rw [put4]
    have B4 : But self H (upd H3 self (.ins C dx (f4 a b c))) := B3.trans But.set
    have g4 : upd H3 self (.ins C dx (f4 a b c)) self = some (.ins C dx (f4 a b c)) := upd_same
    generalize upd H3 self (.ins C dx (f4 a b c)) = H4 at B4 g4
    have hm4 : strsT K H4 a ms := But.tup hself B4 hm
    have ht4 : strsT K H4 b ts := But.tup hself B4 ht
    have hf4 : TTAt K H4 c fs := But.tt hself B4 hf
    refine ⟨_, rfl, self, C, dx, _, _, rfl, g4, S.cl, S.nm, look_m, _, rfl, self, C, dx, _, _, rfl, g4, S.cl, S.nt, look_t, _, rfl, self, C, dx, _, _, rfl, g4, S.cl, S.nf, look_f, ?_⟩
    refine ⟨a, b, c, ms, ts, fs, rfl, hm4, hs, ht4, by omega, hf4, hff, by omega, fun k i H' d hk sH hd hx => ?_, fun hno H5 s5 => ?_⟩
    · refine kE k i H' d hk (B4.trans (Same.but sH)) ?_ hx
      cases q : H d with
      | none => rfl
      | some o =>
        by_cases e : d = self
        · rw [e, g4] at hd; cases hd
        · rw [B4 d o e q] at hd; cases hd
    · obtain ⟨n1, n2, n3⟩ := fault_none hno
      obtain ⟨hN, hZ⟩ := marks_ok n1
      obtain ⟨MS, eMS, hIn, hne⟩ := facts_ok (ms := ms) hff (facts_all n3)
      have g5 := s5 _ _ g4
      have B5 : But self H H5 := B4.trans (Same.but s5)
      have hm5 := Same.tup s5 hm4
      refine ⟨_, rfl, self, C, dx, _, _, rfl, g5, S.cl, S.nm, look_m, Nat.zero_le _, fun p0 hp0 => ?_⟩
      have s6 : Same H5 (upd H5 p0 (.tup [])) := Same.new hp0
      have g6 := s6 _ _ g5
      refine ⟨_, rfl, self, C, dx, _, _, rfl, g6, S.cl, S.nm, look_m, a, _, rfl, .inr (Same.tup s6 hm5), ?_⟩
      rw [List.length_map]
      refine ⟨ms.length, rfl, by omega, fun H7 p7 s7 h7 => ?_⟩
      have g7 := s7 _ _ g6
      have s57 := s6.trans s7
      refine ⟨_, rfl, self, C, dx, _, _, rfl, g7, S.cl, S.nf, look_f, ?_⟩
      obtain ⟨qs, hq1, hq2⟩ := (hf4.same s5).same s57
      have hi : ∀ f ∈ MS, f.1 ≠ f.2.1 ∧ f.2.2.natAbs.log2 < 1920 := fun f hf' => ⟨hne f hf', hfi (factV f) (by rw [eMS]; exact List.mem_map_of_mem hf') f.2.2 (by simp [factV])⟩
      refine ⟨a, p0, p7, c, ms, [], qs, [], MS, freeM ms.length, rfl, Same.tup s57 hm5, by omega, hN, hZ, Same.tup s7 tup_at, .nil, Nat.zero_le _, fun f hf' => (nomatch hf'), fun f hf' => (nomatch hf'), hq1, by rw [← eMS]; exact hq2, by rw [hq2.1]; omega, hIn, hi, h7, ?_, fun H8 p8 B8 s8 h8 G8 => ?_, fun H8 d rp RG s8 hd hx hR hring => ?_⟩
      · rw [EG, List.nil_append, zeros_edges hN]
        exact free_good ms.length
      · have g8 := s8 _ _ g7
        refine ⟨_, rfl, self, C, dx, _, rfl, g8, S.cl, S.nb, by show 4 < 1000; decide, ?_⟩
        rw [put5]
        refine kQ hno MS eMS hIn hN B8 (by rw [List.nil_append] at G8; exact G8) _ p8 ((B5.trans (Same.but (s57.trans s8))).trans But.set) ?_ upd_same
        obtain ⟨as, q1, q2, q3⟩ := h8
        exact ⟨as, q1, But.tup g8 But.set q2, fun i p r e1 e2 => But.tup g8 But.set (q3 i p r e1 e2)⟩
      · refine kR hno MS eMS hIn H8 d rp RG (B5.trans (Same.but (s57.trans s8))) ?_ hx hR (by rw [List.nil_append] at hring; exact hring)
        cases q : H d with
        | none => rfl
        | some o =>
          by_cases e : d = self
          · rw [e, g7] at hd; cases hd
          · rw [(B5.trans (Same.but s57)) d o e q] at hd; cases hd
end
end K1
end
section
set_option maxRecDepth 100000
set_option maxHeartbeats 4000000
namespace K1
open PySem L2 K01
def CPowW (i j : Int) : Prop := 0 ≤ j ∧ (Builtin.Int.intBits i : Int) * j ≤ 2 ^ 27
theorem op_powW {X : Cx} : OpR X (binaryOp .Pow) (rI CPowW fun i j => .int (i ^ j.toNat)) := opI fun _ _ _ _ _ _ _ hc q => PyProof.Rows.pow_int hc.1 hc.2 q
theorem pow_ok {i : Int} {n : Nat} (hi : i.natAbs < 2 ^ 200) (hn : n ≤ 100) : CPowW i (n : Int) := by
  refine ⟨by omega, ?_⟩
  have b : Builtin.Int.intBits i ≤ 1000 := by
    unfold Builtin.Int.intBits
    split
    · omega
    · rename_i h
      have := PySem.Flt.log2_lt_of (by decide : 0 < 200) hi
      omega
  have : (Builtin.Int.intBits i : Int) * (n : Int) ≤ 1000 * 100 := by
    have h1 : Builtin.Int.intBits i * n ≤ 1000 * 100 := Nat.mul_le_mul b hn
    exact_mod_cast h1
  omega
/-- the pit: a list of three numbers; z: no more than so many turns so far -/
def PitAt (H : Hp) (p : Addr) (z : Int) : Prop := ∃ x y c : Int, H p = some (.lst [.int x, .int y, .int c]) ∧ 0 ≤ x ∧ 0 ≤ y ∧ y < 10 ^ 40 ∧ 0 ≤ c ∧ c ≤ z
theorem PitAt.mono {H : Hp} {p : Addr} {z z' : Int} (h : PitAt H p z) (e : z ≤ z') : PitAt H p z' := by
  obtain ⟨x, y, c, h1, h2, h3, h4, h5, h6⟩ := h
  exact ⟨x, y, c, h1, h2, h3, h4, h5, by omega⟩
theorem PitAt.same {H H' : Hp} {p : Addr} {z : Int} (e : Same H H') (h : PitAt H p z) : PitAt H' p z := by
  obtain ⟨x, y, c, h1, h2⟩ := h
  exact ⟨x, y, c, e _ _ h1, h2⟩
section
variable {P : Program} {w : World} {K : PySem.W.Frag} {mg : Str → Option Value} {base : Heap}
abbrev sPit : Stmt := top 49
def spPit (K : PySem.W.Frag) : Sp := fun vs H Q _ => ∃ (a : Addr) (ns : List Int) (i : Nat), vs = [.ref a, .int i] ∧ SqL K H a (ns.map V.int) ∧ ns.length ≤ 63 ∧ i ≤ 100 ∧ ∀ H' p, Same H H' → H p = none → PitAt H' p 0 → Q (.ref p) H'
theorem scPit : FnScope ["script", "at", "cell"] ["script", "at"] (defScope sPit) := ⟨rfl, rfl, rfl, by decide +kernel, rfl, by decide +kernel, by decide +kernel⟩
theorem ok_pit {f : Addr} {fd : FuncData} (F : Fun K "_law_pit" "_law_pit" sPit f fd) (T : Bi mg) : FnOk P w K mg base CX0 1 f fd ["script", "at"] (spPit K) := by
  refine F.ok scPit (fun vs H Q E h => ?_) (fun cdv A outer s H vs Q E hr h => ?_)
  · obtain ⟨_, _, _, rfl, _⟩ := h
    rfl
  · obtain ⟨a, ns, i, rfl, hS, hl, hi, k⟩ := h
    refine ⟨_, pss_cons (ps_set (i := 2) scPit.nd rfl (.inl rfl) (pe_ifExp (pt_cmpR op_lt (pv 1) (pe_callB call_len_seq (by rfl) T.len PySem.boot_len (pa_cons (pv 0) pa_nil)) (nomark _)) (pe_ix ix_list (pv 0) (pv 1) (fun _ _ => rfl)) pe_int))
      (pss_one (ps_ret (pe_lst (pa_cons (pe_callB (call_max2 rfl) (by rfl) T.max (by decide +kernel) (pa_cons pe_int (pa_cons (pe_op op_sub (pe_callB call_abs (by rfl) T.abs (by decide +kernel) (pa_cons (pv 2) pa_nil)) (pe_op op_pow pe_int pe_int)) pa_nil)))
        (pa_cons (pe_op op_add (pe_op op_add (pe_op op_mul (pe_op op_modN (pe_callTy call_int1 (by rfl) T.int (by decide +kernel) (pa_cons (pv 2) pa_nil)) (pe_op op_add (pe_op op_pow pe_int pe_int) pe_int)) pe_int) (pe_op op_mul pe_int (pv 1))) pe_int) (pa_cons pe_int pa_nil)))))), ?_⟩
    have e18 : ((10 : Int) ^ (18 : Int).toNat) = 1000000000000000000 := by decide
    have e37 : ((10 : Int) ^ (37 : Int).toNat) + 3 = 10000000000000000000000000000000000003 := by decide
    have ne37 : (10 : Int) ^ (37 : Int).toNat + 3 ≠ 0 := by rw [e37]; decide
    have cp1 : CPow 10 18 := ⟨by decide, by decide, by decide⟩
    have cp2 : CPow 10 37 := ⟨by decide, by decide, by decide⟩
    have fin : ∀ c : Int, ∀ p, H p = none → Q (.ref p) (upd H p (.lst [.int (if (if c < 0 then -c else c) - 10 ^ (18 : Int).toNat > 0 then (if c < 0 then -c else c) - 10 ^ (18 : Int).toNat else 0), .int (c.fmod (10 ^ (37 : Int).toNat + 3) * 83 + 59 * (i : Int) + 37), .int 0])) := by
      intro c p hp
      refine k _ p (Same.new hp) hp ⟨_, _, _, upd_same, ?_, ?_, ?_, Int.le_refl _, Int.le_refl _⟩
      · split <;> omega
      · rw [e37]
        have := Int.fmod_nonneg_of_pos c (b := 10000000000000000000000000000000000003) (by decide)
        omega
      · rw [e37]
        have := Int.fmod_lt_of_pos c (b := 10000000000000000000000000000000000003) (by decide)
        omega
    refine ⟨_, rfl, _, rfl, a, _, rfl, .inl hS, _, _, rfl, rfl, _, rfl, ?_⟩
    by_cases hlt : (i : Int) < ((ns.map V.int).length : Nat)
    · have hi2 : i < ns.length := by rw [List.length_map] at hlt; omega
      have hg : (ns.map V.int)[i]? = some (.int ns[i]) := by rw [List.getElem?_map, List.getElem?_eq_getElem hi2]; rfl
      refine iteDT hlt ⟨_, rfl, _, rfl, _, _, _, _, rfl, rfl, hS, atI_nat hg, ?_⟩
      exact ⟨_, rfl, _, rfl, _, _, rfl, rfl, cp1, _, _, rfl, rfl, _, _, rfl, _, rfl, .inl ⟨_, rfl, _, _, rfl, rfl, cp2, _, _, rfl, rfl, _, _, rfl, rfl, ne37, _, _, rfl, rfl, .inr ⟨by decide, by decide⟩, _, rfl, _, _, rfl, rfl, .inl ⟨by decide, by decide⟩, _, _, rfl, rfl, _, _, rfl, rfl, by show 3 ≤ sizeLine; decide, fun p hp => fin _ p hp⟩⟩
    · refine iteDF hlt ?_
      exact ⟨_, rfl, _, rfl, _, _, rfl, rfl, cp1, _, _, rfl, rfl, _, _, rfl, _, rfl, .inl ⟨_, rfl, _, _, rfl, rfl, cp2, _, _, rfl, rfl, _, _, rfl, rfl, ne37, _, _, rfl, rfl, .inr ⟨by decide, by decide⟩, _, rfl, _, _, rfl, rfl, .inl ⟨by decide, by decide⟩, _, _, rfl, rfl, _, _, rfl, rfl, by show 3 ≤ sizeLine; decide, fun p hp => fin _ p hp⟩⟩
abbrev sHoist : Stmt := top 50
def spHoist (K : PySem.W.Frag) : Sp := fun vs H Q _ => ∃ (p : Addr) (b z : Int), vs = [.ref p, .int b] ∧ PitAt H p z ∧ z ≤ 1000000 ∧ 0 < b ∧ b < 10 ^ 20 ∧ ∀ H' d, But p H H' → PitAt H' p (z + 1) → 0 ≤ d → d < b → Q (.int d) H'
theorem scHoist : FnScope ["pit", "below", "digit", "swill"] ["pit", "below"] (defScope sHoist) := ⟨rfl, rfl, rfl, by decide +kernel, rfl, by decide +kernel, by decide +kernel⟩
theorem at3 (x y z : V) : atI [x, y, z] 0 = some x ∧ atI [x, y, z] 1 = some y ∧ atI [x, y, z] 2 = some z := ⟨at_of (j := 0) rfl rfl, at_of (j := 1) rfl rfl, at_of (j := 2) rfl rfl⟩
theorem ix3 : ixN 3 0 = some 0 ∧ ixN 3 2 = some 2 := by decide
theorem ok_hoist {f : Addr} {fd : FuncData} (F : Fun K "_law_hoist" "_law_hoist" sHoist f fd) (T : Bi mg) : FnOk P w K mg base CX0 1 f fd ["pit", "below"] (spHoist K) := by
  refine F.ok scHoist (fun vs H Q E h => ?_) (fun cdv A outer s H vs Q E hr h => ?_)
  · obtain ⟨_, _, _, rfl, _⟩ := h
    rfl
  · obtain ⟨p, b, z, rfl, ⟨x, y, c, hp, hx, hy, hy2, hc, hcz⟩, hz, hb, hb2, k⟩ := h
    refine ⟨_, pss_cons (ps_if (pt_cmpR op_gt (pe_ix ix_list (pv 0) pe_int (fun _ _ => rfl)) pe_int (nomark _))
        (pss_cons (ps_set (i := 2) scHoist.nd rfl (.inl rfl) (pe_op op_modN (pe_callTy call_int1 (by rfl) T.int (by decide +kernel) (pa_cons (pe_ix ix_list (pv 0) pe_int (fun _ _ => rfl)) pa_nil)) (pv 1)))
        (pss_cons (ps_asg (pe_op op_fdivW (pe_ix ix_list (pv 0) pe_int (fun _ _ => rfl)) (pv 1)) (pg_sub (pv 0) pe_int set_list))
        (pss_one (ps_ret (pv 2))))) pss_nil)
      (pss_cons (ps_asg (pe_op op_add (pe_ix ix_list (pv 0) pe_int (fun _ _ => rfl)) pe_int) (pg_sub (pv 0) pe_int set_list))
      (pss_cons (ps_set (i := 3) scHoist.nd rfl (.inl rfl) (pe_op op_modN (pe_op op_powW (pe_callTy call_int1 (by rfl) T.int (by decide +kernel) (pa_cons (pe_op op_add (pe_ix ix_list (pv 0) pe_int (fun _ _ => rfl)) (pe_op op_mul pe_int (pe_ix ix_list (pv 0) pe_int (fun _ _ => rfl)))) pa_nil)) pe_int) (pe_op op_add (pe_op op_pow pe_int pe_int) pe_int)))
      (pss_cons (ps_set (i := 3) scHoist.nd rfl (.inl rfl) (pe_op op_modN (pe_op op_powW (pe_callTy call_int1 (by rfl) T.int (by decide +kernel) (pa_cons (pe_op op_add (pv 3) (pe_op op_mul pe_int (pe_ix ix_list (pv 0) pe_int (fun _ _ => rfl)))) pa_nil)) pe_int) (pe_op op_add (pe_op op_pow pe_int pe_int) pe_int)))
      (pss_one (ps_ret (pe_op op_modN (pe_op op_fdivW (pv 3) pe_int) (pv 1))))))), ?_⟩
    have hq : SqL K H p [.int x, .int y, .int c] := SqL.of hp
    refine ⟨_, rfl, _, _, _, _, rfl, rfl, hq, (at3 _ _ _).1, _, _, rfl, rfl, _, rfl, ?_⟩
    have hbn : b ≠ 0 := by omega
    have hdw : CDivW x b := wide_div hb (by omega : b.natAbs < 2 ^ 70) (by decide) (by decide)
    by_cases hx0 : 0 < x
    · refine iteDT hx0 ⟨_, rfl, _, _, _, _, rfl, rfl, hq, (at3 _ _ _).1, .inl ⟨_, rfl, _, rfl, _, _, rfl, rfl, hbn, ?_⟩⟩
      refine ⟨_, rfl, _, _, _, _, rfl, rfl, hq, (at3 _ _ _).1, _, rfl, _, _, rfl, rfl, hdw, _, rfl, p, _, _, 0, rfl, rfl, hp, ix3.1, _, rfl, ?_⟩
      refine k _ _ But.set ⟨x / b, y, c, upd_same, Int.ediv_nonneg hx (by omega), hy, hy2, hc, by omega⟩ (Int.fmod_nonneg_of_pos _ hb) (Int.fmod_lt_of_pos _ hb)
    · refine iteDF hx0 ?_
      refine ⟨_, rfl, _, _, _, _, rfl, rfl, hq, (at3 _ _ _).2.2, _, _, rfl, rfl, _, rfl, p, _, _, 2, rfl, rfl, hp, ix3.2, ?_⟩
      have hp1 : (upd H p (.lst [V.int x, V.int y, V.int (c + 1)])) p = some (.lst [V.int x, V.int y, V.int (c + 1)]) := upd_same
      have B1 : But p H (upd H p (.lst [V.int x, V.int y, V.int (c + 1)])) := But.set
      show tSeq _ _ _ _ (upd H p (.lst [V.int x, V.int y, V.int (c + 1)]))
      generalize upd H p (.lst [V.int x, V.int y, V.int (c + 1)]) = H1 at hp1 B1
      have hq1 : SqL K H1 p [.int x, .int y, .int (c + 1)] := SqL.of hp1
      have e38 : ((10 : Int) ^ (38 : Int).toNat) + 67 = 100000000000000000000000000000000000067 := by decide
      have e39 : ((10 : Int) ^ (39 : Int).toNat) + 37 = 1000000000000000000000000000000000000037 := by decide
      have n38 : (10 : Int) ^ (38 : Int).toNat + 67 ≠ 0 := by rw [e38]; decide
      have n39 : (10 : Int) ^ (39 : Int).toNat + 37 ≠ 0 := by rw [e39]; decide
      have cp1 : CPow 10 38 := ⟨by decide, by decide, by decide⟩
      have cp2 : CPow 10 39 := ⟨by decide, by decide, by decide⟩
      have w1 : CPowW (y + 60013 * (c + 1)) 2 := pow_ok (n := 2) (by omega) (by decide)
      refine ⟨_, rfl, _, _, _, _, rfl, rfl, hq1, (at3 _ _ _).2.1, _, rfl, _, _, _, _, rfl, rfl, hq1, (at3 _ _ _).2.2, _, _, rfl, rfl, .inl ⟨by decide, by decide⟩, _, _, rfl, rfl, .inl ⟨_, rfl, _, _, rfl, rfl, w1, _, _, rfl, rfl, cp1, _, _, rfl, rfl, _, _, rfl, rfl, n38, ?_⟩⟩
      have s1a := Int.fmod_nonneg_of_pos ((y + 60013 * (c + 1)) ^ (2 : Int).toNat) (b := 10 ^ (38 : Int).toNat + 67) (by rw [e38]; decide)
      have s1b := Int.fmod_lt_of_pos ((y + 60013 * (c + 1)) ^ (2 : Int).toNat) (b := 10 ^ (38 : Int).toNat + 67) (by rw [e38]; decide)
      have w2 : CPowW (((y + 60013 * (c + 1)) ^ (2 : Int).toNat).fmod (10 ^ (38 : Int).toNat + 67) + 800011 * (c + 1)) 3 := by
        generalize ((y + 60013 * (c + 1)) ^ (2 : Int).toNat).fmod (10 ^ (38 : Int).toNat + 67) = s1 at s1a s1b
        rw [e38] at s1b
        exact pow_ok (n := 3) (by omega) (by decide)
      refine ⟨_, rfl, _, rfl, _, _, _, _, rfl, rfl, hq1, (at3 _ _ _).2.2, _, _, rfl, rfl, .inl ⟨by decide, by decide⟩, _, _, rfl, rfl, .inl ⟨_, rfl, _, _, rfl, rfl, w2, _, _, rfl, rfl, cp2, _, _, rfl, rfl, _, _, rfl, rfl, n39, ?_⟩⟩
      refine ⟨_, rfl, _, _, rfl, rfl, wide_div (by decide) (by decide : (524288 : Int).natAbs < 2 ^ 20) (by decide) (by decide), _, rfl, _, _, rfl, rfl, hbn, ?_⟩
      exact k _ _ B1 ⟨x, y, c + 1, hp1, hx, hy, hy2, by omega, by omega⟩ (Int.fmod_nonneg_of_pos _ hb) (Int.fmod_lt_of_pos _ hb)
end
end K1
end
section
set_option maxRecDepth 100000
set_option maxHeartbeats 4000000
namespace K1
open PySem L2 K01
/-! ### data -/
def AscZ (z : Str) : Prop := ∀ c ∈ z.cps.toList, c < 128
def Lv (n : Nat) (d : PyData) : Prop := d.canLay0 = true ∧ d.depth ≤ n
theorem Lv.none {n : Nat} : Lv n .none := ⟨by simp [PyData.canLay0], by simp [PyData.depth]⟩
theorem Lv.bl {n : Nat} (b : Bool) : Lv n (.bool b) := ⟨by simp [PyData.canLay0], by simp [PyData.depth]⟩
theorem Lv.int {n : Nat} (i : Int) : Lv n (.int i) := ⟨by simp [PyData.canLay0], by simp [PyData.depth]⟩
theorem Lv.str {n : Nat} {z : Str} (h : AscZ z) : Lv n (.str z) := ⟨by
  simp only [PyData.canLay0]
  unfold PyData.strOk
  rw [Array.all_eq_true']
  intro c hc
  have := h c (by simpa using hc)
  simpa using (Nat.lt_trans this (by decide) : c < 0x110000), by simp [PyData.depth]⟩
theorem lv_all {n : Nat} : ∀ {ds : List PyData}, (∀ d ∈ ds, Lv n d) → PyData.canLayAll0 ds = true ∧ PyData.depthAll ds ≤ n
  | [], _ => ⟨by simp [PyData.canLayAll0], by simp [PyData.depthAll]⟩
  | d :: ds, h => by
    have h1 := h d List.mem_cons_self
    have h2 := lv_all (ds := ds) fun e he => h e (List.mem_cons_of_mem _ he)
    refine ⟨by simp only [PyData.canLayAll0, h1.1, h2.1, Bool.and_self], ?_⟩
    simp only [PyData.depthAll]
    have := h1.2
    have := h2.2
    omega
theorem Lv.list {n : Nat} {ds : List PyData} (h : ∀ d ∈ ds, Lv n d) : Lv (n + 1) (.list ds) := by
  obtain ⟨h1, h2⟩ := lv_all h
  exact ⟨by simp only [PyData.canLay0, h1], by simp only [PyData.depth]; omega⟩
theorem Lv.tuple {n : Nat} {ds : List PyData} (h : ∀ d ∈ ds, Lv n d) : Lv (n + 1) (.tuple ds) := by
  obtain ⟨h1, h2⟩ := lv_all h
  exact ⟨by simp only [PyData.canLay0, h1], by simp only [PyData.depth]; omega⟩
theorem Lv.shaped {n : Nat} {d : PyData} (h : Lv n d) (hn : n ≤ 64) : SeqAt.shaped d = true := by
  unfold SeqAt.shaped
  rw [h.1, decide_eq_true (Nat.le_trans h.2 hn)]
  rfl
theorem shaped_nil : SeqAt.shaped (.list []) = true := Lv.shaped (n := 1) (Lv.list (n := 0) fun d hd => nomatch hd) (by decide)
theorem shaped_nilT : SeqAt.shaped (.tuple []) = true := Lv.shaped (n := 1) (Lv.tuple (n := 0) fun d hd => nomatch hd) (by decide)
theorem eqv_nil (ds : List PyData) : PyData.eqv (.list ds) (.list []) = ds.isEmpty := by
  cases ds <;> simp [PyData.eqv, PyData.eqvAll]
theorem eqv_nilT (ds : List PyData) : PyData.eqv (.tuple ds) (.tuple []) = ds.isEmpty := by
  cases ds <;> simp [PyData.eqv, PyData.eqvAll]
/-- flat values as data -/
def vD : V → PyData
  | .bl b => .bool b
  | .int i => .int i
  | .str z => .str z
  | _ => .none
theorem Flat.dp {K : PySem.W.Frag} {H : Hp} {v : V} (h : Flat v) : Dp K H v (vD v) := by
  cases h with
  | non => exact .non
  | bl b => exact .bl b
  | int i => exact .int i
  | str z => exact .str z
theorem flats_dp {K : PySem.W.Frag} {H : Hp} : ∀ {vs : List V}, (∀ v ∈ vs, Flat v) → DpAll K H vs (vs.map vD)
  | [], _ => .nil
  | v :: vs, h => .cons (h v List.mem_cons_self).dp (flats_dp fun u hu => h u (List.mem_cons_of_mem _ hu))
end K1
end
section
set_option maxRecDepth 100000
set_option maxHeartbeats 4000000
namespace K1
open PySem L2 K01
def letters : Str := "abcdefghijklmnopqrstuvwxyzABCDEFGHIJKLMNOPQRSTUVWXYZ"
def lets : List Nat := letters.cps.toList
theorem lets_alpha : ∀ c : Fin 128, PySem.Unicode.isAlpha c.1 = decide (c.1 ∈ lets) := by decide +kernel
theorem lets_asc : ∀ c ∈ lets, c < 128 := by decide +kernel
def oneS (c : Nat) : Str := ⟨#[c]⟩
def goodL (z : Str) : Bool := (decide ((0 : Int) < (z.length : Int)) && decide ((z.length : Int) < 9)) && (z.cps.toList.filter fun c => !decide (c ∈ lets)).isEmpty
theorem good_eq (z : Str) : goodL z = nameOk z := by
  unfold goodL nameOk Txt.isascii Txt.isalpha
  rw [Bool.eq_iff_iff]
  simp only [Bool.and_eq_true, decide_eq_true_eq, List.isEmpty_iff, List.filter_eq_nil_iff, Bool.not_eq_true', decide_eq_false_iff_not, Decidable.not_not, Array.all_eq_true']
  constructor
  · rintro ⟨⟨h1, h2⟩, h3⟩
    have h3' : ∀ c ∈ z.cps, c ∈ lets := fun c hc => h3 c (by simpa using hc)
    refine ⟨by omega, fun c hc => by simpa using lets_asc c (h3' c hc), by omega, fun c hc => ?_⟩
    have := lets_alpha ⟨c, lets_asc c (h3' c hc)⟩
    simp only at this
    rw [this]
    simpa using h3' c hc
  · rintro ⟨h1, h2, h3, h4⟩
    refine ⟨⟨by omega, by omega⟩, fun c hc => ?_⟩
    have hc' : c ∈ z.cps := by simpa using hc
    have l : c < 128 := by simpa using h2 c hc'
    have := lets_alpha ⟨c, l⟩
    simp only at this
    rw [h4 c hc'] at this
    simpa using this.symm
end K1
end
section
set_option maxRecDepth 100000
set_option maxHeartbeats 4000000
namespace K1
open PySem L2 K01
theorem catT_it {K : PySem.W.Frag} {H : Hp} {a b : Addr} {xs ys : List V} {Q : V → Hp → Prop} (h1 : SqT K H a xs) (h2 : SqT K H b ys) (hx : xs ≠ []) (hl : xs.length + ys.length ≤ sizeLine)
    (k : ∀ p H', Same H H' → SqT K H' p (xs ++ ys) → Q (.ref p) H') : rCatT K (.ref a) (.ref b) H Q := by
  refine ⟨_, _, _, _, rfl, rfl, h1, h2, hx, hl, fun e => ?_, fun _ q hq => k q _ (Same.new hq) tup_at⟩
  refine k a H (Same.refl H) ?_
  rw [e, List.append_nil]; exact h1
end K1
end
section
set_option maxRecDepth 100000
set_option maxHeartbeats 4000000
namespace K1
open PySem L2 K01
def edgeV (e : Edge) : List V := [.int (e.1 : Nat), .int (e.2.1 : Nat), .int e.2.2]
theorem eqv_strs (z u : Str) : eqV (.str z) (.str u) = decide (z = u) := by
  by_cases h : z = u
  · subst h; simp [eqV]
  · simp [eqV, h]
theorem index_hit {ms : List Str} {z : Str} (hz : z ∈ nodes ms) : ((nodes ms).map V.str)[ix ms z]? = some (.str z) ∧ eqV (.str z) (.str z) = true ∧ (∀ (m : Nat) (v : V), m < ix ms z → ((nodes ms).map V.str)[m]? = some v → eqV v (.str z) = false) := by
  have g := ix_get hz
  refine ⟨by rw [List.getElem?_map, g]; rfl, by rw [eqv_strs]; exact decide_eq_true rfl, fun m v hm hv => ?_⟩
  obtain ⟨u, hu, rfl⟩ := get_map hv
  rw [eqv_strs]
  refine decide_eq_false fun e => ?_
  subst e
  have hl := (List.getElem?_eq_some_iff.mp hu).1
  have := List.not_of_lt_findIdx (xs := nodes ms) (p := (· == u)) (i := m) hm
  have e2 : (nodes ms)[m] = u := (List.getElem?_eq_some_iff.mp hu).2
  rw [e2] at this
  simp at this
section
variable {P : Program} {w : World} {K : PySem.W.Frag} {mg : Str → Option Value} {base : Heap}
abbrev sNum : Stmt := top 54
def spNum (K : PySem.W.Frag) : Sp := fun vs H Q _ => ∃ (a q : Addr) (ms : List Str) (F : List Fact), vs = [.ref a, .ref q] ∧ strsT K H a ms ∧ ms.length ≤ 900 ∧ TTAt K H q (F.map factV) ∧ F.length ≤ 900 ∧ InN ms F ∧
  ∀ H' p ps, Same H H' → H' p = some (.lst (ps.map V.ref)) → TupsAt H' ps (F.map fun f => edgeV (eF ms f)) → Q (.ref p) H'
theorem scNum : FnScope ["marks_here", "facts_here", "nodes", "ax", "by", "sum_here"] ["marks_here", "facts_here"] (defScope sNum) := ⟨rfl, rfl, rfl, by decide +kernel, rfl, by decide +kernel, by decide +kernel⟩
theorem ok_num {f : Addr} {fd : FuncData} (F : Fun K "_law_numbered" "_law_numbered" sNum f fd) (T : Bi mg) : FnOk P w K mg base CX0 1 f fd ["marks_here", "facts_here"] (spNum K) := by
  refine F.ok scNum (fun vs H Q E h => ?_) (fun cdv A outer s H vs Q E hr h => ?_)
  · obtain ⟨_, _, _, _, rfl, _⟩ := h
    rfl
  · obtain ⟨a, q, ms, F, rfl, hm, hl, hF, hFl, hI, k⟩ := h
    refine ⟨_, pss_cons (ps_set (i := 2) scNum.nd rfl (.inr rfl) (pe_op op_cat (pe_lst (pa_cons pe_str pa_nil)) (pe_callTy call_list_of (by rfl) T.list (by decide +kernel) (pa_cons (pv 0) pa_nil))))
      (pss_one (ps_ret (pe_lc (own := [("ax", 3), ("by", 4), ("sum_here", 5)]) (g := gTup K 3 (gCons (gName 3) (gCons (gName 4) (gCons (gName 5) gNil)))) (te := tTup (tCons (tBM K "list" (rIndex K) (tVar 2) (tCons (tVar 3) tNil)) (tCons (tBM K "list" (rIndex K) (tVar 2) (tCons (tVar 4) tNil)) (tCons (tVar 5) tNil)))) rfl scNum.nd (pi_tup (pv 1))
        (blkOk_by (N := ["marks_here", "facts_here", "nodes", "ax", "by", "sum_here"]) (sc := defScope sNum) (by decide +kernel))
        (fun _ _ _ _ _ => pg_tup rfl (pgs_cons (pg_name (i := 3) scNum.nd rfl (.inl rfl)) (pgs_cons (pg_name (i := 4) scNum.nd rfl (.inl rfl)) (pgs_cons (pg_name (i := 5) scNum.nd rfl (.inl rfl)) pgs_nil))))
        (fun _ _ _ _ _ => pts_nil)
        (fun _ _ _ _ _ => pe_tup (pa_cons (pe_bm PySem.F.plainAttrs_list PySem.F.slot_list_index PySem.F.type_list_index mt_index (pv 2) (pa_cons (pv 3) pa_nil)) (pa_cons (pe_bm PySem.F.plainAttrs_list PySem.F.slot_list_index PySem.F.type_list_index mt_index (pv 2) (pa_cons (pv 4) pa_nil)) (pa_cons (pv 5) pa_nil))))))), ?_⟩
    refine ⟨by show 1 ≤ sizeLine; decide, fun l1 h1 => ⟨_, rfl, a, _, rfl, .inr (Same.tup (Same.new h1) hm), fun l2 h2 => ?_⟩⟩
    have n12 : l1 ≠ l2 := fun e => by rw [← e, upd_same] at h2; cases h2
    refine ⟨l1, l2, _, _, rfl, rfl, by rw [upd_ne n12]; exact upd_same, upd_same, by rw [List.length_map]; exact Nat.le_of_lt (Nat.lt_of_le_of_lt (show 1 + ms.length ≤ 1001 by omega) (by decide)), fun l hl3 => ?_⟩
    have s0 : Same H (upd (upd (upd H l1 (.lst [.str "zero"])) l2 (.lst (ms.map V.str))) l (.lst ([.str "zero"] ++ ms.map V.str))) := ((Same.new h1).trans (Same.new h2)).trans (Same.new hl3)
    have hL : SqL K (upd (upd (upd H l1 (.lst [.str "zero"])) l2 (.lst (ms.map V.str))) l (.lst ([.str "zero"] ++ ms.map V.str))) l ((nodes ms).map V.str) := SqL.of upd_same
    have hLe : (upd (upd (upd H l1 (.lst [.str "zero"])) l2 (.lst (ms.map V.str))) l (.lst ([.str "zero"] ++ ms.map V.str))) l = some (.lst ((nodes ms).map V.str)) := upd_same
    show gName _ _ _ (upd (upd (upd H l1 (.lst [.str "zero"])) l2 (.lst (ms.map V.str))) l (.lst ([.str "zero"] ++ ms.map V.str))) _
    generalize (upd (upd (upd H l1 (.lst [.str "zero"])) l2 (.lst (ms.map V.str))) l (.lst ([.str "zero"] ++ ms.map V.str))) = H0 at s0 hL hLe
    obtain ⟨ps0, hq, hT⟩ := hF.same s0
    refine ⟨_, rfl, q, rfl, ⟨_, hq⟩, fun D hD => ?_⟩
    refine lc_it (walk_tup (K := K) (a := q)) (fun i H' => Same H0 H' ∧ ∃ ps, H' D = some (.lst (ps.map V.ref)) ∧ TupsAt H' ps ((F.take i).map fun f => edgeV (eF ms f))) ⟨Same.new hD, [], upd_same, TupsAt.nil⟩ (fun i H' _ u => Same.tup u.1 hq) ?_ ?_
    · rintro i v H1 H2 hi ⟨q1, ps, q2, q3⟩ ⟨rfl, hv⟩
      obtain ⟨p, hp, rfl⟩ := get_map hv
      obtain ⟨xs, hxs, hpx⟩ := (hT.same q1).get hp
      obtain ⟨f, hf, rfl⟩ := get_map hxs
      have hm1 := hI f (List.mem_of_getElem? hf)
      have hl2 : H2 l = some (.lst ((nodes ms).map V.str)) := q1 _ _ hLe
      have pl : ps.length ≤ i := by
        have := q3.1
        rw [List.length_map, List.length_take] at this
        omega
      rw [List.length_map] at hi
      have hps0 : ps0.length = F.length := by have := hT.1; rw [List.length_map] at this; exact this
      refine ⟨p, _, rfl, SqT.of hpx, rfl, _, _, rfl, _, _, rfl, _, _, rfl, rfl, rfl, yes_ ?_⟩
      refine ⟨_, rfl, .inl ⟨rfl, _, SqL.of hl2⟩, _, rfl, l, _, .str f.1, ix ms f.1, .str f.1, rfl, rfl, SqL.of hl2, rfl, strs_flat _, (index_hit hm1.1).1, (index_hit hm1.1).2.1, (index_hit hm1.1).2.2, ?_⟩
      refine ⟨_, rfl, .inl ⟨rfl, _, SqL.of hl2⟩, _, rfl, l, _, .str f.2.1, ix ms f.2.1, .str f.2.1, rfl, rfl, SqL.of hl2, rfl, strs_flat _, (index_hit hm1.2).1, (index_hit hm1.2).2.1, (index_hit hm1.2).2.2, ?_⟩
      refine ⟨_, rfl, by show 3 ≤ sizeLine; decide, fun t ht => ?_⟩
      have nD : t ≠ D := fun e => by rw [e, q2] at ht; cases ht
      refine ⟨_, by rw [upd_ne nD.symm]; exact q2, by rw [List.length_map]; exact small1000 (by omega), Same.set (q1.trans (Same.new ht)) hD, ps ++ [t], by rw [upd_same, List.map_append]; rfl, ?_⟩
      rw [take_snoc hf, List.map_append]
      refine TupsAt.upd (xs := ps.map V.ref) (by rw [upd_ne nD.symm]; exact q2) ((q3.same (Same.new ht)).snoc ?_)
      exact upd_same
    · rintro H1 ⟨q1, ps, q2, q3⟩
      have : ps0.length = F.length := by have := hT.1; rw [List.length_map] at this; exact this
      rw [List.length_map, this, List.take_length] at q3
      exact k H1 D ps (s0.trans q1) q2 q3
end
end K1
end
section
set_option maxRecDepth 100000
set_option maxHeartbeats 4000000
namespace K1
open PySem L2 K01
/-- a list of lists of cells -/
structure LMat (H : Hp) (R : Addr) (as : List Addr) (B : Mat) : Prop where
  out : H R = some (.lst (as.map V.ref))
  len : as.length = B.length
  nd : as.Nodup
  ne : R ∉ as
  row : ∀ (i : Nat) (p : Addr) (r : List Cell), as[i]? = some p → B[i]? = some r → H p = some (.lst (r.map cV))
theorem LMat.same {H H' : Hp} {R : Addr} {as : List Addr} {B : Mat} (e : Same H H') (h : LMat H R as B) : LMat H' R as B :=
  ⟨e _ _ h.out, h.len, h.nd, h.ne, fun i p r a b => e _ _ (h.row i p r a b)⟩
theorem LMat.get {H : Hp} {R : Addr} {as : List Addr} {B : Mat} {n x : Nat} (h : LMat H R as B) (S : Sized n B) (hx : x < n) : ∃ p, as[x]? = some p ∧ H p = some (.lst ((rowAt B x).map cV)) := by
  have hl : x < as.length := by rw [h.len, S.1]; exact hx
  obtain ⟨r, h1, h2⟩ := S.row hx
  refine ⟨as[x], List.getElem?_eq_getElem hl, ?_⟩
  rw [rowAt_of h1]
  exact h.row x _ r (List.getElem?_eq_getElem hl) h1
theorem LMat.set {H : Hp} {R : Addr} {as : List Addr} {B : Mat} {n x : Nat} (h : LMat H R as B) (S : Sized n B) (hx : x < n) {p : Addr} (hp : as[x]? = some p) (y : Nat) (v : Cell) :
    LMat (upd H p (.lst (((rowAt B x).map cV).set y (cV v)))) R as (setC B x y v) := by
  have hm : p ∈ as := List.mem_of_getElem? hp
  refine ⟨?_, ?_, h.nd, h.ne, fun i q r h1 h2 => ?_⟩
  · rw [upd_ne (fun e => h.ne (by rw [e]; exact hm))]; exact h.out
  · unfold setC; rw [List.length_set]; exact h.len
  · unfold setC at h2
    rw [List.getElem?_set] at h2
    by_cases e : x = i
    · subst e
      rw [if_pos rfl] at h2
      have hxl : x < B.length := by rw [S.1]; exact hx
      rw [if_pos hxl] at h2
      cases h2
      rw [hp] at h1
      cases h1
      rw [upd_same, List.map_set]
    · rw [if_neg e] at h2
      have : q ≠ p := fun z => e (nd_ix h.nd (by rw [← z] at hp; exact hp) h1)
      rw [upd_ne this]
      exact h.row i q r h1 h2
theorem lst_cell {n : Nat} {B : Mat} (S : Sized n B) {x y : Nat} (hx : x < n) (hy : y < n) : atI ((rowAt B x).map cV) (y : Nat) = some (cV (cell B x y)) := atI_nat (row_cell S hx hy)
theorem LMat.push {H : Hp} {R : Addr} {as : List Addr} {B : Mat} {D : Addr} {r : List Cell} (h : LMat H R as B) (hD : H D = some (.lst (r.map cV))) (h1 : D ∉ as) (h2 : R ≠ D) :
    LMat (upd H R (.lst (as.map V.ref ++ [.ref D]))) R (as ++ [D]) (B ++ [r]) := by
  refine ⟨?_, ?_, ?_, ?_, fun i p q g1 g2 => ?_⟩
  · rw [upd_same, List.map_append]; rfl
  · rw [List.length_append, List.length_append, h.len]; rfl
  · rw [List.nodup_append]
    exact ⟨h.nd, by simp, fun x hx y hy => by rw [List.mem_singleton] at hy; rw [hy]; exact fun e => h1 (e ▸ hx)⟩
  · rw [List.mem_append, List.mem_singleton]
    exact fun e => e.elim h.ne h2
  · by_cases hi : i < as.length
    · rw [List.getElem?_append_left hi] at g1
      rw [List.getElem?_append_left (by rw [← h.len]; exact hi)] at g2
      rw [upd_ne (fun e => h.ne (by rw [← e]; exact List.mem_of_getElem? g1))]
      exact h.row i p q g1 g2
    · rw [List.getElem?_append_right (by omega)] at g1
      rw [List.getElem?_append_right (by rw [← h.len]; omega), ← h.len] at g2
      cases e : i - as.length with
      | zero =>
        rw [e] at g1 g2
        simp at g1 g2
        rw [← g1, ← g2, upd_ne h2.symm]; exact hD
      | succ k => rw [e] at g1; simp at g1
theorem LMat.mem {H : Hp} {R : Addr} {as : List Addr} {B : Mat} (h : LMat H R as B) {p : Addr} (hp : p ∈ as) : H p ≠ none := by
  obtain ⟨i, hi, e⟩ := List.mem_iff_getElem.mp hp
  have hb : i < B.length := by rw [← h.len]; exact hi
  rw [h.row i p _ (List.getElem?_eq_some_iff.mpr ⟨hi, e⟩) (List.getElem?_eq_getElem hb)]
  exact fun z => nomatch z
/-- the matrix, made since H -/
def LM (H : Hp) (R : Addr) (B : Mat) (H' : Hp) : Prop := Same H H' ∧ ∃ as, LMat H' R as B ∧ ∀ a ∈ as, H a = none
theorem ixN_nat {n b : Nat} (h : b < n) : ixN n (b : Nat) = some b := by
  unfold ixN
  rw [if_pos (Int.natCast_nonneg b), if_pos (by exact_mod_cast h)]
  simp
theorem LM.read {H : Hp} {R : Addr} {B : Mat} {H' : Hp} {K : PySem.W.Frag} {n a : Nat} (h : LM H R B H') (S : Sized n B) (ha : a < n) :
    ∃ xs p, SqL K H' R xs ∧ atI xs (a : Nat) = some (.ref p) ∧ SqL K H' p ((rowAt B a).map cV) ∧ H' p = some (.lst ((rowAt B a).map cV)) ∧ ∀ b v, LM H R (setC B a b v) (upd H' p (.lst (((rowAt B a).map cV).set b (cV v)))) := by
  obtain ⟨h1, as, h2, h3⟩ := h
  obtain ⟨p, g1, g2⟩ := h2.get S ha
  refine ⟨_, p, SqL.of h2.out, atI_nat (v := V.ref p) (by rw [List.getElem?_map, g1]; rfl), SqL.of g2, g2, fun b v => ⟨Same.set h1 (h3 p (List.mem_of_getElem? g1)), as, h2.set S ha g1 b v, h3⟩⟩
theorem LM.ix {n : Nat} {B : Mat} (S : Sized n B) {a b : Nat} (ha : a < n) (hb : b < n) : ixN ((rowAt B a).map cV).length (b : Nat) = some b := by
  rw [List.length_map, S.rowAt ha]; exact ixN_nat hb
theorem sz_B {n m a : Nat} {B : Mat} (S : Sized n B) (ha : a < n) (k : Nat) : Sized n ((List.range k).foldl (turnB m a) B) :=
  fold_ind (Sized n) _ _ S fun b x _ h => relax_sized h ha m x
theorem sz_A {n m : Nat} {B : Mat} (S : Sized n B) {k : Nat} (hk : k ≤ n) : Sized n ((List.range k).foldl (turnA n m) B) :=
  fold_ind (Sized n) _ _ S fun b x hx h => sz_B h (Nat.lt_of_lt_of_le (List.mem_range.mp hx) hk) n
theorem sz_M {n : Nat} {B : Mat} (S : Sized n B) (k : Nat) : Sized n ((List.range k).foldl (turnM n) B) :=
  fold_ind (Sized n) _ _ S fun b x hx h => sz_A h (Nat.le_refl n)
theorem sz_E {n : Nat} {B : Mat} (S : Sized n B) {E : List Edge} (hE : InR n E) : Sized n (E.foldl putE B) :=
  fold_ind (Sized n) _ _ S fun b x hx h => lower_sized h (hE x hx).1 _ _
theorem range_snoc {α : Type} (f : α → Nat → α) (a : α) (k : Nat) : (List.range (k + 1)).foldl f a = f ((List.range k).foldl f a) k := by
  rw [List.range_succ, List.foldl_append]; rfl
theorem walk_r0 {n : Nat} : L2.Walk (Itr 0 n) n (fun _ => True) (YFn fun i => V.int (i : Nat)) := by
  have := walk_range (lo := 0) (n := n)
  simpa only [Int.zero_add] using this
theorem for_r0 {n : Nat} {g : TG} {tb : TS} {D : Ends} {σ : St} {H : Hp} (Pv : Nat → St → Hp → Prop) (h0 : Pv 0 σ H)
    (hs : ∀ (i : Nat) (σ : St) (H : Hp), i < n → Pv i σ H → g (V.int (i : Nat)) σ H fun σ2 H2 => tb { nx := Pv (i + 1), rt := D.rt, bk := D.nx, ct := Pv (i + 1) } σ2 H2)
    (hd : ∀ (σ : St) (H : Hp), Pv n σ H → D.nx σ H) :
    ∃ W : Nat → Nat → St → Hp → Prop, (∃ m, W 0 m σ H) ∧ ∀ (i m : Nat) (σ : St) (H : Hp), W i m σ H → (Itr 0 n).stop i H ∧ D.nx σ H ∨ (Itr 0 n).go i H ∧ ∃ N, (∀ (σ' : St) (H' : Hp), N σ' H' → ∃ m', m' < m ∧ W (i + 1) m' σ' H') ∧
      ∀ (x : V) (H' : Hp), (Itr 0 n).yld i H x H' → g x σ H' fun σ2 H2 => tb { nx := N, rt := D.rt, bk := D.nx, ct := N } σ2 H2 :=
  for_it walk_r0 Pv h0 (fun _ _ _ _ _ => trivial) (fun i x σ H H' hi hp ⟨e1, e2⟩ => by subst e1; subst e2; exact hs i σ _ hi hp) hd
theorem inV_01 (i j : Nat) : inV (V.int (i : Nat)) [V.int 0, V.int (j : Nat)] = decide (i = 0 ∨ i = j) := by
  have e : ∀ a b : Int, eqV (.int a) (.int b) = decide (a = b) := fun a b => by
    by_cases h : a = b
    · subst h; simp [eqV]
    · simp [eqV, h]
  simp only [inV, List.any_cons, List.any_nil, Bool.or_false, e]
  rw [Bool.eq_iff_iff]
  simp only [Bool.or_eq_true, decide_eq_true_eq]
  omega
theorem closed_diag {n : Nat} {E : List Edge} (R : InR n E) {x : Nat} (hx : x < n) : ∃ d, cell (closedM n E) x x = some d := by
  obtain ⟨h1, _, h3, _⟩ := start_le R
  obtain ⟨d, h, _⟩ := (fw_tri h1).1.2 hx hx (h3 hx)
  exact ⟨d, h⟩
end K1
end
section
set_option maxRecDepth 100000
set_option maxHeartbeats 4000000
namespace K1
open PySem L2 K01
section
variable {P : Program} {w : World} {K : PySem.W.Frag} {mg : Str → Option Value} {base : Heap}
abbrev sClosed : Stmt := top 53
def spClosed (K : PySem.W.Frag) : Sp := fun vs H Q _ => ∃ (m : Nat) (q : Addr) (ps : List Addr) (E : List Edge), vs = [.int m, .ref q] ∧ m ≤ 100 ∧ H q = some (.lst (ps.map V.ref)) ∧ TupsAt H ps (E.map edgeV) ∧ InR (m + 1) E ∧
  ∀ H', Same H H' → (negs (m + 1) (closedM (m + 1) E) = [] → ∀ R, LM H R (closedM (m + 1) E) H' → Q (.ref R) H') ∧ (negs (m + 1) (closedM (m + 1) E) ≠ [] → Q .non H')
abbrev nsC : List Str := ["many", "facts_here", "size", "ax", "by", "rows", "sum_here", "mid", "far"]
theorem scClosed : FnScope nsC ["many", "facts_here"] (defScope sClosed) := ⟨rfl, rfl, rfl, by decide +kernel, rfl, by decide +kernel, by decide +kernel⟩
abbrev tRC (K : PySem.W.Frag) (i j : Nat) : TE := tOp (rIxL K) (tOp (rIxL K) (tVar 5) (tVar i)) (tVar j)
theorem ok_closed {f : Addr} {fd : FuncData} (F : Fun K "_law_closed" "_law_closed" sClosed f fd) (T : Bi mg) : FnOk P w K mg base CX0 1 f fd ["many", "facts_here"] (spClosed K) := by
  refine F.ok scClosed (fun vs H Q E h => ?_) (fun cdv A outer s H vs Q E hr h => ?_)
  · obtain ⟨_, _, _, _, rfl, _⟩ := h
    rfl
  · obtain ⟨m, q, ps, E, rfl, hm, hq, hT, hR, k⟩ := h
    refine ⟨_, pss_cons (ps_set (i := 2) scClosed.nd rfl (.inr rfl) (pe_op op_add (pv 0) pe_int))
      (pss_cons (ps_set (i := 5) scClosed.nd rfl (.inr rfl) (pe_lc (own := [("ax", 3)]) (g := gName 3) (te := tLc (iRng1 (tCons (tVar 2) tNil)) (gName 4) tYes (tIf (tTest (tOp (rIn K false) (tVar 3) (tTup (tCons (tC (.int 0)) (tCons (tVar 4) tNil))))) (tC (.int 0)) (tC .non)) [4]) rfl scClosed.nd
          (pi_range1 (by rfl) T.range (pa_cons (pv 2) pa_nil)) (blkOk_by (N := nsC) (sc := defScope sClosed) (by decide +kernel))
          (fun _ _ _ _ _ => pg_name (i := 3) scClosed.nd rfl (.inr rfl)) (fun _ _ _ _ _ => pts_nil)
          (fun _ _ _ _ _ => pe_lc (own := [("by", 4)]) (g := gName 4) (te := tIf (tTest (tOp (rIn K false) (tVar 3) (tTup (tCons (tC (.int 0)) (tCons (tVar 4) tNil))))) (tC (.int 0)) (tC .non)) rfl scClosed.nd
            (pi_range1 (by rfl) T.range (pa_cons (pv 2) pa_nil)) (blkOk_by (N := nsC) (sc := { kind := .function, names := [(".0", .local), ("ax", .cell), ("range", .globalImplicit), ("size", .cell)], isGenerator := false, isCoroutine := false }) (by decide +kernel))
            (fun _ _ _ _ _ => pg_name (i := 4) scClosed.nd rfl (.inl rfl)) (fun _ _ _ _ _ => pts_nil)
            (fun _ _ _ _ _ => pe_ifExp (pt_cmpR op_in_seq (pv 3) (pe_tup (pa_cons pe_int (pa_cons (pv 4) pa_nil))) (by rfl)) pe_int pe_non))))
      (pss_cons (ps_for PassesOwn.never rfl (pi_list (pv 1)) (pg_tup rfl (pgs_cons (pg_name (i := 3) scClosed.nd rfl (.inl rfl)) (pgs_cons (pg_name (i := 4) scClosed.nd rfl (.inl rfl)) (pgs_cons (pg_name (i := 6) scClosed.nd rfl (.inl rfl)) pgs_nil))))
        (pss_one (ps_if (PW.pt (pw_or (pt_cmpR op_isN (pe_ix ix_list (pe_ix ix_list (pv 5) (pv 3) (fun _ _ => rfl)) (pv 4) (fun _ _ => rfl)) pe_non (nomark _)) (pw_or1 (pt_cmpR op_lt (pv 6) (pe_ix ix_list (pe_ix ix_list (pv 5) (pv 3) (fun _ _ => rfl)) (pv 4) (fun _ _ => rfl)) (nomark _)))))
          (pss_one (ps_asg (pv 6) (pg_sub (pe_ix ix_list (pv 5) (pv 3) (fun _ _ => rfl)) (pv 4) set_list))) pss_nil)))
      (pss_cons (ps_for PassesOwn.never rfl (pi_range1 (by rfl) T.range (pa_cons (pv 2) pa_nil)) (pg_name (i := 7) scClosed.nd rfl (.inl rfl))
        (pss_one (ps_for PassesOwn.never rfl (pi_range1 (by rfl) T.range (pa_cons (pv 2) pa_nil)) (pg_name (i := 3) scClosed.nd rfl (.inl rfl))
          (pss_one (ps_for PassesOwn.never rfl (pi_range1 (by rfl) T.range (pa_cons (pv 2) pa_nil)) (pg_name (i := 4) scClosed.nd rfl (.inl rfl))
            (pss_one (ps_if (PW.pt (pw_and (pt_cmpR op_notN (pe_ix ix_list (pe_ix ix_list (pv 5) (pv 3) (fun _ _ => rfl)) (pv 7) (fun _ _ => rfl)) pe_non (nomark _)) (pw_and1 (pt_cmpR op_notN (pe_ix ix_list (pe_ix ix_list (pv 5) (pv 7) (fun _ _ => rfl)) (pv 4) (fun _ _ => rfl)) pe_non (nomark _)))))
              (pss_cons (ps_set (i := 8) scClosed.nd rfl (.inl rfl) (pe_op op_add (pe_ix ix_list (pe_ix ix_list (pv 5) (pv 3) (fun _ _ => rfl)) (pv 7) (fun _ _ => rfl)) (pe_ix ix_list (pe_ix ix_list (pv 5) (pv 7) (fun _ _ => rfl)) (pv 4) (fun _ _ => rfl))))
              (pss_one (ps_if (PW.pt (pw_or (pt_cmpR op_isN (pe_ix ix_list (pe_ix ix_list (pv 5) (pv 3) (fun _ _ => rfl)) (pv 4) (fun _ _ => rfl)) pe_non (nomark _)) (pw_or1 (pt_cmpR op_lt (pv 8) (pe_ix ix_list (pe_ix ix_list (pv 5) (pv 3) (fun _ _ => rfl)) (pv 4) (fun _ _ => rfl)) (nomark _)))))
                (pss_one (ps_asg (pv 8) (pg_sub (pe_ix ix_list (pv 5) (pv 3) (fun _ _ => rfl)) (pv 4) set_list))) pss_nil))) pss_nil)))))))
      (pss_one (ps_ret (pe_ifExp (pt_cmpR (op_eqD hr.units) (pe_lc (own := [("ax", 3)]) (g := gName 3) (tt := tTest (tOp (rI0 fun i j => V.bl (decide (i < j))) (tRC K 3 3) (tC (.int 0)))) rfl scClosed.nd (pi_range1 (by rfl) T.range (pa_cons (pv 2) pa_nil)) (blkOk_by (N := nsC) (sc := defScope sClosed) (by decide +kernel))
        (fun _ _ _ _ _ => pg_name (i := 3) scClosed.nd rfl (.inl rfl)) (fun _ _ _ _ _ => pts_one (pt_cmpR op_lt (pe_ix ix_list (pe_ix ix_list (pv 5) (pv 3) (fun _ _ => rfl)) (pv 3) (fun _ _ => rfl)) pe_int (nomark _))) (fun _ _ _ _ _ => pv 3)) (pe_lst pa_nil) (nomark _)) (pv 5) pe_non)))))), ?_⟩
    refine ⟨_, rfl, _, _, rfl, rfl, _, rfl, _, rfl, by omega, by omega, fun R hR0 => ?_⟩
    have hR00 : H R = none := hR0
    have em : ((m : Int) + 1).toNat = m + 1 := by omega
    rw [em]
    -- the rows
    refine lc_it (walk_r0 (n := m + 1)) (fun i H' => LM H R ((row0 (m + 1)).take i) H') ⟨Same.new hR0, [], ⟨upd_same, rfl, List.nodup_nil, by simp, fun i p r h => nomatch h⟩, by simp⟩ (fun _ _ _ _ => trivial) ?_ ?_
    · rintro i v H1 H2 hi ⟨s1, as, hA, hfr⟩ ⟨rfl, rfl⟩
      have hrow : (row0 (m + 1))[i]? = some ((List.range (m + 1)).map fun b => if i = 0 ∨ i = b then some 0 else none) := by
        unfold row0
        rw [List.getElem?_map, List.getElem?_range hi]
        rfl
      generalize hrf : ((List.range (m + 1)).map fun b => if i = 0 ∨ i = b then (some 0 : Cell) else none) = rf at hrow
      have rl : rf.length = m + 1 := by rw [← hrf]; simp
      refine ⟨rfl, yes_ ⟨_, rfl, _, rfl, by omega, by omega, fun D hD => ?_⟩⟩
      rw [em]
      have s2 : Same H (upd H2 D (.lst [])) := s1.trans (Same.new hD)
      refine lc_it (walk_r0 (n := m + 1)) (fun j H' => Same H2 H' ∧ H' D = some (.lst ((rf.take j).map cV))) ⟨Same.new hD, upd_same⟩ (fun _ _ _ _ => trivial) ?_ ?_
      · rintro j v H3 H4 hj ⟨t1, t2⟩ ⟨rfl, rfl⟩
        have hg : rf[j]? = some (if i = 0 ∨ i = j then some 0 else none) := by
          rw [← hrf, List.getElem?_map, List.getElem?_range hj]
          rfl
        refine ⟨rfl, yes_ ⟨_, rfl, _, rfl, by show 2 ≤ sizeLine; decide, fun t ht => ?_⟩⟩
        refine ⟨t, _, rfl, .inr tup_at, rfl, rfl, _, rfl, ?_⟩
        have nD : D ≠ t := fun e => by rw [← e, t2] at ht; cases ht
        have fin : ∀ {z}, z = cV (if i = 0 ∨ i = j then some 0 else none) → ∃ acc, (upd H4 t (.tup [.int 0, .int (j : Nat)])) D = some (HO.lst acc) ∧ acc.length < sizeLine ∧ (Same H2 (upd (upd H4 t (.tup [.int 0, .int (j : Nat)])) D (.lst (acc ++ [z]))) ∧ (upd (upd H4 t (.tup [.int 0, .int (j : Nat)])) D (.lst (acc ++ [z]))) D = some (.lst ((rf.take (j + 1)).map cV))) := by
          intro z hz
          refine ⟨_, (upd_ne nD).trans t2, ?_, Same.set (t1.trans (Same.new ht)) hD, ?_⟩
          · rw [List.length_map, List.length_take]
            exact Nat.lt_of_le_of_lt (Nat.min_le_left _ _) (small1000 (by omega))
          · rw [upd_same, take_snoc hg, List.map_append, hz]
            rfl
        rw [inV_01, if_neg Bool.false_ne_true]
        by_cases e : i = 0 ∨ i = j
        · exact iteDT e (fin (by rw [if_pos e]; rfl))
        · exact iteDF e (fin (by rw [if_neg e]; rfl))
      · rintro H3 ⟨t1, t2⟩
        have hRn : H2 R = some (.lst (as.map V.ref)) := hA.out
        have nRD : R ≠ D := fun e => by rw [← e, hRn] at hD; cases hD
        have hft : rf.take (m + 1) = rf := by rw [← rl, List.take_length]
        rw [hft] at t2
        have hasl : as.length = i := by
          have := hA.len
          rw [List.length_take, (row0_sized (m + 1)).1] at this
          omega
        refine ⟨_, t1 _ _ hRn, by rw [List.length_map]; exact small1000 (by omega), Same.set (s1.trans t1) hR00, as ++ [D], ?_, ?_⟩
        · rw [take_snoc hrow]
          exact (hA.same t1).push t2 (fun h => hA.mem h hD) nRD
        · intro a ha
          rcases List.mem_append.mp ha with ha | ha
          · exact hfr a ha
          · rw [List.mem_singleton] at ha
            rw [ha]
            exact s1.free hD
    · rintro H1 hL
      have hft : (row0 (m + 1)).take (m + 1) = row0 (m + 1) := by
        have := (row0_sized (m + 1)).1
        conv => lhs; arg 1; rw [← this]
        rw [List.take_length]
      rw [hft] at hL
      -- the facts
      refine ⟨_, rfl, q, rfl, ⟨_, SqL.of (hL.1 _ _ hq)⟩, for_it (walk_list (K := K) (a := q) (xs := ps.map V.ref)) (fun i σ H' => (∃ x y s mi fa, σ = [some (.int (m : Nat)), some (.ref q), some (.int ((m : Int) + 1)), x, y, some (.ref R), s, mi, fa]) ∧ LM H R ((E.take i).foldl putE (row0 (m + 1))) H')
        ⟨⟨_, _, _, _, _, rfl⟩, hL⟩ (fun i σ H' _ u => SqL.of (u.2.1 _ _ hq)) ?_ ?_⟩
      · rintro i v σ H2 H3 hi ⟨⟨x, y, s, mi, fa, rfl⟩, hM⟩ ⟨rfl, hv⟩
        obtain ⟨p, hp, rfl⟩ := get_map hv
        obtain ⟨xs, hxs, hpx⟩ := (hT.same hM.1).get hp
        obtain ⟨e, he, rfl⟩ := get_map hxs
        obtain ⟨ea, eb, es⟩ := e
        have hab := hR _ (List.mem_of_getElem? he)
        have S : Sized (m + 1) ((E.take i).foldl putE (row0 (m + 1))) := sz_E (row0_sized _) (fun e h => hR e (List.mem_of_mem_take h))
        have hst : (E.take (i + 1)).foldl putE (row0 (m + 1)) = lower ((E.take i).foldl putE (row0 (m + 1))) ea eb es := by
          rw [take_snoc he, List.foldl_append]; rfl
        rw [hst]
        generalize (E.take i).foldl putE (row0 (m + 1)) = B at hM S
        obtain ⟨us, pa, r1, r2, r3, r4, r5⟩ := hM.read (K := K) S hab.1
        have r6 := lst_cell S hab.1 hab.2
        have r7 := LM.ix S hab.1 hab.2
        refine ⟨p, _, rfl, SqT.of hpx, rfl, _, _, rfl, _, _, rfl, _, _, rfl, rfl, ?_⟩
        refine ⟨_, rfl, _, rfl, _, _, _, _, rfl, rfl, r1, r2, _, rfl, _, _, _, _, rfl, rfl, r3, r6, rfl, _, rfl, ?_⟩
        cases hc : cell B ea eb with
        | none =>
          have hlo : lower B ea eb es = setC B ea eb (some es) := by unfold lower; rw [hc]
          rw [hlo]
          exact iteDT rfl (iteT ⟨_, rfl, _, rfl, _, rfl, _, _, _, _, rfl, rfl, r1, r2, _, rfl, pa, _, _, eb, rfl, rfl, r4, r7, ⟨_, _, _, _, _, rfl⟩, r5 eb (some es)⟩)
        | some o =>
          have hlo : lower B ea eb es = if es < o then setC B ea eb (some es) else B := by unfold lower; rw [hc]
          rw [hlo]
          rw [hc] at r6
          refine iteDF (fun z => nomatch z) ⟨_, rfl, _, rfl, _, rfl, _, _, _, _, rfl, rfl, r1, r2, _, rfl, _, _, _, _, rfl, rfl, r3, r6, _, _, rfl, rfl, _, rfl, ?_⟩
          by_cases hlt : es < o
          · rw [if_pos hlt]
            exact iteDT hlt ⟨_, rfl, _, rfl, _, rfl, _, _, _, _, rfl, rfl, r1, r2, _, rfl, pa, _, _, eb, rfl, rfl, r4, r7, ⟨_, _, _, _, _, rfl⟩, r5 eb (some es)⟩
          · rw [if_neg hlt]
            exact iteDF hlt ⟨⟨_, _, _, _, _, rfl⟩, hM⟩
      · rintro σ H2 ⟨⟨x, y, s, mi, fa, rfl⟩, hM⟩
        have hEl : (ps.map V.ref).length = E.length := by rw [List.length_map, hT.1, List.length_map]
        rw [hEl, List.take_length] at hM
        have hM : LM H R (start (m + 1) E) H2 := hM
        have S0 : Sized (m + 1) (start (m + 1) E) := (start_le hR).1
        -- the closing
        refine ⟨_, rfl, _, rfl, by omega, by omega, ?_⟩
        rw [em]
        refine for_r0 (fun i σ H' => (∃ x y s mi fa, σ = [some (.int (m : Nat)), some (.ref q), some (.int ((m : Int) + 1)), x, y, some (.ref R), s, mi, fa]) ∧ LM H R ((List.range i).foldl (turnM (m + 1)) (start (m + 1) E)) H')
          ⟨⟨_, _, _, _, _, rfl⟩, hM⟩ ?_ ?_
        · rintro i σ H3 hi ⟨⟨x, y, s, mi, fa, rfl⟩, hM⟩
          have S1 := sz_M S0 i
          rw [range_snoc]
          generalize (List.range i).foldl (turnM (m + 1)) (start (m + 1) E) = B1 at hM S1
          refine ⟨_, rfl, _, rfl, by omega, by omega, ?_⟩
          rw [em]
          refine for_r0 (fun j σ H' => (∃ x y s fa, σ = [some (.int (m : Nat)), some (.ref q), some (.int ((m : Int) + 1)), x, y, some (.ref R), s, some (.int (i : Nat)), fa]) ∧ LM H R ((List.range j).foldl (turnA (m + 1) i) B1) H')
            ⟨⟨_, _, _, _, rfl⟩, hM⟩ ?_ ?_
          · rintro j σ H4 hj ⟨⟨x, y, s, fa, rfl⟩, hM⟩
            have S2 := sz_A (m := i) S1 (Nat.le_of_lt hj)
            rw [range_snoc]
            generalize (List.range j).foldl (turnA (m + 1) i) B1 = B2 at hM S2
            refine ⟨_, rfl, _, rfl, by omega, by omega, ?_⟩
            rw [em]
            refine for_r0 (fun l σ H' => (∃ y s fa, σ = [some (.int (m : Nat)), some (.ref q), some (.int ((m : Int) + 1)), some (.int (j : Nat)), y, some (.ref R), s, some (.int (i : Nat)), fa]) ∧ LM H R ((List.range l).foldl (turnB i j) B2) H')
              ⟨⟨_, _, _, rfl⟩, hM⟩ ?_ ?_
            · rintro l σ H5 hl ⟨⟨y, s, fa, rfl⟩, hM⟩
              have S3 := sz_B (m := i) S2 hj l
              rw [range_snoc]
              generalize (List.range l).foldl (turnB i j) B2 = B at hM S3
              obtain ⟨us, pa, r1, r2, r3, r4, r5⟩ := hM.read (K := K) S3 hj
              obtain ⟨us', pb, q1, q2, q3, _, _⟩ := hM.read (K := K) S3 hi
              have c1 := lst_cell S3 hj hi
              have c2 := lst_cell S3 hi hl
              have c3 := lst_cell S3 hj hl
              have r7 := LM.ix S3 hj hl
              show gName _ _ _ H5 _
              refine ⟨_, rfl, _, rfl, _, _, _, _, rfl, rfl, r1, r2, _, rfl, _, _, _, _, rfl, rfl, r3, c1, rfl, _, rfl, ?_⟩
              cases e1 : cell B j i with
              | none =>
                have hre : turnB i j B l = B := by unfold turnB relax; rw [e1]
                rw [hre]
                exact iteNS rfl ⟨⟨_, _, _, rfl⟩, hM⟩
              | some x1 =>
                rw [e1] at c1
                refine iteNF (fun z => nomatch z) ⟨_, rfl, _, rfl, _, _, _, _, rfl, rfl, q1, q2, _, rfl, _, _, _, _, rfl, rfl, q3, c2, rfl, _, rfl, ?_⟩
                cases e2 : cell B i l with
                | none =>
                  have hre : turnB i j B l = B := by unfold turnB relax; rw [e1]; simp only [e2]
                  rw [hre]
                  exact iteNS rfl ⟨⟨_, _, _, rfl⟩, hM⟩
                | some x2 =>
                  rw [e2] at c2
                  refine iteNF (fun z => nomatch z) ⟨_, rfl, _, rfl, _, _, _, _, rfl, rfl, r1, r2, _, rfl, _, _, _, _, rfl, rfl, r3, c1, _, rfl, _, rfl, _, _, _, _, rfl, rfl, q1, q2, _, rfl, _, _, _, _, rfl, rfl, q3, c2, _, _, rfl, rfl, ?_⟩
                  refine ⟨_, rfl, _, rfl, _, _, _, _, rfl, rfl, r1, r2, _, rfl, _, _, _, _, rfl, rfl, r3, c3, rfl, _, rfl, ?_⟩
                  have hre : turnB i j B l = lower B j l (x1 + x2) := by unfold turnB relax; rw [e1]; simp only [e2]
                  rw [hre]
                  cases hc : cell B j l with
                  | none =>
                    have hlo : lower B j l (x1 + x2) = setC B j l (some (x1 + x2)) := by unfold lower; rw [hc]
                    rw [hlo]
                    exact iteDT rfl (iteT ⟨_, rfl, _, rfl, _, rfl, _, _, _, _, rfl, rfl, r1, r2, _, rfl, pa, _, _, l, rfl, rfl, r4, r7, ⟨_, _, _, rfl⟩, r5 l (some (x1 + x2))⟩)
                  | some o =>
                    have hlo : lower B j l (x1 + x2) = if (x1 + x2) < o then setC B j l (some (x1 + x2)) else B := by unfold lower; rw [hc]
                    rw [hlo]
                    rw [hc] at c3
                    refine iteDF (fun z => nomatch z) ⟨_, rfl, _, rfl, _, rfl, _, _, _, _, rfl, rfl, r1, r2, _, rfl, _, _, _, _, rfl, rfl, r3, c3, _, _, rfl, rfl, _, rfl, ?_⟩
                    by_cases hlt : (x1 + x2) < o
                    · rw [if_pos hlt]
                      exact iteDT hlt ⟨_, rfl, _, rfl, _, rfl, _, _, _, _, rfl, rfl, r1, r2, _, rfl, pa, _, _, l, rfl, rfl, r4, r7, ⟨_, _, _, rfl⟩, r5 l (some (x1 + x2))⟩
                    · rw [if_neg hlt]
                      exact iteDF hlt ⟨⟨_, _, _, rfl⟩, hM⟩
            · rintro σ H5 ⟨⟨y, s, fa, rfl⟩, hM⟩
              exact ⟨⟨_, _, _, _, rfl⟩, hM⟩
          · rintro σ H4 ⟨⟨x, y, s, fa, rfl⟩, hM⟩
            exact ⟨⟨_, _, _, _, _, rfl⟩, hM⟩
        · rintro σ H3 ⟨⟨x, y, s, mi, fa, rfl⟩, hM⟩
          have hM : LM H R (closedM (m + 1) E) H3 := hM
          have SC : Sized (m + 1) (closedM (m + 1) E) := (fw_tri S0).1.1
          have hdg := fun z (hz : z < m + 1) => closed_diag hR hz
          generalize closedM (m + 1) E = B at hM SC hdg k
          refine ⟨_, rfl, _, rfl, by omega, by omega, fun D hD => ?_⟩
          rw [em]
          refine lc_it (walk_r0 (n := m + 1)) (fun i H' => Same H3 H' ∧ H' D = some (.lst ((((List.range i).filter (below0 B)).map fun z => V.int (z : Nat))))) ⟨Same.new hD, upd_same⟩ (fun _ _ _ _ => trivial) ?_ ?_
          · rintro i v H4 H5 hi ⟨q1, q2⟩ ⟨rfl, rfl⟩
            obtain ⟨d, hd⟩ := hdg i hi
            obtain ⟨us, pa, r1, r2, r3, r4, r5⟩ := LM.read (K := K) ⟨hM.1.trans q1, hM.2.imp fun as h => ⟨h.1.same q1, h.2⟩⟩ SC hi
            have c1 := lst_cell SC hi hi
            rw [hd] at c1
            refine ⟨rfl, _, rfl, _, rfl, _, _, _, _, rfl, rfl, r1, r2, _, rfl, _, _, _, _, rfl, rfl, r3, c1, _, _, rfl, rfl, _, rfl, ?_⟩
            have hn : ((List.range i).filter (below0 B)).length ≤ 1000 := by
              have a1 := List.length_filter_le (below0 B) (List.range i)
              rw [List.length_range] at a1
              omega
            have hb : below0 B i = decide (d < 0) := by unfold below0; rw [hd]
            by_cases hl : d < 0
            · refine iteDT hl ⟨_, rfl, _, q2, by rw [List.length_map]; exact small1000 hn, Same.set q1 hD, ?_⟩
              rw [upd_same, List.range_succ, List.filter_append, List.filter_cons_of_pos (by rw [hb]; exact decide_eq_true hl), List.filter_nil, List.map_append]
              rfl
            · refine iteDF hl ⟨q1, ?_⟩
              rw [List.range_succ, List.filter_append, List.filter_cons_of_neg (by rw [hb, decide_eq_false hl]; exact Bool.false_ne_true), List.filter_nil, List.append_nil]
              exact q2
          · rintro H4 ⟨q1, q2⟩
            refine ⟨Nat.zero_le _, fun e he => ?_⟩
            have eD : D ≠ e := fun q => by rw [← q, q2] at he; cases he
            have q2' : (upd H4 e (.lst [])) D = _ := (upd_ne eD).trans q2
            refine ⟨.list _, .list [], .lst (SqL.of q2') (flats_dp ?_), .lst (SqL.of upd_same) .nil, ?_, shaped_nil, ?_⟩
            · intro v hv
              obtain ⟨u, _, rfl⟩ := List.mem_map.mp hv
              exact .int _
            · refine Lv.shaped (n := 1) (Lv.list (n := 0) ?_) (by decide)
              intro d hd
              obtain ⟨v, hv, rfl⟩ := List.mem_map.mp hd
              obtain ⟨u, hu, rfl⟩ := List.mem_map.mp hv
              exact Lv.int _
            · rw [eqv_nil]
              have kk := k _ ((hM.1.trans q1).trans (Same.new (o := .lst []) he))
              refine ⟨_, rfl, ?_⟩
              unfold negs at kk
              cases hn : (List.range (m + 1)).filter (below0 B) with
              | nil => exact ⟨_, rfl, kk.1 hn R ⟨(hM.1.trans q1).trans (Same.new (o := .lst []) he), hM.2.imp fun as h => ⟨(h.1.same q1).same (Same.new (o := .lst []) he), h.2⟩⟩⟩
              | cons z zs => exact kk.2 (by rw [hn]; exact fun q => nomatch q)
end
end K1
end
section
set_option maxRecDepth 100000
set_option maxHeartbeats 4000000
namespace K1
open PySem L2 K01
def kindZ : Nat → Str
  | 0 => "marks"
  | 1 => "takes"
  | _ => "fact"
end K1
end
section
set_option maxRecDepth 100000
set_option maxHeartbeats 4000000
namespace K1
open PySem L2 K01
/-- a name of letters -/
structure GN (z : Str) : Prop where
  pos : 1 ≤ z.cps.toList.length
  len : z.cps.toList.length ≤ 8
  let' : ∀ c ∈ z.cps.toList, c ∈ lets
theorem GN.len' {z : Str} (h : GN z) : z.length ≤ 8 := by
  have := h.len
  rw [Array.length_toList] at this
  exact this
theorem GN.asc {z : Str} (h : GN z) : AscZ z := fun c hc => lets_asc c (h.let' c hc)
theorem GN.ok {z : Str} (h : GN z) : nameOk z = true := by
  rw [← good_eq]
  unfold goodL
  have h1 := h.pos
  have h2 := h.len'
  have e : z.length = z.cps.toList.length := (Array.length_toList).symm
  rw [decide_eq_true (by omega), decide_eq_true (by omega), Bool.true_and, Bool.true_and, List.isEmpty_iff, List.filter_eq_nil_iff]
  intro c hc
  simp [h.let' c hc]
theorem app_cps (a b : Str) : (a ++ b).cps.toList = a.cps.toList ++ b.cps.toList := by
  show (a.cps ++ b.cps).toList = _
  rw [Array.toList_append]
theorem one_cps (c : Nat) : (oneS c).cps.toList = [c] := rfl
theorem cut_cps (z : Str) (lo hi : Option Int) : (cutS z lo hi).cps.toList = List.take (HT.sIx z.length z.length hi - HT.sIx z.length 0 lo) (List.drop (HT.sIx z.length 0 lo) z.cps.toList) := by
  unfold cutS
  simp
theorem glue_cps : ∀ (r : List Nat) (acc : Array Nat), (List.foldl (fun acc (p : Str) => acc ++ ("" : Str).cps ++ p.cps) acc (r.map oneS)).toList = acc.toList ++ r
  | [], acc => by simp
  | c :: r, acc => by
    rw [List.map_cons, List.foldl_cons, glue_cps r]
    have : ("" : Str).cps = #[] := rfl
    rw [this]
    simp [oneS]
theorem join_cps (cs : List Nat) : (Txt.join "" (cs.map oneS)).cps.toList = cs := by
  cases cs with
  | nil => rfl
  | cons c r =>
    show (List.foldl (fun acc (p : Str) => acc ++ ("" : Str).cps ++ p.cps) (oneS c).cps (r.map oneS)).toList = _
    rw [glue_cps]
    rfl
theorem GN.mk' {z : Str} {w : List Nat} (e : z.cps.toList = w) (h1 : 1 ≤ w.length) (h2 : w.length ≤ 8) (h3 : ∀ c ∈ w, c ∈ lets) : GN z := by
  subst e; exact ⟨h1, h2, h3⟩
theorem GN.first {c : Nat} {cs : List Nat} (hc : c ∈ lets) (hcs : ∀ x ∈ cs, x ∈ lets) (hl : cs.length ≤ 7) : GN (oneS c ++ Txt.join "" (cs.map oneS)) := by
  refine GN.mk' (w := c :: cs) (by rw [app_cps, join_cps]; rfl) (by simp) (by simp; omega) ?_
  intro x hx
  rcases List.mem_cons.mp hx with rfl | hx
  · exact hc
  · exact hcs x hx
theorem GN.cut {z : Str} (h : GN z) {c : Nat} (hc : c ∈ lets) {lo hi : Option Int} (hl : HT.sIx z.length z.length hi - HT.sIx z.length 0 lo ≤ 7) : GN (cutS z lo hi ++ oneS c) := by
  refine GN.mk' (by rw [app_cps, cut_cps, one_cps]) (by simp) ?_ ?_
  · rw [List.length_append, List.length_take]
    have := Nat.min_le_left (HT.sIx z.length z.length hi - HT.sIx z.length 0 lo) (List.drop (HT.sIx z.length 0 lo) z.cps.toList).length
    simp only [List.length_singleton]
    omega
  · intro x hx
    rcases List.mem_append.mp hx with hx | hx
    · exact h.let' x (List.mem_of_mem_drop (List.mem_of_mem_take hx))
    · rw [List.mem_singleton] at hx; rw [hx]; exact hc
theorem GN.mid {z : Str} (h : GN z) {c : Nat} (hc : c ∈ lets) : GN ((cutS z none (some 1) ++ oneS c) ++ cutS z (some 2) none) := by
  have hl := h.len
  have e1 : HT.sIx z.length z.length (some 1) = min 1 z.length := HT.sIx_nat _ _ 1
  have e2 : HT.sIx z.length 0 (some 2) = min 2 z.length := HT.sIx_nat _ _ 2
  have ez : z.length = z.cps.toList.length := (Array.length_toList).symm
  refine GN.mk' (by rw [app_cps, app_cps, cut_cps, cut_cps, one_cps]) (by simp; omega) ?_ ?_
  · rw [e1, e2, HT.sIx_none, HT.sIx_none]
    simp only [List.length_append, List.length_take, List.length_drop, List.length_singleton]
    omega
  · intro x hx
    rcases List.mem_append.mp hx with hx | hx
    · rcases List.mem_append.mp hx with hx | hx
      · exact h.let' x (List.mem_of_mem_drop (List.mem_of_mem_take hx))
      · rw [List.mem_singleton] at hx; rw [hx]; exact hc
    · exact h.let' x (List.mem_of_mem_drop (List.mem_of_mem_take hx))
theorem GN.two {c : Nat} (hc : c ∈ lets) : GN (oneS c ++ "z") := by
  refine GN.mk' (w := [c, 122]) (by rw [app_cps]; rfl) (by simp) (by simp) ?_
  intro x hx
  simp only [List.mem_cons, List.not_mem_nil, or_false] at hx
  rcases hx with rfl | rfl
  · exact hc
  · decide +kernel
theorem two_ne_zero {c : Nat} : oneS c ++ ("z" : Str) ≠ "zero" := by
  intro e
  have := congrArg (fun s : Str => s.cps.toList.length) e
  simp only [app_cps] at this
  exact absurd (show (2 : Nat) = 4 from this) (by decide)
theorem two_inj {c d : Nat} (e : oneS c ++ ("z" : Str) = oneS d ++ "z") : c = d := by
  have := congrArg (fun s : Str => s.cps.toList) e
  simp only [app_cps, one_cps] at this
  simpa using this
structure GoodNs (ms : List Str) : Prop where
  nd : ms.Nodup
  nz : ("zero" : Str) ∉ ms
  gn : ∀ z ∈ ms, GN z
theorem GoodNs.snoc {ms : List Str} (h : GoodNs ms) {z : Str} (h1 : GN z) (h2 : z ∉ ms) (h3 : z ≠ "zero") : GoodNs (ms ++ [z]) := by
  refine ⟨?_, ?_, ?_⟩
  · rw [List.nodup_append]
    exact ⟨h.nd, by simp, fun x hx y hy => by rw [List.mem_singleton] at hy; rw [hy]; exact fun e => h2 (e ▸ hx)⟩
  · rw [List.mem_append, List.mem_singleton]
    exact fun e => e.elim h.nz (fun q => h3 q.symm)
  · intro x hx
    rcases List.mem_append.mp hx with hx | hx
    · exact h.gn x hx
    · rw [List.mem_singleton] at hx; rw [hx]; exact h1
theorem lets_len : lets.length = 52 := by decide +kernel
theorem lets_nd : lets.Nodup := by decide +kernel
theorem let_at {d : Int} (h0 : 0 ≤ d) (h1 : d < 52) : ∃ c, atI letters.cps.toList d = some c ∧ c ∈ lets := by
  obtain ⟨n, rfl⟩ := Int.eq_ofNat_of_zero_le h0
  have hn : n < lets.length := by rw [lets_len]; omega
  exact ⟨lets[n], atI_nat (List.getElem?_eq_getElem hn), List.getElem_mem hn⟩
theorem letters_len : letters.length ≤ sizeLine := by decide +kernel
theorem nodup_le : ∀ {ws ns : List Str}, ws.Nodup → (∀ z ∈ ws, z ∈ ns) → ws.length ≤ ns.length
  | [], _, _, _ => Nat.zero_le _
  | w :: ws, ns, h, hs => by
    rw [List.nodup_cons] at h
    have hw : w ∈ ns := hs w List.mem_cons_self
    have h1 := nodup_le (ws := ws) (ns := ns.erase w) h.2 fun z hz => (List.mem_erase_of_ne (fun e => h.1 (by rw [← e]; exact hz))).mpr (hs z (List.mem_cons_of_mem _ hz))
    rw [List.length_erase_of_mem hw] at h1
    have := List.length_pos_of_mem hw
    rw [List.length_cons]
    omega
/-- among more words than names one is new -/
theorem spare_one {ws ns : List Str} (hw : ws.Nodup) (h : ns.length < ws.length) : ∃ z r, ws.filter (fun z => !decide (z ∈ ns)) = z :: r ∧ z ∈ ws ∧ z ∉ ns := by
  cases e : ws.filter (fun z => !decide (z ∈ ns)) with
  | nil =>
    exfalso
    have hs : ∀ z ∈ ws, z ∈ ns := by
      intro z hz
      have := List.filter_eq_nil_iff.mp e z hz
      simpa using this
    have := nodup_le hw hs
    omega
  | cons z r =>
    refine ⟨z, r, rfl, ?_⟩
    have : z ∈ ws.filter (fun z => !decide (z ∈ ns)) := by rw [e]; exact List.mem_cons_self
    have h2 := List.mem_filter.mp this
    exact ⟨h2.1, by simpa using h2.2⟩
theorem But.new {p q : Addr} {H H' : Hp} {o : HO} (h : But p H H') (hq : H q = none) : But p H (upd H' q o) := fun b x n e => by
  rw [upd_ne (fun z => by rw [z, hq] at e; cases e)]
  exact h b x n e
theorem But.free {p q : Addr} {H H' : Hp} (h : But p H H') (hp : H p ≠ none) (hq : H' q = none) (hpq : q ≠ p) : H q = none := by
  cases e : H q with
  | none => rfl
  | some o => rw [h q o hpq e] at hq; cases hq
theorem PitAt.ne {H : Hp} {p q : Addr} {z : Int} (h : PitAt H p z) (hq : H q = none) : q ≠ p := fun e => by
  obtain ⟨x, y, c, h1, _⟩ := h
  rw [e, h1] at hq; cases hq
end K1
end
section
set_option maxRecDepth 100000
set_option maxHeartbeats 4000000
namespace K1
open PySem L2 K01
/-- while names are drawn: p the pit, D the names so far -/
structure NI (H : Hp) (p D : Addr) (ns : List Str) (z : Int) (H' : Hp) : Prop where
  but : But p H H'
  pit : PitAt H' p z
  nam : H' D = some (.lst (ns.map V.str))
theorem NI.hoist {H H1 H2 : Hp} {p D : Addr} {ns : List Str} {z : Int} (h : NI H p D ns z H1) (hD : D ≠ p) (b : But p H1 H2) (q : PitAt H2 p (z + 1)) : NI H p D ns (z + 1) H2 :=
  ⟨h.but.trans b, q, b _ _ hD h.nam⟩
theorem NI.new {H H1 : Hp} {p D L : Addr} {ns : List Str} {z : Int} {o : HO} (h : NI H p D ns z H1) (hp : H p ≠ none) (hL : H1 L = none) : NI H p D ns z (L2.upd H1 L o) :=
  ⟨h.but.new (h.but.free hp hL (h.pit.ne hL)), h.pit.same (Same.new hL), by rw [upd_ne (fun e => by rw [← e, h.nam] at hL; cases hL)]; exact h.nam⟩
theorem NI.mono {H H1 : Hp} {p D : Addr} {ns : List Str} {z z' : Int} (h : NI H p D ns z H1) (e : z ≤ z') : NI H p D ns z' H1 := ⟨h.but, h.pit.mono e, h.nam⟩
theorem NI.put {H H1 : Hp} {p D C : Addr} {ns : List Str} {z : Int} {o : HO} (h : NI H p D ns z H1) (h1 : H C = none) (h2 : C ≠ p) (h3 : C ≠ D) : NI H p D ns z (L2.upd H1 C o) := by
  refine ⟨h.but.new h1, ?_, by rw [upd_ne (Ne.symm h3)]; exact h.nam⟩
  obtain ⟨x, y, c, q1, q2⟩ := h.pit
  exact ⟨x, y, c, by rw [upd_ne (Ne.symm h2)]; exact q1, q2⟩
theorem seq_gen {s r : TS} {D : Ends} {σ : St} {H : Hp} (M : St → Hp → Prop) (h : ∀ N : St → Hp → Prop, (∀ σ' H', M σ' H' → N σ' H') → s { nx := N, rt := D.rt, bk := D.bk, ct := D.ct } σ H) (h2 : ∀ σ' H', M σ' H' → r D σ' H') : tSeq s r D σ H := h (r D) h2
theorem at_last {xs : List V} {v : V} (hp : xs ≠ []) (h : xs[xs.length - 1]? = some v) : atI xs (-1) = some v := by
  have hl : 0 < xs.length := List.length_pos_iff.mpr hp
  unfold atI ixN
  rw [if_neg (by omega), if_pos (by omega)]
  have : ((-1 : Int) + (xs.length : Int)).toNat = xs.length - 1 := by omega
  rw [this]
  exact h
theorem cut_len (z : Str) (lo hi : Option Int) : (cutS z lo hi).length ≤ z.length := by
  have := congrArg List.length (cut_cps z lo hi)
  rw [Array.length_toList, List.length_take, List.length_drop, Array.length_toList] at this
  show (cutS z lo hi).cps.size ≤ z.cps.size
  omega
theorem one_len (c : Nat) : (oneS c).length = 1 := rfl
theorem app_len (a b : Str) : (a ++ b).length = a.length + b.length := by
  have := congrArg List.length (app_cps a b)
  rw [List.length_append, Array.length_toList, Array.length_toList, Array.length_toList] at this
  exact this
theorem line8 {n : Nat} (h : n ≤ 100) : n ≤ sizeLine := Nat.le_of_lt (small1000 (by omega))
theorem sum_one (cs : List Nat) : ((cs.map oneS).map fun x => x.length).sum = cs.length := by
  induction cs with
  | nil => rfl
  | cons c cs ih =>
    rw [List.map_cons, List.map_cons, List.sum_cons, ih, List.length_cons]
    have : (oneS c).length = 1 := rfl
    omega
theorem join_len (cs : List Nat) : (Txt.join "" (cs.map oneS)).length = cs.length := by
  have := congrArg List.length (join_cps cs)
  rw [Array.length_toList] at this
  exact this
theorem spare_nd {i : Nat} (hi : i ≤ 5) : (((lets.drop (7 * i)).take 7).map fun c => oneS c ++ ("z" : Str)).Nodup ∧ (((lets.drop (7 * i)).take 7).map fun c => oneS c ++ ("z" : Str)).length = 7 := by
  constructor
  · refine List.pairwise_map.mpr (List.Pairwise.imp (R := fun a b => a ≠ b) (fun h e => h (two_inj e)) ?_)
    exact ((lets_nd.sublist (List.drop_sublist _ _)).sublist (List.take_sublist _ _))
  · rw [List.length_map, List.length_take, List.length_drop, lets_len]
    omega
section
variable {P : Program} {w : World} {K : PySem.W.Frag} {mg : Str → Option Value} {base : Heap}
abbrev sCN : Stmt := top 52
def spCN (K : PySem.W.Frag) : Sp := fun vs H Q _ => ∃ (p : Addr) (n : Nat) (z : Int), vs = [.ref p, .int n] ∧ PitAt H p z ∧ z ≤ 900000 ∧ n ≤ 6 ∧ ∀ H' a ms, But p H H' → PitAt H' p (z + 20 * n) → strsT K H' a ms → ms.length = n → GoodNs ms → Q (.ref a) H'
abbrev nsN : List Str := ["pit", "many", "signs", "found", "k", "size", "way", "letter", "name_here", "old", "spare", "turn", "mate"]
theorem scCN : FnScope nsN ["pit", "many"] (defScope sCN) := ⟨rfl, rfl, rfl, by decide +kernel, rfl, by decide +kernel, by decide +kernel⟩
theorem ok_cn {f fh : Addr} {fd fdh : FuncData} (F : Fun K "_law_call_names" "_law_call_names" sCN f fd) (T : Bi mg)
    (FH : Fun K "_law_hoist" "_law_hoist" sHoist fh fdh) (bH : Binds K fdh ["pit", "below"] []) (mH : mg "_law_hoist" = some (.ref fh)) :
    FnOk P w K mg base CX0 2 f fd ["pit", "many"] (spCN K) := by
  have GH : FnOk P w K mg base CX0 1 fh fdh ["pit", "below"] (spHoist K) := ok_hoist FH T
  refine F.ok scCN (fun vs H Q E h => ?_) (fun cdv A outer s H vs Q E hr h => ?_)
  · obtain ⟨_, _, _, rfl, _⟩ := h
    rfl
  · obtain ⟨p, n, z, rfl, hp, hz, hn, k⟩ := h
    refine ⟨_, pss_cons (ps_asg (pe_tup (pa_cons pe_str (pa_cons (pe_lst pa_nil) pa_nil))) (pg_tup rfl (pgs_cons (pg_name (i := 2) scCN.nd rfl (.inr rfl)) (pgs_cons (pg_name (i := 3) scCN.nd rfl (.inr rfl)) pgs_nil))))
      (pss_cons (ps_for PassesOwn.never rfl (pi_range1 (by rfl) T.range (pa_cons (pv 1) pa_nil)) (pg_name (i := 4) scCN.nd rfl (.inr rfl))
        (pss_cons (ps_par (i := 5) (j := 6) rfl scCN.nd rfl rfl (by decide) rfl rfl (pa_cons (pe_ix ix_list (pe_lst (pa_cons pe_int (pa_cons pe_int (pa_cons pe_int (pa_cons (pe_call GH hr rfl mH FH.kp bH .nil pass0 (pa_cons (pv 0) (pa_cons pe_int pa_nil))) pa_nil))))) (pe_call GH hr rfl mH FH.kp bH .nil pass0 (pa_cons (pv 0) (pa_cons pe_int pa_nil))) (fun _ _ => rfl)) (pa_cons (pe_call GH hr rfl mH FH.kp bH .nil pass0 (pa_cons (pv 0) (pa_cons pe_int pa_nil))) pa_nil)) rfl)
        (pss_cons (ps_set (i := 7) scCN.nd rfl (.inl rfl) (pe_ix ix_str (pv 2) (pe_call GH hr rfl mH FH.kp bH .nil pass0 (pa_cons (pv 0) (pa_cons pe_int pa_nil))) (fun _ _ => rfl)))
        (pss_cons (ps_set (i := 8) scCN.nd rfl (.inl rfl) (pe_op op_add_str (pv 7) (pe_join pe_str (pe_lc (own := [("turn", 11)]) (g := gName 11) rfl scCN.nd (pi_range1 (by rfl) T.range (pa_cons (pv 5) pa_nil)) (blkOk_by (N := nsN) (sc := defScope sCN) (by decide +kernel))
            (fun _ _ _ _ _ => pg_name (i := 11) scCN.nd rfl (.inl rfl)) (fun _ _ _ _ _ => pts_nil) (te := tOp rIxS (tVar 2) (tCall (spHoist K) [] E0 (tCons (tVar 0) (tCons (tC (.int 52)) tNil))))
            (fun _ _ _ _ _ => pe_ix ix_str (pv 2) (pe_call GH hr rfl mH FH.kp bH .nil pass0 (pa_cons (pv 0) (pa_cons pe_int pa_nil))) (fun _ _ => rfl))))))
        (pss_cons (ps_if (PW.pt (pw_and (pt_cmpR (op_neD hr.units) (pv 3) (pe_lst pa_nil) (nomark _)) (pw_and1 (pt_cmpR op_lt (pv 6) pe_int (nomark _)))))
            (pss_cons (ps_set (i := 9) scCN.nd rfl (.inl rfl) (pe_ix ix_list (pv 3) (pe_un un_neg pe_int) (fun _ _ => rfl)))
            (pss_one (ps_set (i := 8) scCN.nd rfl (.inl rfl) (pe_ix ix_list (pe_lst (pa_cons (pe_op op_add_str (pe_slice sl_str (pv 9) po_none (po_some pe_int)) (pv 7)) (pa_cons (pe_op op_add_str (pe_slice sl_str (pv 9) po_none (po_some (pe_un un_neg pe_int))) (pv 7)) (pa_cons (pe_op op_add_str (pe_op op_add_str (pe_slice sl_str (pv 9) po_none (po_some pe_int)) (pv 7)) (pe_slice sl_str (pv 9) (po_some pe_int) po_none)) pa_nil)))) (pv 6) (fun _ _ => rfl))))) pss_nil)
        (pss_cons (ps_if (PW.pt (pw_or (pt_cmpR op_in_seq (pv 8) (pv 3) (by rfl)) (pw_or1 (pt_cmpR op_eq (pv 8) pe_str (nomark _)))))
            (pss_cons (ps_setLc (i := 10) (own := [("turn", 11)]) (g := gName 11) rfl scCN.nd rfl rfl rfl (pi_range1 (by rfl) T.range (pa_cons pe_int pa_nil)) (blkOk_by (N := nsN) (sc := defScope sCN) (by decide +kernel))
              (fun _ _ _ _ _ => pg_name (i := 11) scCN.nd rfl (.inl rfl)) (fun _ _ _ _ _ => pts_nil) (fun _ _ _ _ _ => pe_op op_add_str (pe_ix ix_str (pv 2) (pe_op op_add (pe_op op_mul pe_int (pv 4)) (pv 11)) (fun _ _ => rfl)) pe_str))
            (pss_one (ps_set (i := 8) scCN.nd rfl (.inl rfl) (pe_ix ix_list (pe_lc (own := [("mate", 12)]) (g := gName 12) (tt := tTest (tOp (rIn K true) (tVar 12) (tVar 3))) rfl scCN.nd (pi_list (pv 10)) (blkOk_by (N := nsN) (sc := defScope sCN) (by decide +kernel))
              (fun _ _ _ _ _ => pg_name (i := 12) scCN.nd rfl (.inl rfl)) (fun _ _ _ _ _ => pts_one (pt_cmpR op_notIn_seq (pv 12) (pv 3) (by rfl))) (fun _ _ _ _ _ => pv 12)) pe_int (fun _ _ => rfl))))) pss_nil)
        (pss_one (ps_expr (pe_bm PySem.F.plainAttrs_list PySem.F.slot_list_append PySem.F.type_list_append mt_append (pv 3) (pa_cons (pv 8) pa_nil))))))))))
      (pss_one (ps_ret (pe_callTy call_tuple_of (by rfl) T.tuple (by decide +kernel) (pa_cons (pv 3) pa_nil))))), ?_⟩
    have hpH : H p ≠ none := by obtain ⟨_, _, _, h1, _⟩ := hp; rw [h1]; exact fun e => nomatch e
    refine ⟨by show 0 ≤ sizeLine; decide, fun D hD => ⟨by show 2 ≤ sizeLine; decide, fun t ht => ⟨t, _, rfl, tup_at, rfl, _, _, rfl, _, _, rfl, rfl, ?_⟩⟩⟩
    have nDp : D ≠ p := hp.ne hD
    have n0 : NI H p D [] z (upd H D (.lst [])) := ⟨Same.but (Same.new hD), hp.same (Same.new hD), upd_same⟩
    have n1 := n0.new hpH ht (o := .tup [.str letters, .ref D])
    refine ⟨_, rfl, _, rfl, by omega, by omega, ?_⟩
    rw [Int.toNat_natCast]
    refine for_r0 (fun i σ H' => (∃ v4 v5 v6 v7 v8 v9 v10 : Option V, σ = [some (.ref p), some (.int (n : Nat)), some (.str letters), some (.ref D), v4, v5, v6, v7, v8, v9, v10, none, none]) ∧ ∃ ns, NI H p D ns (z + 20 * i) H' ∧ ns.length = i ∧ GoodNs ns) ⟨⟨_, _, _, _, _, _, _, rfl⟩, [], n1.mono (by simp), rfl, ⟨List.nodup_nil, by simp, by simp⟩⟩ ?_ ?_
    · rintro i σ H1 hi ⟨⟨v4, v5, v6, v7, v8, v9, v10, rfl⟩, ns, N1, hl, hG⟩
      refine ⟨_, rfl, p, 7, _, rfl, N1.pit, by omega, by decide, by decide, fun H2 d1 b1 P1 l1 u1 => ?_⟩
      have N2 := N1.hoist nDp b1 P1
      refine ⟨by show 4 ≤ sizeLine; decide, fun L hL => ?_⟩
      have N3 := N2.new hpH hL (o := .lst [.int 0, .int 0, .int 2, .int d1])
      have nL := N2.pit.ne hL
      refine ⟨_, rfl, p, 4, _, rfl, N3.pit, by omega, by decide, by decide, fun H3 d2 b2 P2 l2 u2 => ?_⟩
      have N4 := N3.hoist nDp b2 P2
      have hLL : H3 L = some (.lst [.int 0, .int 0, .int 2, .int d1]) := b2 _ _ nL upd_same
      obtain ⟨sv, hat, s0, s6⟩ : ∃ sv : Int, atI [V.int 0, V.int 0, V.int 2, V.int d1] d2 = some (.int sv) ∧ 0 ≤ sv ∧ sv ≤ 6 := by
        obtain ⟨m, rfl⟩ := Int.eq_ofNat_of_zero_le l2
        match m, u2 with
        | 0, _ => exact ⟨0, atI_nat rfl, by decide, by decide⟩
        | 1, _ => exact ⟨0, atI_nat rfl, by decide, by decide⟩
        | 2, _ => exact ⟨2, atI_nat rfl, by decide, by decide⟩
        | 3, _ => exact ⟨d1, atI_nat rfl, by omega, by omega⟩
        | m + 4, h => omega
      refine ⟨L, _, _, _, rfl, rfl, SqL.of hLL, hat, ?_⟩
      refine ⟨_, rfl, p, 6, _, rfl, N4.pit, by omega, by decide, by decide, fun H4 d3 b3 P3 l3 u3 => ⟨_, _, rfl, ?_⟩⟩
      have N5 := N4.hoist nDp b3 P3
      -- the letter
      refine ⟨_, rfl, _, rfl, p, 52, _, rfl, N5.pit, by omega, by decide, by decide, fun H5 d4 b4 P4 l4 u4 => ?_⟩
      have N6 := N5.hoist nDp b4 P4
      obtain ⟨c, hc, hcl⟩ := let_at l4 u4
      refine ⟨letters, d4, c, rfl, rfl, letters_len, hc, ?_⟩
      -- the first name
      refine ⟨_, rfl, ⟨_, rfl⟩, _, rfl, _, rfl, by omega, by omega, fun C hC => ?_⟩
      have nC := N6.pit.ne hC
      have nCD : C ≠ D := fun e => by rw [e, N6.nam] at hC; cases hC
      refine lc_it (walk_r0 (n := sv.toNat)) (fun j H' => ∃ cs : List Nat, NI H p D ns (z + 20 * i + 4 + j) H' ∧ H' C = some (.lst ((cs.map oneS).map V.str)) ∧ cs.length = j ∧ ∀ c ∈ cs, c ∈ lets) ⟨[], (N6.new hpH hC (o := .lst [])).mono (by simp; omega), upd_same, rfl, by simp⟩ (fun _ _ _ _ => trivial) ?_ ?_
      · rintro j v H6 H7 hj ⟨cs, M1, m2, m3, m4⟩ ⟨rfl, rfl⟩
        refine ⟨rfl, yes_ ⟨_, rfl, _, rfl, p, 52, _, rfl, M1.pit, by omega, by decide, by decide, fun H8 d b P l u => ?_⟩⟩
        have M2 := M1.hoist nDp b P
        obtain ⟨e, he, hel⟩ := let_at l u
        refine ⟨letters, d, e, rfl, rfl, letters_len, he, _, b _ _ nC m2, ?_, cs ++ [e], ?_, ?_, ?_, ?_⟩
        · rw [List.length_map, List.length_map]; exact small1000 (by omega)
        · refine (M2.put (N6.but.free hpH hC nC) nC nCD).mono ?_
          have : ((j + 1 : Nat) : Int) = (j : Int) + 1 := by omega
          omega
        · rw [upd_same, List.map_append, List.map_append]; rfl
        · rw [List.length_append, m3]; rfl
        · intro x hx
          rcases List.mem_append.mp hx with hx | hx
          · exact m4 x hx
          · rw [List.mem_singleton] at hx; rw [hx]; exact hel
      rintro H6 ⟨cs, M1, m2, m3, m4⟩
      have hcs7 : cs.length ≤ 7 := by omega
      refine ⟨"", C, cs.map oneS, rfl, rfl, .inl (SqL.of m2), by rw [sum_one]; have : ("" : Str).length = 0 := rfl; rw [this]; omega, _, _, rfl, rfl, ?_, ?_⟩
      · rw [join_len]
        exact Nat.le_of_lt (small1000 (show 1 + cs.length ≤ 1000 by omega))
      have G0 : GN (({ cps := #[c] } : Str) ++ Txt.join "" (cs.map oneS)) := GN.first hcl m4 hcs7
      generalize ({ cps := #[c] } : Str) ++ Txt.join "" (cs.map oneS) = nm at G0 ⊢
      have M1' : NI H p D ns (z + 20 * i + 11) H6 := M1.mono (by omega)
      have hcc : oneS c = { cps := #[c] } := rfl
      dsimp only [gName]
      refine seq_gen (fun σ' H' => ∃ (v8 : Str) (v9 : Option V), σ' = [some (.ref p), some (.int (n : Nat)), some (.str letters), some (.ref D), some (.int (i : Nat)), some (.int sv), some (.int d3), some (.str (oneS c)), some (.str v8), v9, v10, none, none] ∧ GN v8 ∧ NI H p D ns (z + 20 * i + 11) H') (fun N hN => ?_) ?_
      · refine ⟨_, rfl, Nat.zero_le _, fun e he => ?_⟩
        have M3 := M1'.new hpH he (o := .lst [])
        refine ⟨.list _, .list [], .lst (SqL.of M3.nam) (flats_dp ?_), .lst (SqL.of upd_same) .nil, ?_, shaped_nil, ?_⟩
        · intro v hv
          obtain ⟨u, _, rfl⟩ := List.mem_map.mp hv
          exact .str u
        · refine Lv.shaped (n := 1) (Lv.list (n := 0) ?_) (by decide)
          intro d hd
          obtain ⟨v, hv, rfl⟩ := List.mem_map.mp hd
          obtain ⟨u, hu, rfl⟩ := List.mem_map.mp hv
          exact Lv.str (hG.gn u hu).asc
        · rw [eqv_nil]
          refine ⟨_, rfl, ?_⟩
          have skip : N [some (.ref p), some (.int (n : Nat)), some (.str letters), some (.ref D), some (.int (i : Nat)), some (.int sv), some (.int d3), some (.str (oneS c)), some (.str nm), v9, v10, none, none] (upd H6 e (.lst [])) := hN _ _ ⟨nm, v9, rfl, G0, M3⟩
          cases hns : ns with
          | nil => subst hns; exact skip
          | cons n1 nr =>
            have hne : ns ≠ [] := by rw [hns]; exact fun q => nomatch q
            refine iteT ⟨_, rfl, _, _, rfl, rfl, _, rfl, ?_⟩
            by_cases hd3 : d3 < 3
            · refine iteDT hd3 ?_
              have hlp : 0 < ns.length := List.length_pos_iff.mpr hne
              have ho : ns[ns.length - 1]? = some ns[ns.length - 1] := List.getElem?_eq_getElem (by omega)
              have Go := hG.gn _ (List.mem_of_getElem? ho)
              generalize ns[ns.length - 1] = old at ho Go
              have ho2 : atI (ns.map V.str) (-1) = some (V.str old) := at_last (by simpa using hne) (by rw [List.length_map, List.getElem?_map, ho]; rfl)
              have L8 : old.length ≤ 8 := Go.len'
              have lo := line8 (n := old.length) (by omega)
              have b1 : ∀ lo hi, (cutS old lo hi).length ≤ 8 := fun lo hi => Nat.le_trans (cut_len _ _ _) L8
              have b2 : ∀ lo hi, (cutS old lo hi).length + ({ cps := #[c] } : Str).length ≤ sizeLine := fun lo hi => line8 (by have := b1 lo hi; have e : ({ cps := #[c] } : Str).length = 1 := rfl; omega)
              have b3 : ((cutS old none (some 1)) ++ ({ cps := #[c] } : Str)).length + (cutS old (some 2) none).length ≤ sizeLine := line8 (by have := b1 none (some 1); have := b1 (some 2) none; have e : ({ cps := #[c] } : Str).length = 1 := rfl; rw [app_len]; omega)
              refine ⟨_, rfl, _, rfl, D, _, _, _, rfl, rfl, SqL.of M3.nam, ho2, ?_⟩
              refine ⟨_, rfl, _, rfl, _, rfl, lo, _, rfl, _, _, rfl, rfl, b2 _ _, ?_⟩
              refine ⟨_, rfl, _, rfl, _, rfl, _, rfl, lo, _, rfl, _, _, rfl, rfl, b2 _ _, ?_⟩
              refine ⟨_, rfl, _, rfl, _, rfl, lo, _, rfl, _, _, rfl, rfl, b2 _ _, _, rfl, _, rfl, _, rfl, lo, _, _, rfl, rfl, b3, ?_⟩
              refine ⟨by show 3 ≤ sizeLine; decide, fun L3 hL3 => ?_⟩
              have M5 := M3.new hpH hL3 (o := .lst [.str (cutS old none (some 7) ++ { cps := #[c] }), .str (cutS old none (some (-1)) ++ { cps := #[c] }), .str ((cutS old none (some 1) ++ { cps := #[c] }) ++ cutS old (some 2) none)])
              have g1 : GN (cutS old none (some 7) ++ { cps := #[c] }) := Go.cut hcl (by
                have : HT.sIx old.length old.length (some 7) = min 7 old.length := HT.sIx_nat _ _ 7
                rw [this]; omega)
              have g2 : GN (cutS old none (some (-1)) ++ { cps := #[c] }) := Go.cut hcl (by
                have : HT.sIx old.length old.length (some (-1)) = ((-1 : Int) + (old.length : Int)).toNat := rfl
                rw [this]; omega)
              have g3 : GN ((cutS old none (some 1) ++ { cps := #[c] }) ++ cutS old (some 2) none) := Go.mid hcl
              obtain ⟨m, rfl⟩ := Int.eq_ofNat_of_zero_le l3
              match m, hd3 with
              | 0, _ => exact ⟨_, rfl, L3, _, _, _, rfl, rfl, SqL.of upd_same, atI_nat rfl, hN _ _ ⟨_, _, rfl, g1, M5⟩⟩
              | 1, _ => exact ⟨_, rfl, L3, _, _, _, rfl, rfl, SqL.of upd_same, atI_nat rfl, hN _ _ ⟨_, _, rfl, g2, M5⟩⟩
              | 2, _ => exact ⟨_, rfl, L3, _, _, _, rfl, rfl, SqL.of upd_same, atI_nat rfl, hN _ _ ⟨_, _, rfl, g3, M5⟩⟩
              | m + 3, h => exact absurd h (by omega)
            · exact iteDF hd3 skip
      · rintro σ' H7 ⟨nm, v9, rfl, G1, M4⟩
        refine seq_gen (fun σ' H' => ∃ (v8 : Str) (v10 : Option V), σ' = [some (.ref p), some (.int (n : Nat)), some (.str letters), some (.ref D), some (.int (i : Nat)), some (.int sv), some (.int d3), some (.str (oneS c)), some (.str v8), v9, v10, none, none] ∧ GN v8 ∧ v8 ∉ ns ∧ v8 ≠ "zero" ∧ NI H p D ns (z + 20 * i + 11) H') (fun N hN => ?_) ?_
        · refine ⟨_, rfl, _, rfl, D, _, rfl, .inl (SqL.of M4.nam), rfl, strs_flat _, _, rfl, ?_⟩
          rw [if_neg Bool.false_ne_true, inV_str]
          by_cases e1 : nm ∈ ns
          · refine iteDT e1 (iteT ?_)
            have hi4 : i ≤ 5 := by omega
            obtain ⟨wnd, wlen⟩ := spare_nd hi4
            refine ⟨_, rfl, by decide, by decide, fun C hC => ?_⟩
            have hHC : H C = none := M4.but.free hpH hC (M4.pit.ne hC)
            have nCp : C ≠ p := M4.pit.ne hC
            have nCD2 : C ≠ D := fun e => by rw [e, M4.nam] at hC; cases hC
            refine lc_it (walk_r0 (n := (7 : Int).toNat)) (fun j H' => NI H p D ns (z + 20 * i + 11) H' ∧ H' C = some (.lst (((((lets.drop (7 * i)).take j).map fun c => oneS c ++ ("z" : Str))).map V.str))) ⟨M4.new hpH hC, upd_same⟩ (fun _ _ _ _ => trivial) ?_ ?_
            · rintro j v H8 H9 hj ⟨R1, R2⟩ ⟨rfl, rfl⟩
              have hj7 : j < 7 := hj
              have hx : 7 * i + j < lets.length := by rw [lets_len]; omega
              have hg : lets[7 * i + j]? = some lets[7 * i + j] := List.getElem?_eq_getElem hx
              generalize lets[7 * i + j] = e at hg
              have eq1 : (7 : Int) * (i : Nat) + (j : Nat) = ((7 * i + j : Nat) : Int) := by omega
              have hat : atI letters.cps.toList ((7 : Int) * (i : Nat) + (j : Nat)) = some e := by rw [eq1]; exact atI_nat hg
              have hd : (lets.drop (7 * i))[j]? = some e := by rw [List.getElem?_drop]; exact hg
              refine ⟨rfl, yes_ ⟨_, rfl, _, rfl, _, _, rfl, rfl, .inl ⟨by decide, by decide⟩, _, rfl, _, _, rfl, rfl, letters, _, e, rfl, rfl, letters_len, hat, _, _, rfl, rfl, line8 (show 1 + 1 ≤ 100 by decide), _, R2, ?_, R1.put hHC nCp nCD2, ?_⟩⟩
              · rw [List.length_map, List.length_map, List.length_take]
                exact Nat.lt_of_le_of_lt (Nat.min_le_left _ _) (small1000 (by omega))
              · rw [upd_same, take_snoc hd, List.map_append, List.map_append]; rfl
            · rintro H8 ⟨R1, R2⟩
              have R2 : H8 C = some (.lst ((((lets.drop (7 * i)).take 7).map fun c => oneS c ++ ("z" : Str)).map V.str)) := R2
              have wgn : ∀ z ∈ (((lets.drop (7 * i)).take 7).map fun c => oneS c ++ ("z" : Str)), GN z ∧ z ≠ "zero" := by
                intro z hz
                obtain ⟨c, hc, rfl⟩ := List.mem_map.mp hz
                exact ⟨GN.two (List.mem_of_mem_drop (List.mem_of_mem_take hc)), two_ne_zero⟩
              generalize (((lets.drop (7 * i)).take 7).map fun c => oneS c ++ ("z" : Str)) = ws at wnd wlen wgn R2
              obtain ⟨z1, r1, w1, w2, w3⟩ := spare_one wnd (show ns.length < ws.length by omega)
              refine ⟨_, rfl, C, rfl, ⟨_, SqL.of R2⟩, fun C2 hC2 => ?_⟩
              have hHC2 : H C2 = none := R1.but.free hpH hC2 (R1.pit.ne hC2)
              have nC2p : C2 ≠ p := R1.pit.ne hC2
              have nC2D : C2 ≠ D := fun e => by rw [e, R1.nam] at hC2; cases hC2
              have nC2C : C ≠ C2 := fun e => by rw [← e, R2] at hC2; cases hC2
              refine lc_it (walk_list (K := K) (a := C) (xs := ws.map V.str)) (fun j H' => NI H p D ns (z + 20 * i + 11) H' ∧ H' C = some (.lst (ws.map V.str)) ∧ H' C2 = some (.lst (((ws.take j).filter fun z => !decide (z ∈ ns)).map V.str))) ⟨R1.new hpH hC2, (upd_ne nC2C).trans R2, upd_same⟩ (fun i H' _ u => SqL.of u.2.1) ?_ ?_
              · rintro j v H9 H10 hj ⟨T1, T2, T3⟩ ⟨rfl, hv⟩
                obtain ⟨u, hu, rfl⟩ := get_map hv
                have htk := take_snoc hu
                rw [List.length_map] at hj
                refine ⟨rfl, _, rfl, _, rfl, D, _, rfl, .inl (SqL.of T1.nam), rfl, strs_flat _, _, rfl, ?_⟩
                rw [if_pos rfl, inV_str]
                by_cases hin : u ∈ ns
                · refine iteNS hin ⟨T1, T2, ?_⟩
                  rw [htk, List.filter_append, List.filter_cons_of_neg (by simp [hin]), List.filter_nil, List.append_nil]
                  exact T3
                · refine iteNF hin ⟨_, rfl, _, T3, ?_, T1.put hHC2 nC2p nC2D, (upd_ne nC2C).trans T2, ?_⟩
                  · rw [List.length_map]
                    have a1 := List.length_filter_le (fun z => !decide (z ∈ ns)) (ws.take j)
                    have a2 : (ws.take j).length ≤ j := by rw [List.length_take]; exact Nat.min_le_left _ _
                    exact small1000 (by omega)
                  · rw [upd_same, htk, List.filter_append, List.filter_cons_of_pos (by simp [hin]), List.filter_nil, List.map_append]
                    rfl
              · rintro H9 ⟨T1, T2, T3⟩
                have hft : ws.take (ws.map V.str).length = ws := by rw [List.length_map, List.take_length]
                rw [hft, w1] at T3
                exact ⟨C2, _, _, _, rfl, rfl, SqL.of T3, atI_nat (j := 0) rfl, hN _ _ ⟨_, _, rfl, (wgn _ w2).1, w3, (wgn _ w2).2, T1⟩⟩
          · refine iteDF e1 ⟨_, rfl, rfl, _, rfl, ?_⟩
            by_cases e2 : nm = "zero"
            · refine iteDT (by rw [e2]) ?_
              have hi4 : i ≤ 5 := by omega
              obtain ⟨wnd, wlen⟩ := spare_nd hi4
              refine ⟨_, rfl, by decide, by decide, fun C hC => ?_⟩
              have hHC : H C = none := M4.but.free hpH hC (M4.pit.ne hC)
              have nCp : C ≠ p := M4.pit.ne hC
              have nCD2 : C ≠ D := fun e => by rw [e, M4.nam] at hC; cases hC
              refine lc_it (walk_r0 (n := (7 : Int).toNat)) (fun j H' => NI H p D ns (z + 20 * i + 11) H' ∧ H' C = some (.lst (((((lets.drop (7 * i)).take j).map fun c => oneS c ++ ("z" : Str))).map V.str))) ⟨M4.new hpH hC, upd_same⟩ (fun _ _ _ _ => trivial) ?_ ?_
              · rintro j v H8 H9 hj ⟨R1, R2⟩ ⟨rfl, rfl⟩
                have hj7 : j < 7 := hj
                have hx : 7 * i + j < lets.length := by rw [lets_len]; omega
                have hg : lets[7 * i + j]? = some lets[7 * i + j] := List.getElem?_eq_getElem hx
                generalize lets[7 * i + j] = e at hg
                have eq1 : (7 : Int) * (i : Nat) + (j : Nat) = ((7 * i + j : Nat) : Int) := by omega
                have hat : atI letters.cps.toList ((7 : Int) * (i : Nat) + (j : Nat)) = some e := by rw [eq1]; exact atI_nat hg
                have hd : (lets.drop (7 * i))[j]? = some e := by rw [List.getElem?_drop]; exact hg
                refine ⟨rfl, yes_ ⟨_, rfl, _, rfl, _, _, rfl, rfl, .inl ⟨by decide, by decide⟩, _, rfl, _, _, rfl, rfl, letters, _, e, rfl, rfl, letters_len, hat, _, _, rfl, rfl, line8 (show 1 + 1 ≤ 100 by decide), _, R2, ?_, R1.put hHC nCp nCD2, ?_⟩⟩
                · rw [List.length_map, List.length_map, List.length_take]
                  exact Nat.lt_of_le_of_lt (Nat.min_le_left _ _) (small1000 (by omega))
                · rw [upd_same, take_snoc hd, List.map_append, List.map_append]; rfl
              · rintro H8 ⟨R1, R2⟩
                have R2 : H8 C = some (.lst ((((lets.drop (7 * i)).take 7).map fun c => oneS c ++ ("z" : Str)).map V.str)) := R2
                have wgn : ∀ z ∈ (((lets.drop (7 * i)).take 7).map fun c => oneS c ++ ("z" : Str)), GN z ∧ z ≠ "zero" := by
                  intro z hz
                  obtain ⟨c, hc, rfl⟩ := List.mem_map.mp hz
                  exact ⟨GN.two (List.mem_of_mem_drop (List.mem_of_mem_take hc)), two_ne_zero⟩
                generalize (((lets.drop (7 * i)).take 7).map fun c => oneS c ++ ("z" : Str)) = ws at wnd wlen wgn R2
                obtain ⟨z1, r1, w1, w2, w3⟩ := spare_one wnd (show ns.length < ws.length by omega)
                refine ⟨_, rfl, C, rfl, ⟨_, SqL.of R2⟩, fun C2 hC2 => ?_⟩
                have hHC2 : H C2 = none := R1.but.free hpH hC2 (R1.pit.ne hC2)
                have nC2p : C2 ≠ p := R1.pit.ne hC2
                have nC2D : C2 ≠ D := fun e => by rw [e, R1.nam] at hC2; cases hC2
                have nC2C : C ≠ C2 := fun e => by rw [← e, R2] at hC2; cases hC2
                refine lc_it (walk_list (K := K) (a := C) (xs := ws.map V.str)) (fun j H' => NI H p D ns (z + 20 * i + 11) H' ∧ H' C = some (.lst (ws.map V.str)) ∧ H' C2 = some (.lst (((ws.take j).filter fun z => !decide (z ∈ ns)).map V.str))) ⟨R1.new hpH hC2, (upd_ne nC2C).trans R2, upd_same⟩ (fun i H' _ u => SqL.of u.2.1) ?_ ?_
                · rintro j v H9 H10 hj ⟨T1, T2, T3⟩ ⟨rfl, hv⟩
                  obtain ⟨u, hu, rfl⟩ := get_map hv
                  have htk := take_snoc hu
                  rw [List.length_map] at hj
                  refine ⟨rfl, _, rfl, _, rfl, D, _, rfl, .inl (SqL.of T1.nam), rfl, strs_flat _, _, rfl, ?_⟩
                  rw [if_pos rfl, inV_str]
                  by_cases hin : u ∈ ns
                  · refine iteNS hin ⟨T1, T2, ?_⟩
                    rw [htk, List.filter_append, List.filter_cons_of_neg (by simp [hin]), List.filter_nil, List.append_nil]
                    exact T3
                  · refine iteNF hin ⟨_, rfl, _, T3, ?_, T1.put hHC2 nC2p nC2D, (upd_ne nC2C).trans T2, ?_⟩
                    · rw [List.length_map]
                      have a1 := List.length_filter_le (fun z => !decide (z ∈ ns)) (ws.take j)
                      have a2 : (ws.take j).length ≤ j := by rw [List.length_take]; exact Nat.min_le_left _ _
                      exact small1000 (by omega)
                    · rw [upd_same, htk, List.filter_append, List.filter_cons_of_pos (by simp [hin]), List.filter_nil, List.map_append]
                      rfl
                · rintro H9 ⟨T1, T2, T3⟩
                  have hft : ws.take (ws.map V.str).length = ws := by rw [List.length_map, List.take_length]
                  rw [hft, w1] at T3
                  exact ⟨C2, _, _, _, rfl, rfl, SqL.of T3, atI_nat (j := 0) rfl, hN _ _ ⟨_, _, rfl, (wgn _ w2).1, w3, (wgn _ w2).2, T1⟩⟩
            · exact iteDF (fun q => e2 (V.str.inj q)) (hN _ _ ⟨nm, v10, rfl, G1, e1, e2, M4⟩)
        · rintro σ' H8 ⟨v8, v10, rfl, G2, h1, h2, M5⟩
          have hDp : D ≠ p := nDp
          refine ⟨_, rfl, .inl ⟨rfl, _, SqL.of M5.nam⟩, _, rfl, D, _, _, rfl, rfl, M5.nam, by rw [List.length_map]; exact small1000 (by omega), ⟨_, _, _, _, _, _, _, rfl⟩, ns ++ [v8], ⟨M5.but.new hD, ?_, ?_⟩, ?_, hG.snoc G2 h1 h2⟩
          · obtain ⟨x, y, c', q1, q2⟩ := M5.pit.mono (z' := z + 20 * ((i + 1 : Nat) : Int)) (by have : ((i + 1 : Nat) : Int) = (i : Int) + 1 := (by omega); omega)
            exact ⟨x, y, c', by rw [upd_ne (Ne.symm hDp)]; exact q1, q2⟩
          · rw [upd_same, List.map_append]; rfl
          · rw [List.length_append, hl]; rfl
    · rintro σ H1 ⟨⟨v4, v5, v6, v7, v8, v9, v10, rfl⟩, ns, N1, hl, hG⟩
      refine ⟨_, rfl, D, _, rfl, .inl ⟨SqL.of N1.nam, fun l hl2 => ?_⟩⟩
      have N2 := N1.new hpH hl2 (o := .tup (ns.map V.str))
      exact k _ l ns N2.but N2.pit tup_at hl hG
end
end K1
end
section
set_option maxRecDepth 100000
set_option maxHeartbeats 4000000
namespace K1
open PySem L2 K01
theorem take_fm {α : Type} (L : List α) : ∀ k, (List.range k).filterMap (fun i => L[i]?) = L.take k
  | 0 => by simp
  | k + 1 => by
    rw [List.range_succ, List.filterMap_append, take_fm L k, List.take_succ]
    congr 1
theorem fm_congr {α β : Type} {f g : α → Option β} : ∀ {l : List α}, (∀ k ∈ l, f k = g k) → l.filterMap f = l.filterMap g
  | [], _ => rfl
  | a :: l, h => by
    rw [List.filterMap_cons, List.filterMap_cons, h a List.mem_cons_self, fm_congr fun k hk => h k (List.mem_cons_of_mem _ hk)]
theorem rev_pick (xs : Array Value) : ((List.range xs.size).filterMap fun (k : Nat) => xs[(((xs.size : Nat) : Int) - 1 + (k : Int) * (-1)).toNat]?).toArray = xs.toList.reverse.toArray := by
  congr 1
  have e : (List.range xs.size).filterMap (fun (k : Nat) => xs[(((xs.size : Nat) : Int) - 1 + (k : Int) * (-1)).toNat]?) = (List.range xs.size).filterMap fun k => xs.toList.reverse[k]? := by
    refine fm_congr fun k hk => ?_
    have hk' := List.mem_range.mp hk
    rw [List.getElem?_reverse (by simpa using hk')]
    have : (((xs.size : Nat) : Int) - 1 + (k : Int) * (-1)).toNat = xs.toList.length - 1 - k := by
      rw [Array.length_toList]; omega
    rw [this, Array.getElem?_toList]
  rw [e, take_fm, ← Array.length_toList, ← List.length_reverse, List.take_length]
end K1
namespace PySem
open PyProof.Rows
theorem k1_sliceRev {prog : Program} {w : World} {A : Around} {E : Value → Shared → Prop} {s : Shared} {sl : Addr} {vk : Value} {n : Nat} {Q : Int × Int × Nat → Shared → Prop}
    (hs : s.heap.IsSliceOf sl .none .none vk) (pk : IsPart vk (some (-1))) (h : Q ((n : Int) - 1, -1, n) s) : wpAny (model prog w) A (Builtin.Slice.sliceApplied (Value.ref sl) (pure (n : Int))) Q E s := by
  obtain ⟨os, hos, hcs, hds⟩ := hs
  unfold Builtin.Slice.sliceApplied Builtin.Slice.sliceFields
  refine wpAny_bind (wpAny_bind (wpAny_field hos hds rfl (wpAny_bind (wpAny_field hos hds rfl (wpAny_bind (wpAny_field hos hds rfl (wpAny_pure ?_)))))))
  refine wpAny_bind (HT.slicePart_ pk ?_)
  show wpAny _ _ (if _ then _ else _) _ _ _
  rw [if_neg (by decide)]
  refine wpAny_bind (slicePart_none (wpAny_bind (slicePart_none (wpAny_bind (wpAny_pure ?_)))))
  have e1 : Builtin.Slice.sliceAdjust none none (-1) (n : Int) = ((n : Int) - 1, -1) := rfl
  have e2 : Builtin.Slice.slicePlaces ((n : Int) - 1) (-1) (-1) = n := by
    unfold Builtin.Slice.slicePlaces
    rw [if_neg (by decide)]
    split
    · rw [show (- -1 : Int) = 1 from rfl, Int.ediv_one]; omega
    · omega
  show wpAny _ _ (match Builtin.Slice.sliceAdjust none none (-1) (n : Int) with | (lo, hi) => pure (lo, (-1 : Int), Builtin.Slice.slicePlaces lo hi (-1))) _ _ _
  rw [e1]
  show wpAny _ _ (pure ((n : Int) - 1, (-1 : Int), Builtin.Slice.slicePlaces ((n : Int) - 1) (-1) (-1))) _ _ _
  rw [e2]
  exact wpAny_pure h
theorem k1_tupleRev {prog : Program} {w : World} {A : Around} {E : Value → Shared → Prop} {s : Shared} {t sl : Addr} {items : Array Value} {vk : Value} {Q : Value → Shared → Prop}
    (ht : IsTup s.heap t items) (hs : s.heap.IsSliceOf sl .none .none vk) (pk : IsPart vk (some (-1)))
    (h : Q (Value.ref s.heap.objs.size) { s with heap := s.heap.push { cls := Value.type "tuple", data := Data.seq items.toList.reverse.toArray } }) (hz : items.size ≤ sizeLine) :
    wpAny (model prog w) A (getItem (Value.ref t) (Value.ref sl)) Q E s := by
  have hs' := hs
  obtain ⟨os, hos, hcs, hds⟩ := hs'
  have hTs : s.TypeIs (Value.ref sl) "slice" := ⟨os, hos, hcs⟩
  refine wpAny_holding (wpAny_bind (wpAny_sequenceKey (IsTup.typeIs ht) (by decide) (wpAny_bind (wpAny_callSpecial?_slot (IsTup.typeIs ht) slot_tuple_getitem
    (wpAny_call_entry slot_tuple_getitem (IsTup.typeIs ht) entry_tuple_getitem ?_ (args_tuple_getitem (Value.ref t) (Value.ref sl)))))))
  refine wpAny_bind (show wpAny _ _ (pure (Value.ref t, [Value.ref sl])) _ _ _ from wpAny_pure ?_)
  refine wpAny_bind (tupleItemsOf_ ht (wpAny_bind (wpAny_typeOf hTs ?_)))
  rw [if_pos (by decide)]
  refine wpAny_bind (k1_sliceRev hs pk ?_)
  have hno : (((items.size : Nat) : Int) - 1 == 0 && (-1 : Int) == 1 && items.size == items.size) = false := by simp
  show wpAny _ _ (if _ then _ else _) _ _ _
  rw [if_neg (by rw [hno]; exact Bool.false_ne_true)]
  rw [K1.rev_pick]
  refine wpAny_bind (wpAny_newObj_type (wpAny_pure ⟨_, rfl, wpAny_pure h⟩) ?_)
  show _ ≤ sizeLine
  simpa using hz
end PySem
namespace K1
open PySem L2 K01
def tRev (K : PySem.W.Frag) (te : TE) (ts : TO) : TE := fun σ H Q => te σ H fun x H1 => ts σ H1 fun k H2 => k = some (-1) ∧ ∃ a xs, x = .ref a ∧ SqT K H2 a xs ∧ ∀ p, H2 p = none → Q (.ref p) (L2.upd H2 p (.tup xs.reverse))
theorem pe_rev {X : Cx} {e st : Expr} {te : TE} {ts : TO} {pos p2 : Pos} (he : PE X e te) (hs : PO X (some st) ts) : PE X (e.Subscript (Expr.Slice none none (some st) p2) pos) (tRev X.K te ts) where
  run := by
    intro pins s σ H Q I h
    refine PyProof.Rows.Subscript_ (thn (he.run pins s σ H _ I h) ?_)
    rintro v s1 ⟨x, H1, I1, r1, q1⟩
    refine wpAny_Slice ?_
    rw [evalPart_none]
    refine wpAny_pure (wpAny_pure ?_)
    refine thn (hs.run pins s1 σ H1 _ I1 q1) ?_
    rintro vk s2 ⟨k, H2, I2, pk, rfl, a, xs, rfl, hx, q⟩
    have I4 : L2.Inv X pins σ H2 { s2 with heap := s2.heap.push { cls := Value.type "slice", data := Data.fields #[.none, .none, vk] } } := Inv.kept I2 fun b ob q => Heap.get?_push_of_some { cls := Value.type "slice", data := Data.fields #[.none, .none, vk] } q
    cases r1
    obtain ⟨its, rv, ht, hz⟩ := I4.tuple hx
    have hlen : its.toArray.size = xs.length := by rw [List.size_toArray]; exact (Vals.length rv).symm
    refine PyProof.Rows.tail_any (PyProof.Rows.IsTup.typeIs ht) PyProof.Rows.slot_tuple_getitem.lookup ?_ rfl
    refine k1_tupleRev ht (Heap.IsSliceOf.new _ _ _ _) pk ?_ (by rw [hlen]; exact hz)
    refine ⟨.ref _, _, Inv.laid I4 (fun b ob q => Heap.get?_push_of_some _ q) (Nat.le_refl _) (o := .tup xs.reverse) ⟨by rw [List.length_reverse]; exact hz, _, Vals.reverse rv, PyProof.Rows.IsTup.new _ _⟩, rfl, q _ (HOk.fresh I4.hok (Nat.le_refl _))⟩
end K1
end
section
set_option maxRecDepth 100000
set_option maxHeartbeats 4000000
namespace K1
open PySem L2 K01
theorem PitAt.tup {K : PySem.W.Frag} {H H' : Hp} {p a : Addr} {z : Int} {xs : List V} (hp : PitAt H p z) (e : But p H H') (h : SqT K H a xs) : SqT K H' a xs := by
  obtain ⟨x, y, c, hl, _⟩ := hp
  rcases h with (q | ⟨o, q⟩) | q
  · exact .inl (.inl (e _ _ (fun z => by rw [z, hl] at q; cases q) q))
  · exact .inl (.inr ⟨o, e _ _ (fun z => by rw [z, hl] at q; cases q) q⟩)
  · exact .inr q
theorem PitAt.tups {H H' : Hp} {p : Addr} {z : Int} {ps : List Addr} {xss : List (List V)} (hp : PitAt H p z) (e : But p H H') (h : TupsAt H ps xss) : TupsAt H' ps xss :=
  ⟨h.1, fun i q r q1 q2 => by
    obtain ⟨x, y, c, hl, _⟩ := hp
    have := h.2 i q r q1 q2
    exact e _ _ (fun z => by rw [z, hl] at this; cases this) this⟩
theorem PitAt.tt {K : PySem.W.Frag} {H H' : Hp} {p a : Addr} {z : Int} {xss : List (List V)} (hp : PitAt H p z) (e : But p H H') (h : TTAt K H a xss) : TTAt K H' a xss := by
  obtain ⟨ps, h1, h2⟩ := h
  exact ⟨ps, hp.tup e h1, hp.tups e h2⟩
section
variable {P : Program} {w : World} {K : PySem.W.Frag} {mg : Str → Option Value} {base : Heap}
abbrev sDF : Stmt := top 55
/-- the fact speaks of two names -/
structure FOk (ms : List Str) (f : Fact) : Prop where
  l : f.1 ∈ nodes ms
  r : f.2.1 ∈ nodes ms
  ne : f.1 ≠ f.2.1
  sm : f.2.2.natAbs ≤ 10 ^ 13
def spDF (K : PySem.W.Frag) : Sp := fun vs H Q _ => ∃ (p a : Addr) (ms : List Str) (far z : Int), vs = [.ref p, .ref a, .int far] ∧ PitAt H p z ∧ z ≤ 900000 ∧ strsT K H a ms ∧ 1 ≤ ms.length ∧ ms.length ≤ 100 ∧ (nodes ms).Nodup ∧ 0 ≤ far ∧ far ≤ 10 ^ 12 ∧
  ∀ H' q f, But p H H' → PitAt H' p (z + 3) → H' q = some (.tup (factV f)) → FOk ms f → Q (.ref q) H'
theorem scDF : FnScope ["pit", "marks_here", "far", "nodes", "k", "step_here", "sum_here"] ["pit", "marks_here", "far"] (defScope sDF) := ⟨rfl, rfl, rfl, by decide +kernel, rfl, by decide +kernel, by decide +kernel⟩
theorem ok_df {f fh : Addr} {fd fdh : FuncData} (F : Fun K "_law_drawn_fact" "_law_drawn_fact" sDF f fd) (T : Bi mg)
    (FH : Fun K "_law_hoist" "_law_hoist" sHoist fh fdh) (bH : Binds K fdh ["pit", "below"] []) (mH : mg "_law_hoist" = some (.ref fh)) :
    FnOk P w K mg base CX0 2 f fd ["pit", "marks_here", "far"] (spDF K) := by
  have GH : FnOk P w K mg base CX0 1 fh fdh ["pit", "below"] (spHoist K) := ok_hoist FH T
  refine F.ok scDF (fun vs H Q E h => ?_) (fun cdv A outer s H vs Q E hr h => ?_)
  · obtain ⟨_, _, _, _, _, rfl, _⟩ := h
    rfl
  · obtain ⟨p, a, ms, far, z, rfl, hp, hz, hm, hl1, hl, hN, hf0, hf1, k⟩ := h
    refine ⟨_, pss_cons (ps_set (i := 3) scDF.nd rfl (.inl rfl) (pe_op op_catT (pe_tup (pa_cons pe_str pa_nil)) (pv 1)))
      (pss_cons (ps_par (i := 4) (j := 5) rfl scDF.nd rfl rfl (by decide) rfl rfl (pa_cons (pe_call GH hr rfl mH FH.kp bH .nil pass0 (pa_cons (pv 0) (pa_cons (pe_callB call_len_seq (by rfl) T.len PySem.boot_len (pa_cons (pv 3) pa_nil)) pa_nil)))
          (pa_cons (pe_op op_add pe_int (pe_call GH hr rfl mH FH.kp bH .nil pass0 (pa_cons (pv 0) (pa_cons (pe_op op_sub (pe_callB call_len_seq (by rfl) T.len PySem.boot_len (pa_cons (pv 3) pa_nil)) pe_int) pa_nil)))) pa_nil)) rfl)
      (pss_cons (ps_set (i := 6) scDF.nd rfl (.inl rfl) (pe_op op_sub (pe_call GH hr rfl mH FH.kp bH .nil pass0 (pa_cons (pv 0) (pa_cons (pe_op op_add (pe_op op_mul pe_int (pv 2)) pe_int) pa_nil))) (pv 2)))
      (pss_one (ps_ret (pe_tup (pa_cons (pe_ix ix_tup (pv 3) (pv 4) (fun _ _ => rfl)) (pa_cons (pe_ix ix_tup (pv 3) (pe_op op_modN (pe_op op_add (pv 4) (pv 5)) (pe_callB call_len_seq (by rfl) T.len PySem.boot_len (pa_cons (pv 3) pa_nil))) (fun _ _ => rfl)) (pa_cons (pv 6) pa_nil)))))))), ?_⟩
    refine ⟨by show 1 ≤ sizeLine; decide, fun t ht => ?_⟩
    have s1 : Same H (upd H t (.tup [.str "zero"])) := Same.new ht
    refine ⟨_, rfl, catT_it tup_at (Same.tup s1 hm) (by simp) (by rw [List.length_map]; exact Nat.le_of_lt (Nat.lt_of_le_of_lt (show 1 + ms.length ≤ 1001 by omega) (by decide))) fun u H' s2 hu => ?_⟩
    have sH := s1.trans s2
    replace hu : SqT K H' u ((nodes ms).map V.str) := hu
    have nl : (((nodes ms).map V.str).length : Int) = (ms.length : Int) + 1 := by rw [List.length_map, List.length_cons]; omega
    have P0 := hp.same sH
    refine ⟨_, rfl, _, rfl, u, _, rfl, .inr hu, p, _, z, rfl, P0, by omega, by omega, by omega, fun H1 d1 b1 P1 l1 u1 => ?_⟩
    have hu1 := P0.tup b1 hu
    refine ⟨_, rfl, _, rfl, u, _, rfl, .inr hu1, _, _, rfl, rfl, p, _, _, rfl, P1, by omega, by omega, by omega, fun H2 d2 b2 P2 l2 u2 => ⟨_, _, rfl, rfl, _, _, rfl, ?_⟩⟩
    have hu2 := P1.tup b2 hu1
    refine ⟨_, rfl, _, rfl, _, _, rfl, rfl, .inl ⟨by decide, by decide⟩, _, _, rfl, rfl, p, _, _, rfl, P2, by omega, by omega, by omega, fun H3 d3 b3 P3 l3 u3 => ⟨_, rfl, _, _, rfl, rfl, ?_⟩⟩
    have hu3 := P2.tup b3 hu2
    obtain ⟨n1, rfl⟩ := Int.eq_ofNat_of_zero_le l1
    obtain ⟨n2, rfl⟩ := Int.eq_ofNat_of_zero_le l2
    rw [nl] at u1 u2
    have h1 : n1 < (nodes ms).length := by rw [List.length_cons]; omega
    have hj : (n1 + (1 + n2)) % (ms.length + 1) < (nodes ms).length := by rw [List.length_cons]; exact Nat.mod_lt _ (by omega)
    have g1 := List.getElem?_eq_getElem h1
    have g2 := List.getElem?_eq_getElem hj
    have hne : (nodes ms)[n1] ≠ (nodes ms)[(n1 + (1 + n2)) % (ms.length + 1)] := by
      intro e
      have := nodup_get hN (i := n1) (j := (n1 + (1 + n2)) % (ms.length + 1)) g1 (by rw [g2, e])
      by_cases hlt : n1 + (1 + n2) < ms.length + 1
      · rw [Nat.mod_eq_of_lt hlt] at this; omega
      · rw [Nat.mod_eq_sub_mod (by omega), Nat.mod_eq_of_lt (by omega)] at this; omega
    generalize (nodes ms)[n1] = x at g1 hne
    generalize (nodes ms)[(n1 + (1 + n2)) % (ms.length + 1)] = y at g2 hne
    have hfm : ((n1 : Int) + (1 + (n2 : Int))).fmod ((((nodes ms).map V.str).length : Nat) : Int) = (((n1 + (1 + n2)) % (ms.length + 1) : Nat) : Int) := by
      rw [nl, Int.fmod_eq_emod_of_nonneg _ (by omega)]
      rw [Int.natCast_emod]
      congr 1
    have a1 : atI ((nodes ms).map V.str) (n1 : Nat) = some (.str x) := atI_nat (by rw [List.getElem?_map, g1]; rfl)
    have a2 : atI ((nodes ms).map V.str) (((n1 : Int) + (1 + (n2 : Int))).fmod ((((nodes ms).map V.str).length : Nat) : Int)) = some (.str y) := by
      rw [hfm]
      exact atI_nat (by rw [List.getElem?_map, g2]; rfl)
    refine ⟨_, rfl, _, rfl, _, _, _, _, rfl, rfl, hu3, a1, _, rfl, _, rfl, _, rfl, _, _, rfl, rfl, _, rfl, u, _, rfl, .inr hu3, _, _, rfl, rfl, by omega, _, _, _, _, rfl, rfl, hu3, a2, _, rfl, by show 3 ≤ sizeLine; decide, fun q hq => ?_⟩
    refine k _ q (x, y, d3 - far) (((((Same.but sH).trans b1).trans b2).trans b3).trans (Same.but (Same.new hq))) ((P3.mono (by omega)).same (Same.new hq)) upd_same ⟨List.mem_of_getElem? g1, List.mem_of_getElem? g2, hne, ?_⟩
    show (d3 - far).natAbs ≤ 10 ^ 13
    omega
end
end K1
end
section
set_option maxRecDepth 100000
set_option maxHeartbeats 4000000
namespace K1
open PySem L2 K01
/-- a sheet as the law draws it -/
structure ShOk (ms ts : List Str) (F : List Fact) : Prop where
  gm : GoodNs ms
  ml : ms.length ≤ 7
  m1 : 1 ≤ ms.length
  tm : ∀ t ∈ ts, t ∈ ms
  tn : ts.Nodup
  tl : ts.length ≤ 7
  fl : F.length ≤ 20
  fo : ∀ f ∈ F, FOk ms f
  ng : negs (ms.length + 1) (closedM (ms.length + 1) (F.map (eF ms))) = []
theorem negs_nil (m : Nat) : negs (m + 1) (closedM (m + 1) []) = [] :=
  negs_good (free_good m) (fun {y} hy => (free_le (by omega) hy).mpr ⟨.inl rfl, Int.le_refl _⟩) (fun e he => nomatch he) (fun e he => nomatch he)
theorem FOk.inN {ms : List Str} {F : List Fact} (h : ∀ f ∈ F, FOk ms f) : InN ms F := fun f hf => ⟨(h f hf).l, (h f hf).r⟩
theorem GoodNs.nodes {ms : List Str} (h : GoodNs ms) : (nodes ms).Nodup := List.nodup_cons.mpr ⟨h.nz, h.nd⟩
theorem catA_it {K : PySem.W.Frag} {H : Hp} {a b : Addr} {xs ys : List V} {Q : V → Hp → Prop} (h1 : SqT K H a xs) (h2 : SqT K H b ys) (hl : xs.length + ys.length ≤ sizeLine)
    (k : ∀ p H', Same H H' → SqT K H' p (xs ++ ys) → Q (.ref p) H') : rCatA K (.ref a) (.ref b) H Q := by
  refine ⟨_, _, _, _, rfl, rfl, h1, h2, hl, fun e => ?_, fun _ e => ?_, fun _ _ q hq => k q _ (Same.new hq) tup_at⟩
  · refine k b H (Same.refl H) ?_
    rw [e, List.nil_append]; exact h2
  · refine k a H (Same.refl H) ?_
    rw [e, List.append_nil]; exact h1
section
variable {P : Program} {w : World} {K : PySem.W.Frag} {mg : Str → Option Value} {base : Heap}
abbrev sDS : Stmt := top 56
def spDS (K : PySem.W.Frag) : Sp := fun vs H Q _ => ∃ (p : Addr) (many most : Nat) (far z : Int), vs = [.ref p, .int many, .int most, .int far] ∧ PitAt H p z ∧ z ≤ 800000 ∧ 1 ≤ many ∧ many ≤ 6 ∧ most ≤ 20 ∧ 0 ≤ far ∧ far ≤ 10 ^ 12 ∧
  ∀ H' q a b c ms ts F, But p H H' → PitAt H' p (z + 250) → H' q = some (.tup [.ref a, .ref b, .ref c]) → strsT K H' a ms → strsT K H' b ts → TTAt K H' c (F.map factV) → ShOk ms ts F → Q (.ref q) H'
abbrev nsD : List Str := ["pit", "many", "most", "far", "marks_here", "takes_here", "facts_here", "turn", "more", "name"]
theorem scDS : FnScope nsD ["pit", "many", "most", "far"] (defScope sDS) := ⟨rfl, rfl, rfl, by decide +kernel, rfl, by decide +kernel, by decide +kernel⟩
theorem ok_ds {f fh fN fD fC fM : Addr} {fd fdh fdN fdD fdC fdM : FuncData} (F : Fun K "_law_drawn_sheet" "_law_drawn_sheet" sDS f fd) (T : Bi mg)
    (FH : Fun K "_law_hoist" "_law_hoist" sHoist fh fdh) (bH : Binds K fdh ["pit", "below"] []) (mH : mg "_law_hoist" = some (.ref fh))
    (FN : Fun K "_law_call_names" "_law_call_names" sCN fN fdN) (bN : Binds K fdN ["pit", "many"] []) (mN : mg "_law_call_names" = some (.ref fN))
    (FD : Fun K "_law_drawn_fact" "_law_drawn_fact" sDF fD fdD) (bD : Binds K fdD ["pit", "marks_here", "far"] []) (mD : mg "_law_drawn_fact" = some (.ref fD))
    (FM : Fun K "_law_numbered" "_law_numbered" sNum fM fdM) (bM : Binds K fdM ["marks_here", "facts_here"] []) (mM : mg "_law_numbered" = some (.ref fM))
    (FC : Fun K "_law_closed" "_law_closed" sClosed fC fdC) (bC : Binds K fdC ["many", "facts_here"] []) (mC : mg "_law_closed" = some (.ref fC)) :
    FnOk P w K mg base CX0 3 f fd ["pit", "many", "most", "far"] (spDS K) := by
  have GH : FnOk P w K mg base CX0 1 fh fdh ["pit", "below"] (spHoist K) := ok_hoist FH T
  have GN : FnOk P w K mg base CX0 2 fN fdN ["pit", "many"] (spCN K) := ok_cn FN T FH bH mH
  have GD : FnOk P w K mg base CX0 2 fD fdD ["pit", "marks_here", "far"] (spDF K) := ok_df FD T FH bH mH
  have GM : FnOk P w K mg base CX0 1 fM fdM ["marks_here", "facts_here"] (spNum K) := ok_num FM T
  have GC : FnOk P w K mg base CX0 1 fC fdC ["many", "facts_here"] (spClosed K) := ok_closed FC T
  refine F.ok scDS (fun vs H Q E h => ?_) (fun cdv A outer s H vs Q E hr h => ?_)
  · obtain ⟨_, _, _, _, _, rfl, _⟩ := h
    rfl
  · obtain ⟨p, many, most, far, z, rfl, hp, hz, hm1, hm4, hmo, hf0, hf1, k⟩ := h
    have hr1 : Room 1 _ := hr.mono (by decide)
    refine ⟨_, pss_cons (ps_set (i := 4) scDS.nd rfl (.inl rfl) (pe_call GN hr rfl mN FN.kp bN .nil pass0 (pa_cons (pv 0) (pa_cons (pe_op op_add pe_int (pe_call GH hr1 rfl mH FH.kp bH .nil pass0 (pa_cons (pv 0) (pa_cons (pv 1) pa_nil)))) pa_nil))))
      (pss_cons (ps_set (i := 5) scDS.nd rfl (.inl rfl) (pe_callTy call_tuple_of (by rfl) T.tuple (by decide +kernel) (pa_cons (pe_lc (own := [("name", 9)]) (g := gName 9) rfl scDS.nd (pi_tup (pv 4)) (blkOk_by (N := nsD) (sc := defScope sDS) (by decide +kernel))
          (fun _ _ _ _ _ => pg_name (i := 9) scDS.nd rfl (.inl rfl)) (fun _ _ _ _ _ => pts_one (pt_cmpR op_eq (pe_call GH hr1 rfl mH FH.kp bH .nil pass0 (pa_cons (pv 0) (pa_cons pe_int pa_nil))) pe_int (nomark _))) (fun _ _ _ _ _ => pv 9)) pa_nil)))
      (pss_cons (ps_set (i := 5) scDS.nd rfl (.inl rfl) (pe_ifExp (pt_cmpR op_eq (pe_call GH hr1 rfl mH FH.kp bH .nil pass0 (pa_cons (pv 0) (pa_cons pe_int pa_nil))) pe_int (nomark _)) (pe_rev (pv 5) (po_some (pe_un un_neg pe_int))) (pv 5)))
      (pss_cons (ps_set (i := 6) scDS.nd rfl (.inl rfl) (pe_tup pa_nil))
      (pss_cons (ps_for PassesOwn.never rfl (pi_range1 (by rfl) T.range (pa_cons (pe_call GH hr1 rfl mH FH.kp bH .nil pass0 (pa_cons (pv 0) (pa_cons (pe_op op_add (pv 2) pe_int) pa_nil))) pa_nil)) (pg_name (i := 7) scDS.nd rfl (.inl rfl))
        (pss_cons (ps_set (i := 8) scDS.nd rfl (.inl rfl) (pe_op op_catA (pv 6) (pe_tup (pa_cons (pe_call GD hr rfl mD FD.kp bD .nil pass0 (pa_cons (pv 0) (pa_cons (pv 4) (pa_cons (pv 3) pa_nil)))) pa_nil))))
        (pss_one (ps_if (pt_cmpR op_notN (pe_call GC hr1 rfl mC FC.kp bC .nil pass0 (pa_cons (pe_callB call_len_seq (by rfl) T.len PySem.boot_len (pa_cons (pv 4) pa_nil)) (pa_cons (pe_call GM hr1 rfl mM FM.kp bM .nil pass0 (pa_cons (pv 4) (pa_cons (pv 8) pa_nil))) pa_nil))) pe_non (nomark _))
          (pss_one (ps_set (i := 6) scDS.nd rfl (.inl rfl) (pv 8))) pss_nil))))
      (pss_one (ps_ret (pe_tup (pa_cons (pv 4) (pa_cons (pv 5) (pa_cons (pv 6) pa_nil)))))))))), ?_⟩
    refine ⟨_, rfl, _, rfl, _, rfl, p, many, z, rfl, hp, by omega, by omega, by omega, fun H1 d0 b1 P1 l1 u1 => ?_⟩
    obtain ⟨n1, rfl⟩ := Int.eq_ofNat_of_zero_le l1
    refine ⟨_, _, rfl, rfl, p, 1 + n1, z + 1, by rw [show ((1 + n1 : Nat) : Int) = 1 + (n1 : Int) from by omega]; rfl, P1, by omega, by omega, fun H2 a ms b2 P2 ha hml hG => ?_⟩
    have B2 : But p H H2 := b1.trans b2
    have P2 : PitAt H2 p (z + 150) := P2.mono (by omega)
    refine ⟨_, rfl, a, rfl, ⟨_, ha⟩, fun C hC => ?_⟩
    have nC := P2.ne hC
    refine lc_it (walk_tup (K := K) (a := a) (xs := ms.map V.str)) (fun i H' => But p H2 H' ∧ PitAt H' p (z + 150 + i) ∧ ∃ ts : List Str, H' C = some (.lst (ts.map V.str)) ∧ ts.Sublist (ms.take i)) ⟨Same.but (Same.new hC), by simpa using P2.same (Same.new hC), [], upd_same, by simp⟩ (fun i H' _ u => P2.tup u.1 ha) ?_ ?_
    · rintro i v H3 H4 hi ⟨q1, q2, ts, q3, q4⟩ ⟨rfl, hv⟩
      obtain ⟨nm, hnm, rfl⟩ := get_map hv
      rw [List.length_map] at hi
      have htk := take_snoc hnm
      refine ⟨rfl, _, rfl, p, 2, _, rfl, q2, by omega, by decide, by decide, fun H5 d b P l u => ⟨rfl, _, rfl, ?_⟩⟩
      have ei : z + 150 + (i : Int) + 1 = z + 150 + ((i + 1 : Nat) : Int) := by omega
      rw [ei] at P
      by_cases hd : d = 0
      · refine iteDT (congrArg V.int hd) ⟨_, rfl, _, b _ _ nC q3, ?_, ?_, ?_, ts ++ [nm], by rw [upd_same, List.map_append]; rfl, by rw [htk]; exact q4.append (List.Sublist.refl _)⟩
        · rw [List.length_map]
          have := q4.length_le
          have a2 : (ms.take i).length ≤ i := by rw [List.length_take]; exact Nat.min_le_left _ _
          exact small1000 (by omega)
        · exact (q1.trans b).new hC
        · obtain ⟨x, y, c, w1, w2⟩ := P
          exact ⟨x, y, c, by rw [upd_ne (Ne.symm nC)]; exact w1, w2⟩
      · exact iteDF (fun q => hd (V.int.inj q)) ⟨q1.trans b, P, ts, b _ _ nC q3, by rw [htk]; exact q4.trans (List.sublist_append_left _ _)⟩
    rintro H3 ⟨q1, q2, ts, q3, q4⟩
    rw [List.length_map, List.take_length] at q4
    rw [List.length_map] at q2
    have P3 : PitAt H3 p (z + 157) := q2.mono (by omega)
    refine ⟨C, _, rfl, .inl ⟨SqL.of q3, fun l hl => ?_⟩⟩
    have P4 := P3.same (Same.new (o := .tup (ts.map V.str)) hl)
    have B4 : But p H (upd H3 l (.tup (ts.map V.str))) := (B2.trans q1).trans (Same.but (Same.new hl))
    have ha4 : strsT K (upd H3 l (.tup (ts.map V.str))) a ms := P2.tup (q1.trans (Same.but (Same.new hl))) ha
    have hl4 : (upd H3 l (.tup (ts.map V.str))) l = some (.tup (ts.map V.str)) := upd_same
    generalize upd H3 l (.tup (ts.map V.str)) = H4 at P4 B4 ha4 hl4 ⊢
    have tsn : ts.Nodup := q4.nodup hG.nd
    have tsm : ∀ t ∈ ts, t ∈ ms := fun t ht => q4.subset ht
    have tsl : ts.length ≤ 7 := by have := q4.length_le; omega
    dsimp only [gName]
    refine seq_gen (fun σ' H' => ∃ (b : Addr) (ts : List Str), σ' = [some (.ref p), some (.int (many : Nat)), some (.int (most : Nat)), some (.int far), some (.ref a), some (.ref b), none, none, none, none] ∧ But p H H' ∧ PitAt H' p (z + 159) ∧ strsT K H' a ms ∧ strsT K H' b ts ∧ ts.Nodup ∧ (∀ t ∈ ts, t ∈ ms) ∧ ts.length ≤ 7) (fun N hN => ?_) ?_
    · refine ⟨_, rfl, p, 3, _, rfl, P4, by omega, by decide, by decide, fun H5 d b P l u => ⟨rfl, _, rfl, ?_⟩⟩
      have hl5 := P4.tup (K := K) b (SqT.of hl4)
      have ha5 := P4.tup (K := K) b ha4
      by_cases hd : d = 0
      · refine iteDT (congrArg V.int hd) ⟨_, rfl, _, rfl, _, rfl, rfl, _, _, rfl, hl5, fun q hq => ?_⟩
        exact hN _ _ ⟨q, ts.reverse, rfl, (B4.trans b).trans (Same.but (Same.new hq)), (P.same (Same.new hq)).mono (by omega), Same.tup (Same.new hq) ha5, by unfold strsT; rw [List.map_reverse]; exact tup_at, List.pairwise_reverse.mpr (tsn.imp fun e => e.symm), fun t ht => tsm t (List.mem_reverse.mp ht), by rw [List.length_reverse]; exact tsl⟩
      · exact iteDF (fun q => hd (V.int.inj q)) ⟨_, rfl, hN _ _ ⟨_, ts, rfl, B4.trans b, P.mono (by omega), ha5, hl5, tsn, tsm, tsl⟩⟩
    rintro σ' H5 ⟨b, ts, rfl, B5, P5, ha5, hb5, tsn, tsm, tsl⟩
    refine ⟨by show 0 ≤ sizeLine; decide, fun c0 hc0 => ?_⟩
    have P6 := P5.same (Same.new (o := .tup []) hc0)
    refine ⟨_, rfl, _, rfl, _, _, rfl, rfl, p, _, _, rfl, P6, by omega, by omega, by omega, fun H7 d7 b7 P7 l7 u7 => ?_⟩
    obtain ⟨n7, rfl⟩ := Int.eq_ofNat_of_zero_le l7
    refine ⟨_, rfl, by omega, by omega, ?_⟩
    rw [Int.toNat_natCast]
    refine for_r0 (fun i σ H' => (∃ (c : Addr) (F : List Fact) (v7 v8 : Option V), σ = [some (.ref p), some (.int (many : Nat)), some (.int (most : Nat)), some (.int far), some (.ref a), some (.ref b), some (.ref c), v7, v8, none] ∧ TTAt K H' c (F.map factV) ∧ F.length ≤ i ∧ (∀ f ∈ F, FOk ms f) ∧ negs (ms.length + 1) (closedM (ms.length + 1) (F.map (eF ms))) = []) ∧ But p H H' ∧ PitAt H' p (z + 160 + 3 * i) ∧ strsT K H' a ms ∧ strsT K H' b ts)
      ⟨⟨c0, [], _, _, rfl, ⟨[], P6.tup b7 tup_at, TupsAt.nil⟩, Nat.le_refl _, by simp, negs_nil _⟩, (B5.trans (Same.but (Same.new hc0))).trans b7, P7.mono (by omega), P6.tup b7 (Same.tup (Same.new hc0) ha5), P6.tup b7 (Same.tup (Same.new hc0) hb5)⟩ ?_ ?_
    · rintro i σ H8 hi ⟨⟨c, F, v7, v8, rfl, hF, hFl, hFo, hFn⟩, B8, P8, ha8, hb8⟩
      refine ⟨_, rfl, _, rfl, _, rfl, _, rfl, p, a, ms, far, _, rfl, P8, by omega, ha8, by omega, by omega, hG.nodes, hf0, hf1, fun H9 q f b9 P9 hq hf => ?_⟩
      refine ⟨by show 1 ≤ sizeLine; decide, fun t ht => ?_⟩
      have B9 : But p H (upd H9 t (.tup [.ref q])) := (B8.trans b9).trans (Same.but (Same.new ht))
      have P9' := P9.same (Same.new (o := .tup [.ref q]) ht)
      have ha9 := Same.tup (K := K) (Same.new (o := .tup [.ref q]) ht) (P8.tup b9 ha8)
      have hb9 := Same.tup (K := K) (Same.new (o := .tup [.ref q]) ht) (P8.tup b9 hb8)
      obtain ⟨ps, hF1, hF2⟩ := (P8.tt b9 hF).same (Same.new (o := .tup [.ref q]) ht)
      have hq9 := Same.new (o := .tup [.ref q]) ht _ _ hq
      have pl : ps.length = F.length := by rw [hF2.1, List.length_map]
      refine catA_it hF1 tup_at (by rw [List.length_map, pl]; exact line8 (show F.length + 1 ≤ 100 by omega)) fun u H10 s10 hu => ?_
      have hT : TTAt K H10 u ((F ++ [f]).map factV) := ⟨ps ++ [q], by rw [List.map_append]; exact hu, by rw [List.map_append]; exact (hF2.same s10).snoc (s10 _ _ hq9)⟩
      have hFo' : ∀ g ∈ F ++ [f], FOk ms g := fun g hg => by
        rcases List.mem_append.mp hg with hg | hg
        · exact hFo g hg
        · rw [List.mem_singleton] at hg; rw [hg]; exact hf
      have ha10 := Same.tup (K := K) s10 ha9
      have hFl' : (F ++ [f]).length ≤ i + 1 := by rw [List.length_append]; simpa using hFl
      refine ⟨_, rfl, a, _, rfl, .inr ha10, _, rfl, _, rfl, a, u, ms, F ++ [f], rfl, ha10, by omega, hT, by omega, FOk.inN hFo', fun H11 r rs s11 g1 g2 => ?_⟩
      refine ⟨ms.length, r, rs, (F ++ [f]).map (eF ms), by rw [List.length_map]; rfl, by omega, g1, by rw [List.map_map]; exact g2, (FOk.inN hFo').inR, fun H12 s12 => ?_⟩
      have s3 := (s10.trans s11).trans s12
      have ePit : z + 160 + 3 * (i : Int) + 3 = z + 160 + 3 * ((i + 1 : Nat) : Int) := by omega
      rw [ePit] at P9'
      refine ⟨fun hn R _ => ⟨rfl, _, rfl, iteNF (fun z => nomatch z) ⟨_, rfl, ⟨u, F ++ [f], _, _, rfl, hT.same (s11.trans s12), hFl', hFo', hn⟩, B9.trans (Same.but s3), P9'.same s3, Same.tup s3 ha9, Same.tup s3 hb9⟩⟩, fun hn => ⟨rfl, _, rfl, iteNS rfl ⟨⟨c, F, _, _, rfl, ⟨ps, Same.tup s3 hF1, hF2.same s3⟩, by omega, hFo, hFn⟩, B9.trans (Same.but s3), P9'.same s3, Same.tup s3 ha9, Same.tup s3 hb9⟩⟩⟩
    · rintro σ H8 ⟨⟨c, F, v7, v8, rfl, hF, hFl, hFo, hFn⟩, B8, P8, ha8, hb8⟩
      refine ⟨_, rfl, _, rfl, _, rfl, by show 3 ≤ sizeLine; decide, fun q hq => ?_⟩
      exact k _ q a b c ms ts F (B8.trans (Same.but (Same.new hq))) ((P8.same (Same.new hq)).mono (by omega)) upd_same (Same.tup (Same.new hq) ha8) (Same.tup (Same.new hq) hb8) (hF.same (Same.new hq)) ⟨hG, by omega, by omega, tsm, tsn, tsl, by omega, hFo, hFn⟩
end
end K1
end
section
set_option maxRecDepth 100000
set_option maxHeartbeats 4000000
namespace K1
open PySem L2 K01
theorem slA_it {K : PySem.W.Frag} {H : Hp} {a : Addr} {xs : List V} {lo hi : Option Int} {Q : V → Hp → Prop} (h1 : SqT K H a xs)
    (k : ∀ p H', Same H H' → SqT K H' p (cutV xs lo hi) → Q (.ref p) H') : rSlA K (.ref a) lo hi H Q := by
  refine ⟨a, xs, rfl, h1, fun e => k a H (Same.refl H) ?_, fun _ p hp => k p _ (Same.new hp) tup_at⟩
  unfold cutV
  rw [e.1, e.2, Nat.sub_zero, List.drop_zero, List.take_length]
  exact h1
end K1
end
section
set_option maxRecDepth 100000
set_option maxHeartbeats 4000000
namespace K1
open PySem L2 K01
def Small14 (xs : List V) : Prop := (∀ i : Int, V.int i ∈ xs → i.natAbs ≤ 10 ^ 14) ∧ ∀ z : Str, V.str z ∈ xs → AscZ z
/-- a sheet's parts, good or not -/
structure Parts (n : Nat) (ms ts : List Str) (fs : List (List V)) : Prop where
  m1 : 1 ≤ ms.length
  ml : ms.length ≤ n
  ma : ∀ z ∈ ms, AscZ z ∧ z.length ≤ 9
  tl : ts.length ≤ n
  ta : ∀ z ∈ ts, AscZ z ∧ z.length ≤ 9
  fl : fs.length ≤ n + 10
  ff : FlatF fs
  fi : ∀ xs ∈ fs, Small14 xs
  fr : ∀ xs ∈ fs, xs.length ≤ 4
structure KS (K : PySem.W.Frag) (H : Hp) (p a b c : Addr) (ms ts : List Str) (fs : List (List V)) (z : Int) (H' : Hp) : Prop where
  but : But p H H'
  pit : PitAt H' p z
  ha : strsT K H' a ms
  hb : strsT K H' b ts
  hc : TTAt K H' c fs
section
variable {K : PySem.W.Frag} {H : Hp} {p a b c : Addr} {ms ts : List Str} {fs : List (List V)} {z : Int}
theorem KS.same {H1 H2 : Hp} (h : KS K H p a b c ms ts fs z H1) (e : Same H1 H2) : KS K H p a b c ms ts fs z H2 :=
  ⟨h.but.trans (Same.but e), h.pit.same e, Same.tup e h.ha, Same.tup e h.hb, h.hc.same e⟩
theorem KS.new {H1 : Hp} {q : Addr} {o : HO} (h : KS K H p a b c ms ts fs z H1) (e : H1 q = none) : KS K H p a b c ms ts fs z (L2.upd H1 q o) := h.same (Same.new e)
theorem KS.step {H1 H2 : Hp} {z' : Int} (h : KS K H p a b c ms ts fs z H1) (e : But p H1 H2) (q : PitAt H2 p z') : KS K H p a b c ms ts fs z' H2 :=
  ⟨h.but.trans e, q, h.pit.tup e h.ha, h.pit.tup e h.hb, h.pit.tt e h.hc⟩
end
def OkRow (xs : List V) : Prop := (∀ v ∈ xs, Flat v) ∧ Small14 xs ∧ xs.length ≤ 4
/-- a list of tuples -/
def SomeOk (H : Hp) (us : List V) : Prop := ∀ u ∈ us, ∃ q xs, u = .ref q ∧ H q = some (.tup xs) ∧ OkRow xs
theorem SomeOk.same {H H' : Hp} {us : List V} (e : Same H H') (h : SomeOk H us) : SomeOk H' us := fun u hu => by
  obtain ⟨q, xs, h1, h2, h3⟩ := h u hu
  exact ⟨q, xs, h1, e _ _ h2, h3⟩
theorem SomeOk.nil {H : Hp} : SomeOk H [] := fun u hu => nomatch hu
theorem SomeOk.snoc {H : Hp} {us : List V} {q : Addr} {xs : List V} (h : SomeOk H us) (hq : H q = none) (ok : OkRow xs) : SomeOk (upd H q (.tup xs)) (us ++ [.ref q]) := fun u hu => by
  rcases List.mem_append.mp hu with hu | hu
  · exact h.same (Same.new hq) u hu
  · rw [List.mem_singleton] at hu
    exact ⟨q, xs, hu, upd_same, ok⟩
theorem SomeOk.app {H : Hp} {us ws : List V} (h : SomeOk H us) (g : SomeOk H ws) : SomeOk H (us ++ ws) := fun u hu => by
  rcases List.mem_append.mp hu with hu | hu
  · exact h u hu
  · exact g u hu
def flatI (v : V) : Prop := Flat v ∧ (∀ i : Int, v = .int i → i.natAbs ≤ 10 ^ 14) ∧ ∀ z : Str, v = .str z → AscZ z
theorem OkRow.of {xs : List V} (h : ∀ v ∈ xs, flatI v) (hl : xs.length ≤ 4) : OkRow xs := ⟨fun v hv => (h v hv).1, ⟨fun i hi => (h _ hi).2.1 i rfl, fun z hz => (h _ hz).2.2 z rfl⟩, hl⟩
theorem fl_str (z : Str) (h : AscZ z) : flatI (.str z) := ⟨.str z, (fun i e => nomatch e), fun y e => by cases e; exact h⟩
theorem fl_int {i : Int} (h : i.natAbs ≤ 10 ^ 14) : flatI (.int i) := ⟨.int i, (fun j e => by cases e; exact h), fun y e => nomatch e⟩
theorem fl_bl (b : Bool) : flatI (.bl b) := ⟨.bl b, (fun i e => nomatch e), fun y e => nomatch e⟩
theorem fl_non : flatI .non := ⟨.non, (fun i e => nomatch e), fun y e => nomatch e⟩
theorem asc_few : AscZ "1" ∧ AscZ "nomark" ∧ AscZ "" ∧ AscZ "zero" := by
  unfold AscZ
  decide +kernel
theorem ok0 : OkRow [] := .of (fun v hv => nomatch hv) (Nat.zero_le _)
theorem ok2 {u v : V} (h1 : flatI u) (h2 : flatI v) : OkRow [u, v] := by
  refine .of (fun x hx => ?_) (by show 2 ≤ 4; decide)
  simp only [List.mem_cons, List.not_mem_nil, or_false] at hx
  rcases hx with rfl | rfl <;> assumption
theorem ok3 {u v w : V} (h1 : flatI u) (h2 : flatI v) (h3 : flatI w) : OkRow [u, v, w] := by
  refine .of (fun x hx => ?_) (by show 3 ≤ 4; decide)
  simp only [List.mem_cons, List.not_mem_nil, or_false] at hx
  rcases hx with rfl | rfl | rfl <;> assumption
theorem ok4 {u v w t : V} (h1 : flatI u) (h2 : flatI v) (h3 : flatI w) (h4 : flatI t) : OkRow [u, v, w, t] := by
  refine .of (fun x hx => ?_) (by show 4 ≤ 4; decide)
  simp only [List.mem_cons, List.not_mem_nil, or_false] at hx
  rcases hx with rfl | rfl | rfl | rfl <;> assumption
def AscN (z : Str) : Prop := AscZ z ∧ z.length ≤ 9
def odd8 : List Str := ["zero", "", "a b", "a1", "abcdefghi", "Zero", "ok", "x_y"]
theorem odd8_ok : ∀ z ∈ odd8, AscN z := by
  unfold AscN AscZ
  decide +kernel
theorem ascn_in : AscN "in-" := by
  unfold AscN AscZ
  decide +kernel
theorem bend_mem {α : Type} {xs : List α} {u v : α} {k e : Nat} (h : v ∈ (xs.take k ++ [u]) ++ xs.drop (k + e)) : v ∈ xs ∨ v = u := by
  rcases List.mem_append.mp h with h | h
  · rcases List.mem_append.mp h with h | h
    · exact .inl (List.mem_of_mem_take h)
    · rw [List.mem_singleton] at h; exact .inr h
  · exact .inl (List.mem_of_mem_drop h)
theorem bend_len {α : Type} {xs : List α} {u : α} {k e n : Nat} (h : xs.length ≤ n) (hk : k ≤ xs.length) : ((xs.take k ++ [u]) ++ xs.drop (k + e)).length ≤ n + 1 ∧ 1 ≤ ((xs.take k ++ [u]) ++ xs.drop (k + e)).length := by
  simp only [List.length_append, List.length_take, List.length_drop, List.length_singleton]
  omega
theorem bend_map {α β : Type} (f : α → β) (xs : List α) (u : α) (k e : Nat) : (((xs.map f).take k ++ [f u]) ++ (xs.map f).drop (k + e)) = ((xs.take k ++ [u]) ++ xs.drop (k + e)).map f := by
  simp [List.map_take, List.map_drop]
theorem TupsAt.drop {H : Hp} {ps : List Addr} {xss : List (List V)} (h : TupsAt H ps xss) (k : Nat) : TupsAt H (ps.drop k) (xss.drop k) := by
  refine ⟨by rw [List.length_drop, List.length_drop, h.1], fun i p xs h1 h2 => ?_⟩
  rw [List.getElem?_drop] at h1 h2
  exact h.2 _ _ _ h1 h2
end K1
end
section
set_option maxRecDepth 100000
set_option maxHeartbeats 4000000
namespace K1
open PySem L2 K01
/-- the same data on both sides, n deep -/
inductive KT (K : PySem.W.Frag) (H : Hp) : Nat → V → V → Prop
  | non (n) : KT K H n .non .non
  | bl (n) (b : Bool) : KT K H n (.bl b) (.bl b)
  | int (n) (i : Int) : KT K H n (.int i) (.int i)
  | str (n) (z : Str) : KT K H n (.str z) (.str z)
  | tup (n) {a b : Addr} {xs ys : List V} : SqT K H a xs → SqT K H b ys → xs.length = ys.length → xs.length ≤ 500 → (∀ (i : Nat) (x y : V), xs[i]? = some x → ys[i]? = some y → KT K H n x y) → KT K H (n + 1) (.ref a) (.ref b)
  | lst (n) {a b : Addr} {xs ys : List V} : H a = some (.lst xs) → H b = some (.lst ys) → xs.length = ys.length → xs.length ≤ 900 → (∀ (i : Nat) (x y : V), xs[i]? = some x → ys[i]? = some y → KT K H n x y) → KT K H (n + 1) (.ref a) (.ref b)
theorem KT.same {K : PySem.W.Frag} {H H' : Hp} (e : Same H H') {n : Nat} {u v : V} (h : KT K H n u v) : KT K H' n u v := by
  induction h with
  | non n => exact .non n
  | bl n b => exact .bl n b
  | int n i => exact .int n i
  | str n z => exact .str n z
  | tup n h1 h2 h3 h4 _ ih => exact .tup n (Same.tup e h1) (Same.tup e h2) h3 h4 ih
  | lst n h1 h2 h3 h4 _ ih => exact .lst n (e _ _ h1) (e _ _ h2) h3 h4 ih
theorem ty_sqt {K : PySem.W.Frag} {H : Hp} {a : Addr} {xs : List V} (h : SqT K H a xs) : TyX K H (.ref a) (Value.type "tuple") := by
  rcases h with (q | ⟨o, q⟩) | ⟨o, its, n, q1, q2, _⟩
  · exact .base (.tup q)
  · exact .fTuple q
  · exact .kTuple q1 q2
section
variable {P : Program} {w : World} {K : PySem.W.Frag} {mg : Str → Option Value} {base : Heap}
abbrev sKin : Stmt := top 51
def rIxE (K : PySem.W.Frag) : R2 := fun x y H Q => rIxT K x y H Q ∨ rIxL K x y H Q
theorem ix_either {X : Cx} : IxR X (rIxE X.K) := IxR.or ix_tup ix_list
def spKin (K : PySem.W.Frag) : Nat → Sp
  | 0 => fun _ _ _ _ => False
  | n + 1 => fun vs H Q _ => ∃ (u v : V), vs = [u, v] ∧ KT K H n u v ∧ ∀ H', Same H H' → Q (.bl true) H'
theorem scKin : FnScope ["found", "due", "k"] ["found", "due"] (defScope sKin) := ⟨rfl, rfl, rfl, by decide +kernel, rfl, by decide +kernel, by decide +kernel⟩
theorem kit2 {K : PySem.W.Frag} {t : String} {b1 b2 : Bool} (h1 : kitB t "list" = some b1) (h2 : kitB t "tuple" = some b2) : W.kitAny K (Value.type t) [Value.type "list", Value.type "tuple"] = some (b1 || b2) := by
  have e1 := kit_ty (K := K) h1
  have e2 := kit_ty (K := K) h2
  cases b1 <;> cases b2 <;> simp [W.kitAny, e1, e2]
theorem pair2 : Paired ClsV [V.ty "list", V.ty "tuple"] [Value.type "list", Value.type "tuple"] := .cons (.ty _) (.cons (.ty _) .nil)
theorem yes_eq {Q : V → Hp → Prop} {x : V} {H : Hp} (h : Q (.bl true) H) : Q (.bl (decide (x = x))) H := by rw [decide_eq_true rfl]; exact h
theorem kin_step {n : Nat} {f : Addr} {fd : FuncData} (F : Fun K "_law_kin" "_law_kin" sKin f fd) (T : Bi mg) (bK : Binds K fd ["found", "due"] []) (mK : mg "_law_kin" = some (.ref f))
    (G : FnOk P w K mg base CX0 n f fd ["found", "due"] (spKin K n)) : FnOk P w K mg base CX0 (n + 1) f fd ["found", "due"] (spKin K (n + 1)) := by
  refine F.ok scKin (fun vs H Q E h => ?_) (fun cdv A outer s H vs Q E hr h => ?_)
  · obtain ⟨_, _, rfl, _⟩ := h
    rfl
  · obtain ⟨u, v, rfl, hT, k⟩ := h
    refine ⟨_, pss_cons (ps_if (PW.pt (pw_or (pt_val ((pe_callB call_isi (by rfl) T.isinstance (by decide +kernel) (pa_cons (pv 0) (pa_cons (pe_ty (n := "bool") (by rfl) T.bool (by decide +kernel)) pa_nil))))) (pw_or1 (pt_val ((pe_callB call_isi (by rfl) T.isinstance (by decide +kernel) (pa_cons (pv 1) (pa_cons (pe_ty (n := "bool") (by rfl) T.bool (by decide +kernel)) pa_nil)))))))) (pss_one (ps_ret (pe_and ((pe_callB call_isi (by rfl) T.isinstance (by decide +kernel) (pa_cons (pv 0) (pa_cons (pe_ty (n := "bool") (by rfl) T.bool (by decide +kernel)) pa_nil)))) (pe_and ((pe_callB call_isi (by rfl) T.isinstance (by decide +kernel) (pa_cons (pv 1) (pa_cons (pe_ty (n := "bool") (by rfl) T.bool (by decide +kernel)) pa_nil)))) (pe_one (pe_cmpR op_eq (pv 0) (pv 1) (nomark _))))))) pss_nil)
      (pss_cons (ps_if (PW.pt (pw_or (pt_cmpR op_ne ((pe_callB call_isi (by rfl) T.isinstance (by decide +kernel) (pa_cons (pv 0) (pa_cons (pe_ty (n := "list") (by rfl) T.list (by decide +kernel)) pa_nil)))) ((pe_callB call_isi (by rfl) T.isinstance (by decide +kernel) (pa_cons (pv 1) (pa_cons (pe_ty (n := "list") (by rfl) T.list (by decide +kernel)) pa_nil)))) (nomark _)) (pw_or1 (pt_cmpR op_ne ((pe_callB call_isi (by rfl) T.isinstance (by decide +kernel) (pa_cons (pv 0) (pa_cons (pe_ty (n := "tuple") (by rfl) T.tuple (by decide +kernel)) pa_nil)))) ((pe_callB call_isi (by rfl) T.isinstance (by decide +kernel) (pa_cons (pv 1) (pa_cons (pe_ty (n := "tuple") (by rfl) T.tuple (by decide +kernel)) pa_nil)))) (nomark _))))) (pss_one (ps_ret pe_bl)) pss_nil)
      (pss_cons (ps_if (PW.pt (pw_or (pt_cmpR op_ne ((pe_callB call_isi (by rfl) T.isinstance (by decide +kernel) (pa_cons (pv 0) (pa_cons (pe_ty (n := "str") (by rfl) T.str (by decide +kernel)) pa_nil)))) ((pe_callB call_isi (by rfl) T.isinstance (by decide +kernel) (pa_cons (pv 1) (pa_cons (pe_ty (n := "str") (by rfl) T.str (by decide +kernel)) pa_nil)))) (nomark _)) (pw_or1 (pt_cmpR op_ne ((pe_callB call_isi (by rfl) T.isinstance (by decide +kernel) (pa_cons (pv 0) (pa_cons (pe_ty (n := "int") (by rfl) T.int (by decide +kernel)) pa_nil)))) ((pe_callB call_isi (by rfl) T.isinstance (by decide +kernel) (pa_cons (pv 1) (pa_cons (pe_ty (n := "int") (by rfl) T.int (by decide +kernel)) pa_nil)))) (nomark _))))) (pss_one (ps_ret pe_bl)) pss_nil)
      (pss_cons (ps_if (pt_val (pe_callB call_isiT (by rfl) T.isinstance (by decide +kernel) (pa_cons (pv 1) (pa_cons (pe_tup (pa_cons (pe_ty (n := "list") (by rfl) T.list (by decide +kernel)) (pa_cons (pe_ty (n := "tuple") (by rfl) T.tuple (by decide +kernel)) pa_nil))) pa_nil))))
        (pss_cons (ps_if (pt_cmpR op_ne (pe_callB call_len_seq (by rfl) T.len PySem.boot_len (pa_cons (pv 0) pa_nil)) (pe_callB call_len_seq (by rfl) T.len PySem.boot_len (pa_cons (pv 1) pa_nil)) (nomark _)) (pss_one (ps_ret pe_bl)) pss_nil)
        (pss_one (ps_ret (pe_cmpR (op_eqD hr.units) (pe_lc (own := [("k", 2)]) (g := gName 2) (tt := tNot (tB (tCall (spKin K n) [] E0 (tCons (tOp (rIxE K) (tVar 0) (tVar 2)) (tCons (tOp (rIxE K) (tVar 1) (tVar 2)) tNil))))) rfl scKin.nd (pi_range1 (by rfl) T.range (pa_cons (pe_callB call_len_seq (by rfl) T.len PySem.boot_len (pa_cons (pv 1) pa_nil)) pa_nil)) (blkOk_by (N := ["found", "due", "k"]) (sc := defScope sKin) (by decide +kernel))
          (fun _ _ _ _ _ => pg_name (i := 2) scKin.nd rfl (.inl rfl)) (fun _ _ _ _ _ => pts_one (pt_not (pt_val (pe_call G hr rfl mK F.kp bK .nil pass0 (pa_cons (pe_ix ix_either (pv 0) (pv 2) (fun _ _ => rfl)) (pa_cons (pe_ix ix_either (pv 1) (pv 2) (fun _ _ => rfl)) pa_nil)))))) (fun _ _ _ _ _ => pv 2)) (pe_lst pa_nil) (nomark _))))) pss_nil)
      (pss_one (ps_ret (pe_and (pe_cmpR op_eq (pe_cmpR op_isN (pv 0) pe_non (nomark _)) (pe_cmpR op_isN (pv 1) pe_non (nomark _)) (nomark _)) (pe_one (pe_cmpR op_eq (pv 0) (pv 1) (nomark _))))))))), ?_⟩
    cases hT with
    | non =>
      have hu : TyX K H .non (.type "NoneType") := .base .non
      refine (⟨_, rfl, _, _, _, _, false, rfl, .ty _, hu, kit_ty (by decide +kernel), ⟨_, rfl, iteF ((⟨_, rfl, _, _, _, _, false, rfl, .ty _, hu, kit_ty (by decide +kernel), ⟨_, rfl, iteF ?_⟩⟩))⟩⟩)
      refine (⟨_, rfl, _, _, _, _, false, rfl, .ty _, hu, kit_ty (by decide +kernel), ((⟨_, rfl, _, _, _, _, false, rfl, .ty _, hu, kit_ty (by decide +kernel), ⟨rfl, _, rfl, iteNS rfl ((⟨_, rfl, _, _, _, _, false, rfl, .ty _, hu, kit_ty (by decide +kernel), ((⟨_, rfl, _, _, _, _, false, rfl, .ty _, hu, kit_ty (by decide +kernel), ⟨rfl, _, rfl, iteNS rfl ?_⟩⟩))⟩))⟩⟩))⟩)
      refine (⟨_, rfl, _, _, _, _, false, rfl, .ty _, hu, kit_ty (by decide +kernel), ((⟨_, rfl, _, _, _, _, false, rfl, .ty _, hu, kit_ty (by decide +kernel), ⟨rfl, _, rfl, iteNS rfl ((⟨_, rfl, _, _, _, _, false, rfl, .ty _, hu, kit_ty (by decide +kernel), ((⟨_, rfl, _, _, _, _, false, rfl, .ty _, hu, kit_ty (by decide +kernel), ⟨rfl, _, rfl, iteNS rfl ?_⟩⟩))⟩))⟩⟩))⟩)
      refine ⟨_, rfl, by show 2 ≤ sizeLine; decide, fun tp htp => ⟨_, tp, _, _, [Value.type "list", Value.type "tuple"], false, rfl, upd_same, pair2, .base .non, kit2 (t := "NoneType") (b1 := false) (b2 := false) (by decide +kernel) (by decide +kernel), _, rfl, iteF ?_⟩⟩
      exact ⟨_, rfl, rfl, _, rfl, rfl, rfl, _, rfl, iteDT rfl ⟨_, rfl, _, rfl, rfl, yes_eq (k _ (Same.new htp))⟩⟩
    | str _ z =>
      have hu : TyX K H (.str z) (.type "str") := .base (.str z)
      refine (⟨_, rfl, _, _, _, _, false, rfl, .ty _, hu, kit_ty (by decide +kernel), ⟨_, rfl, iteF ((⟨_, rfl, _, _, _, _, false, rfl, .ty _, hu, kit_ty (by decide +kernel), ⟨_, rfl, iteF ?_⟩⟩))⟩⟩)
      refine (⟨_, rfl, _, _, _, _, false, rfl, .ty _, hu, kit_ty (by decide +kernel), ((⟨_, rfl, _, _, _, _, false, rfl, .ty _, hu, kit_ty (by decide +kernel), ⟨rfl, _, rfl, iteNS rfl ((⟨_, rfl, _, _, _, _, false, rfl, .ty _, hu, kit_ty (by decide +kernel), ((⟨_, rfl, _, _, _, _, false, rfl, .ty _, hu, kit_ty (by decide +kernel), ⟨rfl, _, rfl, iteNS rfl ?_⟩⟩))⟩))⟩⟩))⟩)
      refine (⟨_, rfl, _, _, _, _, true, rfl, .ty _, hu, kit_ty (by decide +kernel), ((⟨_, rfl, _, _, _, _, true, rfl, .ty _, hu, kit_ty (by decide +kernel), ⟨rfl, _, rfl, iteNS rfl ((⟨_, rfl, _, _, _, _, false, rfl, .ty _, hu, kit_ty (by decide +kernel), ((⟨_, rfl, _, _, _, _, false, rfl, .ty _, hu, kit_ty (by decide +kernel), ⟨rfl, _, rfl, iteNS rfl ?_⟩⟩))⟩))⟩⟩))⟩)
      refine ⟨_, rfl, by show 2 ≤ sizeLine; decide, fun tp htp => ⟨_, tp, _, _, [Value.type "list", Value.type "tuple"], false, rfl, upd_same, pair2, .base (.str z), kit2 (t := "str") (b1 := false) (b2 := false) (by decide +kernel) (by decide +kernel), _, rfl, iteF ?_⟩⟩
      exact ⟨_, rfl, rfl, _, rfl, rfl, rfl, _, rfl, iteDT rfl ⟨_, rfl, _, rfl, rfl, yes_eq (k _ (Same.new htp))⟩⟩
    | int _ i =>
      have hu : TyX K H (.int i) (.type "int") := .base (.int i)
      refine (⟨_, rfl, _, _, _, _, false, rfl, .ty _, hu, kit_ty (by decide +kernel), ⟨_, rfl, iteF ((⟨_, rfl, _, _, _, _, false, rfl, .ty _, hu, kit_ty (by decide +kernel), ⟨_, rfl, iteF ?_⟩⟩))⟩⟩)
      refine (⟨_, rfl, _, _, _, _, false, rfl, .ty _, hu, kit_ty (by decide +kernel), ((⟨_, rfl, _, _, _, _, false, rfl, .ty _, hu, kit_ty (by decide +kernel), ⟨rfl, _, rfl, iteNS rfl ((⟨_, rfl, _, _, _, _, false, rfl, .ty _, hu, kit_ty (by decide +kernel), ((⟨_, rfl, _, _, _, _, false, rfl, .ty _, hu, kit_ty (by decide +kernel), ⟨rfl, _, rfl, iteNS rfl ?_⟩⟩))⟩))⟩⟩))⟩)
      refine (⟨_, rfl, _, _, _, _, false, rfl, .ty _, hu, kit_ty (by decide +kernel), ((⟨_, rfl, _, _, _, _, false, rfl, .ty _, hu, kit_ty (by decide +kernel), ⟨rfl, _, rfl, iteNS rfl ((⟨_, rfl, _, _, _, _, true, rfl, .ty _, hu, kit_ty (by decide +kernel), ((⟨_, rfl, _, _, _, _, true, rfl, .ty _, hu, kit_ty (by decide +kernel), ⟨rfl, _, rfl, iteNS rfl ?_⟩⟩))⟩))⟩⟩))⟩)
      refine ⟨_, rfl, by show 2 ≤ sizeLine; decide, fun tp htp => ⟨_, tp, _, _, [Value.type "list", Value.type "tuple"], false, rfl, upd_same, pair2, .base (.int i), kit2 (t := "int") (b1 := false) (b2 := false) (by decide +kernel) (by decide +kernel), _, rfl, iteF ?_⟩⟩
      exact ⟨_, rfl, rfl, _, rfl, rfl, rfl, _, rfl, iteDT rfl ⟨_, rfl, _, rfl, rfl, yes_eq (k _ (Same.new htp))⟩⟩
    | bl _ b =>
      have hu : TyX K H (.bl b) (.type "bool") := .base (.bl b)
      exact (⟨_, rfl, _, _, _, _, true, rfl, .ty _, hu, kit_ty (by decide +kernel), ⟨_, rfl, iteT ((⟨_, rfl, _, _, _, _, true, rfl, .ty _, hu, kit_ty (by decide +kernel), ⟨_, rfl, iteT ((⟨_, rfl, _, _, _, _, true, rfl, .ty _, hu, kit_ty (by decide +kernel), ⟨_, rfl, iteT ⟨_, rfl, _, rfl, rfl, yes_eq (k _ (Same.refl H))⟩⟩⟩))⟩⟩))⟩⟩)
    | @tup n a b xs ys hx hy hl hl5 hk =>
      have hu := ty_sqt hx
      have hv := ty_sqt hy
      refine (⟨_, rfl, _, _, _, _, false, rfl, .ty _, hu, kit_ty (by decide +kernel), ⟨_, rfl, iteF ((⟨_, rfl, _, _, _, _, false, rfl, .ty _, hv, kit_ty (by decide +kernel), ⟨_, rfl, iteF ?_⟩⟩))⟩⟩)
      refine (⟨_, rfl, _, _, _, _, false, rfl, .ty _, hu, kit_ty (by decide +kernel), ((⟨_, rfl, _, _, _, _, false, rfl, .ty _, hv, kit_ty (by decide +kernel), ⟨rfl, _, rfl, iteNS rfl ((⟨_, rfl, _, _, _, _, true, rfl, .ty _, hu, kit_ty (by decide +kernel), ((⟨_, rfl, _, _, _, _, true, rfl, .ty _, hv, kit_ty (by decide +kernel), ⟨rfl, _, rfl, iteNS rfl ?_⟩⟩))⟩))⟩⟩))⟩)
      refine (⟨_, rfl, _, _, _, _, false, rfl, .ty _, hu, kit_ty (by decide +kernel), ((⟨_, rfl, _, _, _, _, false, rfl, .ty _, hv, kit_ty (by decide +kernel), ⟨rfl, _, rfl, iteNS rfl ((⟨_, rfl, _, _, _, _, false, rfl, .ty _, hu, kit_ty (by decide +kernel), ((⟨_, rfl, _, _, _, _, false, rfl, .ty _, hv, kit_ty (by decide +kernel), ⟨rfl, _, rfl, iteNS rfl ?_⟩⟩))⟩))⟩⟩))⟩)
      refine ⟨_, rfl, by show 2 ≤ sizeLine; decide, fun tp htp => ⟨_, tp, _, _, [Value.type "list", Value.type "tuple"], true, rfl, upd_same, pair2, ty_sqt (Same.tup (Same.new htp) hy), kit2 (t := "tuple") (b1 := false) (b2 := true) (by decide +kernel) (by decide +kernel), _, rfl, iteT ?_⟩⟩
      have s0 : Same H (upd H tp (.tup [V.ty "list", V.ty "tuple"])) := Same.new htp
      have hx0 := Same.tup s0 hx
      have hy0 := Same.tup s0 hy
      refine ⟨_, rfl, a, xs, rfl, .inr hx0, _, rfl, b, ys, rfl, .inr hy0, rfl, _, rfl, iteNS (by rw [hl]) ?_⟩
      refine ⟨_, rfl, b, ys, rfl, .inr hy0, _, rfl, by omega, by omega, fun D hD => ?_⟩
      rw [Int.toNat_natCast]
      refine lc_it (walk_r0 (n := ys.length)) (fun i H' => Same (upd H tp (.tup [V.ty "list", V.ty "tuple"])) H' ∧ H' D = some (.lst [])) ⟨Same.new hD, upd_same⟩ (fun _ _ _ _ => trivial) ?_ ?_
      · rintro i v H1 H2 hi ⟨q1, q2⟩ ⟨rfl, rfl⟩
        have hxi : xs[i]? = some (xs[i]'(by omega)) := List.getElem?_eq_getElem (by omega)
        have hyi : ys[i]? = some ys[i] := List.getElem?_eq_getElem hi
        have hki := (hk i _ _ hxi hyi).same (s0.trans q1)
        exact ⟨rfl, _, rfl, _, rfl, .inl ⟨_, _, _, _, rfl, rfl, Same.tup q1 hx0, atI_nat hxi, _, rfl, _, rfl, .inl ⟨_, _, _, _, rfl, rfl, Same.tup q1 hy0, atI_nat hyi, _, _, rfl, hki, fun H3 s3 => ⟨_, rfl, q1.trans s3, s3 _ _ q2⟩⟩⟩⟩
      · rintro H1 ⟨q1, q2⟩
        refine ⟨Nat.zero_le _, fun e he => ?_⟩
        have eD : D ≠ e := fun q => by rw [← q, q2] at he; cases he
        have q2' : (upd H1 e (.lst [])) D = _ := (upd_ne eD).trans q2
        exact ⟨.list [], .list [], .lst (SqL.of q2') .nil, .lst (SqL.of upd_same) .nil, shaped_nil, shaped_nil, by rw [eqv_nil]; exact k _ ((s0.trans q1).trans (Same.new (o := .lst []) he))⟩
    | @lst n a b xs ys hx hy hl hl5 hk =>
      have hu : TyX K H (.ref a) (.type "list") := .base (.lst hx)
      have hv : TyX K H (.ref b) (.type "list") := .base (.lst hy)
      refine (⟨_, rfl, _, _, _, _, false, rfl, .ty _, hu, kit_ty (by decide +kernel), ⟨_, rfl, iteF ((⟨_, rfl, _, _, _, _, false, rfl, .ty _, hv, kit_ty (by decide +kernel), ⟨_, rfl, iteF ?_⟩⟩))⟩⟩)
      refine (⟨_, rfl, _, _, _, _, true, rfl, .ty _, hu, kit_ty (by decide +kernel), ((⟨_, rfl, _, _, _, _, true, rfl, .ty _, hv, kit_ty (by decide +kernel), ⟨rfl, _, rfl, iteNS rfl ((⟨_, rfl, _, _, _, _, false, rfl, .ty _, hu, kit_ty (by decide +kernel), ((⟨_, rfl, _, _, _, _, false, rfl, .ty _, hv, kit_ty (by decide +kernel), ⟨rfl, _, rfl, iteNS rfl ?_⟩⟩))⟩))⟩⟩))⟩)
      refine (⟨_, rfl, _, _, _, _, false, rfl, .ty _, hu, kit_ty (by decide +kernel), ((⟨_, rfl, _, _, _, _, false, rfl, .ty _, hv, kit_ty (by decide +kernel), ⟨rfl, _, rfl, iteNS rfl ((⟨_, rfl, _, _, _, _, false, rfl, .ty _, hu, kit_ty (by decide +kernel), ((⟨_, rfl, _, _, _, _, false, rfl, .ty _, hv, kit_ty (by decide +kernel), ⟨rfl, _, rfl, iteNS rfl ?_⟩⟩))⟩))⟩⟩))⟩)
      refine ⟨_, rfl, by show 2 ≤ sizeLine; decide, fun tp htp => ⟨_, tp, _, _, [Value.type "list", Value.type "tuple"], true, rfl, upd_same, pair2, .base (.lst (Same.new htp _ _ hy)), kit2 (t := "list") (b1 := true) (b2 := false) (by decide +kernel) (by decide +kernel), _, rfl, iteT ?_⟩⟩
      have s0 : Same H (upd H tp (.tup [V.ty "list", V.ty "tuple"])) := Same.new htp
      have hx0 := s0 _ _ hx
      have hy0 := s0 _ _ hy
      refine ⟨_, rfl, a, xs, rfl, .inl (SqL.of hx0), _, rfl, b, ys, rfl, .inl (SqL.of hy0), rfl, _, rfl, iteNS (by rw [hl]) ?_⟩
      refine ⟨_, rfl, b, ys, rfl, .inl (SqL.of hy0), _, rfl, by omega, by omega, fun D hD => ?_⟩
      rw [Int.toNat_natCast]
      refine lc_it (walk_r0 (n := ys.length)) (fun i H' => Same (upd H tp (.tup [V.ty "list", V.ty "tuple"])) H' ∧ H' D = some (.lst [])) ⟨Same.new hD, upd_same⟩ (fun _ _ _ _ => trivial) ?_ ?_
      · rintro i v H1 H2 hi ⟨q1, q2⟩ ⟨rfl, rfl⟩
        have hxi : xs[i]? = some (xs[i]'(by omega)) := List.getElem?_eq_getElem (by omega)
        have hyi : ys[i]? = some ys[i] := List.getElem?_eq_getElem hi
        have hki := (hk i _ _ hxi hyi).same (s0.trans q1)
        exact ⟨rfl, _, rfl, _, rfl, .inr ⟨_, _, _, _, rfl, rfl, SqL.of (q1 _ _ hx0), atI_nat hxi, _, rfl, _, rfl, .inr ⟨_, _, _, _, rfl, rfl, SqL.of (q1 _ _ hy0), atI_nat hyi, _, _, rfl, hki, fun H3 s3 => ⟨_, rfl, q1.trans s3, s3 _ _ q2⟩⟩⟩⟩
      · rintro H1 ⟨q1, q2⟩
        refine ⟨Nat.zero_le _, fun e he => ?_⟩
        have eD : D ≠ e := fun q => by rw [← q, q2] at he; cases he
        have q2' : (upd H1 e (.lst [])) D = _ := (upd_ne eD).trans q2
        exact ⟨.list [], .list [], .lst (SqL.of q2') .nil, .lst (SqL.of upd_same) .nil, shaped_nil, shaped_nil, by rw [eqv_nil]; exact k _ ((s0.trans q1).trans (Same.new (o := .lst []) he))⟩
end
end K1
namespace K1
open PySem L2 K01
section
variable {P : Program} {w : World} {K : PySem.W.Frag} {mg : Str → Option Value} {base : Heap}
theorem ok_kin {f : Addr} {fd : FuncData} (F : Fun K "_law_kin" "_law_kin" sKin f fd) (T : Bi mg) (bK : Binds K fd ["found", "due"] []) (mK : mg "_law_kin" = some (.ref f)) : ∀ n, FnOk P w K mg base CX0 n f fd ["found", "due"] (spKin K n)
  | 0 => ⟨fun _ _ _ _ h => h.elim, fun _ _ _ _ _ _ _ _ _ _ _ _ _ h => h.elim⟩
  | n + 1 => kin_step F T bK mK (ok_kin F T bK mK n)
end
end K1
end
section
set_option maxRecDepth 100000
set_option maxHeartbeats 4000000
namespace PySem
namespace K1X
open PySem.W PySem.Calls PyProof.Rows PySem.HandSPX PySem.Spec
section
variable {M : Model} {P : Program} {w : World} {A : Around} {E : Value → Shared → Prop} {s : Shared} {qual : Str} {scope : Scope} {L fI cc : Addr} {cda : Value}
theorem ldK {m : Str → Option Value} {x : Str} {pos : Pos} {v : Value} {Q : Value → Shared → Prop} (hn : s.heap.Ns L m) (hv : m x = some v) (h : Q v s) (hk : scope.kind = .function) (hl : scope.names.lookup x = some .local)
    (hd : (x == ("__debug__" : Str)) = false) : wpAny M A (eval (.Name x pos) (ksEnv qual scope L fI cda cc)) Q E s := wpAny_Name (wpAny_loadName_local hk hl hn hv h) hd
theorem two_size {a b : Nat} (h1 : a ≤ 5000000) (h2 : b ≤ 5000000) : a + b ≤ sizeLine := by
  rw [sizeLine_eq]; omega
/-- f'a{fld}b', fld an int -/
theorem js_int {e : Value} {i : Int} {t : Tok} {fld a b : Str} {q1 q2 q3 q4 q5 : Pos} {k1 k2 : Nat} {Q : Value → Shared → Prop} (hn : s.heap.Ns L (fun x => ([("self", e), (fld, Value.int i t)] : List (Str × Value)).reverse.lookup x)) (hk : scope.kind = .function) (hl : scope.names.lookup fld = some .local)
    (hd : (fld == ("__debug__" : Str)) = false) (hi : i.natAbs.log2 < 1920) (ha : a.length ≤ 100) (hb : b.length ≤ 100) (h : ∀ y tk tk', Q (.str y tk) { s with toks := tk' }) :
    wpAny (model P w) A (eval (.JoinedStr [.Constant (.str a) k1 q1, .FormattedValue (.Name fld q2) (-1) none q3, .Constant (.str b) k2 q4] q5) (ksEnv qual scope L fI cda cc)) Q E s := by
  have hv : ([("self", e), (fld, Value.int i t)] : List (Str × Value)).reverse.lookup fld = some (.int i t) := by simp [List.lookup]
  have lc := PyProof.Rows.int_text_len_1921 hi
  refine wpAny_JoinedStr ?_
  refine wpAny_Constant_str ⟨a, _, rfl, by rw [strLen_append]; exact two_size (by show 0 ≤ _; omega) (by omega), ?_⟩
  refine wpAny_FormattedValue_plain (ldK hn hv ?_ hk hl hd)
  refine wpAny_formatField_int hi ⟨_, _, rfl, ?_, ?_⟩
  · rw [strLen_append, strLen_append]; exact two_size (by show 0 + a.length ≤ _; omega) (by omega)
  refine wpAny_Constant_str ⟨b, _, rfl, ?_, ?_, h _ _ _⟩
  · rw [strLen_append, strLen_append, strLen_append]; exact two_size (by show 0 + a.length + _ ≤ _; omega) (by omega)
  · rw [strLen_append, strLen_append, strLen_append]; exact two_size (by show 0 + a.length + _ ≤ _; omega) (by omega)
/-- f'a{fld}', fld a ring -/
theorem js_ring {e v : Value} {fld a : Str} {q1 q2 q3 q5 : Pos} {k1 : Nat} {Q : Value → Shared → Prop} (hn : s.heap.Ns L (fun x => ([("self", e), (fld, v)] : List (Str × Value)).reverse.lookup x)) (hk : scope.kind = .function) (hl : scope.names.lookup fld = some .local)
    (hd : (fld == ("__debug__" : Str)) = false) (hi : K1.OkRing P v s.heap) (hu : A.units + 8 < cLine) (ha : a.length ≤ 100) (h : ∀ y tk tk', Q (.str y tk) { s with toks := tk' }) :
    wpAny (model P w) A (eval (.JoinedStr [.Constant (.str a) k1 q1, .FormattedValue (.Name fld q2) (-1) none q3] q5) (ksEnv qual scope L fI cda cc)) Q E s := by
  have hv : ([("self", e), (fld, v)] : List (Str × Value)).reverse.lookup fld = some v := by simp [List.lookup]
  obtain ⟨r, o, items, n, rfl, h1, h2, h3, h4, h5⟩ := hi
  have sz : items.size * (2200 + 2) + 10 ≤ 4624210 := by omega
  refine wpAny_JoinedStr ?_
  refine wpAny_Constant_str ⟨a, _, rfl, by rw [strLen_append]; exact two_size (by show 0 ≤ _; omega) (by omega), ?_⟩
  refine wpAny_FormattedValue_plain (ldK hn hv ?_ hk hl hd)
  refine k1_fmt (h₀ := s.heap) (b := 2200) hu h1 h2 h3 (h5 w) (Nat.le_trans sz (by rw [sizeLine_eq]; decide)) fun m u tk hm => ?_
  refine ⟨m, _, rfl, ?_, ?_, h _ _ _⟩
  · rw [strLen_append, strLen_append]; exact two_size (by show 0 + a.length ≤ _; omega) (by omega)
  · rw [strLen_append, strLen_append]; exact two_size (by show 0 + a.length ≤ _; omega) (by omega)
end
end K1X
end PySem
namespace K1
open PySem PyProof.Rows L2 K01
abbrev prg : Program := PySem.Challenge.pw_unknowntakes_k02_sheets_told
/-- __init__ of an error class, the i-th statement -/
abbrev sXI (i : Nat) : Stmt := inClass (top i) 0
/-- what the head says of an error class at C, its __init__ at fI: class x, field fld, its def st -/
structure XAt (K : PySem.W.Frag) (st : Stmt) (x fld qual : Str) (C fI : Addr) : Prop where
  g : PySem.W.nsIn K mainGlobals x = some (some (.ref C))
  cls : ∃ nm q N bs sn sub ab col dd k0 k1 k2 k3 k5 T, K.lookup C = some (excClassObj nm q C N bs [.ref T, .type "ValueError", .type "Exception", .type "BaseException", .type "object"] true sn sub ab col dd k0 k1 k2 k3 k5 "ValueError.__new__")
  sa : PySem.W.findIn K (.ref C) "__setattr__" = some (some (.builtin "object.__setattr__"))
  ga : PySem.W.findIn K (.ref C) "__getattribute__" = some (some (.builtin "BaseException.__getattribute__"))
  gg : PySem.W.findIn K (.ref C) "__getattr__" = some none
  noN : PySem.W.findIn K (.ref C) fld = some none
  iC : PySem.W.findIn K (.ref C) "__init__" = some (some (.ref fI))
  tC : PySem.W.typeIn K (.ref fI) = some (.type "function")
  kC : PySem.W.keepIn K (.ref C) = true
  exC : PySem.W.subIn K (.ref C) (.type "BaseException") = some true
  vE : PySem.W.subIn K (.ref C) (.type "ValueError") = some true
  tyC : PySem.W.typeIn K (.ref C) = some (.type "type")
  hdC : PySem.W.hasDictIn K C = true
  se : PySem.W.subIn K (.ref C) (.ref C) = some true
  su : PySem.W.ks_superIn K C C "__init__" = some (some (.builtin "ValueError.__init__"))
  mr : PySem.W.mroIn K C (.ref C) = some true
  sc : PySem.W.nsIn K cStatics "thirdparty.any" = some none
  sp : PySem.W.nsIn K mainGlobals "super" = some none
  fn : ∃ (oc doc pm ct ccl cl : Value) (od an cdd cld : Option Addr) (osl ccs csl : Array (Option Value)) (cda cc : Addr) (vs : Array Value) (file : Str) (tf : Tok),
    K.lookup fI = some ⟨oc, od, .func (PySem.W.ksFn "__init__" qual (defArgs st) (defBody st) (defScope st) .none .none doc pm an (.ref cda) ct cc), osl⟩ ∧ PySem.W.codeIn K (.ref cda) qual = true ∧ K.lookup cda = some ⟨ccl, cdd, .fields vs, ccs⟩ ∧ vs[2]? = some (.str file tf) ∧ ((prg.main.file : Str) == file) = true ∧
      K.lookup cc = some ⟨cl, cld, .cell (some (.ref C)), csl⟩
theorem refsVE_T (T : Addr) : PySem.HandSPX.refsVE [.ref T, .type "ValueError", .type "Exception", .type "BaseException", .type "object"] = true := by rfl
theorem xc_marks {K : PySem.W.Frag} {mg : Str → Option Value} {C fI : Addr} (T : XAt K (sXI 11) "BadMarks" "index" "BadMarks.__init__" C fI) {h0 : Heap} (X0 : K.In h0) (G0 : h0.Ns mainGlobals mg) : PySem.K1X.XC prg K mg "BadMarks" "index" C fI OkInt := by
  obtain ⟨nm, q, N, bs, sn, sub, ab, col, dd, k0, k1, k2, k3, k5, TE, hC⟩ := T.cls
  obtain ⟨oc, doc, pm, ct, ccl, cl, od, an, cdd, cld, osl, ccs, csl, cda, cc, vs, file, tf, ho, hcd, hcode, hvs, hfile, hcell⟩ := T.fn
  refine { gC := PySem.W.mg_of X0 G0 T.g, cls := ⟨nm, q, N, bs, _, sn, sub, ab, col, dd, k0, k1, k2, k3, k5, hC, refsVE_T TE⟩, ga := T.ga, gg := T.gg, noN := T.noN, iC := T.iC, tC := T.tC, kC := T.kC, exC := T.exC, tyC := T.tyC, hdC := T.hdC, te := PySem.W.exm_ref T.exC T.hdC T.tyC T.se, mono := fun u h h' _ z => z, run := ?_ }
  intro w A s R e t0 v X hlim G Bt hx hnx hr hu hok hq
  obtain ⟨i, t, rfl, hi⟩ := hok
  refine PySem.K1X.init_super X hlim G Bt (PySem.W.mg_none_of X0 G0 T.sp) hC (refsVE_T TE) T.sa T.noN T.vE T.su T.mr T.sc ho hcd hcode hvs hfile hcell rfl rfl (by decide +kernel) (by decide +kernel) (fun s' => .of_eq rfl) rfl rfl rfl rfl rfl (by decide +kernel) rfl rfl (by decide +kernel) (fun env => rfl) (fun L => rfl) (fun f L => rfl) (fun L => rfl) ?_ hx hnx hr hq
  intro L B EE s' Q hn hk hb h
  exact PySem.K1X.js_int hn rfl rfl (by decide +kernel) hi (by decide +kernel) (by decide +kernel) h
theorem xc_takes {K : PySem.W.Frag} {mg : Str → Option Value} {C fI : Addr} (T : XAt K (sXI 12) "BadTakes" "index" "BadTakes.__init__" C fI) {h0 : Heap} (X0 : K.In h0) (G0 : h0.Ns mainGlobals mg) : PySem.K1X.XC prg K mg "BadTakes" "index" C fI OkInt := by
  obtain ⟨nm, q, N, bs, sn, sub, ab, col, dd, k0, k1, k2, k3, k5, TE, hC⟩ := T.cls
  obtain ⟨oc, doc, pm, ct, ccl, cl, od, an, cdd, cld, osl, ccs, csl, cda, cc, vs, file, tf, ho, hcd, hcode, hvs, hfile, hcell⟩ := T.fn
  refine { gC := PySem.W.mg_of X0 G0 T.g, cls := ⟨nm, q, N, bs, _, sn, sub, ab, col, dd, k0, k1, k2, k3, k5, hC, refsVE_T TE⟩, ga := T.ga, gg := T.gg, noN := T.noN, iC := T.iC, tC := T.tC, kC := T.kC, exC := T.exC, tyC := T.tyC, hdC := T.hdC, te := PySem.W.exm_ref T.exC T.hdC T.tyC T.se, mono := fun u h h' _ z => z, run := ?_ }
  intro w A s R e t0 v X hlim G Bt hx hnx hr hu hok hq
  obtain ⟨i, t, rfl, hi⟩ := hok
  refine PySem.K1X.init_super X hlim G Bt (PySem.W.mg_none_of X0 G0 T.sp) hC (refsVE_T TE) T.sa T.noN T.vE T.su T.mr T.sc ho hcd hcode hvs hfile hcell rfl rfl (by decide +kernel) (by decide +kernel) (fun s' => .of_eq rfl) rfl rfl rfl rfl rfl (by decide +kernel) rfl rfl (by decide +kernel) (fun env => rfl) (fun L => rfl) (fun f L => rfl) (fun L => rfl) ?_ hx hnx hr hq
  intro L B EE s' Q hn hk hb h
  exact PySem.K1X.js_int hn rfl rfl (by decide +kernel) hi (by decide +kernel) (by decide +kernel) h
theorem xc_fact {K : PySem.W.Frag} {mg : Str → Option Value} {C fI : Addr} (T : XAt K (sXI 13) "BadFact" "index" "BadFact.__init__" C fI) {h0 : Heap} (X0 : K.In h0) (G0 : h0.Ns mainGlobals mg) : PySem.K1X.XC prg K mg "BadFact" "index" C fI OkInt := by
  obtain ⟨nm, q, N, bs, sn, sub, ab, col, dd, k0, k1, k2, k3, k5, TE, hC⟩ := T.cls
  obtain ⟨oc, doc, pm, ct, ccl, cl, od, an, cdd, cld, osl, ccs, csl, cda, cc, vs, file, tf, ho, hcd, hcode, hvs, hfile, hcell⟩ := T.fn
  refine { gC := PySem.W.mg_of X0 G0 T.g, cls := ⟨nm, q, N, bs, _, sn, sub, ab, col, dd, k0, k1, k2, k3, k5, hC, refsVE_T TE⟩, ga := T.ga, gg := T.gg, noN := T.noN, iC := T.iC, tC := T.tC, kC := T.kC, exC := T.exC, tyC := T.tyC, hdC := T.hdC, te := PySem.W.exm_ref T.exC T.hdC T.tyC T.se, mono := fun u h h' _ z => z, run := ?_ }
  intro w A s R e t0 v X hlim G Bt hx hnx hr hu hok hq
  obtain ⟨i, t, rfl, hi⟩ := hok
  refine PySem.K1X.init_super X hlim G Bt (PySem.W.mg_none_of X0 G0 T.sp) hC (refsVE_T TE) T.sa T.noN T.vE T.su T.mr T.sc ho hcd hcode hvs hfile hcell rfl rfl (by decide +kernel) (by decide +kernel) (fun s' => .of_eq rfl) rfl rfl rfl rfl rfl (by decide +kernel) rfl rfl (by decide +kernel) (fun env => rfl) (fun L => rfl) (fun f L => rfl) (fun L => rfl) ?_ hx hnx hr hq
  intro L B EE s' Q hn hk hb h
  exact PySem.K1X.js_int hn rfl rfl (by decide +kernel) hi (by decide +kernel) (by decide +kernel) h
theorem xc_ring {K : PySem.W.Frag} {mg : Str → Option Value} {C fI : Addr} (T : XAt K (sXI 14) "Contradiction" "ring" "Contradiction.__init__" C fI) {h0 : Heap} (X0 : K.In h0) (G0 : h0.Ns mainGlobals mg) : PySem.K1X.XC prg K mg "Contradiction" "ring" C fI (OkRing prg) := by
  obtain ⟨nm, q, N, bs, sn, sub, ab, col, dd, k0, k1, k2, k3, k5, TE, hC⟩ := T.cls
  obtain ⟨oc, doc, pm, ct, ccl, cl, od, an, cdd, cld, osl, ccs, csl, cda, cc, vs, file, tf, ho, hcd, hcode, hvs, hfile, hcell⟩ := T.fn
  refine { gC := PySem.W.mg_of X0 G0 T.g, cls := ⟨nm, q, N, bs, _, sn, sub, ab, col, dd, k0, k1, k2, k3, k5, hC, refsVE_T TE⟩, ga := T.ga, gg := T.gg, noN := T.noN, iC := T.iC, tC := T.tC, kC := T.kC, exC := T.exC, tyC := T.tyC, hdC := T.hdC, te := PySem.W.exm_ref T.exC T.hdC T.tyC T.se, mono := okRing_mono, run := ?_ }
  intro w A s R e t0 v X hlim G Bt hx hnx hr hu hok hq
  refine PySem.K1X.init_super X hlim G Bt (PySem.W.mg_none_of X0 G0 T.sp) hC (refsVE_T TE) T.sa T.noN T.vE T.su T.mr T.sc ho hcd hcode hvs hfile hcell rfl rfl (by decide +kernel) (by decide +kernel) (fun s' => .of_eq rfl) rfl rfl rfl rfl rfl (by decide +kernel) rfl rfl (by decide +kernel) (fun env => rfl) (fun L => rfl) (fun f L => rfl) (fun L => rfl) ?_ hx hnx hr hq
  intro L B EE s' Q hn hk hb h
  exact PySem.K1X.js_ring hn rfl rfl (by decide +kernel) (okRing_mono _ _ _ hk hok) (by omega) (by decide +kernel) h
end K1
end
section
set_option maxRecDepth 100000
set_option maxHeartbeats 4000000
namespace K1
open PySem PyProof.Rows L2 K01
section
variable {X : Cx} {CX : CXT} {k : Nat} {f C : Addr} {fd : FuncData} {ps ks : List Str} {sp : Sp} {E : XK} {m : Str}
/-- a def that a builtin calls -/
theorem run_in1 {pins : List (Addr × Obj)} {σ : L2.St} {H : Hp} {s : Shared} {Q : VK} {us : List Value} {vs : List V} (F : FnOk X.prog X.w X.K X.mg X.base CX k f fd ps sp) (hr : Room (k + 1) X.A) (hb : Binds X.K fd ps []) (hx : Passes CX X E)
    (I : Inv X pins σ H s) (r : Vals vs us) (h : sp vs H Q E) : wpAny (model X.prog X.w) X.A.in1 (call (.ref f) us) (EP X pins σ Q) X.xe s := by
  have hl : us.length = ps.length := by rw [← F.len _ _ _ _ h]; exact (Vals.length r).symm
  have b := hb s us I.kIn (by rw [List.append_nil]; exact hl)
  rw [List.append_nil] at b
  refine wpAny_call (codeAny_mono (F.run X.A.in1 X.stack s H ⟨us, []⟩ us vs Q E hr.in1 I.env0.in1 b r h) fun res s' q => ?_)
  match res, q with
  | .error e, q => exact hx pins σ H s e s' I q
  | .ok (.ret u), q => exact Inv.after I q
theorem ins_at {pins : List (Addr × Obj)} {σ : L2.St} {H : Hp} {s : Shared} {a dx : Addr} {fs : List (Str × V)} (I : Inv X pins σ H s) (ea : H a = some (.ins C dx fs)) : ∃ ox od, PySem.W.InstAt s.heap a ox C od := by
  obtain ⟨mA, O, _, _, _, _⟩ := ins_get I.hok ea
  obtain ⟨od, J, _⟩ := O.look
  exact ⟨_, _, J⟩
/-- o[i] by an own __getitem__ -/
def tIxO (C : Addr) (sp : Sp) (E : XK) (ta tb : TE) : TE := fun σ H Q => ta σ H fun x H1 => tb σ H1 fun y H2 => ∃ a dx fs, x = .ref a ∧ H2 a = some (.ins C dx fs) ∧ sp [x, y] H2 Q E
theorem pe_ixO {a b : Expr} {ta tb : TE} {pos : Pos} (hm : Meth X.K C "__getitem__" f) (hfn : PySem.W.fnIn X.K f = true) (F : FnOk X.prog X.w X.K X.mg X.base CX k f fd ps sp) (hr : Room (k + 1) X.A) (hb : Binds X.K fd ps []) (hx : Passes CX X E) (ha : PE X a ta) (hb' : PE X b tb)
    (hsl : ∀ x i, subscripted b true x i = runValue (.builtin "lifetime.subscript" ⟨[x, i], []⟩) := by intro x i; rfl) : PE X (.Subscript a b pos) (tIxO C sp E ta tb) where
  run := by
    intro pins s σ H Q I h
    refine Subscript_ (binT (R := fun x y H2 => ∃ a dx fs, x = .ref a ∧ H2 a = some (.ins C dx fs) ∧ sp [x, y] H2 Q E) ha hb' I h fun v u s2 x y H2 I2 rx ry q => ?_)
    obtain ⟨o, dx, fs, rfl, ea, q⟩ := q
    obtain rfl : v = Value.ref o := rx
    obtain ⟨ox, od, J⟩ := ins_at I2 ea
    obtain ⟨m, fr⟩ := I2.fr
    exact PySem.W.sub_K fr I2.ok.mod.kin J hm.at_ hfn hm.fn (run_in1 (vs := [.ref o, y]) (us := [.ref o, u]) F hr hb hx I2 (.cons rfl (.cons ry .nil)) q) (hsl _ _)
/-- x in o by an own __contains__ that answers a bool -/
def rInO (C : Addr) (sp : Sp) (E : XK) (neg : Bool) : R2 := fun y x H Q => ∃ a dx fs, x = .ref a ∧ H a = some (.ins C dx fs) ∧ sp [x, y] H (fun v H2 => ∃ b, v = .bl b ∧ Q (.bl (b != neg)) H2) E
theorem op_inO (hm : Meth X.K C "__contains__" f) (F : FnOk X.prog X.w X.K X.mg X.base CX k f fd ps sp) (hr : Room k X.A) (hb : Binds X.K fd ps []) (hx : Passes CX X E) : OpR X (compareOp .In) (rInO C sp E false) := by
  intro pins s σ H y x u v Q I ry rx h
  obtain ⟨o, dx, fs, rfl, ea, q⟩ := h
  obtain rfl : v = Value.ref o := rx
  obtain ⟨ox, od, J⟩ := ins_at I ea
  obtain ⟨m, fr⟩ := I.fr
  refine PySem.W.in_K fr I.ok.mod.kin J hm.at_ hm.fn (thn (run_fn (vs := [.ref o, y]) (us := [.ref o, u]) (dvs := []) F hr hb .nil hx I (.cons rfl (.cons ry .nil)) q) ?_)
  rintro r s1 ⟨w, H1, I1, rw', b, rfl, q1⟩
  obtain rfl : r = Value.bool b := rw'
  refine wpAny_truthy_bool ?_
  exact ⟨.bl b, H1, I1, rfl, by simpa using q1⟩
theorem op_notInO (hm : Meth X.K C "__contains__" f) (F : FnOk X.prog X.w X.K X.mg X.base CX k f fd ps sp) (hr : Room k X.A) (hb : Binds X.K fd ps []) (hx : Passes CX X E) : OpR X (compareOp .NotIn) (rInO C sp E true) := by
  intro pins s σ H y x u v Q I ry rx h
  obtain ⟨o, dx, fs, rfl, ea, q⟩ := h
  obtain rfl : v = Value.ref o := rx
  obtain ⟨ox, od, J⟩ := ins_at I ea
  obtain ⟨m, fr⟩ := I.fr
  refine PySem.W.notIn_K fr I.ok.mod.kin J hm.at_ hm.fn (thn (run_fn (vs := [.ref o, y]) (us := [.ref o, u]) (dvs := []) F hr hb .nil hx I (.cons rfl (.cons ry .nil)) q) ?_)
  rintro r s1 ⟨w, H1, I1, rw', b, rfl, q1⟩
  obtain rfl : r = Value.bool b := rw'
  refine wpAny_truthy_bool ?_
  exact ⟨.bl (!b), H1, I1, rfl, by simpa using q1⟩
/-- o.m(k = v, ..) -/
def tMethK (C : Addr) (m : Str) (n : Nat) (sp : Sp) (gV : List V → List V → List V) (E : XK) (ta : TE) (tk : TA) : TE := fun σ H Q => ta σ H fun x H1 => ∃ a dx fs, x = .ref a ∧ H1 a = some (.ins C dx fs) ∧ fs.lookup m = none ∧ tk σ H1 fun zs H2 => zs.length = n ∧ sp (gV [x] zs) H2 Q E
theorem pe_methK {g : List Value → List Value → List Value} {gV : List V → List V → List V} {o : Expr} {ta : TE} {tk : TA} {kws : List Keyword} {apos pos : Pos} {pl : Sem Bool} (he : PE X o ta) (c : Cls X.K C) (hm : Meth X.K C m f) (F : FnOk X.prog X.w X.K X.mg X.base CX k f fd ps sp) (hr : Room k X.A)
    (hb : KBn X.K fd ps 1 ks g gV) (hx : Passes CX X E) (hkw : PK X kws tk)
    (hall : ((backToKw pos (keywordEach kws X.env)).all fun x => x.1.isSome) = true := by rfl) (hks : (backToKw pos (keywordEach kws X.env)).filterMap (fun x => x.1) = ks := by rfl) (hpl : (((backTo pos (starEach [] X.env)).any fun x => x.1) || ((backToKw pos (keywordEach kws X.env)).any fun x => x.1.isNone)) = false := by rfl)
    (ht : eval (.Call (.Attribute o m apos) [] kws pos) X.env = (do
      let ov ← eval o X.env
      standAt apos.atName
      let (f, first) ← holding [ov] (getMethod ov m pl)
      callWith pos f first (backTo pos (starEach [] X.env)) (backToKw pos (keywordEach kws X.env))) := by rfl) : PE X (.Call (.Attribute o m apos) [] kws pos) (tMethK C m ks.length sp gV E ta tk) where
  run := by
    intro pins s σ H Q I h
    refine PySem.W.methodCall_KW (pl := pl) (thn (he.run pins s σ H _ I h) ?_) ht
    rintro u s1 ⟨x, H1, I1, rx, a, dx, fs, rfl, ea, l, q⟩
    obtain rfl : u = Value.ref a := rx
    refine getmeth_ok I1 ea c hm l ?_
    refine PySem.W.callWith_KW0 (first := [.ref a]) (h₀ := X.base) I1.ok.mod.kin hm.kp hall (thn (hkw.run pos pins s1 σ H1 _ I1 q) ?_) hpl
    rintro ws s2 ⟨zs, H2, I2, rz, l2, q2⟩
    refine ⟨I2.kIn, ?_⟩
    rw [hks]
    have r1 : Vals [V.ref a] [Value.ref a] := .cons rfl .nil
    have r2 := hb.rel r1 rz
    refine wpAny_call (codeAny_mono (F.run X.A X.stack s2 H2 ⟨[.ref a], ks.zip ws⟩ (g [.ref a] ws) (gV [.ref a] zs) Q E hr I2.env0 (hb.to s2 [.ref a] ws I2.kIn rfl ((Vals.length rz).symm.trans l2)) r2 q2) fun res s' q => ?_)
    match res, q with
    | .error e, q => exact hx pins σ H2 s2 e s' I2 q
    | .ok (.ret u), q => exact Inv.after I2 q
theorem run_in2 {pins : List (Addr × Obj)} {σ : L2.St} {H : Hp} {s : Shared} {Q : VK} {us : List Value} {vs : List V} (F : FnOk X.prog X.w X.K X.mg X.base CX k f fd ps sp) (hr : Room (k + 2) X.A) (hb : Binds X.K fd ps []) (hx : Passes CX X E)
    (I : Inv X pins σ H s) (r : Vals vs us) (h : sp vs H Q E) : wpAny (model X.prog X.w) X.A.in1.in1 (call (.ref f) us) (EP X pins σ Q) X.xe s := by
  have hl : us.length = ps.length := by rw [← F.len _ _ _ _ h]; exact (Vals.length r).symm
  have b := hb s us I.kIn (by rw [List.append_nil]; exact hl)
  rw [List.append_nil] at b
  refine wpAny_call (codeAny_mono (F.run X.A.in1.in1 X.stack s H ⟨us, []⟩ us vs Q E hr.in1.in1 I.env0.in1.in1 b r h) fun res s' q => ?_)
  match res, q with
  | .error e, q => exact hx pins σ H s e s' I q
  | .ok (.ret u), q => exact Inv.after I q
/-- str(o) by an own __str__ -/
def rStrO (C : Addr) (sp : Sp) (E : XK) : List V → Hp → VK → Prop := fun xs H Q => ∃ a dx fs, xs = [.ref a] ∧ H a = some (.ins C dx fs) ∧ sp [.ref a] H (fun v H2 => ∃ z, v = .str z ∧ Q (.str z) H2) E
theorem call_strO (hm : Meth X.K C "__str__" f) (F : FnOk X.prog X.w X.K X.mg X.base CX k f fd ps sp) (hr : Room (k + 2) X.A) (hb : Binds X.K fd ps []) (hx : Passes CX X E) : CallR X (.type "str") (rStrO C sp E) := by
  intro pins s σ H xs us Q I r h
  obtain ⟨a, dx, fs, rfl, ea, q⟩ := h
  match us, r with
  | [u], .cons ru .nil =>
    obtain rfl : u = Value.ref a := ru
    obtain ⟨ox, od, J⟩ := ins_at I ea
    refine PySem.W.kso_call ?_ I.kIn J hm.at_ hm.fn (thn (run_in2 (vs := [.ref a]) (us := [.ref a]) F hr hb hx I (.cons rfl .nil) q) ?_)
    · have := hr.un
      show X.A.units + 1 + 1 < cLine
      omega
    · rintro w s1 ⟨v, H1, I1, rv, z, rfl, q1⟩
      obtain ⟨t, rfl⟩ := rv
      exact ⟨.str z, H1, I1, ⟨t, rfl⟩, q1⟩
end
end K1
end
section
set_option autoImplicit false
namespace K01
theorem lec_eq {c d : Cell} (h : ∀ k, LeC c k ↔ LeC d k) : c = d := by
  cases c with
  | none =>
    cases d with
    | none => rfl
    | some y =>
      obtain ⟨_, e, _⟩ := (h y).mpr ⟨y, rfl, Int.le_refl _⟩
      cases e
  | some x =>
    obtain ⟨y, rfl, h1⟩ := (h x).mp ⟨x, rfl, Int.le_refl _⟩
    obtain ⟨_, e, h2⟩ := (h y).mpr ⟨y, rfl, Int.le_refl _⟩
    cases e
    rw [Int.le_antisymm h2 h1]
/-- the law's closing tells just what a good matrix tells -/
theorem closed_cell {n : Nat} {E Z : List Edge} {B : Mat} (G : Good n Z B) (RZ : InR n Z) (R : InR n E) (hE : ∀ e ∈ E, e ∈ Z) (h0 : ∀ {y}, y < n → Le B 0 y 0) (hZ : ∀ e ∈ Z, e ∈ E ∨ (e.1 = 0 ∧ e.2.2 = 0)) {x y : Nat} (hx : x < n) (hy : y < n) :
    cell (closedM n E) x y = cell B x y := by
  obtain ⟨s1, s2, s3, s4⟩ := start_le R
  obtain ⟨dn, tri⟩ := fw_tri s1
  have ab := closed_above G h0 R hE
  have nn : NonNeg n (closedM n E) := fun hx q => G.diag hx (ab.2 hx hx q)
  have edge : ∀ e ∈ Z, Le (closedM n E) e.1 e.2.1 e.2.2 := fun e he => by
    rcases hZ e he with h | ⟨h1, h2⟩
    · exact dn.2 (R e h).1 (R e h).2 (s4 e h)
    · have hy := (RZ e he).2
      rw [h1, h2]
      exact dn.2 (by omega) hy (s2 hy)
  have walk : ∀ {u v : Nat} {c : Int}, Walk Z u v c → u < n → v < n → Le (closedM n E) u v c := by
    intro u v c w
    induction w with
    | nil u => intro hu _; exact dn.2 hu hu (s3 hu)
    | cons e w ih =>
      intro hu hv
      have hm := (RZ _ e).2
      exact tri nn hu hv hm (edge _ e) (ih hm hv)
  refine lec_eq fun k => ⟨fun q => ab.2 hx hy q, fun q => ?_⟩
  obtain ⟨c, h1, h2⟩ := G.walk hx hy q
  exact (walk h2 hx hy).mono h1
end K01
namespace K1
open PySem L2 K01
theorem eg_row0 {ms : List Str} {MS : List Fact} {B : Mat} (hN : (nodes ms).Nodup) (G : Good (ms.length + 1) (EG ms MS) B) {y : Nat} (hy : y < ms.length + 1) : Le B 0 y 0 := by
  cases y with
  | zero => exact G.diag0 (by omega)
  | succ i =>
    refine G.edge ?_
    unfold EG
    rw [List.map_append, zeros_edges hN]
    exact List.mem_append_right _ (List.mem_map.mpr ⟨i, List.mem_range.mpr (by omega), rfl⟩)
/-- the sheet's bounds are the law's rows -/
theorem rows_cell {ms : List Str} {MS : List Fact} {B : Mat} (hI : InN ms MS) (hN : (nodes ms).Nodup) (G : Good (ms.length + 1) (EG ms MS) B) {x y : Nat} (hx : x < ms.length + 1) (hy : y < ms.length + 1) :
    cell (closedM (ms.length + 1) (MS.map (eF ms))) x y = cell B x y := by
  have hIn : InN ms (MS ++ zeros ms) := fun f hf => by
    rcases List.mem_append.mp hf with hf | hf
    · exact hI f hf
    · exact zeros_in ms f hf
  refine closed_cell G hIn.inR hI.inR (fun e he => by unfold EG; rw [List.map_append]; exact List.mem_append_left _ he) (fun hy => eg_row0 hN G hy) (fun e he => ?_) hx hy
  unfold EG at he
  rw [List.map_append] at he
  rcases List.mem_append.mp he with he | he
  · exact .inl he
  · rw [zeros_edges hN] at he
    obtain ⟨a, b, d⟩ := e
    have := zero_mem he
    exact .inr ⟨this.1, this.2.1⟩
end K1
end
section
set_option maxRecDepth 100000
set_option maxHeartbeats 4000000
namespace K1
open PySem L2 K01
section
variable {P : Program} {w : World} {K : PySem.W.Frag} {mg : Str → Option Value} {base : Heap}
abbrev sLeast : Stmt := top 7
def spLeast (K : PySem.W.Frag) : Sp := fun vs H Q _ => ∃ (a : Addr) (B : Mat) (n : Nat) (ds : List Int), vs = [.ref a] ∧ MatAt K H a B ∧ Sized n B ∧ 1 ≤ n ∧ n ≤ 900 ∧ rowAt B 0 = ds.map some ∧
  ∀ H' p, Same H H' → SqT K H' p ((ds.drop 1).map fun i => V.int (-i)) → Q (.ref p) H'
theorem scLeast : FnScope ["bounds", "number"] ["bounds"] (defScope sLeast) := ⟨rfl, rfl, rfl, by decide +kernel, rfl, by decide +kernel, by decide +kernel⟩
theorem ok_least {f : Addr} {fd : FuncData} (F : Fun K "least_numbers" "least_numbers" sLeast f fd) (T : Bi mg) : FnOk P w K mg base CX0 1 f fd ["bounds"] (spLeast K) := by
  refine F.ok scLeast (fun vs H Q E h => ?_) (fun cdv A outer s H vs Q E hr h => ?_)
  · obtain ⟨_, _, _, _, rfl, _⟩ := h
    rfl
  · obtain ⟨a, B, n, ds, rfl, hB, hS, hn, hn9, hd, k⟩ := h
    refine ⟨_, pss_one (ps_ret (pe_callTy call_tuple_of (by rfl) T.tuple (by decide +kernel) (pa_cons (pe_lc (own := [("number", 1)]) (g := gName 1) rfl scLeast.nd (pi_tup (pe_slice sl_tupA (pe_ix ix_tup (pv 0) pe_int (fun _ _ => rfl)) (po_some pe_int) po_none)) (blkOk_by (N := ["bounds", "number"]) (sc := defScope sLeast) (by decide +kernel))
        (fun _ _ _ _ _ => pg_name (i := 1) scLeast.nd rfl (.inl rfl)) (fun _ _ _ _ _ => pts_nil) (fun _ _ _ _ _ => pe_un un_neg (pv 1))) pa_nil))), ?_⟩
    obtain ⟨xs, p, h1, h2, h3⟩ := hB.row hS (x := 0) (by omega)
    have dl : ds.length = n := by have := hS.rowAt (x := 0) (by omega); rw [hd, List.length_map] at this; exact this
    unfold RowAt at h3
    rw [hd, List.map_map] at h3
    have h3 : SqT K H p (ds.map V.int) := h3
    refine ⟨_, rfl, _, _, _, _, rfl, rfl, h1, at_of (j := 0) rfl h2, _, rfl, ?_⟩
    dsimp only [tNoPart]
    refine slA_it h3 fun u H1 s1 hu => ?_
    have e1 : cutV (ds.map V.int) (some 1) none = (ds.drop 1).map V.int := by rw [List.map_drop]; exact cut_drop _ 1
    rw [e1] at hu
    refine ⟨u, rfl, ⟨_, hu⟩, fun D hD => ?_⟩
    refine lc_it (walk_tup (K := K) (a := u) (xs := (ds.drop 1).map V.int)) (fun i H' => Same H1 H' ∧ H' D = some (.lst (((ds.drop 1).take i).map fun i => V.int (-i)))) ⟨Same.new hD, upd_same⟩ (fun i H' _ u => Same.tup u.1 hu) ?_ ?_
    · rintro i v Ha Hb hi ⟨q1, q2⟩ ⟨rfl, hv⟩
      obtain ⟨d, hdd, rfl⟩ := get_map hv
      rw [List.length_map, List.length_drop] at hi
      refine ⟨rfl, yes_ ⟨_, rfl, _, rfl, _, q2, ?_, Same.set q1 hD, ?_⟩⟩
      · rw [List.length_map, List.length_take]
        exact Nat.lt_of_le_of_lt (Nat.min_le_left _ _) (small1000 (by omega))
      · rw [upd_same, take_snoc hdd, List.map_append]; rfl
    · rintro H2 ⟨q1, q2⟩
      rw [List.length_map, List.take_length] at q2
      exact ⟨D, _, rfl, .inl ⟨SqL.of q2, fun l hl => k _ l ((s1.trans q1).trans (Same.new hl)) tup_at⟩⟩
abbrev sAre : Stmt := top 21
/-- a tuple of ints, or one that is not so long -/
def spAre (K : PySem.W.Frag) : Sp := fun vs H Q _ => ∃ (p : Addr) (xs : List Int) (m : Nat), vs = [.ref p, .int m] ∧ SqT K H p (xs.map V.int) ∧ xs.length ≤ 900 ∧ ∀ H', Same H H' → Q (.bl (decide (xs.length = m))) H'
theorem scAre : FnScope ["x", "many", "number"] ["x", "many"] (defScope sAre) := ⟨rfl, rfl, rfl, by decide +kernel, rfl, by decide +kernel, by decide +kernel⟩
theorem ok_are {f fW : Addr} {fd fdW : FuncData} (F : Fun K "are_numbers" "are_numbers" sAre f fd) (T : Bi mg) (hall : mg "all" = none) (FW : Fun K "is_whole" "is_whole" sWhole fW fdW) (bW : Binds K fdW ["x"] []) (mW : mg "is_whole" = some (.ref fW)) :
    FnOk P w K mg base CX0 2 f fd ["x", "many"] (spAre K) := by
  have GW : FnOk P w K mg base CX0 1 fW fdW ["x"] (spWhole K) := ok_whole FW T
  refine F.ok scAre (fun vs H Q E h => ?_) (fun cdv A outer s H vs Q E hr h => ?_)
  · obtain ⟨_, _, _, rfl, _⟩ := h
    rfl
  · obtain ⟨p, xs, m, rfl, hp, hx, k⟩ := h
    have hr1 : Room 1 _ := hr.mono (by decide)
    refine ⟨_, pss_one (ps_ret (pe_and (pe_callB call_isi (by rfl) T.isinstance (by decide +kernel) (pa_cons (pv 0) (pa_cons (pe_ty (n := "tuple") (by rfl) T.tuple (by decide +kernel)) pa_nil)))
      (pe_and (pe_cmpR op_eq (pe_callB call_len_seq (by rfl) T.len PySem.boot_len (pa_cons (pv 0) pa_nil)) (pv 1) (nomark _))
      (pe_one (pe_callB (cr_all rfl) (by rfl) hall (by decide +kernel) (pa_cons (pe_lc (own := [("number", 2)]) (g := gName 2) (te := tCall (spWhole K) [] E0 (tCons (tVar 2) tNil)) rfl scAre.nd (pi_tup (pv 0)) (blkOk_by (N := ["x", "many", "number"]) (sc := defScope sAre) (by decide +kernel))
        (fun _ _ _ _ _ => pg_name (i := 2) scAre.nd rfl (.inl rfl)) (fun _ _ _ _ _ => pts_nil) (fun _ _ _ _ _ => pe_call GW hr1 rfl mW FW.kp bW .nil pass0 (pa_cons (pv 2) pa_nil))) pa_nil)))))), ?_⟩
    refine ⟨_, rfl, _, _, _, _, true, rfl, .ty _, ty_sqt hp, kit_ty (by decide +kernel), _, rfl, iteT ?_⟩
    refine ⟨_, rfl, p, _, rfl, .inr hp, _, rfl, ?_⟩
    rw [List.length_map]
    by_cases e : xs.length = m
    · rw [decide_eq_true e] at k
      refine ⟨rfl, _, rfl, iteDT (by rw [e]) ?_⟩
      refine ⟨_, rfl, p, rfl, ⟨_, hp⟩, fun D hD => ?_⟩
      refine lc_it (walk_tup (K := K) (a := p) (xs := xs.map V.int)) (fun i H' => Same H H' ∧ H' D = some (.lst (((xs.take i).map fun _ => true).map V.bl))) ⟨Same.new hD, upd_same⟩ (fun i H' _ u => Same.tup u.1 hp) ?_ ?_
      · rintro i v Ha Hb hi ⟨q1, q2⟩ ⟨rfl, hv⟩
        obtain ⟨d, hdd, rfl⟩ := get_map hv
        rw [List.length_map] at hi
        refine ⟨rfl, yes_ ⟨_, rfl, .int d, rfl, .int d, _, q2, ?_, Same.set q1 hD, ?_⟩⟩
        · rw [List.length_map, List.length_map, List.length_take]
          exact Nat.lt_of_le_of_lt (Nat.min_le_left _ _) (small1000 (by omega))
        · rw [upd_same, take_snoc hdd, List.map_append, List.map_append]; rfl
      · rintro H2 ⟨q1, q2⟩
        refine ⟨D, _, rfl, SqL.of q2, ?_⟩
        rw [show (((xs.take (xs.map V.int).length).map fun _ => true).all id) = true from List.all_eq_true.mpr fun b hb => by obtain ⟨_, _, rfl⟩ := List.mem_map.mp hb; rfl]
        exact k _ q1
    · rw [decide_eq_false e] at k
      exact ⟨rfl, _, rfl, iteDF (fun q => e (by have := V.int.inj q; omega)) (k _ (Same.refl H))⟩
end
end K1
end
section
set_option maxRecDepth 100000
set_option maxHeartbeats 4000000
namespace K1
open PySem L2 K01
/-- a recording keeps to the bounds; its clock begins with zero -/
def Fits (n : Nat) (B : Mat) (cl : List Int) : Prop := ∀ i j d x y, i < n → j < n → cell B i j = some d → cl[i]? = some x → cl[j]? = some y → x - y ≤ d
section
variable {P : Program} {w : World} {K : PySem.W.Frag} {mg : Str → Option Value} {base : Heap}
abbrev sFits : Stmt := top 8
def spFits (K : PySem.W.Frag) : Sp := fun vs H Q _ => ∃ (a p : Addr) (B : Mat) (n : Nat) (xs : List Int), vs = [.ref a, .ref p] ∧ MatAt K H a B ∧ Sized n B ∧ n ≤ 900 ∧ SqT K H p (xs.map V.int) ∧ xs.length + 1 = n ∧
  ∀ b H', (b = true ↔ Fits n B (0 :: xs)) → Same H H' → Q (.bl b) H'
theorem scFits : FnScope ["bounds", "numbers", "clock", "here", "row", "there", "most"] ["bounds", "numbers"] (defScope sFits) := ⟨rfl, rfl, rfl, by decide +kernel, rfl, by decide +kernel, by decide +kernel⟩
theorem ok_fits {f : Addr} {fd : FuncData} (F : Fun K "fits" "fits" sFits f fd) (T : Bi mg) : FnOk P w K mg base CX0 1 f fd ["bounds", "numbers"] (spFits K) := by
  refine F.ok scFits (fun vs H Q E h => ?_) (fun cdv A outer s H vs Q E hr h => ?_)
  · obtain ⟨_, _, _, _, _, rfl, _⟩ := h
    rfl
  · obtain ⟨a, p, B, n, xs, rfl, hB, hS, hn, hp, hxl, k⟩ := h
    refine ⟨_, pss_cons (ps_set (i := 2) scFits.nd rfl (.inl rfl) (pe_op op_catT (pe_tup (pa_cons pe_int pa_nil)) (pv 1)))
      (pss_cons (ps_for PassesOwn.never rfl (RZ.pi_zipA (by rfl) T.zip (pa_cons (pv 2) (pa_cons (pv 0) pa_nil))) (pg_tup rfl (pgs_cons (pg_name (i := 3) scFits.nd rfl (.inl rfl)) (pgs_cons (pg_name (i := 4) scFits.nd rfl (.inl rfl)) pgs_nil)))
        (pss_one (ps_for PassesOwn.never rfl (RZ.pi_zipA (by rfl) T.zip (pa_cons (pv 2) (pa_cons (pv 4) pa_nil))) (pg_tup rfl (pgs_cons (pg_name (i := 5) scFits.nd rfl (.inl rfl)) (pgs_cons (pg_name (i := 6) scFits.nd rfl (.inl rfl)) pgs_nil)))
          (pss_one (ps_if (PW.pt (pw_and (pt_cmpR op_notN (pv 6) pe_non (nomark _)) (pw_and1 (pt_cmpR op_gt (pe_op op_sub (pv 3) (pv 5)) (pv 6) (nomark _))))) (pss_one (ps_ret pe_bl)) pss_nil)))))
      (pss_one (ps_ret pe_bl))), ?_⟩
    refine ⟨by show 1 ≤ sizeLine; decide, fun t0 ht0 => ⟨_, rfl, ?_⟩⟩
    have s0 : Same H (upd H t0 (.tup [.int 0])) := Same.new ht0
    refine catT_it tup_at (Same.tup s0 hp) (by simp) (by rw [List.length_map]; exact Nat.le_of_lt (small1000 (show 1 + xs.length ≤ 1000 by omega))) fun c H1 s1 hc => ?_
    have hc : SqT K H1 c ((0 :: xs).map V.int) := hc
    have s01 := s0.trans s1
    have hB1 := hB.same s01
    clear s0 hB hp
    dsimp only [gName]
    obtain ⟨as, al, ha, hrow⟩ := hB1
    have cl : (0 :: xs).length = n := by simpa using hxl
    have hll : ((0 :: xs).map V.int).length = (as.map V.ref).length := by rw [List.length_map, List.length_map, cl, al, hS.1]
    refine ⟨_, rfl, _, rfl, c, a, _, _, rfl, .inr ⟨hc, ha, ?_⟩⟩
    refine for_it (walk_zipT (K := K) (a := c) (b := a) hll) (fun i σ H' => (∃ v3 v4 v5 v6 : Option V, σ = [some (.ref a), some (.ref p), some (.ref c), v3, v4, v5, v6]) ∧ Same H1 H' ∧ ∀ i', i' < i → ∀ j d x y, i' < n → j < n → cell B i' j = some d → (0 :: xs)[i']? = some x → (0 :: xs)[j]? = some y → x - y ≤ d)
      ⟨⟨_, _, _, _, rfl⟩, Same.refl _, fun i' h => absurd h (Nat.not_lt_zero _)⟩ (fun i σ H' _ u => ⟨Same.tup u.2.1 hc, Same.tup u.2.1 ha⟩) ?_ ?_
    · rintro i v σ H2 H3 hi ⟨⟨v3, v4, v5, v6, rfl⟩, s2, old⟩ ⟨t, x, y, rfl, ht, rfl, hx, hy⟩
      obtain ⟨x, hxx, rfl⟩ := get_map hx
      obtain ⟨r, hr', rfl⟩ := get_map hy
      rw [List.length_map, cl] at hi
      have s3 : Same H1 (upd H2 t (.tup [.int x, .ref r])) := s2.trans (Same.new ht)
      refine ⟨t, _, rfl, tup_at, rfl, _, _, rfl, _, _, rfl, rfl, ?_⟩
      dsimp only [gName]
      generalize upd H2 t (.tup [.int x, .ref r]) = H4 at s3
      obtain ⟨rw0, hrw, hrl⟩ := hS.row hi
      have hR := Same.tup s3 (hrow i r rw0 hr' hrw)
      have hcR := Same.tup s3 hc
      have hl2 : ((0 :: xs).map V.int).length = (rw0.map cV).length := by rw [List.length_map, List.length_map, cl, hrl]
      have hcell : ∀ j d, rw0[j]? = some d → cell B i j = d := fun j d e => by unfold cell; rw [rowAt_of hrw, e]; rfl
      refine ⟨_, rfl, _, rfl, c, r, _, _, rfl, .inr ⟨hcR, hR, ?_⟩⟩
      refine for_it (walk_zipT (K := K) (a := c) (b := r) hl2) (fun j σ H' => (∃ v5 v6 : Option V, σ = [some (.ref a), some (.ref p), some (.ref c), some (.int x), some (.ref r), v5, v6]) ∧ Same H1 H' ∧ ∀ j', j' < j → ∀ d y, j' < n → cell B i j' = some d → (0 :: xs)[j']? = some y → x - y ≤ d)
        ⟨⟨_, _, rfl⟩, s3, fun j' h => absurd h (Nat.not_lt_zero _)⟩ (fun j σ H' _ u => ⟨Same.tup u.2.1 hc, Same.tup u.2.1 (hrow i r rw0 hr' hrw)⟩) ?_ ?_
      · rintro j v σ H5 H6 hj ⟨⟨v5, v6, rfl⟩, s5, old2⟩ ⟨t2, y, z, rfl, ht2, rfl, hy, hz⟩
        obtain ⟨y, hyy, rfl⟩ := get_map hy
        obtain ⟨m, hm, rfl⟩ := get_map hz
        clear hy
        rw [List.length_map, cl] at hj
        have s6 : Same H1 (upd H5 t2 (.tup [.int y, cV m])) := s5.trans (Same.new ht2)
        refine ⟨t2, _, rfl, tup_at, rfl, _, _, rfl, _, _, rfl, rfl, ?_⟩
        dsimp only [gName]
        have hcm := hcell j m hm
        refine ⟨_, rfl, rfl, _, rfl, ?_⟩
        have go : (∀ d, m = some d → x - y ≤ d) → ∀ j', j' < j + 1 → ∀ d y, j' < n → cell B i j' = some d → (0 :: xs)[j']? = some y → x - y ≤ d := by
          intro h j' hj' d y' hjn hd hy'
          rcases Nat.lt_succ_iff_lt_or_eq.mp hj' with h1 | rfl
          · exact old2 j' h1 d y' hjn hd hy'
          · rw [hyy] at hy'
            cases hy'
            exact h d (hcm.symm.trans hd)
        cases m with
        | none => exact iteNS rfl ⟨⟨_, _, rfl⟩, s6, go (fun d e => nomatch e)⟩
        | some d =>
          refine iteNF (fun e => nomatch e) ⟨_, rfl, _, rfl, _, _, rfl, rfl, _, rfl, _, _, rfl, rfl, _, rfl, ?_⟩
          by_cases g : x - y > d
          · refine iteDT g (k false _ ⟨(fun e => nomatch e), fun hF => absurd (hF i j d x y hi hj hcm hxx hyy) (by omega)⟩ (s01.trans s6))
          · refine iteDF g ⟨⟨_, _, rfl⟩, s6, go (fun d' e => by cases e; omega)⟩
      · rintro σ H5 ⟨⟨v5, v6, rfl⟩, s5, old2⟩
        rw [List.length_map, cl] at old2
        refine ⟨⟨_, _, _, _, rfl⟩, s5, fun i' hi' j d x' y hin hjn hd hx' hyy => ?_⟩
        rcases Nat.lt_succ_iff_lt_or_eq.mp hi' with h1 | rfl
        · exact old i' h1 j d x' y hin hjn hd hx' hyy
        · rw [hxx] at hx'
          cases hx'
          exact old2 j hjn d y hjn hd hyy
    · rintro σ H2 ⟨⟨v3, v4, v5, v6, rfl⟩, s2, old⟩
      rw [List.length_map, cl] at old
      exact k true _ ⟨fun _ i j d x y hi hj => old i hi j d x y hi hj, fun _ => rfl⟩ (s01.trans s2)
end
end K1
end
section
set_option maxRecDepth 100000
set_option maxHeartbeats 4000000
namespace K1
open PySem L2 K01
/-- one cell, told as a fact -/
def tightC (ns : List Str) (B : Mat) (i j : Nat) : List Fact := match cell B i j with
  | some d => if i ≠ j ∧ (i ≠ 0 ∨ d ≠ 0) then [(markAt ns i, markAt ns j, d)] else []
  | none => []
def tightR (ns : List Str) (B : Mat) (n i : Nat) : List Fact := (List.range n).flatMap (tightC ns B i)
/-- all greatest differences, row by row -/
def tightL (ns : List Str) (B : Mat) (n : Nat) : List Fact := (List.range n).flatMap (tightR ns B n)
theorem flat_snoc {α : Type} (f : Nat → List α) (k : Nat) : (List.range (k + 1)).flatMap f = (List.range k).flatMap f ++ f k := by
  rw [List.range_succ, List.flatMap_append]; simp
theorem markAt_get {ns : List Str} {i : Nat} {z : Str} (h : ns[i]? = some z) : markAt ns i = z := by unfold markAt; rw [h]; rfl
section
variable {P : Program} {w : World} {K : PySem.W.Frag} {mg : Str → Option Value} {base : Heap}
abbrev sTF : Stmt := top 40
def spTF (K : PySem.W.Frag) : Sp := fun vs H Q _ => ∃ (a b : Addr) (ms : List Str) (B : Mat), vs = [.ref a, .ref b] ∧ strsT K H a ms ∧ ms.length ≤ 28 ∧ (nodes ms).Nodup ∧ MatAt K H b B ∧ Sized (ms.length + 1) B ∧
  ∀ H' l ps, Same H H' → H l = none → H' l = some (.lst (ps.map V.ref)) → TupsAt H' ps ((tightL (nodes ms) B (ms.length + 1)).map factV) → ps.length ≤ 900 → Q (.ref l) H'
abbrev nsTF : List Str := ["marks", "bounds", "names", "facts", "x", "row", "y", "number"]
theorem scTF : FnScope nsTF ["marks", "bounds"] (defScope sTF) := ⟨rfl, rfl, rfl, by decide +kernel, rfl, by decide +kernel, by decide +kernel⟩
theorem ok_tf {f fN : Addr} {fd fdN : FuncData} (F : Fun K "tight_facts" "tight_facts" sTF f fd) (T : Bi mg) (FN : Fun K "names_of" "names_of" sNames fN fdN) (bN : Binds K fdN ["marks"] []) (mN : mg "names_of" = some (.ref fN)) :
    FnOk P w K mg base CX0 2 f fd ["marks", "bounds"] (spTF K) := by
  have GN : FnOk P w K mg base CX0 1 fN fdN ["marks"] (spNames K) := ok_names FN
  refine F.ok scTF (fun vs H Q E h => ?_) (fun cdv A outer s H vs Q E hr h => ?_)
  · obtain ⟨_, _, _, _, rfl, _⟩ := h
    rfl
  · obtain ⟨a, b, ms, B, rfl, hm, hml, hNd, hB, hS, k⟩ := h
    have hr1 : Room 1 _ := hr.mono (by decide)
    refine ⟨_, pss_cons (ps_set (i := 2) scTF.nd rfl (.inl rfl) (pe_call GN hr1 rfl mN FN.kp bN .nil pass0 (pa_cons (pv 0) pa_nil)))
      (pss_cons (ps_set (i := 3) scTF.nd rfl (.inl rfl) (pe_lst pa_nil))
      (pss_cons (ps_for PassesOwn.never rfl (RZ.pi_zipA (by rfl) T.zip (pa_cons (pv 2) (pa_cons (pv 1) pa_nil))) (pg_tup rfl (pgs_cons (pg_name (i := 4) scTF.nd rfl (.inl rfl)) (pgs_cons (pg_name (i := 5) scTF.nd rfl (.inl rfl)) pgs_nil)))
        (pss_one (ps_for PassesOwn.never rfl (RZ.pi_zipA (by rfl) T.zip (pa_cons (pv 2) (pa_cons (pv 5) pa_nil))) (pg_tup rfl (pgs_cons (pg_name (i := 6) scTF.nd rfl (.inl rfl)) (pgs_cons (pg_name (i := 7) scTF.nd rfl (.inl rfl)) pgs_nil)))
          (pss_one (ps_if (PW.pt (pw_and (pt_cmpR op_ne (pv 4) (pv 6) (nomark _)) (pw_and (pt_cmpR op_notN (pv 7) pe_non (nomark _)) (pw_and1 (PW.pt (pw_or (pt_cmpR op_ne (pv 4) pe_str (nomark _)) (pw_or1 (pt_cmpR op_ne (pv 7) pe_int (nomark _)))))))))
            (pss_one (ps_expr (pe_bm PySem.F.plainAttrs_list PySem.F.slot_list_append PySem.F.type_list_append mt_append (pv 3) (pa_cons (pe_tup (pa_cons (pv 4) (pa_cons (pv 6) (pa_cons (pv 7) pa_nil)))) pa_nil)))) pss_nil)))))
      (pss_one (ps_ret (pv 3))))), ?_⟩
    refine ⟨_, rfl, a, ms, rfl, hm, by omega, fun H1 c s1 hc => ⟨Nat.zero_le _, fun l hl => ?_⟩⟩
    have hc : SqT K H1 c ((nodes ms).map V.str) := hc
    have s2 : Same H1 (upd H1 l (.lst [])) := Same.new hl
    have hB1 := hB.same s1
    dsimp only [gName]
    obtain ⟨as, al, ha, hrow⟩ := hB1
    have cl : (nodes ms).length = ms.length + 1 := rfl
    generalize hns : nodes ms = ns at hc cl k hNd
    have hz0 : ns[0]? = some ("zero" : Str) := by rw [← hns]; rfl
    generalize hn : ms.length + 1 = n at cl hS k
    have hn29 : n ≤ 29 := by omega
    have hll : (ns.map V.str).length = (as.map V.ref).length := by rw [List.length_map, List.length_map, cl, al, hS.1]
    refine ⟨_, rfl, _, rfl, c, b, _, _, rfl, .inr ⟨Same.tup s2 hc, Same.tup s2 ha, ?_⟩⟩
    refine for_it (walk_zipT (K := K) (a := c) (b := b) hll) (fun i σ H' => (∃ v3 v4 v5 v6 : Option V, σ = [some (.ref a), some (.ref b), some (.ref c), some (.ref l), v3, v4, v5, v6]) ∧ Same H1 H' ∧ ∃ ps : List Addr, H' l = some (.lst (ps.map V.ref)) ∧ TupsAt H' ps (((List.range i).flatMap (tightR ns B n)).map factV) ∧ ps.length ≤ i * 29)
      ⟨⟨_, _, _, _, rfl⟩, s2, [], upd_same, TupsAt.nil, Nat.zero_le _⟩ (fun i σ H' _ u => ⟨Same.tup u.2.1 hc, Same.tup u.2.1 ha⟩) ?_ ?_
    · rintro i v σ H2 H3 hi ⟨⟨v3, v4, v5, v6, rfl⟩, s3, ps, hps, hpT, hpl⟩ ⟨t, x, y, rfl, ht, rfl, hx, hy⟩
      obtain ⟨x, hxx, rfl⟩ := get_map hx
      obtain ⟨r, hr', rfl⟩ := get_map hy
      rw [List.length_map, cl] at hi
      have st : Same H2 (upd H2 t (.tup [.str x, .ref r])) := Same.new ht
      refine ⟨t, _, rfl, tup_at, rfl, _, _, rfl, _, _, rfl, rfl, ?_⟩
      dsimp only [gName]
      have s4 := s3.trans st
      replace hps := st _ _ hps
      replace hpT := hpT.same st
      generalize upd H2 t (.tup [.str x, .ref r]) = H4 at s4 hps hpT
      clear st
      obtain ⟨rw0, hrw, hrl⟩ := hS.row hi
      have hl2 : (ns.map V.str).length = (rw0.map cV).length := by rw [List.length_map, List.length_map, cl, hrl]
      have hcell : ∀ j d, rw0[j]? = some d → cell B i j = d := fun j d e => by unfold cell; rw [rowAt_of hrw, e]; rfl
      refine ⟨_, rfl, _, rfl, c, r, _, _, rfl, .inr ⟨Same.tup s4 hc, Same.tup s4 (hrow i r rw0 hr' hrw), ?_⟩⟩
      refine for_it (walk_zipT (K := K) (a := c) (b := r) hl2) (fun j σ H' => (∃ v5 v6 : Option V, σ = [some (.ref a), some (.ref b), some (.ref c), some (.ref l), some (.str x), some (.ref r), v5, v6]) ∧ Same H1 H' ∧ ∃ ps : List Addr, H' l = some (.lst (ps.map V.ref)) ∧ TupsAt H' ps (((List.range i).flatMap (tightR ns B n) ++ (List.range j).flatMap (tightC ns B i)).map factV) ∧ ps.length ≤ i * 29 + j)
        ⟨⟨_, _, rfl⟩, s4, ps, hps, by simpa using hpT, hpl⟩ (fun j σ H' _ u => ⟨Same.tup u.2.1 hc, Same.tup u.2.1 (hrow i r rw0 hr' hrw)⟩) ?_ ?_
      · rintro j v σ H5 H6 hj ⟨⟨v5, v6, rfl⟩, s5, ps, hps, hpT, hpl⟩ ⟨t2, y, z, rfl, ht2, rfl, hy, hz⟩
        obtain ⟨y, hyy, rfl⟩ := get_map hy
        obtain ⟨m, hm', rfl⟩ := get_map hz
        rw [List.length_map, cl] at hj
        have st : Same H5 (upd H5 t2 (.tup [.str y, cV m])) := Same.new ht2
        refine ⟨t2, _, rfl, tup_at, rfl, _, _, rfl, _, _, rfl, rfl, ?_⟩
        dsimp only [gName]
        have s6 := s5.trans st
        replace hps := st _ _ hps
        replace hpT := hpT.same st
        generalize upd H5 t2 (.tup [.str y, cV m]) = H7 at s6 hps hpT
        clear st
        have hcm := hcell j m hm'
        have hin : i * 29 + j < 900 := by
          have : i * 29 ≤ 28 * 29 := Nat.mul_le_mul_right 29 (by omega)
          omega
        have skip : tightC ns B i j = [] → (∃ v5 v6 : Option V, [some (V.ref a), some (.ref b), some (.ref c), some (.ref l), some (.str x), some (.ref r), some (.str y), some (cV m)] = [some (V.ref a), some (.ref b), some (.ref c), some (.ref l), some (.str x), some (.ref r), v5, v6]) ∧ Same H1 H7 ∧ ∃ ps : List Addr, H7 l = some (.lst (ps.map V.ref)) ∧ TupsAt H7 ps (((List.range i).flatMap (tightR ns B n) ++ (List.range (j + 1)).flatMap (tightC ns B i)).map factV) ∧ ps.length ≤ i * 29 + (j + 1) := fun e =>
          ⟨⟨_, _, rfl⟩, s6, ps, hps, by rw [flat_snoc, e, List.append_nil]; exact hpT, by omega⟩
        refine ⟨_, rfl, _, rfl, rfl, _, rfl, ?_⟩
        by_cases e1 : i = j
        · subst e1
          rw [hxx] at hyy
          cases hyy
          exact iteNS rfl (skip (by unfold tightC; split <;> simp))
        · have hxy : x ≠ y := fun e => e1 (nodup_get hNd hxx (e ▸ hyy))
          refine iteNF (fun e => hxy (V.str.inj e)) ⟨_, rfl, rfl, _, rfl, ?_⟩
          cases m with
          | none => exact iteNS rfl (skip (by unfold tightC; rw [hcm]))
          | some d =>
            have hx0 : x = "zero" ↔ i = 0 := ⟨fun e => nodup_get hNd (by rw [e] at hxx; exact hxx) hz0, fun e => by rw [e, hz0] at hxx; exact (Option.some.inj hxx).symm⟩
            have take : (i ≠ 0 ∨ d ≠ 0) → tightC ns B i j = [(x, y, d)] := fun h => by
              unfold tightC; rw [hcm]
              simp only []
              rw [if_pos ⟨e1, h⟩, markAt_get hxx, markAt_get hyy]
            have put : (i ≠ 0 ∨ d ≠ 0) → ∀ t3, H7 t3 = none → (∃ v5 v6 : Option V, [some (V.ref a), some (.ref b), some (.ref c), some (.ref l), some (.str x), some (.ref r), some (.str y), some (cV (some d))] = [some (V.ref a), some (.ref b), some (.ref c), some (.ref l), some (.str x), some (.ref r), v5, v6]) ∧
                Same H1 (upd (upd H7 t3 (.tup [.str x, .str y, .int d])) l (.lst (ps.map V.ref ++ [.ref t3]))) ∧ ∃ qs : List Addr, (upd (upd H7 t3 (.tup [.str x, .str y, .int d])) l (.lst (ps.map V.ref ++ [.ref t3]))) l = some (.lst (qs.map V.ref)) ∧
                TupsAt (upd (upd H7 t3 (.tup [.str x, .str y, .int d])) l (.lst (ps.map V.ref ++ [.ref t3]))) qs (((List.range i).flatMap (tightR ns B n) ++ (List.range (j + 1)).flatMap (tightC ns B i)).map factV) ∧ qs.length ≤ i * 29 + (j + 1) := fun h t3 ht3 => by
              have nl : t3 ≠ l := fun e => by rw [e, hps] at ht3; cases ht3
              refine ⟨⟨_, _, rfl⟩, Same.set (s6.trans (Same.new ht3)) hl, ps ++ [t3], by rw [upd_same, List.map_append]; rfl, ?_, by rw [List.length_append, List.length_singleton]; omega⟩
              rw [flat_snoc, take h, ← List.append_assoc, List.map_append (f := factV) (l₂ := [(x, y, d)])]
              exact TupsAt.upd (xs := ps.map V.ref) ((upd_ne nl.symm).trans hps) ((hpT.same (Same.new ht3)).snoc upd_same)
            refine iteNF (fun e => nomatch e) ⟨_, rfl, rfl, _, rfl, ?_⟩
            by_cases e2 : i = 0
            · refine iteNS (by rw [hx0.mpr e2]) ⟨_, rfl, rfl, _, rfl, ?_⟩
              by_cases e3 : d = 0
              · exact iteNS (by rw [e3]; rfl) (skip (by unfold tightC; rw [hcm]; simp [e2, e3]))
              · refine iteNF (fun e => e3 (V.int.inj e)) ⟨_, rfl, .inl ⟨rfl, _, SqL.of hps⟩, _, rfl, _, rfl, _, rfl, by show 3 ≤ sizeLine; decide, fun t3 ht3 => ?_⟩
                exact ⟨l, _, _, rfl, rfl, Same.new ht3 _ _ hps, by rw [List.length_map]; exact small1000 (by omega), put (.inr e3) t3 ht3⟩
            · refine iteNF (fun e => e2 (hx0.mp (V.str.inj e))) ⟨_, rfl, .inl ⟨rfl, _, SqL.of hps⟩, _, rfl, _, rfl, _, rfl, by show 3 ≤ sizeLine; decide, fun t3 ht3 => ?_⟩
              exact ⟨l, _, _, rfl, rfl, Same.new ht3 _ _ hps, by rw [List.length_map]; exact small1000 (by omega), put (.inl e2) t3 ht3⟩
      · rintro σ H5 ⟨⟨v5, v6, rfl⟩, s5, ps, hps, hpT, hpl⟩
        rw [List.length_map, cl] at hpT hpl
        exact ⟨⟨_, _, _, _, rfl⟩, s5, ps, hps, by rw [flat_snoc]; exact hpT, by omega⟩
    · rintro σ H2 ⟨⟨v3, v4, v5, v6, rfl⟩, s3, ps, hps, hpT, hpl⟩
      rw [List.length_map, cl] at hpT hpl
      exact ⟨_, rfl, k _ l ps (s1.trans s3) (s1.free hl) hps hpT (by omega)⟩
end
end K1
end
section
set_option maxRecDepth 100000
set_option maxHeartbeats 4000000
namespace K1
open PySem L2 K01
/-- a statement that is never come to -/
theorem ps_dead {X : Cx} {st : Stmt} : PS X st (fun _ _ _ => False) := ⟨fun _ _ _ _ _ _ h => h.elim⟩
/-- a made sheet -/
structure ShI (K : PySem.W.Frag) (H : Hp) (C x a b c p : Addr) (ms ts : List Str) (MS : List Fact) (B : Mat) : Prop where
  at_ : ∃ dx, H x = some (.ins C dx (f5 a b c p))
  ha : strsT K H a ms
  hb : strsT K H b ts
  hc : TTAt K H c (MS.map factV)
  hp : MatAt K H p B
/-- what a made sheet knows -/
structure ShG (ms : List Str) (MS : List Fact) (B : Mat) : Prop where
  ml : ms.length ≤ 28
  fl : MS.length ≤ 100
  nd : (nodes ms).Nodup
  inn : InN ms MS
  good : Good (ms.length + 1) (EG ms MS) B
theorem ShI.same {K : PySem.W.Frag} {H H' : Hp} {C x a b c p : Addr} {ms ts : List Str} {MS : List Fact} {B : Mat} (e : Same H H') (h : ShI K H C x a b c p ms ts MS B) : ShI K H' C x a b c p ms ts MS B := by
  obtain ⟨dx, h1⟩ := h.at_
  exact ⟨⟨dx, e _ _ h1⟩, Same.tup e h.ha, Same.tup e h.hb, h.hc.same e, h.hp.same e⟩
theorem look5 {a b c p : Addr} {f : Str} (h : f ≠ "marks" ∧ f ≠ "takes" ∧ f ≠ "facts" ∧ f ≠ "_limits" ∧ f ≠ "bounds") : List.lookup f (f5 a b c p) = none := by
  obtain ⟨h1, h2, h3, h4, h5⟩ := h
  have e1 : (f == ("marks" : Str)) = false := beq_eq_false_iff_ne.mpr h1
  have e2 : (f == ("takes" : Str)) = false := beq_eq_false_iff_ne.mpr h2
  have e3 : (f == ("facts" : Str)) = false := beq_eq_false_iff_ne.mpr h3
  have e4 : (f == ("_limits" : Str)) = false := beq_eq_false_iff_ne.mpr h4
  have e5 : (f == ("bounds" : Str)) = false := beq_eq_false_iff_ne.mpr h5
  simp [List.lookup, e1, e2, e3, e4, e5]
theorem look_b {u v x y z : V} {r : List (Str × V)} : List.lookup ("bounds" : Str) (("marks", u) :: ("takes", v) :: ("facts", x) :: ("_limits", y) :: ("bounds", z) :: r) = some z := by
  have h1 : (("bounds" : Str) == "marks") = false := by decide +kernel
  have h2 : (("bounds" : Str) == "takes") = false := by decide +kernel
  have h3 : (("bounds" : Str) == "facts") = false := by decide +kernel
  have h4 : (("bounds" : Str) == "_limits") = false := by decide +kernel
  simp [List.lookup, h1, h2, h3, h4]
section
variable {P : Program} {w : World} {K : PySem.W.Frag} {mg : Str → Option Value} {base : Heap}
/-! ### the place of a name -/
abbrev sSpot : Stmt := inClass (top 47) 2
def spSpot (K : PySem.W.Frag) (C : Addr) : Sp := fun vs H Q _ => ∃ (x a b c p : Addr) (ms ts : List Str) (MS : List Fact) (B : Mat) (z : Str), vs = [.ref x, .str z] ∧ ShI K H C x a b c p ms ts MS B ∧ ShG ms MS B ∧ z ∈ nodes ms ∧ ∀ H', Same H H' → Q (.int (ix ms z : Nat)) H'
theorem scSpot : FnScope ["self", "name", "spot", "known"] ["self", "name"] (defScope sSpot) := ⟨rfl, rfl, rfl, by decide +kernel, rfl, by decide +kernel, by decide +kernel⟩
theorem ok_spot {f fN C : Addr} {fd fdN : FuncData} (F : Fun K "spot" "Sheet.spot" sSpot f fd) (T : Bi mg) (S : ShT K C) (FN : Fun K "names_of" "names_of" sNames fN fdN) (bN : Binds K fdN ["marks"] []) (mN : mg "names_of" = some (.ref fN)) :
    FnOk P w K mg base CX0 2 f fd ["self", "name"] (spSpot K C) := by
  have GN : FnOk P w K mg base CX0 1 fN fdN ["marks"] (spNames K) := ok_names FN
  refine F.ok scSpot (fun vs H Q E h => ?_) (fun cdv A outer s H vs Q E hr h => ?_)
  · obtain ⟨_, _, _, _, _, _, _, _, _, _, rfl, _⟩ := h
    rfl
  · obtain ⟨x, a, b, c, p, ms, ts, MS, B, z, rfl, hI, hG, hz, k⟩ := h
    refine ⟨_, pss_cons (ps_for PassesOwn.never rfl (pi_enumT (by rfl) T.enumerate (pa_cons (pe_call GN hr rfl mN FN.kp bN .nil pass0 (pa_cons (pe_fld (pv 0) rfl) pa_nil)) pa_nil)) (pg_tup rfl (pgs_cons (pg_name (i := 2) scSpot.nd rfl (.inl rfl)) (pgs_cons (pg_name (i := 3) scSpot.nd rfl (.inl rfl)) pgs_nil)))
        (pss_one (ps_if (pt_cmpR op_eq (pv 3) (pv 1) (nomark _)) (pss_one (ps_ret (pv 2))) pss_nil))) (pss_one ps_dead), ?_⟩
    obtain ⟨dx, hx⟩ := hI.at_
    have hml := hG.ml
    refine ⟨_, rfl, x, C, dx, _, _, rfl, hx, S.cl, S.nm, look_m, ?_⟩
    refine ⟨a, ms, rfl, hI.ha, by omega, fun H1 u s1 hu => ?_⟩
    have hu : SqT K H1 u ((nodes ms).map V.str) := hu
    refine ⟨u, _, rfl, hu, for_it (walk_enumT (K := K) (a := u)) (fun i σ H' => (∃ v1 v2 : Option V, σ = [some (.ref x), some (.str z), v1, v2]) ∧ Same H1 H' ∧ i ≤ ix ms z)
      ⟨⟨_, _, rfl⟩, Same.refl _, Nat.zero_le _⟩ (fun i σ H' _ q => Same.tup q.2.1 hu) ?_ ?_⟩
    · rintro i v σ H2 H3 hi ⟨⟨v1, v2, rfl⟩, s2, old⟩ ⟨t, y, y2, rfl, ht, rfl, hy, hy2⟩
      obtain ⟨n, hn, rfl⟩ := get_map hy2
      cases hy
      have s3 : Same H1 (upd H2 t (.tup [.int (i : Nat), .str n])) := s2.trans (Same.new ht)
      refine ⟨t, _, rfl, tup_at, rfl, _, _, rfl, _, _, rfl, rfl, ?_⟩
      refine ⟨_, rfl, _, rfl, rfl, _, rfl, ?_⟩
      have hg := ix_get hz
      by_cases e : n = z
      · refine iteDT (by rw [e]) ⟨_, rfl, ?_⟩
        have : i = ix ms z := nodup_get hG.nd (by rw [e] at hn; exact hn) hg
        rw [this]
        exact k _ (s1.trans (by rw [this] at s3; exact s3))
      · refine iteDF (fun q => e (V.str.inj q)) ⟨⟨_, _, rfl⟩, s3, ?_⟩
        rcases Nat.lt_or_eq_of_le old with h | h
        · exact h
        · rw [← h, hn] at hg
          exact absurd (Option.some.inj hg) e
    · rintro σ H2 ⟨⟨v1, v2, rfl⟩, s2, old⟩
      rw [List.length_map] at old
      have := ix_lt hz
      have hl : (nodes ms).length = ms.length + 1 := rfl
      exact absurd old (by omega)
/-! ### x, y asked -/
abbrev sGet : Stmt := inClass (top 47) 3
def spGet (K : PySem.W.Frag) (C : Addr) : Sp := fun vs H Q _ => ∃ (x t a b c p : Addr) (ms ts : List Str) (MS : List Fact) (B : Mat) (u v : Str), vs = [.ref x, .ref t] ∧ ShI K H C x a b c p ms ts MS B ∧ ShG ms MS B ∧ SqT K H t [.str u, .str v] ∧ u ∈ nodes ms ∧ v ∈ nodes ms ∧ ∀ H', Same H H' → Q (cV (cell B (ix ms u) (ix ms v))) H'
theorem scGet : FnScope ["self", "at", "x", "y", "one"] ["self", "at"] (defScope sGet) := ⟨rfl, rfl, rfl, by decide +kernel, rfl, by decide +kernel, by decide +kernel⟩
theorem ok_get {f fS C : Addr} {fd fdS : FuncData} (F : Fun K "__getitem__" "Sheet.__getitem__" sGet f fd) (S : ShT K C) (mS : Meth K C "spot" fS) (bS : Binds K fdS ["self", "name"] []) (GS : FnOk P w K mg base CX0 2 fS fdS ["self", "name"] (spSpot K C)) :
    FnOk P w K mg base CX0 3 f fd ["self", "at"] (spGet K C) := by
  refine F.ok scGet (fun vs H Q E h => ?_) (fun cdv A outer s H vs Q E hr h => ?_)
  · obtain ⟨_, _, _, _, _, _, _, _, _, _, _, _, rfl, _⟩ := h
    rfl
  · obtain ⟨x, t, a, b, c, p, ms, ts, MS, B, u, v, rfl, hI, hG, ht, hu, hv, k⟩ := h
    refine ⟨_, pss_cons (ps_asg (pv 1) (pg_tup rfl (pgs_cons (pg_name (i := 2) scGet.nd rfl (.inl rfl)) (pgs_cons (pg_name (i := 3) scGet.nd rfl (.inl rfl)) pgs_nil))))
      (pss_cons (ps_set (i := 4) scGet.nd rfl (.inl rfl) (pe_meth (pv 0) S.cl mS GS hr bS .nil pass0 (pa_cons (pv 2) pa_nil)))
      (pss_one (ps_ret (pe_ix ix_tup (pe_ix ix_tup (pe_fld (pv 0) rfl) (pv 4) (fun _ _ => rfl)) (pe_meth (pv 0) S.cl mS GS hr bS .nil pass0 (pa_cons (pv 3) pa_nil)) (fun _ _ => rfl))))), ?_⟩
    have ns : ∀ {a b c p : Addr}, List.lookup ("spot" : Str) (f5 a b c p) = none := look5 (by decide +kernel)
    obtain ⟨dx, hx⟩ := hI.at_
    refine ⟨_, rfl, t, _, rfl, ht, rfl, _, _, rfl, _, _, rfl, rfl, ?_⟩
    refine ⟨_, rfl, x, dx, _, rfl, hx, ns, _, rfl, ?_⟩
    refine ⟨x, a, b, c, p, ms, ts, MS, B, u, rfl, hI, hG, hu, fun H1 s1 => ?_⟩
    have hI1 := hI.same s1
    have hx1 := s1 _ _ hx
    obtain ⟨xs, r, h1, h2, h3⟩ := hI1.hp.row hG.good.sized (ix_lt hu)
    refine ⟨_, rfl, x, C, dx, _, _, rfl, hx1, S.cl, S.nb, look_b, _, rfl, _, _, _, _, rfl, rfl, h1, atI_nat h2, ?_⟩
    refine ⟨_, rfl, x, dx, _, rfl, hx1, ns, _, rfl, ?_⟩
    refine ⟨x, a, b, c, p, ms, ts, MS, B, v, rfl, hI1, hG, hv, fun H2 s2 => ?_⟩
    exact ⟨_, _, _, _, rfl, rfl, Same.tup s2 h3, atI_nat (row_cell hG.good.sized (ix_lt hu) (ix_lt hv)), k _ (s1.trans s2)⟩
end
end K1
end
section
set_option maxRecDepth 100000
set_option maxHeartbeats 4000000
namespace K1
open PySem L2 K01
section
variable {P : Program} {w : World} {K : PySem.W.Frag} {mg : Str → Option Value} {base : Heap}
theorem nodes_comm {ms : List Str} {MS : List Fact} : EG ms MS = (MS ++ zeros ms).map (eF ms) := rfl
/-! ### the chain of a pair -/
abbrev sCh : Stmt := inClass (top 47) 5
def spCh (K : PySem.W.Frag) (C : Addr) : Sp := fun vs H Q _ => ∃ (x a b c p : Addr) (ms ts : List Str) (MS : List Fact) (B : Mat) (u v : Str), vs = [.ref x, .str u, .str v] ∧ ShI K H C x a b c p ms ts MS B ∧ ShG ms MS B ∧ u ∈ nodes ms ∧ v ∈ nodes ms ∧
  (cell B (ix ms u) (ix ms v) = none → ∀ H', Same H H' → Q .non H') ∧
  (∀ d, cell B (ix ms u) (ix ms v) = some d → ∀ H' l qs CH, Same H H' → H l = none → (u = v → qs = []) → H' l = some (.lst (qs.map V.ref)) → qs.length ≤ 2000 → TupsAt H' qs (CH.map factV) → isPath (MS ++ zeros ms) u v d CH → Q (.ref l) H')
theorem scCh : FnScope ["self", "x", "y"] ["self", "x", "y"] (defScope sCh) := ⟨rfl, rfl, rfl, by decide +kernel, rfl, by decide +kernel, by decide +kernel⟩
theorem ok_ch {f fG fC C : Addr} {fd fdG fdC : FuncData} (F : Fun K "chain" "Sheet.chain" sCh f fd) (S : ShT K C) (mG : Meth K C "__getitem__" fG) (hfn : PySem.W.fnIn K fG = true) (bG : Binds K fdG ["self", "at"] []) (GG : FnOk P w K mg base CX0 3 fG fdG ["self", "at"] (spGet K C))
    (FC : Fun K "chain_of" "chain_of" sChain fC fdC) (bC : Binds K fdC ["marks", "facts", "bounds", "x", "y"] []) (mC : mg "chain_of" = some (.ref fC)) (GC : FnOk P w K mg base CX0 3 fC fdC ["marks", "facts", "bounds", "x", "y"] (spChain K)) :
    FnOk P w K mg base CX0 5 f fd ["self", "x", "y"] (spCh K C) := by
  refine F.ok scCh (fun vs H Q E h => ?_) (fun cdv A outer s H vs Q E hr h => ?_)
  · obtain ⟨_, _, _, _, _, _, _, _, _, _, _, rfl, _⟩ := h
    rfl
  · obtain ⟨x, a, b, c, p, ms, ts, MS, B, u, v, rfl, hI, hG, hu, hv, kN, kS⟩ := h
    have hr3 : Room 3 _ := hr.mono (by decide)
    refine ⟨_, pss_cons (ps_if (pt_cmpR op_isN (pe_ixO (E := E0) mG hfn GG hr bG pass0 (pv 0) (pe_tup (pa_cons (pv 1) (pa_cons (pv 2) pa_nil)))) pe_non (nomark _)) (pss_one (ps_ret pe_non)) pss_nil)
      (pss_one (ps_ret (pe_call GC hr3 rfl mC FC.kp bC .nil pass0 (pa_cons (pe_fld (pv 0) rfl) (pa_cons (pe_fld (pv 0) rfl) (pa_cons (pe_fld (pv 0) rfl) (pa_cons (pv 1) (pa_cons (pv 2) pa_nil)))))))), ?_⟩
    obtain ⟨dx, hx⟩ := hI.at_
    refine ⟨_, rfl, _, rfl, _, rfl, by show 2 ≤ sizeLine; decide, fun t ht => ?_⟩
    have s1 : Same H (upd H t (.tup [.str u, .str v])) := Same.new ht
    refine ⟨x, dx, _, rfl, s1 _ _ hx, x, t, a, b, c, p, ms, ts, MS, B, u, v, rfl, hI.same s1, hG, tup_at, hu, hv, fun H2 s2 => ?_⟩
    have s12 := s1.trans s2
    refine ⟨rfl, _, rfl, ?_⟩
    cases hc : cell B (ix ms u) (ix ms v) with
    | none => exact iteDT rfl (kN hc H2 s12)
    | some d =>
      refine iteDF (fun e => nomatch e) ?_
      have hI2 := hI.same s12
      have hx2 := s12 _ _ hx
      obtain ⟨qs, hq1, hq2⟩ := hI2.hc
      have ql : qs.length = MS.length := by have := hq2.1; rw [List.length_map] at this; exact this
      have hml := hG.ml
      have hfl := hG.fl
      refine ⟨_, rfl, x, C, dx, _, _, rfl, hx2, S.cl, S.nm, look_m, _, rfl, x, C, dx, _, _, rfl, hx2, S.cl, S.nf, look_f, _, rfl, x, C, dx, _, _, rfl, hx2, S.cl, S.nb, look_b, _, rfl, _, rfl, ?_⟩
      exact ⟨a, c, p, u, v, ms, qs, MS, B, d, rfl, hI2.ha, by omega, hG.nd, hq1, hq2, by omega, hG.inn, hI2.hp, hG.good, hu, hv, hc, fun H3 l qs CH s3 hl0 he hl hql hT hP => kS d hc H3 l qs CH (s12.trans s3) (s12.free hl0) he hl hql hT hP⟩
/-! ### least -/
/-- the numbers of the first row -/
def leastOf (n : Nat) (B : Mat) : List Int := (List.range n).map fun j => (cell B 0 j).getD 0
abbrev sLe : Stmt := inClass (top 47) 6
def spLe (K : PySem.W.Frag) (C : Addr) : Sp := fun vs H Q _ => ∃ (x a b c p : Addr) (ms ts : List Str) (MS : List Fact) (B : Mat), vs = [.ref x] ∧ ShI K H C x a b c p ms ts MS B ∧ ShG ms MS B ∧
  ∀ H' q, Same H H' → SqT K H' q (((leastOf (ms.length + 1) B).drop 1).map fun i => V.int (-i)) → Q (.ref q) H'
theorem scLe : FnScope ["self"] ["self"] (defScope sLe) := ⟨rfl, rfl, rfl, by decide +kernel, rfl, by decide +kernel, by decide +kernel⟩
theorem row0_of {ms : List Str} {MS : List Fact} {B : Mat} (hG : ShG ms MS B) : rowAt B 0 = (leastOf (ms.length + 1) B).map some := by
  have hl := hG.good.sized.rowAt (x := 0) (by omega)
  refine List.ext_getElem (by unfold leastOf; simp [hl]) fun i h1 h2 => ?_
  have hi : i < ms.length + 1 := by omega
  obtain ⟨d, hd, _⟩ := eg_row0 hG.nd hG.good hi
  have e : rowAt B 0 = rowAt B 0 := rfl
  have hc : (rowAt B 0)[i]? = some (some d) := by
    have : cell B 0 i = ((rowAt B 0)[i]?).getD none := rfl
    rw [hd, List.getElem?_eq_getElem h1] at this
    rw [List.getElem?_eq_getElem h1]
    exact congrArg some this.symm
  rw [List.getElem?_eq_getElem h1] at hc
  rw [Option.some.inj hc]
  unfold leastOf
  simp [hd]
theorem ok_le {f fL C : Addr} {fd fdL : FuncData} (F : Fun K "least" "Sheet.least" sLe f fd) (S : ShT K C) (FL : Fun K "least_numbers" "least_numbers" sLeast fL fdL) (bL : Binds K fdL ["bounds"] []) (mL : mg "least_numbers" = some (.ref fL)) (T : Bi mg) :
    FnOk P w K mg base CX0 2 f fd ["self"] (spLe K C) := by
  have GL : FnOk P w K mg base CX0 1 fL fdL ["bounds"] (spLeast K) := ok_least FL T
  refine F.ok scLe (fun vs H Q E h => ?_) (fun cdv A outer s H vs Q E hr h => ?_)
  · obtain ⟨_, _, _, _, _, _, _, _, _, rfl, _⟩ := h
    rfl
  · obtain ⟨x, a, b, c, p, ms, ts, MS, B, rfl, hI, hG, k⟩ := h
    refine ⟨_, pss_one (ps_ret (pe_call GL hr rfl mL FL.kp bL .nil pass0 (pa_cons (pe_fld (pv 0) rfl) pa_nil))), ?_⟩
    obtain ⟨dx, hx⟩ := hI.at_
    have hml := hG.ml
    exact ⟨_, rfl, x, C, dx, _, _, rfl, hx, S.cl, S.nb, look_b, p, B, ms.length + 1, leastOf (ms.length + 1) B, rfl, hI.hp, hG.good.sized, by omega, by omega, row0_of hG, fun H' q s h => k H' q s h⟩
/-! ### numbers in the sheet -/
abbrev sIn : Stmt := inClass (top 47) 7
def spIn (K : PySem.W.Frag) (C : Addr) : Sp := fun vs H Q _ => ∃ (x a b c p t : Addr) (ms ts : List Str) (MS : List Fact) (B : Mat) (xs : List Int), vs = [.ref x, .ref t] ∧ ShI K H C x a b c p ms ts MS B ∧ ShG ms MS B ∧ SqT K H t (xs.map V.int) ∧ xs.length ≤ 900 ∧
  ∀ r H', (r = true ↔ xs.length = ms.length ∧ Fits (ms.length + 1) B (0 :: xs)) → Same H H' → Q (.bl r) H'
theorem scIn : FnScope ["self", "numbers"] ["self", "numbers"] (defScope sIn) := ⟨rfl, rfl, rfl, by decide +kernel, rfl, by decide +kernel, by decide +kernel⟩
theorem ok_in {f fA fF fW C : Addr} {fd fdA fdF fdW : FuncData} (F : Fun K "__contains__" "Sheet.__contains__" sIn f fd) (S : ShT K C) (T : Bi mg) (hall : mg "all" = none) (FA : Fun K "are_numbers" "are_numbers" sAre fA fdA) (bA : Binds K fdA ["x", "many"] []) (mA : mg "are_numbers" = some (.ref fA))
    (FF : Fun K "fits" "fits" sFits fF fdF) (bF : Binds K fdF ["bounds", "numbers"] []) (mF : mg "fits" = some (.ref fF)) (FW : Fun K "is_whole" "is_whole" sWhole fW fdW) (bW : Binds K fdW ["x"] []) (mW : mg "is_whole" = some (.ref fW)) :
    FnOk P w K mg base CX0 3 f fd ["self", "numbers"] (spIn K C) := by
  have GA : FnOk P w K mg base CX0 2 fA fdA ["x", "many"] (spAre K) := ok_are FA T hall FW bW mW
  have GF : FnOk P w K mg base CX0 1 fF fdF ["bounds", "numbers"] (spFits K) := ok_fits FF T
  refine F.ok scIn (fun vs H Q E h => ?_) (fun cdv A outer s H vs Q E hr h => ?_)
  · obtain ⟨_, _, _, _, _, _, _, _, _, _, _, rfl, _⟩ := h
    rfl
  · obtain ⟨x, a, b, c, p, t, ms, ts, MS, B, xs, rfl, hI, hG, ht, hxl, k⟩ := h
    have hr1 : Room 1 _ := hr.mono (by decide)
    refine ⟨_, pss_one (ps_ret (pe_and (pe_call GA hr rfl mA FA.kp bA .nil pass0 (pa_cons (pv 1) (pa_cons (pe_callB call_len_seq (by rfl) T.len PySem.boot_len (pa_cons (pe_fld (pv 0) rfl) pa_nil)) pa_nil)))
      (pe_one (pe_call GF hr1 rfl mF FF.kp bF .nil pass0 (pa_cons (pe_fld (pv 0) rfl) (pa_cons (pv 1) pa_nil)))))), ?_⟩
    obtain ⟨dx, hx⟩ := hI.at_
    have hml := hG.ml
    refine ⟨_, rfl, _, rfl, x, C, dx, _, _, rfl, hx, S.cl, S.nm, look_m, a, _, rfl, .inr hI.ha, ?_⟩
    rw [List.length_map]
    refine ⟨t, xs, ms.length, rfl, ht, hxl, fun H1 s1 => ?_⟩
    by_cases e : xs.length = ms.length
    · rw [decide_eq_true e]
      refine ⟨_, rfl, iteT ?_⟩
      refine ⟨_, rfl, x, C, dx, _, _, rfl, s1 _ _ hx, S.cl, S.nb, look_b, _, rfl, ?_⟩
      exact ⟨p, t, B, ms.length + 1, xs, rfl, (hI.same s1).hp, hG.good.sized, by omega, Same.tup s1 ht, by omega, fun r H2 hr' s2 => k r H2 ⟨fun q => ⟨e, hr'.mp q⟩, fun q => hr'.mpr q.2⟩ (s1.trans s2)⟩
    · rw [decide_eq_false e]
      exact ⟨_, rfl, iteF (k false H1 ⟨(fun q => nomatch q), fun q => absurd q.1 e⟩ s1)⟩
/-! ### tight -/
abbrev sTi : Stmt := inClass (top 47) 12
def spTi (K : PySem.W.Frag) (C : Addr) : Sp := fun vs H Q _ => ∃ (x a b c p : Addr) (ms ts : List Str) (MS : List Fact) (B : Mat), vs = [.ref x] ∧ ShI K H C x a b c p ms ts MS B ∧ ShG ms MS B ∧
  ∀ H' l ps, Same H H' → H l = none → H' l = some (.lst (ps.map V.ref)) → TupsAt H' ps ((tightL (nodes ms) B (ms.length + 1)).map factV) → ps.length ≤ 900 → Q (.ref l) H'
theorem scTi : FnScope ["self"] ["self"] (defScope sTi) := ⟨rfl, rfl, rfl, by decide +kernel, rfl, by decide +kernel, by decide +kernel⟩
theorem ok_ti {f fT fN C : Addr} {fd fdT fdN : FuncData} (F : Fun K "tight" "Sheet.tight" sTi f fd) (S : ShT K C) (T : Bi mg) (FT : Fun K "tight_facts" "tight_facts" sTF fT fdT) (bT : Binds K fdT ["marks", "bounds"] []) (mT : mg "tight_facts" = some (.ref fT))
    (FN : Fun K "names_of" "names_of" sNames fN fdN) (bN : Binds K fdN ["marks"] []) (mN : mg "names_of" = some (.ref fN)) : FnOk P w K mg base CX0 3 f fd ["self"] (spTi K C) := by
  have GT : FnOk P w K mg base CX0 2 fT fdT ["marks", "bounds"] (spTF K) := ok_tf FT T FN bN mN
  refine F.ok scTi (fun vs H Q E h => ?_) (fun cdv A outer s H vs Q E hr h => ?_)
  · obtain ⟨_, _, _, _, _, _, _, _, _, rfl, _⟩ := h
    rfl
  · obtain ⟨x, a, b, c, p, ms, ts, MS, B, rfl, hI, hG, k⟩ := h
    refine ⟨_, pss_one (ps_ret (pe_call GT hr rfl mT FT.kp bT .nil pass0 (pa_cons (pe_fld (pv 0) rfl) (pa_cons (pe_fld (pv 0) rfl) pa_nil)))), ?_⟩
    obtain ⟨dx, hx⟩ := hI.at_
    exact ⟨_, rfl, x, C, dx, _, _, rfl, hx, S.cl, S.nm, look_m, _, rfl, x, C, dx, _, _, rfl, hx, S.cl, S.nb, look_b, a, p, ms, B, rfl, hI.ha, hG.ml, hG.nd, hI.hp, hG.good.sized, fun H' l ps s h0 h1 h2 h3 => k H' l ps s h0 h1 h2 h3⟩
end
end K1
end
section
set_option maxRecDepth 100000
set_option maxHeartbeats 4000000
namespace K1
open PySem PyProof.Rows L2 K01
theorem path_ends {F : List Fact} : ∀ {RG : List Fact} {x y : Str} {c : Int}, isPath F x y c RG → RG ≠ [] → RG.map (fun f => f.2.1) = (RG.drop 1).map (fun f => f.1) ++ [y] ∧ (RG.take 1).map (fun f => f.1) = [x]
  | [], _, _, _, _, h => absurd rfl h
  | [f], x, y, c, ⟨_, h2, h3, _⟩, _ => ⟨by simp [h3], by simp [h2]⟩
  | f :: g :: r, x, y, c, ⟨_, h2, h3⟩, _ => by
    have h := path_ends h3 (fun e => nomatch e)
    refine ⟨?_, by simp [h2]⟩
    rw [List.map_cons, h.1]
    have hg : g.1 = f.2.1 := h3.2.1
    simp [hg]
theorem path_sum {F : List Fact} : ∀ {RG : List Fact} {x y : Str} {c : Int}, isPath F x y c RG → (RG.map fun f => f.2.2).sum = c
  | [], _, _, _, ⟨_, h⟩ => by simp [h]
  | f :: r, x, y, c, ⟨_, _, h⟩ => by
    rw [List.map_cons, List.sum_cons, path_sum h]; omega
def fD (f : Fact) : PyData := .tuple [.str f.1, .str f.2.1, .int f.2.2]
theorem fD_lv {f : Fact} (h1 : AscZ f.1) (h2 : AscZ f.2.1) : Lv 1 (fD f) := Lv.tuple (n := 0) fun d hd => by
  simp only [List.mem_cons, List.not_mem_nil, or_false] at hd
  rcases hd with rfl | rfl | rfl
  · exact Lv.str h1
  · exact Lv.str h2
  · exact Lv.int _
theorem fD_dp {K : PySem.W.Frag} {H : Hp} {p : Addr} {f : Fact} (h : H p = some (.tup (factV f))) : Dp K H (.ref p) (fD f) := .tup (SqT.of h) (.cons (.str _) (.cons (.str _) (.cons (.int _) .nil)))
theorem tups_dp {K : PySem.W.Frag} {H : Hp} : ∀ {ps : List Addr} {F : List Fact}, TupsAt H ps (F.map factV) → DpAll K H (ps.map V.ref) (F.map fD)
  | [], [], _ => .nil
  | [], f :: F, h => by have := h.1; simp at this
  | p :: ps, [], h => by have := h.1; simp at this
  | p :: ps, f :: F, h => .cons (fD_dp (h.2 0 p (factV f) rfl rfl)) (tups_dp ⟨by have := h.1; simpa using this, fun i q r h1 h2 => h.2 (i + 1) q r (by simpa using h1) (by simpa using h2)⟩)

theorem path_tips {F : List Fact} : ∀ {CH : List Fact} {x y : Str} {c : Int}, isPath F x y c CH → x :: CH.map (fun f => f.2.1) = CH.map (fun f => f.1) ++ [y]
  | [], x, y, c, ⟨h, _⟩ => by simp [h]
  | f :: r, x, y, c, ⟨_, h1, h2⟩ => by
    have := path_tips h2
    simp only [List.map_cons, List.cons_append, ← h1]
    rw [this]
/-- x not in a tuple -/
def rNotInT (K : PySem.W.Frag) : R2 := fun x y H Q => ∃ d ds, Dp K H x d ∧ Dp K H y (.tuple ds) ∧ SeqAt.shaped d = true ∧ SeqAt.shaped (.tuple ds) = true ∧ Q (.bl (!ds.any fun z => PyData.eqv z d)) H
theorem op_notInT {X : Cx} (hu : X.A.units + 65 < cLine) : OpR X (compareOp .NotIn) (rNotInT X.K) := by
  intro pins s σ H x y v u Q I rx ry h
  obtain ⟨d, ds, hd, he, sd, se, q⟩ := h
  obtain ⟨as, r1⟩ := Dp.reads I d x v hd rx
  obtain ⟨bs, r2⟩ := Dp.reads I (.tuple ds) y u he ry
  exact SeqAt.notIn_tuple_reads r2 r1 (SeqAt.canLay_of_shaped se) (SeqAt.canLay_of_shaped sd) (room_in_shaped sd hu) ⟨.bl _, H, I, rfl, q⟩
section
variable {P : Program} {w : World} {K : PySem.W.Frag} {mg : Str → Option Value} {base : Heap}
abbrev sCR : Stmt := top 59
/-- a right chain, or none -/
def spCR (K : PySem.W.Frag) : Sp := fun vs H Q _ => ∃ (a c : Addr) (ms : List Str) (MS : List Fact) (u v : Str) (wy du : V), vs = [.ref a, .ref c, .str u, .str v, wy, du] ∧ strsT K H a ms ∧ ms.length ≤ 28 ∧ (∀ z ∈ ms, AscZ z) ∧ TTAt K H c (MS.map factV) ∧ MS.length ≤ 100 ∧ InN ms MS ∧ u ∈ nodes ms ∧ v ∈ nodes ms ∧
  ((wy = .non ∧ du = .non) ∨ ∃ (l : Addr) (qs : List Addr) (CH : List Fact) (d : Int), wy = .ref l ∧ du = .int d ∧ H l = some (.lst (qs.map V.ref)) ∧ qs.length ≤ 2000 ∧ TupsAt H qs (CH.map factV) ∧ isPath (MS ++ zeros ms) u v d CH) ∧ ∀ H', Same H H' → Q (.bl true) H'
abbrev nsCR : List Str := ["marks_here", "facts_here", "x_here", "y_here", "way", "due", "free", "tips", "starts", "name", "row"]
theorem scCR : FnScope nsCR ["marks_here", "facts_here", "x_here", "y_here", "way", "due"] (defScope sCR) := ⟨rfl, rfl, rfl, by decide +kernel, rfl, by decide +kernel, by decide +kernel⟩
theorem ok_cr {f : Addr} {fd : FuncData} (F : Fun K "_law_chain_right" "_law_chain_right" sCR f fd) (T : Bi mg) : FnOk P w K mg base CX0 1 f fd ["marks_here", "facts_here", "x_here", "y_here", "way", "due"] (spCR K) := by
  refine F.ok scCR (fun vs H Q E h => ?_) (fun cdv A outer s H vs Q E hr h => ?_)
  · obtain ⟨_, _, _, _, _, _, _, _, rfl, _⟩ := h
    rfl
  · obtain ⟨a, c, ms, MS, u, v, wy, du, rfl, hm, hml, hma, hc, hcl, hI, hu, hv, hw, k⟩ := h
    have hun : (A.deeper (PyProof.Rows.envOfC "_law_chain_right" (defScope sCR) s.heap.objs.size f cdv)).units + 65 < cLine := by have := hr.un; omega
    have hu64 : (A.deeper (PyProof.Rows.envOfC "_law_chain_right" (defScope sCR) s.heap.objs.size f cdv)).units + 64 < cLine := by omega
    refine ⟨_, pss_cons (ps_if (PW.pt (pw_or (pt_cmpR op_isN (pv 5) pe_non (nomark _)) (pw_or1 (pt_cmpR op_isN (pv 4) pe_non (nomark _))))) (pss_one (ps_ret (pe_and (pe_cmpR op_isN (pv 5) pe_non (nomark _)) (pe_one (pe_cmpR op_isN (pv 4) pe_non (nomark _)))))) pss_nil)
      (pss_cons (ps_set (i := 6) scCR.nd rfl (.inr rfl) (pe_lc (own := [("name", 9)]) (g := gName 9) rfl scCR.nd (pi_tup (pv 0)) (blkOk_by (N := nsCR) (sc := defScope sCR) (by decide +kernel))
          (fun _ _ _ _ _ => pg_name (i := 9) scCR.nd rfl (.inl rfl)) (fun _ _ _ _ _ => pts_nil) (fun _ _ _ _ _ => pe_tup (pa_cons pe_str (pa_cons (pv 9) (pa_cons pe_int pa_nil))))))
      (pss_cons (ps_if (pt_cmpR (op_neD hu64) (pe_lc (own := [("row", 10)]) (g := gName 10) (tt := tAnd (tTest (tOp (rNotInT K) (tVar 10) (tVar 1))) (tTest (tOp (rNotInD K) (tVar 10) (tVar 6)))) rfl scCR.nd (pi_list (pv 4)) (blkOk_by (N := nsCR) (sc := defScope sCR) (by decide +kernel))
            (fun _ _ _ _ _ => pg_name (i := 10) scCR.nd rfl (.inl rfl)) (fun _ _ _ _ _ => pts_one (PW.pt (pw_and (pt_cmpR (op_notInT hun) (pv 10) (pv 1) (by rfl)) (pw_and1 (pt_cmpR (op_notInD hun) (pv 10) (pv 6) (by rfl)))))) (fun _ _ _ _ _ => pv 10)) (pe_lst pa_nil) (nomark _)) (pss_one (ps_ret pe_bl)) pss_nil)
      (pss_cons (ps_set (i := 7) scCR.nd rfl (.inl rfl) (pe_op op_cat (pe_lst (pa_cons (pv 2) pa_nil)) (pe_lc (own := [("row", 10)]) (g := gName 10) (te := tOp (rIxT K) (tVar 10) (tC (.int 1))) rfl scCR.nd (pi_list (pv 4)) (blkOk_by (N := nsCR) (sc := defScope sCR) (by decide +kernel))
            (fun _ _ _ _ _ => pg_name (i := 10) scCR.nd rfl (.inl rfl)) (fun _ _ _ _ _ => pts_nil) (fun _ _ _ _ _ => pe_ix ix_tup (pv 10) pe_int (fun _ _ => rfl)))))
      (pss_cons (ps_set (i := 8) scCR.nd rfl (.inl rfl) (pe_op op_cat (pe_lc (own := [("row", 10)]) (g := gName 10) (te := tOp (rIxT K) (tVar 10) (tC (.int 0))) rfl scCR.nd (pi_list (pv 4)) (blkOk_by (N := nsCR) (sc := defScope sCR) (by decide +kernel))
            (fun _ _ _ _ _ => pg_name (i := 10) scCR.nd rfl (.inl rfl)) (fun _ _ _ _ _ => pts_nil) (fun _ _ _ _ _ => pe_ix ix_tup (pv 10) pe_int (fun _ _ => rfl))) (pe_lst (pa_cons (pv 3) pa_nil))))
      (pss_one (ps_ret (pe_and (pe_callB call_isi (by rfl) T.isinstance (by decide +kernel) (pa_cons (pv 4) (pa_cons (pe_ty (n := "list") (by rfl) T.list (by decide +kernel)) pa_nil)))
        (pe_and (pe_cmpR (op_eqD hu64) (pv 7) (pv 8) (nomark _))
        (pe_one (pe_cmpR op_eq (pe_callB (cr_sum rfl) (by rfl) T.sum (by decide +kernel) (pa_cons (pe_lc (own := [("row", 10)]) (g := gName 10) (te := tOp (rIxT K) (tVar 10) (tC (.int 2))) rfl scCR.nd (pi_list (pv 4)) (blkOk_by (N := nsCR) (sc := defScope sCR) (by decide +kernel))
            (fun _ _ _ _ _ => pg_name (i := 10) scCR.nd rfl (.inl rfl)) (fun _ _ _ _ _ => pts_nil) (fun _ _ _ _ _ => pe_ix ix_tup (pv 10) pe_int (fun _ _ => rfl))) pa_nil)) (pv 5) (nomark _))))))))))), ?_⟩
    rcases hw with ⟨rfl, rfl⟩ | ⟨l, qs, CH, d, rfl, rfl, hl, hql, hqT, hpath⟩
    · exact ⟨_, rfl, rfl, _, rfl, iteDT rfl ⟨_, rfl, rfl, _, rfl, iteDT rfl ⟨_, rfl, rfl, k _ (Same.refl H)⟩⟩⟩
    have ql : qs.length = CH.length := by have := hqT.1; rw [List.length_map] at this; exact this
    have zl : (zeros ms).length = ms.length := by unfold zeros; rw [List.length_map]
    obtain ⟨fp, hc1, hc2⟩ := hc
    have fpl : fp.length = MS.length := by have := hc2.1; rw [List.length_map] at this; exact this
    refine ⟨_, rfl, rfl, _, rfl, iteDF (fun e => nomatch e) ⟨_, rfl, rfl, _, rfl, iteDF (fun e => nomatch e) ?_⟩⟩
    -- free
    refine ⟨_, rfl, a, rfl, ⟨_, hm⟩, fun D hD => ?_⟩
    refine lc_it (walk_tup (K := K) (a := a) (xs := ms.map V.str)) (fun i H' => Same H H' ∧ ∃ ps : List Addr, H' D = some (.lst (ps.map V.ref)) ∧ TupsAt H' ps (((zeros ms).take i).map factV)) ⟨Same.new hD, [], upd_same, TupsAt.nil⟩ (fun i H' _ u => Same.tup u.1 hm) ?_ ?_
    · rintro i v' H1 H2 hi ⟨q1, ps, q2, q3⟩ ⟨rfl, hv'⟩
      obtain ⟨z, hz, rfl⟩ := get_map hv'
      rw [List.length_map] at hi
      have hzz : (zeros ms)[i]? = some (("zero", z, 0) : Fact) := by unfold zeros; rw [List.getElem?_map, hz]; rfl
      have pl : ps.length ≤ i := by have := q3.1; rw [List.length_map, List.length_take] at this; omega
      refine ⟨rfl, yes_ ⟨_, rfl, by show 3 ≤ sizeLine; decide, fun t ht => ?_⟩⟩
      have nD : t ≠ D := fun e => by rw [e, q2] at ht; cases ht
      refine ⟨_, (upd_ne nD.symm).trans q2, by rw [List.length_map]; exact small1000 (by omega), Same.set (q1.trans (Same.new ht)) hD, ps ++ [t], by rw [upd_same, List.map_append]; rfl, ?_⟩
      rw [take_snoc hzz, List.map_append]
      exact TupsAt.upd (xs := ps.map V.ref) ((upd_ne nD.symm).trans q2) ((q3.same (Same.new ht)).snoc upd_same)
    rintro H1 ⟨s1, fs0, f1, f2⟩
    rw [List.length_map, ← zl, List.take_length] at f2
    -- the words of data
    have azero : AscZ "zero" := by unfold AscZ; decide +kernel
    have hasc : ∀ z ∈ nodes ms, AscZ z := fun z hz => by
      rcases List.mem_cons.mp hz with rfl | hz
      · exact azero
      · exact hma z hz
    have aM : ∀ f ∈ MS, AscZ f.1 ∧ AscZ f.2.1 := fun f hf => ⟨hasc _ (hI f hf).1, hasc _ (hI f hf).2⟩
    have aZ : ∀ f ∈ zeros ms, AscZ f.1 ∧ AscZ f.2.1 := fun f hf => ⟨hasc _ (zeros_in ms f hf).1, hasc _ (zeros_in ms f hf).2⟩
    have hRm : ∀ f ∈ CH, f ∈ MS ++ zeros ms := fun f hf => hpath.mem f hf
    have aC : ∀ f ∈ CH, AscZ f.1 ∧ AscZ f.2.1 := fun f hf => by
      rcases List.mem_append.mp (hRm f hf) with h | h
      · exact aM f h
      · exact aZ f h
    have shp : ∀ {F : List Fact}, (∀ f ∈ F, AscZ f.1 ∧ AscZ f.2.1) → SeqAt.shaped (.list (F.map fD)) = true ∧ SeqAt.shaped (.tuple (F.map fD)) = true := fun {F} hF => by
      have : ∀ d ∈ F.map fD, Lv 1 d := fun d hd => by
        obtain ⟨f, hf, rfl⟩ := List.mem_map.mp hd
        exact fD_lv (hF f hf).1 (hF f hf).2
      exact ⟨(Lv.list this).shaped (by decide), (Lv.tuple this).shaped (by decide)⟩
    have hl1 := s1 _ _ hl
    have hqT1 := hqT.same s1
    have hc11 := Same.tup (K := K) s1 hc1
    have hc21 := hc2.same s1
    have f1' : SqL K H1 D (fs0.map V.ref) := SqL.of f1
    dsimp only [gName]
    refine ⟨_, rfl, l, rfl, ⟨_, SqL.of hl1⟩, fun D3 hD3 => ?_⟩
    refine lc_it (walk_list (K := K) (a := l) (xs := qs.map V.ref)) (fun i H' => Same H1 H' ∧ H' D3 = some (.lst [])) ⟨Same.new hD3, upd_same⟩ (fun i H' _ u => SqL.of (u.1 _ _ hl1)) ?_ ?_
    · rintro i v' H5 H6 hi ⟨q1, q2⟩ ⟨rfl, hv'⟩
      obtain ⟨pr, hpr, rfl⟩ := get_map hv'
      obtain ⟨xs, hxs, hpx⟩ := (hqT1.same q1).get hpr
      obtain ⟨f, hf, rfl⟩ := get_map hxs
      have hfC := List.mem_of_getElem? hf
      have hfl := fD_lv (aC f hfC).1 (aC f hfC).2
      refine ⟨rfl, _, rfl, _, rfl, fD f, MS.map fD, fD_dp hpx, .tup (Same.tup q1 hc11) (tups_dp (hc21.same q1)), hfl.shaped (by decide), (shp aM).2, _, rfl, ?_⟩
      cases hb : ((MS.map fD).any fun z => PyData.eqv z (fD f)) with
      | true => exact iteF ⟨q1, q2⟩
      | false =>
        refine iteT ⟨_, rfl, _, rfl, fD f, (zeros ms).map fD, fD_dp hpx, .lst (SqL.of (q1 _ _ f1)) (tups_dp (f2.same q1)), hfl.shaped (by decide), (shp aZ).1, _, rfl, ?_⟩
        have hz : f ∈ zeros ms := by
          rcases List.mem_append.mp (hRm f hfC) with h | h
          · have : ((MS.map fD).any fun z => PyData.eqv z (fD f)) = true := List.any_eq_true.mpr ⟨fD f, List.mem_map.mpr ⟨f, h, rfl⟩, SeqAt.eqv_refl _ hfl.1⟩
            rw [this] at hb; cases hb
          · exact h
        rw [show (((zeros ms).map fD).any fun z => PyData.eqv z (fD f)) = true from List.any_eq_true.mpr ⟨fD f, List.mem_map.mpr ⟨f, hz, rfl⟩, SeqAt.eqv_refl _ hfl.1⟩]
        exact iteF ⟨q1, q2⟩
    rintro H5 ⟨s5, hD5⟩
    refine ⟨by show 0 ≤ sizeLine; decide, fun e2 he2 => ?_⟩
    have nDe : D3 ≠ e2 := fun q => by rw [q] at hD5; rw [hD5] at he2; cases he2
    refine ⟨.list [], .list [], .lst (SqL.of ((upd_ne nDe).trans hD5)) .nil, .lst (SqL.of upd_same) .nil, shaped_nil, shaped_nil, _, rfl, ?_⟩
    rw [eqv_nil]
    refine iteF ?_
    have sA : Same H (upd H5 e2 (.lst [])) := (s1.trans s5).trans (Same.new he2)
    have hl6 := sA _ _ hl
    have hqT6 := hqT.same sA
    generalize upd H5 e2 (.lst []) = H6 at sA hl6 hqT6 ⊢
    have line : ∀ n, n ≤ 2002 → n ≤ sizeLine := fun n h => Nat.le_trans h (by show 2002 ≤ 16777216; decide)
    -- tips
    refine ⟨_, rfl, by show 1 ≤ sizeLine; decide, fun u1 hu1 => ?_⟩
    have s7 : Same H6 (upd H6 u1 (.lst [.str u])) := Same.new hu1
    have hu1' : (upd H6 u1 (.lst [.str u])) u1 = some (.lst [.str u]) := upd_same
    generalize upd H6 u1 (.lst [.str u]) = H7 at s7 hu1'
    have hl7 := s7 _ _ hl6
    refine ⟨_, rfl, l, rfl, ⟨_, SqL.of hl7⟩, fun D4 hD4 => ?_⟩
    refine lc_it (walk_list (K := K) (a := l) (xs := qs.map V.ref)) (fun i H' => Same H7 H' ∧ H' D4 = some (.lst ((CH.take i).map fun f => V.str f.2.1))) ⟨Same.new hD4, upd_same⟩ (fun i H' _ u => SqL.of (u.1 _ _ hl7)) ?_ ?_
    · rintro i v' Ha Hb hi ⟨q1, q2⟩ ⟨rfl, hv'⟩
      obtain ⟨pr, hpr, rfl⟩ := get_map hv'
      obtain ⟨xs, hxs, hpx⟩ := ((hqT6.same s7).same q1).get hpr
      obtain ⟨f, hf, rfl⟩ := get_map hxs
      rw [List.length_map] at hi
      refine ⟨rfl, yes_ ⟨_, rfl, _, _, _, _, rfl, rfl, SqT.of hpx, at_of (j := 1) rfl rfl, _, q2, ?_, Same.set q1 hD4, ?_⟩⟩
      · rw [List.length_map, List.length_take]
        exact Nat.lt_of_le_of_lt (Nat.min_le_left _ _) (by show i < 16777216; omega)
      · rw [upd_same, take_snoc hf, List.map_append]; rfl
    rintro H8 ⟨s8, hT4⟩
    rw [List.length_map, ql, List.take_length] at hT4
    refine ⟨u1, D4, _, _, rfl, rfl, s8 _ _ hu1', hT4, by rw [List.length_map]; exact line _ (by show 1 + CH.length ≤ 2002; omega), fun u2 hu2 => ?_⟩
    have hT5 : (upd H8 u2 (.lst ([.str u] ++ CH.map fun f => V.str f.2.1))) u2 = some (.lst ([.str u] ++ CH.map fun f => V.str f.2.1)) := upd_same
    have s9 : Same H6 (upd H8 u2 (.lst ([.str u] ++ CH.map fun f => V.str f.2.1))) := (s7.trans s8).trans (Same.new hu2)
    dsimp only [gName]
    generalize upd H8 u2 (.lst ([.str u] ++ CH.map fun f => V.str f.2.1)) = H9 at hT5 s9
    have hl9 := s9 _ _ hl6
    have hqT9 := hqT6.same s9
    -- starts
    refine ⟨_, rfl, l, rfl, ⟨_, SqL.of hl9⟩, fun D5 hD5 => ?_⟩
    refine lc_it (walk_list (K := K) (a := l) (xs := qs.map V.ref)) (fun i H' => Same H9 H' ∧ H' D5 = some (.lst ((CH.take i).map fun f => V.str f.1))) ⟨Same.new hD5, upd_same⟩ (fun i H' _ u => SqL.of (u.1 _ _ hl9)) ?_ ?_
    · rintro i v' Ha Hb hi ⟨q1, q2⟩ ⟨rfl, hv'⟩
      obtain ⟨pr, hpr, rfl⟩ := get_map hv'
      obtain ⟨xs, hxs, hpx⟩ := (hqT9.same q1).get hpr
      obtain ⟨f, hf, rfl⟩ := get_map hxs
      rw [List.length_map] at hi
      refine ⟨rfl, yes_ ⟨_, rfl, _, _, _, _, rfl, rfl, SqT.of hpx, at_of (j := 0) rfl rfl, _, q2, ?_, Same.set q1 hD5, ?_⟩⟩
      · rw [List.length_map, List.length_take]
        exact Nat.lt_of_le_of_lt (Nat.min_le_left _ _) (by show i < 16777216; omega)
      · rw [upd_same, take_snoc hf, List.map_append]; rfl
    rintro H10 ⟨s10, hT6⟩
    rw [List.length_map, ql, List.take_length] at hT6
    refine ⟨_, rfl, by show 1 ≤ sizeLine; decide, fun u3 hu3 => ?_⟩
    have n53 : D5 ≠ u3 := fun q => by rw [q] at hT6; rw [hT6] at hu3; cases hu3
    refine ⟨D5, u3, _, _, rfl, rfl, (upd_ne n53).trans hT6, upd_same, by rw [List.length_map]; exact line _ (by show CH.length + 1 ≤ 2002; omega), fun u4 hu4 => ?_⟩
    have hT7 : (upd (upd H10 u3 (.lst [.str v])) u4 (.lst ((CH.map fun f => V.str f.1) ++ [.str v]))) u4 = some (.lst ((CH.map fun f => V.str f.1) ++ [.str v])) := upd_same
    have s11 : Same H9 (upd (upd H10 u3 (.lst [.str v])) u4 (.lst ((CH.map fun f => V.str f.1) ++ [.str v]))) := (s10.trans (Same.new hu3)).trans (Same.new hu4)
    dsimp only [gName]
    generalize upd (upd H10 u3 (.lst [.str v])) u4 (.lst ((CH.map fun f => V.str f.1) ++ [.str v])) = H11 at hT7 s11
    have hl11 := s11 _ _ hl9
    have hqT11 := hqT9.same s11
    -- the answer
    have hlst : TyX K H11 (.ref l) (.type "list") := .base (.lst hl11)
    refine ⟨_, rfl, _, _, _, _, true, rfl, .ty _, hlst, kit_ty (by decide +kernel), _, rfl, iteT ?_⟩
    have ends : ([V.str u] ++ CH.map fun f => V.str f.2.1) = ((CH.map fun f => V.str f.1) ++ [V.str v]) := by
      have := congrArg (List.map V.str) (path_tips hpath)
      simp only [List.map_cons, List.map_append, List.map_map, List.map_nil] at this
      exact this
    have hvs : ∀ x ∈ ([V.str u] ++ CH.map fun f => V.str f.2.1), Flat x := fun x hx => by
      rcases List.mem_append.mp hx with hx | hx
      · rw [List.mem_singleton] at hx; rw [hx]; exact .str _
      · obtain ⟨f, _, rfl⟩ := List.mem_map.mp hx; exact .str _
    have hlv : Lv 1 (.list (([V.str u] ++ CH.map fun f => V.str f.2.1).map vD)) := Lv.list (n := 0) fun d hd => by
      obtain ⟨x, hx, rfl⟩ := List.mem_map.mp hd
      rcases List.mem_append.mp hx with hx | hx
      · rw [List.mem_singleton] at hx; rw [hx]; exact Lv.str (hasc u hu)
      · obtain ⟨f, hf, rfl⟩ := List.mem_map.mp hx; exact Lv.str (aC f hf).2
    refine ⟨_, rfl, _, rfl, .list (([V.str u] ++ CH.map fun f => V.str f.2.1).map vD), .list (([V.str u] ++ CH.map fun f => V.str f.2.1).map vD), .lst (SqL.of (s11 _ _ hT5)) (flats_dp hvs), .lst (SqL.of (by rw [ends]; exact hT7)) (flats_dp hvs), hlv.shaped (by decide), hlv.shaped (by decide), _, rfl, ?_⟩
    rw [SeqAt.eqv_refl _ hlv.1]
    refine iteT ?_
    refine ⟨_, rfl, l, rfl, ⟨_, SqL.of hl11⟩, fun D6 hD6 => ?_⟩
    refine lc_it (walk_list (K := K) (a := l) (xs := qs.map V.ref)) (fun i H' => Same H11 H' ∧ H' D6 = some (.lst ((CH.take i).map fun f => V.int f.2.2))) ⟨Same.new hD6, upd_same⟩ (fun i H' _ u => SqL.of (u.1 _ _ hl11)) ?_ ?_
    · rintro i v' Ha Hb hi ⟨q1, q2⟩ ⟨rfl, hv'⟩
      obtain ⟨pr, hpr, rfl⟩ := get_map hv'
      obtain ⟨xs, hxs, hpx⟩ := (hqT11.same q1).get hpr
      obtain ⟨f, hf, rfl⟩ := get_map hxs
      rw [List.length_map] at hi
      refine ⟨rfl, yes_ ⟨_, rfl, _, _, _, _, rfl, rfl, SqT.of hpx, at_of (j := 2) rfl rfl, _, q2, ?_, Same.set q1 hD6, ?_⟩⟩
      · rw [List.length_map, List.length_take]
        exact Nat.lt_of_le_of_lt (Nat.min_le_left _ _) (by show i < 16777216; omega)
      · rw [upd_same, take_snoc hf, List.map_append]; rfl
    rintro H12 ⟨s12, hT8⟩
    rw [List.length_map, ql, List.take_length] at hT8
    refine ⟨D6, CH.map fun f => f.2.2, rfl, SqL.of (by rw [List.map_map]; exact hT8), _, rfl, rfl, ?_⟩
    rw [path_sum hpath]
    rw [show decide (V.int d = V.int d) = true from decide_eq_true rfl]
    exact k _ (((sA.trans s9).trans s11).trans s12)
end
end K1
end
section
set_option maxRecDepth 100000
set_option maxHeartbeats 4000000
namespace K1
open PySem PyProof.Rows L2 K01
theorem rows_dp {K : PySem.W.Frag} {H : Hp} : ∀ {ps : List Addr} {fs : List (List V)}, TupsAt H ps fs → FlatF fs → DpAll K H (ps.map V.ref) (fs.map fun xs => PyData.tuple (xs.map vD))
  | [], [], _, _ => .nil
  | [], f :: F, h, _ => by have := h.1; simp at this
  | p :: ps, [], h, _ => by have := h.1; simp at this
  | p :: ps, f :: F, h, g => .cons (.tup (SqT.of (h.2 0 p f rfl rfl)) (flats_dp (g f List.mem_cons_self))) (rows_dp ⟨by have := h.1; simpa using this, fun i q r h1 h2 => h.2 (i + 1) q r (by simpa using h1) (by simpa using h2)⟩ fun xs hx => g xs (List.mem_cons_of_mem _ hx))
theorem ints_shaped {fs : List (List V)} (h : ∀ xs ∈ fs, ∀ v ∈ xs, ∃ i : Int, v = .int i) : FlatF fs ∧ SeqAt.shaped (.list (fs.map fun xs => PyData.tuple (xs.map vD))) = true := by
  refine ⟨fun xs hx v hv => by obtain ⟨i, rfl⟩ := h xs hx v hv; exact .int i, Lv.shaped (n := 2) (Lv.list (n := 1) ?_) (by decide)⟩
  intro d hd
  obtain ⟨xs, hx, rfl⟩ := List.mem_map.mp hd
  refine Lv.tuple (n := 0) ?_
  intro e he
  obtain ⟨v, hv, rfl⟩ := List.mem_map.mp he
  obtain ⟨i, rfl⟩ := h xs hx v hv
  exact Lv.int i
theorem edge_ints (e : Edge) : ∀ v ∈ edgeV e, ∃ i : Int, v = .int i := fun v hv => by
  simp only [edgeV, List.mem_cons, List.not_mem_nil, or_false] at hv
  rcases hv with rfl | rfl | rfl <;> exact ⟨_, rfl⟩
/-- none is below zero, and all facts are kept -/
def KeepsP (ms : List Str) (MS : List Fact) (cl : List Int) : Prop := (∀ x ∈ cl, 0 ≤ x) ∧ ∀ f ∈ MS, ∀ x y, cl[ix ms f.1]? = some x → cl[ix ms f.2.1]? = some y → x - y ≤ f.2.2
/-- the bounds say what the facts say -/
theorem fits_keeps {ms : List Str} {MS : List Fact} {B : Mat} {xs : List Int} (hG : ShG ms MS B) (hl : xs.length = ms.length) : Fits (ms.length + 1) B (0 :: xs) ↔ KeepsP ms MS (0 :: xs) := by
  have cl : (0 :: xs).length = ms.length + 1 := by simp [hl]
  constructor
  · intro F
    refine ⟨fun x hx => ?_, fun f hf x y hx hy => ?_⟩
    · obtain ⟨i, hi, e⟩ := List.mem_iff_getElem.mp hx
      have hi' : i < ms.length + 1 := by omega
      obtain ⟨d, hd, h0⟩ := eg_row0 hG.nd hG.good hi'
      have := F 0 i d 0 x (by omega) hi' hd rfl (List.getElem?_eq_some_iff.mpr ⟨hi, e⟩)
      omega
    · have hI := hG.inn f hf
      obtain ⟨d, hd, h0⟩ := hG.good.edge (x := ix ms f.1) (y := ix ms f.2.1) (c := f.2.2) (by unfold EG; rw [List.map_append]; exact List.mem_append_left _ (List.mem_map.mpr ⟨f, hf, rfl⟩))
      have := F _ _ d x y (ix_lt hI.1) (ix_lt hI.2) hd hx hy
      omega
  · rintro ⟨h0, hk⟩ i j d x y hi hj hd hx hy
    have hIn : InN ms (MS ++ zeros ms) := fun f hf => by
      rcases List.mem_append.mp hf with hf | hf
      · exact hG.inn f hf
      · exact zeros_in ms f hf
    have key : ∀ {u v : Nat} {c : Int}, Walk (EG ms MS) u v c → u < ms.length + 1 → v < ms.length + 1 → ∀ x y, (0 :: xs)[u]? = some x → (0 :: xs)[v]? = some y → x - y ≤ c := by
      intro u v c w
      induction w with
      | nil u =>
        intro _ _ x y hx hy
        rw [hx] at hy
        cases hy
        omega
      | @cons u m v c d e w ih =>
        intro hu hv x y hx hy
        have hm : m < ms.length + 1 := (hIn.inR _ e).2
        have hmz : m < (0 :: xs).length := by rw [cl]; exact hm
        have hz := List.getElem?_eq_getElem hmz
        generalize (0 :: xs)[m] = z at hz
        have h2 := ih hm hv z y hz hy
        have h1 : x - z ≤ c := by
          unfold EG at e
          rw [List.map_append] at e
          rcases List.mem_append.mp e with e | e
          · obtain ⟨f, hf, q⟩ := List.mem_map.mp e
            have q1 : ix ms f.1 = u := congrArg (fun t => t.1) q
            have q2 : ix ms f.2.1 = m := congrArg (fun t => t.2.1) q
            have q3 : f.2.2 = c := congrArg (fun t => t.2.2) q
            rw [← q3]
            exact hk f hf x z (by rw [q1]; exact hx) (by rw [q2]; exact hz)
          · rw [zeros_edges hG.nd] at e
            obtain ⟨e1, e2, _, _⟩ := zero_mem e
            have := h0 z (List.mem_of_getElem? hz)
            rw [e1] at hx
            cases hx
            omega
        omega
    exact key (hG.good.tightW hIn.inR hi hj hd) hi hj x y hx hy
section
variable {P : Program} {w : World} {K : PySem.W.Frag} {mg : Str → Option Value} {base : Heap}
abbrev sKp : Stmt := top 57
def spKp (K : PySem.W.Frag) : Sp := fun vs H Q _ => ∃ (a c t : Addr) (ms : List Str) (MS : List Fact) (xs : List Int), vs = [.ref a, .ref c, .ref t] ∧ strsT K H a ms ∧ ms.length ≤ 28 ∧ TTAt K H c (MS.map factV) ∧ MS.length ≤ 100 ∧ InN ms MS ∧ SqT K H t (xs.map V.int) ∧ xs.length = ms.length ∧
  ∀ r H', (r = true ↔ KeepsP ms MS (0 :: xs)) → Same H H' → Q (.bl r) H'
abbrev nsKp : List Str := ["marks_here", "facts_here", "places", "spots", "sum_here", "row"]
theorem scKp : FnScope nsKp ["marks_here", "facts_here", "places"] (defScope sKp) := ⟨rfl, rfl, rfl, by decide +kernel, rfl, by decide +kernel, by decide +kernel⟩
theorem ok_kp {f fN : Addr} {fd fdN : FuncData} (F : Fun K "_law_keeps" "_law_keeps" sKp f fd) (T : Bi mg) (FN : Fun K "_law_numbered" "_law_numbered" sNum fN fdN) (bN : Binds K fdN ["marks_here", "facts_here"] []) (mN : mg "_law_numbered" = some (.ref fN)) :
    FnOk P w K mg base CX0 2 f fd ["marks_here", "facts_here", "places"] (spKp K) := by
  have GN : FnOk P w K mg base CX0 1 fN fdN ["marks_here", "facts_here"] (spNum K) := ok_num FN T
  refine F.ok scKp (fun vs H Q E h => ?_) (fun cdv A outer s H vs Q E hr h => ?_)
  · obtain ⟨_, _, _, _, _, _, rfl, _⟩ := h
    rfl
  · obtain ⟨a, c, t, ms, MS, xs, rfl, hm, hml, hc, hcl, hI, ht, hxl, k⟩ := h
    have hu64 : (A.deeper (PyProof.Rows.envOfC "_law_keeps" (defScope sKp) s.heap.objs.size f cdv)).units + 64 < cLine := by have := hr.un; omega
    refine ⟨_, pss_cons (ps_set (i := 3) scKp.nd rfl (.inr rfl) (pe_op op_catT (pe_tup (pa_cons pe_int pa_nil)) (pe_callTy call_tuple_of (by rfl) T.tuple (by decide +kernel) (pa_cons (pv 2) pa_nil))))
      (pss_cons (ps_if (PW.pt (pw_or (pt_cmpR (op_neD hu64) (pe_lc (own := [("sum_here", 4)]) (g := gName 4) rfl scKp.nd (pi_tup (pv 3)) (blkOk_by (N := nsKp) (sc := defScope sKp) (by decide +kernel))
            (fun _ _ _ _ _ => pg_name (i := 4) scKp.nd rfl (.inl rfl)) (fun _ _ _ _ _ => pts_one (pt_cmpR op_lt (pv 4) pe_int (nomark _))) (fun _ _ _ _ _ => pv 4)) (pe_lst pa_nil) (nomark _))
          (pw_or1 (pt_cmpR op_ne (pe_callB call_len_seq (by rfl) T.len PySem.boot_len (pa_cons (pv 3) pa_nil)) (pe_op op_add (pe_callB call_len_seq (by rfl) T.len PySem.boot_len (pa_cons (pv 0) pa_nil)) pe_int) (nomark _))))) (pss_one (ps_ret pe_bl)) pss_nil)
      (pss_one (ps_ret (pe_cmpR (op_eqD hu64) (pe_lc (own := [("row", 5)]) (g := gName 5) (tt := tTest (tOp _ (tOp _ (tOp (rIxT K) (tVar 3) (tOp (rIxT K) (tVar 5) (tC (.int 0)))) (tOp (rIxT K) (tVar 3) (tOp (rIxT K) (tVar 5) (tC (.int 1))))) (tOp (rIxT K) (tVar 5) (tC (.int 2))))) rfl scKp.nd
            (pi_list (pe_call GN hr rfl mN FN.kp bN .nil pass0 (pa_cons (pv 0) (pa_cons (pv 1) pa_nil)))) (blkOk_by (N := nsKp) (sc := defScope sKp) (by decide +kernel))
            (fun _ _ _ _ _ => pg_name (i := 5) scKp.nd rfl (.inl rfl)) (fun _ _ _ _ _ => pts_one (pt_cmpR op_gt (pe_op op_sub (pe_ix ix_tup (pv 3) (pe_ix ix_tup (pv 5) pe_int (fun _ _ => rfl)) (fun _ _ => rfl)) (pe_ix ix_tup (pv 3) (pe_ix ix_tup (pv 5) pe_int (fun _ _ => rfl)) (fun _ _ => rfl))) (pe_ix ix_tup (pv 5) pe_int (fun _ _ => rfl)) (nomark _))) (fun _ _ _ _ _ => pv 5)) (pe_lst pa_nil) (nomark _))))), ?_⟩
    have cl : (0 :: xs).length = ms.length + 1 := by simp [hxl]
    refine ⟨by show 1 ≤ sizeLine; decide, fun t0 ht0 => ?_⟩
    have s0 : Same H (upd H t0 (.tup [.int 0])) := Same.new ht0
    refine ⟨_, rfl, t, _, rfl, .inr ⟨Same.tup s0 ht, ?_⟩⟩
    refine catT_it tup_at (Same.tup s0 ht) (by simp) (by rw [List.length_map]; exact Nat.le_of_lt (small1000 (show 1 + xs.length ≤ 1000 by omega))) fun sp H1 s1 hsp => ?_
    have hsp : SqT K H1 sp ((0 :: xs).map V.int) := hsp
    have s01 := s0.trans s1
    dsimp only [gName]
    have hm1 := Same.tup (K := K) s01 hm
    have hc1 := hc.same s01
    -- none below zero
    refine ⟨_, rfl, sp, rfl, ⟨_, hsp⟩, fun D hD => ?_⟩
    refine lc_it (walk_tup (K := K) (a := sp) (xs := (0 :: xs).map V.int)) (fun i H' => Same H1 H' ∧ H' D = some (.lst ((((0 :: xs).take i).filter fun x => decide (x < 0)).map V.int))) ⟨Same.new hD, upd_same⟩ (fun i H' _ u => Same.tup u.1 hsp) ?_ ?_
    · rintro i v Ha Hb hi ⟨q1, q2⟩ ⟨rfl, hv⟩
      obtain ⟨x, hx, rfl⟩ := get_map hv
      rw [List.length_map, cl] at hi
      refine ⟨rfl, _, rfl, _, _, rfl, rfl, _, rfl, ?_⟩
      by_cases g : x < 0
      · refine iteDT g ⟨_, rfl, _, q2, ?_, Same.set q1 hD, ?_⟩
        · rw [List.length_map]
          have := List.length_filter_le (fun x => decide (x < 0)) ((0 :: xs).take i)
          rw [List.length_take] at this
          exact small1000 (by omega)
        · rw [upd_same, take_snoc hx, List.filter_append, List.filter_cons_of_pos (by simpa using g), List.filter_nil, List.map_append]; rfl
      · refine iteDF g ⟨q1, ?_⟩
        rw [take_snoc hx, List.filter_append, List.filter_cons_of_neg (by simpa using g), List.filter_nil, List.append_nil]
        exact q2
    rintro H2 ⟨s2, hD2⟩
    rw [List.length_map, List.take_length] at hD2
    refine ⟨by show 0 ≤ sizeLine; decide, fun e he => ?_⟩
    have nDe : D ≠ e := fun q => by rw [q] at hD2; rw [hD2] at he; cases he
    have s3 : Same H2 (upd H2 e (.lst [])) := Same.new he
    refine ⟨.list _, .list [], .lst (SqL.of ((upd_ne nDe).trans hD2)) (flats_dp ?_), .lst (SqL.of upd_same) .nil, ?_, shaped_nil, _, rfl, ?_⟩
    · intro v hv
      obtain ⟨u, _, rfl⟩ := List.mem_map.mp hv
      exact .int _
    · refine Lv.shaped (n := 1) (Lv.list (n := 0) ?_) (by decide)
      intro d hd
      obtain ⟨v, hv, rfl⟩ := List.mem_map.mp hd
      obtain ⟨u, hu, rfl⟩ := List.mem_map.mp hv
      exact Lv.int _
    rw [eqv_nil]
    have sB := (s01.trans s2).trans s3
    cases hneg : (0 :: xs).filter fun x => decide (x < 0) with
    | cons z zs =>
      refine iteT (k false _ ⟨(fun q => nomatch q), fun q => ?_⟩ sB)
      have hz : z ∈ (0 :: xs).filter fun x => decide (x < 0) := by rw [hneg]; exact List.mem_cons_self
      obtain ⟨h1, h2⟩ := List.mem_filter.mp hz
      have := q.1 z h1
      have : z < 0 := by simpa using h2
      omega
    | nil =>
      have pos : ∀ x ∈ (0 :: xs), 0 ≤ x := fun x hx => by
        by_cases g : x < 0
        · have : x ∈ (0 :: xs).filter fun x => decide (x < 0) := List.mem_filter.mpr ⟨hx, by simpa using g⟩
          rw [hneg] at this
          cases this
        · omega
      refine iteF ?_
      have hsp3 := Same.tup (K := K) (s2.trans s3) hsp
      have hm3 := Same.tup (K := K) (s2.trans s3) hm1
      refine ⟨_, rfl, sp, _, rfl, .inr hsp3, _, rfl, a, _, rfl, .inr hm3, _, _, rfl, rfl, rfl, _, rfl, iteNS (by rw [List.length_map, List.length_map, cl]; rfl) ?_⟩
      have hc3 := hc1.same (s2.trans s3)
      generalize upd H2 e (.lst []) = H3 at sB hsp3 hm3 hc3
      refine ⟨_, rfl, _, rfl, a, c, ms, MS, rfl, hm3, by omega, hc3, by omega, hI, fun H4 q ps s4 hq hT => ?_⟩
      have hpl : ps.length = MS.length := by have := hT.1; rw [List.length_map] at this; exact this
      refine ⟨q, rfl, ⟨_, SqL.of hq⟩, fun D2 hD2' => ?_⟩
      refine lc_it (walk_list (K := K) (a := q) (xs := ps.map V.ref)) (fun i H' => Same H4 H' ∧ ∃ (qs : List Addr) (es : List Edge), H' D2 = some (.lst (qs.map V.ref)) ∧ TupsAt H' qs (es.map edgeV) ∧ es.length ≤ i ∧ (es = [] ↔ ∀ f ∈ MS.take i, ∀ x y, (0 :: xs)[ix ms f.1]? = some x → (0 :: xs)[ix ms f.2.1]? = some y → x - y ≤ f.2.2))
        ⟨Same.new hD2', [], [], upd_same, TupsAt.nil, Nat.zero_le _, ⟨fun _ f hf => by simp at hf, fun _ => rfl⟩⟩ (fun i H' _ u => SqL.of (u.1 _ _ hq)) ?_ ?_
      · rintro i v Ha Hb hi ⟨q1, qs, es, q2, q3, q4, q5⟩ ⟨rfl, hv⟩
        obtain ⟨pr, hpr, rfl⟩ := get_map hv
        obtain ⟨ys, hys, hpy⟩ := (hT.same q1).get hpr
        obtain ⟨f, hf, rfl⟩ := get_map hys
        rw [List.length_map, hpl] at hi
        have hfm := List.mem_of_getElem? hf
        have i1 := hI f hfm
        have hx := List.getElem?_eq_getElem (l := 0 :: xs) (i := ix ms f.1) (by rw [cl]; exact ix_lt i1.1)
        have hy := List.getElem?_eq_getElem (l := 0 :: xs) (i := ix ms f.2.1) (by rw [cl]; exact ix_lt i1.2)
        generalize (0 :: xs)[ix ms f.1]'(by rw [cl]; exact ix_lt i1.1) = x at hx
        generalize (0 :: xs)[ix ms f.2.1]'(by rw [cl]; exact ix_lt i1.2) = y at hy
        have hsp4 := Same.tup (K := K) (s4.trans q1) hsp3
        have hxa : atI ((0 :: xs).map V.int) (ix ms f.1 : Nat) = some (.int x) := atI_nat (by rw [List.getElem?_map, hx]; rfl)
        have hya : atI ((0 :: xs).map V.int) (ix ms f.2.1 : Nat) = some (.int y) := atI_nat (by rw [List.getElem?_map, hy]; rfl)
        have qsl : qs.length = es.length := by have := q3.1; rw [List.length_map] at this; exact this
        refine ⟨rfl, _, rfl, _, rfl, _, _, _, _, rfl, rfl, SqT.of hpy, at_of (j := 0) rfl rfl, _, _, _, _, rfl, rfl, hsp4, hxa, _, rfl, _, rfl, _, _, _, _, rfl, rfl, SqT.of hpy, at_of (j := 1) rfl rfl, _, _, _, _, rfl, rfl, hsp4, hya, _, _, rfl, rfl, _, rfl, _, _, _, _, rfl, rfl, SqT.of hpy, at_of (j := 2) rfl rfl, _, _, rfl, rfl, _, rfl, ?_⟩
        by_cases g : x - y > f.2.2
        · refine iteDT g ⟨_, rfl, _, q2, by rw [List.length_map]; exact small1000 (by omega), Same.set q1 hD2', qs ++ [pr], es ++ [eF ms f], by rw [upd_same, List.map_append]; rfl, ?_, by rw [List.length_append, List.length_singleton]; omega, ⟨fun e => by simp at e, fun h => ?_⟩⟩
          · rw [List.map_append]
            exact TupsAt.upd (xs := qs.map V.ref) q2 (q3.snoc hpy)
          · have := h f (by rw [take_snoc hf]; exact List.mem_append_right _ List.mem_cons_self) x y hx hy
            exact absurd g (by omega)
        · refine iteDF g ⟨q1, qs, es, q2, q3, by omega, ?_⟩
          rw [q5, take_snoc hf]
          refine ⟨fun h g' hg' => ?_, fun h g' hg' => h g' (List.mem_append_left _ hg')⟩
          rcases List.mem_append.mp hg' with h1 | h1
          · exact h g' h1
          · rw [List.mem_singleton] at h1
            intro x' y' hx' hy'
            rw [h1] at hx' hy' ⊢
            rw [hx] at hx'; rw [hy] at hy'
            cases hx'; cases hy'
            omega
      · rintro H5 ⟨s5, qs, es, q2, q3, q4, q5⟩
        rw [List.length_map, hpl, List.take_length] at q5
        refine ⟨by show 0 ≤ sizeLine; decide, fun e5 he5 => ?_⟩
        have nD5 : D2 ≠ e5 := fun z => by rw [z, he5] at q2; cases q2
        have s6 : Same H5 (upd H5 e5 (.lst [])) := Same.new he5
        obtain ⟨hff, hsh⟩ := ints_shaped (fs := es.map edgeV) (fun ys hy => by obtain ⟨e, _, rfl⟩ := List.mem_map.mp hy; exact edge_ints e)
        refine ⟨.list _, .list [], .lst (SqL.of ((upd_ne nD5).trans q2)) (rows_dp (q3.same s6) hff), .lst (SqL.of upd_same) .nil, hsh, shaped_nil, ?_⟩
        rw [eqv_nil]
        refine k _ _ ?_ (((sB.trans s4).trans s5).trans s6)
        rw [List.isEmpty_map, List.isEmpty_iff]
        refine ⟨fun h => ⟨pos, q5.mp (by simpa using h)⟩, fun h => by rw [q5.mpr h.2]; rfl⟩
end
end K1
end
section
set_option autoImplicit false
namespace K01
/-- a mark is fixed at a number that it can have -/
theorem fix_good {m : Nat} {E : List Edge} {B : Mat} (G : Good (m + 1) E B) (R : InR (m + 1) E) {ax : Nat} (h1 : 1 ≤ ax) (h2 : ax ≤ m) {s : Int} (hlo : ∀ k, Le B 0 ax k → 0 ≤ k + s) (hhi : ∀ k, Le B ax 0 k → s ≤ k) :
    ∃ B', Good (m + 1) (E ++ [(ax, 0, s), (0, ax, -s)]) B' := by
  have hx : ax < m + 1 := by omega
  have h0 : 0 < m + 1 := by omega
  have G1 := tight_good G R hx h0 hlo
  have R1 : InR (m + 1) (E ++ [(ax, 0, s)]) := fun e he => by
    rcases List.mem_append.mp he with he | he
    · exact R e he
    · rw [List.mem_singleton] at he
      rw [he]; exact ⟨hx, h0⟩
  have G2 := tight_good G1 R1 h0 hx (c := -s) (fun k hk => by
    rcases (tight_le G hx h0 hx h0).mp hk with h | h
    · have := hhi k h; omega
    · obtain ⟨p, q, hp, hq, hpq⟩ := h
      have h3 := G.diag hx hp
      have h4 := G.diag h0 hq
      omega)
  exact ⟨_, by rw [List.append_assoc] at G2; exact G2⟩
/-- with more edges nothing grows -/
theorem Good.sub {n : Nat} {E F : List Edge} {B C : Mat} (G : Good n E B) (G2 : Good n F C) (R : InR n F) (h : ∀ e ∈ E, e ∈ F) {x y : Nat} {k : Int} (hx : x < n) (hy : y < n) (q : Le B x y k) : Le C x y k := by
  obtain ⟨c, h1, h2⟩ := G.walk hx hy q
  exact (G2.leW R (h2.mono h) hx hy).mono h1
end K01
end
section
set_option maxRecDepth 100000
set_option maxHeartbeats 4000000
namespace K1
open PySem PyProof.Rows L2 K01
theorem zrow {m : Nat} {E : List Edge} {B : Mat} (G : Good (m + 1) (E ++ zeroE m) B) {y : Nat} (hy : y < m + 1) : Le B 0 y 0 := by
  cases y with
  | zero => exact G.diag0 (by omega)
  | succ i => exact G.edge (List.mem_append_right _ (List.mem_map.mpr ⟨i, List.mem_range.mpr (by omega), rfl⟩))
theorem zinr {m : Nat} {E : List Edge} (R : InR (m + 1) E) : InR (m + 1) (E ++ zeroE m) := fun e he => by
  rcases List.mem_append.mp he with he | he
  · exact R e he
  · obtain ⟨a, b, c⟩ := e
    obtain ⟨h1, _, _, h2⟩ := zero_mem he
    exact ⟨by show a < _; omega, h2⟩
theorem zcell {m : Nat} {E : List Edge} {B : Mat} (G : Good (m + 1) (E ++ zeroE m) B) (R : InR (m + 1) E) {x y : Nat} (hx : x < m + 1) (hy : y < m + 1) : cell (closedM (m + 1) E) x y = cell B x y :=
  closed_cell G (zinr R) R (fun e he => List.mem_append_left _ he) (fun hy => zrow G hy) (fun e he => by
    rcases List.mem_append.mp he with he | he
    · exact .inl he
    · obtain ⟨a, b, c⟩ := e
      obtain ⟨h1, h2, _, _⟩ := zero_mem he
      exact .inr ⟨h1, h2⟩) hx hy
theorem znegs {m : Nat} {E : List Edge} {B : Mat} (G : Good (m + 1) (E ++ zeroE m) B) (R : InR (m + 1) E) : negs (m + 1) (closedM (m + 1) E) = [] :=
  negs_good G (fun hy => zrow G hy) R fun e he => List.mem_append_left _ he
theorem zfix {m : Nat} {E : List Edge} {B : Mat} (G : Good (m + 1) (E ++ zeroE m) B) (R : InR (m + 1) E) {ax : Nat} (h1 : 1 ≤ ax) (h2 : ax ≤ m) {s : Int} (hlo : ∀ k, Le B 0 ax k → 0 ≤ k + s) (hhi : ∀ k, Le B ax 0 k → s ≤ k) :
    ∃ B', Good (m + 1) ((E ++ [(ax, 0, s), (0, ax, -s)]) ++ zeroE m) B' := by
  obtain ⟨B', h⟩ := fix_good G (zinr R) h1 h2 hlo hhi
  refine ⟨B', h.perm fun e => ?_⟩
  simp only [List.mem_append]
  constructor
  · rintro ((h | h) | h)
    · exact .inl (.inl h)
    · exact .inr h
    · exact .inl (.inr h)
  · rintro ((h | h) | h)
    · exact .inl (.inl h)
    · exact .inr h
    · exact .inl (.inr h)
theorem closed_sized {n : Nat} {E : List Edge} (R : InR n E) : Sized n (closedM n E) := (fw_tri (start_le R).1).1.1
/-- the least numbers of a narrower sheet fit the wider one -/
theorem least_fits {m : Nat} {E F : List Edge} {B C : Mat} (G : Good (m + 1) E B) (G2 : Good (m + 1) F C) (R : InR (m + 1) F) (h : ∀ e ∈ E, e ∈ F) {xs : List Int} (hl : xs.length = m) (hx : ∀ i x, xs[i]? = some x → cell C 0 (i + 1) = some (-x)) : Fits (m + 1) B (0 :: xs) := by
  have h00 : cell C 0 0 = some 0 := by
    obtain ⟨d, hd, h1⟩ := G2.diag0 (x := 0) (by omega)
    have := G2.diag (x := 0) (k := d) (by omega) ⟨d, hd, Int.le_refl _⟩
    rw [hd]; congr 1; omega
  have at_ : ∀ i x, (0 :: xs)[i]? = some x → cell C 0 i = some (-x) := fun i x e => by
    cases i with
    | zero => cases e; exact h00
    | succ i => exact hx i x e
  intro i j d x y hi hj hd ex ey
  have c := G.sub G2 R h hi hj ⟨d, hd, Int.le_refl _⟩
  obtain ⟨e, he, hle⟩ := G2.tri (by omega : 0 < m + 1) hj hi ⟨_, at_ i x ex, Int.le_refl _⟩ c
  rw [at_ j y ey] at he
  cases he
  omega
section
variable {P : Program} {w : World} {K : PySem.W.Frag} {mg : Str → Option Value} {base : Heap}
abbrev sDR : Stmt := top 58
def spDR (K : PySem.W.Frag) : Sp := fun vs H Q _ => ∃ (p a c : Addr) (ms : List Str) (MS : List Fact) (B : Mat) (far z : Int), vs = [.ref p, .ref a, .ref c, .int far] ∧ PitAt H p z ∧ z ≤ 900000 ∧ strsT K H a ms ∧ ShG ms MS B ∧ TTAt K H c (MS.map factV) ∧ 0 ≤ far ∧ far ≤ 10 ^ 12 ∧
  ∀ H' t xs, But p H H' → PitAt H' p (z + 28) → SqT K H' t (xs.map V.int) → xs.length = ms.length → Fits (ms.length + 1) B (0 :: xs) → Q (.ref t) H'
abbrev nsDR : List Str := ["pit", "marks_here", "facts_here", "far", "known", "ax", "rows", "low", "room", "sum_here"]
theorem scDR : FnScope nsDR ["pit", "marks_here", "facts_here", "far"] (defScope sDR) := ⟨rfl, rfl, rfl, by decide +kernel, rfl, by decide +kernel, by decide +kernel⟩
theorem ok_dr {f fN fC fH : Addr} {fd fdN fdC fdH : FuncData} (F : Fun K "_law_drawn_recording" "_law_drawn_recording" sDR f fd) (T : Bi mg) (FN : Fun K "_law_numbered" "_law_numbered" sNum fN fdN) (bN : Binds K fdN ["marks_here", "facts_here"] []) (mN : mg "_law_numbered" = some (.ref fN))
    (FC : Fun K "_law_closed" "_law_closed" sClosed fC fdC) (bC : Binds K fdC ["many", "facts_here"] []) (mC : mg "_law_closed" = some (.ref fC)) (FH : Fun K "_law_hoist" "_law_hoist" sHoist fH fdH) (bH : Binds K fdH ["pit", "below"] []) (mH : mg "_law_hoist" = some (.ref fH)) :
    FnOk P w K mg base CX0 2 f fd ["pit", "marks_here", "facts_here", "far"] (spDR K) := by
  have GN : FnOk P w K mg base CX0 1 fN fdN ["marks_here", "facts_here"] (spNum K) := ok_num FN T
  have GC : FnOk P w K mg base CX0 1 fC fdC ["many", "facts_here"] (spClosed K) := ok_closed FC T
  have GH : FnOk P w K mg base CX0 1 fH fdH ["pit", "below"] (spHoist K) := ok_hoist FH T
  refine F.ok scDR (fun vs H Q E h => ?_) (fun cdv A outer s H vs Q E hr h => ?_)
  · obtain ⟨_, _, _, _, _, _, _, _, rfl, _⟩ := h
    rfl
  · obtain ⟨p, a, c, ms, MS, B, far, z, rfl, hp, hz, hm, hG, hc, hf0, hf1, k⟩ := h
    refine ⟨_, pss_cons (ps_set (i := 4) scDR.nd rfl (.inl rfl) (pe_callTy call_list_of (by rfl) T.list (by decide +kernel) (pa_cons (pe_call GN hr rfl mN FN.kp bN .nil pass0 (pa_cons (pv 1) (pa_cons (pv 2) pa_nil))) pa_nil)))
      (pss_cons (ps_for PassesOwn.never rfl (pi_range2 (by rfl) T.range (pa_cons pe_int (pa_cons (pe_op op_add (pe_callB call_len_seq (by rfl) T.len PySem.boot_len (pa_cons (pv 1) pa_nil)) pe_int) pa_nil))) (pg_name (i := 5) scDR.nd rfl (.inl rfl))
        (pss_cons (ps_set (i := 6) scDR.nd rfl (.inr rfl) (pe_call GC hr rfl mC FC.kp bC .nil pass0 (pa_cons (pe_callB call_len_seq (by rfl) T.len PySem.boot_len (pa_cons (pv 1) pa_nil)) (pa_cons (pv 4) pa_nil))))
        (pss_cons (ps_set (i := 7) scDR.nd rfl (.inl rfl) (pe_un un_neg (pe_ix ix_list (pe_ix ix_list (pv 6) pe_int (fun _ _ => rfl)) (pv 5) (fun _ _ => rfl))))
        (pss_cons (ps_set (i := 8) scDR.nd rfl (.inl rfl) (pe_ifExp (pt_cmpR op_isN (pe_ix ix_list (pe_ix ix_list (pv 6) (pv 5) (fun _ _ => rfl)) pe_int (fun _ _ => rfl)) pe_non (nomark _)) (pv 3)
            (pe_callB (call_min2 rfl) (by rfl) T.min (by decide +kernel) (pa_cons (pv 3) (pa_cons (pe_op op_sub (pe_ix ix_list (pe_ix ix_list (pv 6) (pv 5) (fun _ _ => rfl)) pe_int (fun _ _ => rfl)) (pv 7)) pa_nil)))))
        (pss_cons (ps_set (i := 9) scDR.nd rfl (.inl rfl) (pe_op op_add (pv 7) (pe_call GH hr rfl mH FH.kp bH .nil pass0 (pa_cons (pv 0) (pa_cons (pe_op op_add (pv 8) pe_int) pa_nil)))))
        (pss_one (ps_set (i := 4) scDR.nd rfl (.inl rfl) (pe_op op_cat (pv 4) (pe_lst (pa_cons (pe_tup (pa_cons (pv 5) (pa_cons pe_int (pa_cons (pv 9) pa_nil)))) (pa_cons (pe_tup (pa_cons pe_int (pa_cons (pv 5) (pa_cons (pe_un un_neg (pv 9)) pa_nil)))) pa_nil)))))))))))
      (pss_cons (ps_set (i := 6) scDR.nd rfl (.inr rfl) (pe_call GC hr rfl mC FC.kp bC .nil pass0 (pa_cons (pe_callB call_len_seq (by rfl) T.len PySem.boot_len (pa_cons (pv 1) pa_nil)) (pa_cons (pv 4) pa_nil))))
      (pss_one (ps_ret (pe_callTy call_tuple_of (by rfl) T.tuple (by decide +kernel) (pa_cons (pe_lc (own := [("ax", 5)]) (g := gName 5) (te := tUn _ (tOp (rIxL K) (tOp (rIxL K) (tVar 6) (tC (.int 0))) (tVar 5))) rfl scDR.nd (pi_range2 (by rfl) T.range (pa_cons pe_int (pa_cons (pe_op op_add (pe_callB call_len_seq (by rfl) T.len PySem.boot_len (pa_cons (pv 1) pa_nil)) pe_int) pa_nil))) (blkOk_by (N := nsDR) (sc := defScope sDR) (by decide +kernel))
        (fun _ _ _ _ _ => pg_name (i := 5) scDR.nd rfl (.inl rfl)) (fun _ _ _ _ _ => pts_nil) (fun _ _ _ _ _ => pe_un un_neg (pe_ix ix_list (pe_ix ix_list (pv 6) pe_int (fun _ _ => rfl)) (pv 5) (fun _ _ => rfl)))) pa_nil)))))), ?_⟩
    have hml := hG.ml
    have hfl := hG.fl
    refine ⟨_, rfl, _, rfl, a, c, ms, MS, rfl, hm, by omega, hc, by omega, hG.inn, fun H1 q ps s1 hq hT => ?_⟩
    refine ⟨q, _, rfl, .inl (SqL.of hq), fun l hl => ?_⟩
    have hpl : ps.length = MS.length := by have := hT.1; rw [List.length_map] at this; exact this
    have nl0 : l ≠ p := (hp.same s1).ne hl
    have s2 : Same H (upd H1 l (.lst (ps.map V.ref))) := s1.trans (Same.new hl)
    have hl2 : (upd H1 l (.lst (ps.map V.ref))) l = some (.lst (ps.map V.ref)) := upd_same
    have hT2 : TupsAt (upd H1 l (.lst (ps.map V.ref))) ps ((MS.map (eF ms)).map edgeV) := by rw [List.map_map]; exact hT.same (Same.new hl)
    dsimp only [gName]
    generalize upd H1 l (.lst (ps.map V.ref)) = H2 at s2 hl2 hT2
    have hm2 := Same.tup (K := K) s2 hm
    have hp2 := hp.same s2
    refine ⟨_, rfl, a, _, rfl, .inr hm2, _, _, rfl, rfl, ?_⟩
    have em : ((((ms.map V.str).length : Nat) : Int) + 1 - 1).toNat = ms.length := by rw [List.length_map]; omega
    refine ⟨1, _, rfl, ⟨by decide, by decide, by rw [List.length_map]; omega, by rw [List.length_map]; omega⟩, ?_⟩
    rw [em]
    have E0in : InR (ms.length + 1) (MS.map (eF ms)) := hG.inn.inR
    have G0 : Good (ms.length + 1) (MS.map (eF ms) ++ zeroE ms.length) B := by
      have := hG.good
      unfold EG at this
      rw [List.map_append, zeros_edges hG.nd] at this
      exact this
    refine for_range (lo := 1) (n := ms.length) (fun i σ H' => (∃ (l : Addr) (ps : List Addr) (E : List Edge) (B' : Mat) (v5 v6 v7 v8 v9 : Option V), σ = [some (.ref p), some (.ref a), some (.ref c), some (.int far), some (.ref l), v5, v6, v7, v8, v9] ∧ l ≠ p ∧ H' l = some (.lst (ps.map V.ref)) ∧ TupsAt H' ps (E.map edgeV) ∧ InR (ms.length + 1) E ∧
        (∀ e ∈ MS.map (eF ms), e ∈ E) ∧ E.length ≤ 100 + 2 * i ∧ Good (ms.length + 1) (E ++ zeroE ms.length) B') ∧ But p H H' ∧ PitAt H' p (z + i) ∧ strsT K H' a ms) ?_ ?_ ?_
    · exact ⟨⟨l, ps, MS.map (eF ms), B, _, _, _, _, _, rfl, nl0, hl2, hT2, E0in, fun e h => h, by rw [List.length_map]; omega, G0⟩, Same.but s2, by simpa using hp2, hm2⟩
    · rintro i σ H3 hi ⟨⟨l, ps, E, B', v5, v6, v7, v8, v9, rfl, nlp, hl3, hT3, hR, hE, hEl, hGB⟩, b3, P3, hm3⟩
      have ei : (1 : Int) + (i : Nat) = ((i + 1 : Nat) : Int) := by omega
      rw [ei]
      refine ⟨_, rfl, a, _, rfl, .inr hm3, _, rfl, ?_⟩
      rw [List.length_map]
      refine ⟨ms.length, l, ps, E, rfl, by omega, hl3, hT3, hR, fun H4 s4 => ⟨fun hn R hLM => ?_, fun hn => absurd (znegs hGB hR) hn⟩⟩
      have S4 : Sized (ms.length + 1) (closedM (ms.length + 1) E) := closed_sized hR
      have h0m : 0 < ms.length + 1 := by omega
      have him : i + 1 < ms.length + 1 := by omega
      obtain ⟨us0, p0, r1, r2, r3, _, _⟩ := hLM.read (K := K) S4 h0m
      obtain ⟨us1, p1, g1, g2, g3, _, _⟩ := hLM.read (K := K) S4 him
      have c0 := lst_cell S4 h0m him
      have c1 := lst_cell S4 him h0m
      rw [zcell hGB hR h0m him] at c0
      rw [zcell hGB hR him h0m] at c1
      obtain ⟨d0, hd0, _⟩ := zrow hGB him
      rw [hd0] at c0
      dsimp only [gName]
      refine ⟨_, rfl, _, _, _, _, rfl, rfl, r1, r2, _, rfl, _, _, _, _, rfl, rfl, r3, c0, _, rfl, ?_⟩
      dsimp only [gName]
      refine seq_gen (fun σ' H' => ∃ room : Int, σ' = [some (.ref p), some (.ref a), some (.ref c), some (.int far), some (.ref l), some (.int (i + 1 : Nat)), some (.ref R), some (.int (-d0)), some (.int room), v9] ∧ H' = H4 ∧ 0 ≤ room ∧ room ≤ far ∧ ∀ e0, cell B' (i + 1) 0 = some e0 → room ≤ e0 + d0) (fun N hN => ?_) ?_
      · refine ⟨_, rfl, _, rfl, _, _, _, _, rfl, rfl, g1, g2, _, _, _, _, rfl, rfl, g3, c1, rfl, _, rfl, ?_⟩
        cases hc : cell B' (i + 1) 0 with
        | none => exact iteDT rfl ⟨_, rfl, hN _ _ ⟨far, rfl, rfl, hf0, Int.le_refl _, fun e0 h => by rw [hc] at h; cases h⟩⟩
        | some e0 =>
          rw [hc] at c1
          have nn : 0 ≤ d0 + e0 := hGB.diag h0m (hGB.tri h0m h0m him ⟨d0, hd0, Int.le_refl _⟩ ⟨e0, hc, Int.le_refl _⟩)
          refine iteDF (fun e => nomatch e) ⟨_, rfl, _, rfl, _, rfl, _, _, _, _, rfl, rfl, g1, g2, _, _, _, _, rfl, rfl, g3, c1, _, rfl, _, _, rfl, rfl, _, _, rfl, ?_⟩
          refine hN _ _ ⟨_, rfl, rfl, ?_, ?_, fun e1 h => ?_⟩
          · split <;> omega
          · split <;> omega
          · rw [hc] at h; cases h
            split <;> omega
      · rintro _ _ ⟨room, rfl, rfl, hr0, hrf, hre⟩
        have P4 := P3.same s4
        refine ⟨_, rfl, _, rfl, _, rfl, _, _, rfl, rfl, p, _, _, rfl, P4, by omega, by omega, by omega, fun H5 d b5 P5 l5 u5 => ⟨_, _, rfl, rfl, ?_⟩⟩
        have hl5 : H5 l = some (.lst (ps.map V.ref)) := b5 _ _ nlp (s4 _ _ hl3)
        have hT5 := P4.tups b5 (hT3.same s4)
        have hm5 := P4.tup (K := K) b5 (Same.tup s4 hm3)
        have b35 : But p H H5 := (b3.trans (Same.but s4)).trans b5
        dsimp only [gName]
        refine ⟨_, rfl, _, rfl, _, rfl, by show 3 ≤ sizeLine; decide, fun t1 ht1 => ⟨_, rfl, _, rfl, _, rfl, by show 3 ≤ sizeLine; decide, fun t2 ht2 => ⟨by show 2 ≤ sizeLine; decide, fun u hu => ?_⟩⟩⟩
        have z1 := Same.new (o := .tup [.int (i + 1 : Nat), .int 0, .int (-d0 + d)]) ht1
        have z2 := Same.new (o := .tup [.int 0, .int (i + 1 : Nat), .int (-(-d0 + d))]) ht2
        have z3 := Same.new (o := .lst [.ref t1, .ref t2]) hu
        have q1 := z3 _ _ (z2 _ _ (upd_same (H := H5) (a := t1) (o := .tup [.int (i + 1 : Nat), .int 0, .int (-d0 + d)])))
        have q2 := z3 _ _ (upd_same (H := upd H5 t1 (.tup [.int (i + 1 : Nat), .int 0, .int (-d0 + d)])) (a := t2) (o := .tup [.int 0, .int (i + 1 : Nat), .int (-(-d0 + d))]))
        have zz := (z1.trans z2).trans z3
        have q3 : (upd (upd (upd H5 t1 (.tup [.int (i + 1 : Nat), .int 0, .int (-d0 + d)])) t2 (.tup [.int 0, .int (i + 1 : Nat), .int (-(-d0 + d))])) u (.lst [.ref t1, .ref t2])) u = some (.lst [.ref t1, .ref t2]) := upd_same
        have psl : ps.length = E.length := by have := hT3.1; rw [List.length_map] at this; exact this
        refine ⟨l, u, _, _, rfl, rfl, zz _ _ hl5, q3, by rw [List.length_map]; exact Nat.le_of_lt (small1000 (show ps.length + 2 ≤ 1000 by omega)), fun l2 hl2 => ?_⟩
        have P6 := P5.same zz
        have nl2 := P6.ne hl2
        have z4 := Same.new (o := .lst (ps.map V.ref ++ [.ref t1, .ref t2])) hl2
        obtain ⟨B2, hG2⟩ := zfix hGB hR (ax := i + 1) (by omega) (by omega) (s := -d0 + d) (fun k' hk' => by obtain ⟨e, he, hle⟩ := hk'; rw [hd0] at he; cases he; omega) (fun k' hk' => by obtain ⟨e, he, hle⟩ := hk'; have := hre e he; omega)
        refine ⟨⟨l2, ps ++ [t1, t2], E ++ [(i + 1, 0, -d0 + d), (0, i + 1, -(-d0 + d))], B2, _, _, _, _, _, rfl, nl2, by rw [upd_same, List.map_append]; rfl, ?_, ?_, fun e he => List.mem_append_left _ (hE e he), by rw [List.length_append]; show E.length + 2 ≤ _; omega, hG2⟩, b35.trans (Same.but (zz.trans z4)), ?_, Same.tup (zz.trans z4) hm5⟩
        · rw [List.map_append]
          have e1 := ((hT5.same (zz.trans z4)).snoc (z4 _ _ q1)).snoc (z4 _ _ q2)
          rw [List.append_assoc, List.append_assoc] at e1
          exact e1
        · intro e he
          rcases List.mem_append.mp he with he | he
          · exact hR e he
          · simp only [List.mem_cons, List.not_mem_nil, or_false] at he
            rcases he with rfl | rfl
            · exact ⟨him, h0m⟩
            · exact ⟨h0m, him⟩
        · have eP : z + (i : Nat) + 1 = z + ((i + 1 : Nat) : Int) := by omega
          rw [← eP]
          exact P6.same z4
    · rintro σ H3 ⟨⟨l, ps, E, B', v5, v6, v7, v8, v9, rfl, nlp, hl3, hT3, hR, hE, hEl, hGB⟩, b3, P3, hm3⟩
      refine ⟨_, rfl, a, _, rfl, .inr hm3, _, rfl, ?_⟩
      rw [List.length_map]
      refine ⟨ms.length, l, ps, E, rfl, by omega, hl3, hT3, hR, fun H4 s4 => ⟨fun hn R hLM => ?_, fun hn => absurd (znegs hGB hR) hn⟩⟩
      have S4 : Sized (ms.length + 1) (closedM (ms.length + 1) E) := closed_sized hR
      have h0m : 0 < ms.length + 1 := by omega
      have hm4 := Same.tup (K := K) s4 hm3
      dsimp only [gName]
      refine ⟨_, rfl, a, _, rfl, .inr hm4, _, _, rfl, rfl, 1, _, rfl, ⟨by decide, by decide, by rw [List.length_map]; omega, by rw [List.length_map]; omega⟩, fun D hD => ?_⟩
      rw [em]
      have rowm : ∀ j, j < ms.length → ∃ d, cell B' 0 (j + 1) = some d := fun j hj => by obtain ⟨d, hd, _⟩ := zrow hGB (y := j + 1) (by omega); exact ⟨d, hd⟩
      refine lc_it (walk_range (lo := 1) (n := ms.length)) (fun j H' => Same H4 H' ∧ H' D = some (.lst ((((List.range ms.length).map fun j => -((cell B' 0 (j + 1)).getD 0)).take j).map V.int))) ⟨Same.new hD, upd_same⟩ (fun _ _ _ _ => trivial) ?_ ?_
      · rintro j v H5 H6 hj ⟨q1, q2⟩ ⟨rfl, rfl⟩
        have ej : (1 : Int) + (j : Nat) = ((j + 1 : Nat) : Int) := by omega
        show gName 5 (V.int (1 + ((j : Nat) : Int))) _ _ _
        rw [ej]
        obtain ⟨us0, p0, r1, r2, r3, _, _⟩ := LM.read (K := K) ⟨hLM.1.trans q1, hLM.2.imp fun as h => ⟨h.1.same q1, h.2⟩⟩ S4 h0m
        have c0 := lst_cell S4 h0m (show j + 1 < ms.length + 1 by omega)
        rw [zcell hGB hR h0m (by omega)] at c0
        obtain ⟨d, hd⟩ := rowm j hj
        rw [hd] at c0
        have hg : ((List.range ms.length).map fun j => -((cell B' 0 (j + 1)).getD 0))[j]? = some (-d) := by
          rw [List.getElem?_map, List.getElem?_range hj]
          simp [hd]
        refine ⟨rfl, yes_ ⟨_, rfl, _, _, _, _, rfl, rfl, r1, r2, _, rfl, _, _, _, _, rfl, rfl, r3, c0, _, rfl, _, q2, ?_, Same.set q1 hD, ?_⟩⟩
        · rw [List.length_map, List.length_take]
          exact Nat.lt_of_le_of_lt (Nat.min_le_left _ _) (small1000 (by omega))
        · rw [upd_same, take_snoc hg, List.map_append]; rfl
      · rintro H5 ⟨q1, q2⟩
        have ll : ((List.range ms.length).map fun j => -((cell B' 0 (j + 1)).getD 0)).length = ms.length := by simp
        rw [List.take_of_length_le (Nat.le_of_eq ll)] at q2
        refine ⟨D, _, rfl, .inl ⟨SqL.of q2, fun t ht => ?_⟩⟩
        refine k _ t _ ((b3.trans (Same.but (s4.trans q1))).trans (Same.but (Same.new ht))) (((P3.same (s4.trans q1)).same (Same.new ht)).mono (by omega)) tup_at ll ?_
        refine least_fits G0 hGB (zinr hR) (fun e he => ?_) ll fun j x hx => ?_
        · rcases List.mem_append.mp he with he | he
          · exact List.mem_append_left _ (hE e he)
          · exact List.mem_append_right _ he
        · rw [List.getElem?_map] at hx
          cases hjr : (List.range ms.length)[j]? with
          | none => rw [hjr] at hx; cases hx
          | some j' =>
            obtain ⟨hjl, e⟩ := List.getElem?_eq_some_iff.mp hjr
            rw [List.length_range] at hjl
            rw [List.getElem_range] at e
            subst e
            obtain ⟨d, hd⟩ := rowm j hjl
            rw [hjr] at hx
            simp [hd] at hx
            rw [hd, ← hx, Int.neg_neg]
end
end K1
end
section
set_option maxRecDepth 100000
set_option maxHeartbeats 4000000
namespace K1
open PySem L2 K01
theorem kt_flat {K : PySem.W.Frag} {H : Hp} {n : Nat} {v : V} (h : Flat v) : KT K H n v v := by
  cases h with
  | non => exact .non n
  | bl b => exact .bl n b
  | int i => exact .int n i
  | str z => exact .str n z
theorem kt_row {K : PySem.W.Frag} {H : Hp} {n : Nat} {a b : Addr} {xs : List V} (h1 : SqT K H a xs) (h2 : SqT K H b xs) (hl : xs.length ≤ 500) (hf : ∀ x ∈ xs, Flat x) : KT K H (n + 1) (.ref a) (.ref b) :=
  .tup n h1 h2 rfl hl fun i x y e1 e2 => by
    rw [e1] at e2
    cases e2
    exact kt_flat (hf x (List.mem_of_getElem? e1))
theorem kt_strs {K : PySem.W.Frag} {H : Hp} {n : Nat} {a b : Addr} {ms : List Str} (h1 : strsT K H a ms) (h2 : strsT K H b ms) (hl : ms.length ≤ 500) : KT K H (n + 1) (.ref a) (.ref b) :=
  kt_row h1 h2 (by rw [List.length_map]; exact hl) fun x hx => by
    obtain ⟨z, _, rfl⟩ := List.mem_map.mp hx
    exact .str z
theorem kt_rows {K : PySem.W.Frag} {H : Hp} {n : Nat} {a b : Addr} {fs : List (List V)} (h1 : TTAt K H a fs) (h2 : TTAt K H b fs) (hl : fs.length ≤ 500) (hr : ∀ xs ∈ fs, xs.length ≤ 500) (hf : FlatF fs) : KT K H (n + 2) (.ref a) (.ref b) := by
  obtain ⟨ps, q1, t1⟩ := h1
  obtain ⟨qs, q2, t2⟩ := h2
  refine .tup (n + 1) q1 q2 (by rw [List.length_map, List.length_map, t1.1, t2.1]) (by rw [List.length_map, t1.1]; exact hl) fun i x y e1 e2 => ?_
  obtain ⟨p, hp, rfl⟩ := get_map e1
  obtain ⟨q, hq, rfl⟩ := get_map e2
  obtain ⟨xs, hxs, hpx⟩ := t1.get hp
  obtain ⟨ys, hys, hqy⟩ := t2.get hq
  rw [hxs] at hys
  cases hys
  have hm := List.mem_of_getElem? hxs
  exact kt_row (SqT.of hpx) (SqT.of hqy) (hr xs hm) (hf xs hm)
/-- ('fine', marks, takes, facts) on both sides -/
theorem kt_fine {K : PySem.W.Frag} {H : Hp} {p q a b c a' b' c' : Addr} {ms ts : List Str} {fs : List (List V)} (hp : SqT K H p [.str "fine", .ref a, .ref b, .ref c]) (hq : SqT K H q [.str "fine", .ref a', .ref b', .ref c'])
    (h1 : strsT K H a ms) (h1' : strsT K H a' ms) (h2 : strsT K H b ts) (h2' : strsT K H b' ts) (h3 : TTAt K H c fs) (h3' : TTAt K H c' fs) (l1 : ms.length ≤ 500) (l2 : ts.length ≤ 500) (l3 : fs.length ≤ 500) (hr : ∀ xs ∈ fs, xs.length ≤ 500) (hf : FlatF fs) :
    KT K H 3 (.ref p) (.ref q) := by
  refine .tup 2 hp hq rfl (by show 4 ≤ 500; decide) fun i x y e1 e2 => ?_
  match i, e1, e2 with
  | 0, e1, e2 => cases e1; cases e2; exact .str 2 _
  | 1, e1, e2 => cases e1; cases e2; exact kt_strs h1 h1' l1
  | 2, e1, e2 => cases e1; cases e2; exact kt_strs h2 h2' l2
  | 3, e1, e2 => cases e1; cases e2; exact kt_rows h3 h3' l3 hr hf
  | i + 4, e1, e2 => cases e1
end K1
end
section
set_option maxRecDepth 100000
set_option maxHeartbeats 4000000
namespace K1
open PySem PyProof.Rows L2 K01
theorem kt_tups {K : PySem.W.Frag} {H : Hp} {l m : Addr} {qs ps : List Addr} {F : List Fact} (h1 : H l = some (.lst (qs.map V.ref))) (h2 : H m = some (.lst (ps.map V.ref))) (t1 : TupsAt H qs (F.map factV)) (t2 : TupsAt H ps (F.map factV)) (hl : F.length ≤ 900) : KT K H 2 (.ref l) (.ref m) := by
  refine .lst 1 h1 h2 (by rw [List.length_map, List.length_map, t1.1, t2.1]) (by rw [List.length_map, t1.1, List.length_map]; exact hl) fun i x y e1 e2 => ?_
  obtain ⟨q, hq, rfl⟩ := get_map e1
  obtain ⟨p, hp, rfl⟩ := get_map e2
  obtain ⟨xs, hxs, hqx⟩ := t1.get hq
  obtain ⟨ys, hys, hpy⟩ := t2.get hp
  rw [hxs] at hys
  cases hys
  obtain ⟨f, _, rfl⟩ := get_map hxs
  refine kt_row (SqT.of hqx) (SqT.of hpy) (by show 3 ≤ 500; decide) fun x hx => ?_
  simp only [factV, List.mem_cons, List.not_mem_nil, or_false] at hx
  rcases hx with rfl | rfl | rfl
  · exact .str _
  · exact .str _
  · exact .int _
theorem kt_cell {K : PySem.W.Frag} {H : Hp} {n : Nat} {c : Cell} : KT K H n (cV c) (cV c) := by
  cases c with
  | none => exact .non n
  | some d => exact .int n d
section
variable {P : Program} {w : World} {K : PySem.W.Frag} {mg : Str → Option Value} {base : Heap}
abbrev sTR : Stmt := top 60
def spTR (K : PySem.W.Frag) (C : Addr) : Sp := fun vs H Q _ => ∃ (x a b c p a2 c2 R : Addr) (ms ts : List Str) (MS : List Fact) (B : Mat), vs = [.ref x, .ref a2, .ref c2, .ref R] ∧ ShI K H C x a b c p ms ts MS B ∧ ShG ms MS B ∧ ms.length ≤ 7 ∧ (∀ z ∈ ms, AscZ z) ∧ strsT K H a2 ms ∧ TTAt K H c2 (MS.map factV) ∧
  (∃ as, LMat H R as (closedM (ms.length + 1) (MS.map (eF ms)))) ∧ ∀ H', Same H H' → Q (.bl true) H'
abbrev nsTR : List Str := ["paper", "marks_here", "facts_here", "rows", "nodes", "tight_due", "k", "j", "a", "b", "due", "way", "found"]
theorem scTR : FnScope nsTR ["paper", "marks_here", "facts_here", "rows"] (defScope sTR) := ⟨rfl, rfl, rfl, by decide +kernel, rfl, by decide +kernel, by decide +kernel⟩
theorem ok_tr {f fG fCh fT fK fCR C : Addr} {fd fdG fdCh fdT fdK fdCR : FuncData} (F : Fun K "_law_told_right" "_law_told_right" sTR f fd) (T : Bi mg) (S : ShT K C)
    (mG : Meth K C "__getitem__" fG) (hfn : PySem.W.fnIn K fG = true) (bG : Binds K fdG ["self", "at"] []) (GG : FnOk P w K mg base CX0 3 fG fdG ["self", "at"] (spGet K C))
    (mC : Meth K C "chain" fCh) (bC : Binds K fdCh ["self", "x", "y"] []) (kC : KBn K fdCh ["self", "x", "y"] 1 ["y", "x"] (fun us ws => match us, ws with | [u], [y, x] => [u, x, y] | _, _ => []) (fun us ws => match us, ws with | [u], [y, x] => [u, x, y] | _, _ => [])) (GC : FnOk P w K mg base CX0 5 fCh fdCh ["self", "x", "y"] (spCh K C))
    (mT : Meth K C "tight" fT) (bT : Binds K fdT ["self"] []) (GT : FnOk P w K mg base CX0 3 fT fdT ["self"] (spTi K C))
    (FK : Fun K "_law_kin" "_law_kin" sKin fK fdK) (bK : Binds K fdK ["found", "due"] []) (mK : mg "_law_kin" = some (.ref fK)) (FC : Fun K "_law_chain_right" "_law_chain_right" sCR fCR fdCR) (bR : Binds K fdCR ["marks_here", "facts_here", "x_here", "y_here", "way", "due"] []) (mR : mg "_law_chain_right" = some (.ref fCR)) :
    FnOk P w K mg base CX0 6 f fd ["paper", "marks_here", "facts_here", "rows"] (spTR K C) := by
  have GK : FnOk P w K mg base CX0 3 fK fdK ["found", "due"] (spKin K 3) := ok_kin FK T bK mK 3
  have GR : FnOk P w K mg base CX0 1 fCR fdCR ["marks_here", "facts_here", "x_here", "y_here", "way", "due"] (spCR K) := ok_cr FC T
  refine F.ok scTR (fun vs H Q E h => ?_) (fun cdv A outer s H vs Q E hr h => ?_)
  · obtain ⟨_, _, _, _, _, _, _, _, _, _, _, _, rfl, _⟩ := h
    rfl
  · obtain ⟨x, a, b, c, p, a2, c2, R, ms, ts, MS, B, rfl, hI, hG, hm7, hma, hm, hc, hR, kQ⟩ := h
    have hr1 : Room 1 _ := hr.mono (by decide)
    have hr3 : Room 3 _ := hr.mono (by decide)
    have hr4 : Room 4 _ := hr.mono (by decide)
    refine ⟨_, pss_cons (ps_par (i := 4) (j := 5) rfl scTR.nd rfl rfl (by decide) rfl rfl (pa_cons (pe_op op_catT (pe_tup (pa_cons pe_str pa_nil)) (pv 1)) (pa_cons (pe_lst pa_nil) pa_nil)) rfl)
      (pss_cons (ps_for PassesOwn.never rfl (pi_range1 (by rfl) T.range (pa_cons (pe_callB call_len_seq (by rfl) T.len PySem.boot_len (pa_cons (pv 4) pa_nil)) pa_nil)) (pg_name (i := 6) scTR.nd rfl (.inl rfl))
        (pss_one (ps_for PassesOwn.never rfl (pi_range1 (by rfl) T.range (pa_cons (pe_callB call_len_seq (by rfl) T.len PySem.boot_len (pa_cons (pv 4) pa_nil)) pa_nil)) (pg_name (i := 7) scTR.nd rfl (.inl rfl))
          (pss_cons (ps_par3 (i := 8) (j := 9) (l := 10) rfl scTR.nd rfl rfl rfl (by decide) (by decide) (by decide) rfl rfl rfl (pa_cons (pe_ix ix_tup (pv 4) (pv 6) (fun _ _ => rfl)) (pa_cons (pe_ix ix_tup (pv 4) (pv 7) (fun _ _ => rfl)) (pa_cons (pe_ix ix_list (pe_ix ix_list (pv 3) (pv 6) (fun _ _ => rfl)) (pv 7) (fun _ _ => rfl)) pa_nil))) rfl)
          (pss_cons (ps_set (i := 11) scTR.nd rfl (.inl rfl) (pe_meth (pv 0) S.cl mC GC hr bC .nil pass0 (pa_cons (pv 8) (pa_cons (pv 9) pa_nil))))
          (pss_cons (ps_if (PW.pt (pw_or (pt_not (pt_val (pe_call GK hr3 rfl mK FK.kp bK .nil pass0 (pa_cons (pe_ixO (E := E0) mG hfn GG hr4 bG pass0 (pv 0) (pe_tup (pa_cons (pv 8) (pa_cons (pv 9) pa_nil)))) (pa_cons (pv 10) pa_nil)))))
              (pw_or1 (PW.pt (pw_and (pt_cmpR op_eq (pv 6) (pv 7) (nomark _)) (pw_and1 (PW.pt (pw_or (pt_cmpR (op_neD hr.units) (pv 11) (pe_lst pa_nil) (nomark _)) (pw_or1 (pt_cmpR (op_neD hr.units) (pe_meth (pv 0) S.cl mC GC hr bC .nil pass0 (pa_cons (pv 8) (pa_cons (pv 8) pa_nil))) (pe_lst pa_nil) (nomark _)))))))))))
              (pss_one (ps_ret pe_bl)) pss_nil)
          (pss_cons (ps_if (pt_not (pt_val (pe_call GR hr1 rfl mR FC.kp bR .nil pass0 (pa_cons (pv 1) (pa_cons (pv 2) (pa_cons (pv 8) (pa_cons (pv 9) (pa_cons (pv 11) (pa_cons (pv 10) pa_nil))))))))) (pss_one (ps_ret pe_bl)) pss_nil)
          (pss_cons (ps_if (pt_cmpR op_notN (pv 11) pe_non (nomark _)) (pss_one (ps_expr (pe_bm PySem.F.plainAttrs_list PySem.F.slot_list_append PySem.F.type_list_append mt_append (pv 11) (pa_cons pe_non pa_nil)))) pss_nil)
          (pss_cons (ps_if (pt_not (pt_val (pe_call GR hr1 rfl mR FC.kp bR .nil pass0 (pa_cons (pv 1) (pa_cons (pv 2) (pa_cons (pv 8) (pa_cons (pv 9) (pa_cons (pe_methK (pv 0) S.cl mC GC hr kC pass0 (pk_cons (pv 9) (pk_cons (pv 8) pk_nil))) (pa_cons (pv 10) pa_nil))))))))) (pss_one (ps_ret pe_bl)) pss_nil)
          (pss_one (ps_if (PW.pt (pw_and (pt_cmpR op_ne (pv 6) (pv 7) (nomark _)) (pw_and (pt_cmpR op_notN (pv 10) pe_non (nomark _)) (pw_and1 (PW.pt (pw_or (pt_cmpR op_ne (pv 6) pe_int (nomark _)) (pw_or1 (pt_cmpR op_ne (pv 10) pe_int (nomark _)))))))))
            (pss_one (ps_expr (pe_bm PySem.F.plainAttrs_list PySem.F.slot_list_append PySem.F.type_list_append mt_append (pv 5) (pa_cons (pe_tup (pa_cons (pv 8) (pa_cons (pv 9) (pa_cons (pv 10) pa_nil)))) pa_nil)))) pss_nil)))))))))))
      (pss_cons (ps_set (i := 12) scTR.nd rfl (.inl rfl) (pe_meth0 (pv 0) S.cl mT GT hr3 bT .nil pass0))
      (pss_cons (ps_if (pt_not (pt_val (pe_call GK hr3 rfl mK FK.kp bK .nil pass0 (pa_cons (pv 12) (pa_cons (pv 5) pa_nil))))) (pss_one (ps_ret pe_bl)) pss_nil)
      (pss_cons (ps_expr (pe_bm PySem.F.plainAttrs_list PySem.F.slot_list_append PySem.F.type_list_append mt_append (pv 12) (pa_cons pe_non pa_nil)))
      (pss_one (ps_ret (pe_call GK hr3 rfl mK FK.kp bK .nil pass0 (pa_cons (pe_meth0 (pv 0) S.cl mT GT hr3 bT .nil pass0) (pa_cons (pv 5) pa_nil))))))))), ?_⟩
    obtain ⟨dx, hx⟩ := hI.at_
    obtain ⟨as, hRM⟩ := hR
    have nCh : ∀ {a b c p : Addr}, List.lookup ("chain" : Str) (f5 a b c p) = none := look5 (by decide +kernel)
    have nTi : ∀ {a b c p : Addr}, List.lookup ("tight" : Str) (f5 a b c p) = none := look5 (by decide +kernel)
    have hfl := hG.fl
    have hEin : InR (ms.length + 1) (MS.map (eF ms)) := hG.inn.inR
    have SC : Sized (ms.length + 1) (closedM (ms.length + 1) (MS.map (eF ms))) := closed_sized hEin
    refine ⟨by show 1 ≤ sizeLine; decide, fun t0 ht0 => ⟨_, rfl, ?_⟩⟩
    have s0 : Same H (upd H t0 (.tup [.str "zero"])) := Same.new ht0
    refine catT_it tup_at (Same.tup s0 hm) (by simp) (by rw [List.length_map]; exact Nat.le_of_lt (small1000 (show 1 + ms.length ≤ 1000 by omega))) fun nd H1 s1 hnd => ⟨Nat.zero_le _, fun td htd => ⟨_, _, rfl, ?_⟩⟩
    have hnd : SqT K H1 nd ((nodes ms).map V.str) := hnd
    have s01 := s0.trans s1
    have hI1 := hI.same s01
    have hx1 := s01 _ _ hx
    have hm1 := Same.tup (K := K) s01 hm
    have hc1 := hc.same s01
    have hR1 := hRM.same s01
    have s2 : Same H1 (upd H1 td (.lst [])) := Same.new htd
    have nl : (((nodes ms).map V.str).length) = ms.length + 1 := by rw [List.length_map]; rfl
    refine ⟨_, rfl, nd, _, rfl, .inr (Same.tup s2 hnd), _, rfl, by rw [nl]; omega, by rw [nl]; omega, ?_⟩
    rw [Int.toNat_natCast, nl]
    generalize hn : ms.length + 1 = n at *
    have hn8 : n ≤ 8 := by omega
    refine for_r0 (n := n) (fun i σ H' => (∃ v6 v7 v8 v9 v10 v11 v12 : Option V, σ = [some (.ref x), some (.ref a2), some (.ref c2), some (.ref R), some (.ref nd), some (.ref td), v6, v7, v8, v9, v10, v11, v12]) ∧ Same H1 H' ∧ ∃ ps : List Addr, H' td = some (.lst (ps.map V.ref)) ∧ TupsAt H' ps (((List.range i).flatMap (tightR (nodes ms) B n)).map factV) ∧ ps.length ≤ i * 8)
      ⟨⟨_, _, _, _, _, _, _, rfl⟩, s2, [], upd_same, TupsAt.nil, Nat.zero_le _⟩ ?_ ?_
    · rintro i σ H3 hi ⟨⟨v6, v7, v8, v9, v10, v11, v12, rfl⟩, s3, ps, hps, hpT, hpl⟩
      refine ⟨_, rfl, nd, _, rfl, .inr (Same.tup s3 hnd), _, rfl, by rw [nl]; omega, by rw [nl]; omega, ?_⟩
      rw [Int.toNat_natCast, nl]
      refine for_r0 (n := n) (fun j σ H' => (∃ v7 v8 v9 v10 v11 v12 : Option V, σ = [some (.ref x), some (.ref a2), some (.ref c2), some (.ref R), some (.ref nd), some (.ref td), some (.int (i : Nat)), v7, v8, v9, v10, v11, v12]) ∧ Same H1 H' ∧ ∃ ps : List Addr, H' td = some (.lst (ps.map V.ref)) ∧ TupsAt H' ps (((List.range i).flatMap (tightR (nodes ms) B n) ++ (List.range j).flatMap (tightC (nodes ms) B i)).map factV) ∧ ps.length ≤ i * 8 + j)
        ⟨⟨_, _, _, _, _, _, rfl⟩, s3, ps, hps, by simpa using hpT, hpl⟩ ?_ ?_
      · rintro j σ H4 hj ⟨⟨v7, v8, v9, v10, v11, v12, rfl⟩, s4, ps, hps, hpT, hpl⟩
        have nln : (nodes ms).length = n := by rw [← hn]; rfl
        have hu := List.getElem?_eq_getElem (l := nodes ms) (i := i) (by omega)
        have hv := List.getElem?_eq_getElem (l := nodes ms) (i := j) (by omega)
        generalize (nodes ms)[i]'(by omega) = u at hu
        generalize (nodes ms)[j]'(by omega) = v at hv
        have hum := List.mem_of_getElem? hu
        have hvm := List.mem_of_getElem? hv
        have iu : ix ms u = i := ix_of hG.nd hu
        have iv : ix ms v = j := ix_of hG.nd hv
        have hua : atI ((nodes ms).map V.str) (i : Nat) = some (.str u) := atI_nat (by rw [List.getElem?_map, hu]; rfl)
        have hva : atI ((nodes ms).map V.str) (j : Nat) = some (.str v) := atI_nat (by rw [List.getElem?_map, hv]; rfl)
        have hnd4 := Same.tup (K := K) s4 hnd
        have hR4 := hR1.same s4
        obtain ⟨rp, g1, g2⟩ := hR4.get SC hi
        have cc := lst_cell SC hi hj
        have ceq : cell (closedM n (MS.map (eF ms))) i j = cell B i j := by
          have := rows_cell hG.inn hG.nd hG.good (x := i) (y := j) (by omega) (by omega)
          rw [hn] at this
          exact this
        rw [ceq] at cc
        dsimp only [gName]
        refine ⟨_, rfl, _, rfl, _, _, _, _, rfl, rfl, hnd4, hua, _, rfl, _, rfl, _, _, _, _, rfl, rfl, hnd4, hva, _, rfl, _, rfl, _, _, _, _, rfl, rfl, SqL.of hR4.out, atI_nat (by rw [List.getElem?_map, g1]; rfl), _, rfl, _, _, _, _, rfl, rfl, SqL.of g2, cc, _, _, _, rfl, ?_⟩
        have td1 : ∀ H', Same H4 H' → H' td = some (.lst (ps.map V.ref)) := fun H' s => s _ _ hps
        -- a chain
        have chain : ∀ (H5 : Hp) (Q' : VK), Same H4 H5 → (∀ wy H', Same H5 H' → ((wy = .non ∧ cell B i j = none) ∨ ∃ (l : Addr) (qs : List Addr) (CH : List Fact) (d : Int), wy = .ref l ∧ cell B i j = some d ∧ H5 l = none ∧ H' l = some (.lst (qs.map V.ref)) ∧ qs.length ≤ 2000 ∧ TupsAt H' qs (CH.map factV) ∧ isPath (MS ++ zeros ms) u v d CH ∧ (i = j → qs = [])) → Q' wy H') →
            spCh K C [.ref x, .str u, .str v] H5 Q' E0 := by
          intro H5 Q' s5 q
          refine ⟨x, a, b, c, p, ms, ts, MS, B, u, v, rfl, (hI1.same s4).same s5, hG, hum, hvm, fun hc H' s => q _ H' s (.inl ⟨rfl, by rw [iu, iv] at hc; exact hc⟩), fun d hd H' l qs CH s hl0 he hl hql hT hP => q _ H' s (.inr ⟨l, qs, CH, d, rfl, by rw [iu, iv] at hd; exact hd, hl0, hl, hql, hT, hP, fun e => he ?_⟩)⟩
          subst e
          rw [hu] at hv
          exact Option.some.inj hv
        refine ⟨_, rfl, x, dx, _, rfl, s4 _ _ hx1, nCh, _, rfl, _, rfl, ?_⟩
        dsimp only [tNil, List.append_nil]
        refine chain H4 _ (Same.refl _) fun wy H5 s5 W => ?_
        dsimp only [gName]
        refine seq_gen (fun σ' H' => σ' = [some (.ref x), some (.ref a2), some (.ref c2), some (.ref R), some (.ref nd), some (.ref td), some (.int (i : Nat)), some (.int (j : Nat)), some (.str u), some (.str v), some (cV (cell B i j)), some wy, v12] ∧ Same H5 H') (fun N hN => ?_) ?_
        · refine ⟨_, rfl, _, rfl, _, rfl, by show 2 ≤ sizeLine; decide, fun t ht => ?_⟩
          have s6 : Same H5 (upd H5 t (.tup [.str u, .str v])) := Same.new ht
          have s46 := s5.trans s6
          refine ⟨x, dx, _, rfl, s46 _ _ (s4 _ _ hx1), x, t, a, b, c, p, ms, ts, MS, B, u, v, rfl, (hI1.same s4).same s46, hG, tup_at, hum, hvm, fun H7 s7 => ?_⟩
          rw [iu, iv]
          refine ⟨_, rfl, _, _, rfl, kt_cell, fun H8 s8 => ⟨_, rfl, iteF ?_⟩⟩
          have s58 := (s6.trans s7).trans s8
          refine ⟨_, rfl, _, rfl, rfl, _, rfl, ?_⟩
          by_cases e : i = j
          · subst e
            have huv : u = v := by rw [hu] at hv; exact Option.some.inj hv
            refine iteDT rfl ?_
            obtain ⟨d0, hd0, _⟩ := hG.good.diag0 (x := i) (by omega)
            rcases W with ⟨_, hc⟩ | ⟨l, qs, CH, d, rfl, hc, hl0, hl, hql, hT, hP, hq⟩
            · rw [hd0] at hc; cases hc
            · have hq0 := hq rfl
              subst hq0
              refine ⟨_, rfl, by show 0 ≤ sizeLine; decide, fun e1 he1 => ?_⟩
              have s9 : Same H8 (upd H8 e1 (.lst [])) := Same.new he1
              refine ⟨.list [], .list [], .lst (SqL.of (s9 _ _ (s58 _ _ hl))) .nil, .lst (SqL.of upd_same) .nil, shaped_nil, shaped_nil, _, rfl, ?_⟩
              rw [eqv_nil]
              refine iteF ⟨_, rfl, x, dx, _, rfl, s9 _ _ (s58 _ _ (s5 _ _ (s4 _ _ hx1))), nCh, _, rfl, _, rfl, ?_⟩
              subst huv
              dsimp only [tNil, List.append_nil]
              refine chain _ _ ((s5.trans s58).trans s9) fun wy2 H10 s10 W2 => ?_
              rcases W2 with ⟨_, hc2⟩ | ⟨l2, qs2, CH2, d2, rfl, hc2, hl02, hl2, hql2, hT2, hP2, hq2⟩
              · rw [hd0] at hc2; cases hc2
              · have hq02 := hq2 rfl
                subst hq02
                refine ⟨by show 0 ≤ sizeLine; decide, fun e3 he3 => ?_⟩
                have s11 : Same H10 (upd H10 e3 (.lst [])) := Same.new he3
                refine ⟨.list [], .list [], .lst (SqL.of (s11 _ _ hl2)) .nil, .lst (SqL.of upd_same) .nil, shaped_nil, shaped_nil, _, rfl, ?_⟩
                rw [eqv_nil]
                exact iteF (hN _ _ ⟨rfl, ((s58.trans s9).trans s10).trans s11⟩)
          · exact iteDF (fun q => e (by have := V.int.inj q; omega)) (iteF (hN _ _ ⟨rfl, s58⟩))
        · rintro _ H6 ⟨rfl, s6⟩
          have right : ∀ (wy' : V) (Hw H' : Hp), Same H4 Hw → Same Hw H' → ((wy' = .non ∧ cell B i j = none) ∨ ∃ (l : Addr) (qs : List Addr) (CH : List Fact) (d : Int), wy' = .ref l ∧ cell B i j = some d ∧ H4 l = none ∧ Hw l = some (.lst (qs.map V.ref)) ∧ qs.length ≤ 2000 ∧ TupsAt Hw qs (CH.map factV) ∧ isPath (MS ++ zeros ms) u v d CH) → ∀ Q', (∀ H'', Same H' H'' → Q' (.bl true) H'') →
              spCR K [.ref a2, .ref c2, .str u, .str v, wy', cV (cell B i j)] H' Q' E0 := by
            intro wy' Hw H' sw s' W' Q' hQ
            refine ⟨a2, c2, ms, MS, u, v, wy', _, rfl, Same.tup ((s4.trans sw).trans s') hm1, by omega, hma, hc1.same ((s4.trans sw).trans s'), hfl, hG.inn, hum, hvm, ?_, hQ⟩
            rcases W' with ⟨rfl, hc⟩ | ⟨l, qs, CH, d, rfl, hc, hl0, hl, hql, hT, hP⟩
            · exact .inl ⟨rfl, by rw [hc]; rfl⟩
            · exact .inr ⟨l, qs, CH, d, rfl, by rw [hc]; rfl, s' _ _ hl, hql, hT.same s', hP⟩
          have W5 : (wy = .non ∧ cell B i j = none) ∨ ∃ (l : Addr) (qs : List Addr) (CH : List Fact) (d : Int), wy = .ref l ∧ cell B i j = some d ∧ H4 l = none ∧ H5 l = some (.lst (qs.map V.ref)) ∧ qs.length ≤ 2000 ∧ TupsAt H5 qs (CH.map factV) ∧ isPath (MS ++ zeros ms) u v d CH := by
            rcases W with h | ⟨l, qs, CH, d, h1, h2, h3, h4, h5, h6, h7, h8⟩
            · exact .inl h
            · exact .inr ⟨l, qs, CH, d, h1, h2, h3, h4, h5, h6, h7⟩
          refine ⟨_, rfl, _, rfl, _, rfl, _, rfl, _, rfl, _, rfl, ?_⟩
          dsimp only [tNil, List.append_nil]
          refine right wy H5 H6 s5 s6 W5 _ fun H7 s7 => ⟨_, rfl, iteF ?_⟩
          have s57 := s6.trans s7
          dsimp only [tNext]
          refine seq_gen (fun σ' H' => σ' = [some (.ref x), some (.ref a2), some (.ref c2), some (.ref R), some (.ref nd), some (.ref td), some (.int (i : Nat)), some (.int (j : Nat)), some (.str u), some (.str v), some (cV (cell B i j)), some wy, v12] ∧ Same H4 H') (fun N hN => ?_) ?_
          · refine ⟨_, rfl, rfl, _, rfl, ?_⟩
            rcases W5 with ⟨rfl, hc⟩ | ⟨l, qs, CH, d, rfl, hc, hl0, hl, hql, hT, hP⟩
            · exact iteNS rfl (hN _ _ ⟨rfl, s5.trans s57⟩)
            · have hl7 := s57 _ _ hl
              refine iteNF (fun e => nomatch e) ⟨_, rfl, .inl ⟨rfl, _, SqL.of hl7⟩, l, _, _, rfl, rfl, hl7, ?_, hN _ _ ⟨rfl, Same.set (s5.trans s57) hl0⟩⟩
              rw [List.length_map]
              exact Nat.lt_of_le_of_lt hql (by show 2000 < 16777216; decide)
          · rintro _ H8 ⟨rfl, s8⟩
            refine ⟨_, rfl, _, rfl, _, rfl, _, rfl, _, rfl, x, dx, _, rfl, s8 _ _ (s4 _ _ hx1), nCh, _, rfl, _, rfl, rfl, ?_⟩
            show spCh K C [V.ref x, V.str u, V.str v] _ _ _
            refine chain H8 _ s8 fun wy2 H9 s9 W2 => ?_
            have W9 : (wy2 = .non ∧ cell B i j = none) ∨ ∃ (l : Addr) (qs : List Addr) (CH : List Fact) (d : Int), wy2 = .ref l ∧ cell B i j = some d ∧ H4 l = none ∧ H9 l = some (.lst (qs.map V.ref)) ∧ qs.length ≤ 2000 ∧ TupsAt H9 qs (CH.map factV) ∧ isPath (MS ++ zeros ms) u v d CH := by
              rcases W2 with h | ⟨l, qs, CH, d, h1, h2, h3, h4, h5, h6, h7, h8⟩
              · exact .inl h
              · exact .inr ⟨l, qs, CH, d, h1, h2, s8.free h3, h4, h5, h6, h7⟩
            refine ⟨_, rfl, ?_⟩
            dsimp only [tNil, List.append_nil]
            refine right wy2 H9 H9 (s8.trans s9) (Same.refl _) W9 _ fun H10 s10 => ⟨_, rfl, iteF ?_⟩
            have s410 := (s8.trans s9).trans s10
            have s110 := s4.trans s410
            replace hps := s410 _ _ hps
            replace hpT := hpT.same s410
            have htd10 : H1 td = none := htd
            have skip : tightC (nodes ms) B i j = [] → (∃ v7 v8 v9 v10 v11 v12' : Option V, [some (V.ref x), some (.ref a2), some (.ref c2), some (.ref R), some (.ref nd), some (.ref td), some (.int (i : Nat)), some (.int (j : Nat)), some (.str u), some (.str v), some (cV (cell B i j)), some wy, v12] = [some (.ref x), some (.ref a2), some (.ref c2), some (.ref R), some (.ref nd), some (.ref td), some (.int (i : Nat)), v7, v8, v9, v10, v11, v12']) ∧
                Same H1 H10 ∧ ∃ ps : List Addr, H10 td = some (.lst (ps.map V.ref)) ∧ TupsAt H10 ps (((List.range i).flatMap (tightR (nodes ms) B n) ++ (List.range (j + 1)).flatMap (tightC (nodes ms) B i)).map factV) ∧ ps.length ≤ i * 8 + (j + 1) := fun e =>
              ⟨⟨_, _, _, _, _, _, rfl⟩, s110, ps, hps, by rw [flat_snoc, e, List.append_nil]; exact hpT, by omega⟩
            refine ⟨_, rfl, _, rfl, rfl, _, rfl, ?_⟩
            by_cases e1 : i = j
            · subst e1
              exact iteNS rfl (skip (by unfold tightC; split <;> simp))
            · refine iteNF (fun e => e1 (by have := V.int.inj e; omega)) ⟨_, rfl, rfl, _, rfl, ?_⟩
              cases hcm : cell B i j with
              | none => exact iteNS rfl (by rw [hcm] at skip; exact skip (by unfold tightC; rw [hcm]))
              | some d =>
                rw [hcm] at skip
                have hij : i * 8 + j < 900 := by
                  have : i * 8 ≤ 7 * 8 := Nat.mul_le_mul_right 8 (by omega)
                  omega
                have take : (i ≠ 0 ∨ d ≠ 0) → tightC (nodes ms) B i j = [(u, v, d)] := fun h => by
                  unfold tightC; rw [hcm]
                  simp only []
                  rw [if_pos ⟨e1, h⟩, markAt_get hu, markAt_get hv]
                have put : (i ≠ 0 ∨ d ≠ 0) → ∀ t3, H10 t3 = none → (∃ v7 v8 v9 v10 v11 v12' : Option V, [some (V.ref x), some (.ref a2), some (.ref c2), some (.ref R), some (.ref nd), some (.ref td), some (.int (i : Nat)), some (.int (j : Nat)), some (.str u), some (.str v), some (cV (some d)), some wy, v12] = [some (.ref x), some (.ref a2), some (.ref c2), some (.ref R), some (.ref nd), some (.ref td), some (.int (i : Nat)), v7, v8, v9, v10, v11, v12']) ∧
                    Same H1 (upd (upd H10 t3 (.tup [.str u, .str v, .int d])) td (.lst (ps.map V.ref ++ [.ref t3]))) ∧ ∃ qs : List Addr, (upd (upd H10 t3 (.tup [.str u, .str v, .int d])) td (.lst (ps.map V.ref ++ [.ref t3]))) td = some (.lst (qs.map V.ref)) ∧
                    TupsAt (upd (upd H10 t3 (.tup [.str u, .str v, .int d])) td (.lst (ps.map V.ref ++ [.ref t3]))) qs (((List.range i).flatMap (tightR (nodes ms) B n) ++ (List.range (j + 1)).flatMap (tightC (nodes ms) B i)).map factV) ∧ qs.length ≤ i * 8 + (j + 1) := fun h t3 ht3 => by
                  have nlt : t3 ≠ td := fun e => by rw [e, hps] at ht3; cases ht3
                  refine ⟨⟨_, _, _, _, _, _, rfl⟩, Same.set (s110.trans (Same.new ht3)) htd, ps ++ [t3], by rw [upd_same, List.map_append]; rfl, ?_, by rw [List.length_append, List.length_singleton]; omega⟩
                  rw [flat_snoc, take h, ← List.append_assoc, List.map_append (f := factV) (l₂ := [(u, v, d)])]
                  exact TupsAt.upd (xs := ps.map V.ref) ((upd_ne nlt.symm).trans hps) ((hpT.same (Same.new ht3)).snoc upd_same)
                refine iteNF (fun e => nomatch e) ⟨_, rfl, rfl, _, rfl, ?_⟩
                by_cases e2 : i = 0
                · refine iteNS (by rw [e2]; rfl) ⟨_, rfl, rfl, _, rfl, ?_⟩
                  by_cases e3 : d = 0
                  · exact iteNS (by rw [e3]; rfl) (skip (by unfold tightC; rw [hcm]; simp [e2, e3]))
                  · refine iteNF (fun e => e3 (V.int.inj e)) ⟨_, rfl, .inl ⟨rfl, _, SqL.of hps⟩, _, rfl, _, rfl, _, rfl, by show 3 ≤ sizeLine; decide, fun t3 ht3 => ?_⟩
                    exact ⟨td, _, _, rfl, rfl, Same.new ht3 _ _ hps, by rw [List.length_map]; exact small1000 (by omega), put (.inr e3) t3 ht3⟩
                · refine iteNF (fun e => e2 (by have := V.int.inj e; omega)) ⟨_, rfl, .inl ⟨rfl, _, SqL.of hps⟩, _, rfl, _, rfl, _, rfl, by show 3 ≤ sizeLine; decide, fun t3 ht3 => ?_⟩
                  exact ⟨td, _, _, rfl, rfl, Same.new ht3 _ _ hps, by rw [List.length_map]; exact small1000 (by omega), put (.inl e2) t3 ht3⟩
      · rintro σ H4 ⟨⟨v7, v8, v9, v10, v11, v12, rfl⟩, s4, ps, hps, hpT, hpl⟩
        exact ⟨⟨_, _, _, _, _, _, _, rfl⟩, s4, ps, hps, by rw [flat_snoc]; exact hpT, by omega⟩
    · rintro σ H3 ⟨⟨v6, v7, v8, v9, v10, v11, v12, rfl⟩, s3, ps, hps, hpT, hpl⟩
      have told : ∀ (H4 : Hp) (Q' : VK), Same H3 H4 → (∀ H' l qs, Same H4 H' → H3 l = none → H' l = some (.lst (qs.map V.ref)) → TupsAt H' qs ((tightL (nodes ms) B n).map factV) → KT K H' 2 (.ref l) (.ref td) → Q' (.ref l) H') → spTi K C [.ref x] H4 Q' E0 := by
        intro H4 Q' s4 q
        refine ⟨x, a, b, c, p, ms, ts, MS, B, rfl, (hI1.same s3).same s4, hG, fun H' l qs s h0 hl hT hql => ?_⟩
        rw [hn] at hT
        refine q H' l qs s (s4.free h0) hl hT (kt_tups hl ((s4.trans s) _ _ hps) hT (hpT.same (s4.trans s)) ?_)
        have := hT.1
        rw [List.length_map] at this
        omega
      refine ⟨_, rfl, x, dx, _, rfl, s3 _ _ hx1, nTi, ?_⟩
      dsimp only [tNil, List.append_nil]
      refine told H3 _ (Same.refl _) fun H4 l qs s4 hl0 hl hT hk => ?_
      dsimp only [gName]
      refine ⟨_, rfl, _, rfl, _, _, rfl, hk, fun H5 s5 => ⟨_, rfl, iteF ?_⟩⟩
      have hl5 := s5 _ _ hl
      have hql : qs.length ≤ 1000 := by
        have h1 := hT.1
        have h2 := hpT.1
        have e : tightL (nodes ms) B n = (List.range n).flatMap (tightR (nodes ms) B n) := rfl
        rw [e] at h1
        omega
      refine ⟨_, rfl, .inl ⟨rfl, _, SqL.of hl5⟩, l, _, _, rfl, rfl, hl5, by rw [List.length_map]; exact small1000 hql, ?_⟩
      have s6 : Same H3 (upd H5 l (.lst (qs.map V.ref ++ [.non]))) := Same.set (s4.trans s5) hl0
      refine ⟨_, rfl, x, dx, _, rfl, s6 _ _ (s3 _ _ hx1), nTi, ?_⟩
      dsimp only [tNil, List.append_nil]
      refine told _ _ s6 fun H7 l2 qs2 s7 hl02 hl2 hT2 hk2 => ?_
      exact ⟨_, rfl, _, _, rfl, hk2, fun H8 s8 => kQ H8 ((((s01.trans s3).trans s6).trans s7).trans s8)⟩
end
end K1
end
section
set_option maxRecDepth 100000
set_option maxHeartbeats 4000000
namespace K1
open PySem PyProof.Rows L2 K01
theorem ShI.but {K : PySem.W.Frag} {H H' : Hp} {C x a b c p q : Addr} {ms ts : List Str} {MS : List Fact} {B : Mat} {z : Int} (hq : PitAt H q z) (e : But q H H') (h : ShI K H C x a b c p ms ts MS B) : ShI K H' C x a b c p ms ts MS B := by
  obtain ⟨dx, h1⟩ := h.at_
  obtain ⟨as, m1, m2, m3⟩ := h.hp
  refine ⟨⟨dx, e _ _ (fun z => ?_) h1⟩, hq.tup e h.ha, hq.tup e h.hb, hq.tt e h.hc, as, m1, hq.tup e m2, fun i r row e1 e2 => hq.tup e (m3 i r row e1 e2)⟩
  obtain ⟨_, _, _, g, _⟩ := hq
  rw [z, g] at h1
  cases h1
theorem cut_neg1 (xs : List V) : cutV xs none (some (-1)) = xs.take (xs.length - 1) := by
  unfold cutV
  have h0 : HT.sIx xs.length 0 none = 0 := rfl
  have h1 : HT.sIx xs.length xs.length (some (-1)) = xs.length - 1 := by
    show (if (-1 : Int) < 0 then ((-1 : Int) + (xs.length : Int)).toNat else min ((-1 : Int)).toNat xs.length) = xs.length - 1
    rw [if_pos (by decide)]
    omega
  rw [h0, h1, List.drop_zero, Nat.sub_zero]
section
variable {P : Program} {w : World} {K : PySem.W.Frag} {mg : Str → Option Value} {base : Heap}
abbrev sIR : Stmt := top 61
def spIR (K : PySem.W.Frag) (C : Addr) : Sp := fun vs H Q _ => ∃ (q x a b c p a2 c2 : Addr) (ms ts : List Str) (MS : List Fact) (B : Mat) (far z : Int), vs = [.ref q, .ref x, .ref a2, .ref c2, .int far] ∧ PitAt H q z ∧ z ≤ 800000 ∧ ShI K H C x a b c p ms ts MS B ∧ ShG ms MS B ∧ 1 ≤ ms.length ∧ strsT K H a2 ms ∧ TTAt K H c2 (MS.map factV) ∧ 0 ≤ far ∧ far ≤ 10 ^ 12 ∧
  ∀ H', But q H H' → PitAt H' q (z + 50) → Q (.bl true) H'
abbrev nsIR : List Str := ["pit", "paper", "marks_here", "facts_here", "far", "places", "trial", "k", "shift", "mate"]
theorem scIR : FnScope nsIR ["pit", "paper", "marks_here", "facts_here", "far"] (defScope sIR) := ⟨rfl, rfl, rfl, by decide +kernel, rfl, by decide +kernel, by decide +kernel⟩
theorem ok_ir {f fD fI fK fH C : Addr} {fd fdD fdI fdK fdH : FuncData} (F : Fun K "_law_inside_right" "_law_inside_right" sIR f fd) (T : Bi mg) (S : ShT K C)
    (FD : Fun K "_law_drawn_recording" "_law_drawn_recording" sDR fD fdD) (bD : Binds K fdD ["pit", "marks_here", "facts_here", "far"] []) (mD : mg "_law_drawn_recording" = some (.ref fD)) (GD : FnOk P w K mg base CX0 2 fD fdD ["pit", "marks_here", "facts_here", "far"] (spDR K))
    (mI : Meth K C "__contains__" fI) (bI : Binds K fdI ["self", "numbers"] []) (GI : FnOk P w K mg base CX0 3 fI fdI ["self", "numbers"] (spIn K C))
    (FK : Fun K "_law_keeps" "_law_keeps" sKp fK fdK) (bK : Binds K fdK ["marks_here", "facts_here", "places"] []) (mK : mg "_law_keeps" = some (.ref fK)) (GK : FnOk P w K mg base CX0 2 fK fdK ["marks_here", "facts_here", "places"] (spKp K))
    (FH : Fun K "_law_hoist" "_law_hoist" sHoist fH fdH) (bH : Binds K fdH ["pit", "below"] []) (mH : mg "_law_hoist" = some (.ref fH)) : FnOk P w K mg base CX0 4 f fd ["pit", "paper", "marks_here", "facts_here", "far"] (spIR K C) := by
  have GH : FnOk P w K mg base CX0 1 fH fdH ["pit", "below"] (spHoist K) := ok_hoist FH T
  refine F.ok scIR (fun vs H Q E h => ?_) (fun cdv A outer s H vs Q E hr h => ?_)
  · obtain ⟨_, _, _, _, _, _, _, _, _, _, _, _, _, _, rfl, _⟩ := h
    rfl
  · obtain ⟨q, x, a, b, c, p, a2, c2, ms, ts, MS, B, far, z, rfl, hq, hz, hI, hG, hm1, ha2, hc2, hf0, hf1, kQ⟩ := h
    have hr1 : Room 1 _ := hr.mono (by decide)
    have hr2 : Room 2 _ := hr.mono (by decide)
    refine ⟨_, pss_cons (ps_set (i := 5) scIR.nd rfl (.inl rfl) (pe_call GD hr2 rfl mD FD.kp bD .nil pass0 (pa_cons (pv 0) (pa_cons (pv 2) (pa_cons (pv 3) (pa_cons (pv 4) pa_nil))))))
      (pss_cons (ps_if (PW.pt (pw_or (pt_not (pt_cmpR (op_inO (E := E0) mI GI hr bI pass0) (pv 5) (pv 1) (by rfl))) (pw_or (pt_cmpR (op_inO (E := E0) mI GI hr bI pass0) (pe_op op_catA (pv 5) (pe_tup (pa_cons pe_int pa_nil))) (pv 1) (by rfl))
          (pw_or (pt_cmpR (op_inO (E := E0) mI GI hr bI pass0) (pe_slice sl_tupA (pv 5) po_none (po_some (pe_un un_neg pe_int))) (pv 1) (by rfl)) (pw_or1 (pt_cmpR (op_inO (E := E0) mI GI hr bI pass0) (pe_tup pa_nil) (pv 1) (by rfl))))))) (pss_one (ps_ret pe_bl)) pss_nil)
      (pss_cons (ps_for PassesOwn.never rfl (pi_range1 (by rfl) T.range (pa_cons pe_int pa_nil)) (pg_name (i := 6) scIR.nd rfl (.inl rfl))
        (pss_cons (ps_set (i := 7) scIR.nd rfl (.inl rfl) (pe_call GH hr1 rfl mH FH.kp bH .nil pass0 (pa_cons (pv 0) (pa_cons (pe_callB call_len_seq (by rfl) T.len PySem.boot_len (pa_cons (pv 5) pa_nil)) pa_nil))))
        (pss_cons (ps_set (i := 8) scIR.nd rfl (.inl rfl) (pe_ix ix_list (pe_lst (pa_cons pe_int (pa_cons (pe_un un_neg pe_int) (pa_cons (pv 4) (pa_cons (pe_un un_neg (pv 4)) (pa_cons pe_int pa_nil)))))) (pe_call GH hr1 rfl mH FH.kp bH .nil pass0 (pa_cons (pv 0) (pa_cons pe_int pa_nil))) (fun _ _ => rfl)))
        (pss_cons (ps_set (i := 9) scIR.nd rfl (.inl rfl) (pe_op op_catA (pe_op op_catA (pe_slice sl_tupA (pv 5) po_none (po_some (pv 7))) (pe_tup (pa_cons (pe_op op_add (pe_ix ix_tup (pv 5) (pv 7) (fun _ _ => rfl)) (pv 8)) pa_nil))) (pe_slice sl_tupA (pv 5) (po_some (pe_op op_add (pv 7) pe_int)) po_none)))
        (pss_one (ps_if (pt_cmpR op_ne (pe_cmpR (op_inO (E := E0) mI GI hr bI pass0) (pv 9) (pv 1) (by rfl)) (pe_call GK hr2 rfl mK FK.kp bK .nil pass0 (pa_cons (pv 2) (pa_cons (pv 3) (pa_cons (pv 9) pa_nil)))) (nomark _)) (pss_one (ps_ret pe_bl)) pss_nil))))))
      (pss_one (ps_ret pe_bl)))), ?_⟩
    have hml := hG.ml
    refine ⟨_, rfl, _, rfl, _, rfl, _, rfl, q, a2, c2, ms, MS, B, far, z, rfl, hq, by omega, ha2, hG, hc2, hf0, hf1, fun H1 t xs b1 P1 ht hxl hFit => ?_⟩
    have hI1 := hI.but hq b1
    have ha21 := hq.tup b1 ha2
    have hc21 := hq.tt b1 hc2
    dsimp only [gName]
    -- is such a tuple in the sheet?
    have ask : ∀ (H' : Hp) (u : Addr) (ys : List Int) (Q' : VK), ShI K H' C x a b c p ms ts MS B → SqT K H' u (ys.map V.int) → ys.length ≤ 900 → (∀ r H'', (r = true ↔ ys.length = ms.length ∧ Fits (ms.length + 1) B (0 :: ys)) → Same H' H'' → Q' (.bl (r != false)) H'') →
        rInO C (spIn K C) E0 false (.ref u) (.ref x) H' Q' := by
      intro H' u ys Q' hI' hu hl hQ
      obtain ⟨dx, hx⟩ := hI'.at_
      exact ⟨x, dx, _, rfl, hx, x, a, b, c, p, u, ms, ts, MS, B, ys, rfl, hI', hG, hu, hl, fun r H'' hr' s => ⟨r, rfl, hQ r H'' hr' s⟩⟩
    have no : ∀ {ys : List Int} {r : Bool}, ys.length ≠ ms.length → (r = true ↔ ys.length = ms.length ∧ Fits (ms.length + 1) B (0 :: ys)) → r = false := fun hne hr' => Bool.eq_false_iff.mpr fun h => hne (hr'.mp h).1
    refine ⟨_, rfl, _, rfl, ask H1 t xs _ hI1 ht (by omega) fun r H2 hr' s2 => ?_⟩
    have hrt : r = true := hr'.mpr ⟨hxl, hFit⟩
    subst hrt
    refine ⟨_, rfl, iteF ?_⟩
    have ht2 := Same.tup (K := K) s2 ht
    refine ⟨_, rfl, by show 1 ≤ sizeLine; decide, fun t1 ht1 => ?_⟩
    have s3 : Same H2 (upd H2 t1 (.tup [.int 0])) := Same.new ht1
    refine catA_it (Same.tup s3 ht2) tup_at (by rw [List.length_map]; exact Nat.le_of_lt (small1000 (show xs.length + 1 ≤ 1000 by omega))) fun u H4 s4 hu => ?_
    have hu : SqT K H4 u ((xs ++ [0]).map V.int) := by rw [List.map_append]; exact hu
    have s14 := (s2.trans s3).trans s4
    refine ⟨_, rfl, ask H4 u (xs ++ [0]) _ (hI1.same s14) hu (by rw [List.length_append, List.length_singleton]; omega) fun r H5 hr' s5 => ?_⟩
    have hrf := no (by rw [List.length_append, List.length_singleton]; omega) hr'
    subst hrf
    refine ⟨_, rfl, iteF ?_⟩
    have s15 := s14.trans s5
    refine ⟨_, rfl, _, rfl, _, rfl, slA_it (Same.tup s15 ht) fun u2 H6 s6 hu2 => ?_⟩
    have hu2 : SqT K H6 u2 ((xs.take (xs.length - 1)).map V.int) := by rw [List.map_take]; have := cut_neg1 (xs.map V.int); rw [List.length_map] at this; rw [← this]; exact hu2
    refine ⟨_, rfl, ask H6 u2 (xs.take (xs.length - 1)) _ ((hI1.same s15).same s6) hu2 (by rw [List.length_take]; omega) fun r H7 hr' s7 => ?_⟩
    have hrf := no (by rw [List.length_take]; omega) hr'
    subst hrf
    refine ⟨_, rfl, iteF ?_⟩
    refine ⟨by show 0 ≤ sizeLine; decide, fun e he => ⟨_, rfl, ask _ e [] _ (((hI1.same s15).same (s6.trans s7)).same (Same.new he)) tup_at (by decide) fun r H8 hr' s8 => ?_⟩⟩
    have hrf := no (by show 0 ≠ _; omega) hr'
    subst hrf
    refine ⟨_, rfl, iteF ?_⟩
    have s18 := ((s15.trans (s6.trans s7)).trans (Same.new (o := .tup []) he)).trans s8
    dsimp only [tNext]
    refine ⟨_, rfl, by omega, by omega, ?_⟩
    refine for_r0 (n := 6) (fun i σ H' => (∃ v6 v7 v8 v9 : Option V, σ = [some (.ref q), some (.ref x), some (.ref a2), some (.ref c2), some (.int far), some (.ref t), v6, v7, v8, v9]) ∧ But q H H' ∧ PitAt H' q (z + 28 + 2 * i) ∧ ShI K H' C x a b c p ms ts MS B ∧ strsT K H' a2 ms ∧ TTAt K H' c2 (MS.map factV) ∧ SqT K H' t (xs.map V.int))
      ⟨⟨_, _, _, _, rfl⟩, b1.trans (Same.but s18), by simpa using P1.same s18, hI1.same s18, Same.tup s18 ha21, hc21.same s18, Same.tup s18 ht⟩ ?_ ?_
    · rintro i σ G1 hi ⟨⟨v6, v7, v8, v9, rfl⟩, bG, PG, hIG, haG, hcG, htG⟩
      refine ⟨_, rfl, _, rfl, t, _, rfl, .inr htG, q, _, _, rfl, PG, by omega, by rw [List.length_map]; omega, by rw [List.length_map]; omega, fun G2 d b2 P2 l2 u2 => ?_⟩
      rw [List.length_map] at u2
      obtain ⟨kk, rfl⟩ := Int.eq_ofNat_of_zero_le l2
      have hkk : kk < xs.length := by omega
      have hIG2 := hIG.but PG b2
      have haG2 := PG.tup b2 haG
      have hcG2 := PG.tt b2 hcG
      have htG2 := PG.tup b2 htG
      dsimp only [gName]
      refine ⟨_, rfl, _, rfl, _, rfl, _, rfl, by show 5 ≤ sizeLine; decide, fun l hl => ?_⟩
      have sl : Same G2 (upd G2 l (.lst [.int 1, .int (-1), .int far, .int (-far), .int 2])) := Same.new hl
      have nl := P2.ne hl
      have Pl := P2.same sl
      refine ⟨_, rfl, q, 5, _, rfl, Pl, by omega, by decide, by decide, fun G3 d3 b3 P3 l3 u3 => ?_⟩
      obtain ⟨sh, hat⟩ : ∃ sh : Int, atI [V.int 1, V.int (-1), V.int far, V.int (-far), V.int 2] d3 = some (.int sh) := by
        have : d3 = 0 ∨ d3 = 1 ∨ d3 = 2 ∨ d3 = 3 ∨ d3 = 4 := by omega
        rcases this with rfl | rfl | rfl | rfl | rfl
        · exact ⟨_, at_of (j := 0) rfl rfl⟩
        · exact ⟨_, at_of (j := 1) rfl rfl⟩
        · exact ⟨_, at_of (j := 2) rfl rfl⟩
        · exact ⟨_, at_of (j := 3) rfl rfl⟩
        · exact ⟨_, at_of (j := 4) rfl rfl⟩
      refine ⟨l, _, _, _, rfl, rfl, SqL.of (b3 _ _ nl upd_same), hat, ?_⟩
      have hIG3 := (hIG2.same sl).but Pl b3
      have haG3 := Pl.tup b3 (Same.tup (K := K) sl haG2)
      have hcG3 := Pl.tt b3 (hcG2.same sl)
      have htG3 := Pl.tup b3 (Same.tup (K := K) sl htG2)
      have bG3 := ((bG.trans b2).trans (Same.but sl)).trans b3
      dsimp only [gName]
      have hxk := List.getElem?_eq_getElem hkk
      generalize xs[kk] = xk at hxk
      have hxa : atI (xs.map V.int) (kk : Nat) = some (.int xk) := atI_nat (by rw [List.getElem?_map, hxk]; rfl)
      refine ⟨_, rfl, _, rfl, _, rfl, slA_it htG3 fun w1 G4 s4 hw1 => ?_⟩
      rw [cut_take] at hw1
      refine ⟨_, rfl, _, rfl, _, _, _, _, rfl, rfl, Same.tup s4 htG3, hxa, _, rfl, _, _, rfl, rfl, by show 1 ≤ sizeLine; decide, fun w2 hw2 => ?_⟩
      have s5 : Same G4 (upd G4 w2 (.tup [.int (xk + sh)])) := Same.new hw2
      refine catA_it (Same.tup s5 hw1) tup_at ?_ fun w3 G6 s6' hw3 => ?_
      · rw [List.length_take, List.length_map]
        exact Nat.le_of_lt (small1000 (show min kk xs.length + 1 ≤ 1000 by omega))
      have s46 := (s4.trans s5).trans s6'
      refine ⟨_, rfl, _, rfl, _, _, rfl, rfl, _, rfl, ?_⟩
      dsimp only [tNoPart]
      refine slA_it (Same.tup s46 htG3) fun w4 G7 s7' hw4 => ?_
      have ec : (kk : Int) + 1 = ((kk + 1 : Nat) : Int) := by omega
      rw [ec, cut_drop] at hw4
      refine catA_it (Same.tup s7' hw3) hw4 ?_ fun w5 G8 s8' hw5 => ?_
      · rw [List.length_append, List.length_take, List.length_drop, List.length_map]
        exact Nat.le_of_lt (small1000 (show min kk xs.length + 1 + (xs.length - (kk + 1)) ≤ 1000 by omega))
      have hw5 : SqT K G8 w5 (((xs.take kk ++ [xk + sh]) ++ xs.drop (kk + 1)).map V.int) := by
        rw [List.map_append, List.map_append, List.map_take, List.map_drop]
        exact hw5
      have yl : ((xs.take kk ++ [xk + sh]) ++ xs.drop (kk + 1)).length = ms.length := by
        rw [List.length_append, List.length_append, List.length_take, List.length_drop, List.length_singleton]
        omega
      generalize (xs.take kk ++ [xk + sh]) ++ xs.drop (kk + 1) = ys at hw5 yl
      have s38 := (s46.trans s7').trans s8'
      dsimp only [gName]
      refine ⟨_, rfl, _, rfl, ask G8 w5 ys _ (hIG3.same s38) hw5 (by omega) fun r G9 hr' s9 => ?_⟩
      refine ⟨_, rfl, _, rfl, _, rfl, a2, c2, w5, ms, MS, ys, rfl, Same.tup (s38.trans s9) haG3, hml, hcG3.same (s38.trans s9), hG.fl, hG.inn, Same.tup s9 hw5, yl, fun r2 G10 hr2 s10 => ?_⟩
      have s310 := (s38.trans s9).trans s10
      have rr : r = r2 := by
        have h1 := fits_keeps (B := B) hG yl
        exact Bool.eq_iff_iff.mpr ⟨fun h => hr2.mpr (h1.mp (hr'.mp h).2), fun h => hr'.mpr ⟨yl, h1.mpr (hr2.mp h)⟩⟩
      refine ⟨rfl, _, rfl, iteNS (by rw [rr]; simp) ?_⟩
      have eP : z + 28 + 2 * (i : Int) + 1 + 1 = z + 28 + 2 * ((i + 1 : Nat) : Int) := by omega
      rw [eP] at P3
      exact ⟨⟨_, _, _, _, rfl⟩, bG3.trans (Same.but s310), P3.same s310, hIG3.same s310, Same.tup s310 haG3, hcG3.same s310, Same.tup s310 htG3⟩
    · rintro σ G1 ⟨⟨v6, v7, v8, v9, rfl⟩, bG, PG, hIG, haG, hcG, htG⟩
      exact kQ G1 bG (PG.mono (by omega))
end
end K1
end
section
set_option maxRecDepth 100000
set_option maxHeartbeats 4000000
namespace K1
open PySem PyProof.Rows L2 K01
/-- an expression that is never come to -/
def tNever : L2.TE := fun _ _ _ => False
theorem pe_dead {X : Cx} {e : Expr} : PE X e tNever := ⟨fun _ _ _ _ _ _ h => h.elim⟩
section
variable {P : Program} {w : World} {K : PySem.W.Frag} {mg : Str → Option Value} {base : Heap}
/-! ### a line of no names -/
abbrev sLL : Stmt := top 25
def spLL (K : PySem.W.Frag) : Sp := fun vs H Q _ => ∃ (h : Str) (a : Addr), vs = [.str h, .ref a] ∧ SqT K H a [] ∧ Q (.str h) H
theorem scLL : FnScope ["head", "names", "joined"] ["head", "names"] (defScope sLL) := ⟨rfl, rfl, rfl, by decide +kernel, rfl, by decide +kernel, by decide +kernel⟩
theorem ok_ll {f : Addr} {fd : FuncData} (F : Fun K "list_line" "list_line" sLL f fd) : FnOk P w K mg base CX0 1 f fd ["head", "names"] (spLL K) := by
  refine F.ok scLL (fun vs H Q E h => ?_) (fun cdv A outer s H vs Q E hr h => ?_)
  · obtain ⟨_, _, rfl, _⟩ := h
    rfl
  · obtain ⟨h, a, rfl, ha, k⟩ := h
    refine ⟨_, pss_cons (ps_if (pt_not (pt_truth (pv 1) (by intro _; rfl))) (pss_one (ps_ret (pv 0))) pss_nil) (pss_cons ps_dead (pss_one ps_dead)), ?_⟩
    exact ⟨_, rfl, false, .inr (.inl ⟨[], ha, rfl⟩), iteT (⟨_, rfl, k⟩)⟩
/-! ### the lines of the bare sheet -/
abbrev sTL : Stmt := top 46
def spTL (K : PySem.W.Frag) (C : Addr) : Sp := fun vs H Q _ => ∃ (x a b c p dx : Addr), vs = [.ref x] ∧ H x = some (.ins C dx (f5 a b c p)) ∧ SqT K H a [] ∧ SqT K H b [] ∧ SqT K H c [] ∧
  ∀ H' l, Same H H' → H' l = some (.lst [.str "marks:", .str "takes:"]) → Q (.ref l) H'
theorem scTL : FnScope ["sheet", "lines", "x", "y", "number"] ["sheet"] (defScope sTL) := ⟨rfl, rfl, rfl, by decide +kernel, rfl, by decide +kernel, by decide +kernel⟩
theorem ok_tl {f fL C : Addr} {fd fdL : FuncData} (F : Fun K "text_lines" "text_lines" sTL f fd) (S : ShT K C) (FL : Fun K "list_line" "list_line" sLL fL fdL) (bL : Binds K fdL ["head", "names"] []) (mL : mg "list_line" = some (.ref fL)) :
    FnOk P w K mg base CX0 2 f fd ["sheet"] (spTL K C) := by
  have GL : FnOk P w K mg base CX0 1 fL fdL ["head", "names"] (spLL K) := ok_ll FL
  refine F.ok scTL (fun vs H Q E h => ?_) (fun cdv A outer s H vs Q E hr h => ?_)
  · obtain ⟨_, _, _, _, _, _, rfl, _⟩ := h
    rfl
  · obtain ⟨x, a, b, c, p, dx, rfl, hx, ha, hb, hc, k⟩ := h
    refine ⟨_, pss_cons (ps_set (i := 1) scTL.nd rfl (.inl rfl) (pe_lst (pa_cons (pe_call GL hr rfl mL FL.kp bL .nil pass0 (pa_cons pe_str (pa_cons (pe_fld (pv 0) rfl) pa_nil))) (pa_cons (pe_call GL hr rfl mL FL.kp bL .nil pass0 (pa_cons pe_str (pa_cons (pe_fld (pv 0) rfl) pa_nil))) pa_nil))))
      (pss_cons (ps_expr (pe_bm PySem.F.plainAttrs_list PySem.F.slot_list_extend PySem.F.type_list_extend mt_extend (pv 1) (pa_cons (pe_lc (own := [("x", 2), ("y", 3), ("number", 4)]) (g := gTup K 3 (gCons (gName 2) (gCons (gName 3) (gCons (gName 4) gNil)))) (te := tNever) rfl scTL.nd (pi_tup (pe_fld (pv 0) rfl)) (blkOk_by (N := ["sheet", "lines", "x", "y", "number"]) (sc := defScope sTL) (by decide +kernel))
          (fun _ _ _ _ _ => pg_tup rfl (pgs_cons (pg_name (i := 2) scTL.nd rfl (.inl rfl)) (pgs_cons (pg_name (i := 3) scTL.nd rfl (.inl rfl)) (pgs_cons (pg_name (i := 4) scTL.nd rfl (.inl rfl)) pgs_nil)))) (fun _ _ _ _ _ => pts_nil) (fun _ _ _ _ _ => pe_dead)) pa_nil)))
      (pss_one (ps_ret (pv 1)))), ?_⟩
    refine ⟨_, rfl, x, C, dx, _, _, rfl, hx, S.cl, S.nm, look_m, _, a, rfl, ha, ?_⟩
    refine ⟨_, rfl, x, C, dx, _, _, rfl, hx, S.cl, S.nt, look_t, _, b, rfl, hb, ?_⟩
    refine ⟨by show 2 ≤ sizeLine; decide, fun l hl => ?_⟩
    have s1 : Same H (upd H l (.lst [.str "marks:", .str "takes:"])) := Same.new hl
    refine ⟨_, rfl, .inl ⟨rfl, _, SqL.of upd_same⟩, _, rfl, x, C, dx, _, _, rfl, s1 _ _ hx, S.cl, S.nf, look_f, c, rfl, ⟨_, Same.tup s1 hc⟩, fun D hD => ?_⟩
    refine lc_it (walk_tup (K := K) (a := c) (xs := [])) (fun i H' => Same (upd H l (.lst [.str "marks:", .str "takes:"])) H' ∧ H' D = some (.lst [])) ⟨Same.new hD, upd_same⟩ (fun i H' _ u => Same.tup (u.1) (Same.tup s1 hc)) ?_ ?_
    · rintro i v Ha Hb hi ⟨q1, q2⟩ ⟨rfl, hv⟩
      exact absurd hi (Nat.not_lt_zero _)
    · rintro H2 ⟨q1, q2⟩
      have hl2 := q1 _ _ (upd_same (H := H) (a := l))
      refine ⟨l, D, _, _, rfl, rfl, hl2, q2, by show 2 + 0 ≤ sizeLine; decide, ?_⟩
      refine ⟨_, rfl, k _ l (fun o v e => ?_) upd_same⟩
      rw [upd_ne (fun z => by rw [z, hl] at e; cases e)]
      exact q1 _ _ (s1 _ _ e)
/-! ### its text -/
def tLine : L2.TE := fun σ H Q => tJs [tFmt (tVar 1), tC (.str "\n")] Str.empty σ H fun out H1 => Q (.str out) H1
abbrev sSt : Stmt := inClass (top 47) 16
def spSt (K : PySem.W.Frag) (C : Addr) : Sp := fun vs H Q _ => ∃ (x a b c p dx : Addr), vs = [.ref x] ∧ H x = some (.ins C dx (f5 a b c p)) ∧ SqT K H a [] ∧ SqT K H b [] ∧ SqT K H c [] ∧ ∀ H', Same H H' → Q (.str "marks:\ntakes:\n") H'
theorem scSt : FnScope ["self", "line"] ["self"] (defScope sSt) := ⟨rfl, rfl, rfl, by decide +kernel, rfl, by decide +kernel, by decide +kernel⟩
theorem ok_st {f fT fL C : Addr} {fd fdT fdL : FuncData} (F : Fun K "__str__" "Sheet.__str__" sSt f fd) (S : ShT K C) (FT : Fun K "text_lines" "text_lines" sTL fT fdT) (bT : Binds K fdT ["sheet"] []) (mT : mg "text_lines" = some (.ref fT))
    (FL : Fun K "list_line" "list_line" sLL fL fdL) (bL : Binds K fdL ["head", "names"] []) (mL : mg "list_line" = some (.ref fL)) : FnOk P w K mg base CX0 3 f fd ["self"] (spSt K C) := by
  have GT : FnOk P w K mg base CX0 2 fT fdT ["sheet"] (spTL K C) := ok_tl FT S FL bL mL
  refine F.ok scSt (fun vs H Q E h => ?_) (fun cdv A outer s H vs Q E hr h => ?_)
  · obtain ⟨_, _, _, _, _, _, rfl, _⟩ := h
    rfl
  · obtain ⟨x, a, b, c, p, dx, rfl, hx, ha, hb, hc, k⟩ := h
    refine ⟨_, pss_one (ps_ret (pe_join pe_str (pe_lc (own := [("line", 1)]) (g := gName 1) rfl scSt.nd (pi_list (pe_call GT hr rfl mT FT.kp bT .nil pass0 (pa_cons (pv 0) pa_nil))) (blkOk_by (N := ["self", "line"]) (sc := defScope sSt) (by decide +kernel))
      (fun _ _ _ _ _ => pg_name (i := 1) scSt.nd rfl (.inl rfl)) (fun _ _ _ _ _ => pts_nil) (te := tLine) (fun _ _ _ _ _ => pe_joined (.cons (pe_fmt (pv 1)) (.cons pe_str .nil)))))), ?_⟩
    refine ⟨⟨_, rfl⟩, _, rfl, x, a, b, c, p, dx, rfl, hx, ha, hb, hc, fun H1 l s1 hl => ⟨l, rfl, ⟨_, SqL.of hl⟩, fun D hD => ?_⟩⟩
    refine lc_it (walk_list (K := K) (a := l) (xs := ([("marks:" : Str), "takes:"]).map V.str)) (fun i H' => Same H1 H' ∧ H' D = some (.lst ((([("marks:\n" : Str), "takes:\n"]).take i).map V.str))) ⟨Same.new hD, upd_same⟩ (fun i H' _ u => SqL.of (u.1 _ _ hl)) ?_ ?_
    · rintro i v Ha Hb hi ⟨q1, q2⟩ ⟨rfl, hv⟩
      have hi2 : i < 2 := hi
      match i, hi2, q2, hv with
      | 0, _, q2, hv =>
        cases hv
        exact ⟨rfl, yes_ ⟨_, rfl, .inl ⟨_, rfl, by show 6 ≤ sizeLine; decide, _, rfl, by show 6 ≤ sizeLine; decide, _, rfl, by show 7 ≤ sizeLine; decide, _, q2, by show 0 < sizeLine; decide, Same.set q1 hD, upd_same⟩⟩⟩
      | 1, _, q2, hv =>
        cases hv
        exact ⟨rfl, yes_ ⟨_, rfl, .inl ⟨_, rfl, by show 6 ≤ sizeLine; decide, _, rfl, by show 6 ≤ sizeLine; decide, _, rfl, by show 7 ≤ sizeLine; decide, _, q2, by show 1 < sizeLine; decide, Same.set q1 hD, upd_same⟩⟩⟩
    · rintro H2 ⟨q1, q2⟩
      exact ⟨_, D, [("marks:\n" : Str), "takes:\n"], rfl, rfl, .inl (SqL.of q2), by decide, k H2 (s1.trans q1)⟩
end
end K1
end
section
set_option maxRecDepth 100000
set_option maxHeartbeats 4000000
namespace K1
open PySem L2 K01
theorem eg_in {ms : List Str} {MS : List Fact} (hI : InN ms MS) : InN ms (MS ++ zeros ms) := fun f hf => by
  rcases List.mem_append.mp hf with hf | hf
  · exact hI f hf
  · exact zeros_in ms f hf
/-- a ring below zero: the law's closing tells it -/
theorem ring_negs {ms : List Str} {MS RG : List Fact} (hI : InN ms MS) (hN : (nodes ms).Nodup) (h : isRing (MS ++ zeros ms) RG) : negs (ms.length + 1) (closedM (ms.length + 1) (MS.map (eF ms))) ≠ [] := by
  obtain ⟨_, x, c, hp, hc⟩ := h
  have hx : x ∈ nodes ms := by
    cases RG with
    | nil => obtain ⟨_, e⟩ := hp; omega
    | cons f r =>
      obtain ⟨hf, hfx, _⟩ := hp
      rw [← hfx]
      exact (eg_in hI f hf).1
  refine negs_ring (hI.inR) ((eg_in hI).inR) (fun e he => ?_) (ix_lt hx) (isPath.walk (ms := ms) hp) hc
  rw [List.map_append] at he
  rcases List.mem_append.mp he with he | he
  · exact .inl he
  · rw [zeros_edges hN] at he
    obtain ⟨a, b, d⟩ := e
    have := zero_mem he
    exact .inr ⟨this.1, this.2.1⟩
/-- a sheet that can be: the law's closing has nothing below zero -/
theorem made_negs {ms : List Str} {MS : List Fact} {B : Mat} (hI : InN ms MS) (hN : (nodes ms).Nodup) (G : Good (ms.length + 1) (EG ms MS) B) : negs (ms.length + 1) (closedM (ms.length + 1) (MS.map (eF ms))) = [] := by
  refine negs_good G (fun {y} hy => ?_) hI.inR (fun e he => by unfold EG; rw [List.map_append]; exact List.mem_append_left _ he)
  cases y with
  | zero => exact G.diag0 (by omega)
  | succ i =>
    refine G.edge ?_
    unfold EG
    rw [List.map_append, zeros_edges hN]
    exact List.mem_append_right _ (List.mem_map.mpr ⟨i, List.mem_range.mpr (by omega), rfl⟩)
end K1
end
section
set_option maxRecDepth 100000
set_option maxHeartbeats 4000000
namespace K1
open PySem L2 K01
theorem factV_inj {F G : List Fact} (h : F.map factV = G.map factV) : F = G := by
  induction F generalizing G with
  | nil => cases G with
    | nil => rfl
    | cons g G => cases h
  | cons f F ih => cases G with
    | nil => cases h
    | cons g G =>
      simp only [List.map_cons, List.cons.injEq] at h
      have e : f = g := by
        obtain ⟨f1, f2, f3⟩ := f
        obtain ⟨g1, g2, g3⟩ := g
        have := h.1
        simp only [factV, List.cons.injEq, V.str.injEq, V.int.injEq, and_true] at this
        obtain ⟨rfl, rfl, rfl⟩ := this
        rfl
      rw [e, ih h.2]
/-- the script's list, beside the pit at p -/
def Scr (K : PySem.W.Frag) (a : Addr) (xs : List V) (p : Addr) (H : Hp) : Prop := SqL K H a xs ∧ (p = a → ∀ H', SqL K H' a xs)
theorem sql_at {K : PySem.W.Frag} {a : Addr} {xs : List V} {H H' : Hp} (h : SqL K H a xs) (e : ∀ o, H a = some o → H' a = some o) : SqL K H' a xs := by
  rcases h with (q | ⟨o, q⟩) | q
  · exact .inl (.inl (e _ q))
  · exact .inl (.inr ⟨o, e _ q⟩)
  · exact .inr q
theorem sql_free {K : PySem.W.Frag} {a : Addr} {xs : List V} {H : Hp} (h : SqL K H a xs) (e : H a = none) (H' : Hp) : SqL K H' a xs := by
  rcases h with (q | ⟨o, q⟩) | q
  · rw [e] at q; cases q
  · rw [e] at q; cases q
  · exact .inr q
theorem Scr.but {K : PySem.W.Frag} {a : Addr} {xs : List V} {p : Addr} {H H' : Hp} (h : Scr K a xs p H) (e : But p H H') : Scr K a xs p H' := by
  refine ⟨?_, h.2⟩
  by_cases q : p = a
  · exact h.2 q H'
  · exact sql_at h.1 fun o ho => e a o (fun z => q z.symm) ho
theorem Scr.new {K : PySem.W.Frag} {a : Addr} {xs : List V} {p : Addr} {H H' : Hp} (h : SqL K H a xs) (e : H p = none) (s : Same H H') : Scr K a xs p H' :=
  ⟨sql_at h fun o ho => s _ _ ho, fun q => by subst q; exact sql_free h e⟩
/-- a drawn sheet has no fault -/
theorem ShOk.fault {ms ts : List Str} {F : List Fact} (h : ShOk ms ts F) : K1.fault ms ts (F.map factV) = none := by
  have hM : first (badMark ms) ms.length = none := first_none fun j hj => by
    have hz : ms[j]? = some ms[j] := List.getElem?_eq_getElem hj
    have hm : markAt ms j = ms[j] := by unfold markAt; rw [hz]; rfl
    have hin : ms[j] ∈ ms := List.getElem_mem hj
    unfold badMark
    rw [hm, (h.gm.gn _ hin).ok, decide_eq_false (p := ms[j] = "zero") (fun e => h.gm.nz (by rw [← e]; exact hin)), decide_eq_false (p := ms[j] ∈ ms.take j)]
    · rfl
    · intro hk
      obtain ⟨k, hk1, hk2⟩ := List.mem_take_iff_getElem.mp hk
      have := nodup_get h.gm.nd (i := k) (j := j) (List.getElem?_eq_some_iff.mpr ⟨by omega, hk2⟩) hz
      omega
  have hT : first (badTake ms ts) ts.length = none := first_none fun j hj => by
    have hz : ts[j]? = some ts[j] := List.getElem?_eq_getElem hj
    have hm : markAt ts j = ts[j] := by unfold markAt; rw [hz]; rfl
    unfold badTake
    rw [hm, decide_eq_true (h.tm _ (List.getElem_mem hj)), decide_eq_false]
    · rfl
    · intro hk
      obtain ⟨k, hk1, hk2⟩ := List.mem_take_iff_getElem.mp hk
      have := nodup_get h.tn (i := k) (j := j) (List.getElem?_eq_some_iff.mpr ⟨by omega, hk2⟩) hz
      omega
  have hF : first (badFact ms (F.map factV)) (F.map factV).length = none := first_none fun j hj => by
    rw [List.length_map] at hj
    have hz : (F.map factV)[j]? = some (factV F[j]) := by rw [List.getElem?_map, List.getElem?_eq_getElem hj]; rfl
    have ho := h.fo _ (List.getElem_mem hj)
    unfold badFact
    rw [hz]
    show (!(inV (.str F[j].1) ((nodes ms).map V.str) && (inV (.str F[j].2.1) ((nodes ms).map V.str) && (!decide (V.str F[j].1 = V.str F[j].2.1) && true)))) = false
    rw [inV_str, inV_str, decide_eq_true ho.l, decide_eq_true ho.r, decide_eq_false (fun e => ho.ne (V.str.inj e))]
    rfl
  unfold K1.fault
  rw [hM]
  simp only []
  rw [hT]
  simp only []
  rw [hF]

theorem facts_flat {F : List Fact} : FlatF (F.map factV) := fun xs hx x hxx => by
  obtain ⟨f, _, rfl⟩ := List.mem_map.mp hx
  simp only [factV, List.mem_cons, List.not_mem_nil, or_false] at hxx
  rcases hxx with rfl | rfl | rfl
  · exact .str _
  · exact .str _
  · exact .int _
theorem facts_small {F : List Fact} (h : ∀ f ∈ F, f.2.2.natAbs ≤ 10 ^ 13) : SmallI (F.map factV) := fun xs hx i hi => by
  obtain ⟨f, hf, rfl⟩ := List.mem_map.mp hx
  simp only [factV, List.mem_cons, List.not_mem_nil, or_false] at hi
  rcases hi with e | e | e
  · cases e
  · cases e
  · cases e
    have h1 := h f hf
    by_cases h0 : f.2.2.natAbs = 0
    · rw [h0]; decide
    · exact (Nat.log2_lt h0).mpr (Nat.lt_of_le_of_lt h1 (by decide +kernel))
/-- a sheet that can be is made -/
theorem sheet_ok {K : PySem.W.Frag} {C CC : Addr} {cls : Nat → Addr} {H : Hp} {x dx a b c : Addr} {ms ts : List Str} {F : List Fact} {Q : Hp → Prop} {E : XK} (hx : H x = none) (hdx : H dx = none) (hne : dx ≠ x)
    (hm : strsT K H a ms) (hs : Short ms) (hml : ms.length ≤ 28) (ht : strsT K H b ts) (htl : ts.length ≤ 400) (hf : TTAt K H c (F.map factV)) (hfl : F.length ≤ 100) (hfi : ∀ f ∈ F, f.2.2.natAbs ≤ 10 ^ 13)
    (hF : K1.fault ms ts (F.map factV) = none) (hI : InN ms F) (hN : (nodes ms).Nodup) (hng : negs (ms.length + 1) (closedM (ms.length + 1) (F.map (eF ms))) = [])
    (k : ∀ H' p B, Same H H' → ShI K H' C x a b c p ms ts F B → ShG ms F B → Q H') :
    spSheet K C CC cls [.ref x, .ref a, .ref b, .ref c] (upd (upd H dx (.own x)) x (.ins C dx [])) (fun v H2 => v = .non ∧ Q H2) E := by
  have s1 : Same H (upd H dx (.own x)) := Same.new hdx
  have hx1 : (upd H dx (.own x)) x = none := by rw [upd_ne hne.symm]; exact hx
  have s2 : Same H (upd (upd H dx (.own x)) x (.ins C dx [])) := s1.trans (Same.new hx1)
  have back : ∀ H', But x (upd (upd H dx (.own x)) x (.ins C dx [])) H' → Same H H' := fun H' h b o e => h b o (fun z => by rw [z, hx] at e; cases e) (s2 b o e)
  refine ⟨x, dx, a, b, c, ms, ts, F.map factV, rfl, upd_same, Same.tup s2 hm, hs, by omega, Same.tup s2 ht, htl, hf.same s2, facts_flat, by rw [List.length_map]; omega, facts_small hfi, fun k i H' d e _ _ _ => ?_,
    fun _ MS e1 e2 H' d rp RG h _ hd hR hr => ?_, fun _ MS e1 e2 e3 B G H' p h hp hi => ⟨rfl, ?_⟩⟩
  · rw [hF] at e; cases e
  · rw [← factV_inj e1] at hr
    exact absurd hng (ring_negs hI hN hr)
  · rw [← factV_inj e1] at G
    have s := back H' h
    exact k H' p B s ⟨⟨dx, hi⟩, Same.tup s hm, Same.tup s ht, hf.same s, hp⟩ ⟨hml, hfl, hN, hI, G⟩
/-- the made sheet's numbers, and the law's -/
def leastI (ms : List Str) (B : Mat) : List Int := ((leastOf (ms.length + 1) B).drop 1).map fun i => -i
theorem leastI_len {ms : List Str} {B : Mat} : (leastI ms B).length = ms.length := by unfold leastI leastOf; simp
theorem leastI_at {ms : List Str} {B : Mat} {j : Nat} (hj : j < ms.length) : (leastI ms B)[j]? = some (-((cell B 0 (j + 1)).getD 0)) := by
  unfold leastI leastOf
  rw [List.getElem?_map, List.getElem?_drop, List.getElem?_map, List.getElem?_range (by omega)]
  have : 1 + j = j + 1 := by omega
  rw [this]
  rfl
/-- two tuples of the same ints -/
theorem kt_ints {K : PySem.W.Frag} {H : Hp} {n : Nat} {a b : Addr} {xs : List Int} (h1 : SqT K H a (xs.map V.int)) (h2 : SqT K H b (xs.map V.int)) (hl : xs.length ≤ 500) : KT K H (n + 1) (.ref a) (.ref b) :=
  kt_row h1 h2 (by rw [List.length_map]; exact hl) fun x hx => by
    obtain ⟨i, _, rfl⟩ := List.mem_map.mp hx
    exact .int i
theorem ShG.fits {ms : List Str} {MS : List Fact} {B : Mat} (h : ShG ms MS B) : Fits (ms.length + 1) B (0 :: leastI ms B) := by
  have G := h.good
  have R : InR (ms.length + 1) (EG ms MS) := InN.inR fun f hf => by
    rcases List.mem_append.mp hf with hf | hf
    · exact h.inn f hf
    · exact zeros_in ms f hf
  refine least_fits G G R (fun e he => he) leastI_len fun i x hx => ?_
  have hi : i < ms.length := by have := (List.getElem?_eq_some_iff.mp hx).1; rwa [leastI_len] at this
  rw [leastI_at hi] at hx
  obtain ⟨d, hd, _⟩ := eg_row0 h.nd G (y := i + 1) (by omega)
  rw [hd] at hx ⊢
  have := Option.some.inj hx
  rw [← this]
  exact congrArg some (by simp)
end K1
end
section
set_option maxRecDepth 100000
set_option maxHeartbeats 4000000
namespace K1
open PySem PyProof.Rows L2 K01
theorem takes_noN {X : Cx} : L2N.Takes X (fun _ _ _ _ => False) := fun _ _ ⟨_, _, _, _, _, _, _, _, _, _, _, _, _, _, _, _, w⟩ => w.elim
theorem passN {X : Cx} : Passes (L2N.CX X.prog X.w) X E0 := fun pins σ => L2N.passAt takes_noN σ pins
theorem nm_least : ("least" : Str) ≠ "marks" ∧ ("least" : Str) ≠ "takes" ∧ ("least" : Str) ≠ "facts" ∧ ("least" : Str) ≠ "_limits" ∧ ("least" : Str) ≠ "bounds" := by decide +kernel
def spLaw (K : PySem.W.Frag) : Sp := fun vs H Q _ => ∃ (a : Addr) (ns : List Int), vs = [.ref a] ∧ SqL K H a (ns.map V.int) ∧ ns.length ≤ 63 ∧ ∀ H', Q (.bl true) H'
section
variable {P : Program} {w : World} {K : PySem.W.Frag} {mg : Str → Option Value} {base : Heap}
abbrev sLaw : Stmt := top 62
abbrev nsLaw : List Str := ["script", "at", "pit", "turn", "far", "marks_here", "takes_here", "facts_here", "paper", "rows", "least", "bare", "ax"]
theorem scLaw : FnScope nsLaw ["script"] (defScope sLaw) := ⟨rfl, rfl, rfl, by decide +kernel, rfl, by decide +kernel, by decide +kernel⟩
theorem ok_law {f iS fP fH fD fC fN fT fI fK fIn fG fCh fTi fSt pL gL C CC D0 : Addr} {cls : Nat → Addr} {fd fdS fdP fdH fdD fdC fdN fdT fdI fdK fdIn fdG fdCh fdTi fdSt fdL : FuncData} (F : Fun K "law" "law" sLaw f fd) (T : Bi mg) (S : ShT K C)
    (FS : FunD K "__init__" "Sheet.__init__" (defArgs sSheet) (defBody sSheet) (defScope sSheet) [.ref D0] [] iS fdS) (GS : FnOk P w K mg base (L2N.CX P w) 5 iS fdS ["self", "marks", "takes", "facts"] (spSheet K C CC cls)) (Mc : Mk K C iS) (mS : mg "Sheet" = some (.ref C)) (hD : ∀ H, SqT K H D0 [])
    (FP : Fun K "_law_pit" "_law_pit" sPit fP fdP) (bP : Binds K fdP ["script", "at"] []) (mP : mg "_law_pit" = some (.ref fP))
    (FH : Fun K "_law_hoist" "_law_hoist" sHoist fH fdH) (bH : Binds K fdH ["pit", "below"] []) (mH : mg "_law_hoist" = some (.ref fH))
    (FD : Fun K "_law_drawn_sheet" "_law_drawn_sheet" sDS fD fdD) (bD : Binds K fdD ["pit", "many", "most", "far"] []) (mD : mg "_law_drawn_sheet" = some (.ref fD)) (GD : FnOk P w K mg base CX0 3 fD fdD ["pit", "many", "most", "far"] (spDS K))
    (FC : Fun K "_law_closed" "_law_closed" sClosed fC fdC) (bC : Binds K fdC ["many", "facts_here"] []) (mC : mg "_law_closed" = some (.ref fC))
    (FN : Fun K "_law_numbered" "_law_numbered" sNum fN fdN) (bN : Binds K fdN ["marks_here", "facts_here"] []) (mN : mg "_law_numbered" = some (.ref fN))
    (FT : Fun K "_law_told_right" "_law_told_right" sTR fT fdT) (bT : Binds K fdT ["paper", "marks_here", "facts_here", "rows"] []) (mT : mg "_law_told_right" = some (.ref fT)) (GT : FnOk P w K mg base CX0 6 fT fdT ["paper", "marks_here", "facts_here", "rows"] (spTR K C))
    (FI : Fun K "_law_inside_right" "_law_inside_right" sIR fI fdI) (bI : Binds K fdI ["pit", "paper", "marks_here", "facts_here", "far"] []) (mI : mg "_law_inside_right" = some (.ref fI)) (GI : FnOk P w K mg base CX0 4 fI fdI ["pit", "paper", "marks_here", "facts_here", "far"] (spIR K C))
    (FK : Fun K "_law_kin" "_law_kin" sKin fK fdK) (bK : Binds K fdK ["found", "due"] []) (mK : mg "_law_kin" = some (.ref fK))
    (mIn : Meth K C "__contains__" fIn) (bIn : Binds K fdIn ["self", "numbers"] []) (GIn : FnOk P w K mg base CX0 3 fIn fdIn ["self", "numbers"] (spIn K C))
    (mG : Meth K C "__getitem__" fG) (hfn : PySem.W.fnIn K fG = true) (bG : Binds K fdG ["self", "at"] []) (GG : FnOk P w K mg base CX0 3 fG fdG ["self", "at"] (spGet K C))
    (mCh : Meth K C "chain" fCh) (bCh : Binds K fdCh ["self", "x", "y"] []) (GCh : FnOk P w K mg base CX0 5 fCh fdCh ["self", "x", "y"] (spCh K C))
    (mTi : Meth K C "tight" fTi) (bTi : Binds K fdTi ["self"] []) (GTi : FnOk P w K mg base CX0 3 fTi fdTi ["self"] (spTi K C))
    (mSt : Meth K C "__str__" fSt) (bSt : Binds K fdSt ["self"] []) (GSt : FnOk P w K mg base CX0 3 fSt fdSt ["self"] (spSt K C))
    (pLe : PropOf K C "least" pL gL) (bL : Binds K fdL ["self"] []) (GL : FnOk P w K mg base CX0 2 gL fdL ["self"] (spLe K C)) :
    FnOk P w K mg base CX0 7 f fd ["script"] (spLaw K) := by
  have GP : FnOk P w K mg base CX0 1 fP fdP ["script", "at"] (spPit K) := ok_pit FP T
  have GH : FnOk P w K mg base CX0 1 fH fdH ["pit", "below"] (spHoist K) := ok_hoist FH T
  have GK : FnOk P w K mg base CX0 4 fK fdK ["found", "due"] (spKin K 4) := ok_kin FK T bK mK 4
  have GN : FnOk P w K mg base CX0 1 fN fdN ["marks_here", "facts_here"] (spNum K) := ok_num FN T
  have GC : FnOk P w K mg base CX0 1 fC fdC ["many", "facts_here"] (spClosed K) := ok_closed FC T
  obtain ⟨ds3, v3, b3⟩ := FS.binds1 3 0 (by simp) rfl (ps := ["self", "marks", "takes", "facts"]) (fun T kV doc pm an cdv ct us its hl hi => match us, hl, its, hi with | [_, _, _], _, [_], _ => ⟨_, rfl, rfl⟩)
  obtain ⟨ds4, v4, b4⟩ := FS.binds1 4 1 (by simp) rfl (ps := ["self", "marks", "takes", "facts"]) (fun T kV doc pm an cdv ct us its hl hi => match us, hl, its, hi with | [_, _, _, _], _, [_], _ => ⟨_, rfl, rfl⟩)
  refine F.ok scLaw (fun vs H Q E h => ?_) (fun cdv A outer s H vs Q E hr h => ?_)
  · obtain ⟨_, _, rfl, _⟩ := h
    rfl
  · obtain ⟨a, ns, rfl, ha, hl, kQ⟩ := h
    have hr1 : Room 1 _ := hr.mono (by decide)
    have hr3 : Room 3 _ := hr.mono (by decide)
    have hr4 : Room 4 _ := hr.mono (by decide)
    have hr5 : Room 5 _ := hr.mono (by decide)
    refine ⟨_, pss_cons (ps_for PassesOwn.never rfl (pi_range1 (by rfl) T.range (pa_cons (pe_callB (call_max2 rfl) (by rfl) T.max (by decide +kernel) (pa_cons pe_int (pa_cons (pe_callB (call_min2 rfl) (by rfl) T.min (by decide +kernel) (pa_cons pe_int (pa_cons (pe_callB call_len_seq (by rfl) T.len PySem.boot_len (pa_cons (pv 0) pa_nil)) pa_nil))) pa_nil))) pa_nil)) (pg_name (i := 1) scLaw.nd rfl (.inl rfl))
        (pss_cons (ps_set (i := 2) scLaw.nd rfl (.inl rfl) (pe_call GP hr1 rfl mP FP.kp bP .nil pass0 (pa_cons (pv 0) (pa_cons (pv 1) pa_nil))))
        (pss_one (ps_for PassesOwn.never rfl (pi_range1 (by rfl) T.range (pa_cons pe_int pa_nil)) (pg_name (i := 3) scLaw.nd rfl (.inl rfl))
          (pss_cons (ps_set (i := 4) scLaw.nd rfl (.inl rfl) (pe_ix ix_list (pe_lst (pa_cons pe_int (pa_cons pe_int (pa_cons (pe_op op_mul pe_int (pe_op op_powW pe_int pe_int)) pa_nil)))) (pe_call GH hr1 rfl mH FH.kp bH .nil pass0 (pa_cons (pv 2) (pa_cons pe_int pa_nil))) (fun _ _ => rfl)))
          (pss_cons (ps_asg (pe_call GD hr3 rfl mD FD.kp bD .nil pass0 (pa_cons (pv 2) (pa_cons pe_int (pa_cons pe_int (pa_cons (pv 4) pa_nil))))) (pg_tup rfl (pgs_cons (pg_name (i := 5) scLaw.nd rfl (.inl rfl)) (pgs_cons (pg_name (i := 6) scLaw.nd rfl (.inl rfl)) (pgs_cons (pg_name (i := 7) scLaw.nd rfl (.inl rfl)) pgs_nil)))))
          (pss_cons (ps_set (i := 8) scLaw.nd rfl (.inl rfl) (pe_make Mc GS hr rfl mS b4 v4 passN (pa_cons (pv 5) (pa_cons (pv 6) (pa_cons (pv 7) pa_nil)))))
          (pss_cons (ps_set (i := 9) scLaw.nd rfl (.inr rfl) (pe_call GC hr1 rfl mC FC.kp bC .nil pass0 (pa_cons (pe_callB call_len_seq (by rfl) T.len PySem.boot_len (pa_cons (pv 5) pa_nil)) (pa_cons (pe_call GN hr1 rfl mN FN.kp bN .nil pass0 (pa_cons (pv 5) (pa_cons (pv 7) pa_nil))) pa_nil))))
          (pss_cons (ps_if (pt_not (pt_val (pe_call GT hr rfl mT FT.kp bT .nil pass0 (pa_cons (pv 8) (pa_cons (pv 5) (pa_cons (pv 7) (pa_cons (pv 9) pa_nil))))))) (pss_one (ps_ret pe_bl)) pss_nil)
          (pss_cons (ps_set (i := 10) scLaw.nd rfl (.inl rfl) (pe_callTy call_tuple_of (by rfl) T.tuple (by decide +kernel) (pa_cons (pe_lc (own := [("ax", 12)]) (g := gName 12) (te := tUn _ (tOp (rIxL K) (tOp (rIxL K) (tVar 9) (tC (.int 0))) (tVar 12))) rfl scLaw.nd (pi_range2 (by rfl) T.range (pa_cons pe_int (pa_cons (pe_callB call_len_seq (by rfl) T.len PySem.boot_len (pa_cons (pv 9) pa_nil)) pa_nil))) (blkOk_by (N := nsLaw) (sc := defScope sLaw) (by decide +kernel))
            (fun _ _ _ _ _ => pg_name (i := 12) scLaw.nd rfl (.inl rfl)) (fun _ _ _ _ _ => pts_nil) (fun _ _ _ _ _ => pe_un un_neg (pe_ix ix_list (pe_ix ix_list (pv 9) pe_int (fun _ _ => rfl)) (pv 12) (fun _ _ => rfl)))) pa_nil)))
          (pss_cons (ps_if (PW.pt (pw_or (pt_not (pt_val (pe_call GK hr4 rfl mK FK.kp bK .nil pass0 (pa_cons (pe_lst (pa_cons (pe_prop (pv 8) S.cl pLe GL hr3 bL .nil pass0 rfl) (pa_cons (pe_prop (pv 8) S.cl pLe GL hr3 bL .nil pass0 rfl) pa_nil))) (pa_cons (pe_lst (pa_cons (pv 10) (pa_cons (pv 10) pa_nil))) pa_nil)))))
              (pw_or1 (pt_not (pt_cmpR (op_inO (E := E0) mIn GIn hr3 bIn pass0) (pv 10) (pv 8) (by rfl)))))) (pss_one (ps_ret pe_bl)) pss_nil)
          (pss_cons (ps_if (pt_not (pt_val (pe_call GI hr4 rfl mI FI.kp bI .nil pass0 (pa_cons (pv 2) (pa_cons (pv 8) (pa_cons (pv 5) (pa_cons (pv 7) (pa_cons (pv 4) pa_nil)))))))) (pss_one (ps_ret pe_bl)) pss_nil)
          (pss_one (ps_if (pt_not (pt_val (pe_call GK hr4 rfl mK FK.kp bK .nil pass0 (pa_cons (pe_lst (pa_cons (pe_fld (pv 8) rfl) (pa_cons (pe_fld (pv 8) rfl) (pa_cons (pe_fld (pv 8) rfl) pa_nil)))) (pa_cons (pe_lst (pa_cons (pv 5) (pa_cons (pv 6) (pa_cons (pv 7) pa_nil)))) pa_nil))))) (pss_one (ps_ret pe_bl)) pss_nil))))))))))))))
      (pss_cons (ps_set (i := 11) scLaw.nd rfl (.inl rfl) (pe_make Mc GS hr rfl mS b3 v3 passN (pa_cons (pe_tup pa_nil) (pa_cons (pe_tup pa_nil) pa_nil))))
      (pss_cons (ps_if (pt_not (pt_val (pe_call GK hr4 rfl mK FK.kp bK .nil pass0 (pa_cons (pe_lst (pa_cons (pe_ixO (E := E0) mG hfn GG hr4 bG pass0 (pv 11) (pe_tup (pa_cons pe_str (pa_cons pe_str pa_nil)))) (pa_cons (pe_meth (pv 11) S.cl mCh GCh hr5 bCh .nil pass0 (pa_cons pe_str (pa_cons pe_str pa_nil))) (pa_cons (pe_callTy (call_strO (E := E0) mSt GSt hr5 bSt pass0) (by rfl) T.str (by decide +kernel) (pa_cons (pv 11) pa_nil)) pa_nil))))
          (pa_cons (pe_lst (pa_cons pe_int (pa_cons (pe_lst pa_nil) (pa_cons pe_str pa_nil)))) pa_nil))))) (pss_one (ps_ret pe_bl)) pss_nil)
      (pss_one (ps_ret (pe_and (pe_cmpR (op_eqD hr.units) (pe_prop (pv 11) S.cl pLe GL hr3 bL .nil pass0 rfl) (pe_tup pa_nil) (nomark _)) (pe_and (pe_cmpR (op_eqD hr.units) (pe_meth0 (pv 11) S.cl mTi GTi hr3 bTi .nil pass0) (pe_lst pa_nil) (nomark _))
          (pe_and (pe_cmpR (op_inO (E := E0) mIn GIn hr3 bIn pass0) (pe_tup pa_nil) (pv 11) (by rfl)) (pe_one (pe_not (pe_cmpR (op_inO (E := E0) mIn GIn hr3 bIn pass0) (pe_tup (pa_cons pe_int pa_nil)) (pv 11) (by rfl))))))))))), ?_⟩
    obtain ⟨m, hm, hm5⟩ : ∃ m : Nat, (if (if (((ns.map V.int).length : Nat) : Int) < 5 then (((ns.map V.int).length : Nat) : Int) else 5) > 1 then (if (((ns.map V.int).length : Nat) : Int) < 5 then (((ns.map V.int).length : Nat) : Int) else 5) else 1) = (m : Int) ∧ m ≤ 5 := by
      by_cases q1 : (((ns.map V.int).length : Nat) : Int) < 5
      · rw [if_pos q1]
        by_cases q2 : (((ns.map V.int).length : Nat) : Int) > 1
        · rw [if_pos q2]; exact ⟨_, rfl, by omega⟩
        · rw [if_neg q2]; exact ⟨1, rfl, by omega⟩
      · rw [if_neg q1]; exact ⟨5, rfl, by omega⟩
    refine ⟨_, rfl, a, _, rfl, .inl ha, _, _, rfl, _, _, rfl, ?_⟩
    rw [hm]
    refine ⟨_, rfl, by omega, by omega, ?_⟩
    rw [Int.toNat_natCast]
    refine for_r0 (n := m) (fun i σ H' => (∃ v1 v2 v3 v4 v5 v6 v7 v8 v9 v10 v11 : Option V, σ = [some (.ref a), v1, v2, v3, v4, v5, v6, v7, v8, v9, v10, v11, none]) ∧ SqL K H' a (ns.map V.int)) ⟨⟨_, _, _, _, _, _, _, _, _, _, _, rfl⟩, ha⟩ ?_ ?_
    · rintro i σ H1 hi ⟨⟨v1, v2, v3, v4, v5, v6, v7, v8, v9, v10, v11, rfl⟩, ha1⟩
      refine ⟨_, rfl, _, rfl, a, ns, i, rfl, ha1, hl, by omega, fun H2 p s2 hp P2 => ?_⟩
      have S2 : Scr K a (ns.map V.int) p H2 := Scr.new ha1 hp s2
      clear s2 hp
      dsimp only [gName]
      refine ⟨_, rfl, by omega, by omega, ?_⟩
      refine for_r0 (n := 3) (fun j σ H' => (∃ w3 w4 w5 w6 w7 w8 w9 w10 w11 : Option V, σ = [some (.ref a), some (.int (i : Nat)), some (.ref p), w3, w4, w5, w6, w7, w8, w9, w10, w11, none]) ∧ Scr K a (ns.map V.int) p H' ∧ PitAt H' p (301 * j)) ⟨⟨_, _, _, _, _, _, _, _, _, rfl⟩, S2, by simpa using P2⟩ ?_ ?_
      · rintro j σ H3 hj ⟨⟨w3, w4, w5, w6, w7, w8, w9, w10, w11, rfl⟩, S3, P3⟩
        dsimp only [gName]
        refine ⟨_, _, rfl, rfl, pow_ok (n := 10) (by decide) (by decide), _, _, rfl, rfl, .inl ⟨by decide, by decide⟩, by show 3 ≤ sizeLine; decide, fun l hl => ?_⟩
        have sl : Same H3 (upd H3 l (.lst [.int 3, .int 12, .int (7 * 10 ^ 10)])) := Same.new hl
        have P4 := P3.same sl
        have S4 := S3.but (Same.but sl)
        have nl : l ≠ p := P3.ne hl
        refine ⟨_, rfl, p, 3, _, rfl, P4, by omega, by decide, by decide, fun H5 d b5 P5 l5 u5 => ?_⟩
        obtain ⟨far, hat, hf0, hf1⟩ : ∃ far : Int, atI [V.int 3, V.int 12, V.int (7 * 10 ^ 10)] d = some (.int far) ∧ 0 ≤ far ∧ far ≤ 10 ^ 12 := by
          have : d = 0 ∨ d = 1 ∨ d = 2 := by omega
          rcases this with rfl | rfl | rfl
          · exact ⟨3, at_of (j := 0) rfl rfl, by decide, by decide⟩
          · exact ⟨12, at_of (j := 1) rfl rfl, by decide, by decide⟩
          · exact ⟨7 * 10 ^ 10, at_of (j := 2) rfl rfl, by decide, by decide⟩
        refine ⟨l, _, _, _, rfl, rfl, SqL.of (b5 _ _ nl upd_same), hat, ?_⟩
        have S5 := S4.but b5
        clear S4 P4 hat b5 l5 u5 nl hl
        refine ⟨_, rfl, _, rfl, p, 6, 20, far, _, rfl, P5, by omega, by decide, by decide, by decide, hf0, hf1, fun H6 q6 a1 b1 c1 ms ts F b6 P6 hq6 ha6 hb6 hc6 ok => ?_⟩
        have S6 := S5.but b6
        clear S5 P5 b6
        have hml := ok.ml
        have hm1 := ok.m1
        have htl := ok.tl
        have hfl := ok.fl
        have hI := FOk.inN ok.fo
        refine ⟨q6, _, rfl, SqT.of hq6, rfl, _, _, rfl, _, _, rfl, _, _, rfl, rfl, ?_⟩
        dsimp only [gName]
        refine ⟨_, rfl, _, rfl, _, rfl, fun x dx hx hdx hne => ?_⟩
        show spSheet K C CC cls [.ref x, .ref a1, .ref b1, .ref c1] _ _ _
        refine sheet_ok hx hdx hne ha6 ⟨by omega, fun z hz => by have := (ok.gm.gn z hz).len'; omega⟩ (by omega) hb6 (by omega) hc6 (by omega) (fun f hf => (ok.fo f hf).sm) ok.fault hI ok.gm.nodes ok.ng fun H7 pp B s7 hS hG => ?_
        have hm7 := Same.tup (K := K) s7 ha6
        have hc7 := hc6.same s7
        refine ⟨_, rfl, a1, _, rfl, .inr hm7, ?_⟩
        rw [List.length_map]
        refine ⟨_, rfl, _, rfl, a1, c1, ms, F, rfl, hm7, by omega, hc7, by omega, hI, fun H8 E8 ps8 s8 hE8 hT8 => ?_⟩
        refine ⟨ms.length, E8, ps8, F.map (eF ms), rfl, by omega, hE8, by rw [List.map_map]; exact hT8, hI.inR, fun H9 s9 => ⟨fun _ R hLM => ?_, fun hne => absurd ok.ng hne⟩⟩
        have s79 := s8.trans s9
        have hS9 := hS.same s79
        have hm9 := Same.tup (K := K) s79 hm7
        have hc9 := hc7.same s79
        have SC : Sized (ms.length + 1) (closedM (ms.length + 1) (F.map (eF ms))) := closed_sized hI.inR
        have ⟨as, hR, _⟩ := hLM.2
        have hasl : as.length = ms.length + 1 := hR.len.trans SC.1
        dsimp only [gName]
        refine ⟨_, rfl, _, rfl, _, rfl, _, rfl, x, a1, b1, c1, pp, a1, c1, R, ms, ts, F, B, rfl, hS9, hG, by omega, fun z hz => (ok.gm.gn z hz).asc, hm9, hc9, ⟨as, hR⟩, fun H10 s10 => ⟨_, rfl, iteF ?_⟩⟩
        have hR10 := hR.same s10
        refine ⟨_, rfl, R, _, rfl, .inl (SqL.of hR10.out), 1, _, rfl, ⟨by decide, by decide, by rw [List.length_map]; omega, by rw [List.length_map]; omega⟩, fun D hD => ?_⟩
        have em : ((((as.map V.ref).length : Nat) : Int) - 1).toNat = ms.length := by rw [List.length_map]; omega
        rw [em]
        refine lc_it (walk_range (lo := 1) (n := ms.length)) (fun j H' => Same H10 H' ∧ H' D = some (.lst (((leastI ms B).take j).map V.int))) ⟨Same.new hD, upd_same⟩ (fun _ _ _ _ => trivial) ?_ ?_
        · rintro g v Ha Hb hg ⟨q1, q2⟩ ⟨rfl, rfl⟩
          have eg : (1 : Int) + (g : Nat) = ((g + 1 : Nat) : Int) := by omega
          show gName 12 (V.int (1 + ((g : Nat) : Int))) _ _ _
          rw [eg]
          obtain ⟨p0, r1, r2⟩ := (hR10.same q1).get SC (x := 0) (by omega)
          have c0 := lst_cell SC (x := 0) (y := g + 1) (by omega) (by omega)
          rw [rows_cell hI ok.gm.nodes hG.good (by omega) (by omega)] at c0
          obtain ⟨d, hd, _⟩ := eg_row0 hG.nd hG.good (y := g + 1) (by omega)
          have hl := leastI_at (B := B) (j := g) hg
          rw [hd] at c0 hl
          refine ⟨rfl, yes_ ⟨_, rfl, R, as.map V.ref, _, _, rfl, rfl, SqL.of (hR10.same q1).out, at_of (j := 0) rfl (by rw [List.getElem?_map, r1]; rfl), _, rfl, p0, _, _, _, rfl, rfl, SqL.of r2, c0, _, rfl, _, q2, ?_, Same.set q1 hD, ?_⟩⟩
          · rw [List.length_map, List.length_take]
            exact Nat.lt_of_le_of_lt (Nat.min_le_left _ _) (small1000 (by omega))
          · rw [upd_same, take_snoc hl, List.map_append]; rfl
        rintro H11 ⟨q1, q2⟩
        rw [List.take_of_length_le (Nat.le_of_eq leastI_len)] at q2
        refine ⟨D, _, rfl, .inl ⟨SqL.of q2, fun t ht => ?_⟩⟩
        have s12 : Same H11 (upd H11 t (.tup ((leastI ms B).map V.int))) := Same.new ht
        have ht12 : SqT K (upd H11 t (.tup ((leastI ms B).map V.int))) t ((leastI ms B).map V.int) := tup_at
        have s9c := (s10.trans q1).trans s12
        generalize upd H11 t (.tup ((leastI ms B).map V.int)) = H12 at s12 ht12 s9c
        clear q1 q2 hD
        have hS12 := hS9.same s9c
        dsimp only [gName]
        have ask : ∀ (H' : Hp) (Q' : VK), Same H12 H' → (∀ H'' q, Same H' H'' → SqT K H'' q ((leastI ms B).map V.int) → Q' (.ref q) H'') → spLe K C [.ref x] H' Q' E0 := fun H' Q' s q =>
          ⟨x, a1, b1, c1, pp, ms, ts, F, B, rfl, hS12.same s, hG, fun H'' u s' hu => q H'' u s' (by unfold leastI; rw [List.map_map]; exact hu)⟩
        obtain ⟨dx1, hx1⟩ := hS12.at_
        refine ⟨_, rfl, x, dx1, _, rfl, hx1, ask H12 _ (Same.refl _) fun H13 q1 s13 hq1 => ?_⟩
        refine ⟨_, rfl, x, dx1, _, rfl, s13 _ _ hx1, ask H13 _ s13 fun H14 q2 s14 hq2 => ?_⟩
        refine ⟨by show 2 ≤ sizeLine; decide, fun l1 hl1 => ?_⟩
        have s15 : Same H14 (upd H14 l1 (.lst [.ref q1, .ref q2])) := Same.new hl1
        have e15 : (upd H14 l1 (.lst [.ref q1, .ref q2])) l1 = some (.lst [.ref q1, .ref q2]) := upd_same
        generalize upd H14 l1 (.lst [.ref q1, .ref q2]) = H15 at s15 e15
        refine ⟨_, rfl, _, rfl, by show 2 ≤ sizeLine; decide, fun l2 hl2 => ?_⟩
        have s16 : Same H15 (upd H15 l2 (.lst [.ref t, .ref t])) := Same.new hl2
        have e16 : (upd H15 l2 (.lst [.ref t, .ref t])) l2 = some (.lst [.ref t, .ref t]) := upd_same
        generalize upd H15 l2 (.lst [.ref t, .ref t]) = H16 at s16 e16
        have t16 := Same.tup (((s13.trans s14).trans s15).trans s16) ht12
        have hll : (leastI ms B).length ≤ 500 := by rw [leastI_len]; omega
        have kk : KT K H16 3 (.ref l1) (.ref l2) := by
          refine .lst 2 (s16 _ _ e15) e16 rfl (by show 2 ≤ 900; decide) fun i u v e1 e2 => ?_
          match i, e1, e2 with
          | 0, e1, e2 => cases e1; cases e2; exact kt_ints (Same.tup ((s14.trans s15).trans s16) hq1) t16 hll
          | 1, e1, e2 => cases e1; cases e2; exact kt_ints (Same.tup (s15.trans s16) hq2) t16 hll
          | i + 2, e1, e2 => cases e1
        refine ⟨_, _, rfl, kk, fun H17 s17 => ⟨_, rfl, iteF ?_⟩⟩
        have s12_17 := (((s13.trans s14).trans s15).trans s16).trans s17
        have hS17 := hS12.same s12_17
        refine ⟨_, rfl, _, rfl, x, dx1, _, rfl, s12_17 _ _ hx1, x, a1, b1, c1, pp, t, ms, ts, F, B, leastI ms B, rfl, hS17, hG, Same.tup s17 t16, by omega, fun r H18 hr' s18 => ⟨r, rfl, ?_⟩⟩
        have hrt : r = true := hr'.mpr ⟨leastI_len, hG.fits⟩
        subst hrt
        refine ⟨_, rfl, iteF ?_⟩
        have s6_18 := (((s7.trans s79).trans s9c).trans s12_17).trans s18
        have P18 := P6.same s6_18
        have hS18 := hS17.same s18
        have hb18 := Same.tup (K := K) s6_18 hb6
        dsimp only [tNext]
        refine ⟨_, rfl, _, rfl, _, rfl, _, rfl, _, rfl, p, x, a1, b1, c1, pp, a1, c1, ms, ts, F, B, far, _, rfl, P18, by omega, hS18, hG, hm1, Same.tup s6_18 ha6, hc6.same s6_18, hf0, hf1, fun H19 b19 P19 => ⟨_, rfl, iteF ?_⟩⟩
        have hS19 := hS18.but P18 b19
        obtain ⟨dx2, hx2⟩ := hS19.at_
        refine ⟨_, rfl, x, C, dx2, _, _, rfl, hx2, S.cl, S.nm, look_m, _, rfl, x, C, dx2, _, _, rfl, hx2, S.cl, S.nt, look_t, _, rfl, x, C, dx2, _, _, rfl, hx2, S.cl, S.nf, look_f, ?_⟩
        refine ⟨by show 3 ≤ sizeLine; decide, fun l3 hl3 => ?_⟩
        have s20 : Same H19 (upd H19 l3 (.lst [.ref a1, .ref b1, .ref c1])) := Same.new hl3
        have e20 : (upd H19 l3 (.lst [.ref a1, .ref b1, .ref c1])) l3 = some (.lst [.ref a1, .ref b1, .ref c1]) := upd_same
        generalize upd H19 l3 (.lst [.ref a1, .ref b1, .ref c1]) = H20 at s20 e20
        refine ⟨_, rfl, _, rfl, _, rfl, by show 3 ≤ sizeLine; decide, fun l4 hl4 => ?_⟩
        have s21 : Same H20 (upd H20 l4 (.lst [.ref a1, .ref b1, .ref c1])) := Same.new hl4
        have e21 : (upd H20 l4 (.lst [.ref a1, .ref b1, .ref c1])) l4 = some (.lst [.ref a1, .ref b1, .ref c1]) := upd_same
        generalize upd H20 l4 (.lst [.ref a1, .ref b1, .ref c1]) = H21 at s21 e21
        have hS21 := (hS19.same s20).same s21
        have kk2 : KT K H21 3 (.ref l3) (.ref l4) := by
          refine .lst 2 (s21 _ _ e20) e21 rfl (by show 3 ≤ 900; decide) fun i u v e1 e2 => ?_
          match i, e1, e2 with
          | 0, e1, e2 => cases e1; cases e2; exact kt_strs hS21.ha hS21.ha (by omega)
          | 1, e1, e2 => cases e1; cases e2; exact kt_strs hS21.hb hS21.hb (by omega)
          | 2, e1, e2 => cases e1; cases e2; exact kt_rows hS21.hc hS21.hc (by rw [List.length_map]; omega) (fun xs hx => by obtain ⟨f, _, rfl⟩ := List.mem_map.mp hx; show 3 ≤ 500; decide) facts_flat
          | i + 3, e1, e2 => cases e1
        refine ⟨_, _, rfl, kk2, fun H22 s22 => ⟨_, rfl, iteF ?_⟩⟩
        have s19_22 := (s20.trans s21).trans s22
        have P22 := P19.same s19_22
        have e : (301 * j + 1 + 250 + 50 : Int) = 301 * ((j + 1 : Nat) : Int) := by omega
        rw [e] at P22
        exact ⟨⟨_, _, _, _, _, _, _, _, _, rfl⟩, ((S6.but (Same.but s6_18)).but b19).but (Same.but s19_22), P22⟩
      · rintro σ H3 ⟨⟨w3, w4, w5, w6, w7, w8, w9, w10, w11, rfl⟩, S3, P3⟩
        exact ⟨⟨_, _, _, _, _, _, _, _, _, _, _, rfl⟩, S3.1⟩
    · rintro σ H1 ⟨⟨v1, v2, v3, v4, v5, v6, v7, v8, v9, v10, v11, rfl⟩, ha1⟩
      refine ⟨by show 0 ≤ sizeLine; decide, fun b1 hb1 => ⟨by show 0 ≤ sizeLine; decide, fun b2 hb2 => fun x dx hx hdx hne => ?_⟩⟩
      have t1 : SqT K (upd (upd H1 b1 (.tup [])) b2 (.tup [])) b1 [] := Same.tup (Same.new hb2) tup_at
      have t2 : SqT K (upd (upd H1 b1 (.tup [])) b2 (.tup [])) b2 [] := tup_at
      show spSheet K C CC cls [.ref x, .ref b1, .ref b2, .ref D0] _ _ _
      generalize upd (upd H1 b1 (.tup [])) b2 (.tup []) = H2 at t1 t2 hx hdx ⊢
      refine sheet_ok (ms := []) (ts := []) (F := []) hx hdx hne t1 ⟨by decide, fun z hz => nomatch hz⟩ (by decide) t2 (by decide) ⟨[], hD _, TupsAt.nil⟩ (by decide) (fun f hf => nomatch hf) rfl (fun f hf => nomatch hf) (by simp [nodes]) (negs_nil 0) fun H3 pp B s3 hS hG => ?_
      obtain ⟨dx1, hx1⟩ := hS.at_
      have nCh : List.lookup ("chain" : Str) (f5 b1 b2 D0 pp) = none := look5 (by decide +kernel)
      have nTi : List.lookup ("tight" : Str) (f5 b1 b2 D0 pp) = none := look5 (by decide +kernel)
      have hz : ("zero" : Str) ∈ nodes [] := List.mem_cons_self
      have iz : ix [] ("zero" : Str) = 0 := by simp [ix, nodes]
      have c00 : cell B (ix [] ("zero" : Str)) (ix [] ("zero" : Str)) = some 0 := by
        rw [iz]
        obtain ⟨d, hd, h1⟩ := hG.good.diag0 (x := 0) (by decide)
        have h2 := hG.good.diag (x := 0) (k := d) (by decide) ⟨d, hd, Int.le_refl _⟩
        rw [hd]
        exact congrArg some (by omega)
      have ln : leastI [] B = [] := List.length_eq_zero_iff.mp leastI_len
      dsimp only [gName]
      refine ⟨_, rfl, by show 2 ≤ sizeLine; decide, fun t ht => ?_⟩
      have s4 : Same H3 (upd H3 t (.tup [.str "zero", .str "zero"])) := Same.new ht
      refine ⟨x, dx1, _, rfl, s4 _ _ hx1, x, t, b1, b2, D0, pp, [], [], [], B, "zero", "zero", rfl, hS.same s4, hG, tup_at, hz, hz, fun H5 s5 => ?_⟩
      rw [c00]
      have s35 := s4.trans s5
      refine ⟨_, rfl, x, dx1, _, rfl, s35 _ _ hx1, nCh, x, b1, b2, D0, pp, [], [], [], B, "zero", "zero", rfl, hS.same s35, hG, hz, hz, (fun e => by rw [c00] at e; cases e), fun d hd H6 lq qs CH s6 hl0 he hlq hql hqT hP => ?_⟩
      have hqs := he rfl
      subst hqs
      have s36 := s35.trans s6
      have hS6 := hS.same s36
      obtain ⟨dx6, hx6⟩ := hS6.at_
      refine ⟨_, rfl, x, dx6, _, rfl, hx6, x, b1, b2, D0, pp, dx6, rfl, hx6, hS6.ha, hS6.hb, ?_, fun H7 s7 => ⟨_, rfl, ?_⟩⟩
      · exact hD _
      refine ⟨by show 3 ≤ sizeLine; decide, fun l1 hl1 => ?_⟩
      have s8 : Same H7 (upd H7 l1 (.lst [cV (some 0), .ref lq, .str "marks:\ntakes:\n"])) := Same.new hl1
      have e8 : (upd H7 l1 (.lst [cV (some 0), .ref lq, .str "marks:\ntakes:\n"])) l1 = some (.lst [cV (some 0), .ref lq, .str "marks:\ntakes:\n"]) := upd_same
      refine ⟨by show 0 ≤ sizeLine; decide, fun l2 hl2 => ?_⟩
      have s9 : Same (upd H7 l1 (.lst [cV (some 0), .ref lq, .str "marks:\ntakes:\n"])) (upd (upd H7 l1 (.lst [cV (some 0), .ref lq, .str "marks:\ntakes:\n"])) l2 (.lst [])) := Same.new hl2
      have e9 : (upd (upd H7 l1 (.lst [cV (some 0), .ref lq, .str "marks:\ntakes:\n"])) l2 (.lst [])) l2 = some (.lst []) := upd_same
      generalize upd (upd H7 l1 (.lst [cV (some 0), .ref lq, .str "marks:\ntakes:\n"])) l2 (.lst []) = H9 at s9 e9
      refine ⟨by show 3 ≤ sizeLine; decide, fun l3 hl3 => ?_⟩
      have s10 : Same H9 (upd H9 l3 (.lst [.int 0, .ref l2, .str "marks:\ntakes:\n"])) := Same.new hl3
      have e10 : (upd H9 l3 (.lst [.int 0, .ref l2, .str "marks:\ntakes:\n"])) l3 = some (.lst [.int 0, .ref l2, .str "marks:\ntakes:\n"]) := upd_same
      generalize upd H9 l3 (.lst [.int 0, .ref l2, .str "marks:\ntakes:\n"]) = H10 at s10 e10
      have s710 := (s8.trans s9).trans s10
      have kk : KT K H10 3 (.ref l1) (.ref l3) := by
        refine .lst 2 (s10 _ _ (s9 _ _ e8)) e10 rfl (by show 3 ≤ 900; decide) fun i u v e1 e2 => ?_
        match i, e1, e2 with
        | 0, e1, e2 => cases e1; cases e2; exact .int 2 0
        | 1, e1, e2 => cases e1; cases e2; exact .lst 1 ((s7.trans s710) _ _ hlq) (s10 _ _ e9) rfl (by decide) fun i u v e1 e2 => nomatch e1
        | 2, e1, e2 => cases e1; cases e2; exact .str 2 _
        | i + 3, e1, e2 => cases e1
      refine ⟨_, _, rfl, kk, fun H11 s11 => ⟨_, rfl, iteF ?_⟩⟩
      have s611 := (s7.trans s710).trans s11
      have hS11 := hS6.same s611
      have hx11 := s611 _ _ hx6
      dsimp only [tNext]
      refine ⟨_, rfl, x, dx6, _, rfl, hx11, x, b1, b2, D0, pp, [], [], [], B, rfl, hS11, hG, fun H12 q s12 hq => ?_⟩
      have hq : SqT K H12 q ((leastI [] B).map V.int) := by unfold leastI; rw [List.map_map]; exact hq
      rw [ln] at hq
      refine ⟨by show 0 ≤ sizeLine; decide, fun z1 hz1 => ⟨.tuple [], .tuple [], .tup (Same.tup (Same.new hz1) hq) .nil, .tup tup_at .nil, shaped_nilT, shaped_nilT, ?_⟩⟩
      rw [eqv_nilT]
      refine ⟨_, rfl, iteT ?_⟩
      have s1113 := s12.trans (Same.new (o := .tup []) hz1)
      generalize upd H12 z1 (.tup []) = H13 at s1113
      refine ⟨_, rfl, x, dx6, _, rfl, s1113 _ _ hx11, nTi, x, b1, b2, D0, pp, [], [], [], B, rfl, hS11.same s1113, hG, fun H14 l ps s14 h0 hl hT hpl => ?_⟩
      have hps : ps = [] := by
        have h1 := hT.1
        have h2 : tightL (nodes []) B (([] : List Str).length + 1) = [] := by
          show tightC (nodes []) B 0 0 ++ [] ++ [] = []
          unfold tightC
          cases cell B 0 0 <;> simp
        rw [h2] at h1
        exact List.length_eq_zero_iff.mp h1
      subst hps
      refine ⟨by show 0 ≤ sizeLine; decide, fun z2 hz2 => ⟨.list [], .list [], .lst (SqL.of (Same.new hz2 _ _ hl)) .nil, .lst (SqL.of upd_same) .nil, shaped_nil, shaped_nil, ?_⟩⟩
      rw [eqv_nil]
      refine ⟨_, rfl, iteT ?_⟩
      have s1115 := (s1113.trans s14).trans (Same.new (o := .lst []) hz2)
      generalize upd H14 z2 (.lst []) = H15 at s1115
      refine ⟨by show 0 ≤ sizeLine; decide, fun z3 hz3 => ?_⟩
      have s1116 := s1115.trans (Same.new (o := .tup []) hz3)
      refine ⟨_, rfl, x, dx6, _, rfl, s1116 _ _ hx11, x, b1, b2, D0, pp, z3, [], [], [], B, [], rfl, hS11.same s1116, hG, tup_at, by decide, fun r H17 hr' s17 => ⟨r, rfl, ?_⟩⟩
      have hrt : r = true := hr'.mpr ⟨rfl, by have := hG.fits; rw [ln] at this; exact this⟩
      subst hrt
      refine ⟨_, rfl, iteT ?_⟩
      refine ⟨by show 1 ≤ sizeLine; decide, fun z4 hz4 => ?_⟩
      have s1118 := (s1116.trans s17).trans (Same.new (o := .tup [.int 0]) hz4)
      refine ⟨_, rfl, x, dx6, _, rfl, s1118 _ _ hx11, x, b1, b2, D0, pp, z4, [], [], [], B, [0], rfl, hS11.same s1118, hG, tup_at, by decide, fun r H19 hr' s19 => ⟨r, rfl, ?_⟩⟩
      have hrf : r = false := Bool.eq_false_iff.mpr fun h => by have := (hr'.mp h).1; exact absurd this (by decide)
      subst hrf
      exact ⟨_, rfl, kQ _⟩
end
end K1
end
section
set_option maxRecDepth 100000
set_option maxHeartbeats 4000000
namespace K1
open PySem PyProof.Rows L2 K01
/-- a def of the top -/
structure DefAt (K : PySem.W.Frag) (x : Str) (st : Stmt) (ps : List Str) : Prop where
  ex : ∃ (f : Addr) (fd : FuncData), PySem.W.nsIn K mainGlobals x = some (some (.ref f)) ∧ Fun K x x st f fd ∧ Binds K fd ps []
theorem defAt {K : PySem.W.Frag} {x : Str} {st : Stmt} {ps : List Str} {f : Addr} {oc : Value} {od an : Option Addr} {osl : Array (Option Value)} {kV doc pm cdv ct : Value} (a : PySem.W.nsIn K mainGlobals x = some (some (.ref f)))
    (l : K.lookup f = some ⟨oc, od, .func (PySem.W.fnOf x x (defArgs st) (defBody st) (defScope st) .none kV doc pm an cdv ct), osl⟩) (c : PySem.W.codeIn K cdv x = true) (k : PySem.W.keepIn K (.ref f) = true)
    (b : ∀ (kV doc pm : Value) (an : Option Addr) (cdv ct : Value) (us : List Value), us.length = ps.length → bindArgs (PySem.W.fnOf x x (defArgs st) (defBody st) (defScope st) .none kV doc pm an cdv ct) ⟨us, []⟩ = pure (ps.zip us)) : DefAt K x st ps :=
  ⟨f, _, a, fun_mk l c k, (fun_mk l c k).binds b⟩
/-- the class Sheet -/
structure ShAt (K : PySem.W.Frag) (C iS D0 : Addr) : Prop where
  a : PySem.W.nsIn K mainGlobals "Sheet" = some (some (.ref C))
  makes : PySem.W.makesIn K C = true
  init : PySem.W.findIn K (.ref C) "__init__" = some (some (.ref iS))
  fn : PySem.W.isFn K (.ref iS) = true
  kp : PySem.W.keepIn K (.ref C) = true
  pg : PySem.W.plainGet K C Str.empty = true
  hd : PySem.W.hasDictIn K C = true
  po : PySem.W.plainOver K C = true
  sa : PySem.W.findIn K (.ref C) "__setattr__" = some (some (.builtin "object.__setattr__"))
  nm : PySem.W.findIn K (.ref C) "marks" = some none
  nt : PySem.W.findIn K (.ref C) "takes" = some none
  nf : PySem.W.findIn K (.ref C) "facts" = some none
  nl : PySem.W.findIn K (.ref C) "_limits" = some none
  nb : PySem.W.findIn K (.ref C) "bounds" = some none
  ex : ∃ (oc kV doc pm : Value) (od an : Option Addr) (cdv ct : Value) (osl : Array (Option Value)) (T : Addr) (oT : Obj) (n : Nat) (o0 : Obj) (n0 : Nat),
    K.lookup iS = some ⟨oc, od, .func (PySem.W.fnOf "__init__" "Sheet.__init__" (defArgs sSheet) (defBody sSheet) (defScope sSheet) (.ref T) kV doc pm an cdv ct), osl⟩ ∧ PySem.W.codeIn K cdv "Sheet.__init__" = true ∧ PySem.W.keepIn K (.ref iS) = true ∧
      K.lookup T = some oT ∧ oT.data = .seq #[.ref D0] n ∧ K.lookup D0 = some o0 ∧ o0.cls = .type "tuple" ∧ o0.data = .seq #[] n0
theorem ShAt.dflt {K : PySem.W.Frag} {C iS D0 : Addr} (S : ShAt K C iS D0) : ∀ H, SqT K H D0 [] := fun H => by
  obtain ⟨oc, kV, doc, pm, od, an, cdv, ct, osl, T, oT, n, o0, n0, h1, h2, h3, h4, h5, h6, h7, h8⟩ := S.ex
  exact .inr ⟨o0, #[], n0, h6, h7, h8, Nat.zero_le _, .nil⟩
theorem ShAt.fund {K : PySem.W.Frag} {C iS D0 : Addr} (S : ShAt K C iS D0) : ∃ fd, FunD K "__init__" "Sheet.__init__" (defArgs sSheet) (defBody sSheet) (defScope sSheet) [.ref D0] [] iS fd := by
  obtain ⟨oc, kV, doc, pm, od, an, cdv, ct, osl, T, oT, n, o0, n0, h1, h2, h3, h4, h5, h6, h7, h8⟩ := S.ex
  exact ⟨_, ⟨oc, od, .ref T, kV, doc, pm, an, cdv, ct, osl, rfl, h1, h2, .inr ⟨by simp, T, oT, [.ref D0], n, rfl, h4, h5, .cons rfl .nil⟩, .inl rfl⟩, h3⟩
theorem ShAt.sh {K : PySem.W.Frag} {C iS D0 : Addr} (S : ShAt K C iS D0) : ShT K C := ⟨⟨S.pg, S.hd, S.po, S.sa⟩, S.nm, S.nt, S.nf, S.nl, S.nb⟩
theorem ShAt.maker {K : PySem.W.Frag} {C iS D0 : Addr} (S : ShAt K C iS D0) : Mk K C iS := ⟨S.makes, S.init, S.fn, S.kp⟩
/-- a method of the class at C -/
structure MetAt (K : PySem.W.Frag) (C : Addr) (m qual : Str) (st : Stmt) (ps : List Str) : Prop where
  ex : ∃ (f : Addr) (fd : FuncData), Meth K C m f ∧ PySem.W.fnIn K f = true ∧ Fun K m qual st f fd ∧ Binds K fd ps []
theorem metAt {K : PySem.W.Frag} {C : Addr} {m qual : Str} {st : Stmt} {ps : List Str} {f : Addr} {oc : Value} {od an : Option Addr} {osl : Array (Option Value)} {kV doc pm cdv ct : Value} (a : PySem.W.findIn K (.ref C) m = some (some (.ref f))) (fn : PySem.W.isFn K (.ref f) = true) (fn2 : PySem.W.fnIn K f = true)
    (l : K.lookup f = some ⟨oc, od, .func (PySem.W.fnOf m qual (defArgs st) (defBody st) (defScope st) .none kV doc pm an cdv ct), osl⟩) (c : PySem.W.codeIn K cdv qual = true) (k : PySem.W.keepIn K (.ref f) = true)
    (b : ∀ (kV doc pm : Value) (an : Option Addr) (cdv ct : Value) (us : List Value), us.length = ps.length → bindArgs (PySem.W.fnOf m qual (defArgs st) (defBody st) (defScope st) .none kV doc pm an cdv ct) ⟨us, []⟩ = pure (ps.zip us)) : MetAt K C m qual st ps :=
  ⟨f, _, ⟨a, fn, k⟩, fn2, fun_mk l c k, (fun_mk l c k).binds b⟩
/-- a property of the class at C -/
structure PrpAt (K : PySem.W.Frag) (C : Addr) (m qual : Str) (st : Stmt) (ps : List Str) : Prop where
  ex : ∃ (p f : Addr) (fd : FuncData), PropOf K C m p f ∧ Fun K m qual st f fd ∧ Binds K fd ps []
theorem prpAt {K : PySem.W.Frag} {C : Addr} {m qual : Str} {st : Stmt} {ps : List Str} {p f : Addr} {oc : Value} {od an : Option Addr} {osl : Array (Option Value)} {kV doc pm cdv ct : Value} {rest : List Value} (a : PySem.W.findIn K (.ref C) m = some (some (.ref p))) (g : PySem.W.specialIn K (.ref p) "__get__" = some (some (.builtin "property.__get__")))
    (t : PySem.W.takesIn K (.ref p) = some true) (r : PySem.W.recIn K p "property" = some (.ref f :: rest))
    (l : K.lookup f = some ⟨oc, od, .func (PySem.W.fnOf m qual (defArgs st) (defBody st) (defScope st) .none kV doc pm an cdv ct), osl⟩) (c : PySem.W.codeIn K cdv qual = true) (k : PySem.W.keepIn K (.ref f) = true)
    (b : ∀ (kV doc pm : Value) (an : Option Addr) (cdv ct : Value) (us : List Value), us.length = ps.length → bindArgs (PySem.W.fnOf m qual (defArgs st) (defBody st) (defScope st) .none kV doc pm an cdv ct) ⟨us, []⟩ = pure (ps.zip us)) : PrpAt K C m qual st ps :=
  ⟨p, f, _, ⟨a, g, t, rest, r⟩, fun_mk l c k, (fun_mk l c k).binds b⟩
theorem ch_kbn {K : PySem.W.Frag} {f : Addr} {fd : FuncData} (F : Fun K "chain" "Sheet.chain" sCh f fd) :
    KBn K fd ["self", "x", "y"] 1 ["y", "x"] (fun us ws => match us, ws with | [u], [y, x] => [u, x, y] | _, _ => []) (fun us ws => match us, ws with | [u], [y, x] => [u, x, y] | _, _ => []) where
  to := fun s us ws _ h1 h2 => by
    obtain ⟨oc, od, kV, doc, pm, an, cdv, ct, osl, rfl, lk, hcd⟩ := F.ex
    match us, ws, h1, h2 with
    | [u], [y, x], _, _ => exact .of_eq rfl
  rel := fun {vs us zs ws} h1 h3 => by
    cases h1 with
    | nil => exact .nil
    | cons p q => cases q with
      | cons _ _ => exact .nil
      | nil => cases h3 with
        | nil => exact .nil
        | cons p1 q1 => cases q1 with
          | nil => exact .nil
          | cons p2 q2 => cases q2 with
            | nil => exact .cons p (.cons p2 (.cons p1 .nil))
            | cons _ _ => exact .nil
end K1
end
section
set_option maxRecDepth 100000
set_option maxHeartbeats 4000000
namespace K1
open PySem PyProof.Rows L2 K01
/-- built-in names that the head leaves -/
structure BiAt (K : PySem.W.Frag) : Prop where
  isinstance_ : PySem.W.nsIn K mainGlobals "isinstance" = some none
  len_ : PySem.W.nsIn K mainGlobals "len" = some none
  range_ : PySem.W.nsIn K mainGlobals "range" = some none
  enumerate_ : PySem.W.nsIn K mainGlobals "enumerate" = some none
  zip_ : PySem.W.nsIn K mainGlobals "zip" = some none
  tuple_ : PySem.W.nsIn K mainGlobals "tuple" = some none
  list_ : PySem.W.nsIn K mainGlobals "list" = some none
  int_ : PySem.W.nsIn K mainGlobals "int" = some none
  str_ : PySem.W.nsIn K mainGlobals "str" = some none
  bool_ : PySem.W.nsIn K mainGlobals "bool" = some none
  abs_ : PySem.W.nsIn K mainGlobals "abs" = some none
  max_ : PySem.W.nsIn K mainGlobals "max" = some none
  min_ : PySem.W.nsIn K mainGlobals "min" = some none
  sum_ : PySem.W.nsIn K mainGlobals "sum" = some none
  super_ : PySem.W.nsIn K mainGlobals "super" = some none
  all_ : PySem.W.nsIn K mainGlobals "all" = some none
theorem BiAt.bi {K : PySem.W.Frag} {h : Heap} {mg : Str → Option Value} (B : BiAt K) (X : K.In h) (G : h.Ns mainGlobals mg) : Bi mg :=
  ⟨PySem.W.mg_none_of X G B.isinstance_, PySem.W.mg_none_of X G B.len_, PySem.W.mg_none_of X G B.range_, PySem.W.mg_none_of X G B.enumerate_, PySem.W.mg_none_of X G B.zip_, PySem.W.mg_none_of X G B.tuple_, PySem.W.mg_none_of X G B.list_, PySem.W.mg_none_of X G B.int_, PySem.W.mg_none_of X G B.str_, PySem.W.mg_none_of X G B.bool_, PySem.W.mg_none_of X G B.abs_, PySem.W.mg_none_of X G B.max_, PySem.W.mg_none_of X G B.min_, PySem.W.mg_none_of X G B.sum_, PySem.W.mg_none_of X G B.super_⟩
/-- all defs -/
structure DfAt (K : PySem.W.Frag) : Prop where
  dsFree : DefAt K "free_bounds" sFree ["many"]
  dsBarred : DefAt K "is_barred" sBarred ["bounds", "x", "y", "number"]
  dsKept : DefAt K "is_kept" sKept ["bounds", "x", "y", "number"]
  dsLesser : DefAt K "lesser_row" sLesser ["row", "step", "onward"]
  dsTight : DefAt K "tightened" sTight ["bounds", "x", "y", "number"]
  dsLeast : DefAt K "least_numbers" sLeast ["bounds"]
  dsFits : DefAt K "fits" sFits ["bounds", "numbers"]
  dsWhole : DefAt K "is_whole" sWhole ["x"]
  dsName : DefAt K "is_name" sName ["x"]
  dsAre : DefAt K "are_numbers" sAre ["x", "many"]
  dsLL : DefAt K "list_line" sLL ["head", "names"]
  dsNames : DefAt K "names_of" sNames ["marks"]
  dsSpots : DefAt K "spots_of" sSpots ["marks"]
  dsBadMark : DefAt K "first_bad_mark" sBadMark ["marks"]
  dsBadTake : DefAt K "first_bad_take" sBadTake ["marks", "takes"]
  dsFact : DefAt K "is_fact" sFact ["fact", "names"]
  dsBadFact : DefAt K "first_bad_fact" sBadFact ["marks", "facts"]
  dsCheck : DefAt K "check_parts" sCheck ["marks", "takes", "facts"]
  dsAll : DefAt K "all_facts" sAll ["marks", "facts"]
  dsStraight : DefAt K "is_straight" sStraight ["fact", "ahead"]
  dsChain : DefAt K "chain_of" sChain ["marks", "facts", "bounds", "x", "y"]
  dsBounds : DefAt K "bounds_with" sBounds ["marks", "facts", "bounds", "more"]
  dsTF : DefAt K "tight_facts" sTF ["marks", "bounds"]
  dsTL : DefAt K "text_lines" sTL ["sheet"]
  dsPit : DefAt K "_law_pit" sPit ["script", "at"]
  dsHoist : DefAt K "_law_hoist" sHoist ["pit", "below"]
  dsKin : DefAt K "_law_kin" sKin ["found", "due"]
  dsCN : DefAt K "_law_call_names" sCN ["pit", "many"]
  dsClosed : DefAt K "_law_closed" sClosed ["many", "facts_here"]
  dsNum : DefAt K "_law_numbered" sNum ["marks_here", "facts_here"]
  dsDF : DefAt K "_law_drawn_fact" sDF ["pit", "marks_here", "far"]
  dsDS : DefAt K "_law_drawn_sheet" sDS ["pit", "many", "most", "far"]
  dsKp : DefAt K "_law_keeps" sKp ["marks_here", "facts_here", "places"]
  dsDR : DefAt K "_law_drawn_recording" sDR ["pit", "marks_here", "facts_here", "far"]
  dsCR : DefAt K "_law_chain_right" sCR ["marks_here", "facts_here", "x_here", "y_here", "way", "due"]
  dsTR : DefAt K "_law_told_right" sTR ["paper", "marks_here", "facts_here", "rows"]
  dsIR : DefAt K "_law_inside_right" sIR ["pit", "paper", "marks_here", "facts_here", "far"]
/-- all methods -/
structure MtAt (K : PySem.W.Frag) (C : Addr) : Prop where
  dsSpot : MetAt K C "spot" "Sheet.spot" sSpot ["self", "name"]
  dsGet : MetAt K C "__getitem__" "Sheet.__getitem__" sGet ["self", "at"]
  dsCh : MetAt K C "chain" "Sheet.chain" sCh ["self", "x", "y"]
  dsIn : MetAt K C "__contains__" "Sheet.__contains__" sIn ["self", "numbers"]
  dsTi : MetAt K C "tight" "Sheet.tight" sTi ["self"]
  dsSt : MetAt K C "__str__" "Sheet.__str__" sSt ["self"]
  dsLe : PrpAt K C "least" "Sheet.least" sLe ["self"]
theorem law_all {K : PySem.W.Frag} {h : Heap} {mg : Str → Option Value} {w : World} {fa C iS D0 CM CT CF CC iM iT iF iC : Addr} {fd : FuncData} (X : K.In h) (G : h.Ns mainGlobals mg) (B : BiAt K) (D : DfAt K) (S : ShAt K C iS D0) (M : MtAt K C)
    (XM : XAt K (sXI 11) "BadMarks" "index" "BadMarks.__init__" CM iM) (XT : XAt K (sXI 12) "BadTakes" "index" "BadTakes.__init__" CT iT) (XF : XAt K (sXI 13) "BadFact" "index" "BadFact.__init__" CF iF) (XC : XAt K (sXI 14) "Contradiction" "ring" "Contradiction.__init__" CC iC)
    (F : Fun K "law" "law" sLaw fa fd) :
    (∀ (s : Shared) (u : Value), BindsTo s fd ⟨[u], []⟩ [("script", u)]) ∧ ∀ base : Heap, K.In base → base.Ns mainGlobals mg → FnOk prg w K mg base CX0 7 fa fd ["script"] (spLaw K) := by
  refine ⟨fun s u => ?_, fun base _ _ => ?_⟩
  · obtain ⟨oc, od, kV, doc, pm, an, cdv, ct, osl, rfl, lk, hcd⟩ := F.ex
    exact .of_eq rfl
  have T := B.bi X G
  have hall : mg "all" = none := PySem.W.mg_none_of X G B.all_
  obtain ⟨fsFree, fdsFree, nsFree, FsFree, bsFree⟩ := D.dsFree.ex
  have msFree := PySem.W.mg_of X G nsFree
  obtain ⟨fsBarred, fdsBarred, nsBarred, FsBarred, bsBarred⟩ := D.dsBarred.ex
  have msBarred := PySem.W.mg_of X G nsBarred
  obtain ⟨fsKept, fdsKept, nsKept, FsKept, bsKept⟩ := D.dsKept.ex
  have msKept := PySem.W.mg_of X G nsKept
  obtain ⟨fsLesser, fdsLesser, nsLesser, FsLesser, bsLesser⟩ := D.dsLesser.ex
  have msLesser := PySem.W.mg_of X G nsLesser
  obtain ⟨fsTight, fdsTight, nsTight, FsTight, bsTight⟩ := D.dsTight.ex
  have msTight := PySem.W.mg_of X G nsTight
  obtain ⟨fsLeast, fdsLeast, nsLeast, FsLeast, bsLeast⟩ := D.dsLeast.ex
  have msLeast := PySem.W.mg_of X G nsLeast
  obtain ⟨fsFits, fdsFits, nsFits, FsFits, bsFits⟩ := D.dsFits.ex
  have msFits := PySem.W.mg_of X G nsFits
  obtain ⟨fsWhole, fdsWhole, nsWhole, FsWhole, bsWhole⟩ := D.dsWhole.ex
  have msWhole := PySem.W.mg_of X G nsWhole
  obtain ⟨fsName, fdsName, nsName, FsName, bsName⟩ := D.dsName.ex
  have msName := PySem.W.mg_of X G nsName
  obtain ⟨fsAre, fdsAre, nsAre, FsAre, bsAre⟩ := D.dsAre.ex
  have msAre := PySem.W.mg_of X G nsAre
  obtain ⟨fsLL, fdsLL, nsLL, FsLL, bsLL⟩ := D.dsLL.ex
  have msLL := PySem.W.mg_of X G nsLL
  obtain ⟨fsNames, fdsNames, nsNames, FsNames, bsNames⟩ := D.dsNames.ex
  have msNames := PySem.W.mg_of X G nsNames
  obtain ⟨fsSpots, fdsSpots, nsSpots, FsSpots, bsSpots⟩ := D.dsSpots.ex
  have msSpots := PySem.W.mg_of X G nsSpots
  obtain ⟨fsBadMark, fdsBadMark, nsBadMark, FsBadMark, bsBadMark⟩ := D.dsBadMark.ex
  have msBadMark := PySem.W.mg_of X G nsBadMark
  obtain ⟨fsBadTake, fdsBadTake, nsBadTake, FsBadTake, bsBadTake⟩ := D.dsBadTake.ex
  have msBadTake := PySem.W.mg_of X G nsBadTake
  obtain ⟨fsFact, fdsFact, nsFact, FsFact, bsFact⟩ := D.dsFact.ex
  have msFact := PySem.W.mg_of X G nsFact
  obtain ⟨fsBadFact, fdsBadFact, nsBadFact, FsBadFact, bsBadFact⟩ := D.dsBadFact.ex
  have msBadFact := PySem.W.mg_of X G nsBadFact
  obtain ⟨fsCheck, fdsCheck, nsCheck, FsCheck, bsCheck⟩ := D.dsCheck.ex
  have msCheck := PySem.W.mg_of X G nsCheck
  obtain ⟨fsAll, fdsAll, nsAll, FsAll, bsAll⟩ := D.dsAll.ex
  have msAll := PySem.W.mg_of X G nsAll
  obtain ⟨fsStraight, fdsStraight, nsStraight, FsStraight, bsStraight⟩ := D.dsStraight.ex
  have msStraight := PySem.W.mg_of X G nsStraight
  obtain ⟨fsChain, fdsChain, nsChain, FsChain, bsChain⟩ := D.dsChain.ex
  have msChain := PySem.W.mg_of X G nsChain
  obtain ⟨fsBounds, fdsBounds, nsBounds, FsBounds, bsBounds⟩ := D.dsBounds.ex
  have msBounds := PySem.W.mg_of X G nsBounds
  obtain ⟨fsTF, fdsTF, nsTF, FsTF, bsTF⟩ := D.dsTF.ex
  have msTF := PySem.W.mg_of X G nsTF
  obtain ⟨fsTL, fdsTL, nsTL, FsTL, bsTL⟩ := D.dsTL.ex
  have msTL := PySem.W.mg_of X G nsTL
  obtain ⟨fsPit, fdsPit, nsPit, FsPit, bsPit⟩ := D.dsPit.ex
  have msPit := PySem.W.mg_of X G nsPit
  obtain ⟨fsHoist, fdsHoist, nsHoist, FsHoist, bsHoist⟩ := D.dsHoist.ex
  have msHoist := PySem.W.mg_of X G nsHoist
  obtain ⟨fsKin, fdsKin, nsKin, FsKin, bsKin⟩ := D.dsKin.ex
  have msKin := PySem.W.mg_of X G nsKin
  obtain ⟨fsCN, fdsCN, nsCN, FsCN, bsCN⟩ := D.dsCN.ex
  have msCN := PySem.W.mg_of X G nsCN
  obtain ⟨fsClosed, fdsClosed, nsClosed, FsClosed, bsClosed⟩ := D.dsClosed.ex
  have msClosed := PySem.W.mg_of X G nsClosed
  obtain ⟨fsNum, fdsNum, nsNum, FsNum, bsNum⟩ := D.dsNum.ex
  have msNum := PySem.W.mg_of X G nsNum
  obtain ⟨fsDF, fdsDF, nsDF, FsDF, bsDF⟩ := D.dsDF.ex
  have msDF := PySem.W.mg_of X G nsDF
  obtain ⟨fsDS, fdsDS, nsDS, FsDS, bsDS⟩ := D.dsDS.ex
  have msDS := PySem.W.mg_of X G nsDS
  obtain ⟨fsKp, fdsKp, nsKp, FsKp, bsKp⟩ := D.dsKp.ex
  have msKp := PySem.W.mg_of X G nsKp
  obtain ⟨fsDR, fdsDR, nsDR, FsDR, bsDR⟩ := D.dsDR.ex
  have msDR := PySem.W.mg_of X G nsDR
  obtain ⟨fsCR, fdsCR, nsCR, FsCR, bsCR⟩ := D.dsCR.ex
  have msCR := PySem.W.mg_of X G nsCR
  obtain ⟨fsTR, fdsTR, nsTR, FsTR, bsTR⟩ := D.dsTR.ex
  have msTR := PySem.W.mg_of X G nsTR
  obtain ⟨fsIR, fdsIR, nsIR, FsIR, bsIR⟩ := D.dsIR.ex
  have msIR := PySem.W.mg_of X G nsIR
  obtain ⟨fsSpot, fdsSpot, msSpot, isSpot, FsSpot, bsSpot⟩ := M.dsSpot.ex
  obtain ⟨fsGet, fdsGet, msGet, isGet, FsGet, bsGet⟩ := M.dsGet.ex
  obtain ⟨fsCh, fdsCh, msCh, isCh, FsCh, bsCh⟩ := M.dsCh.ex
  obtain ⟨fsIn, fdsIn, msIn, isIn, FsIn, bsIn⟩ := M.dsIn.ex
  obtain ⟨fsTi, fdsTi, msTi, isTi, FsTi, bsTi⟩ := M.dsTi.ex
  obtain ⟨fsSt, fdsSt, msSt, isSt, FsSt, bsSt⟩ := M.dsSt.ex
  obtain ⟨psLe, fsLe, fdsLe, msLe, FsLe, bsLe⟩ := M.dsLe.ex
  have xM := xc_marks XM X G
  have xT := xc_takes XT X G
  have xF := xc_fact XF X G
  have xC := xc_ring XC X G
  have G1 : FnOk prg w K mg base (L2N.CX prg w) 4 fsCheck fdsCheck ["marks", "takes", "facts"] (spCheck K (clsOf CM CT CF)) :=
    ok_check FsCheck T FsBadMark bsBadMark msBadMark FsBadTake bsBadTake msBadTake FsBadFact bsBadFact msBadFact FsName bsName msName FsFact bsFact msFact FsNames bsNames msNames FsWhole bsWhole msWhole xM xT xF
  have G2 : FnOk prg w K mg base (L2N.CX prg w) 4 fsBounds fdsBounds ["marks", "facts", "bounds", "more"] (spBounds K CC) :=
    ok_bounds FsBounds T FsSpots bsSpots msSpots FsNames bsNames msNames FsAll bsAll msAll FsStraight bsStraight msStraight FsChain bsChain msChain FsBarred bsBarred msBarred FsKept bsKept msKept FsTight bsTight msTight FsLesser bsLesser msLesser xC
  obtain ⟨fdS, FS⟩ := S.fund
  have G3 : FnOk prg w K mg base (L2N.CX prg w) 5 iS fdS ["self", "marks", "takes", "facts"] (spSheet K C CC (clsOf CM CT CF)) := ok_sheet FS T S.sh FsCheck bsCheck msCheck G1 FsBounds bsBounds msBounds G2 FsFree bsFree msFree
  have G4 : FnOk prg w K mg base CX0 3 fsChain fdsChain ["marks", "facts", "bounds", "x", "y"] (spChain K) := ok_chain FsChain T FsSpots bsSpots msSpots FsNames bsNames msNames FsAll bsAll msAll FsStraight bsStraight msStraight
  have G5 : FnOk prg w K mg base CX0 3 fsDS fdsDS ["pit", "many", "most", "far"] (spDS K) := ok_ds FsDS T FsHoist bsHoist msHoist FsCN bsCN msCN FsDF bsDF msDF FsNum bsNum msNum FsClosed bsClosed msClosed
  have GSp : FnOk prg w K mg base CX0 2 fsSpot fdsSpot ["self", "name"] (spSpot K C) := ok_spot FsSpot T S.sh FsNames bsNames msNames
  have GGe : FnOk prg w K mg base CX0 3 fsGet fdsGet ["self", "at"] (spGet K C) := ok_get FsGet S.sh msSpot bsSpot GSp
  have GCh : FnOk prg w K mg base CX0 5 fsCh fdsCh ["self", "x", "y"] (spCh K C) := ok_ch FsCh S.sh msGet isGet bsGet GGe FsChain bsChain msChain G4
  have GLe : FnOk prg w K mg base CX0 2 fsLe fdsLe ["self"] (spLe K C) := ok_le FsLe S.sh FsLeast bsLeast msLeast T
  have GIn : FnOk prg w K mg base CX0 3 fsIn fdsIn ["self", "numbers"] (spIn K C) := ok_in FsIn S.sh T hall FsAre bsAre msAre FsFits bsFits msFits FsWhole bsWhole msWhole
  have GTi : FnOk prg w K mg base CX0 3 fsTi fdsTi ["self"] (spTi K C) := ok_ti FsTi S.sh T FsTF bsTF msTF FsNames bsNames msNames
  have GSt : FnOk prg w K mg base CX0 3 fsSt fdsSt ["self"] (spSt K C) := ok_st FsSt S.sh FsTL bsTL msTL FsLL bsLL msLL
  have GDR : FnOk prg w K mg base CX0 2 fsDR fdsDR ["pit", "marks_here", "facts_here", "far"] (spDR K) := ok_dr FsDR T FsNum bsNum msNum FsClosed bsClosed msClosed FsHoist bsHoist msHoist
  have GKp : FnOk prg w K mg base CX0 2 fsKp fdsKp ["marks_here", "facts_here", "places"] (spKp K) := ok_kp FsKp T FsNum bsNum msNum
  have GTR : FnOk prg w K mg base CX0 6 fsTR fdsTR ["paper", "marks_here", "facts_here", "rows"] (spTR K C) := ok_tr FsTR T S.sh msGet isGet bsGet GGe msCh bsCh (ch_kbn FsCh) GCh msTi bsTi GTi FsKin bsKin msKin FsCR bsCR msCR
  have GIR : FnOk prg w K mg base CX0 4 fsIR fdsIR ["pit", "paper", "marks_here", "facts_here", "far"] (spIR K C) := ok_ir FsIR T S.sh FsDR bsDR msDR GDR msIn bsIn GIn FsKp bsKp msKp GKp FsHoist bsHoist msHoist
  exact ok_law F T S.sh FS G3 S.maker (PySem.W.mg_of X G S.a) S.dflt FsPit bsPit msPit FsHoist bsHoist msHoist FsDS bsDS msDS G5 FsClosed bsClosed msClosed FsNum bsNum msNum FsTR bsTR msTR GTR FsIR bsIR msIR GIR FsKin bsKin msKin msIn bsIn GIn msGet isGet bsGet GGe msCh bsCh GCh msTi bsTi GTi msSt bsSt GSt msLe bsLe GLe
theorem walk {l : PySem.W.OpenLaw} {q : Program} {loose : List Str} {XP : (Str → Option Value) → Heap → Prop} {YP : World → Heap → Prop} {d : DefRec} {K : Params → PySem.W.Frag} (hn : l.most = some 63) (hdf : d.params.defaults = [])
    (hY : ∀ (w : World) (h : Heap), YP w h → (K w.params).In h)
    (F : ∀ (w : World) (mg : Str → Option Value) (fa : Addr) (h : Heap), (K w.params).In h → h.Ns mainGlobals mg → mg d.name = some (.ref fa) →
      ∃ fd : FuncData, (∀ (s : Shared) (u : Value), BindsTo s fd ⟨[u], []⟩ [("script", u)]) ∧ ∀ base : Heap, (K w.params).In base → base.Ns mainGlobals mg → FnOk l.prog w (K w.params) mg base CX0 7 fa fd ["script"] (spLaw (K w.params))) :
    PySem.W.WalkO q loose XP YP l.row.toRowW d [] (fun f vs => PySem.call f vs) :=
  L2.walk_of (n := 63) (k := 7) (x := "script") (CX := fun _ => CX0) (sp := fun w => spLaw (K w.params)) hn (by decide) hdf ⟨rfl, by decide, by decide⟩ hY F (fun _ _ a ns hl _ hS => ⟨a, ns, rfl, hS, hl, fun _ => rfl⟩) fun _ _ _ _ _ z => z
end K1
end
section
set_option maxRecDepth 100000
set_option maxHeartbeats 4000000
namespace K1
open PySem PyProof.Rows L2 K01
theorem bd_sFree (kV doc pm : Value) (an : Option Addr) (cdv ct : Value) (us : List Value) (hl : us.length = (["many"] : List Str).length) : bindArgs (PySem.W.fnOf "free_bounds" "free_bounds" (defArgs sFree) (defBody sFree) (defScope sFree) .none kV doc pm an cdv ct) ⟨us, []⟩ = pure ((["many"] : List Str).zip us) := match us, hl with | [_], _ => rfl
theorem bd_sBarred (kV doc pm : Value) (an : Option Addr) (cdv ct : Value) (us : List Value) (hl : us.length = (["bounds", "x", "y", "number"] : List Str).length) : bindArgs (PySem.W.fnOf "is_barred" "is_barred" (defArgs sBarred) (defBody sBarred) (defScope sBarred) .none kV doc pm an cdv ct) ⟨us, []⟩ = pure ((["bounds", "x", "y", "number"] : List Str).zip us) := match us, hl with | [_, _, _, _], _ => rfl
theorem bd_sKept (kV doc pm : Value) (an : Option Addr) (cdv ct : Value) (us : List Value) (hl : us.length = (["bounds", "x", "y", "number"] : List Str).length) : bindArgs (PySem.W.fnOf "is_kept" "is_kept" (defArgs sKept) (defBody sKept) (defScope sKept) .none kV doc pm an cdv ct) ⟨us, []⟩ = pure ((["bounds", "x", "y", "number"] : List Str).zip us) := match us, hl with | [_, _, _, _], _ => rfl
theorem bd_sLesser (kV doc pm : Value) (an : Option Addr) (cdv ct : Value) (us : List Value) (hl : us.length = (["row", "step", "onward"] : List Str).length) : bindArgs (PySem.W.fnOf "lesser_row" "lesser_row" (defArgs sLesser) (defBody sLesser) (defScope sLesser) .none kV doc pm an cdv ct) ⟨us, []⟩ = pure ((["row", "step", "onward"] : List Str).zip us) := match us, hl with | [_, _, _], _ => rfl
theorem bd_sTight (kV doc pm : Value) (an : Option Addr) (cdv ct : Value) (us : List Value) (hl : us.length = (["bounds", "x", "y", "number"] : List Str).length) : bindArgs (PySem.W.fnOf "tightened" "tightened" (defArgs sTight) (defBody sTight) (defScope sTight) .none kV doc pm an cdv ct) ⟨us, []⟩ = pure ((["bounds", "x", "y", "number"] : List Str).zip us) := match us, hl with | [_, _, _, _], _ => rfl
theorem bd_sLeast (kV doc pm : Value) (an : Option Addr) (cdv ct : Value) (us : List Value) (hl : us.length = (["bounds"] : List Str).length) : bindArgs (PySem.W.fnOf "least_numbers" "least_numbers" (defArgs sLeast) (defBody sLeast) (defScope sLeast) .none kV doc pm an cdv ct) ⟨us, []⟩ = pure ((["bounds"] : List Str).zip us) := match us, hl with | [_], _ => rfl
theorem bd_sFits (kV doc pm : Value) (an : Option Addr) (cdv ct : Value) (us : List Value) (hl : us.length = (["bounds", "numbers"] : List Str).length) : bindArgs (PySem.W.fnOf "fits" "fits" (defArgs sFits) (defBody sFits) (defScope sFits) .none kV doc pm an cdv ct) ⟨us, []⟩ = pure ((["bounds", "numbers"] : List Str).zip us) := match us, hl with | [_, _], _ => rfl
theorem bd_sWhole (kV doc pm : Value) (an : Option Addr) (cdv ct : Value) (us : List Value) (hl : us.length = (["x"] : List Str).length) : bindArgs (PySem.W.fnOf "is_whole" "is_whole" (defArgs sWhole) (defBody sWhole) (defScope sWhole) .none kV doc pm an cdv ct) ⟨us, []⟩ = pure ((["x"] : List Str).zip us) := match us, hl with | [_], _ => rfl
theorem bd_sName (kV doc pm : Value) (an : Option Addr) (cdv ct : Value) (us : List Value) (hl : us.length = (["x"] : List Str).length) : bindArgs (PySem.W.fnOf "is_name" "is_name" (defArgs sName) (defBody sName) (defScope sName) .none kV doc pm an cdv ct) ⟨us, []⟩ = pure ((["x"] : List Str).zip us) := match us, hl with | [_], _ => rfl
theorem bd_sAre (kV doc pm : Value) (an : Option Addr) (cdv ct : Value) (us : List Value) (hl : us.length = (["x", "many"] : List Str).length) : bindArgs (PySem.W.fnOf "are_numbers" "are_numbers" (defArgs sAre) (defBody sAre) (defScope sAre) .none kV doc pm an cdv ct) ⟨us, []⟩ = pure ((["x", "many"] : List Str).zip us) := match us, hl with | [_, _], _ => rfl
theorem bd_sLL (kV doc pm : Value) (an : Option Addr) (cdv ct : Value) (us : List Value) (hl : us.length = (["head", "names"] : List Str).length) : bindArgs (PySem.W.fnOf "list_line" "list_line" (defArgs sLL) (defBody sLL) (defScope sLL) .none kV doc pm an cdv ct) ⟨us, []⟩ = pure ((["head", "names"] : List Str).zip us) := match us, hl with | [_, _], _ => rfl
theorem bd_sNames (kV doc pm : Value) (an : Option Addr) (cdv ct : Value) (us : List Value) (hl : us.length = (["marks"] : List Str).length) : bindArgs (PySem.W.fnOf "names_of" "names_of" (defArgs sNames) (defBody sNames) (defScope sNames) .none kV doc pm an cdv ct) ⟨us, []⟩ = pure ((["marks"] : List Str).zip us) := match us, hl with | [_], _ => rfl
theorem bd_sSpots (kV doc pm : Value) (an : Option Addr) (cdv ct : Value) (us : List Value) (hl : us.length = (["marks"] : List Str).length) : bindArgs (PySem.W.fnOf "spots_of" "spots_of" (defArgs sSpots) (defBody sSpots) (defScope sSpots) .none kV doc pm an cdv ct) ⟨us, []⟩ = pure ((["marks"] : List Str).zip us) := match us, hl with | [_], _ => rfl
theorem bd_sBadMark (kV doc pm : Value) (an : Option Addr) (cdv ct : Value) (us : List Value) (hl : us.length = (["marks"] : List Str).length) : bindArgs (PySem.W.fnOf "first_bad_mark" "first_bad_mark" (defArgs sBadMark) (defBody sBadMark) (defScope sBadMark) .none kV doc pm an cdv ct) ⟨us, []⟩ = pure ((["marks"] : List Str).zip us) := match us, hl with | [_], _ => rfl
theorem bd_sBadTake (kV doc pm : Value) (an : Option Addr) (cdv ct : Value) (us : List Value) (hl : us.length = (["marks", "takes"] : List Str).length) : bindArgs (PySem.W.fnOf "first_bad_take" "first_bad_take" (defArgs sBadTake) (defBody sBadTake) (defScope sBadTake) .none kV doc pm an cdv ct) ⟨us, []⟩ = pure ((["marks", "takes"] : List Str).zip us) := match us, hl with | [_, _], _ => rfl
theorem bd_sFact (kV doc pm : Value) (an : Option Addr) (cdv ct : Value) (us : List Value) (hl : us.length = (["fact", "names"] : List Str).length) : bindArgs (PySem.W.fnOf "is_fact" "is_fact" (defArgs sFact) (defBody sFact) (defScope sFact) .none kV doc pm an cdv ct) ⟨us, []⟩ = pure ((["fact", "names"] : List Str).zip us) := match us, hl with | [_, _], _ => rfl
theorem bd_sBadFact (kV doc pm : Value) (an : Option Addr) (cdv ct : Value) (us : List Value) (hl : us.length = (["marks", "facts"] : List Str).length) : bindArgs (PySem.W.fnOf "first_bad_fact" "first_bad_fact" (defArgs sBadFact) (defBody sBadFact) (defScope sBadFact) .none kV doc pm an cdv ct) ⟨us, []⟩ = pure ((["marks", "facts"] : List Str).zip us) := match us, hl with | [_, _], _ => rfl
theorem bd_sCheck (kV doc pm : Value) (an : Option Addr) (cdv ct : Value) (us : List Value) (hl : us.length = (["marks", "takes", "facts"] : List Str).length) : bindArgs (PySem.W.fnOf "check_parts" "check_parts" (defArgs sCheck) (defBody sCheck) (defScope sCheck) .none kV doc pm an cdv ct) ⟨us, []⟩ = pure ((["marks", "takes", "facts"] : List Str).zip us) := match us, hl with | [_, _, _], _ => rfl
theorem bd_sAll (kV doc pm : Value) (an : Option Addr) (cdv ct : Value) (us : List Value) (hl : us.length = (["marks", "facts"] : List Str).length) : bindArgs (PySem.W.fnOf "all_facts" "all_facts" (defArgs sAll) (defBody sAll) (defScope sAll) .none kV doc pm an cdv ct) ⟨us, []⟩ = pure ((["marks", "facts"] : List Str).zip us) := match us, hl with | [_, _], _ => rfl
theorem bd_sStraight (kV doc pm : Value) (an : Option Addr) (cdv ct : Value) (us : List Value) (hl : us.length = (["fact", "ahead"] : List Str).length) : bindArgs (PySem.W.fnOf "is_straight" "is_straight" (defArgs sStraight) (defBody sStraight) (defScope sStraight) .none kV doc pm an cdv ct) ⟨us, []⟩ = pure ((["fact", "ahead"] : List Str).zip us) := match us, hl with | [_, _], _ => rfl
theorem bd_sChain (kV doc pm : Value) (an : Option Addr) (cdv ct : Value) (us : List Value) (hl : us.length = (["marks", "facts", "bounds", "x", "y"] : List Str).length) : bindArgs (PySem.W.fnOf "chain_of" "chain_of" (defArgs sChain) (defBody sChain) (defScope sChain) .none kV doc pm an cdv ct) ⟨us, []⟩ = pure ((["marks", "facts", "bounds", "x", "y"] : List Str).zip us) := match us, hl with | [_, _, _, _, _], _ => rfl
theorem bd_sBounds (kV doc pm : Value) (an : Option Addr) (cdv ct : Value) (us : List Value) (hl : us.length = (["marks", "facts", "bounds", "more"] : List Str).length) : bindArgs (PySem.W.fnOf "bounds_with" "bounds_with" (defArgs sBounds) (defBody sBounds) (defScope sBounds) .none kV doc pm an cdv ct) ⟨us, []⟩ = pure ((["marks", "facts", "bounds", "more"] : List Str).zip us) := match us, hl with | [_, _, _, _], _ => rfl
theorem bd_sTF (kV doc pm : Value) (an : Option Addr) (cdv ct : Value) (us : List Value) (hl : us.length = (["marks", "bounds"] : List Str).length) : bindArgs (PySem.W.fnOf "tight_facts" "tight_facts" (defArgs sTF) (defBody sTF) (defScope sTF) .none kV doc pm an cdv ct) ⟨us, []⟩ = pure ((["marks", "bounds"] : List Str).zip us) := match us, hl with | [_, _], _ => rfl
theorem bd_sTL (kV doc pm : Value) (an : Option Addr) (cdv ct : Value) (us : List Value) (hl : us.length = (["sheet"] : List Str).length) : bindArgs (PySem.W.fnOf "text_lines" "text_lines" (defArgs sTL) (defBody sTL) (defScope sTL) .none kV doc pm an cdv ct) ⟨us, []⟩ = pure ((["sheet"] : List Str).zip us) := match us, hl with | [_], _ => rfl
theorem bd_sPit (kV doc pm : Value) (an : Option Addr) (cdv ct : Value) (us : List Value) (hl : us.length = (["script", "at"] : List Str).length) : bindArgs (PySem.W.fnOf "_law_pit" "_law_pit" (defArgs sPit) (defBody sPit) (defScope sPit) .none kV doc pm an cdv ct) ⟨us, []⟩ = pure ((["script", "at"] : List Str).zip us) := match us, hl with | [_, _], _ => rfl
theorem bd_sHoist (kV doc pm : Value) (an : Option Addr) (cdv ct : Value) (us : List Value) (hl : us.length = (["pit", "below"] : List Str).length) : bindArgs (PySem.W.fnOf "_law_hoist" "_law_hoist" (defArgs sHoist) (defBody sHoist) (defScope sHoist) .none kV doc pm an cdv ct) ⟨us, []⟩ = pure ((["pit", "below"] : List Str).zip us) := match us, hl with | [_, _], _ => rfl
theorem bd_sKin (kV doc pm : Value) (an : Option Addr) (cdv ct : Value) (us : List Value) (hl : us.length = (["found", "due"] : List Str).length) : bindArgs (PySem.W.fnOf "_law_kin" "_law_kin" (defArgs sKin) (defBody sKin) (defScope sKin) .none kV doc pm an cdv ct) ⟨us, []⟩ = pure ((["found", "due"] : List Str).zip us) := match us, hl with | [_, _], _ => rfl
theorem bd_sCN (kV doc pm : Value) (an : Option Addr) (cdv ct : Value) (us : List Value) (hl : us.length = (["pit", "many"] : List Str).length) : bindArgs (PySem.W.fnOf "_law_call_names" "_law_call_names" (defArgs sCN) (defBody sCN) (defScope sCN) .none kV doc pm an cdv ct) ⟨us, []⟩ = pure ((["pit", "many"] : List Str).zip us) := match us, hl with | [_, _], _ => rfl
theorem bd_sClosed (kV doc pm : Value) (an : Option Addr) (cdv ct : Value) (us : List Value) (hl : us.length = (["many", "facts_here"] : List Str).length) : bindArgs (PySem.W.fnOf "_law_closed" "_law_closed" (defArgs sClosed) (defBody sClosed) (defScope sClosed) .none kV doc pm an cdv ct) ⟨us, []⟩ = pure ((["many", "facts_here"] : List Str).zip us) := match us, hl with | [_, _], _ => rfl
theorem bd_sNum (kV doc pm : Value) (an : Option Addr) (cdv ct : Value) (us : List Value) (hl : us.length = (["marks_here", "facts_here"] : List Str).length) : bindArgs (PySem.W.fnOf "_law_numbered" "_law_numbered" (defArgs sNum) (defBody sNum) (defScope sNum) .none kV doc pm an cdv ct) ⟨us, []⟩ = pure ((["marks_here", "facts_here"] : List Str).zip us) := match us, hl with | [_, _], _ => rfl
theorem bd_sDF (kV doc pm : Value) (an : Option Addr) (cdv ct : Value) (us : List Value) (hl : us.length = (["pit", "marks_here", "far"] : List Str).length) : bindArgs (PySem.W.fnOf "_law_drawn_fact" "_law_drawn_fact" (defArgs sDF) (defBody sDF) (defScope sDF) .none kV doc pm an cdv ct) ⟨us, []⟩ = pure ((["pit", "marks_here", "far"] : List Str).zip us) := match us, hl with | [_, _, _], _ => rfl
theorem bd_sDS (kV doc pm : Value) (an : Option Addr) (cdv ct : Value) (us : List Value) (hl : us.length = (["pit", "many", "most", "far"] : List Str).length) : bindArgs (PySem.W.fnOf "_law_drawn_sheet" "_law_drawn_sheet" (defArgs sDS) (defBody sDS) (defScope sDS) .none kV doc pm an cdv ct) ⟨us, []⟩ = pure ((["pit", "many", "most", "far"] : List Str).zip us) := match us, hl with | [_, _, _, _], _ => rfl
theorem bd_sKp (kV doc pm : Value) (an : Option Addr) (cdv ct : Value) (us : List Value) (hl : us.length = (["marks_here", "facts_here", "places"] : List Str).length) : bindArgs (PySem.W.fnOf "_law_keeps" "_law_keeps" (defArgs sKp) (defBody sKp) (defScope sKp) .none kV doc pm an cdv ct) ⟨us, []⟩ = pure ((["marks_here", "facts_here", "places"] : List Str).zip us) := match us, hl with | [_, _, _], _ => rfl
theorem bd_sDR (kV doc pm : Value) (an : Option Addr) (cdv ct : Value) (us : List Value) (hl : us.length = (["pit", "marks_here", "facts_here", "far"] : List Str).length) : bindArgs (PySem.W.fnOf "_law_drawn_recording" "_law_drawn_recording" (defArgs sDR) (defBody sDR) (defScope sDR) .none kV doc pm an cdv ct) ⟨us, []⟩ = pure ((["pit", "marks_here", "facts_here", "far"] : List Str).zip us) := match us, hl with | [_, _, _, _], _ => rfl
theorem bd_sCR (kV doc pm : Value) (an : Option Addr) (cdv ct : Value) (us : List Value) (hl : us.length = (["marks_here", "facts_here", "x_here", "y_here", "way", "due"] : List Str).length) : bindArgs (PySem.W.fnOf "_law_chain_right" "_law_chain_right" (defArgs sCR) (defBody sCR) (defScope sCR) .none kV doc pm an cdv ct) ⟨us, []⟩ = pure ((["marks_here", "facts_here", "x_here", "y_here", "way", "due"] : List Str).zip us) := match us, hl with | [_, _, _, _, _, _], _ => rfl
theorem bd_sTR (kV doc pm : Value) (an : Option Addr) (cdv ct : Value) (us : List Value) (hl : us.length = (["paper", "marks_here", "facts_here", "rows"] : List Str).length) : bindArgs (PySem.W.fnOf "_law_told_right" "_law_told_right" (defArgs sTR) (defBody sTR) (defScope sTR) .none kV doc pm an cdv ct) ⟨us, []⟩ = pure ((["paper", "marks_here", "facts_here", "rows"] : List Str).zip us) := match us, hl with | [_, _, _, _], _ => rfl
theorem bd_sIR (kV doc pm : Value) (an : Option Addr) (cdv ct : Value) (us : List Value) (hl : us.length = (["pit", "paper", "marks_here", "facts_here", "far"] : List Str).length) : bindArgs (PySem.W.fnOf "_law_inside_right" "_law_inside_right" (defArgs sIR) (defBody sIR) (defScope sIR) .none kV doc pm an cdv ct) ⟨us, []⟩ = pure ((["pit", "paper", "marks_here", "facts_here", "far"] : List Str).zip us) := match us, hl with | [_, _, _, _, _], _ => rfl
theorem bd_sSpot (kV doc pm : Value) (an : Option Addr) (cdv ct : Value) (us : List Value) (hl : us.length = (["self", "name"] : List Str).length) : bindArgs (PySem.W.fnOf "spot" "Sheet.spot" (defArgs sSpot) (defBody sSpot) (defScope sSpot) .none kV doc pm an cdv ct) ⟨us, []⟩ = pure ((["self", "name"] : List Str).zip us) := match us, hl with | [_, _], _ => rfl
theorem bd_sGet (kV doc pm : Value) (an : Option Addr) (cdv ct : Value) (us : List Value) (hl : us.length = (["self", "at"] : List Str).length) : bindArgs (PySem.W.fnOf "__getitem__" "Sheet.__getitem__" (defArgs sGet) (defBody sGet) (defScope sGet) .none kV doc pm an cdv ct) ⟨us, []⟩ = pure ((["self", "at"] : List Str).zip us) := match us, hl with | [_, _], _ => rfl
theorem bd_sCh (kV doc pm : Value) (an : Option Addr) (cdv ct : Value) (us : List Value) (hl : us.length = (["self", "x", "y"] : List Str).length) : bindArgs (PySem.W.fnOf "chain" "Sheet.chain" (defArgs sCh) (defBody sCh) (defScope sCh) .none kV doc pm an cdv ct) ⟨us, []⟩ = pure ((["self", "x", "y"] : List Str).zip us) := match us, hl with | [_, _, _], _ => rfl
theorem bd_sIn (kV doc pm : Value) (an : Option Addr) (cdv ct : Value) (us : List Value) (hl : us.length = (["self", "numbers"] : List Str).length) : bindArgs (PySem.W.fnOf "__contains__" "Sheet.__contains__" (defArgs sIn) (defBody sIn) (defScope sIn) .none kV doc pm an cdv ct) ⟨us, []⟩ = pure ((["self", "numbers"] : List Str).zip us) := match us, hl with | [_, _], _ => rfl
theorem bd_sTi (kV doc pm : Value) (an : Option Addr) (cdv ct : Value) (us : List Value) (hl : us.length = (["self"] : List Str).length) : bindArgs (PySem.W.fnOf "tight" "Sheet.tight" (defArgs sTi) (defBody sTi) (defScope sTi) .none kV doc pm an cdv ct) ⟨us, []⟩ = pure ((["self"] : List Str).zip us) := match us, hl with | [_], _ => rfl
theorem bd_sSt (kV doc pm : Value) (an : Option Addr) (cdv ct : Value) (us : List Value) (hl : us.length = (["self"] : List Str).length) : bindArgs (PySem.W.fnOf "__str__" "Sheet.__str__" (defArgs sSt) (defBody sSt) (defScope sSt) .none kV doc pm an cdv ct) ⟨us, []⟩ = pure ((["self"] : List Str).zip us) := match us, hl with | [_], _ => rfl
theorem bd_sLe (kV doc pm : Value) (an : Option Addr) (cdv ct : Value) (us : List Value) (hl : us.length = (["self"] : List Str).length) : bindArgs (PySem.W.fnOf "least" "Sheet.least" (defArgs sLe) (defBody sLe) (defScope sLe) .none kV doc pm an cdv ct) ⟨us, []⟩ = pure ((["self"] : List Str).zip us) := match us, hl with | [_], _ => rfl
/-- the class Sheet, flat -/
theorem shAt {K : PySem.W.Frag} {C iS D0 T : Addr} {oc kV doc pm cdv ct : Value} {od an : Option Addr} {osl : Array (Option Value)} {oT o0 : Obj} {n n0 : Nat}
    (a : PySem.W.nsIn K mainGlobals "Sheet" = some (some (.ref C))) (makes : PySem.W.makesIn K C = true) (init : PySem.W.findIn K (.ref C) "__init__" = some (some (.ref iS))) (fn : PySem.W.isFn K (.ref iS) = true) (kp : PySem.W.keepIn K (.ref C) = true)
    (pg : PySem.W.plainGet K C Str.empty = true) (hd : PySem.W.hasDictIn K C = true) (po : PySem.W.plainOver K C = true) (sa : PySem.W.findIn K (.ref C) "__setattr__" = some (some (.builtin "object.__setattr__")))
    (nm : PySem.W.findIn K (.ref C) "marks" = some none) (nt : PySem.W.findIn K (.ref C) "takes" = some none) (nf : PySem.W.findIn K (.ref C) "facts" = some none) (nl : PySem.W.findIn K (.ref C) "_limits" = some none) (nb : PySem.W.findIn K (.ref C) "bounds" = some none)
    (l : K.lookup iS = some ⟨oc, od, .func (PySem.W.fnOf "__init__" "Sheet.__init__" (defArgs sSheet) (defBody sSheet) (defScope sSheet) (.ref T) kV doc pm an cdv ct), osl⟩) (c : PySem.W.codeIn K cdv "Sheet.__init__" = true) (k : PySem.W.keepIn K (.ref iS) = true)
    (lT : K.lookup T = some oT) (dT : oT.data = .seq #[.ref D0] n) (l0 : K.lookup D0 = some o0) (c0 : o0.cls = .type "tuple") (d0 : o0.data = .seq #[] n0) : ShAt K C iS D0 :=
  ⟨a, makes, init, fn, kp, pg, hd, po, sa, nm, nt, nf, nl, nb, oc, kV, doc, pm, od, an, cdv, ct, osl, T, oT, n, o0, n0, l, c, k, lT, dT, l0, c0, d0⟩
/-- an error class, flat -/
theorem xAt {K : PySem.W.Frag} {st : Stmt} {x fld qual : Str} {C fI N T cda cc : Addr} {nm q : Str} {bs : List Value} {sn : List Str} {sub : List Value} {ab : Bool} {col : Option Bool} {dd : Option Addr} {k0 k1 k2 k3 k5 : Option Value}
    {oc doc pm ct ccl cl : Value} {od an cdd cld : Option Addr} {osl ccs csl : Array (Option Value)} {vs : Array Value} {file : Str} {tf : Tok}
    (g : PySem.W.nsIn K mainGlobals x = some (some (.ref C))) (cls : K.lookup C = some (excClassObj nm q C N bs [.ref T, .type "ValueError", .type "Exception", .type "BaseException", .type "object"] true sn sub ab col dd k0 k1 k2 k3 k5 "ValueError.__new__"))
    (sa : PySem.W.findIn K (.ref C) "__setattr__" = some (some (.builtin "object.__setattr__"))) (ga : PySem.W.findIn K (.ref C) "__getattribute__" = some (some (.builtin "BaseException.__getattribute__"))) (gg : PySem.W.findIn K (.ref C) "__getattr__" = some none) (noN : PySem.W.findIn K (.ref C) fld = some none)
    (iC : PySem.W.findIn K (.ref C) "__init__" = some (some (.ref fI))) (tC : PySem.W.typeIn K (.ref fI) = some (.type "function")) (kC : PySem.W.keepIn K (.ref C) = true) (exC : PySem.W.subIn K (.ref C) (.type "BaseException") = some true) (vE : PySem.W.subIn K (.ref C) (.type "ValueError") = some true)
    (tyC : PySem.W.typeIn K (.ref C) = some (.type "type")) (hdC : PySem.W.hasDictIn K C = true) (se : PySem.W.subIn K (.ref C) (.ref C) = some true) (su : PySem.W.ks_superIn K C C "__init__" = some (some (.builtin "ValueError.__init__"))) (mr : PySem.W.mroIn K C (.ref C) = some true)
    (sc : PySem.W.nsIn K cStatics "thirdparty.any" = some none) (sp : PySem.W.nsIn K mainGlobals "super" = some none)
    (l : K.lookup fI = some ⟨oc, od, .func (PySem.W.ksFn "__init__" qual (defArgs st) (defBody st) (defScope st) .none .none doc pm an (.ref cda) ct cc), osl⟩) (c : PySem.W.codeIn K (.ref cda) qual = true) (lc : K.lookup cda = some ⟨ccl, cdd, .fields vs, ccs⟩) (hvs : vs[2]? = some (.str file tf)) (hf : ((prg.main.file : Str) == file) = true)
    (lcc : K.lookup cc = some ⟨cl, cld, .cell (some (.ref C)), csl⟩) : XAt K st x fld qual C fI :=
  ⟨g, ⟨nm, q, N, bs, sn, sub, ab, col, dd, k0, k1, k2, k3, k5, T, cls⟩, sa, ga, gg, noN, iC, tC, kC, exC, vE, tyC, hdC, se, su, mr, sc, sp, oc, doc, pm, ct, ccl, cl, od, an, cdd, cld, osl, ccs, csl, cda, cc, vs, file, tf, l, c, lc, hvs, hf, lcc⟩
theorem law_ex {K : PySem.W.Frag} {h : Heap} {mg : Str → Option Value} {w : World} {fa f C iS D0 CM CT CF CC iM iT iF iC : Addr} {oc : Value} {od an : Option Addr} {osl : Array (Option Value)} {kV doc pm cdv ct : Value} (X : K.In h) (G : h.Ns mainGlobals mg) (hfa : mg "law" = some (.ref fa))
    (a : PySem.W.nsIn K mainGlobals "law" = some (some (.ref f))) (l : K.lookup f = some ⟨oc, od, .func (PySem.W.fnOf "law" "law" (defArgs sLaw) (defBody sLaw) (defScope sLaw) .none kV doc pm an cdv ct), osl⟩) (c : PySem.W.codeIn K cdv "law" = true) (k : PySem.W.keepIn K (.ref f) = true)
    (B : BiAt K) (D : DfAt K) (S : ShAt K C iS D0) (M : MtAt K C) (XM : XAt K (sXI 11) "BadMarks" "index" "BadMarks.__init__" CM iM) (XT : XAt K (sXI 12) "BadTakes" "index" "BadTakes.__init__" CT iT) (XF : XAt K (sXI 13) "BadFact" "index" "BadFact.__init__" CF iF) (XC : XAt K (sXI 14) "Contradiction" "ring" "Contradiction.__init__" CC iC) :
    ∃ fd : FuncData, (∀ (s : Shared) (u : Value), BindsTo s fd ⟨[u], []⟩ [("script", u)]) ∧ ∀ base : Heap, K.In base → base.Ns mainGlobals mg → FnOk prg w K mg base CX0 7 fa fd ["script"] (spLaw K) := by
  have e := hfa.symm.trans (PySem.W.mg_of X G a)
  cases e
  exact ⟨_, law_all X G B D S M XM XT XF XC (fun_mk l c k)⟩
end K1
end
section
set_option maxRecDepth 100000
set_option maxHeartbeats 0
open PySem PySem.W PyProof.Rows
theorem PySem.Challenge.cw_unknowntakes_k02_sheets_told_holds : PySem.Challenge.rw_unknowntakes_k02_sheets_told.Holds := by
  exact PySem.K02.hd (by
    w_strict (
      k_fill
      refine K1.walk (l := PySem.Challenge.rw_unknowntakes_k02_sheets_told) rfl rfl (fun w h Y => PySem.W.kIn_of Y) ?F
      case F =>
        intro w mg fa h KX G hmg
        refine' K1.law_ex KX G hmg ?a ?l ?c ?k ?B ?D ?S ?M ?XM ?XT ?XF ?XC
        case a => (first | k_is | rfl | kernel_rfl)
        case l => (first | k_is | rfl | kernel_rfl)
        case c => (first | k_is | rfl | kernel_rfl)
        case k => (first | k_is | rfl | kernel_rfl)
        case B => exact ⟨by (first | k_is | rfl | kernel_rfl), by (first | k_is | rfl | kernel_rfl), by (first | k_is | rfl | kernel_rfl), by (first | k_is | rfl | kernel_rfl), by (first | k_is | rfl | kernel_rfl), by (first | k_is | rfl | kernel_rfl), by (first | k_is | rfl | kernel_rfl), by (first | k_is | rfl | kernel_rfl), by (first | k_is | rfl | kernel_rfl), by (first | k_is | rfl | kernel_rfl), by (first | k_is | rfl | kernel_rfl), by (first | k_is | rfl | kernel_rfl), by (first | k_is | rfl | kernel_rfl), by (first | k_is | rfl | kernel_rfl), by (first | k_is | rfl | kernel_rfl), by (first | k_is | rfl | kernel_rfl)⟩
        case D =>
          refine' ⟨?dsFree, ?dsBarred, ?dsKept, ?dsLesser, ?dsTight, ?dsLeast, ?dsFits, ?dsWhole, ?dsName, ?dsAre, ?dsLL, ?dsNames, ?dsSpots, ?dsBadMark, ?dsBadTake, ?dsFact, ?dsBadFact, ?dsCheck, ?dsAll, ?dsStraight, ?dsChain, ?dsBounds, ?dsTF, ?dsTL, ?dsPit, ?dsHoist, ?dsKin, ?dsCN, ?dsClosed, ?dsNum, ?dsDF, ?dsDS, ?dsKp, ?dsDR, ?dsCR, ?dsTR, ?dsIR⟩
          case dsFree => (refine' K1.defAt ?a ?l ?c ?k K1.bd_sFree; (case a => (first | k_is | rfl | kernel_rfl)); (case l => (first | k_is | rfl | kernel_rfl)); (case c => (first | k_is | rfl | kernel_rfl)); (case k => (first | k_is | rfl | kernel_rfl)))
          case dsBarred => (refine' K1.defAt ?a ?l ?c ?k K1.bd_sBarred; (case a => (first | k_is | rfl | kernel_rfl)); (case l => (first | k_is | rfl | kernel_rfl)); (case c => (first | k_is | rfl | kernel_rfl)); (case k => (first | k_is | rfl | kernel_rfl)))
          case dsKept => (refine' K1.defAt ?a ?l ?c ?k K1.bd_sKept; (case a => (first | k_is | rfl | kernel_rfl)); (case l => (first | k_is | rfl | kernel_rfl)); (case c => (first | k_is | rfl | kernel_rfl)); (case k => (first | k_is | rfl | kernel_rfl)))
          case dsLesser => (refine' K1.defAt ?a ?l ?c ?k K1.bd_sLesser; (case a => (first | k_is | rfl | kernel_rfl)); (case l => (first | k_is | rfl | kernel_rfl)); (case c => (first | k_is | rfl | kernel_rfl)); (case k => (first | k_is | rfl | kernel_rfl)))
          case dsTight => (refine' K1.defAt ?a ?l ?c ?k K1.bd_sTight; (case a => (first | k_is | rfl | kernel_rfl)); (case l => (first | k_is | rfl | kernel_rfl)); (case c => (first | k_is | rfl | kernel_rfl)); (case k => (first | k_is | rfl | kernel_rfl)))
          case dsLeast => (refine' K1.defAt ?a ?l ?c ?k K1.bd_sLeast; (case a => (first | k_is | rfl | kernel_rfl)); (case l => (first | k_is | rfl | kernel_rfl)); (case c => (first | k_is | rfl | kernel_rfl)); (case k => (first | k_is | rfl | kernel_rfl)))
          case dsFits => (refine' K1.defAt ?a ?l ?c ?k K1.bd_sFits; (case a => (first | k_is | rfl | kernel_rfl)); (case l => (first | k_is | rfl | kernel_rfl)); (case c => (first | k_is | rfl | kernel_rfl)); (case k => (first | k_is | rfl | kernel_rfl)))
          case dsWhole => (refine' K1.defAt ?a ?l ?c ?k K1.bd_sWhole; (case a => (first | k_is | rfl | kernel_rfl)); (case l => (first | k_is | rfl | kernel_rfl)); (case c => (first | k_is | rfl | kernel_rfl)); (case k => (first | k_is | rfl | kernel_rfl)))
          case dsName => (refine' K1.defAt ?a ?l ?c ?k K1.bd_sName; (case a => (first | k_is | rfl | kernel_rfl)); (case l => (first | k_is | rfl | kernel_rfl)); (case c => (first | k_is | rfl | kernel_rfl)); (case k => (first | k_is | rfl | kernel_rfl)))
          case dsAre => (refine' K1.defAt ?a ?l ?c ?k K1.bd_sAre; (case a => (first | k_is | rfl | kernel_rfl)); (case l => (first | k_is | rfl | kernel_rfl)); (case c => (first | k_is | rfl | kernel_rfl)); (case k => (first | k_is | rfl | kernel_rfl)))
          case dsLL => (refine' K1.defAt ?a ?l ?c ?k K1.bd_sLL; (case a => (first | k_is | rfl | kernel_rfl)); (case l => (first | k_is | rfl | kernel_rfl)); (case c => (first | k_is | rfl | kernel_rfl)); (case k => (first | k_is | rfl | kernel_rfl)))
          case dsNames => (refine' K1.defAt ?a ?l ?c ?k K1.bd_sNames; (case a => (first | k_is | rfl | kernel_rfl)); (case l => (first | k_is | rfl | kernel_rfl)); (case c => (first | k_is | rfl | kernel_rfl)); (case k => (first | k_is | rfl | kernel_rfl)))
          case dsSpots => (refine' K1.defAt ?a ?l ?c ?k K1.bd_sSpots; (case a => (first | k_is | rfl | kernel_rfl)); (case l => (first | k_is | rfl | kernel_rfl)); (case c => (first | k_is | rfl | kernel_rfl)); (case k => (first | k_is | rfl | kernel_rfl)))
          case dsBadMark => (refine' K1.defAt ?a ?l ?c ?k K1.bd_sBadMark; (case a => (first | k_is | rfl | kernel_rfl)); (case l => (first | k_is | rfl | kernel_rfl)); (case c => (first | k_is | rfl | kernel_rfl)); (case k => (first | k_is | rfl | kernel_rfl)))
          case dsBadTake => (refine' K1.defAt ?a ?l ?c ?k K1.bd_sBadTake; (case a => (first | k_is | rfl | kernel_rfl)); (case l => (first | k_is | rfl | kernel_rfl)); (case c => (first | k_is | rfl | kernel_rfl)); (case k => (first | k_is | rfl | kernel_rfl)))
          case dsFact => (refine' K1.defAt ?a ?l ?c ?k K1.bd_sFact; (case a => (first | k_is | rfl | kernel_rfl)); (case l => (first | k_is | rfl | kernel_rfl)); (case c => (first | k_is | rfl | kernel_rfl)); (case k => (first | k_is | rfl | kernel_rfl)))
          case dsBadFact => (refine' K1.defAt ?a ?l ?c ?k K1.bd_sBadFact; (case a => (first | k_is | rfl | kernel_rfl)); (case l => (first | k_is | rfl | kernel_rfl)); (case c => (first | k_is | rfl | kernel_rfl)); (case k => (first | k_is | rfl | kernel_rfl)))
          case dsCheck => (refine' K1.defAt ?a ?l ?c ?k K1.bd_sCheck; (case a => (first | k_is | rfl | kernel_rfl)); (case l => (first | k_is | rfl | kernel_rfl)); (case c => (first | k_is | rfl | kernel_rfl)); (case k => (first | k_is | rfl | kernel_rfl)))
          case dsAll => (refine' K1.defAt ?a ?l ?c ?k K1.bd_sAll; (case a => (first | k_is | rfl | kernel_rfl)); (case l => (first | k_is | rfl | kernel_rfl)); (case c => (first | k_is | rfl | kernel_rfl)); (case k => (first | k_is | rfl | kernel_rfl)))
          case dsStraight => (refine' K1.defAt ?a ?l ?c ?k K1.bd_sStraight; (case a => (first | k_is | rfl | kernel_rfl)); (case l => (first | k_is | rfl | kernel_rfl)); (case c => (first | k_is | rfl | kernel_rfl)); (case k => (first | k_is | rfl | kernel_rfl)))
          case dsChain => (refine' K1.defAt ?a ?l ?c ?k K1.bd_sChain; (case a => (first | k_is | rfl | kernel_rfl)); (case l => (first | k_is | rfl | kernel_rfl)); (case c => (first | k_is | rfl | kernel_rfl)); (case k => (first | k_is | rfl | kernel_rfl)))
          case dsBounds => (refine' K1.defAt ?a ?l ?c ?k K1.bd_sBounds; (case a => (first | k_is | rfl | kernel_rfl)); (case l => (first | k_is | rfl | kernel_rfl)); (case c => (first | k_is | rfl | kernel_rfl)); (case k => (first | k_is | rfl | kernel_rfl)))
          case dsTF => (refine' K1.defAt ?a ?l ?c ?k K1.bd_sTF; (case a => (first | k_is | rfl | kernel_rfl)); (case l => (first | k_is | rfl | kernel_rfl)); (case c => (first | k_is | rfl | kernel_rfl)); (case k => (first | k_is | rfl | kernel_rfl)))
          case dsTL => (refine' K1.defAt ?a ?l ?c ?k K1.bd_sTL; (case a => (first | k_is | rfl | kernel_rfl)); (case l => (first | k_is | rfl | kernel_rfl)); (case c => (first | k_is | rfl | kernel_rfl)); (case k => (first | k_is | rfl | kernel_rfl)))
          case dsPit => (refine' K1.defAt ?a ?l ?c ?k K1.bd_sPit; (case a => (first | k_is | rfl | kernel_rfl)); (case l => (first | k_is | rfl | kernel_rfl)); (case c => (first | k_is | rfl | kernel_rfl)); (case k => (first | k_is | rfl | kernel_rfl)))
          case dsHoist => (refine' K1.defAt ?a ?l ?c ?k K1.bd_sHoist; (case a => (first | k_is | rfl | kernel_rfl)); (case l => (first | k_is | rfl | kernel_rfl)); (case c => (first | k_is | rfl | kernel_rfl)); (case k => (first | k_is | rfl | kernel_rfl)))
          case dsKin => (refine' K1.defAt ?a ?l ?c ?k K1.bd_sKin; (case a => (first | k_is | rfl | kernel_rfl)); (case l => (first | k_is | rfl | kernel_rfl)); (case c => (first | k_is | rfl | kernel_rfl)); (case k => (first | k_is | rfl | kernel_rfl)))
          case dsCN => (refine' K1.defAt ?a ?l ?c ?k K1.bd_sCN; (case a => (first | k_is | rfl | kernel_rfl)); (case l => (first | k_is | rfl | kernel_rfl)); (case c => (first | k_is | rfl | kernel_rfl)); (case k => (first | k_is | rfl | kernel_rfl)))
          case dsClosed => (refine' K1.defAt ?a ?l ?c ?k K1.bd_sClosed; (case a => (first | k_is | rfl | kernel_rfl)); (case l => (first | k_is | rfl | kernel_rfl)); (case c => (first | k_is | rfl | kernel_rfl)); (case k => (first | k_is | rfl | kernel_rfl)))
          case dsNum => (refine' K1.defAt ?a ?l ?c ?k K1.bd_sNum; (case a => (first | k_is | rfl | kernel_rfl)); (case l => (first | k_is | rfl | kernel_rfl)); (case c => (first | k_is | rfl | kernel_rfl)); (case k => (first | k_is | rfl | kernel_rfl)))
          case dsDF => (refine' K1.defAt ?a ?l ?c ?k K1.bd_sDF; (case a => (first | k_is | rfl | kernel_rfl)); (case l => (first | k_is | rfl | kernel_rfl)); (case c => (first | k_is | rfl | kernel_rfl)); (case k => (first | k_is | rfl | kernel_rfl)))
          case dsDS => (refine' K1.defAt ?a ?l ?c ?k K1.bd_sDS; (case a => (first | k_is | rfl | kernel_rfl)); (case l => (first | k_is | rfl | kernel_rfl)); (case c => (first | k_is | rfl | kernel_rfl)); (case k => (first | k_is | rfl | kernel_rfl)))
          case dsKp => (refine' K1.defAt ?a ?l ?c ?k K1.bd_sKp; (case a => (first | k_is | rfl | kernel_rfl)); (case l => (first | k_is | rfl | kernel_rfl)); (case c => (first | k_is | rfl | kernel_rfl)); (case k => (first | k_is | rfl | kernel_rfl)))
          case dsDR => (refine' K1.defAt ?a ?l ?c ?k K1.bd_sDR; (case a => (first | k_is | rfl | kernel_rfl)); (case l => (first | k_is | rfl | kernel_rfl)); (case c => (first | k_is | rfl | kernel_rfl)); (case k => (first | k_is | rfl | kernel_rfl)))
          case dsCR => (refine' K1.defAt ?a ?l ?c ?k K1.bd_sCR; (case a => (first | k_is | rfl | kernel_rfl)); (case l => (first | k_is | rfl | kernel_rfl)); (case c => (first | k_is | rfl | kernel_rfl)); (case k => (first | k_is | rfl | kernel_rfl)))
          case dsTR => (refine' K1.defAt ?a ?l ?c ?k K1.bd_sTR; (case a => (first | k_is | rfl | kernel_rfl)); (case l => (first | k_is | rfl | kernel_rfl)); (case c => (first | k_is | rfl | kernel_rfl)); (case k => (first | k_is | rfl | kernel_rfl)))
          case dsIR => (refine' K1.defAt ?a ?l ?c ?k K1.bd_sIR; (case a => (first | k_is | rfl | kernel_rfl)); (case l => (first | k_is | rfl | kernel_rfl)); (case c => (first | k_is | rfl | kernel_rfl)); (case k => (first | k_is | rfl | kernel_rfl)))
        case S =>
          refine' K1.shAt ?a ?makes ?init ?fn ?kp ?pg ?hd ?po ?sa ?nm ?nt ?nf ?nl ?nb ?l ?c ?k ?lT ?dT ?l0 ?c0 ?d0
          case a => (first | k_is | rfl | kernel_rfl)
          case makes => (first | k_is | rfl | kernel_rfl)
          case init => (first | k_is | rfl | kernel_rfl)
          case fn => (first | k_is | rfl | kernel_rfl)
          case kp => (first | k_is | rfl | kernel_rfl)
          case pg => (first | k_is | rfl | kernel_rfl)
          case hd => (first | k_is | rfl | kernel_rfl)
          case po => (first | k_is | rfl | kernel_rfl)
          case sa => (first | k_is | rfl | kernel_rfl)
          case nm => (first | k_is | rfl | kernel_rfl)
          case nt => (first | k_is | rfl | kernel_rfl)
          case nf => (first | k_is | rfl | kernel_rfl)
          case nl => (first | k_is | rfl | kernel_rfl)
          case nb => (first | k_is | rfl | kernel_rfl)
          case l => (first | k_is | rfl | kernel_rfl)
          case c => (first | k_is | rfl | kernel_rfl)
          case k => (first | k_is | rfl | kernel_rfl)
          case lT => (first | k_is | rfl | kernel_rfl)
          case dT => rfl
          case l0 => (first | k_is | rfl | kernel_rfl)
          case c0 => rfl
          case d0 => rfl
        case M =>
          refine' ⟨?dsSpot, ?dsGet, ?dsCh, ?dsIn, ?dsTi, ?dsSt, ?dsLe⟩
          case dsSpot => (refine' K1.metAt ?a ?fn ?fn2 ?l ?c ?k K1.bd_sSpot; (case a => (first | k_is | rfl | kernel_rfl)); (case fn => (first | k_is | rfl | kernel_rfl)); (case fn2 => (first | k_is | rfl | kernel_rfl)); (case l => (first | k_is | rfl | kernel_rfl)); (case c => (first | k_is | rfl | kernel_rfl)); (case k => (first | k_is | rfl | kernel_rfl)))
          case dsGet => (refine' K1.metAt ?a ?fn ?fn2 ?l ?c ?k K1.bd_sGet; (case a => (first | k_is | rfl | kernel_rfl)); (case fn => (first | k_is | rfl | kernel_rfl)); (case fn2 => (first | k_is | rfl | kernel_rfl)); (case l => (first | k_is | rfl | kernel_rfl)); (case c => (first | k_is | rfl | kernel_rfl)); (case k => (first | k_is | rfl | kernel_rfl)))
          case dsCh => (refine' K1.metAt ?a ?fn ?fn2 ?l ?c ?k K1.bd_sCh; (case a => (first | k_is | rfl | kernel_rfl)); (case fn => (first | k_is | rfl | kernel_rfl)); (case fn2 => (first | k_is | rfl | kernel_rfl)); (case l => (first | k_is | rfl | kernel_rfl)); (case c => (first | k_is | rfl | kernel_rfl)); (case k => (first | k_is | rfl | kernel_rfl)))
          case dsIn => (refine' K1.metAt ?a ?fn ?fn2 ?l ?c ?k K1.bd_sIn; (case a => (first | k_is | rfl | kernel_rfl)); (case fn => (first | k_is | rfl | kernel_rfl)); (case fn2 => (first | k_is | rfl | kernel_rfl)); (case l => (first | k_is | rfl | kernel_rfl)); (case c => (first | k_is | rfl | kernel_rfl)); (case k => (first | k_is | rfl | kernel_rfl)))
          case dsTi => (refine' K1.metAt ?a ?fn ?fn2 ?l ?c ?k K1.bd_sTi; (case a => (first | k_is | rfl | kernel_rfl)); (case fn => (first | k_is | rfl | kernel_rfl)); (case fn2 => (first | k_is | rfl | kernel_rfl)); (case l => (first | k_is | rfl | kernel_rfl)); (case c => (first | k_is | rfl | kernel_rfl)); (case k => (first | k_is | rfl | kernel_rfl)))
          case dsSt => (refine' K1.metAt ?a ?fn ?fn2 ?l ?c ?k K1.bd_sSt; (case a => (first | k_is | rfl | kernel_rfl)); (case fn => (first | k_is | rfl | kernel_rfl)); (case fn2 => (first | k_is | rfl | kernel_rfl)); (case l => (first | k_is | rfl | kernel_rfl)); (case c => (first | k_is | rfl | kernel_rfl)); (case k => (first | k_is | rfl | kernel_rfl)))
          case dsLe =>
            refine' K1.prpAt ?a ?g ?t ?r ?l ?c ?k K1.bd_sLe
            case a => (first | k_is | rfl | kernel_rfl)
            case g => (first | k_is | rfl | kernel_rfl)
            case t => (first | k_is | rfl | kernel_rfl)
            case r => (first | k_is | rfl | kernel_rfl)
            case l => (first | k_is | rfl | kernel_rfl)
            case c => (first | k_is | rfl | kernel_rfl)
            case k => (first | k_is | rfl | kernel_rfl)
        case XM => (refine' K1.xAt ?g ?cls ?sa ?ga ?gg ?noN ?iC ?tC ?kC ?exC ?vE ?tyC ?hdC ?se ?su ?mr ?sc ?sp ?l ?c ?lc ?hvs ?hf ?lcc; (case g => (first | k_is | rfl | kernel_rfl)); (case cls => (first | k_is | rfl | kernel_rfl)); (case sa => (first | k_is | rfl | kernel_rfl)); (case ga => (first | k_is | rfl | kernel_rfl)); (case gg => (first | k_is | rfl | kernel_rfl)); (case noN => (first | k_is | rfl | kernel_rfl)); (case iC => (first | k_is | rfl | kernel_rfl)); (case tC => (first | k_is | rfl | kernel_rfl)); (case kC => (first | k_is | rfl | kernel_rfl)); (case exC => (first | k_is | rfl | kernel_rfl)); (case vE => (first | k_is | rfl | kernel_rfl)); (case tyC => (first | k_is | rfl | kernel_rfl)); (case hdC => (first | k_is | rfl | kernel_rfl)); (case se => (first | k_is | rfl | kernel_rfl)); (case su => (first | k_is | rfl | kernel_rfl)); (case mr => (first | k_is | rfl | kernel_rfl)); (case sc => (first | k_is | rfl | kernel_rfl)); (case sp => (first | k_is | rfl | kernel_rfl)); (case l => (first | k_is | rfl | kernel_rfl)); (case c => (first | k_is | rfl | kernel_rfl)); (case lc => (first | k_is | rfl | kernel_rfl)); (case hvs => rfl); (case hf => rfl); (case lcc => (first | k_is | rfl | kernel_rfl)))
        case XT => (refine' K1.xAt ?g ?cls ?sa ?ga ?gg ?noN ?iC ?tC ?kC ?exC ?vE ?tyC ?hdC ?se ?su ?mr ?sc ?sp ?l ?c ?lc ?hvs ?hf ?lcc; (case g => (first | k_is | rfl | kernel_rfl)); (case cls => (first | k_is | rfl | kernel_rfl)); (case sa => (first | k_is | rfl | kernel_rfl)); (case ga => (first | k_is | rfl | kernel_rfl)); (case gg => (first | k_is | rfl | kernel_rfl)); (case noN => (first | k_is | rfl | kernel_rfl)); (case iC => (first | k_is | rfl | kernel_rfl)); (case tC => (first | k_is | rfl | kernel_rfl)); (case kC => (first | k_is | rfl | kernel_rfl)); (case exC => (first | k_is | rfl | kernel_rfl)); (case vE => (first | k_is | rfl | kernel_rfl)); (case tyC => (first | k_is | rfl | kernel_rfl)); (case hdC => (first | k_is | rfl | kernel_rfl)); (case se => (first | k_is | rfl | kernel_rfl)); (case su => (first | k_is | rfl | kernel_rfl)); (case mr => (first | k_is | rfl | kernel_rfl)); (case sc => (first | k_is | rfl | kernel_rfl)); (case sp => (first | k_is | rfl | kernel_rfl)); (case l => (first | k_is | rfl | kernel_rfl)); (case c => (first | k_is | rfl | kernel_rfl)); (case lc => (first | k_is | rfl | kernel_rfl)); (case hvs => rfl); (case hf => rfl); (case lcc => (first | k_is | rfl | kernel_rfl)))
        case XF => (refine' K1.xAt ?g ?cls ?sa ?ga ?gg ?noN ?iC ?tC ?kC ?exC ?vE ?tyC ?hdC ?se ?su ?mr ?sc ?sp ?l ?c ?lc ?hvs ?hf ?lcc; (case g => (first | k_is | rfl | kernel_rfl)); (case cls => (first | k_is | rfl | kernel_rfl)); (case sa => (first | k_is | rfl | kernel_rfl)); (case ga => (first | k_is | rfl | kernel_rfl)); (case gg => (first | k_is | rfl | kernel_rfl)); (case noN => (first | k_is | rfl | kernel_rfl)); (case iC => (first | k_is | rfl | kernel_rfl)); (case tC => (first | k_is | rfl | kernel_rfl)); (case kC => (first | k_is | rfl | kernel_rfl)); (case exC => (first | k_is | rfl | kernel_rfl)); (case vE => (first | k_is | rfl | kernel_rfl)); (case tyC => (first | k_is | rfl | kernel_rfl)); (case hdC => (first | k_is | rfl | kernel_rfl)); (case se => (first | k_is | rfl | kernel_rfl)); (case su => (first | k_is | rfl | kernel_rfl)); (case mr => (first | k_is | rfl | kernel_rfl)); (case sc => (first | k_is | rfl | kernel_rfl)); (case sp => (first | k_is | rfl | kernel_rfl)); (case l => (first | k_is | rfl | kernel_rfl)); (case c => (first | k_is | rfl | kernel_rfl)); (case lc => (first | k_is | rfl | kernel_rfl)); (case hvs => rfl); (case hf => rfl); (case lcc => (first | k_is | rfl | kernel_rfl)))
        case XC => (refine' K1.xAt ?g ?cls ?sa ?ga ?gg ?noN ?iC ?tC ?kC ?exC ?vE ?tyC ?hdC ?se ?su ?mr ?sc ?sp ?l ?c ?lc ?hvs ?hf ?lcc; (case g => (first | k_is | rfl | kernel_rfl)); (case cls => (first | k_is | rfl | kernel_rfl)); (case sa => (first | k_is | rfl | kernel_rfl)); (case ga => (first | k_is | rfl | kernel_rfl)); (case gg => (first | k_is | rfl | kernel_rfl)); (case noN => (first | k_is | rfl | kernel_rfl)); (case iC => (first | k_is | rfl | kernel_rfl)); (case tC => (first | k_is | rfl | kernel_rfl)); (case kC => (first | k_is | rfl | kernel_rfl)); (case exC => (first | k_is | rfl | kernel_rfl)); (case vE => (first | k_is | rfl | kernel_rfl)); (case tyC => (first | k_is | rfl | kernel_rfl)); (case hdC => (first | k_is | rfl | kernel_rfl)); (case se => (first | k_is | rfl | kernel_rfl)); (case su => (first | k_is | rfl | kernel_rfl)); (case mr => (first | k_is | rfl | kernel_rfl)); (case sc => (first | k_is | rfl | kernel_rfl)); (case sp => (first | k_is | rfl | kernel_rfl)); (case l => (first | k_is | rfl | kernel_rfl)); (case c => (first | k_is | rfl | kernel_rfl)); (case lc => (first | k_is | rfl | kernel_rfl)); (case hvs => rfl); (case hf => rfl); (case lcc => (first | k_is | rfl | kernel_rfl)))))
end
