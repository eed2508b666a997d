import PyProof.Rows.All
import Wide.All
import OpenK.AllK
import Wide.FinOn
import KE.KExcTry
import KE.KExcIs
import KE.KExcStr
import KE.KExcSuper
import Open.Tops
import HandS.ForMost
import HandS.ForExc
import HandS.Zip
import HandS.IsInst
import HandS.Flow
import HandS.TupAny
import HandS.Wide
import HandS.Star
import HandS.Walk
import HandS.FStr
import HandS.StrMore
import HandS.DictComp
import KE.GoesMore
import KE.KTurns
import KE.GoesEnum
import HandS.FStrTup
import HandS.Exc
import HandS.ExcSuper
import HandS.ExcInit
import HandS.WordsExc
import HandS.TryMany
import HandS.TryOnly
import HandS.ExcOwn
import HandS.ExcCtx
import HandS.Defaults
import HandS.MakeKw
import HandS.MakeKwOnly
import HandS.ExcIs
import HandS.HotCalls
import HandS.SetFor
import HandS.Deep
import HandS.ExcField
import PySem.Challenge.RW_unknowntakes_k01_sheets_checked
set_option Elab.async false
set_option linter.all false
set_option rowWalk.seconds 0
section
open PySem PySem.W PyProof.Rows
set_option maxRecDepth 100000
set_option maxHeartbeats 0
open_top PySem.K01.hd for PySem.Challenge.rw_unknowntakes_k01_sheets_checked
end
section
open PySem PySem.W PyProof.Rows
theorem k01_off : True := by
  w_top off
  trivial
end
section
set_option autoImplicit false
namespace K01
abbrev Cell := Option Int
abbrev Mat := List (List Cell)
abbrev Edge := Nat × Nat × Int
def rowAt (B : Mat) (x : Nat) : List Cell := (B[x]?).getD []
def cell (B : Mat) (x y : Nat) : Cell := ((rowAt B x)[y]?).getD none
def LeC (c : Cell) (k : Int) : Prop := ∃ d, c = some d ∧ d ≤ k
def Le (B : Mat) (x y : Nat) (k : Int) : Prop := LeC (cell B x y) k
def Sized (n : Nat) (B : Mat) : Prop := B.length = n ∧ ∀ r ∈ B, r.length = n
theorem LeC.mono {c : Cell} {k l : Int} (h : LeC c k) (e : k ≤ l) : LeC c l := by
  obtain ⟨d, h1, h2⟩ := h
  exact ⟨d, h1, by omega⟩
theorem Le.mono {B : Mat} {x y : Nat} {k l : Int} (h : Le B x y k) (e : k ≤ l) : Le B x y l := LeC.mono h e
theorem LeC.some {d k : Int} (h : d ≤ k) : LeC (some d) k := ⟨d, rfl, h⟩
theorem rowAt_of {B : Mat} {x : Nat} {r : List Cell} (h : B[x]? = some r) : rowAt B x = r := by
  unfold rowAt; rw [h]; rfl
theorem Sized.row {n : Nat} {B : Mat} (h : Sized n B) {x : Nat} (hx : x < n) : ∃ r, B[x]? = some r ∧ r.length = n := by
  have h1 : x < B.length := by rw [h.1]; exact hx
  exact ⟨B[x], List.getElem?_eq_getElem h1, h.2 _ (List.getElem_mem h1)⟩
theorem Sized.rowAt {n : Nat} {B : Mat} (h : Sized n B) {x : Nat} (hx : x < n) : (K01.rowAt B x).length = n := by
  obtain ⟨r, h1, h2⟩ := h.row hx
  rw [rowAt_of h1]; exact h2

/-! walks -/
inductive Walk (E : List Edge) : Nat → Nat → Int → Prop
  | nil (x : Nat) : Walk E x x 0
  | cons {x u y : Nat} {c d : Int} : (x, u, c) ∈ E → Walk E u y d → Walk E x y (c + d)
theorem Walk.mono {E F : List Edge} (h : ∀ e ∈ E, e ∈ F) {x y : Nat} {c : Int} (w : Walk E x y c) : Walk F x y c := by
  induction w with
  | nil x => exact .nil x
  | cons e _ ih => exact .cons (h _ e) ih
theorem Walk.app {E : List Edge} {x y z : Nat} {c d : Int} (w : Walk E x y c) (v : Walk E y z d) : Walk E x z (c + d) := by
  induction w with
  | nil x => rw [Int.zero_add]; exact v
  | cons e _ ih => rw [Int.add_assoc]; exact .cons e (ih v)
def InR (n : Nat) (E : List Edge) : Prop := ∀ e ∈ E, e.1 < n ∧ e.2.1 < n
structure Good (n : Nat) (E : List Edge) (B : Mat) : Prop where
  sized : Sized n B
  tri : ∀ {x y z : Nat} {k l : Int}, x < n → y < n → z < n → Le B x z k → Le B z y l → Le B x y (k + l)
  diag0 : ∀ {x : Nat}, x < n → Le B x x 0
  diag : ∀ {x : Nat} {k : Int}, x < n → Le B x x k → 0 ≤ k
  edge : ∀ {x y : Nat} {c : Int}, (x, y, c) ∈ E → Le B x y c
  walk : ∀ {x y : Nat} {k : Int}, x < n → y < n → Le B x y k → ∃ c, c ≤ k ∧ Walk E x y c
theorem Good.leW {n : Nat} {E : List Edge} {B : Mat} (G : Good n E B) (R : InR n E) {x y : Nat} {c : Int} (w : Walk E x y c) (hx : x < n) (hy : y < n) : Le B x y c := by
  induction w with
  | nil x => exact G.diag0 hx
  | cons e w ih =>
    have hu := (R _ e).2
    exact G.tri hx hy hu (G.edge e) (ih hu hy)
/-- the value of a good matrix' cell is the sum of a walk, and none is less -/
theorem Good.tightW {n : Nat} {E : List Edge} {B : Mat} (G : Good n E B) (R : InR n E) {x y : Nat} {d : Int} (hx : x < n) (hy : y < n) (h : cell B x y = some d) : Walk E x y d := by
  obtain ⟨c, h1, h2⟩ := G.walk hx hy ⟨d, h, Int.le_refl _⟩
  obtain ⟨d', h3, h4⟩ := G.leW R h2 hx hy
  rw [h] at h3
  cases h3
  have : c = d := by omega
  rw [← this]; exact h2
/-- one step out of a set of nodes, along a straight edge -/
theorem Good.out {n : Nat} {E : List Edge} {B : Mat} (G : Good n E B) (R : InR n E) (S : Nat → Prop) {x goal : Nat} {c : Int} (w : Walk E x goal c) (hx : x < n) (hg : goal < n)
    (hc : cell B x goal = some c) (hS : S x) (hN : ¬ S goal) : ∃ u v k d1 d2, (u, v, k) ∈ E ∧ S u ∧ ¬ S v ∧ cell B u goal = some d1 ∧ cell B v goal = some d2 ∧ d1 = k + d2 := by
  induction w with
  | nil x => exact absurd hS hN
  | @cons x u y c d e w ih =>
    have hu := (R _ e).2
    obtain ⟨d2, h1, h2⟩ := G.leW R w hu hg
    obtain ⟨d3, h3, h4⟩ := G.tri hx hg hu (G.edge e) ⟨d2, h1, Int.le_refl _⟩
    rw [hc] at h3
    cases h3
    have : d = d2 := by omega
    subst this
    by_cases s : S u
    · exact ih hu hg h1 s hN
    · exact ⟨x, u, c, _, d, e, hS, s, hc, h1, rfl⟩

/-! the matrix without facts -/
def freeM (m : Nat) : Mat := List.replicate (m + 1) (some 0) :: (List.range m).map fun i => (List.range (m + 1)).map fun s => if s = i + 1 then some 0 else none
def zeroE (m : Nat) : List Edge := (List.range m).map fun i => (0, i + 1, 0)
theorem free_sized (m : Nat) : Sized (m + 1) (freeM m) := by
  refine ⟨by simp [freeM], fun r hr => ?_⟩
  rcases List.mem_cons.mp hr with e | h
  · rw [e]; simp
  · obtain ⟨i, _, rfl⟩ := List.mem_map.mp h
    simp
theorem free_cell {m x y : Nat} (hx : x < m + 1) (hy : y < m + 1) : cell (freeM m) x y = if x = 0 ∨ x = y then some 0 else none := by
  unfold cell rowAt freeM
  cases x with
  | zero => simp [List.getElem?_replicate, hy]
  | succ i =>
    have hi : i < m := by omega
    simp only [List.getElem?_cons_succ, List.getElem?_map, List.getElem?_range hi, Option.map_some, Option.getD_some, List.getElem?_range hy]
    by_cases e : y = i + 1
    · simp [e]
    · have : ¬ i + 1 = y := fun q => e q.symm
      simp [e, this]
theorem free_le {m x y : Nat} {k : Int} (hx : x < m + 1) (hy : y < m + 1) : Le (freeM m) x y k ↔ (x = 0 ∨ x = y) ∧ 0 ≤ k := by
  unfold Le LeC
  rw [free_cell hx hy]
  constructor
  · rintro ⟨d, h1, h2⟩
    split at h1
    · rename_i e; cases h1; exact ⟨e, h2⟩
    · cases h1
  · rintro ⟨e, h⟩
    rw [if_pos e]; exact ⟨0, rfl, h⟩
theorem zero_mem {m x y : Nat} {c : Int} (h : (x, y, c) ∈ zeroE m) : x = 0 ∧ c = 0 ∧ 0 < y ∧ y < m + 1 := by
  obtain ⟨i, h1, h2⟩ := List.mem_map.mp h
  have := List.mem_range.mp h1
  simp only [Prod.mk.injEq] at h2
  obtain ⟨a, b, d⟩ := h2
  omega
theorem free_good (m : Nat) : Good (m + 1) (zeroE m) (freeM m) where
  sized := free_sized m
  tri := by
    intro x y z k l hx hy hz h1 h2
    rw [free_le hx hz] at h1
    rw [free_le hz hy] at h2
    rw [free_le hx hy]
    omega
  diag0 := by intro x hx; rw [free_le hx hx]; omega
  diag := by intro x k hx h; rw [free_le hx hx] at h; exact h.2
  edge := by
    intro x y c h
    obtain ⟨a, b, c1, d⟩ := zero_mem h
    rw [free_le (by omega) d]; omega
  walk := by
    intro x y k hx hy h
    rw [free_le hx hy] at h
    refine ⟨0, h.2, ?_⟩
    by_cases e : x = y
    · rw [e]; exact .nil y
    · have hx0 : x = 0 := by omega
      subst hx0
      have : (0, y, (0 : Int)) ∈ zeroE m := List.mem_map.mpr ⟨y - 1, List.mem_range.mpr (by omega), by congr 1; congr 1; omega⟩
      have w := Walk.cons this (.nil y)
      rwa [Int.add_zero] at w

/-! one fact more -/
def lesser1 (s : Int) (old more : Cell) : Cell := match more with
  | none => old
  | some m => match old with
    | none => some (s + m)
    | some o => if o ≤ s + m then some o else some (s + m)
theorem lesser1_le (s : Int) (old more : Cell) (k : Int) : LeC (lesser1 s old more) k ↔ LeC old k ∨ ∃ b, more = some b ∧ s + b ≤ k := by
  unfold LeC
  cases more with
  | none => simp [lesser1]
  | some m =>
    cases old with
    | none => simp [lesser1]
    | some o =>
      simp only [lesser1, Option.some.injEq, exists_eq_left']
      split
      · rename_i h; simp only [Option.some.injEq, exists_eq_left']; omega
      · rename_i h; simp only [Option.some.injEq, exists_eq_left']; omega
def lesserRow (row : List Cell) (s : Int) (onward : List Cell) : List Cell := List.zipWith (lesser1 s) row onward
/-- is this row left as it is? -/
def skips (row : List Cell) (x y : Nat) (c : Int) : Bool := match (row[x]?).getD none with
  | none => true
  | some a => match (row[y]?).getD none with
    | none => false
    | some b => decide (b ≤ a + c)
def tightRow (B : Mat) (x y : Nat) (c : Int) (row : List Cell) : List Cell := if skips row x y c then row else lesserRow row (((row[x]?).getD none).getD 0 + c) (rowAt B y)
def tightM (B : Mat) (x y : Nat) (c : Int) : Mat := B.map (tightRow B x y c)
theorem tight_sized {n : Nat} {B : Mat} (h : Sized n B) {x y : Nat} (hy : y < n) (c : Int) : Sized n (tightM B x y c) := by
  refine ⟨by unfold tightM; rw [List.length_map]; exact h.1, fun r hr => ?_⟩
  obtain ⟨r0, h0, rfl⟩ := List.mem_map.mp hr
  unfold tightRow
  split
  · exact h.2 _ h0
  · unfold lesserRow
    rw [List.length_zipWith, h.2 _ h0, h.rowAt hy, Nat.min_self]
theorem tight_le {n : Nat} {E : List Edge} {B : Mat} (G : Good n E B) {x y r t : Nat} {c k : Int} (hx : x < n) (hy : y < n) (hr : r < n) (ht : t < n) :
    Le (tightM B x y c) r t k ↔ Le B r t k ∨ ∃ a b, Le B r x a ∧ Le B y t b ∧ a + c + b ≤ k := by
  obtain ⟨row, e1, l1⟩ := G.sized.row hr
  obtain ⟨ry, e2, l2⟩ := G.sized.row hy
  have f1 : rowAt B r = row := rowAt_of e1
  have f2 : rowAt B y = ry := rowAt_of e2
  have g : rowAt (tightM B x y c) r = tightRow B x y c row := by
    unfold rowAt tightM
    rw [List.getElem?_map, e1]; rfl
  have cx : cell B r x = (row[x]?).getD none := by unfold cell; rw [f1]
  have cy : cell B r y = (row[y]?).getD none := by unfold cell; rw [f1]
  have ct : cell B r t = (row[t]?).getD none := by unfold cell; rw [f1]
  have cb : cell B y t = (ry[t]?).getD none := by unfold cell; rw [f2]
  show LeC (((rowAt (tightM B x y c) r)[t]?).getD none) k ↔ _
  rw [g]
  unfold tightRow
  by_cases s : skips row x y c = true
  · rw [if_pos s]
    refine ⟨fun h => .inl (by unfold Le; rw [ct]; exact h), fun h => ?_⟩
    rcases h with h | ⟨a, b, h1, h2, h3⟩
    · unfold Le at h; rw [ct] at h; exact h
    · obtain ⟨a0, q1, q2⟩ := h1
      rw [cx] at q1
      unfold skips at s
      rw [q1] at s
      simp only at s
      cases q : (row[y]?).getD none with
      | none => rw [q] at s; simp at s
      | some b0 =>
        rw [q] at s
        have s' : b0 ≤ a0 + c := by simpa using s
        have t1 : Le B r y b0 := by unfold Le; rw [cy, q]; exact .some (Int.le_refl _)
        have t2 := G.tri hr ht hy t1 h2
        unfold Le at t2
        rw [ct] at t2
        exact t2.mono (by omega)
  · rw [if_neg s]
    cases q : (row[x]?).getD none with
    | none => exact absurd (by unfold skips; rw [q]) s
    | some a0 =>
      have z : ((lesserRow row ((Option.getD (some a0) 0) + c) (rowAt B y))[t]?).getD none = lesser1 (a0 + c) (cell B r t) (cell B y t) := by
        unfold lesserRow
        rw [f2, List.getElem?_zipWith, ct, cb]
        have p1 : t < row.length := by omega
        have p2 : t < ry.length := by omega
        rw [List.getElem?_eq_getElem p1, List.getElem?_eq_getElem p2]
        rfl
      rw [z, lesser1_le]
      constructor
      · rintro (h | ⟨b, h1, h2⟩)
        · exact .inl h
        · exact .inr ⟨a0, b, by unfold Le; rw [cx, q]; exact .some (Int.le_refl _), by unfold Le; rw [h1]; exact .some (Int.le_refl _), by omega⟩
      · rintro (h | ⟨a, b, h1, h2, h3⟩)
        · exact .inl h
        · obtain ⟨a1, p1, p2⟩ := h1
          obtain ⟨b1, p3, p4⟩ := h2
          rw [cx, q] at p1
          cases p1
          exact .inr ⟨b1, p3, by omega⟩
/-- a fact that does not bar: the matrix with it is good again -/
theorem tight_good {n : Nat} {E : List Edge} {B : Mat} (G : Good n E B) (R : InR n E) {x y : Nat} {c : Int} (hx : x < n) (hy : y < n) (hb : ∀ k, Le B y x k → 0 ≤ k + c) : Good n (E ++ [(x, y, c)]) (tightM B x y c) where
  sized := tight_sized G.sized hy c
  tri := by
    intro r t z k l hr ht hz h1 h2
    rw [tight_le G hx hy hr hz] at h1
    rw [tight_le G hx hy hz ht] at h2
    rw [tight_le G hx hy hr ht]
    rcases h1 with h1 | ⟨a, b, h1, h1', e1⟩
    · rcases h2 with h2 | ⟨a', b', h2, h2', e2⟩
      · exact .inl (G.tri hr ht hz h1 h2)
      · exact .inr ⟨k + a', b', G.tri hr hx hz h1 h2, h2', by omega⟩
    · rcases h2 with h2 | ⟨a', b', h2, h2', e2⟩
      · exact .inr ⟨a, b + l, h1, G.tri hy ht hz h1' h2, by omega⟩
      · have := hb _ (G.tri hy hx hz h1' h2)
        exact .inr ⟨a, b', h1, h2', by omega⟩
  diag0 := by
    intro r hr
    rw [tight_le G hx hy hr hr]
    exact .inl (G.diag0 hr)
  diag := by
    intro r k hr h
    rw [tight_le G hx hy hr hr] at h
    rcases h with h | ⟨a, b, h1, h2, e⟩
    · exact G.diag hr h
    · have := hb _ (G.tri hy hx hr h2 h1)
      omega
  edge := by
    intro r t k h
    rcases List.mem_append.mp h with h | h
    · have := R _ h
      rw [tight_le G hx hy this.1 this.2]
      exact .inl (G.edge h)
    · have h' := List.mem_singleton.mp h
      cases h'
      rw [tight_le G hx hy hx hy]
      exact .inr ⟨0, 0, G.diag0 hx, G.diag0 hy, by omega⟩
  walk := by
    intro r t k hr ht h
    have mono : ∀ e ∈ E, e ∈ E ++ [(x, y, c)] := fun e he => List.mem_append_left _ he
    rw [tight_le G hx hy hr ht] at h
    rcases h with h | ⟨a, b, h1, h2, e⟩
    · obtain ⟨d, q1, q2⟩ := G.walk hr ht h
      exact ⟨d, q1, q2.mono mono⟩
    · obtain ⟨d1, q1, q2⟩ := G.walk hr hx h1
      obtain ⟨d2, q3, q4⟩ := G.walk hy ht h2
      have w := (q2.mono mono).app (Walk.cons (List.mem_append_right E (List.mem_singleton.mpr rfl)) (q4.mono mono))
      exact ⟨_, by omega, w⟩
/-- a fact that is kept already -/
theorem kept_good {n : Nat} {E : List Edge} {B : Mat} (G : Good n E B) {x y : Nat} {c : Int} (h : Le B x y c) : Good n (E ++ [(x, y, c)]) B where
  sized := G.sized
  tri := G.tri
  diag0 := G.diag0
  diag := G.diag
  edge := by
    intro r t k q
    rcases List.mem_append.mp q with q | q
    · exact G.edge q
    · have h' := List.mem_singleton.mp q
      cases h'
      exact h
  walk := by
    intro r t k hr ht q
    obtain ⟨d, q1, q2⟩ := G.walk hr ht q
    exact ⟨d, q1, q2.mono fun e he => List.mem_append_left _ he⟩
theorem Good.perm {n : Nat} {E F : List Edge} {B : Mat} (G : Good n E B) (h : ∀ e, e ∈ E ↔ e ∈ F) : Good n F B where
  sized := G.sized
  tri := G.tri
  diag0 := G.diag0
  diag := G.diag
  edge := fun q => G.edge ((h _).mpr q)
  walk := by
    intro r t k hr ht q
    obtain ⟨d, q1, q2⟩ := G.walk hr ht q
    exact ⟨d, q1, q2.mono fun e he => (h e).mp he⟩
end K01
end
section
set_option autoImplicit false
namespace K01
/-! cells stored -/
def setC (R : Mat) (a b : Nat) (v : Cell) : Mat := R.set a ((rowAt R a).set b v)
theorem setC_sized {n : Nat} {R : Mat} (h : Sized n R) {a : Nat} (ha : a < n) (b : Nat) (v : Cell) : Sized n (setC R a b v) := by
  refine ⟨by unfold setC; rw [List.length_set]; exact h.1, fun r hr => ?_⟩
  rcases List.mem_or_eq_of_mem_set hr with h1 | h1
  · exact h.2 _ h1
  · rw [h1, List.length_set]; exact h.rowAt ha
theorem setC_cell {n : Nat} {R : Mat} (h : Sized n R) {a b x y : Nat} {v : Cell} (ha : a < n) (hb : b < n) (hx : x < n) (hy : y < n) : cell (setC R a b v) x y = if x = a ∧ y = b then v else cell R x y := by
  have h1 : a < R.length := by rw [h.1]; exact ha
  unfold cell
  by_cases e : x = a
  · subst e
    have : rowAt (setC R x b v) x = (rowAt R x).set b v := by
      unfold setC
      exact rowAt_of (List.getElem?_set_self h1)
    rw [this]
    by_cases e2 : y = b
    · subst e2
      rw [if_pos ⟨rfl, rfl⟩, List.getElem?_set_self (by rw [h.rowAt hx]; exact hy)]
      rfl
    · rw [if_neg (fun q => e2 q.2), List.getElem?_set_ne (fun q => e2 q.symm)]
  · have : rowAt (setC R a b v) x = rowAt R x := by
      unfold setC
      show (((R.set a _)[x]?).getD []) = _
      rw [List.getElem?_set_ne (fun q => e q.symm)]
      rfl
    rw [this, if_neg (fun q => e q.1)]
/-- the cell takes the less of both -/
def lower (R : Mat) (a b : Nat) (s : Int) : Mat := match cell R a b with
  | none => setC R a b (some s)
  | some o => if s < o then setC R a b (some s) else R
theorem lower_sized {n : Nat} {R : Mat} (h : Sized n R) {a : Nat} (ha : a < n) (b : Nat) (s : Int) : Sized n (lower R a b s) := by
  unfold lower
  split
  · exact setC_sized h ha b _
  · split
    · exact setC_sized h ha b _
    · exact h
theorem lower_le {n : Nat} {R : Mat} (h : Sized n R) {a b x y : Nat} {s k : Int} (ha : a < n) (hb : b < n) (hx : x < n) (hy : y < n) :
    Le (lower R a b s) x y k ↔ Le R x y k ∨ (x = a ∧ y = b ∧ s ≤ k) := by
  unfold Le
  unfold lower
  cases q : cell R a b with
  | none =>
    show LeC (cell (setC R a b (some s)) x y) k ↔ _
    rw [setC_cell h ha hb hx hy]
    by_cases e : x = a ∧ y = b
    · rw [if_pos e, e.1, e.2, q]
      unfold LeC
      simp
    · rw [if_neg e]
      constructor
      · exact .inl
      · rintro (h | h)
        · exact h
        · exact absurd ⟨h.1, h.2.1⟩ e
  | some o =>
    show LeC (cell (if s < o then setC R a b (some s) else R) x y) k ↔ _
    by_cases l : s < o
    · rw [if_pos l, setC_cell h ha hb hx hy]
      by_cases e : x = a ∧ y = b
      · rw [if_pos e, e.1, e.2, q]
        unfold LeC
        simp
        omega
      · rw [if_neg e]
        constructor
        · exact .inl
        · rintro (h | h)
          · exact h
          · exact absurd ⟨h.1, h.2.1⟩ e
    · rw [if_neg l]
      constructor
      · exact .inl
      · rintro (h | h)
        · exact h
        · rw [h.1, h.2.1, q]
          exact .some (by omega)

/-! the first rows and the facts -/
def row0 (n : Nat) : Mat := (List.range n).map fun ax => (List.range n).map fun b => if ax = 0 ∨ ax = b then some 0 else none
theorem row0_sized (n : Nat) : Sized n (row0 n) := by
  refine ⟨by simp [row0], fun r hr => ?_⟩
  obtain ⟨i, _, rfl⟩ := List.mem_map.mp hr
  simp
theorem row0_le {n x y : Nat} {k : Int} (hx : x < n) (hy : y < n) : Le (row0 n) x y k ↔ (x = 0 ∨ x = y) ∧ 0 ≤ k := by
  have : cell (row0 n) x y = if x = 0 ∨ x = y then some 0 else none := by
    unfold cell rowAt row0
    simp [hx, hy]
  unfold Le LeC
  rw [this]
  constructor
  · rintro ⟨d, h1, h2⟩
    split at h1
    · rename_i e; cases h1; exact ⟨e, h2⟩
    · cases h1
  · rintro ⟨e, h⟩
    rw [if_pos e]; exact ⟨0, rfl, h⟩
def putE (R : Mat) (e : Edge) : Mat := lower R e.1 e.2.1 e.2.2
def start (n : Nat) (E : List Edge) : Mat := E.foldl putE (row0 n)

/-! one turn, and all -/
def relax (R : Mat) (m a b : Nat) : Mat := match cell R a m with
  | none => R
  | some p => match cell R m b with
    | none => R
    | some q => lower R a b (p + q)
theorem relax_sized {n : Nat} {R : Mat} (h : Sized n R) {a : Nat} (ha : a < n) (m b : Nat) : Sized n (relax R m a b) := by
  unfold relax
  split
  · exact h
  · split
    · exact h
    · exact lower_sized h ha b _
theorem relax_le {n : Nat} {R : Mat} (h : Sized n R) {m a b x y : Nat} {k : Int} (hm : m < n) (ha : a < n) (hb : b < n) (hx : x < n) (hy : y < n) :
    Le (relax R m a b) x y k ↔ Le R x y k ∨ (x = a ∧ y = b ∧ ∃ p q, Le R a m p ∧ Le R m b q ∧ p + q ≤ k) := by
  unfold relax
  cases e1 : cell R a m with
  | none =>
    show Le R x y k ↔ _
    constructor
    · exact .inl
    · rintro (h | ⟨_, _, p, q, ⟨d, h1, _⟩, _⟩)
      · exact h
      · rw [e1] at h1; cases h1
  | some p0 =>
    cases e2 : cell R m b with
    | none =>
      show Le R x y k ↔ _
      constructor
      · exact .inl
      · rintro (h | ⟨_, _, p, q, _, ⟨d, h1, _⟩, _⟩)
        · exact h
        · rw [e2] at h1; cases h1
    | some q0 =>
      show Le (lower R a b (p0 + q0)) x y k ↔ _
      rw [lower_le h ha hb hx hy]
      constructor
      · rintro (h | ⟨h1, h2, h3⟩)
        · exact .inl h
        · exact .inr ⟨h1, h2, p0, q0, by unfold Le; rw [e1]; exact .some (Int.le_refl _), by unfold Le; rw [e2]; exact .some (Int.le_refl _), h3⟩
      · rintro (h | ⟨h1, h2, p, q, ⟨d1, h3, h4⟩, ⟨d2, h5, h6⟩, h7⟩)
        · exact .inl h
        · rw [e1] at h3; cases h3
          rw [e2] at h5; cases h5
          exact .inr ⟨h1, h2, by omega⟩
def turnB (m a : Nat) (R : Mat) (b : Nat) : Mat := relax R m a b
def turnA (n m : Nat) (R : Mat) (a : Nat) : Mat := (List.range n).foldl (turnB m a) R
def turnM (n : Nat) (R : Mat) (m : Nat) : Mat := (List.range n).foldl (turnA n m) R
def fw (n : Nat) (R : Mat) : Mat := (List.range n).foldl (turnM n) R
def closedM (n : Nat) (E : List Edge) : Mat := fw n (start n E)
def below0 (R : Mat) (x : Nat) : Bool := match cell R x x with | none => false | some d => decide (d < 0)
def negs (n : Nat) (R : Mat) : List Nat := (List.range n).filter (below0 R)

theorem fold_ind {α β : Type} {f : β → α → β} (P : β → Prop) (l : List α) (b : β) (h0 : P b) (hs : ∀ b a, a ∈ l → P b → P (f b a)) : P (l.foldl f b) := by
  induction l generalizing b with
  | nil => exact h0
  | cons a l ih => exact ih (f b a) (hs b a (by simp) h0) fun b' a' ha' => hs b' a' (by simp [ha'])
/-- over range, with the count -/
theorem range_ind {β : Type} {f : β → Nat → β} (P : Nat → β → Prop) (n : Nat) (b : β) (h0 : P 0 b) (hs : ∀ i b, i < n → P i b → P (i + 1) (f b i)) : P n ((List.range n).foldl f b) := by
  have : ∀ k, k ≤ n → P k ((List.range k).foldl f b) := by
    intro k
    induction k with
    | zero => intro _; exact h0
    | succ k ih =>
      intro hk
      rw [List.range_succ, List.foldl_append]
      exact hs k _ (by omega) (ih (by omega))
  exact this n (Nat.le_refl n)

/-- what no step takes away: at or above a matrix with the triangle -/
def Above (n : Nat) (B R : Mat) : Prop := Sized n R ∧ ∀ {x y : Nat} {k : Int}, x < n → y < n → Le R x y k → Le B x y k
theorem relax_above {n : Nat} {E : List Edge} {B : Mat} (G : Good n E B) {R : Mat} (h : Above n B R) {m a b : Nat} (hm : m < n) (ha : a < n) (hb : b < n) : Above n B (relax R m a b) := by
  refine ⟨relax_sized h.1 ha m b, fun hx hy hk => ?_⟩
  rcases (relax_le h.1 hm ha hb hx hy).mp hk with q | ⟨rfl, rfl, p, q, h1, h2, h3⟩
  · exact h.2 hx hy q
  · exact (G.tri hx hy hm (h.2 hx hm h1) (h.2 hm hy h2)).mono h3
theorem start_above {n : Nat} {E : List Edge} {B : Mat} {Z : List Edge} (G : Good n Z B) (hZ : ∀ {y}, y < n → Le B 0 y 0) (R : InR n E) (hE : ∀ e ∈ E, e ∈ Z) : Above n B (start n E) := by
  unfold start
  refine fold_ind (Above n B) E _ ⟨row0_sized n, fun hx hy h => ?_⟩ fun M e he h => ?_
  · obtain ⟨q, h0⟩ := (row0_le hx hy).mp h
    rcases q with rfl | rfl
    · exact (hZ hy).mono h0
    · exact (G.diag0 hx).mono h0
  · have := R e he
    refine ⟨lower_sized h.1 this.1 _ _, fun {x y k} hx hy q0 => ?_⟩
    have q1 := (lower_le h.1 this.1 this.2 hx hy).mp q0
    clear q0
    rcases q1 with q | ⟨e1, e2, q⟩
    · exact h.2 hx hy q
    · rw [e1, e2]
      exact (G.edge (hE _ he)).mono q
theorem closed_above {n : Nat} {E : List Edge} {B : Mat} {Z : List Edge} (G : Good n Z B) (hZ : ∀ {y}, y < n → Le B 0 y 0) (R : InR n E) (hE : ∀ e ∈ E, e ∈ Z) : Above n B (closedM n E) := by
  unfold closedM fw
  refine fold_ind (Above n B) _ _ (start_above G hZ R hE) fun M m hm h => ?_
  refine fold_ind (Above n B) _ _ h fun M a ha h => ?_
  refine fold_ind (Above n B) _ _ h fun M b hb h => ?_
  exact relax_above G h (List.mem_range.mp hm) (List.mem_range.mp ha) (List.mem_range.mp hb)
/-- the law's closing tells no fault where a good matrix is -/
theorem negs_good {n : Nat} {E : List Edge} {B : Mat} {Z : List Edge} (G : Good n Z B) (hZ : ∀ {y}, y < n → Le B 0 y 0) (R : InR n E) (hE : ∀ e ∈ E, e ∈ Z) : negs n (closedM n E) = [] := by
  have A := closed_above G hZ R hE
  unfold negs
  rw [List.filter_eq_nil_iff]
  intro x hx
  have hx := List.mem_range.mp hx
  unfold below0
  cases q : cell (closedM n E) x x with
  | none => simp
  | some d =>
    have := G.diag hx (A.2 hx hx ⟨d, q, Int.le_refl _⟩)
    simp
    exact this

/-! the other way: a ring below 0 is seen -/
/-- R' has come from R -/
def Down (n : Nat) (R R' : Mat) : Prop := Sized n R' ∧ ∀ {x y : Nat} {k : Int}, x < n → y < n → Le R x y k → Le R' x y k
def NonNeg (n : Nat) (R : Mat) : Prop := ∀ {x : Nat} {k : Int}, x < n → Le R x x k → 0 ≤ k
theorem Down.refl {n : Nat} {R : Mat} (h : Sized n R) : Down n R R := ⟨h, fun _ _ q => q⟩
theorem Down.trans {n : Nat} {R S T : Mat} (h1 : Down n R S) (h2 : Down n S T) : Down n R T := ⟨h2.1, fun hx hy q => h2.2 hx hy (h1.2 hx hy q)⟩
theorem Down.nonneg {n : Nat} {R S : Mat} (h : Down n R S) (hN : NonNeg n S) : NonNeg n R := fun hx q => hN hx (h.2 hx hx q)
theorem relax_down {n : Nat} {R : Mat} (h : Sized n R) {m a b : Nat} (hm : m < n) (ha : a < n) (hb : b < n) : Down n R (relax R m a b) :=
  ⟨relax_sized h ha m b, fun hx hy q => (relax_le h hm ha hb hx hy).mpr (.inl q)⟩
/-- within mid m: the pairs that are done (P) have taken the way by m, the others stand as they stood -/
def Mid (n m : Nat) (R0 R : Mat) (P : Nat → Nat → Prop) : Prop := Down n R0 R ∧ (NonNeg n R → ∀ {x y : Nat} {k : Int}, x < n → y < n → (Le R x y k ↔ Le R0 x y k ∨ (P x y ∧ ∃ p q, Le R0 x m p ∧ Le R0 m y q ∧ p + q ≤ k)))
theorem mid_step {n m : Nat} {R0 R : Mat} {P : Nat → Nat → Prop} (h : Mid n m R0 R P) {a b : Nat} (hm : m < n) (ha : a < n) (hb : b < n) : Mid n m R0 (relax R m a b) (fun x y => P x y ∨ (x = a ∧ y = b)) := by
  have hs := h.1.1
  refine ⟨h.1.trans (relax_down hs hm ha hb), fun hN x y k hx hy => ?_⟩
  have hN' : NonNeg n R := (relax_down hs hm ha hb).nonneg hN
  have F := @h.2 hN'
  have hN0 : NonNeg n R0 := h.1.nonneg hN'
  have c1 : ∀ {z p}, z < n → (Le R z m p ↔ Le R0 z m p) := by
    intro z p hz
    rw [F hz hm]
    constructor
    · rintro (q | ⟨_, p1, q1, h1, h2, h3⟩)
      · exact q
      · exact h1.mono (by have := hN0 hm h2; omega)
    · exact .inl
  have c2 : ∀ {z p}, z < n → (Le R m z p ↔ Le R0 m z p) := by
    intro z p hz
    rw [F hm hz]
    constructor
    · rintro (q | ⟨_, p1, q1, h1, h2, h3⟩)
      · exact q
      · exact h2.mono (by have := hN0 hm h1; omega)
    · exact .inl
  rw [relax_le hs hm ha hb hx hy, F hx hy]
  constructor
  · rintro ((q | ⟨hp, q⟩) | ⟨rfl, rfl, p, q, h1, h2, h3⟩)
    · exact .inl q
    · exact .inr ⟨.inl hp, q⟩
    · exact .inr ⟨.inr ⟨rfl, rfl⟩, p, q, (c1 ha).mp h1, (c2 hb).mp h2, h3⟩
  · rintro (q | ⟨hp | ⟨rfl, rfl⟩, p, q, h1, h2, h3⟩)
    · exact .inl (.inl q)
    · exact .inl (.inr ⟨hp, p, q, h1, h2, h3⟩)
    · exact .inr ⟨rfl, rfl, p, q, (c1 ha).mpr h1, (c2 hb).mpr h2, h3⟩
theorem Mid.iff {n m : Nat} {R0 R : Mat} {P P' : Nat → Nat → Prop} (h : Mid n m R0 R P) (e : ∀ x y, x < n → y < n → (P x y ↔ P' x y)) : Mid n m R0 R P' := by
  refine ⟨h.1, fun hN x y k hx hy => ?_⟩
  rw [h.2 hN hx hy, e x y hx hy]
theorem mid_turnA {n m : Nat} {R0 R : Mat} {i : Nat} (h : Mid n m R0 R (fun x _ => x < i)) (hm : m < n) (hi : i < n) : Mid n m R0 (turnA n m R i) (fun x _ => x < i + 1) := by
  have := range_ind (f := turnB m i) (fun j S => Mid n m R0 S (fun x y => x < i ∨ (x = i ∧ y < j))) n R (h.iff fun x y _ _ => by omega) fun j S hj hS => (mid_step hS hm hi hj).iff fun x y _ _ => by omega
  exact this.iff fun x y _ hy => by omega
theorem mid_turnM {n m : Nat} {R : Mat} (h : Sized n R) (hm : m < n) : Mid n m R (turnM n R m) (fun _ _ => True) := by
  have := range_ind (f := turnA n m) (fun i S => Mid n m R S (fun x _ => x < i)) n R ⟨Down.refl h, fun _ x y k _ _ => by simp⟩ fun i S hi hS => mid_turnA hS hm hi
  exact this.iff fun x y hx _ => by simp [hx]
/-- the triangle over all mids below m -/
def Tri (n m : Nat) (R : Mat) : Prop := NonNeg n R → ∀ {x y z : Nat} {k l : Int}, x < n → y < n → z < m → Le R x z k → Le R z y l → Le R x y (k + l)
theorem tri_turnM {n m : Nat} {R : Mat} (h : Sized n R) (hm : m < n) (T : Tri n m R) : Tri n (m + 1) (turnM n R m) := by
  have M := mid_turnM h hm
  intro hN x y z k l hx hy hz h1 h2
  have hN0 : NonNeg n R := M.1.nonneg hN
  have hzn : z < n := by omega
  have F := @M.2 hN
  have T' := @T hN0
  rw [F hx hzn] at h1
  rw [F hzn hy] at h2
  rw [F hx hy]
  by_cases e : z = m
  · subst e
    have g1 : Le R x z k := by
      rcases h1 with q | ⟨_, p, q, a1, a2, a3⟩
      · exact q
      · exact a1.mono (by have := hN0 hm a2; omega)
    have g2 : Le R z y l := by
      rcases h2 with q | ⟨_, p, q, a1, a2, a3⟩
      · exact q
      · exact a2.mono (by have := hN0 hm a1; omega)
    exact .inr ⟨trivial, k, l, g1, g2, Int.le_refl _⟩
  · have hz' : z < m := by omega
    rcases h1 with h1 | ⟨_, p, q, a1, a2, a3⟩
    · rcases h2 with h2 | ⟨_, p', q', b1, b2, b3⟩
      · exact .inl (T' hx hy hz' h1 h2)
      · exact .inr ⟨trivial, k + p', q', T' hx hm hz' h1 b1, b2, by omega⟩
    · rcases h2 with h2 | ⟨_, p', q', b1, b2, b3⟩
      · exact .inr ⟨trivial, p, q + l, a1, T' hm hy hz' a2 h2, by omega⟩
      · have := hN0 hm (T' hm hm hz' a2 b1)
        exact .inr ⟨trivial, p, q', a1, b2, by omega⟩
theorem fw_tri {n : Nat} {R : Mat} (h : Sized n R) : Down n R (fw n R) ∧ Tri n n (fw n R) := by
  have := range_ind (f := turnM n) (fun m S => Down n R S ∧ Tri n m S) n R ⟨Down.refl h, fun _ x y z k l _ _ hz => absurd hz (Nat.not_lt_zero _)⟩ fun m S hm hS =>
    ⟨hS.1.trans (mid_turnM hS.1.1 hm).1, tri_turnM hS.1.1 hm hS.2⟩
  exact this
theorem start_le {n : Nat} {E : List Edge} (R : InR n E) : Sized n (start n E) ∧ (∀ {y}, y < n → Le (start n E) 0 y 0) ∧ (∀ {x}, x < n → Le (start n E) x x 0) ∧ ∀ e ∈ E, Le (start n E) e.1 e.2.1 e.2.2 := by
  unfold start
  have key : ∀ (F : List Edge) (M : Mat), InR n F → Sized n M → Down n M (F.foldl putE M) ∧ ∀ e ∈ F, Le (F.foldl putE M) e.1 e.2.1 e.2.2 := by
    intro F
    induction F with
    | nil => intro M _ hM; exact ⟨Down.refl hM, fun e he => nomatch he⟩
    | cons e F ih =>
      intro M hF hM
      have h1 := hF e (by simp)
      have hS : Sized n (putE M e) := lower_sized hM h1.1 _ _
      have hD : Down n M (putE M e) := ⟨hS, fun hx hy q => (lower_le hM h1.1 h1.2 hx hy).mpr (.inl q)⟩
      obtain ⟨d, g⟩ := ih (putE M e) (fun f hf => hF f (by simp [hf])) hS
      refine ⟨hD.trans d, fun f hf => ?_⟩
      rcases List.mem_cons.mp hf with rfl | hf
      · exact d.2 h1.1 h1.2 ((lower_le hM h1.1 h1.2 h1.1 h1.2).mpr (.inr ⟨rfl, rfl, Int.le_refl _⟩))
      · exact g f hf
  obtain ⟨d, g⟩ := key E (row0 n) R (row0_sized n)
  refine ⟨d.1, fun {y} hy => d.2 (by omega) hy ((row0_le (by omega) hy).mpr ⟨.inl rfl, Int.le_refl _⟩), fun {x} hx => d.2 hx hx ((row0_le hx hx).mpr ⟨.inr rfl, Int.le_refl _⟩), g⟩
/-- a ring of facts below 0: the law's closing tells it -/
theorem negs_ring {n : Nat} {E Z : List Edge} (R : InR n E) (RZ : InR n Z) (hZ : ∀ e ∈ Z, e ∈ E ∨ (e.1 = 0 ∧ e.2.2 = 0)) {x : Nat} {c : Int} (hx : x < n) (w : Walk Z x x c) (hc : c < 0) : negs n (closedM n E) ≠ [] := by
  intro hnil
  have hN : NonNeg n (closedM n E) := by
    intro y k hy ⟨d, q1, q2⟩
    have := List.filter_eq_nil_iff.mp hnil y (List.mem_range.mpr hy)
    unfold below0 at this
    rw [q1] at this
    simp at this
    omega
  obtain ⟨s1, s2, s3, s4⟩ := start_le R
  obtain ⟨D, T⟩ := fw_tri s1
  have T' := @T hN
  have key : ∀ {u v : Nat} {e : Int}, Walk Z u v e → u < n → v < n → Le (closedM n E) u v e := by
    intro u v e w
    induction w with
    | nil u => intro hu _; exact D.2 hu hu (s3 hu)
    | @cons u t v c d h w ih =>
      intro hu hv
      have ht : t < n := (RZ _ h).2
      refine T' hu hv ht (D.2 hu ht ?_) (ih ht hv)
      rcases hZ _ h with q | ⟨q1, q2⟩
      · exact s4 _ q
      · simp only at q1 q2
        subst q1 q2
        exact s2 ht
  have := hN hx (key w hx hx)
  omega
end K01
end
section
set_option maxRecDepth 100000
namespace K1
open PySem L2 K01
def top (i : Nat) : Stmt := PySem.Challenge.pw_unknowntakes_k01_sheets_checked.main.body.getD i (.Pass ⟨0, 0, 0, 0⟩)
/-! ### heaps -/
theorem Same.tup {K : PySem.W.Frag} {H H' : Hp} {a : Addr} {xs : List V} (e : Same H H') (h : SqT K H a xs) : SqT K H' a xs := by
  rcases h with (h | ⟨o, h⟩) | h
  · exact .inl (.inl (e _ _ h))
  · exact .inl (.inr ⟨o, e _ _ h⟩)
  · exact .inr h
theorem Same.new {H : Hp} {p : Addr} {o : HO} (h : H p = none) : Same H (upd H p o) := fun b x e => by
  rw [upd_ne (ne_of_none e h)]
  exact e
theorem tup_at {K : PySem.W.Frag} {H : Hp} {p : Addr} {xs : List V} : SqT K (upd H p (.tup xs)) p xs := .inl (.inl upd_same)
/-! ### matrices on the heap -/
def cV : Cell → V
  | none => .non
  | some i => .int i
def RowAt (K : PySem.W.Frag) (H : Hp) (a : Addr) (r : List Cell) : Prop := SqT K H a (r.map cV)
def MatAt (K : PySem.W.Frag) (H : Hp) (a : Addr) (B : Mat) : Prop := ∃ as : List Addr, as.length = B.length ∧ SqT K H a (as.map V.ref) ∧ ∀ (i : Nat) (p : Addr) (r : List Cell), as[i]? = some p → B[i]? = some r → RowAt K H p r
theorem MatAt.same {K : PySem.W.Frag} {H H' : Hp} {a : Addr} {B : Mat} (e : Same H H') (h : MatAt K H a B) : MatAt K H' a B := by
  obtain ⟨as, h1, h2, h3⟩ := h
  exact ⟨as, h1, Same.tup e h2, fun i p r q1 q2 => Same.tup e (h3 i p r q1 q2)⟩
/-- the row of a matrix, on the heap -/
theorem MatAt.row {K : PySem.W.Frag} {H : Hp} {a : Addr} {B : Mat} {n x : Nat} (h : MatAt K H a B) (S : Sized n B) (hx : x < n) : ∃ (xs : List V) (p : Addr), SqT K H a xs ∧ xs[x]? = some (.ref p) ∧ RowAt K H p (rowAt B x) := by
  obtain ⟨as, h1, h2, h3⟩ := h
  obtain ⟨r, q1, q2⟩ := S.row hx
  have hl : x < as.length := by rw [h1, S.1]; exact hx
  refine ⟨_, as[x], h2, ?_, ?_⟩
  · rw [List.getElem?_map, List.getElem?_eq_getElem hl]; rfl
  · rw [rowAt_of q1]
    exact h3 x _ r (List.getElem?_eq_getElem hl) q1
theorem row_cell {n : Nat} {B : Mat} (S : Sized n B) {x y : Nat} (hx : x < n) (hy : y < n) : ((rowAt B x).map cV)[y]? = some (cV (cell B x y)) := by
  have h := S.rowAt hx
  rw [List.getElem?_map]
  unfold cell
  rw [List.getElem?_eq_getElem (by rw [h]; exact hy)]
  rfl
theorem get_map {α β : Type} {f : α → β} {l : List α} {i : Nat} {x : β} (h : (l.map f)[i]? = some x) : ∃ y, l[i]? = some y ∧ x = f y := by
  rw [List.getElem?_map] at h
  cases e : l[i]? with
  | none => rw [e] at h; cases h
  | some y => rw [e] at h; exact ⟨y, rfl, (Option.some.inj h).symm⟩
theorem take_snoc {α : Type} {l : List α} {i : Nat} {x : α} (h : l[i]? = some x) : l.take (i + 1) = l.take i ++ [x] := by
  rw [List.take_succ, h]
  rfl
theorem iteDT {c A B : Prop} [Decidable c] (hc : c) (h : A) : if decide c = true then A else B := by
  rw [decide_eq_true hc]
  exact iteT h
theorem iteDF {c A B : Prop} [Decidable c] (hc : ¬ c) (h : B) : if decide c = true then A else B := by
  rw [decide_eq_false hc]
  exact iteF h
theorem iteNF {c A B : Prop} [Decidable c] (hc : ¬ c) (h : A) : if (!decide c) = true then A else B := by
  rw [decide_eq_false hc]
  exact iteT h
theorem yes_ {σ : L2.St} {H : Hp} {A B : Hp → Prop} (h : A H) : tYes σ H fun b H3 => if b = true then A H3 else B H3 := by
  show if true = true then A H else B H
  exact iteT h
/-! ### built-in names that the text leaves as they are -/
structure Bi (mg : Str → Option Value) : Prop where
  isinstance : mg "isinstance" = none
  len : mg "len" = none
  range : mg "range" = none
  enumerate : mg "enumerate" = none
  zip : mg "zip" = none
  tuple : mg "tuple" = none
  list : mg "list" = none
  int : mg "int" = none
  str : mg "str" = none
  bool : mg "bool" = none
  abs : mg "abs" = none
  max : mg "max" = none
  min : mg "min" = none
  sum : mg "sum" = none
  super : mg "super" = none
section
variable {X : Cx}
/-- the name of a built-in class as a value -/
theorem pe_ty {x : Str} {pos : Pos} {n : String} (hg : Gl X x) (hm : X.mg x = none) (hv : bootBuiltins x = some (.type n)) (hn : x ≠ "__name__" := by decide) (hd : (x == ("__debug__" : Str)) = false := by decide) : PE X (.Name x pos) (tC (.ty n)) := pe_bltn hg hm hv rfl hn hd
end
def RowsAt (K : PySem.W.Frag) (H : Hp) (as : List Addr) (B : Mat) : Prop := as.length = B.length ∧ ∀ (i : Nat) (p : Addr) (r : List Cell), as[i]? = some p → B[i]? = some r → RowAt K H p r
theorem RowsAt.nil {K : PySem.W.Frag} {H : Hp} : RowsAt K H [] [] := ⟨rfl, fun i p r h => nomatch h⟩
theorem RowsAt.same {K : PySem.W.Frag} {H H' : Hp} {as : List Addr} {B : Mat} (e : Same H H') (h : RowsAt K H as B) : RowsAt K H' as B := ⟨h.1, fun i p r q1 q2 => Same.tup e (h.2 i p r q1 q2)⟩
theorem RowsAt.snoc {K : PySem.W.Frag} {H : Hp} {as : List Addr} {B : Mat} {p : Addr} {r : List Cell} (h : RowsAt K H as B) (hp : RowAt K H p r) : RowsAt K H (as ++ [p]) (B ++ [r]) := by
  refine ⟨by simp [h.1], fun i q s q1 q2 => ?_⟩
  by_cases e : i < as.length
  · rw [List.getElem?_append_left e] at q1
    rw [List.getElem?_append_left (by rw [← h.1]; exact e)] at q2
    exact h.2 i q s q1 q2
  · have e1 : i = as.length := by
      have := (List.getElem?_eq_some_iff.mp q1).1
      simp at this
      omega
    subst e1
    rw [List.getElem?_append_right (Nat.le_refl _), Nat.sub_self] at q1
    rw [h.1, List.getElem?_append_right (Nat.le_refl _), Nat.sub_self] at q2
    cases q1
    cases q2
    exact hp
theorem MatAt.of {K : PySem.W.Frag} {H : Hp} {a : Addr} {as : List Addr} {B : Mat} (h1 : SqT K H a (as.map V.ref)) (h : RowsAt K H as B) : MatAt K H a B := ⟨as, h.1, h1, h.2⟩
/-- all but the list at l stays -/
def But (l : Addr) (H H' : Hp) : Prop := ∀ b o, b ≠ l → H b = some o → H' b = some o
theorem RowsAt.but {K : PySem.W.Frag} {H H' : Hp} {l : Addr} {xs : List V} {as : List Addr} {B : Mat} (hl : H l = some (.lst xs)) (e : But l H H') (h : RowsAt K H as B) : RowsAt K H' as B := by
  refine ⟨h.1, fun i p r q1 q2 => ?_⟩
  rcases h.2 i p r q1 q2 with (q | ⟨o, q⟩) | q
  · exact .inl (.inl (e _ _ (fun z => by rw [z, hl] at q; cases q) q))
  · exact .inl (.inr ⟨o, e _ _ (fun z => by rw [z, hl] at q; cases q) q⟩)
  · exact .inr q
theorem But.set {l : Addr} {H : Hp} {o : HO} : But l H (upd H l o) := fun b x n e => by
  rw [upd_ne n]; exact e
theorem Same.set {H H' : Hp} {l : Addr} {o : HO} (h : Same H H') (hl : H l = none) : Same H (upd H' l o) := fun b x e => by
  rw [upd_ne (ne_of_none e hl)]; exact h _ _ e
theorem row_upd {K : PySem.W.Frag} {H : Hp} {l p : Addr} {xs ys zs : List V} (hl : H l = some (.lst xs)) (h : SqT K H p zs) : SqT K (upd H l (.lst ys)) p zs := by
  rcases h with (q | ⟨o, q⟩) | q
  · exact .inl (.inl (by rw [upd_ne (fun z => by rw [z, hl] at q; cases q)]; exact q))
  · exact .inl (.inr ⟨o, by rw [upd_ne (fun z => by rw [z, hl] at q; cases q)]; exact q⟩)
  · exact .inr q
theorem cut_take (xs : List V) (k : Nat) : cutV xs none (some (k : Int)) = xs.take k := by
  unfold cutV
  rw [HT.sIx_nat, HT.sIx_none, List.drop_zero, Nat.sub_zero]
  by_cases h : k ≤ xs.length
  · rw [Nat.min_eq_left h]
  · rw [Nat.min_eq_right (by omega), List.take_length, List.take_of_length_le (by omega)]
theorem cut_drop (xs : List V) (k : Nat) : cutV xs (some (k : Int)) none = xs.drop k := by
  unfold cutV
  rw [HT.sIx_nat, HT.sIx_none]
  by_cases h : k ≤ xs.length
  · rw [Nat.min_eq_left h, List.take_of_length_le (by rw [List.length_drop]; omega)]
  · rw [Nat.min_eq_right (by omega), List.drop_length, List.drop_of_length_le (by omega)]
    simp
/-- the first of n for which p holds -/
def first (p : Nat → Bool) : Nat → Option Nat
  | 0 => none
  | n + 1 => match first p n with
    | some i => some i
    | none => if p n = true then some n else none
theorem first_none {p : Nat → Bool} : ∀ {n : Nat}, (∀ j, j < n → p j = false) → first p n = none
  | 0, _ => rfl
  | n + 1, h => by
    unfold first
    rw [first_none fun j hj => h j (by omega), h n (by omega)]
    rfl
theorem first_some {p : Nat → Bool} {i : Nat} : ∀ {n : Nat}, i < n → (∀ j, j < i → p j = false) → p i = true → first p n = some i
  | 0, h, _, _ => absurd h (Nat.not_lt_zero _)
  | n + 1, h, h1, h2 => by
    unfold first
    by_cases e : i = n
    · subst e
      rw [first_none h1]
      simp [h2]
    · rw [first_some (by omega) h1 h2]
theorem first_inv {p : Nat → Bool} : ∀ {n : Nat}, (first p n = none → ∀ j, j < n → p j = false) ∧ ∀ i, first p n = some i → i < n ∧ p i = true ∧ ∀ j, j < i → p j = false
  | 0 => ⟨fun _ j h => absurd h (Nat.not_lt_zero _), fun i h => (nomatch h)⟩
  | n + 1 => by
    obtain ⟨h1, h2⟩ := first_inv (p := p) (n := n)
    unfold first
    cases e : first p n with
    | some i =>
      refine ⟨fun h => (nomatch h), fun i' h => ?_⟩
      cases h
      obtain ⟨a, b, c⟩ := h2 i e
      exact ⟨by omega, b, c⟩
    | none =>
      have h1' := h1 e
      by_cases q : p n = true
      · rw [if_pos q]
        refine ⟨fun h => (nomatch h), fun i h => ?_⟩
        cases h
        exact ⟨by omega, q, h1'⟩
      · rw [if_neg q]
        refine ⟨fun _ j hj => ?_, fun i h => (nomatch h)⟩
        by_cases e2 : j = n
        · rw [e2]; simpa using q
        · exact h1' j (by omega)
theorem first_congr {p q : Nat → Bool} : ∀ {n : Nat}, (∀ j, j < n → p j = q j) → first p n = first q n
  | 0, _ => rfl
  | n + 1, h => by
    unfold first
    rw [first_congr fun j hj => h j (by omega), h n (by omega)]
def oV : Option Nat → V
  | none => .non
  | some i => .int i
/-! ### flat values -/
inductive Flat : V → Prop
  | non : Flat .non
  | bl (b : Bool) : Flat (.bl b)
  | int (i : Int) : Flat (.int i)
  | str (z : Str) : Flat (.str z)
theorem Flat.v {v : V} (h : Flat v) : flatV v = true := by cases h <;> rfl
theorem strs_flat (ms : List Str) : (ms.map V.str).all flatV = true := by
  rw [List.all_eq_true]
  intro v hv
  obtain ⟨z, _, rfl⟩ := List.mem_map.mp hv
  rfl
theorem inV_str (z : Str) (ms : List Str) : inV (.str z) (ms.map V.str) = decide (z ∈ ms) := by
  unfold inV
  rw [List.any_map, Bool.eq_iff_iff, List.any_eq_true]
  simp only [decide_eq_true_eq, Function.comp]
  constructor
  · rintro ⟨u, hu, h⟩
    have : u = z := by simpa [eqV] using h
    rw [← this]; exact hu
  · intro h
    exact ⟨z, h, by simp [eqV]⟩
theorem inV_other {v : V} (hv : Flat v) (h : ∀ z, v ≠ .str z) (ms : List Str) : inV v (ms.map V.str) = false := by
  unfold inV
  rw [List.any_map, Bool.eq_false_iff]
  intro q
  obtain ⟨u, hu, e⟩ := List.any_eq_true.mp q
  cases hv with
  | str z => exact h z rfl
  | non => simp [eqV] at e
  | bl b => simp [eqV] at e
  | int i => simp [eqV] at e
def strsT (K : PySem.W.Frag) (H : Hp) (a : Addr) (ms : List Str) : Prop := SqT K H a (ms.map V.str)
/-- tuples on the heap, one by one -/
def TupsAt (H : Hp) (ps : List Addr) (xss : List (List V)) : Prop := ps.length = xss.length ∧ ∀ (i : Nat) (p : Addr) (xs : List V), ps[i]? = some p → xss[i]? = some xs → H p = some (.tup xs)
theorem TupsAt.nil {H : Hp} : TupsAt H [] [] := ⟨rfl, fun i p r h => nomatch h⟩
theorem TupsAt.same {H H' : Hp} {ps : List Addr} {xss : List (List V)} (e : Same H H') (h : TupsAt H ps xss) : TupsAt H' ps xss := ⟨h.1, fun i p r q1 q2 => e _ _ (h.2 i p r q1 q2)⟩
theorem TupsAt.get {H : Hp} {ps : List Addr} {xss : List (List V)} (h : TupsAt H ps xss) {i : Nat} {p : Addr} (hp : ps[i]? = some p) : ∃ xs, xss[i]? = some xs ∧ H p = some (.tup xs) := by
  have hi : i < xss.length := by rw [← h.1]; exact (List.getElem?_eq_some_iff.mp hp).1
  exact ⟨xss[i], List.getElem?_eq_getElem hi, h.2 i p _ hp (List.getElem?_eq_getElem hi)⟩
theorem TupsAt.app {H : Hp} {ps qs : List Addr} {xss yss : List (List V)} (h : TupsAt H ps xss) (g : TupsAt H qs yss) : TupsAt H (ps ++ qs) (xss ++ yss) := by
  refine ⟨by simp [h.1, g.1], fun i q s q1 q2 => ?_⟩
  by_cases e : i < ps.length
  · rw [List.getElem?_append_left e] at q1
    rw [List.getElem?_append_left (by rw [← h.1]; exact e)] at q2
    exact h.2 i q s q1 q2
  · rw [List.getElem?_append_right (by omega)] at q1
    rw [List.getElem?_append_right (by rw [← h.1]; omega), ← h.1] at q2
    exact g.2 _ q s q1 q2
theorem TupsAt.one {H : Hp} {p : Addr} {xs : List V} (h : H p = some (.tup xs)) : TupsAt H [p] [xs] := by
  refine ⟨rfl, fun i q s q1 q2 => ?_⟩
  cases i with
  | zero => cases q1; cases q2; exact h
  | succ i => exact nomatch q1
theorem TupsAt.snoc {H : Hp} {ps : List Addr} {xss : List (List V)} {p : Addr} {xs : List V} (h : TupsAt H ps xss) (hp : H p = some (.tup xs)) : TupsAt H (ps ++ [p]) (xss ++ [xs]) := h.app (.one hp)
theorem TupsAt.take {H : Hp} {ps : List Addr} {xss : List (List V)} (h : TupsAt H ps xss) (k : Nat) : TupsAt H (ps.take k) (xss.take k) := by
  refine ⟨by simp [h.1], fun i q s q1 q2 => ?_⟩
  rw [List.getElem?_take] at q1 q2
  split at q1
  · rename_i hi
    rw [if_pos hi] at q2
    exact h.2 i q s q1 q2
  · cases q1
theorem TupsAt.upd {H : Hp} {l : Addr} {xs ys : List V} {ps : List Addr} {xss : List (List V)} (hl : H l = some (.lst xs)) (h : TupsAt H ps xss) : TupsAt (upd H l (.lst ys)) ps xss :=
  ⟨h.1, fun i p r q1 q2 => by
    have := h.2 i p r q1 q2
    rw [upd_ne (fun z => by rw [z, hl] at this; cases this)]
    exact this⟩
/-- a tuple of tuples -/
def TTAt (K : PySem.W.Frag) (H : Hp) (a : Addr) (xss : List (List V)) : Prop := ∃ ps, SqT K H a (ps.map V.ref) ∧ TupsAt H ps xss
theorem TTAt.same {K : PySem.W.Frag} {H H' : Hp} {a : Addr} {xss : List (List V)} (e : Same H H') (h : TTAt K H a xss) : TTAt K H' a xss := by
  obtain ⟨ps, h1, h2⟩ := h
  exact ⟨ps, Same.tup e h1, h2.same e⟩
abbrev Fact := Str × Str × Int
def factV (f : Fact) : List V := [.str f.1, .str f.2.1, .int f.2.2]
end K1
end
section
set_option maxRecDepth 100000
set_option maxHeartbeats 4000000
namespace K1
open PySem L2 K01
section
variable {P : Program} {w : World} {K : PySem.W.Frag} {mg : Str → Option Value} {base : Heap}
abbrev sWhole : Stmt := top 18
def isWhole : V → Bool
  | .int _ => true
  | _ => false
def spWhole (K : PySem.W.Frag) : Sp := fun vs H Q _ => ∃ (v : V), vs = [v] ∧ Flat v ∧ Q (.bl (isWhole v)) H
theorem scWhole : FnScope ["x"] ["x"] (defScope sWhole) := ⟨rfl, rfl, rfl, by decide +kernel, rfl, by decide +kernel, by decide +kernel⟩
theorem ok_whole {f : Addr} {fd : FuncData} (F : Fun K "is_whole" "is_whole" sWhole f fd) (T : Bi mg) : FnOk P w K mg base CX0 1 f fd ["x"] (spWhole K) := by
  refine F.ok scWhole (fun vs H Q E h => ?_) (fun cdv A outer s H vs Q E hr h => ?_)
  · obtain ⟨_, rfl, _⟩ := h
    rfl
  · obtain ⟨v, rfl, hv, k⟩ := h
    refine ⟨_, pss_one (ps_ret (pe_and (pe_callB call_isi (by rfl) T.isinstance (by decide +kernel) (pa_cons (pv 0) (pa_cons (pe_ty (n := "int") (by rfl) T.int (by decide +kernel)) pa_nil)))
      (pe_one (pe_not (pe_callB call_isi (by rfl) T.isinstance (by decide +kernel) (pa_cons (pv 0) (pa_cons (pe_ty (n := "bool") (by rfl) T.bool (by decide +kernel)) pa_nil))))))), ?_⟩
    refine ⟨v, rfl, ?_⟩
    cases hv with
    | non => exact ⟨_, _, _, _, false, rfl, .ty _, .base .non, kit_ty (by decide +kernel), _, rfl, iteF k⟩
    | str z => exact ⟨_, _, _, _, false, rfl, .ty _, .base (.str _), kit_ty (by decide +kernel), _, rfl, iteF k⟩
    | int i => exact ⟨_, _, _, _, true, rfl, .ty _, .base (.int _), kit_ty (by decide +kernel), _, rfl, iteT ⟨_, rfl, _, _, _, _, false, rfl, .ty _, .base (.int _), kit_ty (by decide +kernel), _, rfl, k⟩⟩
    | bl b => exact ⟨_, _, _, _, true, rfl, .ty _, .base (.bl _), kit_ty (by decide +kernel), _, rfl, iteT ⟨_, rfl, _, _, _, _, true, rfl, .ty _, .base (.bl _), kit_ty (by decide +kernel), _, rfl, k⟩⟩
abbrev sName : Stmt := top 19
def nameOk (z : Str) : Bool := decide ((z.length : Int) ≤ 8) && (Txt.isascii z && Txt.isalpha z)
def spName (K : PySem.W.Frag) : Sp := fun vs H Q _ => ∃ (z : Str), vs = [.str z] ∧ z.length ≤ 1000 ∧ Q (.bl (nameOk z)) H
theorem scName : FnScope ["x"] ["x"] (defScope sName) := ⟨rfl, rfl, rfl, by decide +kernel, rfl, by decide +kernel, by decide +kernel⟩
theorem ok_name {f : Addr} {fd : FuncData} (F : Fun K "is_name" "is_name" sName f fd) (T : Bi mg) : FnOk P w K mg base CX0 1 f fd ["x"] (spName K) := by
  refine F.ok scName (fun vs H Q E h => ?_) (fun cdv A outer s H vs Q E hr h => ?_)
  · obtain ⟨_, rfl, _⟩ := h
    rfl
  · obtain ⟨z, rfl, hz, k⟩ := h
    refine ⟨_, pss_one (ps_ret (pe_and (pe_callB call_isi (by rfl) T.isinstance (by decide +kernel) (pa_cons (pv 0) (pa_cons (pe_ty (n := "str") (by rfl) T.str (by decide +kernel)) pa_nil)))
      (pe_and (pe_cmpR op_le (pe_callB call_len_str (by rfl) T.len (by decide +kernel) (pa_cons (pv 0) pa_nil)) pe_int (nomark _))
      (pe_and (pe_m0 PySem.F.slot_str_isascii PySem.F.type_str_isascii mt_isascii (pv 0)) (pe_one (pe_m0 PySem.F.slot_str_isalpha PySem.F.type_str_isalpha mt_isalpha (pv 0))))))), ?_⟩
    refine ⟨_, rfl, _, _, _, _, true, rfl, .ty _, .base (.str _), kit_ty (by decide +kernel), _, rfl, iteT ?_⟩
    refine ⟨_, rfl, _, rfl, Nat.le_of_lt (small1000 hz), _, _, rfl, rfl, _, rfl, ?_⟩
    unfold nameOk at k
    by_cases q : ((z.length : Nat) : Int) ≤ 8
    · rw [decide_eq_true q] at k ⊢
      refine iteT ⟨_, rfl, ⟨_, rfl⟩, _, rfl, rfl, trivial, _, rfl, ?_⟩
      cases e : Txt.isascii z with
      | false => rw [e] at k; exact iteF k
      | true =>
        rw [e] at k
        exact iteT ⟨_, rfl, ⟨_, rfl⟩, _, rfl, rfl, trivial, k⟩
    · rw [decide_eq_false q] at k ⊢
      exact iteF k
abbrev sNames : Stmt := top 28
def spNames (K : PySem.W.Frag) : Sp := fun vs H Q _ => ∃ (a : Addr) (ms : List Str), vs = [.ref a] ∧ strsT K H a ms ∧ ms.length ≤ 1000 ∧ ∀ H' p, Same H H' → strsT K H' p ("zero" :: ms) → Q (.ref p) H'
theorem scNames : FnScope ["marks"] ["marks"] (defScope sNames) := ⟨rfl, rfl, rfl, by decide +kernel, rfl, by decide +kernel, by decide +kernel⟩
theorem ok_names {f : Addr} {fd : FuncData} (F : Fun K "names_of" "names_of" sNames f fd) : FnOk P w K mg base CX0 1 f fd ["marks"] (spNames K) := by
  refine F.ok scNames (fun vs H Q E h => ?_) (fun cdv A outer s H vs Q E hr h => ?_)
  · obtain ⟨_, _, rfl, _⟩ := h
    rfl
  · obtain ⟨a, ms, rfl, hm, hl, k⟩ := h
    refine ⟨_, pss_one (ps_ret (pe_op op_catT (pe_tup (pa_cons pe_str pa_nil)) (pv 0))), ?_⟩
    refine ⟨by show 1 ≤ sizeLine; decide, fun t ht => ?_⟩
    have s1 : Same H (upd H t (.tup [.str "zero"])) := Same.new ht
    refine ⟨_, rfl, _, _, _, _, rfl, rfl, tup_at, Same.tup s1 hm, ?_⟩
    refine ⟨by simp, ?_, fun e => ?_, fun e p hp => ?_⟩
    · rw [List.length_map]
      exact Nat.le_of_lt (Nat.lt_of_le_of_lt (show 1 + ms.length ≤ 1001 by omega) (by decide))
    · refine k _ t s1 ?_
      have : ms = [] := by simpa using e
      rw [this]
      exact tup_at
    · exact k _ p (s1.trans (Same.new hp)) tup_at
end
end K1
end
section
set_option maxRecDepth 100000
namespace PySem
set_option maxHeartbeats 1000000 in
theorem k1_newE {v : Value} {o : Obj} {H : Heap → Prop} (B : Begins v o H) :
    Meets (Builtin.«enumerate.__new__» ⟨[.type "enumerate", v], []⟩) (fun _ R s => H s.heap ∧
      R (.ok (.ret (.ref (s.heap.push o).objs.size))) { s with heap := (s.heap.push o).push { cls := .type "enumerate", data := .fields #[.none, .bool false, .ref s.heap.objs.size, rawInt 0, .none, .none] } }) :=
  .of_wp fun prog w A R s h => by
    obtain ⟨hp, gs, dr, tk, os⟩ := s
    obtain ⟨h1, h⟩ := h
    have sub := sub_enumerate
    have q1 : ∀ {A' : Around} {E : Value → Shared → Prop} {Q : Value → Shared → Prop}, Q (.ref hp.objs.size) ⟨hp.push o, gs, dr, tk, os⟩ → wpAny (model prog w) A' (pyIter v) Q E ⟨hp, gs, dr, tk, os⟩ :=
      fun q => B.iter prog w _ _ ⟨hp, gs, dr, tk, os⟩ _ h1 q
    wp_walk using q1
    refine wpAny_stack_any fun st => wpAny_pure ?_
    split
    · rename_i c _ _ _ _ _
      cases (c == Value.type "enumerate") <;> (wp_walk using q1; exact ⟨_, rfl, h⟩)
    · wp_walk using q1
      exact ⟨_, rfl, h⟩
theorem k1_enumCall {prog : Program} {w : World} {A : Around} {E : Value → Shared → Prop} {s : Shared} {v : Value} {o : Obj} {H : Heap → Prop} {Q : Value → Shared → Prop} (B : Begins v o H) (h1 : H s.heap)
    (h : ∀ h', IsEnum h' (s.heap.objs.size + 1) s.heap.objs.size 0 .none → h'.get? s.heap.objs.size = some o → h'.objs.size = s.heap.objs.size + 2 →
      (∀ b o, s.heap.get? b = some o → h'.get? b = some o) → Q (.ref (s.heap.objs.size + 1)) { s with heap := h' }) :
    wpAny (model prog w) A (call (.type "enumerate") [v]) Q E s := by
  refine callType_new F.called_enumerate (by decide) (F.typeCall_enumerate_1 _) (F.newCall_enumerate_1 _) (fun obj => F.args_object_init_2 obj _) F.entry_enumerate_new (k1_newE B) ⟨h1, ?_⟩
  have hz : (s.heap.push o).objs.size = s.heap.objs.size + 1 := Heap.size_push ..
  show _ ∧ _
  rw [hz]
  have he : IsEnum ((s.heap.push o).push { cls := .type "enumerate", data := .fields #[.none, .bool false, .ref s.heap.objs.size, rawInt 0, .none, .none] }) (s.heap.objs.size + 1) s.heap.objs.size 0 .none := by
    have z := Heap.get?_push_size (s.heap.push o) (o := { cls := .type "enumerate", data := .fields #[.none, .bool false, .ref s.heap.objs.size, rawInt 0, .none, .none] }) rfl
    rw [hz] at z
    exact z
  refine ⟨⟨_, he, rfl⟩, h _ he (Heap.get?_push_of_some _ (Heap.get?_push_size _ B.free)) (by rw [Heap.size_push, hz]) fun b o x => Heap.get?_push_of_some _ (Heap.get?_push_of_some _ x)⟩
end PySem
namespace K1
open PySem PySem.Spec PyProof.Rows L2
/-! ### enumerate(tuple) -/
def IteT (K : PySem.W.Frag) (a : Addr) : It :=
  ⟨fun i H => ∃ (xs : List V) (x : V), SqT K H a xs ∧ xs[i]? = some x, fun i H v H' => ∃ T x, v = .ref T ∧ H T = none ∧ H' = upd H T (.tup [.int (i : Nat), x]) ∧ ∀ xs, SqT K H a xs → xs[i]? = some x, fun i H => ∃ xs : List V, SqT K H a xs ∧ xs.length = i⟩
theorem turn_enumT {P : Program} {w : World} {K : PySem.W.Frag} {elts : List Expr} {kk : Nat} {tpos : Pos} (a e it : Addr) (hia : a ≠ it) (hea : a ≠ e) :
    Turn P w K (.Tuple elts kk tpos) (IteT K a) [e, it] e (fun i h => (∃ old, IsEnum h e it ((i : Nat) : Int) old) ∧ h.IsTupleIter it a i ∧ e ≠ it) where
  mem := by simp
  obj := fun i h st b hb => by
    obtain ⟨⟨old, he⟩, ⟨o, ho, hc, hd⟩, _⟩ := st
    have e' : b = e ∨ b = it := by simpa using hb
    rcases e' with z | z
    · rw [z]; exact ⟨_, he, fun v q => nomatch q⟩
    · rw [z]; exact ⟨o, ho, fun v q => by rw [hd] at q; cases q⟩
  keep := fun i h h' st k => let ⟨⟨old, he⟩, hi, hne⟩ := st; ⟨⟨old, k e (by simp) _ he⟩, hi.at fun o q => k it (by simp) o q, hne⟩
  item := by
    intro X hP hw hK hc i pins s σ H E I hf st hg
    subst hP hw hK
    obtain ⟨⟨old, he⟩, hit, hne⟩ := st
    obtain ⟨xs, x, hq, hx⟩ := hg
    obtain ⟨its, rv, p, hz⟩ := I.tuple hq
    obtain ⟨u, hu, ru⟩ := rv.get hx
    have hel : e < s.heap.objs.size := Heap.lt_size he
    have hil : it < s.heap.objs.size := by obtain ⟨_, q, _⟩ := hit; exact Heap.lt_size q
    have D := Draws.tuple (prog := X.prog) (w := X.w) (A := X.A.in1) (I.ok.hd hc) it a hia its.toArray
    have hi : i < its.toArray.size := by
      have := (List.getElem?_eq_some_iff.mp hu).1
      simpa using this
    refine wpAny_pyNext_enum_itemD D he ⟨hit, p⟩ hi hne (by simp [hne, Ne.symm hea]) fun u' h' tk hP ho hst hT hsz hk => ?_
    have eu : u' = u := by
      have hP' : its[i]? = some u' := by simpa using hP
      rw [hu] at hP'
      exact (Option.some.inj hP').symm
    subst eu
    obtain ⟨hit', _⟩ := hst
    refine ⟨_, rfl, wpAny_letOwnedTupleGo_enum (s := { s with heap := h', toks := tk + 1 }) ho fun h'' he' sb => ?_⟩
    have hT2 : h''.get? s.heap.objs.size = some { cls := .type "tuple", data := .seq #[.int i tk, u'] } := (sb.2 _ (Nat.ne_of_gt hel)).trans hT
    have new : ObjOk X.prog X.w (upd H s.heap.objs.size (.tup [.int (i : Nat), x])) h'' s.heap.objs.size (.tup [.int (i : Nat), x]) :=
      ⟨by show 2 ≤ sizeLine; decide, [.int i tk, u'], .cons ⟨_, rfl⟩ (.cons ru .nil), ⟨_, hT2, rfl, _, rfl⟩⟩
    have I1 : L2.Inv X pins σ (upd H s.heap.objs.size (.tup [.int (i : Nat), x])) { s with heap := h'', toks := tk + 1 } :=
      I.turnedNew (ch := [e, it]) (fun b ob hb q => (sb.2 b (fun z => hb (by simp [z]))).trans (hk b ob (fun z => hb (by simp [z])) (fun z => hb (by simp [z])) q)) hf (Nat.le_refl _) new
    refine ⟨.ref s.heap.objs.size, _, I1, rfl, ⟨_, x, rfl, I.hok.fresh (Nat.le_refl _), rfl, fun ys hy => by rw [I.tuple_inj hy hq]; exact hx⟩, ⟨⟨u', ?_⟩, hit'.at fun o q => (sb.2 it (Ne.symm hne)).trans q, hne⟩, fun b hb => ?_⟩
    · have e1 : ((i + 1 : Nat) : Int) = (i : Int) + 1 := by omega
      rw [e1]; exact he'
    · have hb' : b < s.heap.objs.size := by
        have e' : b = e ∨ b = it := by simpa using hb
        rcases e' with z | z
        · rw [z]; exact hel
        · rw [z]; exact hil
      rw [upd_ne (Nat.ne_of_lt hb')]
      exact (hf b hb).1
  done := by
    intro X hP hw hK hc i pins s σ H E I hf st hg
    subst hP hw hK
    obtain ⟨⟨old, he⟩, hit, hne⟩ := st
    obtain ⟨xs, hq, hx⟩ := hg
    obtain ⟨its, rv, p, hz⟩ := I.tuple hq
    obtain ⟨f0, f1, f2, f3, f4, f5⟩ := hf it (by simp)
    have hl := rv.length
    have D := Draws.tuple (prog := X.prog) (w := X.w) (A := X.A.in1) (I.ok.hd hc) it a hia its.toArray
    have hi : i = its.toArray.size := by simp; omega
    subst hi
    exact wpAny_pyNext_enum_endD D he ⟨hit, p⟩ fun h' eb => ⟨rfl, I.turned (t' := s.toks) (fun b o hb q => eb b o hb q) f0 f1 f3 f4 f5⟩
  self := fun A i s Q E st h => let ⟨⟨_, he⟩, _⟩ := st; wpAny_pyIter_enum he h
def iEnumT (K : PySem.W.Frag) (ta : TA) : TI := fun σ H R => ta σ H fun vs H1 => ∃ a xs, vs = [.ref a] ∧ SqT K H1 a xs ∧ R (IteT K a) H1
theorem pi_enumT {X : Cx} {e : Expr} {ta : TA} {p pos tpos : Pos} {elts : List Expr} {kk : Nat} (hg : Gl X "enumerate") (hm : X.mg "enumerate" = none) (ha : PA X [e] ta) (hs : starEach [e] X.env = [(false, eval e X.env)] := by rfl) :
    PI X (.Tuple elts kk tpos) (.Call (.Name "enumerate" p) [e] [] pos) (iEnumT X.K ta) := by
  refine ⟨fun pins s σ H R I h => ?_⟩
  refine PyProof.Rows.Call_ (ld_blt I hg hm boot_enumerate (PyProof.Rows.callWith_type1 (thn (ha.run pos pins s σ H _ I h) fun us s1 ⟨vs, H1, I1, r1, q1⟩ => ?_) hs rfl))
  obtain ⟨a, xs, ex, hq, q⟩ := q1
  subst ex
  cases r1 with
  | cons r rr =>
    cases rr
    cases r
    obtain ⟨its, rv, p', hz⟩ := I1.tuple hq
    have p'' : s1.heap.IsTuple a its.toArray := p'
    obtain ⟨o1, ho1, _⟩ := id p''
    have low : a < s1.heap.objs.size := Heap.lt_size ho1
    refine k1_enumCall (begins_tuple a its.toArray) p'' fun h' he hI hsz hk => wpAny_pyIter_enum he ?_
    have I2 : L2.Inv X pins σ H1 { s1 with heap := h' } := I1.kept (t' := s1.toks) hk
    refine ⟨s1.heap.objs.size + 1, [s1.heap.objs.size + 1, s1.heap.objs.size], _, _, H1, rfl, I2, turn_enumT a (s1.heap.objs.size + 1) s1.heap.objs.size (Nat.ne_of_lt low) (Nat.ne_of_lt (Nat.lt_succ_of_lt low)), ⟨⟨.none, he⟩, ⟨_, hI, rfl, rfl⟩, Nat.succ_ne_self _⟩, fun b hb => ?_, q⟩
    have e' : b = s1.heap.objs.size + 1 ∨ b = s1.heap.objs.size := by simpa using hb
    have hle : s1.heap.objs.size ≤ b := by
      rcases e' with z | z
      · rw [z]; exact Nat.le_add_right _ _
      · rw [z]; exact Nat.le_refl _
    exact I1.fpOk hle (I1.hok.fresh hle)
theorem walk_enumT {K : PySem.W.Frag} {a : Addr} {xs : List V} : Walk (IteT K a) xs.length (fun H => SqT K H a xs) (YPair (fun i => some (.int (i : Nat))) (fun i => xs[i]?)) := by
  refine ⟨fun i _ hi q => ⟨xs, xs[i], q, by simp [hi]⟩, fun _ q => ⟨xs, q, rfl⟩, fun i H v H' _ q y => ?_⟩
  obtain ⟨T, x, h1, h2, h3, h4⟩ := y
  exact ⟨T, .int (i : Nat), x, h1, h2, h3, rfl, h4 xs q⟩
theorem walk_zipT {K : PySem.W.Frag} {a b : Addr} {xs ys : List V} (hl : xs.length = ys.length) : Walk (RZ.ItzT K a b) xs.length (fun H => SqT K H a xs ∧ SqT K H b ys) (YPair (fun i => xs[i]?) (fun i => ys[i]?)) := by
  refine ⟨fun i _ hi q => ?_, fun _ q => ⟨xs, ys, q.1, q.2, by omega⟩, fun i H v H' _ q y => ?_⟩
  · have h2 : i < ys.length := by omega
    exact ⟨xs, ys, xs[i], ys[i], q.1, q.2, by simp [hi], by simp [h2]⟩
  · obtain ⟨T, x, z, h1, h2, h3, h4, h5⟩ := y
    exact ⟨T, x, z, h1, h2, h3, h4 xs q.1, h5 ys q.2⟩
theorem dc_it {J : It} {n : Nat} {G : Hp → Prop} {Y : Nat → Hp → V → Hp → Prop} (w : Walk J n G Y) {g : TG} {tt : TT} {tk tv : TE} {vs : List Nat} {σ : L2.St} {H1 : Hp} {D : Addr} {Qd : Hp → Prop} (Pv : Nat → Hp → Prop) (h0 : Pv 0 (upd H1 D (.dK []))) (hG : ∀ i H, i ≤ n → Pv i H → G H)
    (hs : ∀ i x H H', i < n → Pv i H → Y i H x H' → g x (wipe σ vs) H' fun σ2 H2 => wipe σ2 vs = wipe σ vs ∧ tt σ2 H2 fun b H3 =>
      if b = true then tk σ2 H3 fun y H4 => tv σ2 H4 fun z H5 => ∃ kvs k, y = kV k ∧ H5 D = some (.dK kvs) ∧ kvs.length < sizeLine ∧ Pv (i + 1) (upd H5 D (.dK (putK kvs k z))) else Pv (i + 1) H3) (hd : ∀ H, Pv n H → Qd H) :
    ∃ W : Nat → Nat → Hp → Prop, (∃ m, W 0 m (upd H1 D (.dK []))) ∧ ∀ i m H, W i m H →
      (J.stop i H ∧ Qd H) ∨ (J.go i H ∧ ∃ Nx : Hp → Prop, (∀ H', Nx H' → ∃ m', m' < m ∧ W (i + 1) m' H') ∧ ∀ x H', J.yld i H x H' → g x (wipe σ vs) H' fun σ2 H2 => wipe σ2 vs = wipe σ vs ∧ tt σ2 H2 fun b H3 =>
        if b = true then tk σ2 H3 fun y H4 => tv σ2 H4 fun z H5 => ∃ kvs k, y = kV k ∧ H5 D = some (.dK kvs) ∧ kvs.length < sizeLine ∧ Nx (upd H5 D (.dK (putK kvs k z))) else Nx H3) := by
  refine ⟨fun i m H => m = n - i ∧ i ≤ n ∧ Pv i H, ⟨n, by simp, Nat.zero_le _, h0⟩, ?_⟩
  rintro i m H ⟨rfl, hi, p⟩
  have q := hG i H hi p
  by_cases hlt : i < n
  · exact .inr ⟨w.goes i H hlt q, Pv (i + 1), fun H' p' => ⟨n - (i + 1), by omega, rfl, hlt, p'⟩, fun x H' y => hs i x H H' hlt p (w.yields i H x H' hlt q y)⟩
  · have e : i = n := by omega
    subst e
    exact .inl ⟨w.stops H q, hd H p⟩
theorem valV_put {κ : Type} [DecidableEq κ] (kvs : List (κ × V)) (k : κ) (v : V) (k' : κ) : valV (putK kvs k v) k' = if k' = k then some v else valV kvs k' := by
  unfold putK
  split
  · rename_i h
    induction kvs with
    | nil => simp at h
    | cons p r ih =>
      by_cases e : p.1 = k
      · by_cases e2 : k' = k
        · rw [if_pos e2, List.map_cons, if_pos e]
          exact valV_pos (by rw [e2]; exact e)
        · have n1 : ¬ p.1 = k' := fun q => e2 (by rw [← q, e])
          rw [if_neg e2, List.map_cons, if_pos e, valV_neg (p := (p.1, v)) n1, valV_neg n1]
          by_cases h2 : (r.any fun kv => decide (kv.1 = k)) = true
          · have := ih h2
            rw [if_neg e2] at this
            exact this
          · have hm : r.map (fun kv => if kv.1 = k then (kv.1, v) else kv) = r := by
              have : ∀ x ∈ r, (fun kv : κ × V => if kv.1 = k then (kv.1, v) else kv) x = id x := by
                intro x hx
                have : ¬ x.1 = k := fun q => h2 (List.any_eq_true.mpr ⟨x, hx, by simpa using q⟩)
                simp [this]
              rw [List.map_congr_left this, List.map_id]
            rw [hm]
      · have h2 : (r.any fun kv => decide (kv.1 = k)) = true := by
          rw [List.any_cons] at h
          simpa [e] using h
        rw [List.map_cons, if_neg e]
        by_cases e3 : p.1 = k'
        · rw [valV_pos e3, valV_pos e3, if_neg (fun q => e (by rw [e3, q]))]
        · rw [valV_neg e3, valV_neg e3]
          exact ih h2
  · rename_i h
    induction kvs with
    | nil =>
      by_cases e2 : k' = k
      · rw [if_pos e2]; exact valV_pos e2.symm
      · rw [if_neg e2]; exact valV_neg (fun q => e2 q.symm)
    | cons p r ih =>
      have h1 : ¬ p.1 = k := fun q => h (by rw [List.any_cons]; simp [q])
      have h2 : ¬ (r.any fun kv => decide (kv.1 = k)) = true := fun q => h (by rw [List.any_cons, q]; simp)
      have := ih h2
      by_cases e3 : p.1 = k'
      · rw [List.cons_append, valV_pos e3, valV_pos e3, if_neg (fun q => h1 (by rw [e3, q]))]
      · rw [List.cons_append, valV_neg e3, valV_neg e3]
        exact this
theorem putK_length {κ : Type} [DecidableEq κ] (kvs : List (κ × V)) (k : κ) (v : V) : (putK kvs k v).length ≤ kvs.length + 1 := by
  unfold putK
  split
  · rw [List.length_map]; omega
  · rw [List.length_append]; exact Nat.le_refl _
end K1
end
section
set_option maxRecDepth 100000
set_option maxHeartbeats 4000000
namespace K1
open PySem L2 K01
section
variable {P : Program} {w : World} {K : PySem.W.Frag} {mg : Str → Option Value} {base : Heap}
abbrev sBadMark : Stmt := top 30
def markAt (ms : List Str) (i : Nat) : Str := (ms[i]?).getD ""
def badMark (ms : List Str) (i : Nat) : Bool := !(nameOk (markAt ms i)) || (decide (markAt ms i = "zero") || decide (markAt ms i ∈ ms.take i))
def Short (ms : List Str) : Prop := ms.length ≤ 1000 ∧ ∀ z ∈ ms, z.length ≤ 1000
def spBadMark (K : PySem.W.Frag) : Sp := fun vs H Q _ => ∃ (a : Addr) (ms : List Str), vs = [.ref a] ∧ strsT K H a ms ∧ Short ms ∧ ∀ H', Same H H' → Q (oV (first (badMark ms) ms.length)) H'
theorem scBadMark : FnScope ["marks", "at", "mark"] ["marks"] (defScope sBadMark) := ⟨rfl, rfl, rfl, by decide +kernel, rfl, by decide +kernel, by decide +kernel⟩
theorem ok_badMark {f fN : Addr} {fd fdN : FuncData} (F : Fun K "first_bad_mark" "first_bad_mark" sBadMark f fd) (T : Bi mg) (FN : Fun K "is_name" "is_name" sName fN fdN) (bN : Binds K fdN ["x"] []) (mN : mg "is_name" = some (.ref fN)) : FnOk P w K mg base CX0 2 f fd ["marks"] (spBadMark K) := by
  have GN : FnOk P w K mg base CX0 1 fN fdN ["x"] (spName K) := ok_name FN T
  refine F.ok scBadMark (fun vs H Q E h => ?_) (fun cdv A outer s H vs Q E hr h => ?_)
  · obtain ⟨_, _, rfl, _⟩ := h
    rfl
  · obtain ⟨a, ms, rfl, hm, hs, k⟩ := h
    refine ⟨_, pss_cons (ps_for PassesOwn.never rfl (pi_enumT (by rfl) T.enumerate (pa_cons (pv 0) pa_nil)) (pg_tup rfl (pgs_cons (pg_name (i := 1) scBadMark.nd rfl (.inl rfl)) (pgs_cons (pg_name (i := 2) scBadMark.nd rfl (.inl rfl)) pgs_nil)))
        (pss_one (ps_if (PW.pt (pw_or (pt_not (pt_val (pe_call GN hr rfl mN FN.kp bN .nil pass0 (pa_cons (pv 2) pa_nil)))) (pw_or (pt_cmpR op_eq (pv 2) pe_str (nomark _)) (pw_or1 (pt_cmpR op_in_seq (pv 2) (pe_slice sl_tupA (pv 0) po_none (po_some (pv 1))) (by rfl))))))
          (pss_one (ps_ret (pv 1))) pss_nil)))
      (pss_one (ps_ret pe_non)), ?_⟩
    refine ⟨_, rfl, a, _, rfl, hm, for_it (walk_enumT (K := K) (a := a)) (fun i σ H' => ∃ v1 v2 : Option V, σ = [some (.ref a), v1, v2] ∧ Same H H' ∧ ∀ j, j < i → badMark ms j = false)
      ⟨none, none, rfl, Same.refl H, fun j h => absurd h (Nat.not_lt_zero _)⟩ (fun i σ H' _ ⟨_, _, _, q, _⟩ => Same.tup q hm) ?_ ?_⟩
    · rintro i v σ H1 H2 hi ⟨v1, v2, rfl, q1, q2⟩ ⟨p, x, y, rfl, hp, rfl, hx, hy⟩
      obtain ⟨z, hz, rfl⟩ := get_map hy
      cases hx
      have hi' : i < ms.length := by rw [List.length_map] at hi; exact hi
      have s2 : Same H (upd H1 p (.tup [.int (i : Nat), .str z])) := q1.trans (Same.new hp)
      have hmk : markAt ms i = z := by unfold markAt; rw [hz]; rfl
      have hb : badMark ms i = (!(nameOk z) || (decide (z = "zero") || decide (z ∈ ms.take i))) := by unfold badMark; rw [hmk]
      have yes : ∀ H', Same H H' → badMark ms i = true → Q (.int (i : Nat)) H' := fun H' s3 e => by
        have := k H' s3
        rw [first_some hi' q2 e] at this
        exact this
      refine ⟨p, _, rfl, tup_at, rfl, _, _, rfl, _, _, rfl, rfl, _, rfl, ?_⟩
      refine ⟨z, rfl, hs.2 z (List.mem_of_getElem? hz), _, rfl, ?_⟩
      cases e1 : nameOk z with
      | false => exact iteT (iteT ⟨_, rfl, yes _ s2 (by rw [hb, e1]; rfl)⟩)
      | true =>
        refine iteF ⟨_, rfl, rfl, _, rfl, ?_⟩
        by_cases e2 : z = "zero"
        · exact iteDT (by rw [e2]) (iteT ⟨_, rfl, yes _ s2 (by rw [hb, e1, decide_eq_true e2]; rfl)⟩)
        · refine iteDF (fun q => e2 (V.str.inj q)) ?_
          have fin : ∀ H3 u, Same H H3 → SqT K H3 u ((ms.take i).map V.str) → ∃ p xs, V.ref u = .ref p ∧ (SqL K H3 p xs ∨ SqT K H3 p xs) ∧ flatV (.str z) = true ∧ xs.all flatV = true ∧ ∃ k', V.bl (if false = true then !inV (.str z) xs else inV (.str z) xs) = .bl k' ∧
              if k' = true then (∃ v, ([some (.ref a), some (.int (i : Nat)), some (.str z)] : List (Option V))[1]? = some (some v) ∧ Q v H3) else (∃ v1 v2 : Option V, ([some (.ref a), some (.int (i : Nat)), some (.str z)] : List (Option V)) = [some (.ref a), v1, v2] ∧ Same H H3 ∧ ∀ j, j < i + 1 → badMark ms j = false) := by
            intro H3 u s3 hu
            refine ⟨u, _, rfl, .inr hu, rfl, strs_flat _, _, rfl, ?_⟩
            rw [if_neg Bool.false_ne_true, inV_str]
            by_cases e3 : z ∈ ms.take i
            · exact iteDT e3 ⟨_, rfl, yes _ s3 (by rw [hb, decide_eq_true e3]; simp)⟩
            · refine iteDF e3 ⟨_, _, rfl, s3, fun j hj => ?_⟩
              by_cases e4 : j = i
              · rw [e4, hb, e1, decide_eq_false e2, decide_eq_false e3]; rfl
              · exact q2 j (by omega)
          refine ⟨_, rfl, _, rfl, _, rfl, _, rfl, a, _, rfl, Same.tup s2 hm, fun w => ?_, fun w u hu => ?_⟩
          · rw [HT.sIx_nat, HT.sIx_none, List.length_map] at w
            omega
          · exact fin _ u (s2.trans (Same.new hu)) (by rw [cut_take, ← List.map_take]; exact tup_at)
    · rintro σ H1 ⟨v1, v2, rfl, q1, q2⟩
      have := k H1 q1
      rw [first_none (fun j hj => q2 j (by rw [List.length_map]; exact hj))] at this
      exact this
end
end K1
end
section
set_option maxRecDepth 100000
set_option maxHeartbeats 4000000
namespace K1
open PySem L2 K01
section
variable {P : Program} {w : World} {K : PySem.W.Frag} {mg : Str → Option Value} {base : Heap}
abbrev sBadTake : Stmt := top 31
def badTake (ms ts : List Str) (i : Nat) : Bool := !decide (markAt ts i ∈ ms) || decide (markAt ts i ∈ ts.take i)
def spBadTake (K : PySem.W.Frag) : Sp := fun vs H Q _ => ∃ (a b : Addr) (ms ts : List Str), vs = [.ref a, .ref b] ∧ strsT K H a ms ∧ strsT K H b ts ∧ ∀ H', Same H H' → Q (oV (first (badTake ms ts) ts.length)) H'
theorem scBadTake : FnScope ["marks", "takes", "at", "take"] ["marks", "takes"] (defScope sBadTake) := ⟨rfl, rfl, rfl, by decide +kernel, rfl, by decide +kernel, by decide +kernel⟩
theorem ok_badTake {f : Addr} {fd : FuncData} (F : Fun K "first_bad_take" "first_bad_take" sBadTake f fd) (T : Bi mg) : FnOk P w K mg base CX0 1 f fd ["marks", "takes"] (spBadTake K) := by
  refine F.ok scBadTake (fun vs H Q E h => ?_) (fun cdv A outer s H vs Q E hr h => ?_)
  · obtain ⟨_, _, _, _, rfl, _⟩ := h
    rfl
  · obtain ⟨a, b, ms, ts, rfl, hm, ht, k⟩ := h
    refine ⟨_, pss_cons (ps_for PassesOwn.never rfl (pi_enumT (by rfl) T.enumerate (pa_cons (pv 1) pa_nil)) (pg_tup rfl (pgs_cons (pg_name (i := 2) scBadTake.nd rfl (.inl rfl)) (pgs_cons (pg_name (i := 3) scBadTake.nd rfl (.inl rfl)) pgs_nil)))
        (pss_one (ps_if (PW.pt (pw_or (pt_cmpR op_notIn_seq (pv 3) (pv 0) (by rfl)) (pw_or1 (pt_cmpR op_in_seq (pv 3) (pe_slice sl_tupA (pv 1) po_none (po_some (pv 2))) (by rfl)))))
          (pss_one (ps_ret (pv 2))) pss_nil)))
      (pss_one (ps_ret pe_non)), ?_⟩
    refine ⟨_, rfl, b, _, rfl, ht, for_it (walk_enumT (K := K) (a := b)) (fun i σ H' => ∃ v1 v2 : Option V, σ = [some (.ref a), some (.ref b), v1, v2] ∧ Same H H' ∧ ∀ j, j < i → badTake ms ts j = false)
      ⟨none, none, rfl, Same.refl H, fun j h => absurd h (Nat.not_lt_zero _)⟩ (fun i σ H' _ ⟨_, _, _, q, _⟩ => Same.tup q ht) ?_ ?_⟩
    · rintro i v σ H1 H2 hi ⟨v1, v2, rfl, q1, q2⟩ ⟨p, x, y, rfl, hp, rfl, hx, hy⟩
      obtain ⟨z, hz, rfl⟩ := get_map hy
      cases hx
      have hi' : i < ts.length := by rw [List.length_map] at hi; exact hi
      have s2 : Same H (upd H1 p (.tup [.int (i : Nat), .str z])) := q1.trans (Same.new hp)
      have hmk : markAt ts i = z := by unfold markAt; rw [hz]; rfl
      have hb : badTake ms ts i = (!decide (z ∈ ms) || decide (z ∈ ts.take i)) := by unfold badTake; rw [hmk]
      have yes : ∀ H', Same H H' → badTake ms ts i = true → Q (.int (i : Nat)) H' := fun H' s3 e => by
        have := k H' s3
        rw [first_some hi' q2 e] at this
        exact this
      refine ⟨p, _, rfl, tup_at, rfl, _, _, rfl, _, _, rfl, rfl, _, rfl, _, rfl, a, _, rfl, .inr (Same.tup s2 hm), rfl, strs_flat _, _, rfl, ?_⟩
      rw [if_pos rfl, inV_str]
      by_cases e1 : z ∈ ms
      · refine iteNS e1 ?_
        have fin : ∀ H3 u, Same H H3 → SqT K H3 u ((ts.take i).map V.str) → ∃ p xs, V.ref u = .ref p ∧ (SqL K H3 p xs ∨ SqT K H3 p xs) ∧ flatV (.str z) = true ∧ xs.all flatV = true ∧ ∃ k', V.bl (if false = true then !inV (.str z) xs else inV (.str z) xs) = .bl k' ∧
              if k' = true then (∃ v, ([some (.ref a), some (.ref b), some (.int (i : Nat)), some (.str z)] : List (Option V))[2]? = some (some v) ∧ Q v H3) else (∃ v1 v2 : Option V, ([some (.ref a), some (.ref b), some (.int (i : Nat)), some (.str z)] : List (Option V)) = [some (.ref a), some (.ref b), v1, v2] ∧ Same H H3 ∧ ∀ j, j < i + 1 → badTake ms ts j = false) := by
            intro H3 u s3 hu
            refine ⟨u, _, rfl, .inr hu, rfl, strs_flat _, _, rfl, ?_⟩
            rw [if_neg Bool.false_ne_true, inV_str]
            by_cases e3 : z ∈ ts.take i
            · exact iteDT e3 ⟨_, rfl, yes _ s3 (by rw [hb, decide_eq_true e3]; simp)⟩
            · refine iteDF e3 ⟨_, _, rfl, s3, fun j hj => ?_⟩
              by_cases e4 : j = i
              · rw [e4, hb, decide_eq_true e1, decide_eq_false e3]; rfl
              · exact q2 j (by omega)
        refine ⟨_, rfl, _, rfl, _, rfl, _, rfl, b, _, rfl, Same.tup s2 ht, fun w => ?_, fun w u hu => ?_⟩
        · rw [HT.sIx_nat, HT.sIx_none, List.length_map] at w
          omega
        · exact fin _ u (s2.trans (Same.new hu)) (by rw [cut_take, ← List.map_take]; exact tup_at)
      · exact iteNF e1 (iteT ⟨_, rfl, yes _ s2 (by rw [hb, decide_eq_false e1]; rfl)⟩)
    · rintro σ H1 ⟨v1, v2, rfl, q1, q2⟩
      have := k H1 q1
      rw [first_none (fun j hj => q2 j (by rw [List.length_map]; exact hj))] at this
      exact this
end
end K1
end
section
set_option maxRecDepth 100000
set_option maxHeartbeats 4000000
namespace K1
open PySem L2 K01
section
variable {P : Program} {w : World} {K : PySem.W.Frag} {mg : Str → Option Value} {base : Heap}
abbrev sFact : Stmt := top 32
def factOk (ns : List Str) : List V → Bool
  | [x, y, c] => inV x (ns.map V.str) && (inV y (ns.map V.str) && (!decide (x = y) && isWhole c))
  | _ => false
def spFact (K : PySem.W.Frag) : Sp := fun vs H Q _ => ∃ (p a : Addr) (xs : List V) (ns : List Str), vs = [.ref p, .ref a] ∧ H p = some (.tup xs) ∧ (∀ x ∈ xs, Flat x) ∧ strsT K H a ns ∧ Q (.bl (factOk ns xs)) H
theorem scFact : FnScope ["fact", "names", "x", "y", "number"] ["fact", "names"] (defScope sFact) := ⟨rfl, rfl, rfl, by decide +kernel, rfl, by decide +kernel, by decide +kernel⟩
theorem ok_fact {f fW : Addr} {fd fdW : FuncData} (F : Fun K "is_fact" "is_fact" sFact f fd) (T : Bi mg) (FW : Fun K "is_whole" "is_whole" sWhole fW fdW) (bW : Binds K fdW ["x"] []) (mW : mg "is_whole" = some (.ref fW)) : FnOk P w K mg base CX0 2 f fd ["fact", "names"] (spFact K) := by
  have GW : FnOk P w K mg base CX0 1 fW fdW ["x"] (spWhole K) := ok_whole FW T
  refine F.ok scFact (fun vs H Q E h => ?_) (fun cdv A outer s H vs Q E hr h => ?_)
  · obtain ⟨_, _, _, _, rfl, _⟩ := h
    rfl
  · obtain ⟨p, a, xs, ns, rfl, hp, hf, hn, k⟩ := h
    refine ⟨_, pss_cons (ps_if (PW.pt (pw_or (pt_not (pt_val (pe_callB call_isi (by rfl) T.isinstance (by decide +kernel) (pa_cons (pv 0) (pa_cons (pe_ty (n := "tuple") (by rfl) T.tuple (by decide +kernel)) pa_nil)))))
          (pw_or1 (pt_cmpR op_ne (pe_callB call_len_seq (by rfl) T.len PySem.boot_len (pa_cons (pv 0) pa_nil)) pe_int (nomark _))))) (pss_one (ps_ret pe_bl)) pss_nil)
      (pss_cons (ps_asg (pv 0) (pg_tup rfl (pgs_cons (pg_name (i := 2) scFact.nd rfl (.inl rfl)) (pgs_cons (pg_name (i := 3) scFact.nd rfl (.inl rfl)) (pgs_cons (pg_name (i := 4) scFact.nd rfl (.inl rfl)) pgs_nil)))))
      (pss_one (ps_ret (pe_and (pe_cmpR op_in_seq (pv 2) (pv 1) (by rfl)) (pe_and (pe_cmpR op_in_seq (pv 3) (pv 1) (by rfl)) (pe_and (pe_cmpR op_ne (pv 2) (pv 3) (nomark _)) (pe_one (pe_call GW hr rfl mW FW.kp bW .nil pass0 (pa_cons (pv 4) pa_nil))))))))), ?_⟩
    have hS : SqT K H p xs := .inl (.inl hp)
    refine ⟨_, rfl, _, _, _, _, true, rfl, .ty _, .base (.tup hp), kit_ty (by decide +kernel), _, rfl, iteF ?_⟩
    refine ⟨_, rfl, p, _, rfl, .inr hS, rfl, _, rfl, ?_⟩
    by_cases e : xs.length = 3
    · obtain ⟨x, y, c, rfl⟩ : ∃ x y c, xs = [x, y, c] := by
        match xs, e with
        | [x, y, c], _ => exact ⟨x, y, c, rfl⟩
      refine iteNS (by rfl) ?_
      refine ⟨_, rfl, p, _, rfl, hS, rfl, _, _, rfl, _, _, rfl, _, _, rfl, rfl, ?_⟩
      have fx : Flat x := hf x (by simp)
      have fy : Flat y := hf y (by simp)
      have fc : Flat c := hf c (by simp)
      refine ⟨_, rfl, _, rfl, a, _, rfl, .inr hn, fx.v, strs_flat _, _, rfl, ?_⟩
      rw [if_neg Bool.false_ne_true]
      have k : Q (.bl (inV x (ns.map V.str) && (inV y (ns.map V.str) && (!decide (x = y) && isWhole c)))) H := k
      cases e1 : inV x (ns.map V.str) with
      | false => rw [e1] at k; exact iteF k
      | true =>
        rw [e1] at k
        refine iteT ⟨_, rfl, _, rfl, a, _, rfl, .inr hn, fy.v, strs_flat _, _, rfl, ?_⟩
        rw [if_neg Bool.false_ne_true]
        cases e2 : inV y (ns.map V.str) with
        | false => rw [e2] at k; exact iteF k
        | true =>
          rw [e2] at k
          have sx : ∃ z, x = .str z := by
            by_cases q : ∃ z, x = .str z
            · exact q
            · rw [inV_other fx (fun z e => q ⟨z, e⟩)] at e1; cases e1
          have sy : ∃ z, y = .str z := by
            by_cases q : ∃ z, y = .str z
            · exact q
            · rw [inV_other fy (fun z e => q ⟨z, e⟩)] at e2; cases e2
          obtain ⟨x, rfl⟩ := sx
          obtain ⟨y, rfl⟩ := sy
          refine iteT ⟨_, rfl, _, rfl, rfl, _, rfl, ?_⟩
          by_cases e3 : V.str x = V.str y
          · rw [decide_eq_true e3] at k ⊢
            exact iteF k
          · rw [decide_eq_false e3] at k ⊢
            exact iteT ⟨_, rfl, c, rfl, fc, k⟩
    · have h3 : ¬ V.int (xs.length : Nat) = V.int 3 := fun q => e (by have := V.int.inj q; omega)
      have : factOk ns xs = false := by
        unfold factOk
        split
        · exact absurd rfl e
        · rfl
      rw [this] at k
      first
        | exact iteNF h3 (iteT k)
        | exact iteNF h3 k
end
end K1
end
section
set_option maxRecDepth 100000
set_option maxHeartbeats 4000000
namespace K1
open PySem L2 K01
section
variable {P : Program} {w : World} {K : PySem.W.Frag} {mg : Str → Option Value} {base : Heap}
abbrev sBadFact : Stmt := top 33
def badFact (ms : List Str) (fs : List (List V)) (i : Nat) : Bool := !factOk ("zero" :: ms) ((fs[i]?).getD [])
def FlatF (fs : List (List V)) : Prop := ∀ xs ∈ fs, ∀ x ∈ xs, Flat x
def spBadFact (K : PySem.W.Frag) : Sp := fun vs H Q _ => ∃ (a b : Addr) (ms : List Str) (fs : List (List V)), vs = [.ref a, .ref b] ∧ strsT K H a ms ∧ ms.length ≤ 1000 ∧ TTAt K H b fs ∧ FlatF fs ∧ ∀ H', Same H H' → Q (oV (first (badFact ms fs) fs.length)) H'
theorem scBadFact : FnScope ["marks", "facts", "names", "at", "fact"] ["marks", "facts"] (defScope sBadFact) := ⟨rfl, rfl, rfl, by decide +kernel, rfl, by decide +kernel, by decide +kernel⟩
theorem ok_badFact {f fN fF fW : Addr} {fd fdN fdF fdW : FuncData} (F : Fun K "first_bad_fact" "first_bad_fact" sBadFact f fd) (T : Bi mg) (FN : Fun K "names_of" "names_of" sNames fN fdN) (bN : Binds K fdN ["marks"] []) (mN : mg "names_of" = some (.ref fN))
    (FF : Fun K "is_fact" "is_fact" sFact fF fdF) (bF : Binds K fdF ["fact", "names"] []) (mF : mg "is_fact" = some (.ref fF)) (FW : Fun K "is_whole" "is_whole" sWhole fW fdW) (bW : Binds K fdW ["x"] []) (mW : mg "is_whole" = some (.ref fW)) :
    FnOk P w K mg base CX0 3 f fd ["marks", "facts"] (spBadFact K) := by
  have GN : FnOk P w K mg base CX0 1 fN fdN ["marks"] (spNames K) := ok_names FN
  have GF : FnOk P w K mg base CX0 2 fF fdF ["fact", "names"] (spFact K) := ok_fact FF T FW bW mW
  refine F.ok scBadFact (fun vs H Q E h => ?_) (fun cdv A outer s H vs Q E hr h => ?_)
  · obtain ⟨_, _, _, _, rfl, _⟩ := h
    rfl
  · obtain ⟨a, b, ms, fs, rfl, hm, hl, ⟨ps, ht, hT⟩, hf, k⟩ := h
    refine ⟨_, pss_cons (ps_set (i := 2) scBadFact.nd rfl (.inl rfl) (pe_call GN (hr.mono (by decide)) rfl mN FN.kp bN .nil pass0 (pa_cons (pv 0) pa_nil)))
      (pss_cons (ps_for PassesOwn.never rfl (pi_enumT (by rfl) T.enumerate (pa_cons (pv 1) pa_nil)) (pg_tup rfl (pgs_cons (pg_name (i := 3) scBadFact.nd rfl (.inl rfl)) (pgs_cons (pg_name (i := 4) scBadFact.nd rfl (.inl rfl)) pgs_nil)))
        (pss_one (ps_if (pt_not (pt_val (pe_call GF hr rfl mF FF.kp bF .nil pass0 (pa_cons (pv 4) (pa_cons (pv 2) pa_nil)))))
          (pss_one (ps_ret (pv 3))) pss_nil)))
      (pss_one (ps_ret pe_non))), ?_⟩
    refine ⟨_, rfl, a, ms, rfl, hm, hl, fun H0 nm s0 hnm => ?_⟩
    refine ⟨_, rfl, b, _, rfl, Same.tup s0 ht, for_it (walk_enumT (K := K) (a := b)) (fun i σ H' => ∃ v1 v2 : Option V, σ = [some (.ref a), some (.ref b), some (.ref nm), v1, v2] ∧ Same H0 H' ∧ ∀ j, j < i → badFact ms fs j = false)
      ⟨none, none, rfl, Same.refl H0, fun j h => absurd h (Nat.not_lt_zero _)⟩ (fun i σ H' _ ⟨_, _, _, q, _⟩ => Same.tup (s0.trans q) ht) ?_ ?_⟩
    · rintro i v σ H1 H2 hi ⟨v1, v2, rfl, q1, q2⟩ ⟨p, x, y, rfl, hp, rfl, hx, hy⟩
      obtain ⟨pf, hpf, rfl⟩ := get_map hy
      obtain ⟨xs, hxs, hH⟩ := hT.get hpf
      cases hx
      have hi' : i < fs.length := (List.getElem?_eq_some_iff.mp hxs).1
      have s2 : Same H (upd H1 p (.tup [.int (i : Nat), .ref pf])) := (s0.trans q1).trans (Same.new hp)
      have hb : badFact ms fs i = !factOk ("zero" :: ms) xs := by unfold badFact; rw [hxs]; rfl
      refine ⟨p, _, rfl, tup_at, rfl, _, _, rfl, _, _, rfl, rfl, _, rfl, _, rfl, pf, nm, xs, _, rfl, s2 _ _ hH, hf xs (List.mem_of_getElem? hxs), Same.tup (q1.trans (Same.new hp)) hnm, _, rfl, ?_⟩
      cases e : factOk ("zero" :: ms) xs with
      | false =>
        refine iteT ⟨_, rfl, ?_⟩
        have := k _ s2
        rw [first_some hi' q2 (by rw [hb, e]; rfl)] at this
        exact this
      | true =>
        refine iteF ⟨_, _, rfl, q1.trans (Same.new hp), fun j hj => ?_⟩
        by_cases e4 : j = i
        · rw [e4, hb, e]; rfl
        · exact q2 j (by omega)
    · rintro σ H1 ⟨v1, v2, rfl, q1, q2⟩
      have := k H1 (s0.trans q1)
      rw [first_none (fun j hj => q2 j (by rw [List.length_map, hT.1]; exact hj))] at this
      exact this
end
end K1
end
section
set_option maxRecDepth 100000
set_option maxHeartbeats 4000000
namespace K1
open PySem L2 K01
section
variable {P : Program} {w : World} {K : PySem.W.Frag} {mg : Str → Option Value} {base : Heap}
abbrev sSpots : Stmt := top 29
abbrev nodes (ms : List Str) : List Str := "zero" :: ms
/-- a dict from the names to what f says of their places -/
def DictOf (H : Hp) (d : Addr) (ns : List Str) (f : Nat → V) : Prop := ∃ kvs, H d = some (.dK kvs) ∧ kvs.length ≤ ns.length ∧ ∀ (i : Nat) (z : Str), ns[i]? = some z → valV kvs (Sum.inr z) = some (f i)
theorem DictOf.same {H H' : Hp} {d : Addr} {ns : List Str} {f : Nat → V} (e : Same H H') (h : DictOf H d ns f) : DictOf H' d ns f := by
  obtain ⟨kvs, h1, h2⟩ := h
  exact ⟨kvs, e _ _ h1, h2⟩
theorem nodup_get {ns : List Str} (hN : ns.Nodup) {i j : Nat} {z : Str} (h1 : ns[i]? = some z) (h2 : ns[j]? = some z) : i = j := nd_ix hN h1 h2
def spSpots (K : PySem.W.Frag) : Sp := fun vs H Q _ => ∃ (a : Addr) (ms : List Str), vs = [.ref a] ∧ strsT K H a ms ∧ ms.length ≤ 900 ∧ (nodes ms).Nodup ∧ ∀ H' d, Same H H' → DictOf H' d (nodes ms) (fun i => .int (i : Nat)) → Q (.ref d) H'
theorem scSpots : FnScope ["marks", "spot", "name"] ["marks"] (defScope sSpots) := ⟨rfl, rfl, rfl, by decide +kernel, rfl, by decide +kernel, by decide +kernel⟩
theorem ok_spots {f fN : Addr} {fd fdN : FuncData} (F : Fun K "spots_of" "spots_of" sSpots f fd) (T : Bi mg) (FN : Fun K "names_of" "names_of" sNames fN fdN) (bN : Binds K fdN ["marks"] []) (mN : mg "names_of" = some (.ref fN)) : FnOk P w K mg base CX0 2 f fd ["marks"] (spSpots K) := by
  have GN : FnOk P w K mg base CX0 1 fN fdN ["marks"] (spNames K) := ok_names FN
  refine F.ok scSpots (fun vs H Q E h => ?_) (fun cdv A outer s H vs Q E hr h => ?_)
  · obtain ⟨_, _, rfl, _⟩ := h
    rfl
  · obtain ⟨a, ms, rfl, hm, hl, hN, k⟩ := h
    refine ⟨_, pss_one (ps_ret (pe_dc (own := [("spot", 1), ("name", 2)]) (g := gTup K 2 (gCons (gName 1) (gCons (gName 2) gNil))) rfl scSpots.nd (pi_enumT (by rfl) T.enumerate (pa_cons (pe_call GN hr rfl mN FN.kp bN .nil pass0 (pa_cons (pv 0) pa_nil)) pa_nil))
      (blkOk_by (N := ["marks", "spot", "name"]) (sc := defScope sSpots) (by decide +kernel))
      (fun _ _ _ _ _ => pg_tup rfl (pgs_cons (pg_name (i := 1) scSpots.nd rfl (.inl rfl)) (pgs_cons (pg_name (i := 2) scSpots.nd rfl (.inl rfl)) pgs_nil)))
      (fun _ _ _ _ _ => pts_nil) (fun _ _ _ _ _ => pv 2) (fun _ _ _ _ _ => pv 1))), ?_⟩
    refine ⟨_, rfl, a, ms, rfl, hm, by omega, fun H0 nm s0 hnm => ⟨nm, _, rfl, hnm, fun D hD => ?_⟩⟩
    refine dc_it (walk_enumT (K := K) (a := nm)) (fun i H' => Same H0 H' ∧ ∃ kvs, H' D = some (.dK kvs) ∧ kvs.length ≤ i ∧ ∀ (j : Nat) (z : Str), j < i → (nodes ms)[j]? = some z → valV kvs (Sum.inr z) = some (.int (j : Nat))) ?_ (fun i H' _ q => Same.tup q.1 hnm) ?_ ?_
    · exact ⟨Same.new hD, [], upd_same, Nat.le_refl _, fun j z h => absurd h (Nat.not_lt_zero _)⟩
    · rintro i v H1 H2 hi ⟨q1, kvs, q2, q3, q4⟩ ⟨p, x, y, rfl, hp, rfl, hx, hy⟩
      obtain ⟨z, hz, rfl⟩ := get_map hy
      cases hx
      have nD : p ≠ D := fun e => by rw [e, q2] at hp; cases hp
      refine ⟨p, _, rfl, tup_at, rfl, _, _, rfl, _, _, rfl, rfl, rfl, yes_ ⟨_, rfl, _, rfl, kvs, Sum.inr z, rfl, by rw [upd_ne nD.symm]; exact q2, ?_, Same.set (q1.trans (Same.new hp)) hD, _, upd_same, ?_, ?_⟩⟩
      · rw [List.length_map, List.length_cons] at hi
        exact small1000 (by omega)
      · exact Nat.le_trans (putK_length _ _ _) (by omega)
      · intro j u hj hu
        rw [valV_put]
        by_cases e : j = i
        · subst e
          rw [hz] at hu
          cases hu
          rw [if_pos rfl]
        · rw [if_neg (fun q => e (nodup_get hN hu (by rw [Sum.inr.inj q]; exact hz))), q4 j u (by omega) hu]
    · rintro H1 ⟨q1, kvs, q2, q3, q4⟩
      rw [List.length_map] at q3 q4
      refine k H1 D (s0.trans q1) ⟨kvs, q2, q3, fun j z h => q4 j z (List.getElem?_eq_some_iff.mp h).1 h⟩
end
end K1
end
section
set_option maxRecDepth 100000
set_option maxHeartbeats 4000000
namespace K1
open PySem L2 K01
theorem DictOf.get {H : Hp} {d : Addr} {ns : List Str} {f : Nat → V} (h : DictOf H d ns f) {i : Nat} {z : Str} (e : ns[i]? = some z) : DGet H d (.str z) (some (f i)) := by
  obtain ⟨kvs, h1, h2, h3⟩ := h
  rw [← h3 i z e]
  exact .inl ⟨kvs, Sum.inr z, .inl h1, rfl, rfl⟩
def zeros (ms : List Str) : List Fact := ms.map fun m => ("zero", m, 0)
section
variable {P : Program} {w : World} {K : PySem.W.Frag} {mg : Str → Option Value} {base : Heap}
abbrev sAll : Stmt := top 35
def spAll (K : PySem.W.Frag) : Sp := fun vs H Q _ => ∃ (a b : Addr) (ms : List Str) (ps : List Addr), vs = [.ref a, .ref b] ∧ strsT K H a ms ∧ SqT K H b (ps.map V.ref) ∧ ms.length ≤ 900 ∧ ps.length ≤ 900 ∧
  ∀ H' l qs, Same H H' → H l = none → H' l = some (.lst ((ps ++ qs).map V.ref)) → TupsAt H' qs ((zeros ms).map factV) → Q (.ref l) H'
theorem scAll : FnScope ["marks", "facts", "mark"] ["marks", "facts"] (defScope sAll) := ⟨rfl, rfl, rfl, by decide +kernel, rfl, by decide +kernel, by decide +kernel⟩
theorem ok_all {f : Addr} {fd : FuncData} (F : Fun K "all_facts" "all_facts" sAll f fd) : FnOk P w K mg base CX0 1 f fd ["marks", "facts"] (spAll K) := by
  refine F.ok scAll (fun vs H Q E h => ?_) (fun cdv A outer s H vs Q E hr h => ?_)
  · obtain ⟨_, _, _, _, rfl, _⟩ := h
    rfl
  · obtain ⟨a, b, ms, ps, rfl, hm, hp, hl, hz, k⟩ := h
    refine ⟨_, pss_one (ps_ret (pe_lst (StX.pa_star (pv 1) (StX.pa_star (pe_lc (own := [("mark", 2)]) (g := gName 2) rfl scAll.nd (pi_tup (pv 0)) (blkOk_by (N := ["marks", "facts", "mark"]) (sc := defScope sAll) (by decide +kernel))
      (fun _ _ _ _ _ => pg_name (i := 2) scAll.nd rfl (.inl rfl)) (fun _ _ _ _ _ => pts_nil) (fun _ _ _ _ _ => pe_tup (pa_cons pe_str (pa_cons (pv 2) (pa_cons pe_int pa_nil))))) pa_nil)))), ?_⟩
    refine ⟨_, rfl, b, _, rfl, .inl hp, _, rfl, a, rfl, ⟨_, hm⟩, fun D hD => lc_it (walk_tup (K := K) (a := a)) (fun i H' => Same H H' ∧ ∃ qs, H' D = some (.lst (qs.map V.ref)) ∧ TupsAt H' qs (((zeros ms).take i).map factV)) ⟨Same.new hD, [], upd_same, .nil⟩ (fun i H' _ q => Same.tup q.1 hm) ?_ ?_⟩
    · rintro i v H1 H2 hi ⟨q1, qs, q2, q3⟩ ⟨rfl, hv⟩
      obtain ⟨z, hz', rfl⟩ := get_map hv
      have hi' : i < ms.length := by rw [List.length_map] at hi; exact hi
      refine ⟨rfl, yes_ ⟨_, rfl, by show 3 ≤ sizeLine; decide, fun p hp' => ?_⟩⟩
      have nD : p ≠ D := fun e => by rw [e, q2] at hp'; cases hp'
      have ql : qs.length = i := by
        have := q3.1
        rw [List.length_map, List.length_take, zeros, List.length_map] at this
        omega
      refine ⟨_, by rw [upd_ne nD.symm]; exact q2, by rw [List.length_map]; exact small1000 (by omega), Same.set (q1.trans (Same.new hp')) hD, qs ++ [p], ?_, ?_⟩
      · rw [upd_same, List.map_append]; rfl
      · have hg : (zeros ms)[i]? = some ((("zero" : Str), z, (0 : Int)) : Fact) := by unfold zeros; rw [List.getElem?_map, hz']; rfl
        rw [take_snoc hg, List.map_append]
        have h2 : (upd H2 p (HO.tup [.str "zero", .str z, .int 0])) D = some (.lst (qs.map V.ref)) := by rw [upd_ne nD.symm]; exact q2
        exact (TupsAt.upd h2 (q3.same (Same.new hp'))).snoc (by rw [upd_ne nD]; exact upd_same)
    · rintro H1 ⟨q1, qs, q2, q3⟩
      have e : ((zeros ms).take (ms.map V.str).length) = zeros ms := by
        rw [List.length_map]
        have : (zeros ms).length = ms.length := by unfold zeros; rw [List.length_map]
        rw [← this, List.take_length]
      rw [e] at q3
      have ql : qs.length = ms.length := by
        have := q3.1
        rw [List.length_map, zeros, List.length_map] at this
        exact this
      refine ⟨D, _, rfl, .inr (SqL.of q2), ?_, fun l hl' => ?_⟩
      · rw [List.length_append, List.length_append, List.length_map, List.length_map]
        exact Nat.le_of_lt (Nat.lt_of_le_of_lt (show _ ≤ 2000 by simp; omega) (by decide))
      · refine k _ l qs (q1.trans (Same.new hl')) (Same.free q1 hl') ?_ (q3.same (Same.new hl'))
        rw [upd_same, List.map_append, List.append_nil]
abbrev sStraight : Stmt := top 36
def straight (a b : Cell) (c : Int) : Bool := match b with | none => false | some d => decide (a = some (c + d))
def spStraight (K : PySem.W.Frag) : Sp := fun vs H Q _ => ∃ (p d : Addr) (fa : Fact) (ns : List Str) (col : Nat → Cell) (i j : Nat), vs = [.ref p, .ref d] ∧ H p = some (.tup (factV fa)) ∧ DictOf H d ns (fun i => cV (col i)) ∧ ns[i]? = some fa.1 ∧ ns[j]? = some fa.2.1 ∧ Q (.bl (straight (col i) (col j) fa.2.2)) H
theorem scStraight : FnScope ["fact", "ahead", "x", "y", "number"] ["fact", "ahead"] (defScope sStraight) := ⟨rfl, rfl, rfl, by decide +kernel, rfl, by decide +kernel, by decide +kernel⟩
theorem ok_straight {f : Addr} {fd : FuncData} (F : Fun K "is_straight" "is_straight" sStraight f fd) : FnOk P w K mg base CX0 1 f fd ["fact", "ahead"] (spStraight K) := by
  refine F.ok scStraight (fun vs H Q E h => ?_) (fun cdv A outer s H vs Q E hr h => ?_)
  · obtain ⟨_, _, _, _, _, _, _, rfl, _⟩ := h
    rfl
  · obtain ⟨p, d, ⟨x, y, c⟩, ns, col, i, j, rfl, hp, hd, hi, hj, k⟩ := h
    have hu := hu_of hr
    refine ⟨_, pss_cons (ps_asg (pv 0) (pg_tup rfl (pgs_cons (pg_name (i := 2) scStraight.nd rfl (.inl rfl)) (pgs_cons (pg_name (i := 3) scStraight.nd rfl (.inl rfl)) (pgs_cons (pg_name (i := 4) scStraight.nd rfl (.inl rfl)) pgs_nil)))))
      (pss_one (ps_ret (pe_and (pe_cmpR op_notN (pe_dget hu (pv 1) (pv 3) (fun _ _ => rfl)) pe_non (nomark _)) (pe_one (pe_cmpR op_eq (pe_dget hu (pv 1) (pv 2) (fun _ _ => rfl)) (pe_op op_add (pv 4) (pe_dget hu (pv 1) (pv 3) (fun _ _ => rfl))) (nomark _)))))), ?_⟩
    refine ⟨_, rfl, p, _, rfl, .inl (.inl hp), rfl, _, _, rfl, _, _, rfl, _, _, rfl, rfl, ?_⟩
    have gx : DGet H d (.str x) (some (cV (col i))) := hd.get hi
    have gy : DGet H d (.str y) (some (cV (col j))) := hd.get hj
    refine ⟨_, rfl, _, rfl, d, _, rfl, gy, rfl, _, rfl, ?_⟩
    have k : Q (.bl (straight (col i) (col j) c)) H := k
    unfold straight at k
    cases e : col j with
    | none => rw [e] at k; exact iteF k
    | some b =>
      rw [e] at k gy
      refine iteT ⟨_, rfl, _, rfl, d, _, rfl, gx, _, rfl, _, rfl, _, rfl, d, _, rfl, gy, _, _, rfl, rfl, ?_, ?_⟩
      · cases col i <;> rfl
      · have e2 : decide (cV (col i) = V.int (c + b)) = decide (col i = some (c + b)) := by
          cases e3 : col i with
          | none => rfl
          | some a0 =>
            rw [Bool.eq_iff_iff]
            simp [cV]
        show Q (.bl (decide (cV (col i) = V.int (c + b)))) H
        rw [e2]
        exact k
end
end K1
end
section
set_option maxRecDepth 100000
namespace K1
open PySem L2 K01
def ix (ms : List Str) (z : Str) : Nat := (nodes ms).idxOf z
def eF (ms : List Str) (f : Fact) : Edge := (ix ms f.1, ix ms f.2.1, f.2.2)
theorem ix_get {ms : List Str} {z : Str} (h : z ∈ nodes ms) : (nodes ms)[ix ms z]? = some z := by
  have h1 : (nodes ms).idxOf z < (nodes ms).length := List.idxOf_lt_length_of_mem h
  unfold ix
  rw [List.getElem?_eq_getElem h1, List.getElem_idxOf h1]
theorem ix_lt {ms : List Str} {z : Str} (h : z ∈ nodes ms) : ix ms z < ms.length + 1 := List.idxOf_lt_length_of_mem h
theorem ix_of {ms : List Str} {z : Str} {i : Nat} (hN : (nodes ms).Nodup) (h : (nodes ms)[i]? = some z) : ix ms z = i :=
  nodup_get hN (ix_get (List.mem_of_getElem? h)) h
theorem ix_inj {ms : List Str} {u v : Str} (hu : u ∈ nodes ms) (hv : v ∈ nodes ms) (e : ix ms u = ix ms v) : u = v := by
  have h1 := ix_get hu
  have h2 := ix_get hv
  rw [e, h2] at h1
  exact (Option.some.inj h1).symm
/-- the facts speak of nodes -/
def InN (ms : List Str) (F : List Fact) : Prop := ∀ f ∈ F, f.1 ∈ nodes ms ∧ f.2.1 ∈ nodes ms
theorem InN.inR {ms : List Str} {F : List Fact} (h : InN ms F) : InR (ms.length + 1) (F.map (eF ms)) := by
  intro e he
  obtain ⟨f, hf, rfl⟩ := List.mem_map.mp he
  exact ⟨ix_lt (h f hf).1, ix_lt (h f hf).2⟩
theorem zeros_in (ms : List Str) : InN ms (zeros ms) := by
  intro f hf
  obtain ⟨m, hm, rfl⟩ := List.mem_map.mp hf
  exact ⟨List.mem_cons_self, List.mem_cons_of_mem _ hm⟩
theorem zeros_edges {ms : List Str} (hN : (nodes ms).Nodup) : (zeros ms).map (eF ms) = zeroE ms.length := by
  unfold zeros zeroE
  apply List.ext_getElem?
  intro i
  rw [List.map_map, List.getElem?_map, List.getElem?_map]
  by_cases h : i < ms.length
  · rw [List.getElem?_eq_getElem h, List.getElem?_range h]
    have e0 : ix ms ("zero" : Str) = 0 := ix_of hN rfl
    have e1 : ix ms ms[i] = i + 1 := ix_of hN (by rw [List.getElem?_cons_succ, List.getElem?_eq_getElem h])
    show some (eF ms ("zero", ms[i], 0)) = _
    unfold eF
    rw [e0, e1]
    rfl
  · rw [List.getElem?_eq_none (by omega), List.getElem?_eq_none (by simp; omega)]
    rfl
/-- a way of facts from x to y, of this sum -/
def isPath (F : List Fact) : Str → Str → Int → List Fact → Prop
  | x, y, c, [] => x = y ∧ c = 0
  | x, y, c, f :: r => f ∈ F ∧ f.1 = x ∧ isPath F f.2.1 y (c - f.2.2) r
theorem isPath.snoc {F : List Fact} {f : Fact} (hf : f ∈ F) : ∀ {CH : List Fact} {x : Str} {c : Int}, isPath F x f.1 c CH → isPath F x f.2.1 (c + f.2.2) (CH ++ [f])
  | [], x, c, h => by
    obtain ⟨rfl, rfl⟩ := h
    exact ⟨hf, rfl, rfl, by omega⟩
  | g :: r, x, c, h => by
    obtain ⟨h1, h2, h3⟩ := h
    refine ⟨h1, h2, ?_⟩
    have := isPath.snoc hf h3
    have e : c - g.2.2 + f.2.2 = c + f.2.2 - g.2.2 := by omega
    rw [e] at this
    exact this
theorem isPath.walk {ms : List Str} {F : List Fact} : ∀ {CH : List Fact} {x y : Str} {c : Int}, isPath F x y c CH → Walk (F.map (eF ms)) (ix ms x) (ix ms y) c
  | [], x, y, c, h => by
    obtain ⟨rfl, rfl⟩ := h
    exact .nil _
  | g :: r, x, y, c, h => by
    obtain ⟨h1, rfl, h3⟩ := h
    have w := Walk.cons (List.mem_map.mpr ⟨g, h1, rfl⟩) (isPath.walk (ms := ms) h3)
    have e : g.2.2 + (c - g.2.2) = c := by omega
    rw [e] at w
    exact w
theorem isPath.mono {F G : List Fact} (h : ∀ f ∈ F, f ∈ G) : ∀ {CH : List Fact} {x y : Str} {c : Int}, isPath F x y c CH → isPath G x y c CH
  | [], _, _, _, q => q
  | _ :: _, _, _, _, ⟨h1, h2, h3⟩ => ⟨h _ h1, h2, isPath.mono h h3⟩
theorem isPath.mem {F : List Fact} : ∀ {CH : List Fact} {x y : Str} {c : Int}, isPath F x y c CH → ∀ f ∈ CH, f ∈ F
  | [], _, _, _, _, f, hf => nomatch hf
  | g :: r, _, _, _, ⟨h1, h2, h3⟩, f, hf => by
    rcases List.mem_cons.mp hf with rfl | hf
    · exact h1
    · exact h3.mem f hf
/-- how many of the nodes the dict has not -/
def lacks (ns : List Str) (kvs : List (Key × V)) : Nat := (ns.filter fun z => (valV kvs (Sum.inr z)).isNone).length
theorem filter_le {α : Type} {p q : α → Bool} : ∀ {l : List α}, (∀ x ∈ l, p x = true → q x = true) → (l.filter p).length ≤ (l.filter q).length
  | [], _ => Nat.le_refl _
  | a :: l, h => by
    have ih := filter_le (p := p) (q := q) (l := l) fun x hx => h x (List.mem_cons_of_mem _ hx)
    rw [List.filter_cons, List.filter_cons]
    by_cases e : p a = true
    · rw [if_pos e, if_pos (h a List.mem_cons_self e)]
      simp only [List.length_cons]; omega
    · rw [if_neg e]
      split
      · simp only [List.length_cons]; omega
      · exact ih
theorem filter_lt {α : Type} {p q : α → Bool} : ∀ {l : List α}, (∀ x ∈ l, p x = true → q x = true) → ∀ {z : α}, z ∈ l → q z = true → p z = false → (l.filter p).length < (l.filter q).length
  | [], _, z, hz, _, _ => nomatch hz
  | a :: l, h, z, hz, h1, h2 => by
    have ih := filter_le (p := p) (q := q) (l := l) fun x hx => h x (List.mem_cons_of_mem _ hx)
    rw [List.filter_cons, List.filter_cons]
    rcases List.mem_cons.mp hz with rfl | hz
    · rw [if_neg (by rw [h2]; exact Bool.false_ne_true), if_pos h1]
      simp only [List.length_cons]; omega
    · have ih2 := filter_lt (p := p) (q := q) (l := l) (fun x hx => h x (List.mem_cons_of_mem _ hx)) hz h1 h2
      by_cases e : p a = true
      · rw [if_pos e, if_pos (h a List.mem_cons_self e)]
        simp only [List.length_cons]; omega
      · rw [if_neg e]
        split
        · simp only [List.length_cons]; omega
        · exact ih2
theorem lacks_put {ns : List Str} {kvs : List (Key × V)} {z : Str} {v : V} (hz : z ∈ ns) (h : valV kvs (Sum.inr z) = none) : lacks ns (putK kvs (Sum.inr z) v) < lacks ns kvs := by
  unfold lacks
  refine filter_lt (fun x _ hx => ?_) hz (by rw [h]; rfl) (by rw [L2.valV_put, if_pos rfl]; rfl)
  rw [L2.valV_put] at hx
  split at hx
  · cases hx
  · exact hx
end K1
end
section
set_option maxRecDepth 100000
set_option maxHeartbeats 4000000
namespace K1
open PySem PySem.Spec PyProof.Rows L2
section
variable {X : Cx}
theorem ps_setDc {i : Nat} {y : Str} {py : Pos} {kx vx tg iter : Expr} {ifs : List Expr} {scope : Scope} {own : List (Str × Nat)} {pos spos : Pos} {wi : TI} {g : TG} {tt : TT} {tk tv : TE} (hc : X.calm = true) (hN : X.N.Nodup) (hy : X.N[i]? = some y) (hyl : X.env.scope.names.lookup y = some .local)
    (hsw : swapsWith (.DictComp kx vx [⟨tg, iter, ifs, 0⟩] scope pos) (some (.Name y py)) spos.line X.env = pure true) (hi : PI X tg iter wi) (ok : BlkOk X.N X.env.scope scope own)
    (hg : ∀ (s : Shared) (H : Hp) (C : Addr) (cl : List (Str × Addr)) (fp : List Addr), PG (X.blk s H scope (compEnvC scope cl C X.env) fp) tg g) (ht : ∀ (s : Shared) (H : Hp) (C : Addr) (cl : List (Str × Addr)) (fp : List Addr), PTs (X.blk s H scope (compEnvC scope cl C X.env) fp) ifs tt)
    (hk : ∀ (s : Shared) (H : Hp) (C : Addr) (cl : List (Str × Addr)) (fp : List Addr), PE (X.blk s H scope (compEnvC scope cl C X.env) fp) kx tk)
    (he : ∀ (s : Shared) (H : Hp) (C : Addr) (cl : List (Str × Addr)) (fp : List Addr), PE (X.blk s H scope (compEnvC scope cl C X.env) fp) vx tv) (hs : ∀ x, foldedSetIterable iter X.env x = pure x := by intro _; rfl) :
    PS X (.Assign [.Name y py] (.DictComp kx vx [⟨tg, iter, ifs, 0⟩] scope pos) spos) (tAsg (tDc wi g tt tk tv (own.map (·.2))) (gName i)) := by
  refine ⟨fun pins s σ H D I h => ?_⟩
  rw [exec_Assign_Name_used _ _ _ _ hsw]
  refine wpAny_bind (wpAny_standAt (wpAny_bind ?_))
  show wpAny _ X.A (do let _ ← comprehension (.DictComp kx vx [⟨tg, iter, ifs, 0⟩] scope pos) scope X.env (firstIterPos [⟨tg, iter, ifs, 0⟩] pos) newDict false (eval iter X.env) (some (assign (.Name y py) X.env))) _ _ s
  have h : tDc wi g tt tk tv (own.map (·.2)) σ H (fun x H1 => gName i x σ H1 D.nx) := h
  refine wpAny_bind (thn (dc_core (Qf := fun _ s' => SP X pins D .next s') hc hN I hi ok hg ht hk he hs h fun L C s' m H' I' q hn f => ?_) fun _ s' hq => wpAny_pure (wpAny_pure hq))
  show wpAny _ _ (assign (.Name y py) X.env (.ref L)) _ _ _
  refine wpAny_assign_Name (store_ok2 (v := V.ref L) I' hN hy (.inl hyl) rfl (fun s2 I2 ⟨a, sb, ha⟩ => ?_) (.inr hyl))
  obtain ⟨f0, f1, f2, f3, f4, f5⟩ := f
  have haC : C ≠ a := by
    rcases ha with z | z
    · rw [z]; exact f1
    · exact fun e => f4 y a z e.symm
  refine ⟨m, hn.sameBut sb haC, fun h3 sb3 => ?_⟩
  exact ⟨_, H', I2.turned (t' := s2.toks) (fun b o hb e => (sb3.2 b hb).trans e) f0 f1 f3 f4 f5, q⟩
theorem sw_trueD {kx vx : Expr} {gs : List Comprehension} {scope : Scope} {pos py : Pos} {y : Str} {l : Nat} {env : Env} (hk : env.scope.kind = .function) (hy : env.scope.names.lookup y = some .local) (hl : (py.line == pos.line) = true)
    (ha : (scope.names.any fun (n, k) => n == y && (k == .local || k == .cell)) = false) : swapsWith (.DictComp kx vx gs scope pos) (some (.Name y py)) l env = pure true := by
  have ky : env.kindOf y = some .local := hy
  have hb : env.blockKind = .function := by unfold Env.blockKind; rw [hk]; rfl
  unfold swapsWith
  simp only [hb, ky, ha, Expr.pos, hl]
  rfl
end
end K1
end
section
set_option maxRecDepth 100000
set_option maxHeartbeats 4000000
namespace K1
open PySem L2 K01
section
variable {P : Program} {w : World} {K : PySem.W.Frag} {mg : Str → Option Value} {base : Heap}
abbrev sChain : Stmt := top 37
/-- what the dict of the ways holds -/
def CI (ms : List Str) (F : List Fact) (B : Mat) (x y : Str) (d : Int) (H : Hp) (kvs : List (Key × V)) : Prop :=
  kvs.length + lacks (nodes ms) kvs ≤ ms.length + 1 ∧ (valV kvs (Sum.inr x)).isSome = true ∧ ∀ z v, z ∈ nodes ms → valV kvs (Sum.inr z) = some v →
    ∃ l qs CH du, v = .ref l ∧ H l = some (.lst (qs.map V.ref)) ∧ qs.length + lacks (nodes ms) kvs ≤ ms.length + 1 ∧ TupsAt H qs (CH.map factV) ∧ cell B (ix ms z) (ix ms y) = some du ∧ isPath F x z (d - du) CH
theorem CI.same {ms : List Str} {F : List Fact} {B : Mat} {x y : Str} {d : Int} {H H' : Hp} {kvs : List (Key × V)} (h : CI ms F B x y d H kvs) (e : Same H H') : CI ms F B x y d H' kvs := by
  obtain ⟨h1, h2, h3⟩ := h
  refine ⟨h1, h2, fun z v hz hv => ?_⟩
  obtain ⟨l, qs, CH, du, q1, q2, q3, q4, q5, q6⟩ := h3 z v hz hv
  exact ⟨l, qs, CH, du, q1, e _ _ q2, q3, q4.same e, q5, q6⟩
theorem TupsAt.updD {H : Hp} {l : Addr} {kvs ws : List (Key × V)} {ps : List Addr} {xss : List (List V)} (hl : H l = some (.dK kvs)) (h : TupsAt H ps xss) : TupsAt (L2.upd H l (.dK ws)) ps xss :=
  ⟨h.1, fun i p r q1 q2 => by
    have := h.2 i p r q1 q2
    rw [upd_ne (fun z => by rw [z, hl] at this; cases this)]
    exact this⟩
/-- one way more -/
theorem CI.put {ms : List Str} {F : List Fact} {B : Mat} {x y : Str} {d : Int} {H : Hp} {kvs : List (Key × V)} (h : CI ms F B x y d H kvs) {D : Addr} (hD : H D = some (.dK kvs)) {f : Fact} (hf : f ∈ F) (h1 : f.1 ∈ nodes ms) (h2 : f.2.1 ∈ nodes ms)
    (hv : valV kvs (Sum.inr f.2.1) = none) {l p : Addr} {qs : List Addr} {CH : List Fact} {d1 d2 : Int} (q3 : qs.length + lacks (nodes ms) kvs ≤ ms.length + 1) (q4 : TupsAt H qs (CH.map factV)) (q5 : cell B (ix ms f.1) (ix ms y) = some d1)
    (q6 : isPath F x f.1 (d - d1) CH) (c2 : cell B (ix ms f.2.1) (ix ms y) = some d2) (e : d1 = f.2.2 + d2) (hl : H l = some (.lst ((qs ++ [p]).map V.ref))) (hp : H p = some (.tup (factV f))) :
    CI ms F B x y d (upd H D (.dK (putK kvs (Sum.inr f.2.1) (.ref l)))) (putK kvs (Sum.inr f.2.1) (.ref l)) := by
  obtain ⟨g1, g2, g3⟩ := h
  have hlk := lacks_put (v := V.ref l) h2 hv
  have hln := L2.length_putK kvs (Sum.inr f.2.1) (V.ref l)
  refine ⟨by omega, ?_, fun z v hz hzv => ?_⟩
  · rw [L2.valV_put]
    split
    · rfl
    · exact g2
  · rw [L2.valV_put] at hzv
    by_cases ez : (Sum.inr z : Key) = Sum.inr f.2.1
    · rw [if_pos ez] at hzv
      cases hzv
      have ez' : z = f.2.1 := Sum.inr.inj ez
      subst ez'
      refine ⟨l, qs ++ [p], CH ++ [f], d2, rfl, ?_, ?_, ?_, c2, ?_⟩
      · rw [upd_ne (fun z => by rw [z, hD] at hl; cases hl)]; exact hl
      · rw [List.length_append, List.length_singleton]; omega
      · rw [List.map_append]
        exact (q4.updD hD).snoc (by rw [upd_ne (fun z => by rw [z, hD] at hp; cases hp)]; exact hp)
      · have := isPath.snoc hf q6
        have e2 : d - d1 + f.2.2 = d - d2 := by omega
        rw [e2] at this
        exact this
    · rw [if_neg ez] at hzv
      obtain ⟨l', qs', CH', du, r1, r2, r3, r4, r5, r6⟩ := g3 z v hz hzv
      refine ⟨l', qs', CH', du, r1, ?_, by omega, r4.updD hD, r5, r6⟩
      rw [upd_ne (fun z => by rw [z, hD] at r2; cases r2)]; exact r2
def Out (ms : List Str) (B : Mat) (y : Str) (kvs : List (Key × V)) (f : Fact) : Prop :=
  (valV kvs (Sum.inr f.1)).isSome = true ∧ valV kvs (Sum.inr f.2.1) = none ∧ straight (cell B (ix ms f.1) (ix ms y)) (cell B (ix ms f.2.1) (ix ms y)) f.2.2 = true
theorem out_exists {ms : List Str} {F : List Fact} {B : Mat} {x y : Str} {d : Int} {kvs : List (Key × V)} (hI : InN ms F) (G : Good (ms.length + 1) (F.map (eF ms)) B) (hx : x ∈ nodes ms) (hy : y ∈ nodes ms) (hc : cell B (ix ms x) (ix ms y) = some d)
    (h1 : (valV kvs (Sum.inr x)).isSome = true) (h2 : valV kvs (Sum.inr y) = none) : ∃ (k : Nat) (f : Fact), F[k]? = some f ∧ Out ms B y kvs f := by
  obtain ⟨u, v, k, d1, d2, e, su, sv, c1, c2, e2⟩ := G.out hI.inR (fun u => ∃ z, z ∈ nodes ms ∧ ix ms z = u ∧ (valV kvs (Sum.inr z)).isSome = true) (G.tightW hI.inR (ix_lt hx) (ix_lt hy) hc) (ix_lt hx) (ix_lt hy) hc ⟨x, hx, rfl, h1⟩
    (fun ⟨z, hz, ez, hv⟩ => by rw [ix_inj hz hy ez, h2] at hv; cases hv)
  obtain ⟨f, hf, ef⟩ := List.mem_map.mp e
  have i1 := hI f hf
  simp only [eF, Prod.mk.injEq] at ef
  obtain ⟨rfl, rfl, rfl⟩ := ef
  obtain ⟨n, hn⟩ := List.getElem?_of_mem hf
  refine ⟨n, f, hn, ?_, ?_, ?_⟩
  · obtain ⟨z, hz, ez, hv⟩ := su
    rw [ix_inj hz i1.1 ez] at hv
    exact hv
  · cases q : valV kvs (Sum.inr f.2.1) with
    | none => rfl
    | some v => exact absurd ⟨f.2.1, i1.2, rfl, by rw [q]; rfl⟩ sv
  · unfold straight
    rw [c1, c2, e2]
    simp
def spChain (K : PySem.W.Frag) : Sp := fun vs H Q _ => ∃ (a b m : Addr) (x y : Str) (ms : List Str) (ps : List Addr) (FS : List Fact) (B : Mat) (d : Int), vs = [.ref a, .ref b, .ref m, .str x, .str y] ∧ strsT K H a ms ∧ ms.length ≤ 900 ∧ (nodes ms).Nodup ∧
  SqT K H b (ps.map V.ref) ∧ TupsAt H ps (FS.map factV) ∧ ps.length ≤ 900 ∧ InN ms FS ∧ MatAt K H m B ∧ Good (ms.length + 1) ((FS ++ zeros ms).map (eF ms)) B ∧ x ∈ nodes ms ∧ y ∈ nodes ms ∧ cell B (ix ms x) (ix ms y) = some d ∧
  ∀ H' l qs CH, Same H H' → H' l = some (.lst (qs.map V.ref)) → qs.length ≤ 2000 → TupsAt H' qs (CH.map factV) → isPath (FS ++ zeros ms) x y d CH → Q (.ref l) H'
theorem scChain : FnScope ["marks", "facts", "bounds", "x", "y", "goal", "ahead", "chains", "fact", "name", "row"] ["marks", "facts", "bounds", "x", "y"] (defScope sChain) := ⟨rfl, rfl, rfl, by decide +kernel, rfl, by decide +kernel, by decide +kernel⟩
theorem ok_chain {f fS fN fA fT : Addr} {fd fdS fdN fdA fdT : FuncData} (F : Fun K "chain_of" "chain_of" sChain f fd) (T : Bi mg) (Fs : Fun K "spots_of" "spots_of" sSpots fS fdS) (bS : Binds K fdS ["marks"] []) (mS : mg "spots_of" = some (.ref fS))
    (FN : Fun K "names_of" "names_of" sNames fN fdN) (bN : Binds K fdN ["marks"] []) (mN : mg "names_of" = some (.ref fN)) (FA : Fun K "all_facts" "all_facts" sAll fA fdA) (bA : Binds K fdA ["marks", "facts"] []) (mA : mg "all_facts" = some (.ref fA))
    (FT : Fun K "is_straight" "is_straight" sStraight fT fdT) (bT : Binds K fdT ["fact", "ahead"] []) (mT : mg "is_straight" = some (.ref fT)) :
    FnOk P w K mg base CX0 3 f fd ["marks", "facts", "bounds", "x", "y"] (spChain K) := by
  have GN : FnOk P w K mg base CX0 1 fN fdN ["marks"] (spNames K) := ok_names FN
  have GS : FnOk P w K mg base CX0 2 fS fdS ["marks"] (spSpots K) := ok_spots Fs T FN bN mN
  have GA : FnOk P w K mg base CX0 1 fA fdA ["marks", "facts"] (spAll K) := ok_all FA
  have GT : FnOk P w K mg base CX0 1 fT fdT ["fact", "ahead"] (spStraight K) := ok_straight FT
  refine F.ok scChain (fun vs H Q E h => ?_) (fun cdv A outer s H vs Q E hr h => ?_)
  · obtain ⟨_, _, _, _, _, _, _, _, _, _, rfl, _⟩ := h
    rfl
  · obtain ⟨a, b, m, x, y, ms, ps, FS, B, d, rfl, hm, hl, hN, hb, hT, hz, hI, hM, G, hx, hy, hc, k⟩ := h
    have hu := hu_of hr
    have hr1 : Room 1 _ := hr.mono (by decide)
    refine ⟨_, pss_cons (ps_set (i := 5) scChain.nd rfl (.inr rfl) (pe_dget hu (pe_call GS hr rfl mS Fs.kp bS .nil pass0 (pa_cons (pv 0) pa_nil)) (pv 4) (fun _ _ => rfl)))
      (pss_cons (ps_setDc (i := 6) (own := [("name", 9), ("row", 10)]) (g := gTup K 2 (gCons (gName 9) (gCons (gName 10) gNil))) (tv := tOp (rIxT K) (tVar 10) (tVar 5)) rfl scChain.nd rfl rfl (sw_trueD rfl rfl rfl (by decide +kernel))
        (RZ.pi_zipA (by rfl) T.zip (pa_cons (pe_call GN hr1 rfl mN FN.kp bN .nil pass0 (pa_cons (pv 0) pa_nil)) (pa_cons (pv 2) pa_nil)))
        (blkOk_by (N := ["marks", "facts", "bounds", "x", "y", "goal", "ahead", "chains", "fact", "name", "row"]) (sc := defScope sChain) (by decide +kernel))
        (fun _ _ _ _ _ => pg_tup rfl (pgs_cons (pg_name (i := 9) scChain.nd rfl (.inl rfl)) (pgs_cons (pg_name (i := 10) scChain.nd rfl (.inl rfl)) pgs_nil)))
        (fun _ _ _ _ _ => pts_nil) (fun _ _ _ _ _ => pv 9) (fun _ _ _ _ _ => pe_ix ix_tup (pv 10) (pv 5) (fun _ _ => rfl)))
      (pss_cons (ps_set (i := 7) scChain.nd rfl (.inl rfl) (pe_disp (pps_cons (pv 3) (pe_lst pa_nil) pps_nil) (by rfl) (by rfl) (fun z => by cases z) (by decide)))
      (pss_cons (ps_while PassesOwn.never (pt_cmp (pc_dnotin hu (pv 4) (pv 7)))
        (pss_one (ps_for PassesOwn.never rfl (pi_list (pe_call GA hr1 rfl mA FA.kp bA .nil pass0 (pa_cons (pv 0) (pa_cons (pv 1) pa_nil)))) (pg_name (i := 8) scChain.nd rfl (.inl rfl))
          (pss_one (ps_if (PW.pt (pw_and (pt_cmp (pc_din hu (pe_ix ix_tup (pv 8) pe_int (fun _ _ => rfl)) (pv 7))) (pw_and (pt_cmp (pc_dnotin hu (pe_ix ix_tup (pv 8) pe_int (fun _ _ => rfl)) (pv 7)))
              (pw_and1 (pt_val (pe_call GT hr1 rfl mT FT.kp bT .nil pass0 (pa_cons (pv 8) (pa_cons (pv 6) pa_nil))))))))
            (pss_one (ps_dput hu (pv 7) (pe_ix ix_tup (pv 8) pe_int (fun _ _ => rfl)) (pe_lst (StX.pa_star (pe_dget hu (pv 7) (pe_ix ix_tup (pv 8) pe_int (fun _ _ => rfl)) (fun _ _ => rfl)) (pa_cons (pv 8) pa_nil))) rfl)) pss_nil)))))
      (pss_one (ps_ret (pe_dget hu (pv 7) (pv 4) (fun _ _ => rfl))))))), ?_⟩
    refine ⟨_, rfl, a, ms, rfl, hm, hl, hN, fun H1 sd s1 hsd => ⟨_, rfl, sd, _, rfl, hsd.get (ix_get hy), ?_⟩⟩
    obtain ⟨as, l1, m2, m3⟩ := id hM
    have hjl : ix ms y < ms.length + 1 := ix_lt hy
    refine ⟨_, rfl, a, ms, rfl, Same.tup s1 hm, by omega, fun H2 nm s2 hnm => ⟨_, rfl, nm, m, _, _, rfl, .inr ⟨hnm, Same.tup (s1.trans s2) m2, fun D hD => ?_⟩⟩⟩
    have hlen : ((nodes ms).map V.str).length = (as.map V.ref).length := by rw [List.length_map, List.length_map, l1, G.sized.1]; rfl
    refine dc_it (walk_zipT (K := K) (a := nm) (b := m) hlen) (fun i H' => Same H2 H' ∧ ∃ kvs, H' D = some (.dK kvs) ∧ kvs.length ≤ i ∧ ∀ (j : Nat) (z : Str), j < i → (nodes ms)[j]? = some z → valV kvs (Sum.inr z) = some (cV (cell B j (ix ms y)))) ?_ (fun i H' _ q => ⟨Same.tup q.1 hnm, Same.tup ((s1.trans s2).trans q.1) m2⟩) ?_ ?_
    · exact ⟨Same.new hD, [], upd_same, Nat.le_refl _, fun j z h => absurd h (Nat.not_lt_zero _)⟩
    · rintro i v Ha Hb hi ⟨q1, kvs, q2, q3, q4⟩ ⟨p, x', y', rfl, hp, rfl, hx', hy'⟩
      obtain ⟨z, hz', rfl⟩ := get_map hx'
      obtain ⟨pr, hpr, rfl⟩ := get_map hy'
      have nD : p ≠ D := fun e => by rw [e, q2] at hp; cases hp
      have hi' : i < ms.length + 1 := (List.getElem?_eq_some_iff.mp hz').1
      obtain ⟨r, hr1', hr2'⟩ := G.sized.row hi'
      have hR : RowAt K (upd Ha p (.tup [.str z, .ref pr])) pr r := Same.tup (((s1.trans s2).trans q1).trans (Same.new hp)) (m3 i pr r hpr hr1')
      have hcl : (r.map cV)[ix ms y]? = some (cV (cell B i (ix ms y))) := by
        have := row_cell G.sized hi' hjl
        rw [rowAt_of hr1'] at this
        exact this
      refine ⟨p, _, rfl, tup_at, rfl, _, _, rfl, _, _, rfl, rfl, rfl, yes_ ⟨_, rfl, _, rfl, _, rfl, _, _, _, _, rfl, rfl, hR, atI_nat hcl, kvs, Sum.inr z, rfl, by rw [upd_ne nD.symm]; exact q2, small1000 (by omega), Same.set (q1.trans (Same.new hp)) hD, _, upd_same, ?_, ?_⟩⟩
      · exact Nat.le_trans (L2.length_putK _ _ _) (by omega)
      · intro j u hj hu'
        rw [L2.valV_put]
        by_cases e : j = i
        · subst e
          rw [hz'] at hu'
          cases hu'
          rw [if_pos rfl]
        · rw [if_neg (fun q => e (nodup_get hN hu' (by rw [Sum.inr.inj q]; exact hz'))), q4 j u (by omega) hu']
    rintro H3 ⟨q1, kvs, q2, q3, q4⟩
    rw [List.length_map] at q3 q4
    have hA : DictOf H3 D (nodes ms) (fun i => cV (cell B i (ix ms y))) := ⟨kvs, q2, q3, fun j z h => q4 j z (List.getElem?_eq_some_iff.mp h).1 h⟩
    have s3 : Same H H3 := (s1.trans s2).trans q1
    clear q4 q3 q2 q1 kvs
    intro Dc hDc
    refine ⟨_, rfl, Nat.zero_le _, fun l0 hl0 => ⟨?_, [(Sum.inr x, .ref l0)], rfl, by show 1 ≤ 15; decide, ?_⟩⟩
    · rw [upd_ne (fun z => by rw [← z, upd_same] at hl0; cases hl0)]; exact upd_same
    have nl0 : l0 ≠ Dc := fun z => by rw [z, upd_same] at hl0; cases hl0
    have hl00 : H3 l0 = none := by rw [upd_ne nl0] at hl0; exact hl0
    have s4 : Same H3 (upd (upd (upd H3 Dc (.dK [])) l0 (.lst [])) Dc (.dK (mergeK [] [(Sum.inr x, .ref l0)]))) := Same.set (Same.set (Same.new hDc) hl00) hDc
    have hDH : H Dc = none := Same.free s3 hDc
    have hF : InN ms (FS ++ zeros ms) := fun f hf => by
      rcases List.mem_append.mp hf with h | h
      · exact hI f h
      · exact zeros_in ms f h
    have em : mergeK [] [((Sum.inr x : Key), V.ref l0)] = [(Sum.inr x, .ref l0)] := rfl
    rw [em] at s4 ⊢
    refine while_by (fun σ H' => ∃ (v : Option V) (kvs : List (Key × V)), σ = [some (.ref a), some (.ref b), some (.ref m), some (.str x), some (.str y), some (.int (ix ms y : Nat)), some (.ref D), some (.ref Dc), v, none, none] ∧ Same H3 H' ∧ H' Dc = some (.dK kvs) ∧ CI ms (FS ++ zeros ms) B x y d H' kvs)
      (fun _ H' => match H' Dc with | some (.dK kvs) => lacks (nodes ms) kvs | _ => 0) ?_ ?_ ?_
    · refine ⟨none, _, rfl, s4, upd_same, ?_, ?_, ?_⟩
      · have h1 : lacks (nodes ms) (putK ([] : List (Key × V)) (Sum.inr x) (.ref l0)) < lacks (nodes ms) ([] : List (Key × V)) := lacks_put hx rfl
        have h2 : lacks (nodes ms) ([] : List (Key × V)) ≤ ms.length + 1 := List.length_filter_le _ _
        have h3 : (putK ([] : List (Key × V)) (Sum.inr x) (.ref l0)) = [(Sum.inr x, .ref l0)] := rfl
        rw [h3] at h1
        show 1 + _ ≤ _
        omega
      · rw [valV_pos rfl]; rfl
      · intro z v hz' hv
        by_cases e : x = z
        · subst e
          rw [valV_pos rfl] at hv
          cases hv
          refine ⟨l0, [], [], d, rfl, ?_, ?_, .nil, hc, rfl, by omega⟩
          · rw [upd_ne nl0]; exact upd_same
          · exact Nat.le_trans (by rw [List.length_nil, Nat.zero_add]; exact Nat.le_refl _) (List.length_filter_le _ _)
        · rw [valV_neg (fun q => e (Sum.inr.inj q))] at hv
          cases hv
    · rintro σ H5 ⟨v, kvs, rfl, s5, hDk, hCI⟩
      refine ⟨_, rfl, _, rfl, Dc, _, rfl, DGet.k (k := Sum.inr y) hDk, _, rfl, ?_⟩
      cases ey : valV kvs (Sum.inr y) with
      | some v0 =>
        refine iteF ?_
        obtain ⟨l, qs, CH, du, rfl, r2, r3, r4, r5, r6⟩ := hCI.2.2 y v0 hy ey
        have hdu : du = 0 := by
          obtain ⟨d', e1, e2⟩ := G.diag0 hjl
          rw [r5] at e1
          cases e1
          have := G.diag hjl (k := du) ⟨du, r5, Int.le_refl _⟩
          omega
        subst hdu
        rw [Int.sub_zero] at r6
        have gy : DGet H5 Dc (.str y) (some (.ref l)) := by rw [← ey]; exact DGet.k (k := Sum.inr y) hDk
        exact ⟨_, rfl, _, rfl, Dc, _, rfl, gy, k H5 l qs CH (s3.trans s5) r2 (by omega) r4 r6⟩
      | none =>
        refine iteT ?_
        refine ⟨_, rfl, _, rfl, a, b, ms, ps, rfl, Same.tup (s3.trans s5) hm, Same.tup (s3.trans s5) hb, hl, hz, fun H6 L qs6 s6 hL0 hL hZ => ⟨L, rfl, ⟨_, SqL.of hL⟩, ?_⟩⟩
        have hTT : TupsAt H6 (ps ++ qs6) ((FS ++ zeros ms).map factV) := by
          rw [List.map_append]
          exact (hT.same ((s3.trans s5).trans s6)).app hZ
        have nLD : L ≠ Dc := fun z => by rw [z, hDk] at hL0; cases hL0
        refine for_it (walk_list (K := K) (a := L)) (fun i σ H' => ∃ (v : Option V) (kv2 : List (Key × V)), σ = [some (.ref a), some (.ref b), some (.ref m), some (.str x), some (.str y), some (.int (ix ms y : Nat)), some (.ref D), some (.ref Dc), v, none, none] ∧ Same H3 H' ∧ H' L = some (.lst ((ps ++ qs6).map V.ref)) ∧ TupsAt H' (ps ++ qs6) ((FS ++ zeros ms).map factV) ∧ H' Dc = some (.dK kv2) ∧ CI ms (FS ++ zeros ms) B x y d H' kv2 ∧
          (lacks (nodes ms) kv2 < lacks (nodes ms) kvs ∨ (kv2 = kvs ∧ ∀ (j : Nat) (f : Fact), j < i → (FS ++ zeros ms)[j]? = some f → ¬ Out ms B y kvs f))) ?_ (fun i σ H' _ ⟨_, _, _, _, q, _⟩ => SqL.of q) ?_ ?_
        · exact ⟨v, kvs, rfl, s5.trans s6, hL, hTT, s6 _ _ hDk, hCI.same s6, .inr ⟨rfl, fun j f h => absurd h (Nat.not_lt_zero _)⟩⟩
        · rintro i v' σ H7 H8 hi ⟨v1, kv2, rfl, s7, hL7, hT7, hD7, hC7, hP7⟩ ⟨rfl, hv'⟩
          obtain ⟨pf, hpf, rfl⟩ := get_map hv'
          obtain ⟨xs, hxs, hpt⟩ := hT7.get hpf
          obtain ⟨f, hf, rfl⟩ := get_map hxs
          have hfm := List.mem_of_getElem? hf
          have i1 := hF f hfm
          have hSq : SqT K H8 pf (factV f) := .inl (.inl hpt)
          have stay : ¬ Out ms B y kv2 f → ∃ (v : Option V) (kv3 : List (Key × V)), [some (.ref a), some (.ref b), some (.ref m), some (.str x), some (.str y), some (.int (ix ms y : Nat)), some (.ref D), some (.ref Dc), some (.ref pf), none, none] = [some (V.ref a), some (.ref b), some (.ref m), some (.str x), some (.str y), some (.int (ix ms y : Nat)), some (.ref D), some (.ref Dc), v, none, none] ∧ Same H3 H8 ∧ H8 L = some (.lst ((ps ++ qs6).map V.ref)) ∧ TupsAt H8 (ps ++ qs6) ((FS ++ zeros ms).map factV) ∧ H8 Dc = some (.dK kv3) ∧ CI ms (FS ++ zeros ms) B x y d H8 kv3 ∧
              (lacks (nodes ms) kv3 < lacks (nodes ms) kvs ∨ (kv3 = kvs ∧ ∀ (j : Nat) (f : Fact), j < i + 1 → (FS ++ zeros ms)[j]? = some f → ¬ Out ms B y kvs f)) := by
            intro no
            refine ⟨_, kv2, rfl, s7, hL7, hT7, hD7, hC7, ?_⟩
            rcases hP7 with h | ⟨rfl, h⟩
            · exact .inl h
            · refine .inr ⟨rfl, fun j g hj hg => ?_⟩
              by_cases e : j = i
              · subst e
                rw [hf] at hg
                cases hg
                exact no
              · exact h j g (by omega) hg
          refine ⟨_, rfl, _, _, _, _, rfl, rfl, hSq, at_of (j := 0) rfl rfl, _, rfl, Dc, _, rfl, DGet.k (k := Sum.inr f.1) hD7, _, rfl, ?_⟩
          cases e1 : valV kv2 (Sum.inr f.1) with
          | none => exact iteF (stay fun o => by rw [Out, e1] at o; cases o.1)
          | some w1 =>
            refine iteT ⟨_, rfl, _, _, _, _, rfl, rfl, hSq, at_of (j := 1) rfl rfl, _, rfl, Dc, _, rfl, DGet.k (k := Sum.inr f.2.1) hD7, _, rfl, ?_⟩
            cases e2 : valV kv2 (Sum.inr f.2.1) with
            | some w2 => exact iteF (stay fun o => by rw [Out, e2] at o; cases o.2.1)
            | none =>
              refine iteT ⟨_, rfl, _, rfl, pf, D, f, nodes ms, fun i => cell B i (ix ms y), ix ms f.1, ix ms f.2.1, rfl, hpt, hA.same s7, ix_get i1.1, ix_get i1.2, _, rfl, ?_⟩
              cases e3 : straight (cell B (ix ms f.1) (ix ms y)) (cell B (ix ms f.2.1) (ix ms y)) f.2.2 with
              | false => exact iteF (stay fun o => by rw [Out, e3] at o; cases o.2.2)
              | true =>
                obtain ⟨l1', qs, CH, du, rfl, r2, r3, r4, r5, r6⟩ := hC7.2.2 f.1 w1 i1.1 e1
                have g1 : DGet H8 Dc (.str f.1) (some (.ref l1')) := by rw [← e1]; exact DGet.k (k := Sum.inr f.1) hD7
                refine iteT ⟨_, rfl, _, rfl, _, _, _, _, rfl, rfl, hSq, at_of (j := 0) rfl rfl, Dc, _, rfl, g1, l1', _, rfl, .inr (SqL.of r2), _, rfl, ?_, fun l2 hl2 => ?_⟩
                · rw [List.length_append, List.length_map]
                  show qs.length + 1 ≤ sizeLine
                  exact Nat.le_of_lt (Nat.lt_of_le_of_lt (show qs.length + 1 ≤ 1000 by omega) (by decide))
                · have hD9 : (upd H8 l2 (.lst (qs.map V.ref ++ [.ref pf]))) Dc = some (.dK kv2) := Same.new hl2 _ _ hD7
                  refine ⟨_, rfl, _, rfl, _, _, _, _, rfl, rfl, Same.tup (Same.new hl2) hSq, at_of (j := 1) rfl rfl, Dc, _, rfl, DPut.k (k := Sum.inr f.2.1) hD9 (small1000 (by have := hC7.1; omega)), ?_⟩
                  have hDH3 : H3 Dc = none := hDc
                  have s8 : Same H8 (upd H8 l2 (.lst (qs.map V.ref ++ [.ref pf]))) := Same.new hl2
                  have hs : straight (some du) (cell B (ix ms f.2.1) (ix ms y)) f.2.2 = true := by rw [← r5]; exact e3
                  obtain ⟨d2, c2, c3⟩ : ∃ d2, cell B (ix ms f.2.1) (ix ms y) = some d2 ∧ du = f.2.2 + d2 := by
                    unfold straight at hs
                    cases q : cell B (ix ms f.2.1) (ix ms y) with
                    | none => rw [q] at hs; cases hs
                    | some d2 =>
                      rw [q] at hs
                      exact ⟨d2, rfl, by simpa using hs⟩
                  refine ⟨_, _, rfl, Same.set (s7.trans s8) hDH3, ?_, ?_, upd_same, (hC7.same s8).put hD9 hfm i1.1 i1.2 e2 (l := l2) (p := pf) (qs := qs) (CH := CH) (d1 := du) (d2 := d2) r3 (r4.same s8) r5 r6 c2 c3 ?_ (s8 _ _ hpt), ?_⟩
                  · rw [upd_ne nLD]; exact s8 _ _ hL7
                  · exact TupsAt.updD hD9 (hT7.same s8)
                  · rw [upd_same, List.map_append]; rfl
                  · left
                    have := lacks_put (v := V.ref l2) i1.2 e2
                    rcases hP7 with h | ⟨rfl, h⟩
                    · omega
                    · exact this
        · rintro σ H7 ⟨v1, kv2, rfl, s7, hL7, hT7, hD7, hC7, hP7⟩
          refine ⟨⟨v1, kv2, rfl, s7, hD7, hC7⟩, ?_⟩
          rw [hD7, hDk]
          show lacks (nodes ms) kv2 < lacks (nodes ms) kvs
          rcases hP7 with h | ⟨rfl, h⟩
          · exact h
          · obtain ⟨n, f, hn, ho⟩ := out_exists hF G hx hy hc hCI.2.1 ey
            refine absurd ho (h n f ?_ hn)
            have := (List.getElem?_eq_some_iff.mp hn).1
            rw [List.length_map]
            have e := hT7.1
            rw [List.length_map] at e
            omega
    · rintro σ Hx Q1 Q2 h ⟨v, e1, v2, e2, a', o, e3, g, c, e4, q⟩
      exact ⟨v, e1, v2, e2, a', o, e3, g, c, e4, h _ _ q⟩
end
end K1
end
section
set_option maxRecDepth 100000
set_option maxHeartbeats 4000000
namespace K1
open PySem L2 K01
section
variable {P : Program} {w : World} {K : PySem.W.Frag} {mg : Str → Option Value} {base : Heap}
abbrev sLesser : Stmt := top 5
def spLesser (K : PySem.W.Frag) : Sp := fun vs H Q _ => ∃ (a b : Addr) (r o : List Cell) (s : Int), vs = [.ref a, .int s, .ref b] ∧ RowAt K H a r ∧ RowAt K H b o ∧ r.length = o.length ∧ r.length ≤ 1000 ∧
  ∀ H' p, Same H H' → RowAt K H' p (lesserRow r s o) → Q (.ref p) H'
theorem scLesser : FnScope ["row", "step", "onward", "old", "more"] ["row", "step", "onward"] (defScope sLesser) := ⟨rfl, rfl, rfl, by decide +kernel, rfl, by decide +kernel, by decide +kernel⟩
theorem lesser_getElem {r o : List Cell} {s : Int} {i : Nat} {x y : Cell} (h1 : r[i]? = some x) (h2 : o[i]? = some y) : (lesserRow r s o)[i]? = some (lesser1 s x y) := by
  unfold lesserRow
  rw [List.getElem?_zipWith, h1, h2]
theorem ok_lesser {f : Addr} {fd : FuncData} (F : Fun K "lesser_row" "lesser_row" sLesser f fd) (T : Bi mg) : FnOk P w K mg base CX0 1 f fd ["row", "step", "onward"] (spLesser K) := by
  refine F.ok scLesser (fun vs H Q E h => ?_) (fun cdv A outer s H vs Q E hr h => ?_)
  · obtain ⟨_, _, _, _, _, rfl, _⟩ := h
    rfl
  · obtain ⟨a, b, r, o, c, rfl, hR, hO, hl, hz, k⟩ := h
    refine ⟨_, pss_one (ps_ret (pe_callTy call_tuple_of (by rfl) T.tuple (by decide +kernel) (pa_cons
      (pe_lc (own := [("old", 3), ("more", 4)]) (g := gTup K 2 (gCons (gName 3) (gCons (gName 4) gNil))) rfl scLesser.nd (RZ.pi_zipA (by rfl) T.zip (pa_cons (pv 0) (pa_cons (pv 2) pa_nil)))
        (blkOk_by (N := ["row", "step", "onward", "old", "more"]) (sc := defScope sLesser) (by decide +kernel))
        (fun _ _ _ _ _ => pg_tup rfl (pgs_cons (pg_name (i := 3) scLesser.nd rfl (.inl rfl)) (pgs_cons (pg_name (i := 4) scLesser.nd rfl (.inl rfl)) pgs_nil)))
        (fun _ _ _ _ _ => pts_nil)
        (fun _ _ _ _ _ => pe_ifExp (PW.pt (pw_or (pt_cmpR op_isN (pv 4) pe_non (nomark _)) (pw_or1 (PW.pt (pw_and (pt_cmpR op_notN (pv 3) pe_non (nomark _)) (pw_and1 (pt_cmpR op_le (pv 3) (pe_op op_add (pv 1) (pv 4)) (nomark _))))))))
          (pv 3) (pe_op op_add (pv 1) (pv 4)))) pa_nil))), ?_⟩
    have hl' : (r.map cV).length = (o.map cV).length := by rw [List.length_map, List.length_map, hl]
    refine ⟨_, rfl, _, rfl, a, b, _, _, rfl, .inr ⟨hR, hO, fun D hD => lc_it (walk_zipT (K := K) (a := a) (b := b) hl') (fun i H' => Same H H' ∧ H' D = some (.lst (((lesserRow r c o).take i).map cV))) ⟨Same.new hD, upd_same⟩ (fun i H' _ q => ⟨Same.tup q.1 hR, Same.tup q.1 hO⟩) ?_ ?_⟩⟩
    · rintro i v H1 H2 hi ⟨q1, q2⟩ ⟨p, x, y, rfl, hp, rfl, hx, hy⟩
      obtain ⟨x, hx', rfl⟩ := get_map hx
      obtain ⟨y, hy', rfl⟩ := get_map hy
      have hi' : i < r.length := by simpa using hi
      have nD : p ≠ D := fun e => by rw [e, q2] at hp; cases hp
      refine ⟨p, _, rfl, tup_at, rfl, _, _, rfl, _, _, rfl, rfl, rfl, ?_⟩
      have fin : ∀ {z}, z = cV (lesser1 c x y) → ∃ acc, (upd H1 p (HO.tup [cV x, cV y])) D = some (HO.lst acc) ∧ acc.length < sizeLine ∧ (Same H (upd (upd H1 p (HO.tup [cV x, cV y])) D (.lst (acc ++ [z]))) ∧ (upd (upd H1 p (HO.tup [cV x, cV y])) D (.lst (acc ++ [z]))) D = some (.lst (((lesserRow r c o).take (i + 1)).map cV))) := by
        intro z hz'
        refine ⟨_, by rw [upd_ne nD.symm]; exact q2, ?_, fun u ob e => ?_, ?_⟩
        · rw [List.length_map, List.length_take]
          refine Nat.lt_of_le_of_lt (Nat.min_le_left _ _) (small1000 (by omega))
        · have n1 : u ≠ D := ne_of_none e hD
          rw [upd_ne n1, upd_ne (ne_of_none (q1 _ _ e) hp)]
          exact q1 _ _ e
        · rw [upd_same, take_snoc (lesser_getElem hx' hy'), List.map_append, hz']
          rfl
      refine yes_ ?_
      cases y with
      | none => exact ⟨_, rfl, rfl, _, rfl, iteDT rfl (iteT ⟨_, rfl, fin rfl⟩)⟩
      | some m =>
        refine ⟨_, rfl, rfl, _, rfl, iteDF (fun e => nomatch e) ?_⟩
        cases x with
        | none =>
          exact ⟨_, rfl, rfl, _, rfl, iteNS rfl (iteF ⟨_, rfl, _, rfl, _, _, rfl, rfl, fin rfl⟩)⟩
        | some o0 =>
          refine ⟨_, rfl, rfl, _, rfl, iteNF (fun e => nomatch e) ⟨_, rfl, _, rfl, _, rfl, _, _, rfl, rfl, _, _, rfl, rfl, _, rfl, ?_⟩⟩
          by_cases g : o0 ≤ c + m
          · exact iteDT g ⟨_, rfl, fin (by simp only [lesser1, if_pos g])⟩
          · exact iteDF g ⟨_, rfl, _, rfl, _, _, rfl, rfl, fin (by simp only [lesser1, if_neg g]; rfl)⟩
    · rintro H1 ⟨q1, q2⟩
      refine ⟨D, _, rfl, .inl ⟨SqL.of q2, fun l hn => k _ _ (q1.trans (Same.new hn)) ?_⟩⟩
      have e : (r.map cV).length = (lesserRow r c o).length := by unfold lesserRow; rw [List.length_map, List.length_zipWith, hl, Nat.min_self]
      rw [e, List.take_length]
      exact tup_at
end
end K1
end
section
set_option maxRecDepth 100000
set_option maxHeartbeats 4000000
namespace K1
open PySem L2 K01
section
variable {P : Program} {w : World} {K : PySem.W.Frag} {mg : Str → Option Value} {base : Heap}
abbrev sTight : Stmt := top 6
def spTight (K : PySem.W.Frag) : Sp := fun vs H Q _ => ∃ (a : Addr) (B : Mat) (n x y : Nat) (c : Int), vs = [.ref a, .int x, .int y, .int c] ∧ MatAt K H a B ∧ Sized n B ∧ x < n ∧ y < n ∧ n ≤ 1000 ∧
  ∀ H' p, Same H H' → MatAt K H' p (tightM B x y c) → Q (.ref p) H'
theorem scTight : FnScope ["bounds", "x", "y", "number", "rows", "row"] ["bounds", "x", "y", "number"] (defScope sTight) := ⟨rfl, rfl, rfl, by decide +kernel, rfl, by decide +kernel, by decide +kernel⟩
theorem ok_tight {f fL : Addr} {fd fdL : FuncData} (F : Fun K "tightened" "tightened" sTight f fd) (T : Bi mg) (FL : Fun K "lesser_row" "lesser_row" sLesser fL fdL) (bL : Binds K fdL ["row", "step", "onward"] []) (mL : mg "lesser_row" = some (.ref fL)) :
    FnOk P w K mg base CX0 2 f fd ["bounds", "x", "y", "number"] (spTight K) := by
  have GL : FnOk P w K mg base CX0 1 fL fdL ["row", "step", "onward"] (spLesser K) := ok_lesser FL T
  refine F.ok scTight (fun vs H Q E h => ?_) (fun cdv A outer s H vs Q E hr h => ?_)
  · obtain ⟨_, _, _, _, _, _, rfl, _⟩ := h
    rfl
  · obtain ⟨a, B, n, x, y, c, rfl, hM, hS, hx, hy, hn, k⟩ := h
    refine ⟨_, pss_cons (ps_set (i := 4) scTight.nd rfl (.inl rfl) (pe_lst pa_nil))
      (pss_cons (ps_for PassesOwn.never rfl (pi_tup (pv 0)) (pg_name (i := 5) scTight.nd rfl (.inl rfl))
        (pss_one (ps_if (PW.pt (pw_or (pt_cmpR op_isN (pe_ix ix_tup (pv 5) (pv 1) (fun _ _ => rfl)) pe_non (nomark _)) (pw_or1 (PW.pt (pw_and (pt_cmpR op_notN (pe_ix ix_tup (pv 5) (pv 2) (fun _ _ => rfl)) pe_non (nomark _))
            (pw_and1 (pt_cmpR op_le (pe_ix ix_tup (pv 5) (pv 2) (fun _ _ => rfl)) (pe_op op_add (pe_ix ix_tup (pv 5) (pv 1) (fun _ _ => rfl)) (pv 3)) (nomark _))))))))
          (pss_one (ps_expr (pe_bm PySem.F.plainAttrs_list PySem.F.slot_list_append PySem.F.type_list_append mt_append (pv 4) (pa_cons (pv 5) pa_nil))))
          (pss_one (ps_expr (pe_bm PySem.F.plainAttrs_list PySem.F.slot_list_append PySem.F.type_list_append mt_append (pv 4)
            (pa_cons (pe_call GL hr rfl mL FL.kp bL .nil pass0 (pa_cons (pv 5) (pa_cons (pe_op op_add (pe_ix ix_tup (pv 5) (pv 1) (fun _ _ => rfl)) (pv 3)) (pa_cons (pe_ix ix_tup (pv 0) (pv 2) (fun _ _ => rfl)) pa_nil)))) pa_nil)))))))
      (pss_one (ps_ret (pe_callTy call_tuple_of (by rfl) T.tuple (by decide +kernel) (pa_cons (pv 4) pa_nil))))), ?_⟩
    refine ⟨Nat.zero_le _, fun l hl => ?_⟩
    have hM1 : MatAt K (upd H l (.lst [])) a B := hM.same (Same.new hl)
    obtain ⟨as, m1, m2, m3⟩ := id hM
    have s1 : Same H (upd H l (.lst [])) := Same.new hl
    refine ⟨_, rfl, a, rfl, ⟨_, Same.tup s1 m2⟩, for_it (walk_tup (K := K) (a := a)) (fun i σ H' => ∃ (ps : List Addr) (v : Option V), σ = [some (.ref a), some (.int x), some (.int y), some (.int c), some (.ref l), v] ∧ Same H H' ∧ H' l = some (.lst (ps.map V.ref)) ∧ RowsAt K H' ps ((B.take i).map (tightRow B x y c)))
      ⟨[], none, rfl, s1, upd_same, RowsAt.nil⟩ (fun i σ H' _ ⟨_, _, _, q, _⟩ => Same.tup q m2) ?_ ?_⟩
    · rintro i v σ H1 H2 hi ⟨ps, v0, rfl, q1, q2, q3⟩ ⟨rfl, hv⟩
      obtain ⟨p, hp, rfl⟩ := get_map hv
      have hi' : i < B.length := by rw [List.length_map] at hi; omega
      have hB : B[i]? = some B[i] := List.getElem?_eq_getElem hi'
      have hin : i < n := by rw [← hS.1]; exact hi'
      have hR : RowAt K H2 p B[i] := Same.tup q1 (m3 i p _ hp hB)
      have hlen : B[i].length = n := hS.2 _ (List.getElem_mem hi')
      have gx : ((B[i]).map cV)[x]? = some (cV (((B[i])[x]?).getD none)) := by
        rw [List.getElem?_map, List.getElem?_eq_getElem (by omega)]; rfl
      have gy : ((B[i]).map cV)[y]? = some (cV (((B[i])[y]?).getD none)) := by
        rw [List.getElem?_map, List.getElem?_eq_getElem (by omega)]; rfl
      have pl : ps.length = i := by
        have := q3.1
        rw [List.length_map, List.length_take, Nat.min_eq_left (Nat.le_of_lt hi')] at this
        exact this
      have hnl : ps.length < sizeLine := small1000 (by omega)
      obtain ⟨xs, pu, w1, w2, w3⟩ := hM.row hS hy
      have ht : (B.take (i + 1)).map (tightRow B x y c) = (B.take i).map (tightRow B x y c) ++ [tightRow B x y c B[i]] := by
        rw [take_snoc hB, List.map_append]; rfl
      -- rows.append(row)
      have keep : tightRow B x y c B[i] = B[i] → (fun (Z : Hp → Prop) => Z (upd H2 l (.lst (ps.map V.ref ++ [.ref p])))) fun H3 => ∃ (ps : List Addr) (v : Option V), [some (.ref a), some (.int x), some (.int y), some (.int c), some (.ref l), some (.ref p)] = [some (V.ref a), some (.int x), some (.int y), some (.int c), some (.ref l), v] ∧ Same H H3 ∧ H3 l = some (.lst (ps.map V.ref)) ∧ RowsAt K H3 ps ((B.take (i + 1)).map (tightRow B x y c)) := by
        intro e
        refine ⟨ps ++ [p], _, rfl, Same.set q1 hl, ?_, ?_⟩
        · rw [upd_same, List.map_append]; rfl
        · rw [ht, e]
          exact (q3.but q2 But.set).snoc (Same.tup (Same.set q1 hl) (m3 i p _ hp hB))
      refine ⟨_, rfl, _, rfl, _, _, _, _, rfl, rfl, hR, atI_nat gx, rfl, _, rfl, ?_⟩
      cases eA : ((B[i])[x]?).getD none with
      | none =>
        rw [eA] at gx
        refine iteDT rfl (iteT ⟨_, rfl, .inl ⟨rfl, _, SqL.of q2⟩, _, rfl, l, _, _, rfl, rfl, q2, by rw [List.length_map]; exact hnl, ?_⟩)
        refine keep ?_
        unfold tightRow skips
        rw [eA]; rfl
      | some a0 =>
        rw [eA] at gx
        refine iteDF (fun e => nomatch e) ?_
        refine ⟨_, rfl, _, rfl, _, _, _, _, rfl, rfl, hR, atI_nat gy, rfl, _, rfl, ?_⟩
        cases eB : ((B[i])[y]?).getD none with
        | none =>
          rw [eB] at gy
          refine iteNS rfl (iteF ?_)
          refine ⟨_, rfl, .inl ⟨rfl, _, SqL.of q2⟩, _, rfl, _, rfl, _, rfl, _, _, _, _, rfl, rfl, hR, atI_nat gx, _, rfl, _, _, rfl, rfl, _, rfl, _, rfl, _, _, _, _, rfl, rfl, Same.tup q1 w1, atI_nat w2, ?_⟩
          refine ⟨p, _, _, _, _, rfl, hR, Same.tup q1 w3, by rw [hlen, hS.rowAt hy], by omega, fun H3 u s3 hu => ⟨l, _, _, rfl, rfl, s3 _ _ q2, by rw [List.length_map]; exact hnl, ?_⟩⟩
          refine ⟨ps ++ [u], _, rfl, Same.set (q1.trans s3) hl, ?_, ?_⟩
          · rw [upd_same, List.map_append]; rfl
          · rw [ht]
            refine ((q3.same s3).but (s3 _ _ q2) But.set).snoc ?_
            have e : tightRow B x y c B[i] = lesserRow B[i] (a0 + c) (rowAt B y) := by
              unfold tightRow skips
              rw [eA, eB]
              rfl
            rw [e]
            exact row_upd (s3 _ _ q2) hu
        | some b0 =>
          rw [eB] at gy
          refine iteNF (fun e => nomatch e) ?_
          refine ⟨_, rfl, _, rfl, _, _, _, _, rfl, rfl, hR, atI_nat gy, _, rfl, _, rfl, _, _, _, _, rfl, rfl, hR, atI_nat gx, _, rfl, _, _, rfl, rfl, _, _, rfl, rfl, _, rfl, ?_⟩
          by_cases g : b0 ≤ a0 + c
          · refine iteDT g ⟨_, rfl, .inl ⟨rfl, _, SqL.of q2⟩, _, rfl, l, _, _, rfl, rfl, q2, by rw [List.length_map]; exact hnl, ?_⟩
            refine keep ?_
            unfold tightRow skips
            rw [eA, eB]
            simp [g]
          · refine iteDF g ?_
            refine ⟨_, rfl, .inl ⟨rfl, _, SqL.of q2⟩, _, rfl, _, rfl, _, rfl, _, _, _, _, rfl, rfl, hR, atI_nat gx, _, rfl, _, _, rfl, rfl, _, rfl, _, rfl, _, _, _, _, rfl, rfl, Same.tup q1 w1, atI_nat w2, ?_⟩
            refine ⟨p, _, _, _, _, rfl, hR, Same.tup q1 w3, by rw [hlen, hS.rowAt hy], by omega, fun H3 u s3 hu => ⟨l, _, _, rfl, rfl, s3 _ _ q2, by rw [List.length_map]; exact hnl, ?_⟩⟩
            refine ⟨ps ++ [u], _, rfl, Same.set (q1.trans s3) hl, ?_, ?_⟩
            · rw [upd_same, List.map_append]; rfl
            · rw [ht]
              refine ((q3.same s3).but (s3 _ _ q2) But.set).snoc ?_
              have e : tightRow B x y c B[i] = lesserRow B[i] (a0 + c) (rowAt B y) := by
                unfold tightRow skips
                rw [eA, eB]
                simp [g]
              rw [e]
              exact row_upd (s3 _ _ q2) hu
    · rintro σ H1 ⟨ps, v0, rfl, q1, q2, q3⟩
      have e : (B.take (as.map V.ref).length) = B := by rw [List.length_map, m1, List.take_length]
      rw [e] at q3
      exact ⟨_, rfl, l, _, rfl, .inl ⟨SqL.of q2, fun p hp => k _ p (q1.trans (Same.new hp)) (MatAt.of tup_at (q3.same (Same.new hp)))⟩⟩
end
end K1
end
section
set_option maxRecDepth 100000
set_option maxHeartbeats 4000000
namespace K1
open PySem L2 K01
section
variable {P : Program} {w : World} {K : PySem.W.Frag} {mg : Str → Option Value} {base : Heap}
abbrev sKept : Stmt := top 4
def kept (B : Mat) (x y : Nat) (c : Int) : Bool := match cell B x y with | none => false | some b => decide (b ≤ c)
def spKept (K : PySem.W.Frag) : Sp := fun vs H Q _ => ∃ (a : Addr) (B : Mat) (n x y : Nat) (c : Int), vs = [.ref a, .int x, .int y, .int c] ∧ MatAt K H a B ∧ Sized n B ∧ x < n ∧ y < n ∧ Q (.bl (kept B x y c)) H
theorem scKept : FnScope ["bounds", "x", "y", "number", "most"] ["bounds", "x", "y", "number"] (defScope sKept) := ⟨rfl, rfl, rfl, by decide +kernel, rfl, by decide +kernel, by decide +kernel⟩
theorem ok_kept {f : Addr} {fd : FuncData} (F : Fun K "is_kept" "is_kept" sKept f fd) : FnOk P w K mg base CX0 1 f fd ["bounds", "x", "y", "number"] (spKept K) := by
  refine F.ok scKept (fun vs H Q E h => ?_) (fun cdv A outer s H vs Q E hr h => ?_)
  · obtain ⟨_, _, _, _, _, _, rfl, _⟩ := h
    rfl
  · obtain ⟨a, B, n, x, y, c, rfl, M, S, hx, hy, k⟩ := h
    refine ⟨_, pss_cons (ps_set (i := 4) scKept.nd rfl (.inl rfl) (pe_ix ix_tup (pe_ix ix_tup (pv 0) (pv 1) (fun _ _ => rfl)) (pv 2) (fun _ _ => rfl)))
      (pss_one (ps_ret (pe_and (pe_cmpR op_notN (pv 4) pe_non (nomark _)) (pe_one (pe_cmpR op_le (pv 4) (pv 3) (nomark _)))))), ?_⟩
    obtain ⟨xs, p, h1, h2, h3⟩ := M.row S hx
    refine ⟨_, rfl, _, rfl, _, _, _, _, rfl, rfl, h1, atI_nat h2, _, rfl, _, _, _, _, rfl, rfl, h3, atI_nat (row_cell S hx hy), _, rfl, rfl, _, rfl, ?_⟩
    unfold kept at k
    cases q : cell B x y with
    | none =>
      rw [q] at k
      exact iteF k
    | some b =>
      rw [q] at k
      refine iteT ?_
      exact ⟨_, rfl, _, rfl, _, _, rfl, rfl, k⟩
abbrev sFree : Stmt := top 2
def spFree (K : PySem.W.Frag) : Sp := fun vs H Q _ => ∃ (m : Nat), vs = [.int m] ∧ m ≤ 100 ∧ ∀ H' p, Same H H' → MatAt K H' p (freeM m) → Q (.ref p) H'
theorem scFree : FnScope ["many", "rows", "mark", "spot"] ["many"] (defScope sFree) := ⟨rfl, rfl, rfl, by decide +kernel, rfl, by decide +kernel, by decide +kernel⟩
theorem ok_free {f : Addr} {fd : FuncData} (F : Fun K "free_bounds" "free_bounds" sFree f fd) (T : Bi mg) : FnOk P w K mg base CX0 1 f fd ["many"] (spFree K) := by
  refine F.ok scFree (fun vs H Q E h => ?_) (fun cdv A outer s H vs Q E hr h => ?_)
  · obtain ⟨_, rfl, _⟩ := h
    rfl
  · obtain ⟨m, rfl, hm, k⟩ := h
    refine ⟨_, pss_cons (ps_set (i := 1) scFree.nd rfl (.inl rfl) (pe_lst (pa_cons (pe_callTy call_tuple_of (by rfl) T.tuple (by decide +kernel) (pa_cons (pe_op op_rep (pe_lst (pa_cons pe_int pa_nil)) (pe_op op_add (pv 0) pe_int)) pa_nil)) pa_nil)))
      (pss_cons (ps_for PassesOwn.never rfl (pi_range2 (by rfl) T.range (pa_cons pe_int (pa_cons (pe_op op_add (pv 0) pe_int) pa_nil))) (pg_name (i := 2) scFree.nd rfl (.inr rfl))
        (pss_one (ps_expr (pe_bm PySem.F.plainAttrs_list PySem.F.slot_list_append PySem.F.type_list_append mt_append (pv 1)
            (pa_cons (pe_callTy call_tuple_of (by rfl) T.tuple (by decide +kernel) (pa_cons
              (pe_lc (own := [("spot", 3)]) (g := gName 3) rfl scFree.nd (pi_range1 (by rfl) T.range (pa_cons (pe_op op_add (pv 0) pe_int) pa_nil)) (blkOk_by (N := ["many", "rows", "mark", "spot"]) (sc := defScope sFree) (by decide +kernel))
                (fun _ _ _ _ _ => pg_name (i := 3) scFree.nd rfl (.inl rfl)) (fun _ _ _ _ _ => pts_nil) (fun _ _ _ _ _ => pe_ifExp (pt_cmpR op_eq (pv 3) (pv 2) (nomark _)) pe_int pe_non)) pa_nil)) pa_nil)))))
      (pss_one (ps_ret (pe_callTy call_tuple_of (by rfl) T.tuple (by decide +kernel) (pa_cons (pv 1) pa_nil))))), ?_⟩
    refine ⟨by show 1 ≤ sizeLine; decide, fun l0 h0 => ?_⟩
    refine ⟨_, rfl, _, _, rfl, rfl, _, _, _, rfl, rfl, upd_same, ?_⟩
    refine ⟨by omega, by omega, ?_, fun l1 h1 => ⟨l1, _, rfl, .inl ⟨SqL.of upd_same, fun t ht => ?_⟩⟩⟩
    · refine Nat.le_of_lt (small1000 ?_)
      show 1 * ((m : Int) + 1).toNat ≤ 1000
      omega
    refine ⟨by show 1 ≤ sizeLine; decide, fun l hl => ?_⟩
    have ez : ((List.replicate ((m : Int) + 1).toNat [V.int 0]).flatten) = (List.replicate (m + 1) (some 0 : Cell)).map cV := by
      have e1 : ((m : Int) + 1).toNat = m + 1 := by omega
      rw [e1, List.map_replicate]
      generalize m + 1 = q
      induction q with
      | zero => rfl
      | succ q ih => rw [List.replicate_succ, List.flatten_cons, ih]; rfl
    have z0 := (((Same.new h0).trans (Same.new h1)).trans (Same.new ht)).trans (Same.new (o := .lst [V.ref t]) hl)
    have hr0 := Same.tup (K := K) (Same.new (o := .lst [V.ref t]) hl) (tup_at (K := K) (H := (upd (upd H l0 (.lst [V.int 0])) l1 (.lst ((List.replicate ((m : Int) + 1).toNat [V.int 0]).flatten)))) (p := t) (xs := ((List.replicate ((m : Int) + 1).toNat [V.int 0]).flatten)))
    have hl0 : H l = none := (Same.free ((Same.new h0).trans ((Same.new h1).trans (Same.new ht))) hl)
    refine ⟨_, rfl, _, _, rfl, rfl, 1, _, rfl, ⟨by decide, by decide, by omega, by omega⟩, ?_⟩
    have em : ((m : Int) + 1 - 1).toNat = m := by omega
    rw [em]
    refine for_range (lo := 1) (n := m) (fun i σ H' => ∃ (ps : List Addr) (v : Option V), σ = [some (.int m), some (.ref l), v, none] ∧ Same H H' ∧ H' l = some (.lst (ps.map V.ref)) ∧ RowsAt K H' ps ((freeM m).take (i + 1))) ?_ ?_ ?_
    · refine ⟨[t], none, rfl, z0, upd_same, ?_⟩
      refine RowsAt.nil.snoc (p := t) ?_
      show SqT K _ t ((List.replicate (m + 1) (some 0 : Cell)).map cV)
      rw [← ez]
      exact hr0
    · rintro i σ H1 hi ⟨ps, v, rfl, q1, q2, q3⟩
      have pl : ps.length = i + 1 := by
        have := q3.1
        rw [List.length_take, (free_sized m).1] at this
        omega
      have hf : (freeM m)[i + 1]? = some ((List.range (m + 1)).map fun s => if s = i + 1 then some 0 else none) := by
        unfold freeM
        rw [List.getElem?_cons_succ, List.getElem?_map, List.getElem?_range hi]
        rfl
      generalize hrf : ((List.range (m + 1)).map fun s => if s = i + 1 then (some 0 : Cell) else none) = rf at hf
      have rl : rf.length = m + 1 := by rw [← hrf]; simp
      refine ⟨_, rfl, .inl ⟨rfl, _, SqL.of q2⟩, _, rfl, _, _, rfl, rfl, _, rfl, by omega, by omega, fun D hD => ?_⟩
      have em1 : ((m : Int) + 1).toNat = m + 1 := by omega
      rw [em1]
      refine lc_it (walk_range (lo := 0) (n := m + 1)) (fun j H' => Same H1 H' ∧ H' D = some (.lst ((rf.take j).map cV))) ⟨Same.new hD, upd_same⟩ (fun _ _ _ _ => trivial) ?_ ?_
      · rintro j v' H2 H3 hj ⟨s1, s2⟩ ⟨rfl, rfl⟩
        refine ⟨rfl, yes_ ⟨_, rfl, _, rfl, rfl, _, rfl, ?_⟩⟩
        have hg : rf[j]? = some (if j = i + 1 then some 0 else none) := by
          rw [← hrf, List.getElem?_map, List.getElem?_range hj]
          rfl
        have fin : ∀ {z}, z = cV (if j = i + 1 then some 0 else none) → ∃ acc, H3 D = some (HO.lst acc) ∧ acc.length < sizeLine ∧ (Same H1 (upd H3 D (.lst (acc ++ [z]))) ∧ (upd H3 D (.lst (acc ++ [z]))) D = some (.lst ((rf.take (j + 1)).map cV))) := by
          intro z hz
          refine ⟨_, s2, ?_, Same.set s1 hD, ?_⟩
          · rw [List.length_map, List.length_take]
            exact Nat.lt_of_le_of_lt (Nat.min_le_left _ _) (small1000 (by omega))
          · rw [upd_same, take_snoc hg, List.map_append, hz]
            rfl
        by_cases e : j = i + 1
        · refine iteDT (congrArg V.int (by omega)) (fin (by rw [if_pos e]; rfl))
        · refine iteDF (fun q => e ?_) (fin (by rw [if_neg e]; rfl))
          have q' := V.int.inj q
          omega
      · rintro H2 ⟨s1, s2⟩
        refine ⟨D, _, rfl, .inl ⟨SqL.of s2, fun u hu => ⟨l, _, _, rfl, rfl, Same.new hu _ _ (s1 _ _ q2), ?_, ?_⟩⟩⟩
        · rw [List.length_map]; exact small1000 (by omega)
        · have s3 : Same H1 (upd H2 u (.tup ((rf.take (m + 1)).map cV))) := s1.trans (Same.new hu)
          refine ⟨ps ++ [u], _, rfl, Same.set (q1.trans s3) hl0, ?_, ?_⟩
          · rw [upd_same, List.map_append]; rfl
          · rw [take_snoc hf]
            refine ((q3.same s3).but (s3 _ _ q2) But.set).snoc ?_
            have e : rf.take (m + 1) = rf := by rw [← rl, List.take_length]
            have := row_upd (K := K) (ys := ps.map V.ref ++ [.ref u]) (s3 _ _ q2) (tup_at (K := K) (H := H2) (p := u) (xs := (rf.take (m + 1)).map cV))
            rw [e] at this ⊢
            exact this
    · rintro σ H1 ⟨ps, v, rfl, q1, q2, q3⟩
      have e : (freeM m).take (m + 1) = freeM m := by rw [← (free_sized m).1, List.take_length]
      rw [e] at q3
      exact ⟨_, rfl, l, _, rfl, .inl ⟨SqL.of q2, fun p hp => k _ p (q1.trans (Same.new hp)) (MatAt.of tup_at (q3.same (Same.new hp)))⟩⟩
end
end K1
end
section
set_option maxRecDepth 100000
set_option maxHeartbeats 4000000
namespace K1
open PySem L2 K01
section
variable {P : Program} {w : World} {K : PySem.W.Frag} {mg : Str → Option Value} {base : Heap}
abbrev sBarred : Stmt := top 3
def barred (B : Mat) (x y : Nat) (c : Int) : Bool := match cell B y x with | none => false | some b => decide (b + c < 0)
def spBarred (K : PySem.W.Frag) : Sp := fun vs H Q _ => ∃ (a : Addr) (B : Mat) (n x y : Nat) (c : Int), vs = [.ref a, .int x, .int y, .int c] ∧ MatAt K H a B ∧ Sized n B ∧ x < n ∧ y < n ∧ Q (.bl (barred B x y c)) H
theorem scBarred : FnScope ["bounds", "x", "y", "number", "back"] ["bounds", "x", "y", "number"] (defScope sBarred) := ⟨rfl, rfl, rfl, by decide +kernel, rfl, by decide +kernel, by decide +kernel⟩
theorem ok_barred {f : Addr} {fd : FuncData} (F : Fun K "is_barred" "is_barred" sBarred f fd) : FnOk P w K mg base CX0 1 f fd ["bounds", "x", "y", "number"] (spBarred K) := by
  refine F.ok scBarred (fun vs H Q E h => ?_) (fun cdv A outer s H vs Q E hr h => ?_)
  · obtain ⟨_, _, _, _, _, _, rfl, _⟩ := h
    rfl
  · obtain ⟨a, B, n, x, y, c, rfl, M, S, hx, hy, k⟩ := h
    refine ⟨_, pss_cons (ps_set (i := 4) scBarred.nd rfl (.inl rfl) (pe_ix ix_tup (pe_ix ix_tup (pv 0) (pv 2) (fun _ _ => rfl)) (pv 1) (fun _ _ => rfl)))
      (pss_one (ps_ret (pe_and (pe_cmpR op_notN (pv 4) pe_non (nomark _)) (pe_one (pe_cmpR op_lt (pe_op op_add (pv 4) (pv 3)) pe_int (nomark _)))))), ?_⟩
    obtain ⟨xs, p, h1, h2, h3⟩ := M.row S hy
    refine ⟨_, rfl, _, rfl, _, _, _, _, rfl, rfl, h1, atI_nat h2, _, rfl, _, _, _, _, rfl, rfl, h3, atI_nat (row_cell S hy hx), _, rfl, rfl, _, rfl, ?_⟩
    unfold barred at k
    cases q : cell B y x with
    | none =>
      rw [q] at k
      exact iteF k
    | some b =>
      rw [q] at k
      refine iteT ?_
      exact ⟨_, rfl, _, rfl, _, _, rfl, rfl, _, _, rfl, rfl, k⟩
end
end K1
end
section
set_option maxRecDepth 100000
set_option maxHeartbeats 2000000
namespace PySem
open PySem.Spec PyProof.Rows
section
variable {prog : Program} {w : World} {A : Around} {E : Value → Shared → Prop} {s : Shared}
/-- x's repr is some text of at most b signs, while h₀'s objects stand -/
def K1Rep (prog : Program) (w : World) (h₀ : Heap) (x : Value) (b : Nat) : Prop :=
  ∀ (n : Nat), n + b ≤ sizeLine → ∀ (A : Around) (E : Value → Shared → Prop) (s : Shared) (Q : Str → Shared → Prop), A.units + 3 < cLine → (∀ c o, h₀.get? c = some o → s.heap.get? c = some o) →
    (∀ t tk, t.length ≤ b → Q t { s with toks := tk }) → wpAny (model prog w) A (pyReprUnder n x) Q E s
theorem K1Rep.tuple {h₀ : Heap} {a : Addr} {o : Obj} {items : Array Value} {m : Nat} {ts : List Str} {b : Nat} (ha : h₀.get? a = some o) (hc : o.cls = .type "tuple") (hd : o.data = .seq items m) (hT : ReprAll prog w items.toList ts) (hb : (tupleText ts).length + 5 ≤ b) :
    K1Rep prog w h₀ (.ref a) b := by
  intro n hn A E s Q hu hk0 hQ
  refine wpAny_pyReprUnder_ref (by omega) (wpAny_pyReprObjUnder_twin (twin := "tuple.__repr__.under") ⟨o, hk0 _ _ ha, hc⟩ F.slot_tuple_repr rfl (by omega) ?_)
  refine call_twin_own (F.quiet_tuple_repr_under _) F.entry_tuple_repr_under F.check_tuple_repr_under ⟨o, hk0 _ _ ha, hc⟩ F.slot_tuple_repr (F.args_tuple_repr_1 _) (wpOwn_of_wpAny ?_)
  rw [tuple_repr_tree]
  refine wpAny_bind (fmt_underWay fun c => ?_)
  cases c with
  | true =>
    refine PySem.W.KFB.if_so rfl ?_
    refine wpAny_bind (wpAny_rule ?_)
    refine wpAny_bind (wpAny_mkStr (wpAny_pure ?_) (by decide +kernel))
    exact ⟨⟨_, _, rfl⟩, _, _, rfl, hQ "(...)" _ (Nat.le_trans fmt_way (by omega))⟩
  | false =>
    refine PySem.W.KFB.if_not rfl ?_
    exact wpAny_tupleReprRest (hk0 _ _ ha) hd hT (fun u tk => ⟨⟨_, _, rfl⟩, _, _, rfl, hQ (tupleText ts) tk (by omega)⟩) (by omega)
inductive K1Reps (prog : Program) (w : World) (h₀ : Heap) (b : Nat) : List Value → Prop
  | nil : K1Reps prog w h₀ b []
  | cons {x : Value} {l : List Value} : K1Rep prog w h₀ x b → K1Reps prog w h₀ b l → K1Reps prog w h₀ b (x :: l)
theorem k1_tupFold {h₀ : Heap} {b : Nat} (hu : A.units + 3 < cLine) : ∀ (l : List Value) (acc : Array Str) (n : Nat) (s : Shared) (Q : (Array Str × Nat) → Shared → Prop), K1Reps prog w h₀ b l → n + l.length * (b + 2) ≤ sizeLine →
    (∀ c o, h₀.get? c = some o → s.heap.get? c = some o) →
    (∀ ts tk, ts.length = l.length → piled ts ≤ l.length * (b + 2) → Q ⟨acc ++ ts.toArray, n + piled ts⟩ { s with toks := tk }) → wpAny (model prog w) A (forIn l (⟨acc, n⟩ : (Array Str × Nat)) tupBody) Q E s := by
  intro l
  induction l with
  | nil =>
    intro acc n s Q hT hn hk h
    have h0 := h [] s.toks rfl (by simp [piled])
    simp only [List.forIn_nil]
    exact wpAny_pure (by simpa [piled] using h0)
  | cons x l ih =>
    intro acc n s Q hT hn hk h
    cases hT with
    | cons hx hl =>
      have hn' : n + (l.length * (b + 2) + (b + 2)) ≤ sizeLine := by
        rw [List.length_cons, Nat.add_mul, Nat.one_mul] at hn
        exact hn
      rw [List.forIn_cons]
      refine wpAny_bind (wpAny_bind (hx (n + 1) (by omega) _ _ _ _ hu hk fun t tk ht => wpAny_pure ?_))
      refine ih (acc.push t) (n + (t.length + 2)) _ Q hl (by omega) hk fun ts tk' hts hp => ?_
      have h1 := h (t :: ts) tk' (by simp [hts]) (by rw [piled_cons, List.length_cons, Nat.add_mul, Nat.one_mul]; omega)
      have e : n + piled (t :: ts) = n + (t.length + 2) + piled ts := by rw [piled_cons]; omega
      rw [e] at h1
      simpa using h1
/-- {t}, t a tuple of such: some text -/
theorem k1_fmt {h₀ : Heap} {a : Addr} {o : Obj} {items : Array Value} {n b : Nat} {Q : Value → Shared → Prop} (hu : A.units + 8 < cLine) (ha : s.heap.get? a = some o) (hc : o.cls = .type "tuple") (hd : o.data = .seq items n) (hT : K1Reps prog w s.heap b items.toList)
    (hsz : items.size * (b + 2) + 10 ≤ sizeLine) (h : ∀ (m : Str) (u tk : Tok), m.length ≤ items.size * (b + 2) + 10 → Q (.str m u) { s with toks := tk }) : wpAny (model prog w) A (formatField (.ref a) Str.empty) Q E s := by
  refine wpAny_formatField_slot (fun _ _ => nofun) (by omega) ⟨o, ha, hc⟩ F.slot_tuple_format F.slot_tuple_str F.slot_tuple_repr ?_
  refine wpAny_call (codeAny_call_builtin_own (Code.quiet_builtin _ (by decide +kernel)) F.entry_tuple_repr (F.slot_tuple_repr.check _ _ _ _ _ _ _ _ ⟨o, ha, hc⟩ (F.args_tuple_repr_1 _) (wpOwn_of_wpAny ?_)))
  show wpAny _ _ (Builtin.tupleReprAt 0 ⟨[.ref a], []⟩) _ _ _
  rw [tuple_repr_tree]
  refine wpAny_bind (fmt_underWay fun c => ?_)
  cases c with
  | true =>
    refine PySem.W.KFB.if_so rfl ?_
    refine wpAny_bind (wpAny_rule ?_)
    refine wpAny_bind (wpAny_mkStr (wpAny_pure ?_) (by decide +kernel))
    exact ⟨"(...)", _, rfl, h "(...)" _ _ (Nat.le_trans fmt_way (by omega))⟩
  | false =>
    refine PySem.W.KFB.if_not rfl ?_
    unfold tupleReprRest Builtin.Tuple.tupleItemsOf
    refine wpAny_bind (wpAny_bind (wpAny_seqItems ha hd (wpAny_pure ?_)))
    rw [← Array.forIn_toList]
    refine wpAny_bind (k1_tupFold (h₀ := s.heap) (b := b) ?_ _ _ _ _ _ hT (by simpa using (by omega : 0 + items.size * (b + 2) ≤ sizeLine)) (fun _ _ e => e) fun ts tk hts hp => ?_)
    · rw [units_under_tuple_repr]
      show A.units + 1 + 1 + 1 + 3 < cLine
      omega
    · have hlen : ts.length = items.size := by simpa using hts
      have hft := fmt_text ts
      have hp' : piled ts ≤ items.size * (b + 2) := by simpa using hp
      refine wpAny_bind (wpAny_mkStr (wpAny_pure ?_) ?_)
      · refine ⟨_, _, rfl, ?_⟩
        have t := h (tupleText ts) tk (tk + 1) (by omega)
        simpa [tupleText, hlen] using t
      · have : (tupleText ts).length ≤ sizeLine := by omega
        simpa [tupleText, hlen] using this
end
end PySem
end
section
set_option maxRecDepth 100000
set_option maxHeartbeats 4000000
namespace PySem
namespace K1X
open PySem.W PySem.Calls PyProof.Rows PySem.HandSPX PySem.Spec
section
variable {prog : Program} {w : World} {A : Around} {E : Value → Shared → Prop} {h : Heap} {g : Array GenState} {d : Drawn} {t : Nat} {os : OsState}
variable {nm q : Str} {C N : Addr} {bs bm : List Value} {hdct : Bool} {sn : List Str} {sub : List Value} {ab : Bool} {col : Option Bool} {dd : Option Addr} {k0 k1 k2 k3 k5 : Option Value}
theorem vcall {u e t0 : Addr} {rest : List Value} {Q : Value → Shared → Prop}
    (hC : h.get? C = some (excClassObj nm q C N bs bm hdct sn sub ab col dd k0 k1 k2 k3 k5 "ValueError.__new__")) (he : h.get? e = some (HandSPX.excO C t0)) (hu : h.get? u = some (kxs_mw "ValueError.__init__" e)) (hrest : rest.length ≤ sizeLine)
    (hq : ∀ h' t1, (∀ b o, b ≠ e → h.get? b = some o → h'.get? b = some o) → h'.get? e = some (HandSPX.excO C t1) → Q .none ⟨h', g, d, t, os⟩) :
    wpAny (model prog w) A (call (.ref u) rest) Q E ⟨h, g, d, t, os⟩ := by
  refine wpAny_call (codeAny_of_tree ?_)
  show wpAny _ A.in1 (callAny (.ref u) ⟨rest, []⟩) _ _ _
  simp only [callAny]
  refine wpAny_bind (wpAny_load hu ?_)
  simp only [kxs_mw, show (Value.type "method-wrapper" == Value.type "method" || Value.type "method-wrapper" == Value.type "builtin_function_or_method" || Value.type "method-wrapper" == Value.type "method-wrapper") = true by decide, if_true]
  refine W.KFB.if_so (by decide) ?_
  refine wpAny_bind (ESX.check_bound F.excBase_ValueError hC he rfl ?_)
  refine wpAny_bind (wpAny_pure (wpAny_pure ?_))
  refine ⟨Code.quiet_builtin _ (by decide +kernel), codeAny_builtin F.excBase_ValueError.initEntry ?_⟩
  rw [Around.under_plainId F.excBase_ValueError.init.plain _]
  wp_walk
  refine hq _ h.objs.size (fun b o hb ho => ?_) ?_
  · rw [Heap.get?_update_other _ _ (Ne.symm hb)]
    exact Heap.get?_push_of_some _ ho
  · rw [Heap.get?_update_self _ (Heap.get?_push_of_some _ he) rfl]
    rfl
end
/-- what __init__ leaves of a fresh exception at x -/
structure InitEnd (h h' : Heap) (x C dx : Addr) (fld : Str) (v : Value) : Prop where
  keep : ∀ b o, b ≠ x → h.get? b = some o → h'.get? b = some o
  obj : ∃ t1 : Addr, h'.get? x = some { cls := .ref C, dict := some dx, data := .fields #[.ref t1, .none, .none, .none, .bool false, .none] }
  dbig : h.objs.size ≤ dx
  dne : dx ≠ x
  ns : h'.Ns1 dx (fun y => if y = fld then some v else none)
section
variable {P : Program} {w : World} {A : Around} {R : Result → Shared → Prop} {s : Shared} {K : Frag} {mg : Str → Option Value} {C fI cc cda e t0 : Addr} {fld qual : Str} {js : Expr} {p0 p1 p2 p3 p4 p5 p6 p7 p8 : Pos}
theorem init_super {params : Arguments} {scope : Scope} {ar : Arg} {oc doc pm ct ccl cl : Value} {od an cdd cld : Option Addr} {osl ccs csl : Array (Option Value)} {vs : Array Value} {file : Str} {tf : Tok} {v : Value}
    {nm q : Str} {N : Addr} {bs bm : List Value} {sn : List Str} {sub : List Value} {ab : Bool} {col : Option Bool} {dd : Option Addr} {k0 k1 k2 k3 k5 : Option Value}
    (X : K.In s.heap) (hlim : s.heap.NoLimit) (G : s.heap.Ns mainGlobals mg) (Bt : ∃ mb, s.heap.Ns builtinsNs mb ∧ ∀ x : Str, x ≠ "__name__" → mb x = bootBuiltins x) (hsup : mg "super" = none)
    (hC : K.lookup C = some (excClassObj nm q C N bs bm true sn sub ab col dd k0 k1 k2 k3 k5 "ValueError.__new__")) (hbm : refsVE bm = true) (sa : findIn K (.ref C) "__setattr__" = some (some (.builtin "object.__setattr__"))) (noN : findIn K (.ref C) fld = some none)
    (vE : subIn K (.ref C) (.type "ValueError") = some true) (su : ks_superIn K C C "__init__" = some (some (.builtin "ValueError.__init__"))) (mr : mroIn K C (.ref C) = some true) (st : nsIn K cStatics "thirdparty.any" = some none)
    (ho : K.lookup fI = some ⟨oc, od, .func (ksFn "__init__" qual params [.Expr (.Call (.Attribute (.Call (.Name "super" p0) [] [] p1) "__init__" p2) [js] [] p3) p4, .Assign [.Attribute (.Name "self" p5) fld p6] (.Name fld p7) p8] scope .none .none doc pm an (.ref cda) ct cc), osl⟩)
    (hcd : codeIn K (.ref cda) qual = true) (hcode : K.lookup cda = some ⟨ccl, cdd, .fields vs, ccs⟩) (hvs : vs[2]? = some (.str file tf)) (hfile : ((P.main.file : Str) == file) = true) (hcell : K.lookup cc = some ⟨cl, cld, .cell (some (.ref C)), csl⟩)
    (hp : (params.posonlyargs ++ params.args).head? = some ar) (har : ar.arg = "self") (hfs : fld ≠ "self") (hdf : (fld == ("__debug__" : Str)) = false)
    (hbind : ∀ s' : Shared, BindsTo s' (ksFn "__init__" qual params [.Expr (.Call (.Attribute (.Call (.Name "super" p0) [] [] p1) "__init__" p2) [js] [] p3) p4, .Assign [.Attribute (.Name "self" p5) fld p6] (.Name fld p7) p8] scope .none .none doc pm an (.ref cda) ct cc) ⟨[.ref e, v], []⟩ [("self", .ref e), (fld, v)])
    (hks : scope.names.lookup ("super" : Str) = some .globalImplicit) (hkc : scope.names.lookup ("__class__" : Str) = some .free) (hka : scope.names.lookup ("self" : Str) = some .local) (hkf : scope.names.lookup fld = some .local) (hk : scope.kind = .function)
    (hnc : ∀ x ∈ scope.names, x.2 ≠ .cell) (hco : scope.isCoroutine = false) (hgen : scope.isGenerator = false) (htop : (P.main.scope.names.lookup ("super" : Str)).isSome = false)
    (hst : ∀ env : Env, starEach [js] env = [(false, eval js env)])
    (hin : ∀ L : Addr, interactive (ksEnv qual scope L fI (.ref cda) cc) = false)
    (hsw : ∀ (f L : Addr), swapsWith (.Call (.Attribute (.Call (.Name "super" p0) [] [] p1) "__init__" p2) [js] [] p3) none p4.line (ksEnv qual scope L f (.ref cda) cc) = pure false)
    {pl : Addr → Sem Bool} (hev : ∀ L : Addr, eval (.Call (.Attribute (.Call (.Name "super" p0) [] [] p1) "__init__" p2) [js] [] p3) (ksEnv qual scope L fI (.ref cda) cc) = (do
      let ov ← attributeBase (.Call (.Name "super" p0) [] [] p1) "__init__" (ksEnv qual scope L fI (.ref cda) cc) (eval (.Call (.Name "super" p0) [] [] p1) (ksEnv qual scope L fI (.ref cda) cc))
      standAt p2.atName
      let (f, first) ← holding [ov] (getMethod ov "__init__" (pl L))
      callWith p3 f first (backTo p3 (starEach [js] (ksEnv qual scope L fI (.ref cda) cc))) []))
    (hjs : ∀ (L : Addr) (B : Around) (EE : Value → Shared → Prop) (s' : Shared) (Q : Value → Shared → Prop), s'.heap.Ns L (fun x => ([("self", Value.ref e), (fld, v)] : List (Str × Value)).reverse.lookup x) → (∀ b o, s.heap.get? b = some o → s'.heap.get? b = some o) → B.units ≤ A.units + 20 →
      (∀ y tk tk', Q (.str y tk) { s' with toks := tk' }) → wpAny (model P w) B (eval js (ksEnv qual scope L fI (.ref cda) cc)) Q EE s')
    (hx : s.heap.get? e = some (excO C t0)) (hnx : K.lookup e = none) (hroom : A.depth < recursionLimit)
    (hq : ∀ h' tk dx, InitEnd s.heap h' e C dx fld v → R (.ok (.ret .none)) { s with heap := h', toks := tk }) :
    codeAny (model P w) A (.call (.ref fI) ⟨[.ref e, v], []⟩) R s := by
  have hcl : clsIn K C = some { name := nm, bases := bs, mro := .ref C :: bm, ns := N, qualname := q, hasDict := true, slotNames := sn, subclasses := sub, abstract := ab, collection := col, hasDel := false } := by unfold clsIn; rw [hC] <;> rfl
  have hlocs : ∀ y ∈ ([("self", Value.ref e), (fld, v)] : List (Str × Value)), scope.names.lookup y.1 = some .local := by
    intro y hy
    rcases List.mem_cons.mp hy with rfl | hy
    · exact hka
    · rcases List.mem_cons.mp hy with rfl | hy
      · exact hkf
      · cases hy
  refine ks_codeAny_call_defAt (fd := ksFn "__init__" qual params _ scope .none .none doc pm an (.ref cda) ct cc) (binds := [("self", .ref e), (fld, v)]) hroom (X _ _ ho) rfl hlim (codeRec_of X hcd) rfl (hbind s) hnc hlocs (fun h₁ hns k => ?_) hco hgen hk
  show wpAt (model P w) _ (.func _ (ksEnv qual scope s.heap.objs.size fI (.ref cda) cc)) (execs _ (ksEnv qual scope s.heap.objs.size fI (.ref cda) cc)) _ _ _
  have X₁ : K.In h₁ := X.keeps k
  have hx₁ := k _ _ hx
  obtain ⟨mb, Bn, Bv⟩ := Bt
  have hself : ([("self", Value.ref e), (fld, v)] : List (Str × Value)).reverse.lookup ("self" : Str) = some (.ref e) := by
    have h1 : ((("self" : Str)) == fld) = false := by simpa using fun z => hfs (Eq.symm z)
    show List.lookup ("self" : Str) [(fld, v), (("self" : Str), Value.ref e)] = _
    simp only [List.lookup, h1]
    rfl
  have hfld : ([("self", Value.ref e), (fld, v)] : List (Str × Value)).reverse.lookup fld = some v := by
    show List.lookup fld [(fld, v), (("self" : Str), Value.ref e)] = _
    simp [List.lookup]
  refine ks_wpAt_execs_cons (ks_wpAt_Expr_any (ks_wpAt_MethodCall (pl := pl s.heap.objs.size) ?_ (hev _)) (hin _) (hsw _ _))
  refine ks_wpAt_super_base (env := ksEnv qual scope s.heap.objs.size fI (.ref cda) cc) hks hkc rfl rfl (X₁ _ _ ho) rfl hp rfl (X₁ _ _ hcode) rfl hvs hfile htop ?_
  refine ks_loadName_global hk hks (loadGlobal_builtin (env := ksEnv qual scope s.heap.objs.size fI (.ref cda) cc) (G.keeps k) hsup (Bn.keeps k) ((Bv "super" (by decide)).trans (by decide +kernel)) ⟨rfl, ?_⟩)
  refine wpAny_loadName_free hk hkc rfl ⟨_, X₁ _ _ hcell, rfl⟩ ?_
  rw [har]
  refine wpAny_loadName_local hk hka hns (v := .ref e) hself ?_
  refine ks_wpAny_isType_cls (X₁ _ _ hC) rfl ⟨rfl, ?_⟩
  refine ks_wpAny_call_super (X₁ _ _ hC) rfl hx₁ rfl (fun c z => by cases z) (looks_mroIn X₁ mr) (fun h₂ hso k₂ => ?_)
  have X₂ : K.In h₂ := X₁.keeps k₂
  have hx₂ := k₂ _ _ hx₁
  have I₂ : InstAt h₂ e (excO C t0) C none := ⟨hx₂, rfl, rfl, trivial⟩
  have hI : Looks (model P w) h₂ (isInstance (.ref e) (.type "ValueError")) true := I₂.type.andThen (looks_subIn X₂ vE)
  have su' : alongIn K "__init__" (((Value.ref C :: bm).dropWhile (· != .ref C)).drop 1) = some (some (.builtin "ValueError.__init__")) := by
    unfold ks_superIn at su
    rw [hcl] at su
    exact su
  refine kxs_getMethod kxs_ValueError hso (looks_opaque X₂ st) (l₀ := .ref C :: bm) (fun A Q E s k q => wpAny_bind ((looks_clsIn X₂ hcl) A _ E s k (wpAny_pure q))) rfl X₂ su' hI (ks_ne X₂ I₂ hcl) rfl ?_
  have k3 : ∀ b o, s.heap.get? b = some o → (h₂.push (kxs_mw "ValueError.__init__" e)).get? b = some o := fun b o q => Heap.get?_push_of_some _ (k₂ _ _ (k _ _ q))
  refine kxs_callWith (i := "ValueError.__init__") (x := e) (by rw [hst]; rfl) ?_
  rw [hst]
  refine PySem.Calls.evalArgs_plain ?_
  have ns3 : (h₂.push (kxs_mw "ValueError.__init__" e)).Ns s.heap.objs.size (fun x => ([("self", Value.ref e), (fld, v)] : List (Str × Value)).reverse.lookup x) := by
    obtain ⟨oL, es, ep, hL, r⟩ := hns
    exact ⟨oL, es, ep, Heap.get?_push_of_some _ (k₂ _ _ hL), r⟩
  refine PySem.Calls.spliced_cons (hjs _ _ _ _ _ ns3 k3 ?_ fun y tk tk' => ?_)
  · show A.units + 3 ≤ A.units + 20
    omega
  refine PySem.Calls.spliced_nil ⟨?_, ?_⟩
  · exact Heap.get?_push_at rfl rfl
  refine vcall (t0 := t0) (X₂.keeps (fun _ _ q => Heap.get?_push_of_some _ q) _ _ hC) (Heap.get?_push_of_some _ hx₂) (Heap.get?_push_at rfl rfl) (by rw [sizeLine_eq]; exact (by decide : 1 ≤ 16777216)) fun h₄ t1 k₄ hx₄ => ?_
  have eL : e ≠ s.heap.objs.size := Nat.ne_of_lt (Heap.lt_size hx)
  have X₄ : K.In h₄ := fun a o q => k₄ a o (fun z => by rw [z, hnx] at q; cases q) (Heap.get?_push_of_some _ (X₂ _ _ q))
  have ns4 : h₄.Ns s.heap.objs.size (fun x => ([("self", Value.ref e), (fld, v)] : List (Str × Value)).reverse.lookup x) := by
    obtain ⟨oL, es, ep, hL, r⟩ := ns3
    exact ⟨oL, es, ep, k₄ _ _ (Ne.symm eL) hL, r⟩
  refine wpAt_of_wpAny ?_
  refine wpAny_execs_cons (plainObj_wpAny_Assign_Attribute ?_)
  refine ESX.ldL ns4 hfld (ESX.ldL ns4 hself ?_ hk hka) hk hkf hdf
  refine set_plain X₄ (ox := excO C t1) (od := none) ⟨hx₄, rfl, rfl, trivial⟩ sa ?_
  refine exc_osa X₄ hx₄ hcl (show refsVE (.ref C :: bm) = true from hbm) rfl noN (fun h₅ tk₅ dx k₅ dn dne hx₅ hn₅ => ?_)
  show wpAny _ _ (execs _ _) _ _ _
  have z1 : s.heap.objs.size ≤ dx := by
    have a1 : s.heap.objs.size < h₄.objs.size := by
      obtain ⟨oL, es, ep, hL, r⟩ := ns4
      exact Heap.lt_size hL
    have dn' : h₄.objs.size ≤ dx := dn
    omega
  exact wpAny_execs_nil (hq h₅ tk₅ dx ⟨fun b o hb q => k₅ b o hb (k₄ b o hb (k3 b o q)), ⟨t1, hx₅⟩, z1, dne, hn₅⟩)
end
end K1X
end PySem
end
section
set_option maxRecDepth 100000
set_option maxHeartbeats 4000000
namespace PySem
namespace K1X
open PySem.W PySem.Calls PyProof.Rows PySem.HandSPX PySem.Spec
/-- what the written part says of an own error class at C, its __init__ at fI, its field fld; Ok: the values that it may be called with -/
structure XC (P : Program) (K : Frag) (mg : Str → Option Value) (x fld : Str) (C fI : Addr) (Ok : Value → Heap → Prop) : Prop where
  gC : mg x = some (.ref C)
  cls : ∃ nm q N bs bm sn sub ab col dd k0 k1 k2 k3 k5, K.lookup C = some (excClassObj nm q C N bs bm true sn sub ab col dd k0 k1 k2 k3 k5 "ValueError.__new__") ∧ refsVE bm = true
  ga : findIn K (.ref C) "__getattribute__" = some (some (.builtin "BaseException.__getattribute__"))
  gg : findIn K (.ref C) "__getattr__" = some none
  noN : findIn K (.ref C) fld = some none
  iC : findIn K (.ref C) "__init__" = some (some (.ref fI))
  tC : typeIn K (.ref fI) = some (.type "function")
  kC : keepIn K (.ref C) = true
  exC : subIn K (.ref C) (.type "BaseException") = some true
  tyC : typeIn K (.ref C) = some (.type "type")
  hdC : hasDictIn K C = true
  te : exmOne K (.ref C) (.ref C) = some true
  mono : ∀ u h h', (∀ b o, h.get? b = some o → h'.get? b = some o) → Ok u h → Ok u h'
  /-- its __init__, called with the new exception and one value that it may be called with -/
  run : ∀ (w : World) (A : Around) (s : Shared) (R : Result → Shared → Prop) (e t0 : Addr) (v : Value), K.In s.heap → s.heap.NoLimit → s.heap.Ns mainGlobals mg → (∃ mb, s.heap.Ns builtinsNs mb ∧ ∀ x : Str, x ≠ "__name__" → mb x = bootBuiltins x) →
    s.heap.get? e = some (excO C t0) → K.lookup e = none → A.depth < recursionLimit → A.units + 40 < cLine → Ok v s.heap →
    (∀ h' tk dx, InitEnd s.heap h' e C dx fld v → R (.ok (.ret .none)) { s with heap := h', toks := tk }) → codeAny (model P w) A (.call (.ref fI) ⟨[.ref e, v], []⟩) R s
/-- a made one -/
structure Made (h h' : Heap) (e C d : Addr) (fld : Str) (v : Value) : Prop where
  keep : ∀ b o, h.get? b = some o → h'.get? b = some o
  new : h.objs.size ≤ e
  obj : ∃ oe vs, h'.get? e = some oe ∧ oe.cls = .ref C ∧ oe.dict = some d ∧ oe.data = .fields vs ∧ vs[1]? = some .none ∧ vs[2]? = some .none
  dbig : h.objs.size ≤ d
  dne : d ≠ e
  ns : h'.Ns1 d (fun y => if y = fld then some v else none)
theorem one_size (v : Value) : [v].length ≤ sizeLine := by
  rw [sizeLine_eq]
  exact (by decide : 1 ≤ 16777216)
theorem made {P : Program} {w : World} {A : Around} {R : Result → Shared → Prop} {s : Shared} {K : Frag} {mg : Str → Option Value} {x fld : Str} {C fI : Addr} {Ok : Value → Heap → Prop} (T : XC P K mg x fld C fI Ok) {v : Value} (X : K.In s.heap) (hlim : s.heap.NoLimit)
    (G : s.heap.Ns mainGlobals mg) (Bt : ∃ mb, s.heap.Ns builtinsNs mb ∧ ∀ x : Str, x ≠ "__name__" → mb x = bootBuiltins x) (hroom : A.depth + 1 < recursionLimit) (hu : A.units + 41 < cLine) (hok : Ok v s.heap)
    (hq : ∀ h' tk e d, Made s.heap h' e C d fld v → R (.ok (.ret (.ref e))) { s with heap := h', toks := tk }) :
    codeAny (model P w) A (.call (.ref C) ⟨[v], []⟩) R s := by
  obtain ⟨nm, q, N, bs, bm, sn, sub, ab, col, dd, k0, k1, k2, k3, k5, hC, hbm⟩ := T.cls
  obtain ⟨hp, g, dr, tk, os⟩ := s
  have k : ∀ b o, hp.get? b = some o → ((hp.push (kdv_tup [v])).push (excO C hp.objs.size)).get? b = some o := fun b o e => Heap.get?_push_of_some _ (Heap.get?_push_of_some _ e)
  have hget : ((hp.push (kdv_tup [v])).push (excO C hp.objs.size)).get? (hp.objs.size + 1) = some (excO C hp.objs.size) := by heap_get
  have hnx : K.lookup (hp.objs.size + 1) = none := by
    cases e : K.lookup (hp.objs.size + 1) with
    | none => rfl
    | some o =>
      have z : hp.get? (hp.objs.size + 1) = some o := X _ _ e
      exact absurd (Nat.lt_of_succ_lt (Heap.lt_size z)) (Nat.lt_irrefl _)
  obtain ⟨mb, B1, B2⟩ := Bt
  refine call_own F.excBase_ValueError (fun X => refsVE_contains X bm hbm) (X _ _ hC) (looks_findIn X T.iC) (fun self => bind_fn X self T.tC) (one_size v) ?_
  refine T.run w _ ⟨(hp.push (kdv_tup [v])).push (excO C hp.objs.size), g, dr, tk, os⟩ _ (hp.objs.size + 1) hp.objs.size v (X.keeps k) (hlim.keeps k) (G.keeps k) ⟨mb, B1.keeps k, B2⟩ hget hnx ?_ ?_ (T.mono _ _ _ k hok) fun h' tk' dx ⟨k', hx, dn, dne, hns⟩ => ?_
  · show A.depth + 1 < recursionLimit
    exact hroom
  · have : (A.under (.builtin "type.__call__" ⟨.ref C :: [v], []⟩)).units = A.units + 1 := L2.make_units
    rw [this]
    omega
  · have old : ∀ b o, hp.get? b = some o → h'.get? b = some o := fun b o e => k' b o (Nat.ne_of_lt (Nat.lt_succ_of_lt (Heap.lt_size e))) (k b o e)
    have z : hp.objs.size + 1 + 1 ≤ dx := by
      first
        | (simpa only [Heap.size_push] using dn)
        | exact dn
        | (have q := dn; rw [Heap.size_push, Heap.size_push] at q; exact q)
    obtain ⟨t1, hx⟩ := hx
    exact ⟨rfl, hq h' tk' (hp.objs.size + 1) dx ⟨old, Nat.le_succ _, ⟨_, _, hx, rfl, rfl, rfl, rfl, rfl⟩, Nat.le_trans (Nat.le_trans (Nat.le_succ _) (Nat.le_succ _)) z, dne, hns⟩⟩
end K1X
end PySem
namespace L2
open PySem PySem.Spec PyProof.Rows
theorem relO_one {fld : Str} {v : V} {v' : Value} (r : RelV v v') (f : Str) : RelO (List.lookup f [(fld, v)]) (if f = fld then some v' else none) := by
  by_cases hw : f = fld
  · subst hw
    rw [if_pos rfl]
    have q : List.lookup f [(f, v)] = some v := by simp [List.lookup]
    rw [q]
    exact r
  · rw [if_neg hw]
    have qw : (f == fld) = false := by simpa using hw
    have q2 : List.lookup f [(fld, v)] = none := by simp [List.lookup, qw]
    rw [q2]
    trivial
section
variable {X : Cx} {C fI : Addr} {x fld : Str} {Ok : Value → Heap → Prop}
/-- C(e) -/
def tMkX (C : Addr) (fld : Str) (OkV : V → Hp → Prop) (ta : TA) : St → Hp → XK → Prop := fun σ H Q => ta σ H fun vs H1 => ∃ v, vs = [v] ∧ OkV v H1 ∧ ∀ d, H1 d = none → Q (.ref C) (some d) (upd H1 d (.xd [(fld, v)]))
theorem pmk_x {OkV : V → Hp → Prop} {a : Expr} {ta : TA} {p pos : Pos} {k : Nat} (T : PySem.K1X.XC X.prog X.K X.mg x fld C fI Ok) (hov : ∀ pins σ H s v u, Inv X pins σ H s → RelV v u → OkV v H → Ok u s.heap) (hr : Room k X.A) (ha : PA X [a] ta) (hg : Gl X x)
    (hdb : (x == ("__debug__" : Str)) = false := by decide) (he : starEach (a :: []) X.env = (false, eval a X.env) :: starEach [] X.env := by rfl) (hpl : (backTo pos (starEach [] X.env)).any (·.1) = false := by rfl) :
    L2N.PMk X (.Call (.Name x p) [a] [] pos) (tMkX C fld OkV ta) := by
  intro pins s σ H Q I h
  refine wpAny_Call_Name_kw (ld_glob I hg T.gC ?_ hdb)
  refine PySem.W.callWith_K (h₀ := X.base) I.ok.mod.kin T.kC (thn (ha.run pos pins s σ H _ I h) fun us s1 hh => ?_) he hpl
  obtain ⟨vs, H1, I1, r1, v, ev, ok1, q1⟩ := hh
  subst ev
  refine ⟨I1.kIn, ?_⟩
  cases r1 with
  | cons rv rn =>
    rename_i v' us'
    cases rn
    show wpAny _ _ (call (.ref C) [v']) _ _ _
    have hlim := I1.nolimit
    have hok := hov _ _ _ _ _ _ I1 rv ok1
    have hG := I1.mod.glob.keeps I1.bk
    obtain ⟨mb, b1, b2⟩ := I1.mod.blt
    have hB := b1.keeps I1.bk
    obtain ⟨hp, g, dr, tk, os⟩ := s1
    refine wpAny_call (PySem.K1X.made T I1.kIn hlim hG ⟨mb, hB, b2⟩ (by have := hr.dp; omega) (by have := hr.un; omega) hok fun h' tk' e d M => ?_)
    show L2N.MkP X pins σ Q (.ref e) ⟨h', g, dr, tk', os⟩
    obtain ⟨oe, fv, hoe, hc, hd, hdat, h1, h2⟩ := M.obj
    have hns := M.ns
    obtain ⟨G', g1, g2⟩ := restrict h' fun b => decide (b ≠ e)
    have gk : ∀ b, b ≠ e → G'.get? b = h'.get? b := fun b hb => g1 b (decide_eq_true hb)
    have ge : G'.get? e = none := g2 e (by simp)
    have old : ∀ b o, hp.get? b = some o → G'.get? b = some o := fun b o q => (gk b (Nat.ne_of_lt (Nat.lt_of_lt_of_le (Heap.lt_size q) M.new))).trans (M.keep b o q)
    have ob : ObjOk X.prog X.w (upd H1 d (.xd [(fld, v)])) G' d (.xd [(fld, v)]) :=
      ⟨_, hns.at (fun o q => (gk d M.dne).trans q), fun f => relO_one rv f⟩
    have J : Inv X pins σ (upd H1 d (.xd [(fld, v)])) ⟨G', g, dr, tk', os⟩ := I1.laid (t' := tk') old M.dbig ob
    refine ⟨e, oe, fv, ⟨G', g, dr, tk', os⟩, _, .ref C, some d, rfl, J, fun b o q => ?_, ge, hoe, ⟨hc, hd, fun vs q => by rw [hdat] at q; cases q; exact h2⟩, hdat, h1, ?_, rfl, I1.bare, raises_own T.exC T.tyC, q1 d (I1.hok.fresh M.dbig)⟩
    · by_cases hb : b = e
      · have q' : G'.get? b = some o := q
        rw [hb, ge] at q'; cases q'
      · exact (gk b hb).symm.trans q
    · rw [upd_ne (Ne.symm M.dne)]
      exact I1.hok.fresh M.new
def tRaiseX (C : Addr) (fld : Str) (OkV : V → Hp → Prop) (W : WX) (ta : TA) : TS := fun _ σ H => tMkX C fld OkV ta σ H fun cls d H' => W cls d σ H'
theorem ps_raiseX {OkV : V → Hp → Prop} {a : Expr} {ta : TA} {W : WX} {p pos pos2 : Pos} {k : Nat} (hc : X.calm = true) (T : PySem.K1X.XC X.prog X.K X.mg x fld C fI Ok) (hov : ∀ pins σ H s v u, Inv X pins σ H s → RelV v u → OkV v H → Ok u s.heap) (hr : Room k X.A) (tk : L2N.Takes X W) (ha : PA X [a] ta) (hg : Gl X x)
    (hdb : (x == ("__debug__" : Str)) = false := by decide) (he : starEach (a :: []) X.env = (false, eval a X.env) :: starEach [] X.env := by rfl) (hpl : (backTo pos (starEach [] X.env)).any (·.1) = false := by rfl) :
    PS X (.Raise (some (.Call (.Name x p) [a] [] pos)) none pos2) (tRaiseX C fld OkV W ta) := L2N.ps_raise hc tk (pmk_x T hov hr ha hg hdb he hpl)
/-- e.fld, e the exception that the suite holds -/
def tGetX (C : Addr) (fld : Str) (a : Addr) (cls : Value) (d : Option Addr) (te : TE) : TE := fun σ H Q => te σ H fun y H1 => y = .ref a ∧ cls = .ref C ∧ ∃ (dd : Addr) (v : V), d = some dd ∧ H1 dd = some (.xd [(fld, v)]) ∧ Q v H1
theorem pe_getX {a : Addr} {oe : Obj} {cls : Value} {d : Option Addr} {pn : List (Addr × Obj)} {e : Expr} {te : TE} {pos : Pos} (T : PySem.K1X.XC X.prog X.K X.mg x fld C fI Ok) (hz : Zc cls d oe) (hf : ∃ vs, oe.data = .fields vs) (he : PE (X.suite a ((a, oe) :: pn)) e te)
    (hb : attributeBase e fld X.env (eval e X.env) = eval e X.env := by rfl) :
    PE (X.suite a ((a, oe) :: pn)) (.Attribute e fld pos) (tGetX C fld a cls d te) := by
  refine ⟨fun pins s σ H Q I h => ?_⟩
  refine attr_of hb (thn (he.run pins s σ H _ I h) fun u s1 hh => ?_)
  obtain ⟨y, H1, I1, rx, ex, ec, dd, v, ed, ea, q⟩ := hh
  subst ex
  obtain rfl : u = Value.ref a := rx
  subst ec
  subst ed
  obtain ⟨ha, _⟩ := I1.pin (a, oe) (List.mem_append_left _ List.mem_cons_self)
  obtain ⟨vs, hd⟩ := hf
  have hx : ObjOk X.prog X.w H1 s1.heap dd (.xd [(fld, v)]) := I1.hok dd _ ea
  obtain ⟨mA, hns, hr⟩ := hx
  obtain ⟨od, ho, hl⟩ := lookIn_ns hns
  have l : List.lookup fld [(fld, v)] = some v := by simp [List.lookup]
  obtain ⟨u, hu, ru⟩ := RelO.some_of (v := v) (o := mA fld) (by rw [← l]; exact hr fld)
  have J : PySem.W.InstAt s1.heap a oe C (some od) := ⟨ha, hz.1, by unfold PySem.W.notCls; rw [hd] <;> rfl, by rw [hz.2]; exact ho⟩
  exact HandSPX.exc_get I1.kIn J T.ga T.gg T.exC (PySem.W.findObj_own T.hdC T.noN rfl (by rw [hl, hu])) (handed_of ru) ⟨v, H1, I1.tok _, ru, q⟩
end
end L2
namespace L2
open PySem PySem.Spec PyProof.Rows
/-- a def that may raise, whatever is asked of its errors -/
theorem Fun.okN {P : Program} {w : World} {K : PySem.W.Frag} {mg : Str → Option Value} {base : Heap} {CX : CXT} {x qual : Str} {st : Stmt} {f : Addr} {fd : FuncData} {N ps : List Str} {k : Nat} {sp : Sp} (F : Fun K x qual st f fd) (S : FnScope N ps (defScope st))
    (len : ∀ (vs : List V) (H : Hp) (Q : VK) (E : XK), sp vs H Q E → vs.length = ps.length)
    (body : ∀ (cdv : Value) (A : Around) (outer : List Env) (s : Shared) (H : Hp) (vs : List V) (Q : VK) (E : XK), Room k (A.deeper (envOfC qual (defScope st) s.heap.objs.size f cdv)) → sp vs H Q E →
      ∃ t, PSs (cxOf CX P w K mg base N qual (defScope st) f cdv A outer s H E) (defBody st) t ∧ t { nx := fun x H' => Q V.non H', rt := Q } (start N vs) H) : FnOk P w K mg base CX (k + 1) f fd ps sp := by
  obtain ⟨oc, od, kV, doc, pm, an, cdv, ct, osl, rfl, lk, hcd⟩ := F.ex
  exact fn_of lk hcd S len (fun A outer s H vs Q E hr hsp => body cdv A outer s H vs Q E hr hsp)
end L2
end
section
set_option maxRecDepth 100000
set_option maxHeartbeats 4000000
namespace K1
open PySem L2 K01
/-! ### rings in messages -/
/-- names and numbers that are not too long -/
def SmallZ (z : Str) : Prop := z.length ≤ 8 ∧ ∀ c ∈ z.cps.toList, c < 16 ^ 8
def SmallF (F : List Fact) : Prop := ∀ f ∈ F, SmallZ f.1 ∧ SmallZ f.2.1 ∧ f.2.2.natAbs.log2 < 1920
def OkRing (P : Program) (u : Value) (h : Heap) : Prop := ∃ (a : Addr) (o : Obj) (items : Array Value) (n : Nat), u = .ref a ∧ h.get? a = some o ∧ o.cls = .type "tuple" ∧ o.data = .seq items n ∧ items.size ≤ 2100 ∧ ∀ w, PySem.K1Reps P w h 2200 items.toList
def OkRingV (K : PySem.W.Frag) (v : V) (H : Hp) : Prop := ∃ (a : Addr) (ps : List Addr) (RG : List Fact), v = .ref a ∧ SqT K H a (ps.map V.ref) ∧ TupsAt H ps (RG.map factV) ∧ ps.length ≤ 2100 ∧ SmallF RG
theorem reps_mono {P : Program} {w : World} {h h' : Heap} {b : Nat} (k : ∀ b o, h.get? b = some o → h'.get? b = some o) : ∀ {l : List Value}, PySem.K1Reps P w h b l → PySem.K1Reps P w h' b l
  | _, .nil => .nil
  | _, .cons r s => .cons (fun n hn A E s Q hu hk => r n hn A E s Q hu fun c o e => hk c o (k c o e)) (reps_mono k s)
theorem okRing_mono {P : Program} : ∀ u h h', (∀ b o, h.get? b = some o → h'.get? b = some o) → OkRing P u h → OkRing P u h' := by
  rintro u h h' k ⟨a, o, items, n, e, h1, h2, h3, h4, h5⟩
  exact ⟨a, o, items, n, e, k _ _ h1, h2, h3, h4, fun w => reps_mono k (h5 w)⟩
theorem okRing_of {X : Cx} : ∀ pins σ H s v u, L2.Inv X pins σ H s → L2.RelV v u → OkRingV X.K v H → OkRing X.prog u s.heap := by
  rintro pins σ H s v u I r ⟨a, ps, RG, rfl, h1, h2, h3, h4⟩
  obtain rfl : u = Value.ref a := r
  obtain ⟨its, rv, ⟨o, ho, hc, n, hd⟩, hz⟩ := I.tuple h1
  have hl : its.length = ps.length := by rw [← rv.length, List.length_map]
  refine ⟨a, o, its.toArray, n, rfl, ho, hc, hd, by simpa [hl] using h3, fun w => ?_⟩
  show PySem.K1Reps X.prog w s.heap 2200 its
  have key : ∀ (qs : List Addr) (RS : List Fact) (vs : List Value), Vals (qs.map V.ref) vs → TupsAt H qs (RS.map factV) → SmallF RS → PySem.K1Reps X.prog w s.heap 2200 vs := by
    intro qs
    induction qs with
    | nil => intro RS vs r _ _; cases r; exact .nil
    | cons q qs ih =>
      intro RS vs r hT hS
      cases RS with
      | nil => exact absurd hT.1 (by simp)
      | cons f RS =>
        cases r with
        | cons r1 r2 =>
          rename_i v1 vs
          obtain rfl : v1 = Value.ref q := r1
          have hq : H q = some (.tup (factV f)) := hT.2 0 q _ rfl rfl
          obtain ⟨its2, rv2, ⟨o2, ho2, hc2, n2, hd2⟩, _⟩ := I.tuple (show SqT X.K H q (factV f) from .inl (.inl hq))
          have sf := hS f List.mem_cons_self
          refine .cons ?_ (ih RS vs r2 ⟨by have := hT.1; simpa using this, fun i p xs e1 e2 => hT.2 (i + 1) p xs e1 e2⟩ (fun g hg => hS g (List.mem_cons_of_mem _ hg)))
          obtain ⟨x, y, c⟩ := f
          obtain ⟨⟨x1, x2⟩, ⟨y1, y2⟩, c1⟩ := sf
          cases rv2 with
          | cons q1 rv2 =>
            cases rv2 with
            | cons q2 rv2 =>
              cases rv2 with
              | cons q3 rv2 =>
                cases rv2
                obtain ⟨t1, rfl⟩ := q1
                obtain ⟨t2, rfl⟩ := q2
                obtain ⟨t3, rfl⟩ := q3
                replace x1 : x.length ≤ 8 := x1
                replace y1 : y.length ≤ 8 := y1
                replace c1 : c.natAbs.log2 < 1920 := c1
                have lx := PySem.StrLaws.reprText_len x x2
                have ly := PySem.StrLaws.reprText_len y y2
                have lc := PyProof.Rows.int_text_len_1921 c1
                have hs : (2000 : Nat) ≤ sizeLine := by rw [sizeLine_eq]; decide
                refine PySem.K1Rep.tuple (ts := [reprText x, reprText y, (toString c : Str)]) ho2 hc2 hd2 (.cons (ReprIs.str x _ (by omega)) (.cons (ReprIs.str y _ (by omega)) (.cons (ReprIs.int _ c1) .nil))) ?_
                have h1 := PySem.fmt_text [reprText x, reprText y, (Str.ofString (toString c) : Str)]
                have h2 : PySem.piled [reprText x, reprText y, (Str.ofString (toString c) : Str)] = (reprText x).length + 2 + ((reprText y).length + 2 + ((Str.ofString (toString c)).length + 2 + 0)) := by
                  rw [piled_cons, piled_cons, piled_cons]
                  rfl
                omega
  exact key ps RG its rv h2 h4
end K1
end
section
set_option maxRecDepth 100000
set_option maxHeartbeats 4000000
namespace K1
open PySem L2 K01
def isRing (F : List Fact) (RG : List Fact) : Prop := RG.length ≤ 2100 ∧ ∃ x c, isPath F x x c RG ∧ c < 0
theorem nodes_in {ms : List Str} {F : List Fact} (h : InN ms F) (hz : ∀ z ∈ nodes ms, SmallZ z) (hi : ∀ f ∈ F, f.2.2.natAbs.log2 < 1920) : SmallF F := fun f hf => ⟨hz _ (h f hf).1, hz _ (h f hf).2, hi f hf⟩
/-- the facts that a matrix is closed for -/
abbrev EG (ms : List Str) (F : List Fact) : List Edge := (F ++ zeros ms).map (eF ms)
theorem good_more {ms : List Str} {F : List Fact} {f : Fact} {B' : Mat} (G : Good (ms.length + 1) (EG ms F ++ [eF ms f]) B') : Good (ms.length + 1) (EG ms (F ++ [f])) B' :=
  G.perm fun e => by
    simp only [EG, List.map_append, List.mem_append, List.map_cons, List.map_nil]
    constructor
    · rintro ((h | h) | h)
      · exact .inl (.inl h)
      · exact .inr h
      · exact .inl (.inr h)
    · rintro ((h | h) | h)
      · exact .inl (.inl h)
      · exact .inr h
      · exact .inl (.inr h)
section
variable {P : Program} {w : World} {K : PySem.W.Frag} {mg : Str → Option Value} {base : Heap}
abbrev sBounds : Stmt := top 38
def spBounds (K : PySem.W.Frag) (C : Addr) : Sp := fun vs H Q E => ∃ (a b m mo : Addr) (ms : List Str) (ps qs : List Addr) (FS MS : List Fact) (B : Mat), vs = [.ref a, .ref b, .ref m, .ref mo] ∧ strsT K H a ms ∧ ms.length ≤ 900 ∧ (nodes ms).Nodup ∧ (∀ z ∈ nodes ms, SmallZ z) ∧
  SqT K H b (ps.map V.ref) ∧ TupsAt H ps (FS.map factV) ∧ ps.length ≤ 400 ∧ InN ms FS ∧ (∀ f ∈ FS, f.2.2.natAbs.log2 < 1920) ∧ SqT K H mo (qs.map V.ref) ∧ TupsAt H qs (MS.map factV) ∧ qs.length ≤ 400 ∧ InN ms MS ∧ (∀ f ∈ MS, f.1 ≠ f.2.1 ∧ f.2.2.natAbs.log2 < 1920) ∧
  MatAt K H m B ∧ Good (ms.length + 1) (EG ms FS) B ∧
  (∀ H' p B', Same H H' → MatAt K H' p B' → Good (ms.length + 1) (EG ms (FS ++ MS)) B' → Q (.ref p) H') ∧
  (∀ H' d rp RG, Same H H' → H d = none → H' d = some (.xd [("ring", .ref rp)]) → TTAt K H' rp (RG.map factV) → isRing (FS ++ MS ++ zeros ms) RG → E (.ref C) (some d) H')
theorem scBounds : FnScope ["marks", "facts", "bounds", "more", "spots", "closer", "at", "fact", "x", "y", "number", "one", "two", "back"] ["marks", "facts", "bounds", "more"] (defScope sBounds) := ⟨rfl, rfl, rfl, by decide +kernel, rfl, by decide +kernel, by decide +kernel⟩
theorem ok_bounds {f fS fN fA fT fC fB fK fG fL C fI : Addr} {fd fdS fdN fdA fdT fdC fdB fdK fdG fdL : FuncData} (F : Fun K "bounds_with" "bounds_with" sBounds f fd) (T : Bi mg) (Fs : Fun K "spots_of" "spots_of" sSpots fS fdS) (bS : Binds K fdS ["marks"] []) (mS : mg "spots_of" = some (.ref fS))
    (FN : Fun K "names_of" "names_of" sNames fN fdN) (bN : Binds K fdN ["marks"] []) (mN : mg "names_of" = some (.ref fN)) (FA : Fun K "all_facts" "all_facts" sAll fA fdA) (bA : Binds K fdA ["marks", "facts"] []) (mA : mg "all_facts" = some (.ref fA))
    (FT : Fun K "is_straight" "is_straight" sStraight fT fdT) (bT : Binds K fdT ["fact", "ahead"] []) (mT : mg "is_straight" = some (.ref fT)) (FC : Fun K "chain_of" "chain_of" sChain fC fdC) (bC : Binds K fdC ["marks", "facts", "bounds", "x", "y"] []) (mC : mg "chain_of" = some (.ref fC))
    (FB : Fun K "is_barred" "is_barred" sBarred fB fdB) (bB : Binds K fdB ["bounds", "x", "y", "number"] []) (mB : mg "is_barred" = some (.ref fB)) (FK : Fun K "is_kept" "is_kept" sKept fK fdK) (bK : Binds K fdK ["bounds", "x", "y", "number"] []) (mK : mg "is_kept" = some (.ref fK))
    (FG : Fun K "tightened" "tightened" sTight fG fdG) (bG : Binds K fdG ["bounds", "x", "y", "number"] []) (mG : mg "tightened" = some (.ref fG)) (FL : Fun K "lesser_row" "lesser_row" sLesser fL fdL) (bL : Binds K fdL ["row", "step", "onward"] []) (mL : mg "lesser_row" = some (.ref fL))
    (TX : PySem.K1X.XC P K mg "Contradiction" "ring" C fI (OkRing P)) :
    FnOk P w K mg base (L2N.CX P w) 4 f fd ["marks", "facts", "bounds", "more"] (spBounds K C) := by
  have GS : FnOk P w K mg base CX0 2 fS fdS ["marks"] (spSpots K) := ok_spots Fs T FN bN mN
  have GC : FnOk P w K mg base CX0 3 fC fdC ["marks", "facts", "bounds", "x", "y"] (spChain K) := ok_chain FC T Fs bS mS FN bN mN FA bA mA FT bT mT
  have GB : FnOk P w K mg base CX0 1 fB fdB ["bounds", "x", "y", "number"] (spBarred K) := ok_barred FB
  have GK : FnOk P w K mg base CX0 1 fK fdK ["bounds", "x", "y", "number"] (spKept K) := ok_kept FK
  have GG : FnOk P w K mg base CX0 2 fG fdG ["bounds", "x", "y", "number"] (spTight K) := ok_tight FG T FL bL mL
  refine F.okN scBounds (fun vs H Q E h => ?_) (fun cdv A outer s H vs Q E hr h => ?_)
  · obtain ⟨_, _, _, _, _, _, _, _, _, _, rfl, _⟩ := h
    rfl
  · obtain ⟨a, b, m, mo, ms, ps, qs, FS, MS, B, rfl, hm, hl, hN, hzs, hb, hbT, hbl, hbI, hbi, hq, hqT, hql, hqI, hqi, hM, G, kQ, kE⟩ := h
    have hu := hu_of hr
    have hr1 : Room 1 _ := hr.mono (by decide)
    have hr2 : Room 2 _ := hr.mono (by decide)
    refine ⟨_, pss_cons (ps_set (i := 4) scBounds.nd rfl (.inl rfl) (pe_call GS hr2 rfl mS Fs.kp bS .nil pass0 (pa_cons (pv 0) pa_nil)))
      (pss_cons (ps_set (i := 5) scBounds.nd rfl (.inl rfl) (pv 2))
      (pss_cons (ps_for (passes_of rfl) rfl (pi_enumT (by rfl) T.enumerate (pa_cons (pv 3) pa_nil)) (pg_tup rfl (pgs_cons (pg_name (i := 6) scBounds.nd rfl (.inl rfl)) (pgs_cons (pg_name (i := 7) scBounds.nd rfl (.inl rfl)) pgs_nil)))
        (pss_cons (ps_asg (pv 7) (pg_tup rfl (pgs_cons (pg_name (i := 8) scBounds.nd rfl (.inl rfl)) (pgs_cons (pg_name (i := 9) scBounds.nd rfl (.inl rfl)) (pgs_cons (pg_name (i := 10) scBounds.nd rfl (.inl rfl)) pgs_nil)))))
        (pss_cons (ps_par (i := 11) (j := 12) (by rfl) scBounds.nd rfl rfl (by decide) rfl rfl (pa_cons (pe_dget hu (pv 4) (pv 8) (fun _ _ => rfl)) (pa_cons (pe_dget hu (pv 4) (pv 9) (fun _ _ => rfl)) pa_nil)) (by rfl))
        (pss_cons (ps_if (pt_val (pe_call GB hr1 rfl mB FB.kp bB .nil pass0 (pa_cons (pv 5) (pa_cons (pv 11) (pa_cons (pv 12) (pa_cons (pv 10) pa_nil))))))
            (pss_cons (ps_set (i := 13) scBounds.nd rfl (.inl rfl) (pe_call GC hr rfl mC FC.kp bC .nil pass0 (pa_cons (pv 0) (pa_cons (pe_tup (StX.pa_star (pv 1) (StX.pa_star (pe_slice sl_tupA (pv 3) po_none (po_some (pv 6))) pa_nil))) (pa_cons (pv 5) (pa_cons (pv 9) (pa_cons (pv 8) pa_nil)))))))
            (pss_one (ps_raiseX (OkV := OkRingV K) rfl TX okRing_of hr (L2N.takes_of rfl rfl rfl rfl) (pa_cons (pe_tup (pa_cons (pv 7) (StX.pa_star (pv 13) pa_nil))) pa_nil) rfl))) pss_nil)
        (pss_one (ps_if (pt_not (pt_val (pe_call GK hr1 rfl mK FK.kp bK .nil pass0 (pa_cons (pv 5) (pa_cons (pv 11) (pa_cons (pv 12) (pa_cons (pv 10) pa_nil)))))))
            (pss_one (ps_set (i := 5) scBounds.nd rfl (.inl rfl) (pe_call GG hr2 rfl mG FG.kp bG .nil pass0 (pa_cons (pv 5) (pa_cons (pv 11) (pa_cons (pv 12) (pa_cons (pv 10) pa_nil))))))) pss_nil))))))
      (pss_one (ps_ret (pv 5))))), ?_⟩
    refine ⟨_, rfl, a, ms, rfl, hm, hl, hN, fun H1 sd s1 hsd => ⟨_, rfl, ?_⟩⟩
    refine ⟨_, rfl, mo, _, rfl, Same.tup s1 hq, for_it (walk_enumT (K := K) (a := mo)) (fun i σ H' => ∃ (cl : Addr) (B' : Mat) (v6 v7 v8 v9 v10 v11 v12 v13 : Option V), σ = [some (.ref a), some (.ref b), some (.ref m), some (.ref mo), some (.ref sd), some (.ref cl), v6, v7, v8, v9, v10, v11, v12, v13] ∧ Same H1 H' ∧ MatAt K H' cl B' ∧ Good (ms.length + 1) (EG ms (FS ++ MS.take i)) B')
      ⟨m, B, none, none, none, none, none, none, none, none, rfl, Same.refl H1, hM.same s1, by rw [List.take_zero, List.append_nil]; exact G⟩ (fun i σ H' _ ⟨_, _, _, _, _, _, _, _, _, _, _, q, _⟩ => Same.tup (s1.trans q) hq) ?_ ?_⟩
    · rintro i v σ H2 H3 hi ⟨cl, B', v6, v7, v8, v9, v10, v11, v12, v13, rfl, q1, q2, q3⟩ ⟨p, x', y', rfl, hp, rfl, hx', hy'⟩
      obtain ⟨pf, hpf, rfl⟩ := get_map hy'
      obtain ⟨xs, hxs, hpt⟩ := hqT.get hpf
      obtain ⟨f, hf, rfl⟩ := get_map hxs
      cases hx'
      have hfm := List.mem_of_getElem? hf
      have i1 := hqI f hfm
      have i2 := hqi f hfm
      have sP : Same H (upd H2 p (.tup [.int (i : Nat), .ref pf])) := (s1.trans q1).trans (Same.new hp)
      have s2 : Same H2 (upd H2 p (.tup [.int (i : Nat), .ref pf])) := Same.new hp
      generalize hH3 : upd H2 p (.tup [.int (i : Nat), .ref pf]) = H3 at sP s2
      have hpp : SqT K H3 p [.int (i : Nat), .ref pf] := by rw [← hH3]; exact tup_at
      have hpf3 : SqT K H3 pf (factV f) := .inl (.inl (sP _ _ hpt))
      have hiq : i < qs.length := (List.getElem?_eq_some_iff.mp hpf).1
      have hsd3 := hsd.same (q1.trans s2)
      have gx := hsd3.get (ix_get i1.1)
      have gy := hsd3.get (ix_get i1.2)
      have hx : ix ms f.1 < ms.length + 1 := ix_lt i1.1
      have hy : ix ms f.2.1 < ms.length + 1 := ix_lt i1.2
      have hM3 := q2.same s2
      have InF : InN ms (FS ++ MS.take i) := fun g hg => by
        rcases List.mem_append.mp hg with h | h
        · exact hbI g h
        · exact hqI g (List.mem_of_mem_take h)
      have InZ : InN ms (FS ++ MS.take i ++ zeros ms) := fun g hg => by
        rcases List.mem_append.mp hg with h | h
        · exact InF g h
        · exact zeros_in ms g h
      have htk : MS.take (i + 1) = MS.take i ++ [f] := take_snoc hf
      refine ⟨p, _, rfl, hpp, rfl, _, _, rfl, _, _, rfl, rfl, _, rfl, pf, _, rfl, hpf3, rfl, _, _, rfl, _, _, rfl, _, _, rfl, rfl, _, rfl, _, rfl, sd, _, rfl, gx, _, rfl, _, rfl, sd, _, rfl, gy, _, _, rfl, ?_⟩
      refine ⟨_, rfl, _, rfl, _, rfl, _, rfl, cl, B', ms.length + 1, ix ms f.1, ix ms f.2.1, f.2.2, rfl, hM3, q3.sized, hx, hy, _, rfl, ?_⟩
      cases eb : barred B' (ix ms f.1) (ix ms f.2.1) f.2.2 with
      | true =>
        refine iteT ?_
        obtain ⟨k0, hk0, hk1⟩ : ∃ k0, cell B' (ix ms f.2.1) (ix ms f.1) = some k0 ∧ k0 + f.2.2 < 0 := by
          unfold barred at eb
          cases q : cell B' (ix ms f.2.1) (ix ms f.1) with
          | none => rw [q] at eb; cases eb
          | some k0 => rw [q] at eb; exact ⟨k0, rfl, by simpa using eb⟩
        refine ⟨_, rfl, _, rfl, b, _, rfl, .inl (Same.tup sP hb), _, rfl, _, rfl, _, rfl, mo, _, rfl, Same.tup sP hq, fun w => ?_, fun w u hu' => ?_⟩
        · rw [HT.sIx_nat, HT.sIx_none, List.length_map] at w
          omega
        · have s3 : Same H3 (upd H3 u (.tup (cutV (qs.map V.ref) none (some (i : Int))))) := Same.new hu'
          have ec : cutV (qs.map V.ref) none (some (i : Int)) = (qs.take i).map V.ref := by rw [cut_take, List.map_take]
          rw [ec] at s3 ⊢
          refine ⟨u, _, rfl, .inl tup_at, ?_, fun tp htp => ?_⟩
          · rw [List.length_append, List.length_append, List.length_map, List.length_map, List.length_take]
            exact Nat.le_of_lt (small1000 (by simp; omega))
          · have s4 := s3.trans (Same.new (o := .tup (ps.map V.ref ++ ((qs.take i).map V.ref ++ []))) htp)
            have eT : ps.map V.ref ++ ((qs.take i).map V.ref ++ []) = (ps ++ qs.take i).map V.ref := by rw [List.append_nil, List.map_append]
            refine ⟨_, rfl, _, rfl, _, rfl, a, tp, cl, f.2.1, f.1, ms, ps ++ qs.take i, FS ++ MS.take i, B', k0, rfl, Same.tup (sP.trans s4) hm, hl, hN, by rw [← eT]; exact tup_at, ?_, ?_, InF, hM3.same s4, q3, i1.2, i1.1, hk0, fun H5 l qs5 CH s5 h5l h5n h5T h5P => ?_⟩
            · rw [List.map_append]
              exact (hbT.same (sP.trans s4)).app (by have h9 := (hqT.same (sP.trans s4)).take i; rw [← List.map_take] at h9; exact h9)
            · rw [List.length_append, List.length_take]; omega
            · refine ⟨_, rfl, _, rfl, l, _, rfl, .inr (SqL.of h5l), ?_, fun rp hrp => ?_⟩
              · rw [List.length_cons, List.length_append, List.length_map]
                exact Nat.le_of_lt (Nat.lt_of_le_of_lt (show _ ≤ 2002 by simp; omega) (by decide))
              · have s6 : Same H5 (upd H5 rp (.tup (.ref pf :: (qs5.map V.ref ++ [])))) := Same.new hrp
                have sA : Same H (upd H5 rp (.tup (.ref pf :: (qs5.map V.ref ++ [])))) := ((sP.trans s4).trans s5).trans s6
                have eR : (V.ref pf :: (qs5.map V.ref ++ [])) = (pf :: qs5).map V.ref := by rw [List.append_nil]; rfl
                have hrT : SqT K (upd H5 rp (.tup (.ref pf :: (qs5.map V.ref ++ [])))) rp ((pf :: qs5).map V.ref) := by rw [← eR]; exact tup_at
                have hTT : TupsAt (upd H5 rp (.tup (.ref pf :: (qs5.map V.ref ++ [])))) (pf :: qs5) ((f :: CH).map factV) := (TupsAt.one (sA _ _ hpt)).app (h5T.same s6)
                have hmem : ∀ g ∈ f :: CH, g ∈ FS ++ MS ++ zeros ms := fun g hg => by
                  rcases List.mem_cons.mp hg with rfl | hg
                  · exact List.mem_append_left _ (List.mem_append_right _ hfm)
                  · rcases List.mem_append.mp (h5P.mem g hg) with h | h
                    · rcases List.mem_append.mp h with h | h
                      · exact List.mem_append_left _ (List.mem_append_left _ h)
                      · exact List.mem_append_left _ (List.mem_append_right _ (List.mem_of_mem_take h))
                    · exact List.mem_append_right _ h
                have InA : InN ms (FS ++ MS ++ zeros ms) := fun g hg => by
                  rcases List.mem_append.mp hg with h | h
                  · rcases List.mem_append.mp h with h | h
                    · exact hbI g h
                    · exact hqI g h
                  · exact zeros_in ms g h
                have sml : SmallF (f :: CH) := fun g hg => by
                  have := hmem g hg
                  refine ⟨hzs _ (InA g this).1, hzs _ (InA g this).2, ?_⟩
                  rcases List.mem_append.mp this with h | h
                  · rcases List.mem_append.mp h with h | h
                    · exact hbi g h
                    · exact (hqi g h).2
                  · obtain ⟨z, _, rfl⟩ := List.mem_map.mp h
                    show (0 : Int).natAbs.log2 < 1920
                    decide
                refine ⟨.ref rp, rfl, ⟨rp, pf :: qs5, f :: CH, rfl, hrT, hTT, by rw [List.length_cons]; omega, sml⟩, fun d hd => ?_⟩
                refine kE _ d rp (f :: CH) (sA.trans (Same.new hd)) (Same.free sA hd) upd_same (TTAt.same (Same.new hd) ⟨pf :: qs5, hrT, hTT⟩) ⟨by have := hTT.1; rw [List.length_map] at this; rw [← this, List.length_cons]; omega, f.1, f.2.2 + k0, ⟨hmem f List.mem_cons_self, rfl, ?_⟩, by omega⟩
                have e : f.2.2 + k0 - f.2.2 = k0 := by omega
                rw [e]
                refine h5P.mono fun g hg => ?_
                rcases List.mem_append.mp hg with h | h
                · rcases List.mem_append.mp h with h | h
                  · exact List.mem_append_left _ (List.mem_append_left _ h)
                  · exact List.mem_append_left _ (List.mem_append_right _ (List.mem_of_mem_take h))
                · exact List.mem_append_right _ h
      | false =>
        refine iteF ?_
        have hb0 : ∀ k, Le B' (ix ms f.2.1) (ix ms f.1) k → 0 ≤ k + f.2.2 := by
          rintro k ⟨d, e1, e2⟩
          unfold barred at eb
          rw [e1] at eb
          have : ¬ d + f.2.2 < 0 := by simpa using eb
          omega
        refine ⟨_, rfl, _, rfl, _, rfl, _, rfl, cl, B', ms.length + 1, ix ms f.1, ix ms f.2.1, f.2.2, rfl, hM3, q3.sized, hx, hy, _, rfl, ?_⟩
        cases ek : kept B' (ix ms f.1) (ix ms f.2.1) f.2.2 with
        | true =>
          refine iteF ⟨cl, B', _, _, _, _, _, _, _, _, rfl, q1.trans s2, hM3, ?_⟩
          rw [htk, ← List.append_assoc]
          refine good_more (kept_good q3 ?_)
          unfold kept at ek
          cases q : cell B' (ix ms f.1) (ix ms f.2.1) with
          | none => rw [q] at ek; cases ek
          | some d => rw [q] at ek; exact ⟨d, q, by simpa using ek⟩
        | false =>
          refine iteT ⟨_, rfl, _, rfl, _, rfl, _, rfl, cl, B', ms.length + 1, ix ms f.1, ix ms f.2.1, f.2.2, rfl, hM3, q3.sized, hx, hy, by omega, fun H5 p5 s5 h5 => ?_⟩
          refine ⟨p5, _, _, _, _, _, _, _, _, _, rfl, (q1.trans s2).trans s5, h5, ?_⟩
          rw [htk, ← List.append_assoc]
          exact good_more (tight_good q3 InZ.inR hx hy hb0)
    · rintro σ H2 ⟨cl, B', v6, v7, v8, v9, v10, v11, v12, v13, rfl, q1, q2, q3⟩
      have e : MS.take ((qs.map V.ref).length) = MS := by
        have := hqT.1
        rw [List.length_map] at this
        rw [List.length_map, this, List.take_length]
      rw [e] at q3
      exact ⟨_, rfl, kQ H2 cl B' (s1.trans q1) q2 q3⟩
end
end K1
end
section
set_option maxRecDepth 100000
set_option maxHeartbeats 4000000
namespace K1
open PySem L2 K01
def OkInt (u : Value) (_ : Heap) : Prop := ∃ (i : Int) (t : Tok), u = .int i t ∧ i.natAbs.log2 < 1920
def OkIntV (v : V) (_ : Hp) : Prop := ∃ i : Int, v = .int i ∧ i.natAbs.log2 < 1920
theorem okInt_of {X : Cx} : ∀ pins σ H s v u, L2.Inv X pins σ H s → L2.RelV v u → OkIntV v H → OkInt u s.heap := by
  rintro pins σ H s v u I r ⟨i, rfl, h⟩
  obtain ⟨t, rfl⟩ := r
  exact ⟨i, t, rfl, h⟩
theorem small_log {n : Nat} (h : n ≤ 1000) : ((n : Nat) : Int).natAbs.log2 < 1920 := by
  rw [Int.natAbs_natCast]
  exact Nat.lt_of_le_of_lt (Nat.log2_le_self n) (by omega)
/-- the first fault: 0 a mark, 1 a take, 2 a fact -/
def fault (ms ts : List Str) (fs : List (List V)) : Option (Nat × Nat) := match first (badMark ms) ms.length with
  | some i => some (0, i)
  | none => match first (badTake ms ts) ts.length with
    | some i => some (1, i)
    | none => match first (badFact ms fs) fs.length with
      | some i => some (2, i)
      | none => none
def clsOf (CM CT CF : Addr) : Nat → Addr
  | 0 => CM
  | 1 => CT
  | _ => CF
section
variable {P : Program} {w : World} {K : PySem.W.Frag} {mg : Str → Option Value} {base : Heap}
abbrev sCheck : Stmt := top 34
def spCheck (K : PySem.W.Frag) (cls : Nat → Addr) : Sp := fun vs H Q E => ∃ (a b c : Addr) (ms ts : List Str) (fs : List (List V)), vs = [.ref a, .ref b, .ref c] ∧ strsT K H a ms ∧ Short ms ∧ strsT K H b ts ∧ ts.length ≤ 1000 ∧ TTAt K H c fs ∧ FlatF fs ∧ fs.length ≤ 1000 ∧
  (∀ k i H' d, fault ms ts fs = some (k, i) → Same H H' → H d = none → H' d = some (.xd [("index", .int (i : Nat))]) → E (.ref (cls k)) (some d) H') ∧ (fault ms ts fs = none → ∀ H', Same H H' → Q .non H')
theorem scCheck : FnScope ["marks", "takes", "facts", "at"] ["marks", "takes", "facts"] (defScope sCheck) := ⟨rfl, rfl, rfl, by decide +kernel, rfl, by decide +kernel, by decide +kernel⟩
theorem ok_check {f fM fT fF fN fA fS fW CM CT CF iM iT iF : Addr} {fd fdM fdT fdF fdN fdA fdS fdW : FuncData} (F : Fun K "check_parts" "check_parts" sCheck f fd) (T : Bi mg)
    (FM : Fun K "first_bad_mark" "first_bad_mark" sBadMark fM fdM) (bM : Binds K fdM ["marks"] []) (mM : mg "first_bad_mark" = some (.ref fM)) (FT : Fun K "first_bad_take" "first_bad_take" sBadTake fT fdT) (bT : Binds K fdT ["marks", "takes"] []) (mT : mg "first_bad_take" = some (.ref fT))
    (FF : Fun K "first_bad_fact" "first_bad_fact" sBadFact fF fdF) (bF : Binds K fdF ["marks", "facts"] []) (mF : mg "first_bad_fact" = some (.ref fF)) (FN : Fun K "is_name" "is_name" sName fN fdN) (bN : Binds K fdN ["x"] []) (mN : mg "is_name" = some (.ref fN))
    (FA : Fun K "is_fact" "is_fact" sFact fA fdA) (bA : Binds K fdA ["fact", "names"] []) (mA : mg "is_fact" = some (.ref fA)) (FS : Fun K "names_of" "names_of" sNames fS fdS) (bS : Binds K fdS ["marks"] []) (mS : mg "names_of" = some (.ref fS))
    (FW : Fun K "is_whole" "is_whole" sWhole fW fdW) (bW : Binds K fdW ["x"] []) (mW : mg "is_whole" = some (.ref fW))
    (XM : PySem.K1X.XC P K mg "BadMarks" "index" CM iM OkInt) (XT : PySem.K1X.XC P K mg "BadTakes" "index" CT iT OkInt) (XF : PySem.K1X.XC P K mg "BadFact" "index" CF iF OkInt) :
    FnOk P w K mg base (L2N.CX P w) 4 f fd ["marks", "takes", "facts"] (spCheck K (clsOf CM CT CF)) := by
  have GM : FnOk P w K mg base CX0 2 fM fdM ["marks"] (spBadMark K) := ok_badMark FM T FN bN mN
  have GT : FnOk P w K mg base CX0 1 fT fdT ["marks", "takes"] (spBadTake K) := ok_badTake FT T
  have GF : FnOk P w K mg base CX0 3 fF fdF ["marks", "facts"] (spBadFact K) := ok_badFact FF T FS bS mS FA bA mA FW bW mW
  refine F.okN scCheck (fun vs H Q E h => ?_) (fun cdv A outer s H vs Q E hr h => ?_)
  · obtain ⟨_, _, _, _, _, _, rfl, _⟩ := h
    rfl
  · obtain ⟨a, b, c, ms, ts, fs, rfl, hm, hs, ht, htl, hf, hff, hfl, kE, kQ⟩ := h
    have hr1 : Room 1 _ := hr.mono (by decide)
    have hr2 : Room 2 _ := hr.mono (by decide)
    refine ⟨_, pss_cons (ps_set (i := 3) scCheck.nd rfl (.inl rfl) (pe_call GM hr2 rfl mM FM.kp bM .nil pass0 (pa_cons (pv 0) pa_nil)))
      (pss_cons (ps_if (pt_cmpR op_notN (pv 3) pe_non (nomark _)) (pss_one (ps_raiseX (OkV := OkIntV) rfl XM okInt_of hr (L2N.takes_of rfl rfl rfl rfl) (pa_cons (pv 3) pa_nil) rfl)) pss_nil)
      (pss_cons (ps_set (i := 3) scCheck.nd rfl (.inl rfl) (pe_call GT hr1 rfl mT FT.kp bT .nil pass0 (pa_cons (pv 0) (pa_cons (pv 1) pa_nil))))
      (pss_cons (ps_if (pt_cmpR op_notN (pv 3) pe_non (nomark _)) (pss_one (ps_raiseX (OkV := OkIntV) rfl XT okInt_of hr (L2N.takes_of rfl rfl rfl rfl) (pa_cons (pv 3) pa_nil) rfl)) pss_nil)
      (pss_cons (ps_set (i := 3) scCheck.nd rfl (.inl rfl) (pe_call GF hr rfl mF FF.kp bF .nil pass0 (pa_cons (pv 0) (pa_cons (pv 2) pa_nil))))
      (pss_one (ps_if (pt_cmpR op_notN (pv 3) pe_non (nomark _)) (pss_one (ps_raiseX (OkV := OkIntV) rfl XF okInt_of hr (L2N.takes_of rfl rfl rfl rfl) (pa_cons (pv 3) pa_nil) rfl)) pss_nil)))))), ?_⟩
    refine ⟨_, rfl, a, ms, rfl, hm, hs, fun H1 s1 => ?_⟩
    unfold fault at kE kQ
    refine ⟨_, rfl, rfl, _, rfl, ?_⟩
    cases e1 : first (badMark ms) ms.length with
    | some i =>
      rw [e1] at kE
      have hi := (first_inv.2 i e1).1
      refine iteNF (fun q => nomatch q) ⟨_, rfl, _, rfl, ⟨i, rfl, small_log (by have := hs.1; omega)⟩, fun d hd => kE 0 i _ d rfl (s1.trans (Same.new hd)) (Same.free s1 hd) upd_same⟩
    | none =>
      rw [e1] at kE kQ
      refine iteNS rfl ?_
      refine ⟨_, rfl, _, rfl, a, b, ms, ts, rfl, Same.tup s1 hm, Same.tup s1 ht, fun H2 s2 => ?_⟩
      refine ⟨_, rfl, rfl, _, rfl, ?_⟩
      cases e2 : first (badTake ms ts) ts.length with
      | some i =>
        rw [e2] at kE
        have hi := (first_inv.2 i e2).1
        refine iteNF (fun q => nomatch q) ⟨_, rfl, _, rfl, ⟨i, rfl, small_log (by omega)⟩, fun d hd => kE 1 i _ d rfl ((s1.trans s2).trans (Same.new hd)) (Same.free (s1.trans s2) hd) upd_same⟩
      | none =>
        rw [e2] at kE kQ
        refine iteNS rfl ?_
        refine ⟨_, rfl, _, rfl, a, c, ms, fs, rfl, Same.tup (s1.trans s2) hm, hs.1, hf.same (s1.trans s2), hff, fun H3 s3 => ?_⟩
        refine ⟨_, rfl, rfl, _, rfl, ?_⟩
        have sA := (s1.trans s2).trans s3
        cases e3 : first (badFact ms fs) fs.length with
        | some i =>
          rw [e3] at kE
          have hi := (first_inv.2 i e3).1
          refine iteNF (fun q => nomatch q) ⟨_, rfl, _, rfl, ⟨i, rfl, small_log (by omega)⟩, fun d hd => kE 2 i _ d rfl (sA.trans (Same.new hd)) (Same.free sA hd) upd_same⟩
        | none =>
          rw [e3] at kQ
          exact iteNS rfl (kQ rfl H3 sA)
end
end K1
end
section
set_option maxRecDepth 100000
set_option maxHeartbeats 4000000
namespace K1
open PySem L2 K01
theorem putF_new {f : Str} {v : V} : ∀ {fs : List (Str × V)}, (∀ p ∈ fs, p.1 ≠ f) → putF f v fs = fs ++ [(f, v)]
  | [], _ => rfl
  | (g, u) :: fs, h => by
    have h1 : ¬ g = f := h (g, u) List.mem_cons_self
    have ih := putF_new (f := f) (v := v) (fs := fs) fun p hp => h p (List.mem_cons_of_mem _ hp)
    show (if g = f then (g, v) :: fs else (g, u) :: putF f v fs) = _
    rw [if_neg h1, ih]
    rfl
theorem mark_bad {ms : List Str} (h : first (badMark ms) ms.length = none) {i : Nat} {z : Str} (hz : ms[i]? = some z) : nameOk z = true ∧ z ≠ "zero" ∧ z ∉ ms.take i := by
  have hi : i < ms.length := (List.getElem?_eq_some_iff.mp hz).1
  have hb := first_inv.1 h i hi
  have hm : markAt ms i = z := by unfold markAt; rw [hz]; rfl
  unfold badMark at hb
  rw [hm] at hb
  simp only [Bool.or_eq_false_iff, Bool.not_eq_false', decide_eq_false_iff_not] at hb
  exact ⟨hb.1, hb.2.1, hb.2.2⟩
theorem small_of {z : Str} (h : nameOk z = true) : SmallZ z := by
  unfold nameOk at h
  simp only [Bool.and_eq_true, decide_eq_true_eq] at h
  refine ⟨by omega, fun c hc => ?_⟩
  have h2 := h.2.1
  unfold Txt.isascii at h2
  rw [Array.all_eq_true'] at h2
  have := h2 c (by simpa using hc)
  have h3 : c < 128 := by simpa using this
  exact Nat.lt_trans h3 (by decide)
theorem marks_ok {ms : List Str} (h : first (badMark ms) ms.length = none) : (nodes ms).Nodup ∧ ∀ z ∈ nodes ms, SmallZ z := by
  refine ⟨?_, fun z hz => ?_⟩
  · rw [List.nodup_cons]
    refine ⟨fun hz => ?_, ?_⟩
    · obtain ⟨i, hi⟩ := List.getElem?_of_mem hz
      exact (mark_bad h hi).2.1 rfl
    · refine List.pairwise_iff_getElem.mpr fun i j hi hj hij e => ?_
      have hz : ms[j]? = some ms[j] := List.getElem?_eq_getElem hj
      refine (mark_bad h hz).2.2 ?_
      exact List.mem_of_getElem? (i := i) (by rw [List.getElem?_take, if_pos hij, List.getElem?_eq_getElem hi, e])
  · rcases List.mem_cons.mp hz with rfl | hz
    · exact ⟨by decide, by decide⟩
    · obtain ⟨i, hi⟩ := List.getElem?_of_mem hz
      exact small_of (mark_bad h hi).1
theorem fact_ok {ms : List Str} {xs : List V} (hf : ∀ x ∈ xs, Flat x) (h : factOk (nodes ms) xs = true) : ∃ f : Fact, xs = factV f ∧ f.1 ∈ nodes ms ∧ f.2.1 ∈ nodes ms ∧ f.1 ≠ f.2.1 := by
  unfold factOk at h
  split at h
  · rename_i x y c
    simp only [Bool.and_eq_true, Bool.not_eq_true', decide_eq_false_iff_not] at h
    obtain ⟨h1, h2, h3, h4⟩ := h
    have fx : Flat x := hf x (by simp)
    have fy : Flat y := hf y (by simp)
    have sx : ∃ z, x = .str z := by
      by_cases q : ∃ z, x = .str z
      · exact q
      · rw [inV_other fx (fun z e => q ⟨z, e⟩)] at h1; cases h1
    have sy : ∃ z, y = .str z := by
      by_cases q : ∃ z, y = .str z
      · exact q
      · rw [inV_other fy (fun z e => q ⟨z, e⟩)] at h2; cases h2
    obtain ⟨x, rfl⟩ := sx
    obtain ⟨y, rfl⟩ := sy
    obtain ⟨i, rfl⟩ : ∃ i, c = .int i := by
      unfold isWhole at h4
      split at h4
      · exact ⟨_, rfl⟩
      · cases h4
    rw [inV_str] at h1 h2
    exact ⟨(x, y, i), rfl, by simpa using h1, by simpa using h2, fun e => h3 (by rw [show x = y from e])⟩
  · cases h
theorem facts_ok {ms : List Str} : ∀ {fs : List (List V)}, FlatF fs → (∀ xs ∈ fs, factOk (nodes ms) xs = true) → ∃ MS : List Fact, fs = MS.map factV ∧ InN ms MS ∧ ∀ f ∈ MS, f.1 ≠ f.2.1
  | [], _, _ => ⟨[], rfl, fun f hf => (nomatch hf), fun f hf => (nomatch hf)⟩
  | xs :: fs, hf, h => by
    obtain ⟨f, e, h1, h2, h3⟩ := fact_ok (hf xs List.mem_cons_self) (h xs List.mem_cons_self)
    obtain ⟨MS, e2, h4, h5⟩ := facts_ok (ms := ms) (fs := fs) (fun ys hy => hf ys (List.mem_cons_of_mem _ hy)) fun ys hy => h ys (List.mem_cons_of_mem _ hy)
    refine ⟨f :: MS, by rw [e, e2]; rfl, fun g hg => ?_, fun g hg => ?_⟩
    · rcases List.mem_cons.mp hg with rfl | hg
      · exact ⟨h1, h2⟩
      · exact h4 g hg
    · rcases List.mem_cons.mp hg with rfl | hg
      · exact h3
      · exact h5 g hg
theorem facts_all {ms : List Str} {fs : List (List V)} (h : first (badFact ms fs) fs.length = none) : ∀ xs ∈ fs, factOk (nodes ms) xs = true := by
  intro xs hxs
  obtain ⟨i, hi⟩ := List.getElem?_of_mem hxs
  have hlt : i < fs.length := (List.getElem?_eq_some_iff.mp hi).1
  have := first_inv.1 h i hlt
  unfold badFact at this
  rw [hi] at this
  simpa using this
theorem fault_none {ms ts : List Str} {fs : List (List V)} (h : fault ms ts fs = none) : first (badMark ms) ms.length = none ∧ first (badTake ms ts) ts.length = none ∧ first (badFact ms fs) fs.length = none := by
  unfold fault at h
  cases e1 : first (badMark ms) ms.length with
  | some i => rw [e1] at h; cases h
  | none =>
    rw [e1] at h
    cases e2 : first (badTake ms ts) ts.length with
    | some i => rw [e2] at h; cases h
    | none =>
      rw [e2] at h
      cases e3 : first (badFact ms fs) fs.length with
      | some i => rw [e3] at h; cases h
      | none => exact ⟨rfl, rfl, rfl⟩
end K1
end
section
set_option maxRecDepth 100000
set_option maxHeartbeats 4000000
namespace K1
open PySem L2 K01
theorem But.refl {l : Addr} {H : Hp} : But l H H := fun _ _ _ e => e
theorem But.trans {l : Addr} {H1 H2 H3 : Hp} (h : But l H1 H2) (g : But l H2 H3) : But l H1 H3 := fun b o n e => g b o n (h b o n e)
theorem Same.but {l : Addr} {H1 H2 : Hp} (h : Same H1 H2) : But l H1 H2 := fun b o _ e => h b o e
theorem But.tup {K : PySem.W.Frag} {l C dx a : Addr} {fs : List (Str × V)} {H H' : Hp} {xs : List V} (hl : H l = some (.ins C dx fs)) (e : But l H H') (h : SqT K H a xs) : SqT K H' a xs := by
  rcases h with (q | ⟨o, q⟩) | q
  · exact .inl (.inl (e _ _ (fun z => by rw [z, hl] at q; cases q) q))
  · exact .inl (.inr ⟨o, e _ _ (fun z => by rw [z, hl] at q; cases q) q⟩)
  · exact .inr q
theorem But.tups {l C dx : Addr} {fs : List (Str × V)} {H H' : Hp} {ps : List Addr} {xss : List (List V)} (hl : H l = some (.ins C dx fs)) (e : But l H H') (h : TupsAt H ps xss) : TupsAt H' ps xss :=
  ⟨h.1, fun i p r q1 q2 => by
    have := h.2 i p r q1 q2
    exact e _ _ (fun z => by rw [z, hl] at this; cases this) this⟩
theorem But.tt {K : PySem.W.Frag} {l C dx a : Addr} {fs : List (Str × V)} {H H' : Hp} {xss : List (List V)} (hl : H l = some (.ins C dx fs)) (e : But l H H') (h : TTAt K H a xss) : TTAt K H' a xss := by
  obtain ⟨ps, h1, h2⟩ := h
  exact ⟨ps, But.tup hl e h1, But.tups hl e h2⟩
theorem nm_tm : ("marks" : Str) ≠ "takes" := by decide +kernel
theorem nm_fm : ("marks" : Str) ≠ "facts" := by decide +kernel
theorem nm_lm : ("marks" : Str) ≠ "_limits" := by decide +kernel
theorem nm_bm : ("marks" : Str) ≠ "bounds" := by decide +kernel
theorem nm_ft : ("takes" : Str) ≠ "facts" := by decide +kernel
theorem nm_lt : ("takes" : Str) ≠ "_limits" := by decide +kernel
theorem nm_bt : ("takes" : Str) ≠ "bounds" := by decide +kernel
theorem nm_lf : ("facts" : Str) ≠ "_limits" := by decide +kernel
theorem nm_bf : ("facts" : Str) ≠ "bounds" := by decide +kernel
theorem nm_bl : ("_limits" : Str) ≠ "bounds" := by decide +kernel
abbrev f1 (a : Addr) : List (Str × V) := [("marks", .ref a)]
abbrev f2 (a b : Addr) : List (Str × V) := [("marks", .ref a), ("takes", .ref b)]
abbrev f3 (a b c : Addr) : List (Str × V) := [("marks", .ref a), ("takes", .ref b), ("facts", .ref c)]
abbrev f4 (a b c : Addr) : List (Str × V) := [("marks", .ref a), ("takes", .ref b), ("facts", .ref c), ("_limits", .non)]
abbrev f5 (a b c p : Addr) : List (Str × V) := [("marks", .ref a), ("takes", .ref b), ("facts", .ref c), ("_limits", .non), ("bounds", .ref p)]
theorem put2 (a b : Addr) : putF "takes" (.ref b) (f1 a) = f2 a b := putF_new (by simp [nm_tm])
theorem put3 (a b c : Addr) : putF "facts" (.ref c) (f2 a b) = f3 a b c := putF_new (by simp [nm_fm, nm_ft])
theorem put4 (a b c : Addr) : putF "_limits" .non (f3 a b c) = f4 a b c := putF_new (by simp [nm_lm, nm_lt, nm_lf])
theorem put5 (a b c p : Addr) : putF "bounds" (.ref p) (f4 a b c) = f5 a b c p := putF_new (by simp [nm_bm, nm_bt, nm_bf, nm_bl])
theorem look_m {u : V} {r : List (Str × V)} : List.lookup ("marks" : Str) (("marks", u) :: r) = some u := by simp [List.lookup]
theorem look_t {u v : V} {r : List (Str × V)} : List.lookup ("takes" : Str) (("marks", u) :: ("takes", v) :: r) = some v := by
  have : (("takes" : Str) == "marks") = false := by decide +kernel
  simp [List.lookup, this]
theorem look_f {u v x : V} {r : List (Str × V)} : List.lookup ("facts" : Str) (("marks", u) :: ("takes", v) :: ("facts", x) :: r) = some x := by
  have h1 : (("facts" : Str) == "marks") = false := by decide +kernel
  have h2 : (("facts" : Str) == "takes") = false := by decide +kernel
  simp [List.lookup, h1, h2]
structure ShT (K : PySem.W.Frag) (C : Addr) : Prop where
  cl : Cls K C
  nm : NoAttr K C "marks"
  nt : NoAttr K C "takes"
  nf : NoAttr K C "facts"
  nl : NoAttr K C "_limits"
  nb : NoAttr K C "bounds"
section
variable {P : Program} {w : World} {K : PySem.W.Frag} {mg : Str → Option Value} {base : Heap}
abbrev sSheet : Stmt := inClass (top 45) 0
def SmallI (fs : List (List V)) : Prop := ∀ xs ∈ fs, ∀ i : Int, V.int i ∈ xs → i.natAbs.log2 < 1920
def spSheet (K : PySem.W.Frag) (C CC : Addr) (cls : Nat → Addr) : Sp := fun vs H Q E => ∃ (self dx a b c : Addr) (ms ts : List Str) (fs : List (List V)), vs = [.ref self, .ref a, .ref b, .ref c] ∧ H self = some (.ins C dx []) ∧ strsT K H a ms ∧ Short ms ∧ ms.length ≤ 100 ∧ strsT K H b ts ∧ ts.length ≤ 400 ∧ TTAt K H c fs ∧ FlatF fs ∧ fs.length ≤ 400 ∧ SmallI fs ∧
  (∀ k i H' d, fault ms ts fs = some (k, i) → But self H H' → H d = none → H' d = some (.xd [("index", .int (i : Nat))]) → E (.ref (cls k)) (some d) H') ∧
  (fault ms ts fs = none → ∀ MS : List Fact, fs = MS.map factV → InN ms MS → ∀ H' d rp RG, But self H H' → H d = none → H' d = some (.xd [("ring", .ref rp)]) → TTAt K H' rp (RG.map factV) → isRing (MS ++ zeros ms) RG → E (.ref CC) (some d) H') ∧
  (fault ms ts fs = none → ∀ MS : List Fact, fs = MS.map factV → InN ms MS → (nodes ms).Nodup → ∀ B, Good (ms.length + 1) (EG ms MS) B → ∀ H' p, But self H H' → MatAt K H' p B → H' self = some (.ins C dx (f5 a b c p)) → Q .non H')
theorem scSheet : FnScope ["self", "marks", "takes", "facts"] ["self", "marks", "takes", "facts"] (defScope sSheet) := ⟨rfl, rfl, rfl, by decide +kernel, rfl, by decide +kernel, by decide +kernel⟩
theorem ok_sheet {f fC fB fF C CC D0 : Addr} {fd fdC fdB fdF : FuncData} {cls : Nat → Addr} (F : FunD K "__init__" "Sheet.__init__" (defArgs sSheet) (defBody sSheet) (defScope sSheet) [.ref D0] [] f fd) (T : Bi mg) (S : ShT K C)
    (FC : Fun K "check_parts" "check_parts" sCheck fC fdC) (bC : Binds K fdC ["marks", "takes", "facts"] []) (mC : mg "check_parts" = some (.ref fC)) (GC : FnOk P w K mg base (L2N.CX P w) 4 fC fdC ["marks", "takes", "facts"] (spCheck K cls))
    (FB : Fun K "bounds_with" "bounds_with" sBounds fB fdB) (bB : Binds K fdB ["marks", "facts", "bounds", "more"] []) (mB : mg "bounds_with" = some (.ref fB)) (GB : FnOk P w K mg base (L2N.CX P w) 4 fB fdB ["marks", "facts", "bounds", "more"] (spBounds K CC))
    (FF : Fun K "free_bounds" "free_bounds" sFree fF fdF) (bF : Binds K fdF ["many"] []) (mF : mg "free_bounds" = some (.ref fF)) :
    FnOk P w K mg base (L2N.CX P w) 5 f fd ["self", "marks", "takes", "facts"] (spSheet K C CC cls) := by
  have GF : FnOk P w K mg base CX0 1 fF fdF ["many"] (spFree K) := ok_free FF T
  refine F.ok scSheet (fun vs H Q E h => ?_) (fun cdv A outer s H vs Q E hr h => ?_)
  · obtain ⟨_, _, _, _, _, _, _, _, rfl, _⟩ := h
    rfl
  · obtain ⟨self, dx, a, b, c, ms, ts, fs, rfl, hself, hm, hs, hml, ht, htl, hf, hff, hfl, hfi, kE, kR, kQ⟩ := h
    have hr1 : Room 1 _ := hr.mono (by decide)
    refine ⟨_, pss_cons (ps_fld (pv 0) (pe_callTy call_tuple_of (by rfl) T.tuple (by decide +kernel) (pa_cons (pv 1) pa_nil)) rfl)
      (pss_cons (ps_fld (pv 0) (pe_callTy call_tuple_of (by rfl) T.tuple (by decide +kernel) (pa_cons (pv 2) pa_nil)) rfl)
      (pss_cons (ps_fld (pv 0) (pe_callTy call_tuple_of (by rfl) T.tuple (by decide +kernel) (pa_cons (pv 3) pa_nil)) rfl)
      (pss_cons (ps_fld (pv 0) pe_non rfl)
      (pss_cons (ps_expr (pe_call GC hr rfl mC FC.kp bC .nil (L2N.passes_call (L2N.takes_of rfl rfl rfl rfl) fun _ _ _ _ h => h) (pa_cons (pe_fld (pv 0) rfl) (pa_cons (pe_fld (pv 0) rfl) (pa_cons (pe_fld (pv 0) rfl) pa_nil)))))
      (pss_one (ps_fld (pv 0) (pe_call GB hr rfl mB FB.kp bB .nil (L2N.passes_call (L2N.takes_of rfl rfl rfl rfl) fun _ _ _ _ h => h) (pa_cons (pe_fld (pv 0) rfl) (pa_cons (pe_tup pa_nil)
        (pa_cons (pe_call GF hr1 rfl mF FF.kp bF .nil pass0 (pa_cons (pe_callB call_len_seq (by rfl) T.len PySem.boot_len (pa_cons (pe_fld (pv 0) rfl) pa_nil)) pa_nil)) (pa_cons (pe_fld (pv 0) rfl) pa_nil))))) rfl)))))), ?_⟩
    obtain ⟨qs0, hq0, hT0⟩ := id hf
    refine ⟨_, rfl, a, _, rfl, .inr ⟨hm, _, rfl, self, C, dx, [], rfl, hself, S.cl, S.nm, by decide, ?_⟩⟩
    have B1 : But self H (upd H self (.ins C dx (f1 a))) := But.set
    have g1 : upd H self (.ins C dx (f1 a)) self = some (.ins C dx (f1 a)) := upd_same
    show tSeq _ _ _ _ (upd H self (.ins C dx (f1 a)))
    generalize upd H self (.ins C dx (f1 a)) = H1 at B1 g1
    refine ⟨_, rfl, b, _, rfl, .inr ⟨But.tup hself B1 ht, _, rfl, self, C, dx, _, rfl, g1, S.cl, S.nt, by show 1 < 1000; decide, ?_⟩⟩
    rw [put2]
    have B2 : But self H (upd H1 self (.ins C dx (f2 a b))) := B1.trans But.set
    have g2 : upd H1 self (.ins C dx (f2 a b)) self = some (.ins C dx (f2 a b)) := upd_same
    generalize upd H1 self (.ins C dx (f2 a b)) = H2 at B2 g2
    refine ⟨_, rfl, c, _, rfl, .inr ⟨But.tup hself B2 hq0, _, rfl, self, C, dx, _, rfl, g2, S.cl, S.nf, by show 2 < 1000; decide, ?_⟩⟩
    rw [put3]
    have B3 : But self H (upd H2 self (.ins C dx (f3 a b c))) := B2.trans But.set
    have g3 : upd H2 self (.ins C dx (f3 a b c)) self = some (.ins C dx (f3 a b c)) := upd_same
    generalize upd H2 self (.ins C dx (f3 a b c)) = H3 at B3 g3
    refine ⟨_, rfl, self, C, dx, _, rfl, g3, S.cl, S.nl, by show 3 < 1000; decide, ?_⟩
    rw [put4]
    have B4 : But self H (upd H3 self (.ins C dx (f4 a b c))) := B3.trans But.set
    have g4 : upd H3 self (.ins C dx (f4 a b c)) self = some (.ins C dx (f4 a b c)) := upd_same
    generalize upd H3 self (.ins C dx (f4 a b c)) = H4 at B4 g4
    have hm4 : strsT K H4 a ms := But.tup hself B4 hm
    have ht4 : strsT K H4 b ts := But.tup hself B4 ht
    have hf4 : TTAt K H4 c fs := But.tt hself B4 hf
    refine ⟨_, rfl, self, C, dx, _, _, rfl, g4, S.cl, S.nm, look_m, _, rfl, self, C, dx, _, _, rfl, g4, S.cl, S.nt, look_t, _, rfl, self, C, dx, _, _, rfl, g4, S.cl, S.nf, look_f, ?_⟩
    refine ⟨a, b, c, ms, ts, fs, rfl, hm4, hs, ht4, by omega, hf4, hff, by omega, fun k i H' d hk sH hd hx => ?_, fun hno H5 s5 => ?_⟩
    · refine kE k i H' d hk (B4.trans (Same.but sH)) ?_ hx
      cases q : H d with
      | none => rfl
      | some o =>
        by_cases e : d = self
        · rw [e, g4] at hd; cases hd
        · rw [B4 d o e q] at hd; cases hd
    · obtain ⟨n1, n2, n3⟩ := fault_none hno
      obtain ⟨hN, hZ⟩ := marks_ok n1
      obtain ⟨MS, eMS, hIn, hne⟩ := facts_ok (ms := ms) hff (facts_all n3)
      have g5 := s5 _ _ g4
      have B5 : But self H H5 := B4.trans (Same.but s5)
      have hm5 := Same.tup s5 hm4
      refine ⟨_, rfl, self, C, dx, _, _, rfl, g5, S.cl, S.nm, look_m, Nat.zero_le _, fun p0 hp0 => ?_⟩
      have s6 : Same H5 (upd H5 p0 (.tup [])) := Same.new hp0
      have g6 := s6 _ _ g5
      refine ⟨_, rfl, self, C, dx, _, _, rfl, g6, S.cl, S.nm, look_m, a, _, rfl, .inr (Same.tup s6 hm5), ?_⟩
      rw [List.length_map]
      refine ⟨ms.length, rfl, by omega, fun H7 p7 s7 h7 => ?_⟩
      have g7 := s7 _ _ g6
      have s57 := s6.trans s7
      refine ⟨_, rfl, self, C, dx, _, _, rfl, g7, S.cl, S.nf, look_f, ?_⟩
      obtain ⟨qs, hq1, hq2⟩ := (hf4.same s5).same s57
      have hi : ∀ f ∈ MS, f.1 ≠ f.2.1 ∧ f.2.2.natAbs.log2 < 1920 := fun f hf' => ⟨hne f hf', hfi (factV f) (by rw [eMS]; exact List.mem_map_of_mem hf') f.2.2 (by simp [factV])⟩
      refine ⟨a, p0, p7, c, ms, [], qs, [], MS, freeM ms.length, rfl, Same.tup s57 hm5, by omega, hN, hZ, Same.tup s7 tup_at, .nil, Nat.zero_le _, fun f hf' => (nomatch hf'), fun f hf' => (nomatch hf'), hq1, by rw [← eMS]; exact hq2, by rw [hq2.1]; omega, hIn, hi, h7, ?_, fun H8 p8 B8 s8 h8 G8 => ?_, fun H8 d rp RG s8 hd hx hR hring => ?_⟩
      · rw [EG, List.nil_append, zeros_edges hN]
        exact free_good ms.length
      · have g8 := s8 _ _ g7
        refine ⟨_, rfl, self, C, dx, _, rfl, g8, S.cl, S.nb, by show 4 < 1000; decide, ?_⟩
        rw [put5]
        refine kQ hno MS eMS hIn hN B8 (by rw [List.nil_append] at G8; exact G8) _ p8 ((B5.trans (Same.but (s57.trans s8))).trans But.set) ?_ upd_same
        obtain ⟨as, q1, q2, q3⟩ := h8
        exact ⟨as, q1, But.tup g8 But.set q2, fun i p r e1 e2 => But.tup g8 But.set (q3 i p r e1 e2)⟩
      · refine kR hno MS eMS hIn H8 d rp RG (B5.trans (Same.but (s57.trans s8))) ?_ hx hR (by rw [List.nil_append] at hring; exact hring)
        cases q : H d with
        | none => rfl
        | some o =>
          by_cases e : d = self
          · rw [e, g7] at hd; cases hd
          · rw [(B5.trans (Same.but s57)) d o e q] at hd; cases hd
end
end K1
end
section
set_option maxRecDepth 100000
set_option maxHeartbeats 4000000
namespace K1
open PySem L2 K01
def CPowW (i j : Int) : Prop := 0 ≤ j ∧ (Builtin.Int.intBits i : Int) * j ≤ 2 ^ 27
theorem op_powW {X : Cx} : OpR X (binaryOp .Pow) (rI CPowW fun i j => .int (i ^ j.toNat)) := opI fun _ _ _ _ _ _ _ hc q => PyProof.Rows.pow_int hc.1 hc.2 q
theorem pow_ok {i : Int} {n : Nat} (hi : i.natAbs < 2 ^ 200) (hn : n ≤ 100) : CPowW i (n : Int) := by
  refine ⟨by omega, ?_⟩
  have b : Builtin.Int.intBits i ≤ 1000 := by
    unfold Builtin.Int.intBits
    split
    · omega
    · rename_i h
      have := PySem.Flt.log2_lt_of (by decide : 0 < 200) hi
      omega
  have : (Builtin.Int.intBits i : Int) * (n : Int) ≤ 1000 * 100 := by
    have h1 : Builtin.Int.intBits i * n ≤ 1000 * 100 := Nat.mul_le_mul b hn
    exact_mod_cast h1
  omega
/-- the pit: a list of three numbers; z: no more than so many turns so far -/
def PitAt (H : Hp) (p : Addr) (z : Int) : Prop := ∃ x y c : Int, H p = some (.lst [.int x, .int y, .int c]) ∧ 0 ≤ x ∧ 0 ≤ y ∧ y < 10 ^ 40 ∧ 0 ≤ c ∧ c ≤ z
theorem PitAt.mono {H : Hp} {p : Addr} {z z' : Int} (h : PitAt H p z) (e : z ≤ z') : PitAt H p z' := by
  obtain ⟨x, y, c, h1, h2, h3, h4, h5, h6⟩ := h
  exact ⟨x, y, c, h1, h2, h3, h4, h5, by omega⟩
theorem PitAt.same {H H' : Hp} {p : Addr} {z : Int} (e : Same H H') (h : PitAt H p z) : PitAt H' p z := by
  obtain ⟨x, y, c, h1, h2⟩ := h
  exact ⟨x, y, c, e _ _ h1, h2⟩
section
variable {P : Program} {w : World} {K : PySem.W.Frag} {mg : Str → Option Value} {base : Heap}
abbrev sPit : Stmt := top 47
def spPit (K : PySem.W.Frag) : Sp := fun vs H Q _ => ∃ (a : Addr) (ns : List Int) (i : Nat), vs = [.ref a, .int i] ∧ SqL K H a (ns.map V.int) ∧ ns.length ≤ 63 ∧ i ≤ 100 ∧ ∀ H' p, Same H H' → H p = none → PitAt H' p 0 → Q (.ref p) H'
theorem scPit : FnScope ["script", "at", "cell"] ["script", "at"] (defScope sPit) := ⟨rfl, rfl, rfl, by decide +kernel, rfl, by decide +kernel, by decide +kernel⟩
theorem ok_pit {f : Addr} {fd : FuncData} (F : Fun K "_law_pit" "_law_pit" sPit f fd) (T : Bi mg) : FnOk P w K mg base CX0 1 f fd ["script", "at"] (spPit K) := by
  refine F.ok scPit (fun vs H Q E h => ?_) (fun cdv A outer s H vs Q E hr h => ?_)
  · obtain ⟨_, _, _, rfl, _⟩ := h
    rfl
  · obtain ⟨a, ns, i, rfl, hS, hl, hi, k⟩ := h
    refine ⟨_, pss_cons (ps_set (i := 2) scPit.nd rfl (.inl rfl) (pe_ifExp (pt_cmpR op_lt (pv 1) (pe_callB call_len_seq (by rfl) T.len PySem.boot_len (pa_cons (pv 0) pa_nil)) (nomark _)) (pe_ix ix_list (pv 0) (pv 1) (fun _ _ => rfl)) pe_int))
      (pss_one (ps_ret (pe_lst (pa_cons (pe_callB (call_max2 rfl) (by rfl) T.max (by decide +kernel) (pa_cons pe_int (pa_cons (pe_op op_sub (pe_callB call_abs (by rfl) T.abs (by decide +kernel) (pa_cons (pv 2) pa_nil)) (pe_op op_pow pe_int pe_int)) pa_nil)))
        (pa_cons (pe_op op_add (pe_op op_add (pe_op op_mul (pe_op op_modN (pe_callTy call_int1 (by rfl) T.int (by decide +kernel) (pa_cons (pv 2) pa_nil)) (pe_op op_add (pe_op op_pow pe_int pe_int) pe_int)) pe_int) (pe_op op_mul pe_int (pv 1))) pe_int) (pa_cons pe_int pa_nil)))))), ?_⟩
    have e18 : ((10 : Int) ^ (18 : Int).toNat) = 1000000000000000000 := by decide
    have e37 : ((10 : Int) ^ (37 : Int).toNat) + 3 = 10000000000000000000000000000000000003 := by decide
    have ne37 : (10 : Int) ^ (37 : Int).toNat + 3 ≠ 0 := by rw [e37]; decide
    have cp1 : CPow 10 18 := ⟨by decide, by decide, by decide⟩
    have cp2 : CPow 10 37 := ⟨by decide, by decide, by decide⟩
    have fin : ∀ c : Int, ∀ p, H p = none → Q (.ref p) (upd H p (.lst [.int (if (if c < 0 then -c else c) - 10 ^ (18 : Int).toNat > 0 then (if c < 0 then -c else c) - 10 ^ (18 : Int).toNat else 0), .int (c.fmod (10 ^ (37 : Int).toNat + 3) * 83 + 59 * (i : Int) + 37), .int 0])) := by
      intro c p hp
      refine k _ p (Same.new hp) hp ⟨_, _, _, upd_same, ?_, ?_, ?_, Int.le_refl _, Int.le_refl _⟩
      · split <;> omega
      · rw [e37]
        have := Int.fmod_nonneg_of_pos c (b := 10000000000000000000000000000000000003) (by decide)
        omega
      · rw [e37]
        have := Int.fmod_lt_of_pos c (b := 10000000000000000000000000000000000003) (by decide)
        omega
    refine ⟨_, rfl, _, rfl, a, _, rfl, .inl hS, _, _, rfl, rfl, _, rfl, ?_⟩
    by_cases hlt : (i : Int) < ((ns.map V.int).length : Nat)
    · have hi2 : i < ns.length := by rw [List.length_map] at hlt; omega
      have hg : (ns.map V.int)[i]? = some (.int ns[i]) := by rw [List.getElem?_map, List.getElem?_eq_getElem hi2]; rfl
      refine iteDT hlt ⟨_, rfl, _, rfl, _, _, _, _, rfl, rfl, hS, atI_nat hg, ?_⟩
      exact ⟨_, rfl, _, rfl, _, _, rfl, rfl, cp1, _, _, rfl, rfl, _, _, rfl, _, rfl, .inl ⟨_, rfl, _, _, rfl, rfl, cp2, _, _, rfl, rfl, _, _, rfl, rfl, ne37, _, _, rfl, rfl, .inr ⟨by decide, by decide⟩, _, rfl, _, _, rfl, rfl, .inl ⟨by decide, by decide⟩, _, _, rfl, rfl, _, _, rfl, rfl, by show 3 ≤ sizeLine; decide, fun p hp => fin _ p hp⟩⟩
    · refine iteDF hlt ?_
      exact ⟨_, rfl, _, rfl, _, _, rfl, rfl, cp1, _, _, rfl, rfl, _, _, rfl, _, rfl, .inl ⟨_, rfl, _, _, rfl, rfl, cp2, _, _, rfl, rfl, _, _, rfl, rfl, ne37, _, _, rfl, rfl, .inr ⟨by decide, by decide⟩, _, rfl, _, _, rfl, rfl, .inl ⟨by decide, by decide⟩, _, _, rfl, rfl, _, _, rfl, rfl, by show 3 ≤ sizeLine; decide, fun p hp => fin _ p hp⟩⟩
abbrev sHoist : Stmt := top 48
def spHoist (K : PySem.W.Frag) : Sp := fun vs H Q _ => ∃ (p : Addr) (b z : Int), vs = [.ref p, .int b] ∧ PitAt H p z ∧ z ≤ 1000000 ∧ 0 < b ∧ b < 10 ^ 20 ∧ ∀ H' d, But p H H' → PitAt H' p (z + 1) → 0 ≤ d → d < b → Q (.int d) H'
theorem scHoist : FnScope ["pit", "below", "digit", "swill"] ["pit", "below"] (defScope sHoist) := ⟨rfl, rfl, rfl, by decide +kernel, rfl, by decide +kernel, by decide +kernel⟩
theorem at3 (x y z : V) : atI [x, y, z] 0 = some x ∧ atI [x, y, z] 1 = some y ∧ atI [x, y, z] 2 = some z := ⟨at_of (j := 0) rfl rfl, at_of (j := 1) rfl rfl, at_of (j := 2) rfl rfl⟩
theorem ix3 : ixN 3 0 = some 0 ∧ ixN 3 2 = some 2 := by decide
theorem ok_hoist {f : Addr} {fd : FuncData} (F : Fun K "_law_hoist" "_law_hoist" sHoist f fd) (T : Bi mg) : FnOk P w K mg base CX0 1 f fd ["pit", "below"] (spHoist K) := by
  refine F.ok scHoist (fun vs H Q E h => ?_) (fun cdv A outer s H vs Q E hr h => ?_)
  · obtain ⟨_, _, _, rfl, _⟩ := h
    rfl
  · obtain ⟨p, b, z, rfl, ⟨x, y, c, hp, hx, hy, hy2, hc, hcz⟩, hz, hb, hb2, k⟩ := h
    refine ⟨_, pss_cons (ps_if (pt_cmpR op_gt (pe_ix ix_list (pv 0) pe_int (fun _ _ => rfl)) pe_int (nomark _))
        (pss_cons (ps_set (i := 2) scHoist.nd rfl (.inl rfl) (pe_op op_modN (pe_callTy call_int1 (by rfl) T.int (by decide +kernel) (pa_cons (pe_ix ix_list (pv 0) pe_int (fun _ _ => rfl)) pa_nil)) (pv 1)))
        (pss_cons (ps_asg (pe_op op_fdivW (pe_ix ix_list (pv 0) pe_int (fun _ _ => rfl)) (pv 1)) (pg_sub (pv 0) pe_int set_list))
        (pss_one (ps_ret (pv 2))))) pss_nil)
      (pss_cons (ps_asg (pe_op op_add (pe_ix ix_list (pv 0) pe_int (fun _ _ => rfl)) pe_int) (pg_sub (pv 0) pe_int set_list))
      (pss_cons (ps_set (i := 3) scHoist.nd rfl (.inl rfl) (pe_op op_modN (pe_op op_powW (pe_callTy call_int1 (by rfl) T.int (by decide +kernel) (pa_cons (pe_op op_add (pe_ix ix_list (pv 0) pe_int (fun _ _ => rfl)) (pe_op op_mul pe_int (pe_ix ix_list (pv 0) pe_int (fun _ _ => rfl)))) pa_nil)) pe_int) (pe_op op_add (pe_op op_pow pe_int pe_int) pe_int)))
      (pss_cons (ps_set (i := 3) scHoist.nd rfl (.inl rfl) (pe_op op_modN (pe_op op_powW (pe_callTy call_int1 (by rfl) T.int (by decide +kernel) (pa_cons (pe_op op_add (pv 3) (pe_op op_mul pe_int (pe_ix ix_list (pv 0) pe_int (fun _ _ => rfl)))) pa_nil)) pe_int) (pe_op op_add (pe_op op_pow pe_int pe_int) pe_int)))
      (pss_one (ps_ret (pe_op op_modN (pe_op op_fdivW (pv 3) pe_int) (pv 1))))))), ?_⟩
    have hq : SqL K H p [.int x, .int y, .int c] := SqL.of hp
    refine ⟨_, rfl, _, _, _, _, rfl, rfl, hq, (at3 _ _ _).1, _, _, rfl, rfl, _, rfl, ?_⟩
    have hbn : b ≠ 0 := by omega
    have hdw : CDivW x b := wide_div hb (by omega : b.natAbs < 2 ^ 70) (by decide) (by decide)
    by_cases hx0 : 0 < x
    · refine iteDT hx0 ⟨_, rfl, _, _, _, _, rfl, rfl, hq, (at3 _ _ _).1, .inl ⟨_, rfl, _, rfl, _, _, rfl, rfl, hbn, ?_⟩⟩
      refine ⟨_, rfl, _, _, _, _, rfl, rfl, hq, (at3 _ _ _).1, _, rfl, _, _, rfl, rfl, hdw, _, rfl, p, _, _, 0, rfl, rfl, hp, ix3.1, _, rfl, ?_⟩
      refine k _ _ But.set ⟨x / b, y, c, upd_same, Int.ediv_nonneg hx (by omega), hy, hy2, hc, by omega⟩ (Int.fmod_nonneg_of_pos _ hb) (Int.fmod_lt_of_pos _ hb)
    · refine iteDF hx0 ?_
      refine ⟨_, rfl, _, _, _, _, rfl, rfl, hq, (at3 _ _ _).2.2, _, _, rfl, rfl, _, rfl, p, _, _, 2, rfl, rfl, hp, ix3.2, ?_⟩
      have hp1 : (upd H p (.lst [V.int x, V.int y, V.int (c + 1)])) p = some (.lst [V.int x, V.int y, V.int (c + 1)]) := upd_same
      have B1 : But p H (upd H p (.lst [V.int x, V.int y, V.int (c + 1)])) := But.set
      show tSeq _ _ _ _ (upd H p (.lst [V.int x, V.int y, V.int (c + 1)]))
      generalize upd H p (.lst [V.int x, V.int y, V.int (c + 1)]) = H1 at hp1 B1
      have hq1 : SqL K H1 p [.int x, .int y, .int (c + 1)] := SqL.of hp1
      have e38 : ((10 : Int) ^ (38 : Int).toNat) + 67 = 100000000000000000000000000000000000067 := by decide
      have e39 : ((10 : Int) ^ (39 : Int).toNat) + 37 = 1000000000000000000000000000000000000037 := by decide
      have n38 : (10 : Int) ^ (38 : Int).toNat + 67 ≠ 0 := by rw [e38]; decide
      have n39 : (10 : Int) ^ (39 : Int).toNat + 37 ≠ 0 := by rw [e39]; decide
      have cp1 : CPow 10 38 := ⟨by decide, by decide, by decide⟩
      have cp2 : CPow 10 39 := ⟨by decide, by decide, by decide⟩
      have w1 : CPowW (y + 60013 * (c + 1)) 2 := pow_ok (n := 2) (by omega) (by decide)
      refine ⟨_, rfl, _, _, _, _, rfl, rfl, hq1, (at3 _ _ _).2.1, _, rfl, _, _, _, _, rfl, rfl, hq1, (at3 _ _ _).2.2, _, _, rfl, rfl, .inl ⟨by decide, by decide⟩, _, _, rfl, rfl, .inl ⟨_, rfl, _, _, rfl, rfl, w1, _, _, rfl, rfl, cp1, _, _, rfl, rfl, _, _, rfl, rfl, n38, ?_⟩⟩
      have s1a := Int.fmod_nonneg_of_pos ((y + 60013 * (c + 1)) ^ (2 : Int).toNat) (b := 10 ^ (38 : Int).toNat + 67) (by rw [e38]; decide)
      have s1b := Int.fmod_lt_of_pos ((y + 60013 * (c + 1)) ^ (2 : Int).toNat) (b := 10 ^ (38 : Int).toNat + 67) (by rw [e38]; decide)
      have w2 : CPowW (((y + 60013 * (c + 1)) ^ (2 : Int).toNat).fmod (10 ^ (38 : Int).toNat + 67) + 800011 * (c + 1)) 3 := by
        generalize ((y + 60013 * (c + 1)) ^ (2 : Int).toNat).fmod (10 ^ (38 : Int).toNat + 67) = s1 at s1a s1b
        rw [e38] at s1b
        exact pow_ok (n := 3) (by omega) (by decide)
      refine ⟨_, rfl, _, rfl, _, _, _, _, rfl, rfl, hq1, (at3 _ _ _).2.2, _, _, rfl, rfl, .inl ⟨by decide, by decide⟩, _, _, rfl, rfl, .inl ⟨_, rfl, _, _, rfl, rfl, w2, _, _, rfl, rfl, cp2, _, _, rfl, rfl, _, _, rfl, rfl, n39, ?_⟩⟩
      refine ⟨_, rfl, _, _, rfl, rfl, wide_div (by decide) (by decide : (524288 : Int).natAbs < 2 ^ 20) (by decide) (by decide), _, rfl, _, _, rfl, rfl, hbn, ?_⟩
      exact k _ _ B1 ⟨x, y, c + 1, hp1, hx, hy, hy2, by omega, by omega⟩ (Int.fmod_nonneg_of_pos _ hb) (Int.fmod_lt_of_pos _ hb)
end
end K1
end
section
set_option maxRecDepth 100000
set_option maxHeartbeats 4000000
namespace K1
open PySem L2 K01
/-! ### data -/
def AscZ (z : Str) : Prop := ∀ c ∈ z.cps.toList, c < 128
def Lv (n : Nat) (d : PyData) : Prop := d.canLay0 = true ∧ d.depth ≤ n
theorem Lv.none {n : Nat} : Lv n .none := ⟨by simp [PyData.canLay0], by simp [PyData.depth]⟩
theorem Lv.bl {n : Nat} (b : Bool) : Lv n (.bool b) := ⟨by simp [PyData.canLay0], by simp [PyData.depth]⟩
theorem Lv.int {n : Nat} (i : Int) : Lv n (.int i) := ⟨by simp [PyData.canLay0], by simp [PyData.depth]⟩
theorem Lv.str {n : Nat} {z : Str} (h : AscZ z) : Lv n (.str z) := ⟨by
  simp only [PyData.canLay0]
  unfold PyData.strOk
  rw [Array.all_eq_true']
  intro c hc
  have := h c (by simpa using hc)
  simpa using (Nat.lt_trans this (by decide) : c < 0x110000), by simp [PyData.depth]⟩
theorem lv_all {n : Nat} : ∀ {ds : List PyData}, (∀ d ∈ ds, Lv n d) → PyData.canLayAll0 ds = true ∧ PyData.depthAll ds ≤ n
  | [], _ => ⟨by simp [PyData.canLayAll0], by simp [PyData.depthAll]⟩
  | d :: ds, h => by
    have h1 := h d List.mem_cons_self
    have h2 := lv_all (ds := ds) fun e he => h e (List.mem_cons_of_mem _ he)
    refine ⟨by simp only [PyData.canLayAll0, h1.1, h2.1, Bool.and_self], ?_⟩
    simp only [PyData.depthAll]
    have := h1.2
    have := h2.2
    omega
theorem Lv.list {n : Nat} {ds : List PyData} (h : ∀ d ∈ ds, Lv n d) : Lv (n + 1) (.list ds) := by
  obtain ⟨h1, h2⟩ := lv_all h
  exact ⟨by simp only [PyData.canLay0, h1], by simp only [PyData.depth]; omega⟩
theorem Lv.tuple {n : Nat} {ds : List PyData} (h : ∀ d ∈ ds, Lv n d) : Lv (n + 1) (.tuple ds) := by
  obtain ⟨h1, h2⟩ := lv_all h
  exact ⟨by simp only [PyData.canLay0, h1], by simp only [PyData.depth]; omega⟩
theorem Lv.shaped {n : Nat} {d : PyData} (h : Lv n d) (hn : n ≤ 64) : SeqAt.shaped d = true := by
  unfold SeqAt.shaped
  rw [h.1, decide_eq_true (Nat.le_trans h.2 hn)]
  rfl
theorem shaped_nil : SeqAt.shaped (.list []) = true := Lv.shaped (n := 1) (Lv.list (n := 0) fun d hd => nomatch hd) (by decide)
theorem shaped_nilT : SeqAt.shaped (.tuple []) = true := Lv.shaped (n := 1) (Lv.tuple (n := 0) fun d hd => nomatch hd) (by decide)
theorem eqv_nil (ds : List PyData) : PyData.eqv (.list ds) (.list []) = ds.isEmpty := by
  cases ds <;> simp [PyData.eqv, PyData.eqvAll]
theorem eqv_nilT (ds : List PyData) : PyData.eqv (.tuple ds) (.tuple []) = ds.isEmpty := by
  cases ds <;> simp [PyData.eqv, PyData.eqvAll]
/-- flat values as data -/
def vD : V → PyData
  | .bl b => .bool b
  | .int i => .int i
  | .str z => .str z
  | _ => .none
theorem Flat.dp {K : PySem.W.Frag} {H : Hp} {v : V} (h : Flat v) : Dp K H v (vD v) := by
  cases h with
  | non => exact .non
  | bl b => exact .bl b
  | int i => exact .int i
  | str z => exact .str z
theorem flats_dp {K : PySem.W.Frag} {H : Hp} : ∀ {vs : List V}, (∀ v ∈ vs, Flat v) → DpAll K H vs (vs.map vD)
  | [], _ => .nil
  | v :: vs, h => .cons (h v List.mem_cons_self).dp (flats_dp fun u hu => h u (List.mem_cons_of_mem _ hu))
end K1
end
section
set_option maxRecDepth 100000
set_option maxHeartbeats 4000000
namespace K1
open PySem L2 K01
def letters : Str := "abcdefghijklmnopqrstuvwxyzABCDEFGHIJKLMNOPQRSTUVWXYZ"
def lets : List Nat := letters.cps.toList
theorem lets_alpha : ∀ c : Fin 128, PySem.Unicode.isAlpha c.1 = decide (c.1 ∈ lets) := by decide +kernel
theorem lets_asc : ∀ c ∈ lets, c < 128 := by decide +kernel
def oneS (c : Nat) : Str := ⟨#[c]⟩
def goodL (z : Str) : Bool := (decide ((0 : Int) < (z.length : Int)) && decide ((z.length : Int) < 9)) && (z.cps.toList.filter fun c => !decide (c ∈ lets)).isEmpty
theorem good_eq (z : Str) : goodL z = nameOk z := by
  unfold goodL nameOk Txt.isascii Txt.isalpha
  rw [Bool.eq_iff_iff]
  simp only [Bool.and_eq_true, decide_eq_true_eq, List.isEmpty_iff, List.filter_eq_nil_iff, Bool.not_eq_true', decide_eq_false_iff_not, Decidable.not_not, Array.all_eq_true']
  constructor
  · rintro ⟨⟨h1, h2⟩, h3⟩
    have h3' : ∀ c ∈ z.cps, c ∈ lets := fun c hc => h3 c (by simpa using hc)
    refine ⟨by omega, fun c hc => by simpa using lets_asc c (h3' c hc), by omega, fun c hc => ?_⟩
    have := lets_alpha ⟨c, lets_asc c (h3' c hc)⟩
    simp only at this
    rw [this]
    simpa using h3' c hc
  · rintro ⟨h1, h2, h3, h4⟩
    refine ⟨⟨by omega, by omega⟩, fun c hc => ?_⟩
    have hc' : c ∈ z.cps := by simpa using hc
    have l : c < 128 := by simpa using h2 c hc'
    have := lets_alpha ⟨c, l⟩
    simp only at this
    rw [h4 c hc'] at this
    simpa using this.symm
section
variable {P : Program} {w : World} {K : PySem.W.Frag} {mg : Str → Option Value} {base : Heap}
abbrev sGood : Stmt := top 56
def spGood (K : PySem.W.Frag) : Sp := fun vs H Q _ => ∃ (z : Str), vs = [.str z] ∧ z.length ≤ 1000 ∧ AscZ z ∧ ∀ H', Same H H' → Q (.bl (nameOk z)) H'
theorem scGood : FnScope ["value", "letters", "sign"] ["value"] (defScope sGood) := ⟨rfl, rfl, rfl, by decide +kernel, rfl, by decide +kernel, by decide +kernel⟩
theorem ok_good {f : Addr} {fd : FuncData} (F : Fun K "_law_name_good" "_law_name_good" sGood f fd) (T : Bi mg) : FnOk P w K mg base CX0 1 f fd ["value"] (spGood K) := by
  refine F.ok scGood (fun vs H Q E h => ?_) (fun cdv A outer s H vs Q E hr h => ?_)
  · obtain ⟨_, rfl, _⟩ := h
    rfl
  · obtain ⟨z, rfl, hz, ha, k⟩ := h
    refine ⟨_, pss_cons (ps_set (i := 1) scGood.nd rfl (.inr rfl) pe_str)
      (pss_one (ps_ret (pe_and (pe_callB call_isi (by rfl) T.isinstance (by decide +kernel) (pa_cons (pv 0) (pa_cons (pe_ty (n := "str") (by rfl) T.str (by decide +kernel)) pa_nil)))
        (pe_and (pe_chain op_lt op_lt pe_int (pe_callB call_len_str (by rfl) T.len (by decide +kernel) (pa_cons (pv 0) pa_nil)) pe_int)
        (pe_one (pe_cmpR (op_eqD hr.units) (pe_lc (own := [("sign", 2)]) (g := gName 2) rfl scGood.nd (pi_str (pv 0)) (blkOk_by (N := ["value", "letters", "sign"]) (sc := defScope sGood) (by decide +kernel))
          (fun _ _ _ _ _ => pg_name (i := 2) scGood.nd rfl (.inl rfl)) (fun _ _ _ _ _ => pts_one (pt_cmpR op_notIn_sign (pv 2) (pv 1) rfl)) (fun _ _ _ _ _ => pv 2)) (pe_lst pa_nil) (nomark _))))))), ?_⟩
    refine ⟨_, rfl, _, _, _, _, true, rfl, .ty _, .base (.str _), kit_ty (by decide +kernel), _, rfl, iteT ?_⟩
    rw [← good_eq] at k
    unfold goodL at k
    refine ⟨_, rfl, _, rfl, Nat.le_of_lt (small1000 hz), _, _, rfl, rfl, _, rfl, ?_⟩
    by_cases h1 : (0 : Int) < (z.length : Nat)
    · rw [decide_eq_true h1] at k
      refine iteDT h1 ⟨_, _, rfl, rfl, _, rfl, ?_⟩
      by_cases h2 : ((z.length : Nat) : Int) < 9
      · rw [decide_eq_true h2] at k
        refine iteDT h2 ?_
        refine ⟨_, rfl, _, rfl, fun D hD => ?_⟩
        refine lc_it (walk_str (z := z)) (fun i H' => Same H H' ∧ H' D = some (.lst ((((z.cps.toList.take i).filter fun c => !decide (c ∈ lets)).map oneS).map V.str))) ⟨Same.new hD, upd_same⟩ (fun _ _ _ _ => trivial) ?_ ?_
        · rintro i v H1 H2 hi ⟨q1, q2⟩ ⟨rfl, c, hc, rfl⟩
          have hc' : z.cps.toList[i]? = some c := by simpa using hc
          have ht : z.cps.toList.take (i + 1) = z.cps.toList.take i ++ [c] := take_snoc hc'
          have hn : ((z.cps.toList.take i).filter fun c => !decide (c ∈ lets)).length ≤ 1000 := by
            have a1 := List.length_filter_le (fun c => !decide (c ∈ lets)) (z.cps.toList.take i)
            have a2 : (z.cps.toList.take i).length ≤ i := by rw [List.length_take]; exact Nat.min_le_left _ _
            have a3 : i < z.length := hi
            omega
          refine ⟨rfl, _, rfl, _, rfl, c, letters, rfl, rfl, _, rfl, ?_⟩
          by_cases hl : c ∈ lets
          · refine iteNS hl ⟨q1, ?_⟩
            rw [ht, List.filter_append, List.filter_cons_of_neg (by simp [hl]), List.filter_nil, List.append_nil]
            exact q2
          · refine iteNF hl ⟨_, rfl, _, q2, by rw [List.length_map, List.length_map]; exact small1000 hn, Same.set q1 hD, ?_⟩
            rw [upd_same, ht, List.filter_append, List.filter_cons_of_pos (by simp [hl]), List.filter_nil, List.map_append, List.map_append]
            rfl
        · rintro H1 ⟨q1, q2⟩
          refine ⟨Nat.zero_le _, fun e he => ?_⟩
          have eD : D ≠ e := fun q => by rw [← q, q2] at he; cases he
          have q2' : (upd H1 e (.lst [])) D = _ := (upd_ne eD).trans q2
          have hfl : (z.cps.toList.take z.cps.size) = z.cps.toList := by rw [← Array.length_toList, List.take_length]
          rw [hfl] at q2'
          refine ⟨.list _, .list [], .lst (SqL.of q2') (flats_dp ?_), .lst (SqL.of upd_same) .nil, ?_, shaped_nil, ?_⟩
          · intro v hv
            obtain ⟨u, _, rfl⟩ := List.mem_map.mp hv
            exact .str u
          · refine Lv.shaped (n := 1) (Lv.list (n := 0) ?_) (by decide)
            intro d hd
            obtain ⟨v, hv, rfl⟩ := List.mem_map.mp hd
            obtain ⟨u, hu, rfl⟩ := List.mem_map.mp hv
            obtain ⟨c, hc, rfl⟩ := List.mem_map.mp hu
            refine Lv.str fun c' hc' => ?_
            have e1 : c' = c := by simpa [oneS] using hc'
            rw [e1]
            exact ha c (List.mem_filter.mp hc).1
          · rw [eqv_nil]
            have := k _ (q1.trans (Same.new (o := .lst []) he))
            simpa using this
      · rw [decide_eq_false h2] at k
        exact iteDF h2 (k H (Same.refl H))
    · rw [decide_eq_false h1] at k
      exact iteDF h1 ⟨_, rfl, iteF (k H (Same.refl H))⟩
end
end K1
end
section
set_option maxRecDepth 100000
set_option maxHeartbeats 4000000
namespace K1
open PySem L2 K01
theorem catT_it {K : PySem.W.Frag} {H : Hp} {a b : Addr} {xs ys : List V} {Q : V → Hp → Prop} (h1 : SqT K H a xs) (h2 : SqT K H b ys) (hx : xs ≠ []) (hl : xs.length + ys.length ≤ sizeLine)
    (k : ∀ p H', Same H H' → SqT K H' p (xs ++ ys) → Q (.ref p) H') : rCatT K (.ref a) (.ref b) H Q := by
  refine ⟨_, _, _, _, rfl, rfl, h1, h2, hx, hl, fun e => ?_, fun _ q hq => k q _ (Same.new hq) tup_at⟩
  refine k a H (Same.refl H) ?_
  rw [e, List.append_nil]; exact h1
section
variable {P : Program} {w : World} {K : PySem.W.Frag} {mg : Str → Option Value} {base : Heap}
abbrev sFGood : Stmt := top 57
def spFGood (K : PySem.W.Frag) : Sp := fun vs H Q _ => ∃ (a p : Addr) (ms : List Str) (xs : List V), vs = [.ref a, .ref p] ∧ strsT K H a ms ∧ ms.length ≤ 900 ∧ H p = some (.tup xs) ∧ (∀ x ∈ xs, Flat x) ∧ ∀ H', Same H H' → Q (.bl (factOk (nodes ms) xs)) H'
theorem scFGood : FnScope ["marks_here", "row", "nodes"] ["marks_here", "row"] (defScope sFGood) := ⟨rfl, rfl, rfl, by decide +kernel, rfl, by decide +kernel, by decide +kernel⟩
theorem ok_fgood {f : Addr} {fd : FuncData} (F : Fun K "_law_fact_good" "_law_fact_good" sFGood f fd) (T : Bi mg) : FnOk P w K mg base CX0 1 f fd ["marks_here", "row"] (spFGood K) := by
  refine F.ok scFGood (fun vs H Q E h => ?_) (fun cdv A outer s H vs Q E hr h => ?_)
  · obtain ⟨_, _, _, _, rfl, _⟩ := h
    rfl
  · obtain ⟨a, p, ms, xs, rfl, hm, hl, hp, hf, k⟩ := h
    refine ⟨_, pss_cons (ps_set (i := 2) scFGood.nd rfl (.inl rfl) (pe_op op_catT (pe_tup (pa_cons pe_str pa_nil)) (pv 0)))
      (pss_cons (ps_if (PW.pt (pw_or (pt_cmpR op_ne (pe_callB call_len_seq (by rfl) T.len PySem.boot_len (pa_cons (pv 1) pa_nil)) pe_int (nomark _)) (pw_or (pt_val (pe_callB call_isi (by rfl) T.isinstance (by decide +kernel) (pa_cons (pe_ix ix_tup (pv 1) pe_int (fun _ _ => rfl)) (pa_cons (pe_ty (n := "bool") (by rfl) T.bool (by decide +kernel)) pa_nil)))) (pw_or1 (pt_not (pt_val (pe_callB call_isi (by rfl) T.isinstance (by decide +kernel) (pa_cons (pe_ix ix_tup (pv 1) pe_int (fun _ _ => rfl)) (pa_cons (pe_ty (n := "int") (by rfl) T.int (by decide +kernel)) pa_nil))))))))) (pss_one (ps_ret pe_bl)) pss_nil)
      (pss_one (ps_ret (pe_and (pe_cmpR op_in_seq (pe_ix ix_tup (pv 1) pe_int (fun _ _ => rfl)) (pv 2) (by rfl)) (pe_and (pe_cmpR op_in_seq (pe_ix ix_tup (pv 1) pe_int (fun _ _ => rfl)) (pv 2) (by rfl)) (pe_one (pe_cmpR op_ne (pe_ix ix_tup (pv 1) pe_int (fun _ _ => rfl)) (pe_ix ix_tup (pv 1) pe_int (fun _ _ => rfl)) (nomark _)))))))), ?_⟩
    refine ⟨by show 1 ≤ sizeLine; decide, fun t ht => ?_⟩
    have s1 : Same H (upd H t (.tup [.str "zero"])) := Same.new ht
    refine ⟨_, rfl, catT_it tup_at (Same.tup s1 hm) (by simp) (by rw [List.length_map]; exact Nat.le_of_lt (Nat.lt_of_le_of_lt (show 1 + ms.length ≤ 1001 by omega) (by decide))) fun u H' s2 hu => ?_⟩
    have sH := s1.trans s2
    replace hu : strsT K H' u (nodes ms) := hu
    have hr : SqT K H' p xs := Same.tup sH (SqT.of hp)
    refine ⟨_, rfl, p, _, rfl, .inr hr, rfl, _, rfl, ?_⟩
    by_cases e : xs.length = 3
    · obtain ⟨x, y, c, rfl⟩ : ∃ x y c, xs = [x, y, c] := by
        match xs, e with
        | [x, y, c], _ => exact ⟨x, y, c, rfl⟩
      have fx : Flat x := hf x (by simp)
      have fy : Flat y := hf y (by simp)
      have fc : Flat c := hf c (by simp)
      have k : Q (.bl (inV x ((nodes ms).map V.str) && (inV y ((nodes ms).map V.str) && (!decide (x = y) && isWhole c)))) H' := k H' sH
      have g0 : atI [x, y, c] 0 = some x := at_of (j := 0) rfl rfl
      have g1 : atI [x, y, c] 1 = some y := at_of (j := 1) rfl rfl
      have g2 : atI [x, y, c] 2 = some c := at_of (j := 2) rfl rfl
      refine iteNS (by rfl) ?_
      have no : isWhole c = false → Q (.bl false) H' := fun q => by rw [q] at k; simpa using k
      refine ⟨_, rfl, _, _, _, _, rfl, rfl, hr, g2, ?_⟩
      cases fc with
      | non => exact ⟨_, _, _, _, false, rfl, .ty _, .base .non, kit_ty (by decide +kernel), _, rfl, iteF ⟨_, rfl, _, _, _, _, rfl, rfl, hr, g2, _, _, _, _, false, rfl, .ty _, .base .non, kit_ty (by decide +kernel), _, rfl, iteNF Bool.false_ne_true (no rfl)⟩⟩
      | str z => exact ⟨_, _, _, _, false, rfl, .ty _, .base (.str _), kit_ty (by decide +kernel), _, rfl, iteF ⟨_, rfl, _, _, _, _, rfl, rfl, hr, g2, _, _, _, _, false, rfl, .ty _, .base (.str _), kit_ty (by decide +kernel), _, rfl, no rfl⟩⟩
      | bl b => exact ⟨_, _, _, _, true, rfl, .ty _, .base (.bl _), kit_ty (by decide +kernel), _, rfl, iteT (no rfl)⟩
      | int i =>
        refine ⟨_, _, _, _, false, rfl, .ty _, .base (.int _), kit_ty (by decide +kernel), _, rfl, iteF ⟨_, rfl, _, _, _, _, rfl, rfl, hr, g2, _, _, _, _, true, rfl, .ty _, .base (.int _), kit_ty (by decide +kernel), _, rfl, ?_⟩⟩
        refine iteF ?_
        refine ⟨_, rfl, _, _, _, _, rfl, rfl, hr, g0, _, rfl, u, _, rfl, .inr hu, fx.v, strs_flat _, _, rfl, ?_⟩
        cases e1 : inV x ((nodes ms).map V.str) with
        | false => rw [e1] at k; exact iteF k
        | true =>
          rw [e1] at k
          refine iteT ⟨_, rfl, _, _, _, _, rfl, rfl, hr, g1, _, rfl, u, _, rfl, .inr hu, fy.v, strs_flat _, _, rfl, ?_⟩
          cases e2 : inV y ((nodes ms).map V.str) with
          | false => rw [e2] at k; exact iteF k
          | true =>
            rw [e2] at k
            have sx : ∃ z, x = .str z := by
              by_cases q : ∃ z, x = .str z
              · exact q
              · rw [inV_other fx (fun z e => q ⟨z, e⟩)] at e1; cases e1
            have sy : ∃ z, y = .str z := by
              by_cases q : ∃ z, y = .str z
              · exact q
              · rw [inV_other fy (fun z e => q ⟨z, e⟩)] at e2; cases e2
            obtain ⟨x, rfl⟩ := sx
            obtain ⟨y, rfl⟩ := sy
            refine iteT ⟨_, rfl, _, _, _, _, rfl, rfl, hr, g0, _, rfl, _, _, _, _, rfl, rfl, hr, g1, rfl, ?_⟩
            have k : Q (.bl (!decide (V.str x = V.str y) && true)) H' := k
            rw [Bool.and_true] at k
            exact k
    · have h3 : ¬ V.int (xs.length : Nat) = V.int 3 := fun q => e (by have := V.int.inj q; omega)
      have : factOk (nodes ms) xs = false := by
        unfold factOk
        split
        · exact absurd rfl e
        · rfl
      have k := k H' sH
      rw [this] at k
      exact iteNF h3 k
end
end K1
end
section
set_option maxRecDepth 100000
set_option maxHeartbeats 4000000
namespace K1
open PySem L2 K01
def edgeV (e : Edge) : List V := [.int (e.1 : Nat), .int (e.2.1 : Nat), .int e.2.2]
theorem eqv_strs (z u : Str) : eqV (.str z) (.str u) = decide (z = u) := by
  by_cases h : z = u
  · subst h; simp [eqV]
  · simp [eqV, h]
theorem index_hit {ms : List Str} {z : Str} (hz : z ∈ nodes ms) : ((nodes ms).map V.str)[ix ms z]? = some (.str z) ∧ eqV (.str z) (.str z) = true ∧ (∀ (m : Nat) (v : V), m < ix ms z → ((nodes ms).map V.str)[m]? = some v → eqV v (.str z) = false) := by
  have g := ix_get hz
  refine ⟨by rw [List.getElem?_map, g]; rfl, by rw [eqv_strs]; exact decide_eq_true rfl, fun m v hm hv => ?_⟩
  obtain ⟨u, hu, rfl⟩ := get_map hv
  rw [eqv_strs]
  refine decide_eq_false fun e => ?_
  subst e
  have hl := (List.getElem?_eq_some_iff.mp hu).1
  have := List.not_of_lt_findIdx (xs := nodes ms) (p := (· == u)) (i := m) hm
  have e2 : (nodes ms)[m] = u := (List.getElem?_eq_some_iff.mp hu).2
  rw [e2] at this
  simp at this
section
variable {P : Program} {w : World} {K : PySem.W.Frag} {mg : Str → Option Value} {base : Heap}
abbrev sNum : Stmt := top 52
def spNum (K : PySem.W.Frag) : Sp := fun vs H Q _ => ∃ (a q : Addr) (ms : List Str) (F : List Fact), vs = [.ref a, .ref q] ∧ strsT K H a ms ∧ ms.length ≤ 900 ∧ TTAt K H q (F.map factV) ∧ F.length ≤ 900 ∧ InN ms F ∧
  ∀ H' p ps, Same H H' → H' p = some (.lst (ps.map V.ref)) → TupsAt H' ps (F.map fun f => edgeV (eF ms f)) → Q (.ref p) H'
theorem scNum : FnScope ["marks_here", "facts_here", "nodes", "ax", "by", "sum_here"] ["marks_here", "facts_here"] (defScope sNum) := ⟨rfl, rfl, rfl, by decide +kernel, rfl, by decide +kernel, by decide +kernel⟩
theorem ok_num {f : Addr} {fd : FuncData} (F : Fun K "_law_numbered" "_law_numbered" sNum f fd) (T : Bi mg) : FnOk P w K mg base CX0 1 f fd ["marks_here", "facts_here"] (spNum K) := by
  refine F.ok scNum (fun vs H Q E h => ?_) (fun cdv A outer s H vs Q E hr h => ?_)
  · obtain ⟨_, _, _, _, rfl, _⟩ := h
    rfl
  · obtain ⟨a, q, ms, F, rfl, hm, hl, hF, hFl, hI, k⟩ := h
    refine ⟨_, pss_cons (ps_set (i := 2) scNum.nd rfl (.inr rfl) (pe_op op_cat (pe_lst (pa_cons pe_str pa_nil)) (pe_callTy call_list_of (by rfl) T.list (by decide +kernel) (pa_cons (pv 0) pa_nil))))
      (pss_one (ps_ret (pe_lc (own := [("ax", 3), ("by", 4), ("sum_here", 5)]) (g := gTup K 3 (gCons (gName 3) (gCons (gName 4) (gCons (gName 5) gNil)))) (te := tTup (tCons (tBM K "list" (rIndex K) (tVar 2) (tCons (tVar 3) tNil)) (tCons (tBM K "list" (rIndex K) (tVar 2) (tCons (tVar 4) tNil)) (tCons (tVar 5) tNil)))) rfl scNum.nd (pi_tup (pv 1))
        (blkOk_by (N := ["marks_here", "facts_here", "nodes", "ax", "by", "sum_here"]) (sc := defScope sNum) (by decide +kernel))
        (fun _ _ _ _ _ => pg_tup rfl (pgs_cons (pg_name (i := 3) scNum.nd rfl (.inl rfl)) (pgs_cons (pg_name (i := 4) scNum.nd rfl (.inl rfl)) (pgs_cons (pg_name (i := 5) scNum.nd rfl (.inl rfl)) pgs_nil))))
        (fun _ _ _ _ _ => pts_nil)
        (fun _ _ _ _ _ => pe_tup (pa_cons (pe_bm PySem.F.plainAttrs_list PySem.F.slot_list_index PySem.F.type_list_index mt_index (pv 2) (pa_cons (pv 3) pa_nil)) (pa_cons (pe_bm PySem.F.plainAttrs_list PySem.F.slot_list_index PySem.F.type_list_index mt_index (pv 2) (pa_cons (pv 4) pa_nil)) (pa_cons (pv 5) pa_nil))))))), ?_⟩
    refine ⟨by show 1 ≤ sizeLine; decide, fun l1 h1 => ⟨_, rfl, a, _, rfl, .inr (Same.tup (Same.new h1) hm), fun l2 h2 => ?_⟩⟩
    have n12 : l1 ≠ l2 := fun e => by rw [← e, upd_same] at h2; cases h2
    refine ⟨l1, l2, _, _, rfl, rfl, by rw [upd_ne n12]; exact upd_same, upd_same, by rw [List.length_map]; exact Nat.le_of_lt (Nat.lt_of_le_of_lt (show 1 + ms.length ≤ 1001 by omega) (by decide)), fun l hl3 => ?_⟩
    have s0 : Same H (upd (upd (upd H l1 (.lst [.str "zero"])) l2 (.lst (ms.map V.str))) l (.lst ([.str "zero"] ++ ms.map V.str))) := ((Same.new h1).trans (Same.new h2)).trans (Same.new hl3)
    have hL : SqL K (upd (upd (upd H l1 (.lst [.str "zero"])) l2 (.lst (ms.map V.str))) l (.lst ([.str "zero"] ++ ms.map V.str))) l ((nodes ms).map V.str) := SqL.of upd_same
    have hLe : (upd (upd (upd H l1 (.lst [.str "zero"])) l2 (.lst (ms.map V.str))) l (.lst ([.str "zero"] ++ ms.map V.str))) l = some (.lst ((nodes ms).map V.str)) := upd_same
    show gName _ _ _ (upd (upd (upd H l1 (.lst [.str "zero"])) l2 (.lst (ms.map V.str))) l (.lst ([.str "zero"] ++ ms.map V.str))) _
    generalize (upd (upd (upd H l1 (.lst [.str "zero"])) l2 (.lst (ms.map V.str))) l (.lst ([.str "zero"] ++ ms.map V.str))) = H0 at s0 hL hLe
    obtain ⟨ps0, hq, hT⟩ := hF.same s0
    refine ⟨_, rfl, q, rfl, ⟨_, hq⟩, fun D hD => ?_⟩
    refine lc_it (walk_tup (K := K) (a := q)) (fun i H' => Same H0 H' ∧ ∃ ps, H' D = some (.lst (ps.map V.ref)) ∧ TupsAt H' ps ((F.take i).map fun f => edgeV (eF ms f))) ⟨Same.new hD, [], upd_same, TupsAt.nil⟩ (fun i H' _ u => Same.tup u.1 hq) ?_ ?_
    · rintro i v H1 H2 hi ⟨q1, ps, q2, q3⟩ ⟨rfl, hv⟩
      obtain ⟨p, hp, rfl⟩ := get_map hv
      obtain ⟨xs, hxs, hpx⟩ := (hT.same q1).get hp
      obtain ⟨f, hf, rfl⟩ := get_map hxs
      have hm1 := hI f (List.mem_of_getElem? hf)
      have hl2 : H2 l = some (.lst ((nodes ms).map V.str)) := q1 _ _ hLe
      have pl : ps.length ≤ i := by
        have := q3.1
        rw [List.length_map, List.length_take] at this
        omega
      rw [List.length_map] at hi
      have hps0 : ps0.length = F.length := by have := hT.1; rw [List.length_map] at this; exact this
      refine ⟨p, _, rfl, SqT.of hpx, rfl, _, _, rfl, _, _, rfl, _, _, rfl, rfl, rfl, yes_ ?_⟩
      refine ⟨_, rfl, .inl ⟨rfl, _, SqL.of hl2⟩, _, rfl, l, _, .str f.1, ix ms f.1, .str f.1, rfl, rfl, SqL.of hl2, rfl, strs_flat _, (index_hit hm1.1).1, (index_hit hm1.1).2.1, (index_hit hm1.1).2.2, ?_⟩
      refine ⟨_, rfl, .inl ⟨rfl, _, SqL.of hl2⟩, _, rfl, l, _, .str f.2.1, ix ms f.2.1, .str f.2.1, rfl, rfl, SqL.of hl2, rfl, strs_flat _, (index_hit hm1.2).1, (index_hit hm1.2).2.1, (index_hit hm1.2).2.2, ?_⟩
      refine ⟨_, rfl, by show 3 ≤ sizeLine; decide, fun t ht => ?_⟩
      have nD : t ≠ D := fun e => by rw [e, q2] at ht; cases ht
      refine ⟨_, by rw [upd_ne nD.symm]; exact q2, by rw [List.length_map]; exact small1000 (by omega), Same.set (q1.trans (Same.new ht)) hD, ps ++ [t], by rw [upd_same, List.map_append]; rfl, ?_⟩
      rw [take_snoc hf, List.map_append]
      refine TupsAt.upd (xs := ps.map V.ref) (by rw [upd_ne nD.symm]; exact q2) ((q3.same (Same.new ht)).snoc ?_)
      exact upd_same
    · rintro H1 ⟨q1, ps, q2, q3⟩
      have : ps0.length = F.length := by have := hT.1; rw [List.length_map] at this; exact this
      rw [List.length_map, this, List.take_length] at q3
      exact k H1 D ps (s0.trans q1) q2 q3
end
end K1
end
section
set_option maxRecDepth 100000
set_option maxHeartbeats 4000000
namespace K1
open PySem L2 K01
/-- a list of lists of cells -/
structure LMat (H : Hp) (R : Addr) (as : List Addr) (B : Mat) : Prop where
  out : H R = some (.lst (as.map V.ref))
  len : as.length = B.length
  nd : as.Nodup
  ne : R ∉ as
  row : ∀ (i : Nat) (p : Addr) (r : List Cell), as[i]? = some p → B[i]? = some r → H p = some (.lst (r.map cV))
theorem LMat.same {H H' : Hp} {R : Addr} {as : List Addr} {B : Mat} (e : Same H H') (h : LMat H R as B) : LMat H' R as B :=
  ⟨e _ _ h.out, h.len, h.nd, h.ne, fun i p r a b => e _ _ (h.row i p r a b)⟩
theorem LMat.get {H : Hp} {R : Addr} {as : List Addr} {B : Mat} {n x : Nat} (h : LMat H R as B) (S : Sized n B) (hx : x < n) : ∃ p, as[x]? = some p ∧ H p = some (.lst ((rowAt B x).map cV)) := by
  have hl : x < as.length := by rw [h.len, S.1]; exact hx
  obtain ⟨r, h1, h2⟩ := S.row hx
  refine ⟨as[x], List.getElem?_eq_getElem hl, ?_⟩
  rw [rowAt_of h1]
  exact h.row x _ r (List.getElem?_eq_getElem hl) h1
theorem LMat.set {H : Hp} {R : Addr} {as : List Addr} {B : Mat} {n x : Nat} (h : LMat H R as B) (S : Sized n B) (hx : x < n) {p : Addr} (hp : as[x]? = some p) (y : Nat) (v : Cell) :
    LMat (upd H p (.lst (((rowAt B x).map cV).set y (cV v)))) R as (setC B x y v) := by
  have hm : p ∈ as := List.mem_of_getElem? hp
  refine ⟨?_, ?_, h.nd, h.ne, fun i q r h1 h2 => ?_⟩
  · rw [upd_ne (fun e => h.ne (by rw [e]; exact hm))]; exact h.out
  · unfold setC; rw [List.length_set]; exact h.len
  · unfold setC at h2
    rw [List.getElem?_set] at h2
    by_cases e : x = i
    · subst e
      rw [if_pos rfl] at h2
      have hxl : x < B.length := by rw [S.1]; exact hx
      rw [if_pos hxl] at h2
      cases h2
      rw [hp] at h1
      cases h1
      rw [upd_same, List.map_set]
    · rw [if_neg e] at h2
      have : q ≠ p := fun z => e (nd_ix h.nd (by rw [← z] at hp; exact hp) h1)
      rw [upd_ne this]
      exact h.row i q r h1 h2
theorem lst_cell {n : Nat} {B : Mat} (S : Sized n B) {x y : Nat} (hx : x < n) (hy : y < n) : atI ((rowAt B x).map cV) (y : Nat) = some (cV (cell B x y)) := atI_nat (row_cell S hx hy)
theorem LMat.push {H : Hp} {R : Addr} {as : List Addr} {B : Mat} {D : Addr} {r : List Cell} (h : LMat H R as B) (hD : H D = some (.lst (r.map cV))) (h1 : D ∉ as) (h2 : R ≠ D) :
    LMat (upd H R (.lst (as.map V.ref ++ [.ref D]))) R (as ++ [D]) (B ++ [r]) := by
  refine ⟨?_, ?_, ?_, ?_, fun i p q g1 g2 => ?_⟩
  · rw [upd_same, List.map_append]; rfl
  · rw [List.length_append, List.length_append, h.len]; rfl
  · rw [List.nodup_append]
    exact ⟨h.nd, by simp, fun x hx y hy => by rw [List.mem_singleton] at hy; rw [hy]; exact fun e => h1 (e ▸ hx)⟩
  · rw [List.mem_append, List.mem_singleton]
    exact fun e => e.elim h.ne h2
  · by_cases hi : i < as.length
    · rw [List.getElem?_append_left hi] at g1
      rw [List.getElem?_append_left (by rw [← h.len]; exact hi)] at g2
      rw [upd_ne (fun e => h.ne (by rw [← e]; exact List.mem_of_getElem? g1))]
      exact h.row i p q g1 g2
    · rw [List.getElem?_append_right (by omega)] at g1
      rw [List.getElem?_append_right (by rw [← h.len]; omega), ← h.len] at g2
      cases e : i - as.length with
      | zero =>
        rw [e] at g1 g2
        simp at g1 g2
        rw [← g1, ← g2, upd_ne h2.symm]; exact hD
      | succ k => rw [e] at g1; simp at g1
theorem LMat.mem {H : Hp} {R : Addr} {as : List Addr} {B : Mat} (h : LMat H R as B) {p : Addr} (hp : p ∈ as) : H p ≠ none := by
  obtain ⟨i, hi, e⟩ := List.mem_iff_getElem.mp hp
  have hb : i < B.length := by rw [← h.len]; exact hi
  rw [h.row i p _ (List.getElem?_eq_some_iff.mpr ⟨hi, e⟩) (List.getElem?_eq_getElem hb)]
  exact fun z => nomatch z
/-- the matrix, made since H -/
def LM (H : Hp) (R : Addr) (B : Mat) (H' : Hp) : Prop := Same H H' ∧ ∃ as, LMat H' R as B ∧ ∀ a ∈ as, H a = none
theorem ixN_nat {n b : Nat} (h : b < n) : ixN n (b : Nat) = some b := by
  unfold ixN
  rw [if_pos (Int.natCast_nonneg b), if_pos (by exact_mod_cast h)]
  simp
theorem LM.read {H : Hp} {R : Addr} {B : Mat} {H' : Hp} {K : PySem.W.Frag} {n a : Nat} (h : LM H R B H') (S : Sized n B) (ha : a < n) :
    ∃ xs p, SqL K H' R xs ∧ atI xs (a : Nat) = some (.ref p) ∧ SqL K H' p ((rowAt B a).map cV) ∧ H' p = some (.lst ((rowAt B a).map cV)) ∧ ∀ b v, LM H R (setC B a b v) (upd H' p (.lst (((rowAt B a).map cV).set b (cV v)))) := by
  obtain ⟨h1, as, h2, h3⟩ := h
  obtain ⟨p, g1, g2⟩ := h2.get S ha
  refine ⟨_, p, SqL.of h2.out, atI_nat (v := V.ref p) (by rw [List.getElem?_map, g1]; rfl), SqL.of g2, g2, fun b v => ⟨Same.set h1 (h3 p (List.mem_of_getElem? g1)), as, h2.set S ha g1 b v, h3⟩⟩
theorem LM.ix {n : Nat} {B : Mat} (S : Sized n B) {a b : Nat} (ha : a < n) (hb : b < n) : ixN ((rowAt B a).map cV).length (b : Nat) = some b := by
  rw [List.length_map, S.rowAt ha]; exact ixN_nat hb
theorem sz_B {n m a : Nat} {B : Mat} (S : Sized n B) (ha : a < n) (k : Nat) : Sized n ((List.range k).foldl (turnB m a) B) :=
  fold_ind (Sized n) _ _ S fun b x _ h => relax_sized h ha m x
theorem sz_A {n m : Nat} {B : Mat} (S : Sized n B) {k : Nat} (hk : k ≤ n) : Sized n ((List.range k).foldl (turnA n m) B) :=
  fold_ind (Sized n) _ _ S fun b x hx h => sz_B h (Nat.lt_of_lt_of_le (List.mem_range.mp hx) hk) n
theorem sz_M {n : Nat} {B : Mat} (S : Sized n B) (k : Nat) : Sized n ((List.range k).foldl (turnM n) B) :=
  fold_ind (Sized n) _ _ S fun b x hx h => sz_A h (Nat.le_refl n)
theorem sz_E {n : Nat} {B : Mat} (S : Sized n B) {E : List Edge} (hE : InR n E) : Sized n (E.foldl putE B) :=
  fold_ind (Sized n) _ _ S fun b x hx h => lower_sized h (hE x hx).1 _ _
theorem range_snoc {α : Type} (f : α → Nat → α) (a : α) (k : Nat) : (List.range (k + 1)).foldl f a = f ((List.range k).foldl f a) k := by
  rw [List.range_succ, List.foldl_append]; rfl
theorem walk_r0 {n : Nat} : L2.Walk (Itr 0 n) n (fun _ => True) (YFn fun i => V.int (i : Nat)) := by
  have := walk_range (lo := 0) (n := n)
  simpa only [Int.zero_add] using this
theorem for_r0 {n : Nat} {g : TG} {tb : TS} {D : Ends} {σ : St} {H : Hp} (Pv : Nat → St → Hp → Prop) (h0 : Pv 0 σ H)
    (hs : ∀ (i : Nat) (σ : St) (H : Hp), i < n → Pv i σ H → g (V.int (i : Nat)) σ H fun σ2 H2 => tb { nx := Pv (i + 1), rt := D.rt, bk := D.nx, ct := Pv (i + 1) } σ2 H2)
    (hd : ∀ (σ : St) (H : Hp), Pv n σ H → D.nx σ H) :
    ∃ W : Nat → Nat → St → Hp → Prop, (∃ m, W 0 m σ H) ∧ ∀ (i m : Nat) (σ : St) (H : Hp), W i m σ H → (Itr 0 n).stop i H ∧ D.nx σ H ∨ (Itr 0 n).go i H ∧ ∃ N, (∀ (σ' : St) (H' : Hp), N σ' H' → ∃ m', m' < m ∧ W (i + 1) m' σ' H') ∧
      ∀ (x : V) (H' : Hp), (Itr 0 n).yld i H x H' → g x σ H' fun σ2 H2 => tb { nx := N, rt := D.rt, bk := D.nx, ct := N } σ2 H2 :=
  for_it walk_r0 Pv h0 (fun _ _ _ _ _ => trivial) (fun i x σ H H' hi hp ⟨e1, e2⟩ => by subst e1; subst e2; exact hs i σ _ hi hp) hd
theorem inV_01 (i j : Nat) : inV (V.int (i : Nat)) [V.int 0, V.int (j : Nat)] = decide (i = 0 ∨ i = j) := by
  have e : ∀ a b : Int, eqV (.int a) (.int b) = decide (a = b) := fun a b => by
    by_cases h : a = b
    · subst h; simp [eqV]
    · simp [eqV, h]
  simp only [inV, List.any_cons, List.any_nil, Bool.or_false, e]
  rw [Bool.eq_iff_iff]
  simp only [Bool.or_eq_true, decide_eq_true_eq]
  omega
theorem closed_diag {n : Nat} {E : List Edge} (R : InR n E) {x : Nat} (hx : x < n) : ∃ d, cell (closedM n E) x x = some d := by
  obtain ⟨h1, _, h3, _⟩ := start_le R
  obtain ⟨d, h, _⟩ := (fw_tri h1).1.2 hx hx (h3 hx)
  exact ⟨d, h⟩
end K1
end
section
set_option maxRecDepth 100000
set_option maxHeartbeats 4000000
namespace K1
open PySem L2 K01
section
variable {P : Program} {w : World} {K : PySem.W.Frag} {mg : Str → Option Value} {base : Heap}
abbrev sClosed : Stmt := top 51
def spClosed (K : PySem.W.Frag) : Sp := fun vs H Q _ => ∃ (m : Nat) (q : Addr) (ps : List Addr) (E : List Edge), vs = [.int m, .ref q] ∧ m ≤ 100 ∧ H q = some (.lst (ps.map V.ref)) ∧ TupsAt H ps (E.map edgeV) ∧ InR (m + 1) E ∧
  ∀ H', Same H H' → (negs (m + 1) (closedM (m + 1) E) = [] → ∀ R, Q (.ref R) H') ∧ (negs (m + 1) (closedM (m + 1) E) ≠ [] → Q .non H')
abbrev nsC : List Str := ["many", "facts_here", "size", "ax", "by", "rows", "sum_here", "mid", "far"]
theorem scClosed : FnScope nsC ["many", "facts_here"] (defScope sClosed) := ⟨rfl, rfl, rfl, by decide +kernel, rfl, by decide +kernel, by decide +kernel⟩
abbrev tRC (K : PySem.W.Frag) (i j : Nat) : TE := tOp (rIxL K) (tOp (rIxL K) (tVar 5) (tVar i)) (tVar j)
theorem ok_closed {f : Addr} {fd : FuncData} (F : Fun K "_law_closed" "_law_closed" sClosed f fd) (T : Bi mg) : FnOk P w K mg base CX0 1 f fd ["many", "facts_here"] (spClosed K) := by
  refine F.ok scClosed (fun vs H Q E h => ?_) (fun cdv A outer s H vs Q E hr h => ?_)
  · obtain ⟨_, _, _, _, rfl, _⟩ := h
    rfl
  · obtain ⟨m, q, ps, E, rfl, hm, hq, hT, hR, k⟩ := h
    refine ⟨_, pss_cons (ps_set (i := 2) scClosed.nd rfl (.inr rfl) (pe_op op_add (pv 0) pe_int))
      (pss_cons (ps_set (i := 5) scClosed.nd rfl (.inr rfl) (pe_lc (own := [("ax", 3)]) (g := gName 3) (te := tLc (iRng1 (tCons (tVar 2) tNil)) (gName 4) tYes (tIf (tTest (tOp (rIn K false) (tVar 3) (tTup (tCons (tC (.int 0)) (tCons (tVar 4) tNil))))) (tC (.int 0)) (tC .non)) [4]) rfl scClosed.nd
          (pi_range1 (by rfl) T.range (pa_cons (pv 2) pa_nil)) (blkOk_by (N := nsC) (sc := defScope sClosed) (by decide +kernel))
          (fun _ _ _ _ _ => pg_name (i := 3) scClosed.nd rfl (.inr rfl)) (fun _ _ _ _ _ => pts_nil)
          (fun _ _ _ _ _ => pe_lc (own := [("by", 4)]) (g := gName 4) (te := tIf (tTest (tOp (rIn K false) (tVar 3) (tTup (tCons (tC (.int 0)) (tCons (tVar 4) tNil))))) (tC (.int 0)) (tC .non)) rfl scClosed.nd
            (pi_range1 (by rfl) T.range (pa_cons (pv 2) pa_nil)) (blkOk_by (N := nsC) (sc := { kind := .function, names := [(".0", .local), ("ax", .cell), ("range", .globalImplicit), ("size", .cell)], isGenerator := false, isCoroutine := false }) (by decide +kernel))
            (fun _ _ _ _ _ => pg_name (i := 4) scClosed.nd rfl (.inl rfl)) (fun _ _ _ _ _ => pts_nil)
            (fun _ _ _ _ _ => pe_ifExp (pt_cmpR op_in_seq (pv 3) (pe_tup (pa_cons pe_int (pa_cons (pv 4) pa_nil))) (by rfl)) pe_int pe_non))))
      (pss_cons (ps_for PassesOwn.never rfl (pi_list (pv 1)) (pg_tup rfl (pgs_cons (pg_name (i := 3) scClosed.nd rfl (.inl rfl)) (pgs_cons (pg_name (i := 4) scClosed.nd rfl (.inl rfl)) (pgs_cons (pg_name (i := 6) scClosed.nd rfl (.inl rfl)) pgs_nil))))
        (pss_one (ps_if (PW.pt (pw_or (pt_cmpR op_isN (pe_ix ix_list (pe_ix ix_list (pv 5) (pv 3) (fun _ _ => rfl)) (pv 4) (fun _ _ => rfl)) pe_non (nomark _)) (pw_or1 (pt_cmpR op_lt (pv 6) (pe_ix ix_list (pe_ix ix_list (pv 5) (pv 3) (fun _ _ => rfl)) (pv 4) (fun _ _ => rfl)) (nomark _)))))
          (pss_one (ps_asg (pv 6) (pg_sub (pe_ix ix_list (pv 5) (pv 3) (fun _ _ => rfl)) (pv 4) set_list))) pss_nil)))
      (pss_cons (ps_for PassesOwn.never rfl (pi_range1 (by rfl) T.range (pa_cons (pv 2) pa_nil)) (pg_name (i := 7) scClosed.nd rfl (.inl rfl))
        (pss_one (ps_for PassesOwn.never rfl (pi_range1 (by rfl) T.range (pa_cons (pv 2) pa_nil)) (pg_name (i := 3) scClosed.nd rfl (.inl rfl))
          (pss_one (ps_for PassesOwn.never rfl (pi_range1 (by rfl) T.range (pa_cons (pv 2) pa_nil)) (pg_name (i := 4) scClosed.nd rfl (.inl rfl))
            (pss_one (ps_if (PW.pt (pw_and (pt_cmpR op_notN (pe_ix ix_list (pe_ix ix_list (pv 5) (pv 3) (fun _ _ => rfl)) (pv 7) (fun _ _ => rfl)) pe_non (nomark _)) (pw_and1 (pt_cmpR op_notN (pe_ix ix_list (pe_ix ix_list (pv 5) (pv 7) (fun _ _ => rfl)) (pv 4) (fun _ _ => rfl)) pe_non (nomark _)))))
              (pss_cons (ps_set (i := 8) scClosed.nd rfl (.inl rfl) (pe_op op_add (pe_ix ix_list (pe_ix ix_list (pv 5) (pv 3) (fun _ _ => rfl)) (pv 7) (fun _ _ => rfl)) (pe_ix ix_list (pe_ix ix_list (pv 5) (pv 7) (fun _ _ => rfl)) (pv 4) (fun _ _ => rfl))))
              (pss_one (ps_if (PW.pt (pw_or (pt_cmpR op_isN (pe_ix ix_list (pe_ix ix_list (pv 5) (pv 3) (fun _ _ => rfl)) (pv 4) (fun _ _ => rfl)) pe_non (nomark _)) (pw_or1 (pt_cmpR op_lt (pv 8) (pe_ix ix_list (pe_ix ix_list (pv 5) (pv 3) (fun _ _ => rfl)) (pv 4) (fun _ _ => rfl)) (nomark _)))))
                (pss_one (ps_asg (pv 8) (pg_sub (pe_ix ix_list (pv 5) (pv 3) (fun _ _ => rfl)) (pv 4) set_list))) pss_nil))) pss_nil)))))))
      (pss_one (ps_ret (pe_ifExp (pt_cmpR (op_eqD hr.units) (pe_lc (own := [("ax", 3)]) (g := gName 3) (tt := tTest (tOp (rI0 fun i j => V.bl (decide (i < j))) (tRC K 3 3) (tC (.int 0)))) rfl scClosed.nd (pi_range1 (by rfl) T.range (pa_cons (pv 2) pa_nil)) (blkOk_by (N := nsC) (sc := defScope sClosed) (by decide +kernel))
        (fun _ _ _ _ _ => pg_name (i := 3) scClosed.nd rfl (.inl rfl)) (fun _ _ _ _ _ => pts_one (pt_cmpR op_lt (pe_ix ix_list (pe_ix ix_list (pv 5) (pv 3) (fun _ _ => rfl)) (pv 3) (fun _ _ => rfl)) pe_int (nomark _))) (fun _ _ _ _ _ => pv 3)) (pe_lst pa_nil) (nomark _)) (pv 5) pe_non)))))), ?_⟩
    refine ⟨_, rfl, _, _, rfl, rfl, _, rfl, _, rfl, by omega, by omega, fun R hR0 => ?_⟩
    have hR00 : H R = none := hR0
    have em : ((m : Int) + 1).toNat = m + 1 := by omega
    rw [em]
    -- the rows
    refine lc_it (walk_r0 (n := m + 1)) (fun i H' => LM H R ((row0 (m + 1)).take i) H') ⟨Same.new hR0, [], ⟨upd_same, rfl, List.nodup_nil, by simp, fun i p r h => nomatch h⟩, by simp⟩ (fun _ _ _ _ => trivial) ?_ ?_
    · rintro i v H1 H2 hi ⟨s1, as, hA, hfr⟩ ⟨rfl, rfl⟩
      have hrow : (row0 (m + 1))[i]? = some ((List.range (m + 1)).map fun b => if i = 0 ∨ i = b then some 0 else none) := by
        unfold row0
        rw [List.getElem?_map, List.getElem?_range hi]
        rfl
      generalize hrf : ((List.range (m + 1)).map fun b => if i = 0 ∨ i = b then (some 0 : Cell) else none) = rf at hrow
      have rl : rf.length = m + 1 := by rw [← hrf]; simp
      refine ⟨rfl, yes_ ⟨_, rfl, _, rfl, by omega, by omega, fun D hD => ?_⟩⟩
      rw [em]
      have s2 : Same H (upd H2 D (.lst [])) := s1.trans (Same.new hD)
      refine lc_it (walk_r0 (n := m + 1)) (fun j H' => Same H2 H' ∧ H' D = some (.lst ((rf.take j).map cV))) ⟨Same.new hD, upd_same⟩ (fun _ _ _ _ => trivial) ?_ ?_
      · rintro j v H3 H4 hj ⟨t1, t2⟩ ⟨rfl, rfl⟩
        have hg : rf[j]? = some (if i = 0 ∨ i = j then some 0 else none) := by
          rw [← hrf, List.getElem?_map, List.getElem?_range hj]
          rfl
        refine ⟨rfl, yes_ ⟨_, rfl, _, rfl, by show 2 ≤ sizeLine; decide, fun t ht => ?_⟩⟩
        refine ⟨t, _, rfl, .inr tup_at, rfl, rfl, _, rfl, ?_⟩
        have nD : D ≠ t := fun e => by rw [← e, t2] at ht; cases ht
        have fin : ∀ {z}, z = cV (if i = 0 ∨ i = j then some 0 else none) → ∃ acc, (upd H4 t (.tup [.int 0, .int (j : Nat)])) D = some (HO.lst acc) ∧ acc.length < sizeLine ∧ (Same H2 (upd (upd H4 t (.tup [.int 0, .int (j : Nat)])) D (.lst (acc ++ [z]))) ∧ (upd (upd H4 t (.tup [.int 0, .int (j : Nat)])) D (.lst (acc ++ [z]))) D = some (.lst ((rf.take (j + 1)).map cV))) := by
          intro z hz
          refine ⟨_, (upd_ne nD).trans t2, ?_, Same.set (t1.trans (Same.new ht)) hD, ?_⟩
          · rw [List.length_map, List.length_take]
            exact Nat.lt_of_le_of_lt (Nat.min_le_left _ _) (small1000 (by omega))
          · rw [upd_same, take_snoc hg, List.map_append, hz]
            rfl
        rw [inV_01, if_neg Bool.false_ne_true]
        by_cases e : i = 0 ∨ i = j
        · exact iteDT e (fin (by rw [if_pos e]; rfl))
        · exact iteDF e (fin (by rw [if_neg e]; rfl))
      · rintro H3 ⟨t1, t2⟩
        have hRn : H2 R = some (.lst (as.map V.ref)) := hA.out
        have nRD : R ≠ D := fun e => by rw [← e, hRn] at hD; cases hD
        have hft : rf.take (m + 1) = rf := by rw [← rl, List.take_length]
        rw [hft] at t2
        have hasl : as.length = i := by
          have := hA.len
          rw [List.length_take, (row0_sized (m + 1)).1] at this
          omega
        refine ⟨_, t1 _ _ hRn, by rw [List.length_map]; exact small1000 (by omega), Same.set (s1.trans t1) hR00, as ++ [D], ?_, ?_⟩
        · rw [take_snoc hrow]
          exact (hA.same t1).push t2 (fun h => hA.mem h hD) nRD
        · intro a ha
          rcases List.mem_append.mp ha with ha | ha
          · exact hfr a ha
          · rw [List.mem_singleton] at ha
            rw [ha]
            exact s1.free hD
    · rintro H1 hL
      have hft : (row0 (m + 1)).take (m + 1) = row0 (m + 1) := by
        have := (row0_sized (m + 1)).1
        conv => lhs; arg 1; rw [← this]
        rw [List.take_length]
      rw [hft] at hL
      -- the facts
      refine ⟨_, rfl, q, rfl, ⟨_, SqL.of (hL.1 _ _ hq)⟩, for_it (walk_list (K := K) (a := q) (xs := ps.map V.ref)) (fun i σ H' => (∃ x y s mi fa, σ = [some (.int (m : Nat)), some (.ref q), some (.int ((m : Int) + 1)), x, y, some (.ref R), s, mi, fa]) ∧ LM H R ((E.take i).foldl putE (row0 (m + 1))) H')
        ⟨⟨_, _, _, _, _, rfl⟩, hL⟩ (fun i σ H' _ u => SqL.of (u.2.1 _ _ hq)) ?_ ?_⟩
      · rintro i v σ H2 H3 hi ⟨⟨x, y, s, mi, fa, rfl⟩, hM⟩ ⟨rfl, hv⟩
        obtain ⟨p, hp, rfl⟩ := get_map hv
        obtain ⟨xs, hxs, hpx⟩ := (hT.same hM.1).get hp
        obtain ⟨e, he, rfl⟩ := get_map hxs
        obtain ⟨ea, eb, es⟩ := e
        have hab := hR _ (List.mem_of_getElem? he)
        have S : Sized (m + 1) ((E.take i).foldl putE (row0 (m + 1))) := sz_E (row0_sized _) (fun e h => hR e (List.mem_of_mem_take h))
        have hst : (E.take (i + 1)).foldl putE (row0 (m + 1)) = lower ((E.take i).foldl putE (row0 (m + 1))) ea eb es := by
          rw [take_snoc he, List.foldl_append]; rfl
        rw [hst]
        generalize (E.take i).foldl putE (row0 (m + 1)) = B at hM S
        obtain ⟨us, pa, r1, r2, r3, r4, r5⟩ := hM.read (K := K) S hab.1
        have r6 := lst_cell S hab.1 hab.2
        have r7 := LM.ix S hab.1 hab.2
        refine ⟨p, _, rfl, SqT.of hpx, rfl, _, _, rfl, _, _, rfl, _, _, rfl, rfl, ?_⟩
        refine ⟨_, rfl, _, rfl, _, _, _, _, rfl, rfl, r1, r2, _, rfl, _, _, _, _, rfl, rfl, r3, r6, rfl, _, rfl, ?_⟩
        cases hc : cell B ea eb with
        | none =>
          have hlo : lower B ea eb es = setC B ea eb (some es) := by unfold lower; rw [hc]
          rw [hlo]
          exact iteDT rfl (iteT ⟨_, rfl, _, rfl, _, rfl, _, _, _, _, rfl, rfl, r1, r2, _, rfl, pa, _, _, eb, rfl, rfl, r4, r7, ⟨_, _, _, _, _, rfl⟩, r5 eb (some es)⟩)
        | some o =>
          have hlo : lower B ea eb es = if es < o then setC B ea eb (some es) else B := by unfold lower; rw [hc]
          rw [hlo]
          rw [hc] at r6
          refine iteDF (fun z => nomatch z) ⟨_, rfl, _, rfl, _, rfl, _, _, _, _, rfl, rfl, r1, r2, _, rfl, _, _, _, _, rfl, rfl, r3, r6, _, _, rfl, rfl, _, rfl, ?_⟩
          by_cases hlt : es < o
          · rw [if_pos hlt]
            exact iteDT hlt ⟨_, rfl, _, rfl, _, rfl, _, _, _, _, rfl, rfl, r1, r2, _, rfl, pa, _, _, eb, rfl, rfl, r4, r7, ⟨_, _, _, _, _, rfl⟩, r5 eb (some es)⟩
          · rw [if_neg hlt]
            exact iteDF hlt ⟨⟨_, _, _, _, _, rfl⟩, hM⟩
      · rintro σ H2 ⟨⟨x, y, s, mi, fa, rfl⟩, hM⟩
        have hEl : (ps.map V.ref).length = E.length := by rw [List.length_map, hT.1, List.length_map]
        rw [hEl, List.take_length] at hM
        have hM : LM H R (start (m + 1) E) H2 := hM
        have S0 : Sized (m + 1) (start (m + 1) E) := (start_le hR).1
        -- the closing
        refine ⟨_, rfl, _, rfl, by omega, by omega, ?_⟩
        rw [em]
        refine for_r0 (fun i σ H' => (∃ x y s mi fa, σ = [some (.int (m : Nat)), some (.ref q), some (.int ((m : Int) + 1)), x, y, some (.ref R), s, mi, fa]) ∧ LM H R ((List.range i).foldl (turnM (m + 1)) (start (m + 1) E)) H')
          ⟨⟨_, _, _, _, _, rfl⟩, hM⟩ ?_ ?_
        · rintro i σ H3 hi ⟨⟨x, y, s, mi, fa, rfl⟩, hM⟩
          have S1 := sz_M S0 i
          rw [range_snoc]
          generalize (List.range i).foldl (turnM (m + 1)) (start (m + 1) E) = B1 at hM S1
          refine ⟨_, rfl, _, rfl, by omega, by omega, ?_⟩
          rw [em]
          refine for_r0 (fun j σ H' => (∃ x y s fa, σ = [some (.int (m : Nat)), some (.ref q), some (.int ((m : Int) + 1)), x, y, some (.ref R), s, some (.int (i : Nat)), fa]) ∧ LM H R ((List.range j).foldl (turnA (m + 1) i) B1) H')
            ⟨⟨_, _, _, _, rfl⟩, hM⟩ ?_ ?_
          · rintro j σ H4 hj ⟨⟨x, y, s, fa, rfl⟩, hM⟩
            have S2 := sz_A (m := i) S1 (Nat.le_of_lt hj)
            rw [range_snoc]
            generalize (List.range j).foldl (turnA (m + 1) i) B1 = B2 at hM S2
            refine ⟨_, rfl, _, rfl, by omega, by omega, ?_⟩
            rw [em]
            refine for_r0 (fun l σ H' => (∃ y s fa, σ = [some (.int (m : Nat)), some (.ref q), some (.int ((m : Int) + 1)), some (.int (j : Nat)), y, some (.ref R), s, some (.int (i : Nat)), fa]) ∧ LM H R ((List.range l).foldl (turnB i j) B2) H')
              ⟨⟨_, _, _, rfl⟩, hM⟩ ?_ ?_
            · rintro l σ H5 hl ⟨⟨y, s, fa, rfl⟩, hM⟩
              have S3 := sz_B (m := i) S2 hj l
              rw [range_snoc]
              generalize (List.range l).foldl (turnB i j) B2 = B at hM S3
              obtain ⟨us, pa, r1, r2, r3, r4, r5⟩ := hM.read (K := K) S3 hj
              obtain ⟨us', pb, q1, q2, q3, _, _⟩ := hM.read (K := K) S3 hi
              have c1 := lst_cell S3 hj hi
              have c2 := lst_cell S3 hi hl
              have c3 := lst_cell S3 hj hl
              have r7 := LM.ix S3 hj hl
              show gName _ _ _ H5 _
              refine ⟨_, rfl, _, rfl, _, _, _, _, rfl, rfl, r1, r2, _, rfl, _, _, _, _, rfl, rfl, r3, c1, rfl, _, rfl, ?_⟩
              cases e1 : cell B j i with
              | none =>
                have hre : turnB i j B l = B := by unfold turnB relax; rw [e1]
                rw [hre]
                exact iteNS rfl ⟨⟨_, _, _, rfl⟩, hM⟩
              | some x1 =>
                rw [e1] at c1
                refine iteNF (fun z => nomatch z) ⟨_, rfl, _, rfl, _, _, _, _, rfl, rfl, q1, q2, _, rfl, _, _, _, _, rfl, rfl, q3, c2, rfl, _, rfl, ?_⟩
                cases e2 : cell B i l with
                | none =>
                  have hre : turnB i j B l = B := by unfold turnB relax; rw [e1]; simp only [e2]
                  rw [hre]
                  exact iteNS rfl ⟨⟨_, _, _, rfl⟩, hM⟩
                | some x2 =>
                  rw [e2] at c2
                  refine iteNF (fun z => nomatch z) ⟨_, rfl, _, rfl, _, _, _, _, rfl, rfl, r1, r2, _, rfl, _, _, _, _, rfl, rfl, r3, c1, _, rfl, _, rfl, _, _, _, _, rfl, rfl, q1, q2, _, rfl, _, _, _, _, rfl, rfl, q3, c2, _, _, rfl, rfl, ?_⟩
                  refine ⟨_, rfl, _, rfl, _, _, _, _, rfl, rfl, r1, r2, _, rfl, _, _, _, _, rfl, rfl, r3, c3, rfl, _, rfl, ?_⟩
                  have hre : turnB i j B l = lower B j l (x1 + x2) := by unfold turnB relax; rw [e1]; simp only [e2]
                  rw [hre]
                  cases hc : cell B j l with
                  | none =>
                    have hlo : lower B j l (x1 + x2) = setC B j l (some (x1 + x2)) := by unfold lower; rw [hc]
                    rw [hlo]
                    exact iteDT rfl (iteT ⟨_, rfl, _, rfl, _, rfl, _, _, _, _, rfl, rfl, r1, r2, _, rfl, pa, _, _, l, rfl, rfl, r4, r7, ⟨_, _, _, rfl⟩, r5 l (some (x1 + x2))⟩)
                  | some o =>
                    have hlo : lower B j l (x1 + x2) = if (x1 + x2) < o then setC B j l (some (x1 + x2)) else B := by unfold lower; rw [hc]
                    rw [hlo]
                    rw [hc] at c3
                    refine iteDF (fun z => nomatch z) ⟨_, rfl, _, rfl, _, rfl, _, _, _, _, rfl, rfl, r1, r2, _, rfl, _, _, _, _, rfl, rfl, r3, c3, _, _, rfl, rfl, _, rfl, ?_⟩
                    by_cases hlt : (x1 + x2) < o
                    · rw [if_pos hlt]
                      exact iteDT hlt ⟨_, rfl, _, rfl, _, rfl, _, _, _, _, rfl, rfl, r1, r2, _, rfl, pa, _, _, l, rfl, rfl, r4, r7, ⟨_, _, _, rfl⟩, r5 l (some (x1 + x2))⟩
                    · rw [if_neg hlt]
                      exact iteDF hlt ⟨⟨_, _, _, rfl⟩, hM⟩
            · rintro σ H5 ⟨⟨y, s, fa, rfl⟩, hM⟩
              exact ⟨⟨_, _, _, _, rfl⟩, hM⟩
          · rintro σ H4 ⟨⟨x, y, s, fa, rfl⟩, hM⟩
            exact ⟨⟨_, _, _, _, _, rfl⟩, hM⟩
        · rintro σ H3 ⟨⟨x, y, s, mi, fa, rfl⟩, hM⟩
          have hM : LM H R (closedM (m + 1) E) H3 := hM
          have SC : Sized (m + 1) (closedM (m + 1) E) := (fw_tri S0).1.1
          have hdg := fun z (hz : z < m + 1) => closed_diag hR hz
          generalize closedM (m + 1) E = B at hM SC hdg k
          refine ⟨_, rfl, _, rfl, by omega, by omega, fun D hD => ?_⟩
          rw [em]
          refine lc_it (walk_r0 (n := m + 1)) (fun i H' => Same H3 H' ∧ H' D = some (.lst ((((List.range i).filter (below0 B)).map fun z => V.int (z : Nat))))) ⟨Same.new hD, upd_same⟩ (fun _ _ _ _ => trivial) ?_ ?_
          · rintro i v H4 H5 hi ⟨q1, q2⟩ ⟨rfl, rfl⟩
            obtain ⟨d, hd⟩ := hdg i hi
            obtain ⟨us, pa, r1, r2, r3, r4, r5⟩ := LM.read (K := K) ⟨hM.1.trans q1, hM.2.imp fun as h => ⟨h.1.same q1, h.2⟩⟩ SC hi
            have c1 := lst_cell SC hi hi
            rw [hd] at c1
            refine ⟨rfl, _, rfl, _, rfl, _, _, _, _, rfl, rfl, r1, r2, _, rfl, _, _, _, _, rfl, rfl, r3, c1, _, _, rfl, rfl, _, rfl, ?_⟩
            have hn : ((List.range i).filter (below0 B)).length ≤ 1000 := by
              have a1 := List.length_filter_le (below0 B) (List.range i)
              rw [List.length_range] at a1
              omega
            have hb : below0 B i = decide (d < 0) := by unfold below0; rw [hd]
            by_cases hl : d < 0
            · refine iteDT hl ⟨_, rfl, _, q2, by rw [List.length_map]; exact small1000 hn, Same.set q1 hD, ?_⟩
              rw [upd_same, List.range_succ, List.filter_append, List.filter_cons_of_pos (by rw [hb]; exact decide_eq_true hl), List.filter_nil, List.map_append]
              rfl
            · refine iteDF hl ⟨q1, ?_⟩
              rw [List.range_succ, List.filter_append, List.filter_cons_of_neg (by rw [hb, decide_eq_false hl]; exact Bool.false_ne_true), List.filter_nil, List.append_nil]
              exact q2
          · rintro H4 ⟨q1, q2⟩
            refine ⟨Nat.zero_le _, fun e he => ?_⟩
            have eD : D ≠ e := fun q => by rw [← q, q2] at he; cases he
            have q2' : (upd H4 e (.lst [])) D = _ := (upd_ne eD).trans q2
            refine ⟨.list _, .list [], .lst (SqL.of q2') (flats_dp ?_), .lst (SqL.of upd_same) .nil, ?_, shaped_nil, ?_⟩
            · intro v hv
              obtain ⟨u, _, rfl⟩ := List.mem_map.mp hv
              exact .int _
            · refine Lv.shaped (n := 1) (Lv.list (n := 0) ?_) (by decide)
              intro d hd
              obtain ⟨v, hv, rfl⟩ := List.mem_map.mp hd
              obtain ⟨u, hu, rfl⟩ := List.mem_map.mp hv
              exact Lv.int _
            · rw [eqv_nil]
              have kk := k _ ((hM.1.trans q1).trans (Same.new (o := .lst []) he))
              refine ⟨_, rfl, ?_⟩
              unfold negs at kk
              cases hn : (List.range (m + 1)).filter (below0 B) with
              | nil => exact ⟨_, rfl, kk.1 hn R⟩
              | cons z zs => exact kk.2 (by rw [hn]; exact fun q => nomatch q)
end
end K1
end
section
set_option maxRecDepth 100000
set_option maxHeartbeats 4000000
namespace K1
open PySem L2 K01
def kindZ : Nat → Str
  | 0 => "marks"
  | 1 => "takes"
  | _ => "fact"
section
variable {P : Program} {w : World} {K : PySem.W.Frag} {mg : Str → Option Value} {base : Heap}
abbrev sSF : Stmt := top 58
def spSF (K : PySem.W.Frag) : Sp := fun vs H Q _ => ∃ (a b c : Addr) (ms ts : List Str) (fs : List (List V)), vs = [.ref a, .ref b, .ref c] ∧ strsT K H a ms ∧ Short ms ∧ ms.length ≤ 100 ∧ (∀ z ∈ ms, AscZ z) ∧ strsT K H b ts ∧ ts.length ≤ 400 ∧ TTAt K H c fs ∧ FlatF fs ∧ fs.length ≤ 400 ∧
  (∀ k i H' p, fault ms ts fs = some (k, i) → Same H H' → H' p = some (.tup [.str (kindZ k), .int (i : Nat)]) → Q (.ref p) H') ∧
  (fault ms ts fs = none → ∀ H' MS, fs = MS.map factV → InN ms MS → Same H H' → (negs (ms.length + 1) (closedM (ms.length + 1) (MS.map (eF ms))) = [] → Q .non H') ∧ (negs (ms.length + 1) (closedM (ms.length + 1) (MS.map (eF ms))) ≠ [] → ∀ p, H' p = some (.tup [.str "ring"]) → Q (.ref p) H'))
theorem scSF : FnScope ["marks_here", "takes_here", "facts_here", "k"] ["marks_here", "takes_here", "facts_here"] (defScope sSF) := ⟨rfl, rfl, rfl, by decide +kernel, rfl, by decide +kernel, by decide +kernel⟩
theorem ok_sf {f fG fF fN fC : Addr} {fd fdG fdF fdN fdC : FuncData} (F : Fun K "_law_sheet_fault" "_law_sheet_fault" sSF f fd) (T : Bi mg)
    (FG : Fun K "_law_name_good" "_law_name_good" sGood fG fdG) (bG : Binds K fdG ["value"] []) (mG : mg "_law_name_good" = some (.ref fG))
    (FF : Fun K "_law_fact_good" "_law_fact_good" sFGood fF fdF) (bF : Binds K fdF ["marks_here", "row"] []) (mF : mg "_law_fact_good" = some (.ref fF))
    (FN : Fun K "_law_numbered" "_law_numbered" sNum fN fdN) (bN : Binds K fdN ["marks_here", "facts_here"] []) (mN : mg "_law_numbered" = some (.ref fN))
    (FC : Fun K "_law_closed" "_law_closed" sClosed fC fdC) (bC : Binds K fdC ["many", "facts_here"] []) (mC : mg "_law_closed" = some (.ref fC)) :
    FnOk P w K mg base CX0 2 f fd ["marks_here", "takes_here", "facts_here"] (spSF K) := by
  have GG : FnOk P w K mg base CX0 1 fG fdG ["value"] (spGood K) := ok_good FG T
  have GF : FnOk P w K mg base CX0 1 fF fdF ["marks_here", "row"] (spFGood K) := ok_fgood FF T
  have GN : FnOk P w K mg base CX0 1 fN fdN ["marks_here", "facts_here"] (spNum K) := ok_num FN T
  have GC : FnOk P w K mg base CX0 1 fC fdC ["many", "facts_here"] (spClosed K) := ok_closed FC T
  refine F.ok scSF (fun vs H Q E h => ?_) (fun cdv A outer s H vs Q E hr h => ?_)
  · obtain ⟨_, _, _, _, _, _, rfl, _⟩ := h
    rfl
  · obtain ⟨a, b, c, ms, ts, fs, rfl, hm, hs, hml, ha, ht, htl, hf, hff, hfl, k1, k2⟩ := h
    refine ⟨_, pss_cons (ps_for PassesOwn.never rfl (pi_range1 (by rfl) T.range (pa_cons (pe_callB call_len_seq (by rfl) T.len PySem.boot_len (pa_cons (pv 0) pa_nil)) pa_nil)) (pg_name (i := 3) scSF.nd rfl (.inl rfl))
        (pss_one (ps_if (PW.pt (pw_or (pt_not (pt_val (pe_call GG hr rfl mG FG.kp bG .nil pass0 (pa_cons (pe_ix ix_tup (pv 0) (pv 3) (fun _ _ => rfl)) pa_nil)))) (pw_or (pt_cmpR op_eq (pe_ix ix_tup (pv 0) (pv 3) (fun _ _ => rfl)) pe_str (nomark _)) (pw_or1 (pt_cmpR op_in_seq (pe_ix ix_tup (pv 0) (pv 3) (fun _ _ => rfl)) (pe_slice sl_tupA (pv 0) po_none (po_some (pv 3))) (by rfl))))))
          (pss_one (ps_ret (pe_tup (pa_cons pe_str (pa_cons (pv 3) pa_nil))))) pss_nil)))
      (pss_cons (ps_for PassesOwn.never rfl (pi_range1 (by rfl) T.range (pa_cons (pe_callB call_len_seq (by rfl) T.len PySem.boot_len (pa_cons (pv 1) pa_nil)) pa_nil)) (pg_name (i := 3) scSF.nd rfl (.inl rfl))
        (pss_one (ps_if (PW.pt (pw_or (pt_cmpR op_notIn_seq (pe_ix ix_tup (pv 1) (pv 3) (fun _ _ => rfl)) (pv 0) (by rfl)) (pw_or1 (pt_cmpR op_in_seq (pe_ix ix_tup (pv 1) (pv 3) (fun _ _ => rfl)) (pe_slice sl_tupA (pv 1) po_none (po_some (pv 3))) (by rfl)))))
          (pss_one (ps_ret (pe_tup (pa_cons pe_str (pa_cons (pv 3) pa_nil))))) pss_nil)))
      (pss_cons (ps_for PassesOwn.never rfl (pi_range1 (by rfl) T.range (pa_cons (pe_callB call_len_seq (by rfl) T.len PySem.boot_len (pa_cons (pv 2) pa_nil)) pa_nil)) (pg_name (i := 3) scSF.nd rfl (.inl rfl))
        (pss_one (ps_if (pt_not (pt_val (pe_call GF hr rfl mF FF.kp bF .nil pass0 (pa_cons (pv 0) (pa_cons (pe_ix ix_tup (pv 2) (pv 3) (fun _ _ => rfl)) pa_nil)))))
          (pss_one (ps_ret (pe_tup (pa_cons pe_str (pa_cons (pv 3) pa_nil))))) pss_nil)))
      (pss_one (ps_ret (pe_ifExp (pt_cmpR op_isN (pe_call GC hr rfl mC FC.kp bC .nil pass0 (pa_cons (pe_callB call_len_seq (by rfl) T.len PySem.boot_len (pa_cons (pv 0) pa_nil)) (pa_cons (pe_call GN hr rfl mN FN.kp bN .nil pass0 (pa_cons (pv 0) (pa_cons (pv 2) pa_nil))) pa_nil))) pe_non (nomark _)) (pe_tup (pa_cons pe_str pa_nil)) pe_non))))), ?_⟩
    have ft : ∀ i, fault ms ts fs = some i → ∀ H' p, Same H H' → H' p = some (.tup [.str (kindZ i.1), .int (i.2 : Nat)]) → Q (.ref p) H' := fun i e H' p s q => k1 i.1 i.2 H' p e s q
    refine ⟨_, rfl, a, _, rfl, .inr hm, _, rfl, by omega, ?_, ?_⟩
    · rw [List.length_map]; omega
    rw [Int.toNat_natCast, List.length_map]
    refine for_r0 (fun i σ H' => (∃ v : Option V, σ = [some (.ref a), some (.ref b), some (.ref c), v]) ∧ Same H H' ∧ ∀ j, j < i → badMark ms j = false) ⟨⟨_, rfl⟩, Same.refl H, fun j h => absurd h (Nat.not_lt_zero _)⟩ ?_ ?_
    · rintro i σ H1 hi ⟨⟨v, rfl⟩, s1, q2⟩
      have hz : ms[i]? = some ms[i] := List.getElem?_eq_getElem hi
      generalize ms[i] = z at hz
      have hmk : markAt ms i = z := by unfold markAt; rw [hz]; rfl
      have hb : badMark ms i = (!(nameOk z) || (decide (z = "zero") || decide (z ∈ ms.take i))) := by unfold badMark; rw [hmk]
      have hg : atI (ms.map V.str) (i : Nat) = some (.str z) := atI_nat (by rw [List.getElem?_map, hz]; rfl)
      have hm1 := Same.tup (K := K) s1 hm
      have hzm := List.mem_of_getElem? hz
      have yes : ∀ H' p, Same H H' → badMark ms i = true → H' p = none → Q (.ref p) (upd H' p (.tup [.str "marks", .int (i : Nat)])) := fun H' p s3 e hp => by
        refine ft (0, i) ?_ _ p (s3.trans (Same.new hp)) upd_same
        unfold fault
        rw [first_some hi q2 e]
      refine ⟨_, rfl, _, rfl, _, _, _, _, rfl, rfl, hm1, hg, z, rfl, hs.2 z hzm, ha z hzm, fun H2 s2 => ⟨_, rfl, ?_⟩⟩
      have s12 := s1.trans s2
      cases e1 : nameOk z with
      | false => exact iteT (iteT ⟨_, rfl, by show 2 ≤ sizeLine; decide, fun p hp => yes _ p s12 (by rw [hb, e1]; rfl) hp⟩)
      | true =>
        refine iteF ⟨_, rfl, _, rfl, _, _, _, _, rfl, rfl, Same.tup s2 hm1, hg, rfl, _, rfl, ?_⟩
        by_cases e2 : z = "zero"
        · exact iteDT (by rw [e2]) (iteT ⟨_, rfl, by show 2 ≤ sizeLine; decide, fun p hp => yes _ p s12 (by rw [hb, e1, decide_eq_true e2]; rfl) hp⟩)
        · refine iteDF (fun q => e2 (V.str.inj q)) ?_
          refine ⟨_, rfl, _, rfl, _, _, _, _, rfl, rfl, Same.tup s2 hm1, hg, _, rfl, _, rfl, _, rfl, a, _, rfl, Same.tup s2 hm1, fun w => ?_, fun w u hu => ?_⟩
          · rw [HT.sIx_nat, HT.sIx_none, List.length_map] at w
            omega
          · refine ⟨u, _, rfl, .inr (by rw [cut_take, ← List.map_take]; exact tup_at), rfl, strs_flat _, _, rfl, ?_⟩
            rw [if_neg Bool.false_ne_true, inV_str]
            by_cases e3 : z ∈ ms.take i
            · exact iteDT e3 ⟨_, rfl, by show 2 ≤ sizeLine; decide, fun p hp => yes _ p (s12.trans (Same.new hu)) (by rw [hb, decide_eq_true e3]; simp) hp⟩
            · refine iteDF e3 ⟨⟨_, rfl⟩, s12.trans (Same.new hu), fun j hj => ?_⟩
              by_cases e4 : j = i
              · rw [e4, hb, e1, decide_eq_false e2, decide_eq_false e3]; rfl
              · exact q2 j (by omega)
    rintro σ H1 ⟨⟨v, rfl⟩, s1, hA⟩
    have fA := first_none hA
    -- takes
    refine ⟨_, rfl, b, _, rfl, .inr (Same.tup s1 ht), _, rfl, by omega, ?_, ?_⟩
    · rw [List.length_map]; omega
    rw [Int.toNat_natCast, List.length_map]
    refine for_r0 (fun i σ H' => (∃ v : Option V, σ = [some (.ref a), some (.ref b), some (.ref c), v]) ∧ Same H H' ∧ ∀ j, j < i → badTake ms ts j = false) ⟨⟨_, rfl⟩, s1, fun j h => absurd h (Nat.not_lt_zero _)⟩ ?_ ?_
    · rintro i σ H1 hi ⟨⟨v, rfl⟩, s1, q2⟩
      have hz : ts[i]? = some ts[i] := List.getElem?_eq_getElem hi
      generalize ts[i] = z at hz
      have hmk : markAt ts i = z := by unfold markAt; rw [hz]; rfl
      have hb : badTake ms ts i = (!decide (z ∈ ms) || decide (z ∈ ts.take i)) := by unfold badTake; rw [hmk]
      have hg : atI (ts.map V.str) (i : Nat) = some (.str z) := atI_nat (by rw [List.getElem?_map, hz]; rfl)
      have hm1 := Same.tup (K := K) s1 hm
      have ht1 := Same.tup (K := K) s1 ht
      have yes : ∀ H' p, Same H H' → badTake ms ts i = true → H' p = none → Q (.ref p) (upd H' p (.tup [.str "takes", .int (i : Nat)])) := fun H' p s3 e hp => by
        refine ft (1, i) ?_ _ p (s3.trans (Same.new hp)) upd_same
        unfold fault
        rw [fA]
        simp only []
        rw [first_some hi q2 e]
      refine ⟨_, rfl, _, rfl, _, _, _, _, rfl, rfl, ht1, hg, _, rfl, a, _, rfl, .inr hm1, rfl, strs_flat _, _, rfl, ?_⟩
      rw [if_pos rfl, inV_str]
      by_cases e1 : z ∈ ms
      · refine iteNS e1 ?_
        refine ⟨_, rfl, _, rfl, _, _, _, _, rfl, rfl, ht1, hg, _, rfl, _, rfl, _, rfl, b, _, rfl, ht1, fun w => ?_, fun w u hu => ?_⟩
        · rw [HT.sIx_nat, HT.sIx_none, List.length_map] at w
          omega
        · refine ⟨u, _, rfl, .inr (by rw [cut_take, ← List.map_take]; exact tup_at), rfl, strs_flat _, _, rfl, ?_⟩
          rw [if_neg Bool.false_ne_true, inV_str]
          by_cases e3 : z ∈ ts.take i
          · exact iteDT e3 ⟨_, rfl, by show 2 ≤ sizeLine; decide, fun p hp => yes _ p (s1.trans (Same.new hu)) (by rw [hb, decide_eq_true e3]; simp) hp⟩
          · refine iteDF e3 ⟨⟨_, rfl⟩, s1.trans (Same.new hu), fun j hj => ?_⟩
            by_cases e4 : j = i
            · rw [e4, hb, decide_eq_true e1, decide_eq_false e3]; rfl
            · exact q2 j (by omega)
      · exact iteNF e1 (iteT ⟨_, rfl, by show 2 ≤ sizeLine; decide, fun p hp => yes _ p s1 (by rw [hb, decide_eq_false e1]; rfl) hp⟩)
    rintro σ H2 ⟨⟨v, rfl⟩, s2, hB⟩
    have fB := first_none hB
    -- facts
    obtain ⟨ps, hq, hT⟩ := hf
    have hpl : ps.length = fs.length := hT.1
    refine ⟨_, rfl, c, _, rfl, .inr (Same.tup s2 hq), _, rfl, by omega, ?_, ?_⟩
    · rw [List.length_map]; omega
    rw [Int.toNat_natCast, List.length_map, hpl]
    refine for_r0 (fun i σ H' => (∃ v : Option V, σ = [some (.ref a), some (.ref b), some (.ref c), v]) ∧ Same H H' ∧ ∀ j, j < i → badFact ms fs j = false) ⟨⟨_, rfl⟩, s2, fun j h => absurd h (Nat.not_lt_zero _)⟩ ?_ ?_
    · rintro i σ H1 hi ⟨⟨v, rfl⟩, s1, q2⟩
      have hpi : ps[i]? = some (ps[i]'(by omega)) := List.getElem?_eq_getElem _
      generalize ps[i]'(by omega) = pf at hpi
      obtain ⟨xs, hxs, hH⟩ := hT.get hpi
      have hg : atI (ps.map V.ref) (i : Nat) = some (.ref pf) := atI_nat (by rw [List.getElem?_map, hpi]; rfl)
      have hb : badFact ms fs i = !factOk (nodes ms) xs := by unfold badFact; rw [hxs]; rfl
      refine ⟨_, rfl, _, rfl, _, rfl, _, _, _, _, rfl, rfl, Same.tup s1 hq, hg, a, pf, ms, xs, rfl, Same.tup s1 hm, by omega, s1 _ _ hH, hff xs (List.mem_of_getElem? hxs), fun H2 s2 => ⟨_, rfl, ?_⟩⟩
      cases e : factOk (nodes ms) xs with
      | false =>
        refine iteT ⟨_, rfl, by show 2 ≤ sizeLine; decide, fun p hp => ?_⟩
        refine ft (2, i) ?_ _ p ((s1.trans s2).trans (Same.new hp)) upd_same
        unfold fault
        rw [fA]
        simp only []
        rw [fB]
        simp only []
        rw [first_some hi q2 (by rw [hb, e]; rfl)]
      | true =>
        refine iteF ⟨⟨_, rfl⟩, s1.trans s2, fun j hj => ?_⟩
        by_cases e4 : j = i
        · rw [e4, hb, e]; rfl
        · exact q2 j (by omega)
    rintro σ H3 ⟨⟨v, rfl⟩, s3, hC⟩
    have fC := first_none hC
    have hft : fault ms ts fs = none := by
      unfold fault
      rw [fA]
      simp only []
      rw [fB]
      simp only []
      rw [fC]
    obtain ⟨MS, hMS, hIn, _⟩ := facts_ok hff (facts_all fC)
    subst hMS
    refine ⟨_, rfl, a, _, rfl, .inr (Same.tup s3 hm), _, rfl, _, rfl, a, c, ms, MS, rfl, Same.tup s3 hm, by omega, ⟨ps, Same.tup s3 hq, hT.same s3⟩, by rw [List.length_map] at hfl; omega, hIn, fun H4 p qs s4 g1 g2 => ?_⟩
    refine ⟨ms.length, p, qs, MS.map (eF ms), by rw [List.length_map]; rfl, hml, g1, by rw [List.map_map]; exact g2, hIn.inR, fun H5 s5 => ⟨fun hn R => ?_, fun hn => ?_⟩⟩
    · exact ⟨rfl, _, rfl, iteDF (fun z => nomatch z) ((k2 hft H5 MS rfl hIn ((s3.trans s4).trans s5)).1 hn)⟩
    · exact ⟨rfl, _, rfl, iteDT rfl ⟨by show 1 ≤ sizeLine; decide, fun p hp => (k2 hft _ MS rfl hIn (((s3.trans s4).trans s5).trans (Same.new hp))).2 hn p upd_same⟩⟩
end
end K1
end
section
set_option maxRecDepth 100000
set_option maxHeartbeats 4000000
namespace K1
open PySem L2 K01
/-- a name of letters -/
structure GN (z : Str) : Prop where
  pos : 1 ≤ z.cps.toList.length
  len : z.cps.toList.length ≤ 8
  let' : ∀ c ∈ z.cps.toList, c ∈ lets
theorem GN.len' {z : Str} (h : GN z) : z.length ≤ 8 := by
  have := h.len
  rw [Array.length_toList] at this
  exact this
theorem GN.asc {z : Str} (h : GN z) : AscZ z := fun c hc => lets_asc c (h.let' c hc)
theorem GN.ok {z : Str} (h : GN z) : nameOk z = true := by
  rw [← good_eq]
  unfold goodL
  have h1 := h.pos
  have h2 := h.len'
  have e : z.length = z.cps.toList.length := (Array.length_toList).symm
  rw [decide_eq_true (by omega), decide_eq_true (by omega), Bool.true_and, Bool.true_and, List.isEmpty_iff, List.filter_eq_nil_iff]
  intro c hc
  simp [h.let' c hc]
theorem app_cps (a b : Str) : (a ++ b).cps.toList = a.cps.toList ++ b.cps.toList := by
  show (a.cps ++ b.cps).toList = _
  rw [Array.toList_append]
theorem one_cps (c : Nat) : (oneS c).cps.toList = [c] := rfl
theorem cut_cps (z : Str) (lo hi : Option Int) : (cutS z lo hi).cps.toList = List.take (HT.sIx z.length z.length hi - HT.sIx z.length 0 lo) (List.drop (HT.sIx z.length 0 lo) z.cps.toList) := by
  unfold cutS
  simp
theorem glue_cps : ∀ (r : List Nat) (acc : Array Nat), (List.foldl (fun acc (p : Str) => acc ++ ("" : Str).cps ++ p.cps) acc (r.map oneS)).toList = acc.toList ++ r
  | [], acc => by simp
  | c :: r, acc => by
    rw [List.map_cons, List.foldl_cons, glue_cps r]
    have : ("" : Str).cps = #[] := rfl
    rw [this]
    simp [oneS]
theorem join_cps (cs : List Nat) : (Txt.join "" (cs.map oneS)).cps.toList = cs := by
  cases cs with
  | nil => rfl
  | cons c r =>
    show (List.foldl (fun acc (p : Str) => acc ++ ("" : Str).cps ++ p.cps) (oneS c).cps (r.map oneS)).toList = _
    rw [glue_cps]
    rfl
theorem GN.mk' {z : Str} {w : List Nat} (e : z.cps.toList = w) (h1 : 1 ≤ w.length) (h2 : w.length ≤ 8) (h3 : ∀ c ∈ w, c ∈ lets) : GN z := by
  subst e; exact ⟨h1, h2, h3⟩
theorem GN.first {c : Nat} {cs : List Nat} (hc : c ∈ lets) (hcs : ∀ x ∈ cs, x ∈ lets) (hl : cs.length ≤ 7) : GN (oneS c ++ Txt.join "" (cs.map oneS)) := by
  refine GN.mk' (w := c :: cs) (by rw [app_cps, join_cps]; rfl) (by simp) (by simp; omega) ?_
  intro x hx
  rcases List.mem_cons.mp hx with rfl | hx
  · exact hc
  · exact hcs x hx
theorem GN.cut {z : Str} (h : GN z) {c : Nat} (hc : c ∈ lets) {lo hi : Option Int} (hl : HT.sIx z.length z.length hi - HT.sIx z.length 0 lo ≤ 7) : GN (cutS z lo hi ++ oneS c) := by
  refine GN.mk' (by rw [app_cps, cut_cps, one_cps]) (by simp) ?_ ?_
  · rw [List.length_append, List.length_take]
    have := Nat.min_le_left (HT.sIx z.length z.length hi - HT.sIx z.length 0 lo) (List.drop (HT.sIx z.length 0 lo) z.cps.toList).length
    simp only [List.length_singleton]
    omega
  · intro x hx
    rcases List.mem_append.mp hx with hx | hx
    · exact h.let' x (List.mem_of_mem_drop (List.mem_of_mem_take hx))
    · rw [List.mem_singleton] at hx; rw [hx]; exact hc
theorem GN.mid {z : Str} (h : GN z) {c : Nat} (hc : c ∈ lets) : GN ((cutS z none (some 1) ++ oneS c) ++ cutS z (some 2) none) := by
  have hl := h.len
  have e1 : HT.sIx z.length z.length (some 1) = min 1 z.length := HT.sIx_nat _ _ 1
  have e2 : HT.sIx z.length 0 (some 2) = min 2 z.length := HT.sIx_nat _ _ 2
  have ez : z.length = z.cps.toList.length := (Array.length_toList).symm
  refine GN.mk' (by rw [app_cps, app_cps, cut_cps, cut_cps, one_cps]) (by simp; omega) ?_ ?_
  · rw [e1, e2, HT.sIx_none, HT.sIx_none]
    simp only [List.length_append, List.length_take, List.length_drop, List.length_singleton]
    omega
  · intro x hx
    rcases List.mem_append.mp hx with hx | hx
    · rcases List.mem_append.mp hx with hx | hx
      · exact h.let' x (List.mem_of_mem_drop (List.mem_of_mem_take hx))
      · rw [List.mem_singleton] at hx; rw [hx]; exact hc
    · exact h.let' x (List.mem_of_mem_drop (List.mem_of_mem_take hx))
theorem GN.two {c : Nat} (hc : c ∈ lets) : GN (oneS c ++ "z") := by
  refine GN.mk' (w := [c, 122]) (by rw [app_cps]; rfl) (by simp) (by simp) ?_
  intro x hx
  simp only [List.mem_cons, List.not_mem_nil, or_false] at hx
  rcases hx with rfl | rfl
  · exact hc
  · decide +kernel
theorem two_ne_zero {c : Nat} : oneS c ++ ("z" : Str) ≠ "zero" := by
  intro e
  have := congrArg (fun s : Str => s.cps.toList.length) e
  simp only [app_cps] at this
  exact absurd (show (2 : Nat) = 4 from this) (by decide)
theorem two_inj {c d : Nat} (e : oneS c ++ ("z" : Str) = oneS d ++ "z") : c = d := by
  have := congrArg (fun s : Str => s.cps.toList) e
  simp only [app_cps, one_cps] at this
  simpa using this
structure GoodNs (ms : List Str) : Prop where
  nd : ms.Nodup
  nz : ("zero" : Str) ∉ ms
  gn : ∀ z ∈ ms, GN z
theorem GoodNs.snoc {ms : List Str} (h : GoodNs ms) {z : Str} (h1 : GN z) (h2 : z ∉ ms) (h3 : z ≠ "zero") : GoodNs (ms ++ [z]) := by
  refine ⟨?_, ?_, ?_⟩
  · rw [List.nodup_append]
    exact ⟨h.nd, by simp, fun x hx y hy => by rw [List.mem_singleton] at hy; rw [hy]; exact fun e => h2 (e ▸ hx)⟩
  · rw [List.mem_append, List.mem_singleton]
    exact fun e => e.elim h.nz (fun q => h3 q.symm)
  · intro x hx
    rcases List.mem_append.mp hx with hx | hx
    · exact h.gn x hx
    · rw [List.mem_singleton] at hx; rw [hx]; exact h1
theorem lets_len : lets.length = 52 := by decide +kernel
theorem lets_nd : lets.Nodup := by decide +kernel
theorem let_at {d : Int} (h0 : 0 ≤ d) (h1 : d < 52) : ∃ c, atI letters.cps.toList d = some c ∧ c ∈ lets := by
  obtain ⟨n, rfl⟩ := Int.eq_ofNat_of_zero_le h0
  have hn : n < lets.length := by rw [lets_len]; omega
  exact ⟨lets[n], atI_nat (List.getElem?_eq_getElem hn), List.getElem_mem hn⟩
theorem letters_len : letters.length ≤ sizeLine := by decide +kernel
theorem nodup_le : ∀ {ws ns : List Str}, ws.Nodup → (∀ z ∈ ws, z ∈ ns) → ws.length ≤ ns.length
  | [], _, _, _ => Nat.zero_le _
  | w :: ws, ns, h, hs => by
    rw [List.nodup_cons] at h
    have hw : w ∈ ns := hs w List.mem_cons_self
    have h1 := nodup_le (ws := ws) (ns := ns.erase w) h.2 fun z hz => (List.mem_erase_of_ne (fun e => h.1 (by rw [← e]; exact hz))).mpr (hs z (List.mem_cons_of_mem _ hz))
    rw [List.length_erase_of_mem hw] at h1
    have := List.length_pos_of_mem hw
    rw [List.length_cons]
    omega
/-- among more words than names one is new -/
theorem spare_one {ws ns : List Str} (hw : ws.Nodup) (h : ns.length < ws.length) : ∃ z r, ws.filter (fun z => !decide (z ∈ ns)) = z :: r ∧ z ∈ ws ∧ z ∉ ns := by
  cases e : ws.filter (fun z => !decide (z ∈ ns)) with
  | nil =>
    exfalso
    have hs : ∀ z ∈ ws, z ∈ ns := by
      intro z hz
      have := List.filter_eq_nil_iff.mp e z hz
      simpa using this
    have := nodup_le hw hs
    omega
  | cons z r =>
    refine ⟨z, r, rfl, ?_⟩
    have : z ∈ ws.filter (fun z => !decide (z ∈ ns)) := by rw [e]; exact List.mem_cons_self
    have h2 := List.mem_filter.mp this
    exact ⟨h2.1, by simpa using h2.2⟩
theorem But.new {p q : Addr} {H H' : Hp} {o : HO} (h : But p H H') (hq : H q = none) : But p H (upd H' q o) := fun b x n e => by
  rw [upd_ne (fun z => by rw [z, hq] at e; cases e)]
  exact h b x n e
theorem But.free {p q : Addr} {H H' : Hp} (h : But p H H') (hp : H p ≠ none) (hq : H' q = none) (hpq : q ≠ p) : H q = none := by
  cases e : H q with
  | none => rfl
  | some o => rw [h q o hpq e] at hq; cases hq
theorem PitAt.ne {H : Hp} {p q : Addr} {z : Int} (h : PitAt H p z) (hq : H q = none) : q ≠ p := fun e => by
  obtain ⟨x, y, c, h1, _⟩ := h
  rw [e, h1] at hq; cases hq
end K1
end
section
set_option maxRecDepth 100000
set_option maxHeartbeats 4000000
namespace K1
open PySem L2 K01
/-- while names are drawn: p the pit, D the names so far -/
structure NI (H : Hp) (p D : Addr) (ns : List Str) (z : Int) (H' : Hp) : Prop where
  but : But p H H'
  pit : PitAt H' p z
  nam : H' D = some (.lst (ns.map V.str))
theorem NI.hoist {H H1 H2 : Hp} {p D : Addr} {ns : List Str} {z : Int} (h : NI H p D ns z H1) (hD : D ≠ p) (b : But p H1 H2) (q : PitAt H2 p (z + 1)) : NI H p D ns (z + 1) H2 :=
  ⟨h.but.trans b, q, b _ _ hD h.nam⟩
theorem NI.new {H H1 : Hp} {p D L : Addr} {ns : List Str} {z : Int} {o : HO} (h : NI H p D ns z H1) (hp : H p ≠ none) (hL : H1 L = none) : NI H p D ns z (L2.upd H1 L o) :=
  ⟨h.but.new (h.but.free hp hL (h.pit.ne hL)), h.pit.same (Same.new hL), by rw [upd_ne (fun e => by rw [← e, h.nam] at hL; cases hL)]; exact h.nam⟩
theorem NI.mono {H H1 : Hp} {p D : Addr} {ns : List Str} {z z' : Int} (h : NI H p D ns z H1) (e : z ≤ z') : NI H p D ns z' H1 := ⟨h.but, h.pit.mono e, h.nam⟩
theorem NI.put {H H1 : Hp} {p D C : Addr} {ns : List Str} {z : Int} {o : HO} (h : NI H p D ns z H1) (h1 : H C = none) (h2 : C ≠ p) (h3 : C ≠ D) : NI H p D ns z (L2.upd H1 C o) := by
  refine ⟨h.but.new h1, ?_, by rw [upd_ne (Ne.symm h3)]; exact h.nam⟩
  obtain ⟨x, y, c, q1, q2⟩ := h.pit
  exact ⟨x, y, c, by rw [upd_ne (Ne.symm h2)]; exact q1, q2⟩
theorem seq_gen {s r : TS} {D : Ends} {σ : St} {H : Hp} (M : St → Hp → Prop) (h : ∀ N : St → Hp → Prop, (∀ σ' H', M σ' H' → N σ' H') → s { nx := N, rt := D.rt, bk := D.bk, ct := D.ct } σ H) (h2 : ∀ σ' H', M σ' H' → r D σ' H') : tSeq s r D σ H := h (r D) h2
theorem at_last {xs : List V} {v : V} (hp : xs ≠ []) (h : xs[xs.length - 1]? = some v) : atI xs (-1) = some v := by
  have hl : 0 < xs.length := List.length_pos_iff.mpr hp
  unfold atI ixN
  rw [if_neg (by omega), if_pos (by omega)]
  have : ((-1 : Int) + (xs.length : Int)).toNat = xs.length - 1 := by omega
  rw [this]
  exact h
theorem cut_len (z : Str) (lo hi : Option Int) : (cutS z lo hi).length ≤ z.length := by
  have := congrArg List.length (cut_cps z lo hi)
  rw [Array.length_toList, List.length_take, List.length_drop, Array.length_toList] at this
  show (cutS z lo hi).cps.size ≤ z.cps.size
  omega
theorem one_len (c : Nat) : (oneS c).length = 1 := rfl
theorem app_len (a b : Str) : (a ++ b).length = a.length + b.length := by
  have := congrArg List.length (app_cps a b)
  rw [List.length_append, Array.length_toList, Array.length_toList, Array.length_toList] at this
  exact this
theorem line8 {n : Nat} (h : n ≤ 100) : n ≤ sizeLine := Nat.le_of_lt (small1000 (by omega))
theorem sum_one (cs : List Nat) : ((cs.map oneS).map fun x => x.length).sum = cs.length := by
  induction cs with
  | nil => rfl
  | cons c cs ih =>
    rw [List.map_cons, List.map_cons, List.sum_cons, ih, List.length_cons]
    have : (oneS c).length = 1 := rfl
    omega
theorem join_len (cs : List Nat) : (Txt.join "" (cs.map oneS)).length = cs.length := by
  have := congrArg List.length (join_cps cs)
  rw [Array.length_toList] at this
  exact this
theorem spare_nd {i : Nat} (hi : i ≤ 4) : (((lets.drop (7 * i)).take 7).map fun c => oneS c ++ ("z" : Str)).Nodup ∧ (((lets.drop (7 * i)).take 7).map fun c => oneS c ++ ("z" : Str)).length = 7 := by
  constructor
  · refine List.pairwise_map.mpr (List.Pairwise.imp (R := fun a b => a ≠ b) (fun h e => h (two_inj e)) ?_)
    exact ((lets_nd.sublist (List.drop_sublist _ _)).sublist (List.take_sublist _ _))
  · rw [List.length_map, List.length_take, List.length_drop, lets_len]
    omega
section
variable {P : Program} {w : World} {K : PySem.W.Frag} {mg : Str → Option Value} {base : Heap}
abbrev sCN : Stmt := top 50
def spCN (K : PySem.W.Frag) : Sp := fun vs H Q _ => ∃ (p : Addr) (n : Nat) (z : Int), vs = [.ref p, .int n] ∧ PitAt H p z ∧ z ≤ 900000 ∧ n ≤ 5 ∧ ∀ H' a ms, But p H H' → PitAt H' p (z + 20 * n) → strsT K H' a ms → ms.length = n → GoodNs ms → Q (.ref a) H'
abbrev nsN : List Str := ["pit", "many", "signs", "found", "k", "size", "way", "letter", "name_here", "old", "spare", "turn", "mate"]
theorem scCN : FnScope nsN ["pit", "many"] (defScope sCN) := ⟨rfl, rfl, rfl, by decide +kernel, rfl, by decide +kernel, by decide +kernel⟩
theorem ok_cn {f fh : Addr} {fd fdh : FuncData} (F : Fun K "_law_call_names" "_law_call_names" sCN f fd) (T : Bi mg)
    (FH : Fun K "_law_hoist" "_law_hoist" sHoist fh fdh) (bH : Binds K fdh ["pit", "below"] []) (mH : mg "_law_hoist" = some (.ref fh)) :
    FnOk P w K mg base CX0 2 f fd ["pit", "many"] (spCN K) := by
  have GH : FnOk P w K mg base CX0 1 fh fdh ["pit", "below"] (spHoist K) := ok_hoist FH T
  refine F.ok scCN (fun vs H Q E h => ?_) (fun cdv A outer s H vs Q E hr h => ?_)
  · obtain ⟨_, _, _, rfl, _⟩ := h
    rfl
  · obtain ⟨p, n, z, rfl, hp, hz, hn, k⟩ := h
    refine ⟨_, pss_cons (ps_asg (pe_tup (pa_cons pe_str (pa_cons (pe_lst pa_nil) pa_nil))) (pg_tup rfl (pgs_cons (pg_name (i := 2) scCN.nd rfl (.inr rfl)) (pgs_cons (pg_name (i := 3) scCN.nd rfl (.inr rfl)) pgs_nil))))
      (pss_cons (ps_for PassesOwn.never rfl (pi_range1 (by rfl) T.range (pa_cons (pv 1) pa_nil)) (pg_name (i := 4) scCN.nd rfl (.inr rfl))
        (pss_cons (ps_par (i := 5) (j := 6) rfl scCN.nd rfl rfl (by decide) rfl rfl (pa_cons (pe_ix ix_list (pe_lst (pa_cons pe_int (pa_cons pe_int (pa_cons pe_int (pa_cons (pe_call GH hr rfl mH FH.kp bH .nil pass0 (pa_cons (pv 0) (pa_cons pe_int pa_nil))) pa_nil))))) (pe_call GH hr rfl mH FH.kp bH .nil pass0 (pa_cons (pv 0) (pa_cons pe_int pa_nil))) (fun _ _ => rfl)) (pa_cons (pe_call GH hr rfl mH FH.kp bH .nil pass0 (pa_cons (pv 0) (pa_cons pe_int pa_nil))) pa_nil)) rfl)
        (pss_cons (ps_set (i := 7) scCN.nd rfl (.inl rfl) (pe_ix ix_str (pv 2) (pe_call GH hr rfl mH FH.kp bH .nil pass0 (pa_cons (pv 0) (pa_cons pe_int pa_nil))) (fun _ _ => rfl)))
        (pss_cons (ps_set (i := 8) scCN.nd rfl (.inl rfl) (pe_op op_add_str (pv 7) (pe_join pe_str (pe_lc (own := [("turn", 11)]) (g := gName 11) rfl scCN.nd (pi_range1 (by rfl) T.range (pa_cons (pv 5) pa_nil)) (blkOk_by (N := nsN) (sc := defScope sCN) (by decide +kernel))
            (fun _ _ _ _ _ => pg_name (i := 11) scCN.nd rfl (.inl rfl)) (fun _ _ _ _ _ => pts_nil) (te := tOp rIxS (tVar 2) (tCall (spHoist K) [] E0 (tCons (tVar 0) (tCons (tC (.int 52)) tNil))))
            (fun _ _ _ _ _ => pe_ix ix_str (pv 2) (pe_call GH hr rfl mH FH.kp bH .nil pass0 (pa_cons (pv 0) (pa_cons pe_int pa_nil))) (fun _ _ => rfl))))))
        (pss_cons (ps_if (PW.pt (pw_and (pt_cmpR (op_neD hr.units) (pv 3) (pe_lst pa_nil) (nomark _)) (pw_and1 (pt_cmpR op_lt (pv 6) pe_int (nomark _)))))
            (pss_cons (ps_set (i := 9) scCN.nd rfl (.inl rfl) (pe_ix ix_list (pv 3) (pe_un un_neg pe_int) (fun _ _ => rfl)))
            (pss_one (ps_set (i := 8) scCN.nd rfl (.inl rfl) (pe_ix ix_list (pe_lst (pa_cons (pe_op op_add_str (pe_slice sl_str (pv 9) po_none (po_some pe_int)) (pv 7)) (pa_cons (pe_op op_add_str (pe_slice sl_str (pv 9) po_none (po_some (pe_un un_neg pe_int))) (pv 7)) (pa_cons (pe_op op_add_str (pe_op op_add_str (pe_slice sl_str (pv 9) po_none (po_some pe_int)) (pv 7)) (pe_slice sl_str (pv 9) (po_some pe_int) po_none)) pa_nil)))) (pv 6) (fun _ _ => rfl))))) pss_nil)
        (pss_cons (ps_if (PW.pt (pw_or (pt_cmpR op_in_seq (pv 8) (pv 3) (by rfl)) (pw_or1 (pt_cmpR op_eq (pv 8) pe_str (nomark _)))))
            (pss_cons (ps_setLc (i := 10) (own := [("turn", 11)]) (g := gName 11) rfl scCN.nd rfl rfl rfl (pi_range1 (by rfl) T.range (pa_cons pe_int pa_nil)) (blkOk_by (N := nsN) (sc := defScope sCN) (by decide +kernel))
              (fun _ _ _ _ _ => pg_name (i := 11) scCN.nd rfl (.inl rfl)) (fun _ _ _ _ _ => pts_nil) (fun _ _ _ _ _ => pe_op op_add_str (pe_ix ix_str (pv 2) (pe_op op_add (pe_op op_mul pe_int (pv 4)) (pv 11)) (fun _ _ => rfl)) pe_str))
            (pss_one (ps_set (i := 8) scCN.nd rfl (.inl rfl) (pe_ix ix_list (pe_lc (own := [("mate", 12)]) (g := gName 12) (tt := tTest (tOp (rIn K true) (tVar 12) (tVar 3))) rfl scCN.nd (pi_list (pv 10)) (blkOk_by (N := nsN) (sc := defScope sCN) (by decide +kernel))
              (fun _ _ _ _ _ => pg_name (i := 12) scCN.nd rfl (.inl rfl)) (fun _ _ _ _ _ => pts_one (pt_cmpR op_notIn_seq (pv 12) (pv 3) (by rfl))) (fun _ _ _ _ _ => pv 12)) pe_int (fun _ _ => rfl))))) pss_nil)
        (pss_one (ps_expr (pe_bm PySem.F.plainAttrs_list PySem.F.slot_list_append PySem.F.type_list_append mt_append (pv 3) (pa_cons (pv 8) pa_nil))))))))))
      (pss_one (ps_ret (pe_callTy call_tuple_of (by rfl) T.tuple (by decide +kernel) (pa_cons (pv 3) pa_nil))))), ?_⟩
    have hpH : H p ≠ none := by obtain ⟨_, _, _, h1, _⟩ := hp; rw [h1]; exact fun e => nomatch e
    refine ⟨by show 0 ≤ sizeLine; decide, fun D hD => ⟨by show 2 ≤ sizeLine; decide, fun t ht => ⟨t, _, rfl, tup_at, rfl, _, _, rfl, _, _, rfl, rfl, ?_⟩⟩⟩
    have nDp : D ≠ p := hp.ne hD
    have n0 : NI H p D [] z (upd H D (.lst [])) := ⟨Same.but (Same.new hD), hp.same (Same.new hD), upd_same⟩
    have n1 := n0.new hpH ht (o := .tup [.str letters, .ref D])
    refine ⟨_, rfl, _, rfl, by omega, by omega, ?_⟩
    rw [Int.toNat_natCast]
    refine for_r0 (fun i σ H' => (∃ v4 v5 v6 v7 v8 v9 v10 : Option V, σ = [some (.ref p), some (.int (n : Nat)), some (.str letters), some (.ref D), v4, v5, v6, v7, v8, v9, v10, none, none]) ∧ ∃ ns, NI H p D ns (z + 20 * i) H' ∧ ns.length = i ∧ GoodNs ns) ⟨⟨_, _, _, _, _, _, _, rfl⟩, [], n1.mono (by simp), rfl, ⟨List.nodup_nil, by simp, by simp⟩⟩ ?_ ?_
    · rintro i σ H1 hi ⟨⟨v4, v5, v6, v7, v8, v9, v10, rfl⟩, ns, N1, hl, hG⟩
      refine ⟨_, rfl, p, 7, _, rfl, N1.pit, by omega, by decide, by decide, fun H2 d1 b1 P1 l1 u1 => ?_⟩
      have N2 := N1.hoist nDp b1 P1
      refine ⟨by show 4 ≤ sizeLine; decide, fun L hL => ?_⟩
      have N3 := N2.new hpH hL (o := .lst [.int 0, .int 0, .int 2, .int d1])
      have nL := N2.pit.ne hL
      refine ⟨_, rfl, p, 4, _, rfl, N3.pit, by omega, by decide, by decide, fun H3 d2 b2 P2 l2 u2 => ?_⟩
      have N4 := N3.hoist nDp b2 P2
      have hLL : H3 L = some (.lst [.int 0, .int 0, .int 2, .int d1]) := b2 _ _ nL upd_same
      obtain ⟨sv, hat, s0, s6⟩ : ∃ sv : Int, atI [V.int 0, V.int 0, V.int 2, V.int d1] d2 = some (.int sv) ∧ 0 ≤ sv ∧ sv ≤ 6 := by
        obtain ⟨m, rfl⟩ := Int.eq_ofNat_of_zero_le l2
        match m, u2 with
        | 0, _ => exact ⟨0, atI_nat rfl, by decide, by decide⟩
        | 1, _ => exact ⟨0, atI_nat rfl, by decide, by decide⟩
        | 2, _ => exact ⟨2, atI_nat rfl, by decide, by decide⟩
        | 3, _ => exact ⟨d1, atI_nat rfl, by omega, by omega⟩
        | m + 4, h => omega
      refine ⟨L, _, _, _, rfl, rfl, SqL.of hLL, hat, ?_⟩
      refine ⟨_, rfl, p, 6, _, rfl, N4.pit, by omega, by decide, by decide, fun H4 d3 b3 P3 l3 u3 => ⟨_, _, rfl, ?_⟩⟩
      have N5 := N4.hoist nDp b3 P3
      -- the letter
      refine ⟨_, rfl, _, rfl, p, 52, _, rfl, N5.pit, by omega, by decide, by decide, fun H5 d4 b4 P4 l4 u4 => ?_⟩
      have N6 := N5.hoist nDp b4 P4
      obtain ⟨c, hc, hcl⟩ := let_at l4 u4
      refine ⟨letters, d4, c, rfl, rfl, letters_len, hc, ?_⟩
      -- the first name
      refine ⟨_, rfl, ⟨_, rfl⟩, _, rfl, _, rfl, by omega, by omega, fun C hC => ?_⟩
      have nC := N6.pit.ne hC
      have nCD : C ≠ D := fun e => by rw [e, N6.nam] at hC; cases hC
      refine lc_it (walk_r0 (n := sv.toNat)) (fun j H' => ∃ cs : List Nat, NI H p D ns (z + 20 * i + 4 + j) H' ∧ H' C = some (.lst ((cs.map oneS).map V.str)) ∧ cs.length = j ∧ ∀ c ∈ cs, c ∈ lets) ⟨[], (N6.new hpH hC (o := .lst [])).mono (by simp; omega), upd_same, rfl, by simp⟩ (fun _ _ _ _ => trivial) ?_ ?_
      · rintro j v H6 H7 hj ⟨cs, M1, m2, m3, m4⟩ ⟨rfl, rfl⟩
        refine ⟨rfl, yes_ ⟨_, rfl, _, rfl, p, 52, _, rfl, M1.pit, by omega, by decide, by decide, fun H8 d b P l u => ?_⟩⟩
        have M2 := M1.hoist nDp b P
        obtain ⟨e, he, hel⟩ := let_at l u
        refine ⟨letters, d, e, rfl, rfl, letters_len, he, _, b _ _ nC m2, ?_, cs ++ [e], ?_, ?_, ?_, ?_⟩
        · rw [List.length_map, List.length_map]; exact small1000 (by omega)
        · refine (M2.put (N6.but.free hpH hC nC) nC nCD).mono ?_
          have : ((j + 1 : Nat) : Int) = (j : Int) + 1 := by omega
          omega
        · rw [upd_same, List.map_append, List.map_append]; rfl
        · rw [List.length_append, m3]; rfl
        · intro x hx
          rcases List.mem_append.mp hx with hx | hx
          · exact m4 x hx
          · rw [List.mem_singleton] at hx; rw [hx]; exact hel
      rintro H6 ⟨cs, M1, m2, m3, m4⟩
      have hcs7 : cs.length ≤ 7 := by omega
      refine ⟨"", C, cs.map oneS, rfl, rfl, .inl (SqL.of m2), by rw [sum_one]; have : ("" : Str).length = 0 := rfl; rw [this]; omega, _, _, rfl, rfl, ?_, ?_⟩
      · rw [join_len]
        exact Nat.le_of_lt (small1000 (show 1 + cs.length ≤ 1000 by omega))
      have G0 : GN (({ cps := #[c] } : Str) ++ Txt.join "" (cs.map oneS)) := GN.first hcl m4 hcs7
      generalize ({ cps := #[c] } : Str) ++ Txt.join "" (cs.map oneS) = nm at G0 ⊢
      have M1' : NI H p D ns (z + 20 * i + 11) H6 := M1.mono (by omega)
      have hcc : oneS c = { cps := #[c] } := rfl
      dsimp only [gName]
      refine seq_gen (fun σ' H' => ∃ (v8 : Str) (v9 : Option V), σ' = [some (.ref p), some (.int (n : Nat)), some (.str letters), some (.ref D), some (.int (i : Nat)), some (.int sv), some (.int d3), some (.str (oneS c)), some (.str v8), v9, v10, none, none] ∧ GN v8 ∧ NI H p D ns (z + 20 * i + 11) H') (fun N hN => ?_) ?_
      · refine ⟨_, rfl, Nat.zero_le _, fun e he => ?_⟩
        have M3 := M1'.new hpH he (o := .lst [])
        refine ⟨.list _, .list [], .lst (SqL.of M3.nam) (flats_dp ?_), .lst (SqL.of upd_same) .nil, ?_, shaped_nil, ?_⟩
        · intro v hv
          obtain ⟨u, _, rfl⟩ := List.mem_map.mp hv
          exact .str u
        · refine Lv.shaped (n := 1) (Lv.list (n := 0) ?_) (by decide)
          intro d hd
          obtain ⟨v, hv, rfl⟩ := List.mem_map.mp hd
          obtain ⟨u, hu, rfl⟩ := List.mem_map.mp hv
          exact Lv.str (hG.gn u hu).asc
        · rw [eqv_nil]
          refine ⟨_, rfl, ?_⟩
          have skip : N [some (.ref p), some (.int (n : Nat)), some (.str letters), some (.ref D), some (.int (i : Nat)), some (.int sv), some (.int d3), some (.str (oneS c)), some (.str nm), v9, v10, none, none] (upd H6 e (.lst [])) := hN _ _ ⟨nm, v9, rfl, G0, M3⟩
          cases hns : ns with
          | nil => subst hns; exact skip
          | cons n1 nr =>
            have hne : ns ≠ [] := by rw [hns]; exact fun q => nomatch q
            refine iteT ⟨_, rfl, _, _, rfl, rfl, _, rfl, ?_⟩
            by_cases hd3 : d3 < 3
            · refine iteDT hd3 ?_
              have hlp : 0 < ns.length := List.length_pos_iff.mpr hne
              have ho : ns[ns.length - 1]? = some ns[ns.length - 1] := List.getElem?_eq_getElem (by omega)
              have Go := hG.gn _ (List.mem_of_getElem? ho)
              generalize ns[ns.length - 1] = old at ho Go
              have ho2 : atI (ns.map V.str) (-1) = some (V.str old) := at_last (by simpa using hne) (by rw [List.length_map, List.getElem?_map, ho]; rfl)
              have L8 : old.length ≤ 8 := Go.len'
              have lo := line8 (n := old.length) (by omega)
              have b1 : ∀ lo hi, (cutS old lo hi).length ≤ 8 := fun lo hi => Nat.le_trans (cut_len _ _ _) L8
              have b2 : ∀ lo hi, (cutS old lo hi).length + ({ cps := #[c] } : Str).length ≤ sizeLine := fun lo hi => line8 (by have := b1 lo hi; have e : ({ cps := #[c] } : Str).length = 1 := rfl; omega)
              have b3 : ((cutS old none (some 1)) ++ ({ cps := #[c] } : Str)).length + (cutS old (some 2) none).length ≤ sizeLine := line8 (by have := b1 none (some 1); have := b1 (some 2) none; have e : ({ cps := #[c] } : Str).length = 1 := rfl; rw [app_len]; omega)
              refine ⟨_, rfl, _, rfl, D, _, _, _, rfl, rfl, SqL.of M3.nam, ho2, ?_⟩
              refine ⟨_, rfl, _, rfl, _, rfl, lo, _, rfl, _, _, rfl, rfl, b2 _ _, ?_⟩
              refine ⟨_, rfl, _, rfl, _, rfl, _, rfl, lo, _, rfl, _, _, rfl, rfl, b2 _ _, ?_⟩
              refine ⟨_, rfl, _, rfl, _, rfl, lo, _, rfl, _, _, rfl, rfl, b2 _ _, _, rfl, _, rfl, _, rfl, lo, _, _, rfl, rfl, b3, ?_⟩
              refine ⟨by show 3 ≤ sizeLine; decide, fun L3 hL3 => ?_⟩
              have M5 := M3.new hpH hL3 (o := .lst [.str (cutS old none (some 7) ++ { cps := #[c] }), .str (cutS old none (some (-1)) ++ { cps := #[c] }), .str ((cutS old none (some 1) ++ { cps := #[c] }) ++ cutS old (some 2) none)])
              have g1 : GN (cutS old none (some 7) ++ { cps := #[c] }) := Go.cut hcl (by
                have : HT.sIx old.length old.length (some 7) = min 7 old.length := HT.sIx_nat _ _ 7
                rw [this]; omega)
              have g2 : GN (cutS old none (some (-1)) ++ { cps := #[c] }) := Go.cut hcl (by
                have : HT.sIx old.length old.length (some (-1)) = ((-1 : Int) + (old.length : Int)).toNat := rfl
                rw [this]; omega)
              have g3 : GN ((cutS old none (some 1) ++ { cps := #[c] }) ++ cutS old (some 2) none) := Go.mid hcl
              obtain ⟨m, rfl⟩ := Int.eq_ofNat_of_zero_le l3
              match m, hd3 with
              | 0, _ => exact ⟨_, rfl, L3, _, _, _, rfl, rfl, SqL.of upd_same, atI_nat rfl, hN _ _ ⟨_, _, rfl, g1, M5⟩⟩
              | 1, _ => exact ⟨_, rfl, L3, _, _, _, rfl, rfl, SqL.of upd_same, atI_nat rfl, hN _ _ ⟨_, _, rfl, g2, M5⟩⟩
              | 2, _ => exact ⟨_, rfl, L3, _, _, _, rfl, rfl, SqL.of upd_same, atI_nat rfl, hN _ _ ⟨_, _, rfl, g3, M5⟩⟩
              | m + 3, h => exact absurd h (by omega)
            · exact iteDF hd3 skip
      · rintro σ' H7 ⟨nm, v9, rfl, G1, M4⟩
        refine seq_gen (fun σ' H' => ∃ (v8 : Str) (v10 : Option V), σ' = [some (.ref p), some (.int (n : Nat)), some (.str letters), some (.ref D), some (.int (i : Nat)), some (.int sv), some (.int d3), some (.str (oneS c)), some (.str v8), v9, v10, none, none] ∧ GN v8 ∧ v8 ∉ ns ∧ v8 ≠ "zero" ∧ NI H p D ns (z + 20 * i + 11) H') (fun N hN => ?_) ?_
        · refine ⟨_, rfl, _, rfl, D, _, rfl, .inl (SqL.of M4.nam), rfl, strs_flat _, _, rfl, ?_⟩
          rw [if_neg Bool.false_ne_true, inV_str]
          by_cases e1 : nm ∈ ns
          · refine iteDT e1 (iteT ?_)
            have hi4 : i ≤ 4 := by omega
            obtain ⟨wnd, wlen⟩ := spare_nd hi4
            refine ⟨_, rfl, by decide, by decide, fun C hC => ?_⟩
            have hHC : H C = none := M4.but.free hpH hC (M4.pit.ne hC)
            have nCp : C ≠ p := M4.pit.ne hC
            have nCD2 : C ≠ D := fun e => by rw [e, M4.nam] at hC; cases hC
            refine lc_it (walk_r0 (n := (7 : Int).toNat)) (fun j H' => NI H p D ns (z + 20 * i + 11) H' ∧ H' C = some (.lst (((((lets.drop (7 * i)).take j).map fun c => oneS c ++ ("z" : Str))).map V.str))) ⟨M4.new hpH hC, upd_same⟩ (fun _ _ _ _ => trivial) ?_ ?_
            · rintro j v H8 H9 hj ⟨R1, R2⟩ ⟨rfl, rfl⟩
              have hj7 : j < 7 := hj
              have hx : 7 * i + j < lets.length := by rw [lets_len]; omega
              have hg : lets[7 * i + j]? = some lets[7 * i + j] := List.getElem?_eq_getElem hx
              generalize lets[7 * i + j] = e at hg
              have eq1 : (7 : Int) * (i : Nat) + (j : Nat) = ((7 * i + j : Nat) : Int) := by omega
              have hat : atI letters.cps.toList ((7 : Int) * (i : Nat) + (j : Nat)) = some e := by rw [eq1]; exact atI_nat hg
              have hd : (lets.drop (7 * i))[j]? = some e := by rw [List.getElem?_drop]; exact hg
              refine ⟨rfl, yes_ ⟨_, rfl, _, rfl, _, _, rfl, rfl, .inl ⟨by decide, by decide⟩, _, rfl, _, _, rfl, rfl, letters, _, e, rfl, rfl, letters_len, hat, _, _, rfl, rfl, line8 (show 1 + 1 ≤ 100 by decide), _, R2, ?_, R1.put hHC nCp nCD2, ?_⟩⟩
              · rw [List.length_map, List.length_map, List.length_take]
                exact Nat.lt_of_le_of_lt (Nat.min_le_left _ _) (small1000 (by omega))
              · rw [upd_same, take_snoc hd, List.map_append, List.map_append]; rfl
            · rintro H8 ⟨R1, R2⟩
              have R2 : H8 C = some (.lst ((((lets.drop (7 * i)).take 7).map fun c => oneS c ++ ("z" : Str)).map V.str)) := R2
              have wgn : ∀ z ∈ (((lets.drop (7 * i)).take 7).map fun c => oneS c ++ ("z" : Str)), GN z ∧ z ≠ "zero" := by
                intro z hz
                obtain ⟨c, hc, rfl⟩ := List.mem_map.mp hz
                exact ⟨GN.two (List.mem_of_mem_drop (List.mem_of_mem_take hc)), two_ne_zero⟩
              generalize (((lets.drop (7 * i)).take 7).map fun c => oneS c ++ ("z" : Str)) = ws at wnd wlen wgn R2
              obtain ⟨z1, r1, w1, w2, w3⟩ := spare_one wnd (show ns.length < ws.length by omega)
              refine ⟨_, rfl, C, rfl, ⟨_, SqL.of R2⟩, fun C2 hC2 => ?_⟩
              have hHC2 : H C2 = none := R1.but.free hpH hC2 (R1.pit.ne hC2)
              have nC2p : C2 ≠ p := R1.pit.ne hC2
              have nC2D : C2 ≠ D := fun e => by rw [e, R1.nam] at hC2; cases hC2
              have nC2C : C ≠ C2 := fun e => by rw [← e, R2] at hC2; cases hC2
              refine lc_it (walk_list (K := K) (a := C) (xs := ws.map V.str)) (fun j H' => NI H p D ns (z + 20 * i + 11) H' ∧ H' C = some (.lst (ws.map V.str)) ∧ H' C2 = some (.lst (((ws.take j).filter fun z => !decide (z ∈ ns)).map V.str))) ⟨R1.new hpH hC2, (upd_ne nC2C).trans R2, upd_same⟩ (fun i H' _ u => SqL.of u.2.1) ?_ ?_
              · rintro j v H9 H10 hj ⟨T1, T2, T3⟩ ⟨rfl, hv⟩
                obtain ⟨u, hu, rfl⟩ := get_map hv
                have htk := take_snoc hu
                rw [List.length_map] at hj
                refine ⟨rfl, _, rfl, _, rfl, D, _, rfl, .inl (SqL.of T1.nam), rfl, strs_flat _, _, rfl, ?_⟩
                rw [if_pos rfl, inV_str]
                by_cases hin : u ∈ ns
                · refine iteNS hin ⟨T1, T2, ?_⟩
                  rw [htk, List.filter_append, List.filter_cons_of_neg (by simp [hin]), List.filter_nil, List.append_nil]
                  exact T3
                · refine iteNF hin ⟨_, rfl, _, T3, ?_, T1.put hHC2 nC2p nC2D, (upd_ne nC2C).trans T2, ?_⟩
                  · rw [List.length_map]
                    have a1 := List.length_filter_le (fun z => !decide (z ∈ ns)) (ws.take j)
                    have a2 : (ws.take j).length ≤ j := by rw [List.length_take]; exact Nat.min_le_left _ _
                    exact small1000 (by omega)
                  · rw [upd_same, htk, List.filter_append, List.filter_cons_of_pos (by simp [hin]), List.filter_nil, List.map_append]
                    rfl
              · rintro H9 ⟨T1, T2, T3⟩
                have hft : ws.take (ws.map V.str).length = ws := by rw [List.length_map, List.take_length]
                rw [hft, w1] at T3
                exact ⟨C2, _, _, _, rfl, rfl, SqL.of T3, atI_nat (j := 0) rfl, hN _ _ ⟨_, _, rfl, (wgn _ w2).1, w3, (wgn _ w2).2, T1⟩⟩
          · refine iteDF e1 ⟨_, rfl, rfl, _, rfl, ?_⟩
            by_cases e2 : nm = "zero"
            · refine iteDT (by rw [e2]) ?_
              have hi4 : i ≤ 4 := by omega
              obtain ⟨wnd, wlen⟩ := spare_nd hi4
              refine ⟨_, rfl, by decide, by decide, fun C hC => ?_⟩
              have hHC : H C = none := M4.but.free hpH hC (M4.pit.ne hC)
              have nCp : C ≠ p := M4.pit.ne hC
              have nCD2 : C ≠ D := fun e => by rw [e, M4.nam] at hC; cases hC
              refine lc_it (walk_r0 (n := (7 : Int).toNat)) (fun j H' => NI H p D ns (z + 20 * i + 11) H' ∧ H' C = some (.lst (((((lets.drop (7 * i)).take j).map fun c => oneS c ++ ("z" : Str))).map V.str))) ⟨M4.new hpH hC, upd_same⟩ (fun _ _ _ _ => trivial) ?_ ?_
              · rintro j v H8 H9 hj ⟨R1, R2⟩ ⟨rfl, rfl⟩
                have hj7 : j < 7 := hj
                have hx : 7 * i + j < lets.length := by rw [lets_len]; omega
                have hg : lets[7 * i + j]? = some lets[7 * i + j] := List.getElem?_eq_getElem hx
                generalize lets[7 * i + j] = e at hg
                have eq1 : (7 : Int) * (i : Nat) + (j : Nat) = ((7 * i + j : Nat) : Int) := by omega
                have hat : atI letters.cps.toList ((7 : Int) * (i : Nat) + (j : Nat)) = some e := by rw [eq1]; exact atI_nat hg
                have hd : (lets.drop (7 * i))[j]? = some e := by rw [List.getElem?_drop]; exact hg
                refine ⟨rfl, yes_ ⟨_, rfl, _, rfl, _, _, rfl, rfl, .inl ⟨by decide, by decide⟩, _, rfl, _, _, rfl, rfl, letters, _, e, rfl, rfl, letters_len, hat, _, _, rfl, rfl, line8 (show 1 + 1 ≤ 100 by decide), _, R2, ?_, R1.put hHC nCp nCD2, ?_⟩⟩
                · rw [List.length_map, List.length_map, List.length_take]
                  exact Nat.lt_of_le_of_lt (Nat.min_le_left _ _) (small1000 (by omega))
                · rw [upd_same, take_snoc hd, List.map_append, List.map_append]; rfl
              · rintro H8 ⟨R1, R2⟩
                have R2 : H8 C = some (.lst ((((lets.drop (7 * i)).take 7).map fun c => oneS c ++ ("z" : Str)).map V.str)) := R2
                have wgn : ∀ z ∈ (((lets.drop (7 * i)).take 7).map fun c => oneS c ++ ("z" : Str)), GN z ∧ z ≠ "zero" := by
                  intro z hz
                  obtain ⟨c, hc, rfl⟩ := List.mem_map.mp hz
                  exact ⟨GN.two (List.mem_of_mem_drop (List.mem_of_mem_take hc)), two_ne_zero⟩
                generalize (((lets.drop (7 * i)).take 7).map fun c => oneS c ++ ("z" : Str)) = ws at wnd wlen wgn R2
                obtain ⟨z1, r1, w1, w2, w3⟩ := spare_one wnd (show ns.length < ws.length by omega)
                refine ⟨_, rfl, C, rfl, ⟨_, SqL.of R2⟩, fun C2 hC2 => ?_⟩
                have hHC2 : H C2 = none := R1.but.free hpH hC2 (R1.pit.ne hC2)
                have nC2p : C2 ≠ p := R1.pit.ne hC2
                have nC2D : C2 ≠ D := fun e => by rw [e, R1.nam] at hC2; cases hC2
                have nC2C : C ≠ C2 := fun e => by rw [← e, R2] at hC2; cases hC2
                refine lc_it (walk_list (K := K) (a := C) (xs := ws.map V.str)) (fun j H' => NI H p D ns (z + 20 * i + 11) H' ∧ H' C = some (.lst (ws.map V.str)) ∧ H' C2 = some (.lst (((ws.take j).filter fun z => !decide (z ∈ ns)).map V.str))) ⟨R1.new hpH hC2, (upd_ne nC2C).trans R2, upd_same⟩ (fun i H' _ u => SqL.of u.2.1) ?_ ?_
                · rintro j v H9 H10 hj ⟨T1, T2, T3⟩ ⟨rfl, hv⟩
                  obtain ⟨u, hu, rfl⟩ := get_map hv
                  have htk := take_snoc hu
                  rw [List.length_map] at hj
                  refine ⟨rfl, _, rfl, _, rfl, D, _, rfl, .inl (SqL.of T1.nam), rfl, strs_flat _, _, rfl, ?_⟩
                  rw [if_pos rfl, inV_str]
                  by_cases hin : u ∈ ns
                  · refine iteNS hin ⟨T1, T2, ?_⟩
                    rw [htk, List.filter_append, List.filter_cons_of_neg (by simp [hin]), List.filter_nil, List.append_nil]
                    exact T3
                  · refine iteNF hin ⟨_, rfl, _, T3, ?_, T1.put hHC2 nC2p nC2D, (upd_ne nC2C).trans T2, ?_⟩
                    · rw [List.length_map]
                      have a1 := List.length_filter_le (fun z => !decide (z ∈ ns)) (ws.take j)
                      have a2 : (ws.take j).length ≤ j := by rw [List.length_take]; exact Nat.min_le_left _ _
                      exact small1000 (by omega)
                    · rw [upd_same, htk, List.filter_append, List.filter_cons_of_pos (by simp [hin]), List.filter_nil, List.map_append]
                      rfl
                · rintro H9 ⟨T1, T2, T3⟩
                  have hft : ws.take (ws.map V.str).length = ws := by rw [List.length_map, List.take_length]
                  rw [hft, w1] at T3
                  exact ⟨C2, _, _, _, rfl, rfl, SqL.of T3, atI_nat (j := 0) rfl, hN _ _ ⟨_, _, rfl, (wgn _ w2).1, w3, (wgn _ w2).2, T1⟩⟩
            · exact iteDF (fun q => e2 (V.str.inj q)) (hN _ _ ⟨nm, v10, rfl, G1, e1, e2, M4⟩)
        · rintro σ' H8 ⟨v8, v10, rfl, G2, h1, h2, M5⟩
          have hDp : D ≠ p := nDp
          refine ⟨_, rfl, .inl ⟨rfl, _, SqL.of M5.nam⟩, _, rfl, D, _, _, rfl, rfl, M5.nam, by rw [List.length_map]; exact small1000 (by omega), ⟨_, _, _, _, _, _, _, rfl⟩, ns ++ [v8], ⟨M5.but.new hD, ?_, ?_⟩, ?_, hG.snoc G2 h1 h2⟩
          · obtain ⟨x, y, c', q1, q2⟩ := M5.pit.mono (z' := z + 20 * ((i + 1 : Nat) : Int)) (by have : ((i + 1 : Nat) : Int) = (i : Int) + 1 := (by omega); omega)
            exact ⟨x, y, c', by rw [upd_ne (Ne.symm hDp)]; exact q1, q2⟩
          · rw [upd_same, List.map_append]; rfl
          · rw [List.length_append, hl]; rfl
    · rintro σ H1 ⟨⟨v4, v5, v6, v7, v8, v9, v10, rfl⟩, ns, N1, hl, hG⟩
      refine ⟨_, rfl, D, _, rfl, .inl ⟨SqL.of N1.nam, fun l hl2 => ?_⟩⟩
      have N2 := N1.new hpH hl2 (o := .tup (ns.map V.str))
      exact k _ l ns N2.but N2.pit tup_at hl hG
end
end K1
end
section
set_option maxRecDepth 100000
set_option maxHeartbeats 4000000
namespace K1
open PySem L2 K01
theorem take_fm {α : Type} (L : List α) : ∀ k, (List.range k).filterMap (fun i => L[i]?) = L.take k
  | 0 => by simp
  | k + 1 => by
    rw [List.range_succ, List.filterMap_append, take_fm L k, List.take_succ]
    congr 1
theorem fm_congr {α β : Type} {f g : α → Option β} : ∀ {l : List α}, (∀ k ∈ l, f k = g k) → l.filterMap f = l.filterMap g
  | [], _ => rfl
  | a :: l, h => by
    rw [List.filterMap_cons, List.filterMap_cons, h a List.mem_cons_self, fm_congr fun k hk => h k (List.mem_cons_of_mem _ hk)]
theorem rev_pick (xs : Array Value) : ((List.range xs.size).filterMap fun (k : Nat) => xs[(((xs.size : Nat) : Int) - 1 + (k : Int) * (-1)).toNat]?).toArray = xs.toList.reverse.toArray := by
  congr 1
  have e : (List.range xs.size).filterMap (fun (k : Nat) => xs[(((xs.size : Nat) : Int) - 1 + (k : Int) * (-1)).toNat]?) = (List.range xs.size).filterMap fun k => xs.toList.reverse[k]? := by
    refine fm_congr fun k hk => ?_
    have hk' := List.mem_range.mp hk
    rw [List.getElem?_reverse (by simpa using hk')]
    have : (((xs.size : Nat) : Int) - 1 + (k : Int) * (-1)).toNat = xs.toList.length - 1 - k := by
      rw [Array.length_toList]; omega
    rw [this, Array.getElem?_toList]
  rw [e, take_fm, ← Array.length_toList, ← List.length_reverse, List.take_length]
end K1
namespace PySem
open PyProof.Rows
theorem k1_sliceRev {prog : Program} {w : World} {A : Around} {E : Value → Shared → Prop} {s : Shared} {sl : Addr} {vk : Value} {n : Nat} {Q : Int × Int × Nat → Shared → Prop}
    (hs : s.heap.IsSliceOf sl .none .none vk) (pk : IsPart vk (some (-1))) (h : Q ((n : Int) - 1, -1, n) s) : wpAny (model prog w) A (Builtin.Slice.sliceApplied (Value.ref sl) (pure (n : Int))) Q E s := by
  obtain ⟨os, hos, hcs, hds⟩ := hs
  unfold Builtin.Slice.sliceApplied Builtin.Slice.sliceFields
  refine wpAny_bind (wpAny_bind (wpAny_field hos hds rfl (wpAny_bind (wpAny_field hos hds rfl (wpAny_bind (wpAny_field hos hds rfl (wpAny_pure ?_)))))))
  refine wpAny_bind (HT.slicePart_ pk ?_)
  show wpAny _ _ (if _ then _ else _) _ _ _
  rw [if_neg (by decide)]
  refine wpAny_bind (slicePart_none (wpAny_bind (slicePart_none (wpAny_bind (wpAny_pure ?_)))))
  have e1 : Builtin.Slice.sliceAdjust none none (-1) (n : Int) = ((n : Int) - 1, -1) := rfl
  have e2 : Builtin.Slice.slicePlaces ((n : Int) - 1) (-1) (-1) = n := by
    unfold Builtin.Slice.slicePlaces
    rw [if_neg (by decide)]
    split
    · rw [show (- -1 : Int) = 1 from rfl, Int.ediv_one]; omega
    · omega
  show wpAny _ _ (match Builtin.Slice.sliceAdjust none none (-1) (n : Int) with | (lo, hi) => pure (lo, (-1 : Int), Builtin.Slice.slicePlaces lo hi (-1))) _ _ _
  rw [e1]
  show wpAny _ _ (pure ((n : Int) - 1, (-1 : Int), Builtin.Slice.slicePlaces ((n : Int) - 1) (-1) (-1))) _ _ _
  rw [e2]
  exact wpAny_pure h
theorem k1_tupleRev {prog : Program} {w : World} {A : Around} {E : Value → Shared → Prop} {s : Shared} {t sl : Addr} {items : Array Value} {vk : Value} {Q : Value → Shared → Prop}
    (ht : IsTup s.heap t items) (hs : s.heap.IsSliceOf sl .none .none vk) (pk : IsPart vk (some (-1)))
    (h : Q (Value.ref s.heap.objs.size) { s with heap := s.heap.push { cls := Value.type "tuple", data := Data.seq items.toList.reverse.toArray } }) (hz : items.size ≤ sizeLine) :
    wpAny (model prog w) A (getItem (Value.ref t) (Value.ref sl)) Q E s := by
  have hs' := hs
  obtain ⟨os, hos, hcs, hds⟩ := hs'
  have hTs : s.TypeIs (Value.ref sl) "slice" := ⟨os, hos, hcs⟩
  refine wpAny_holding (wpAny_bind (wpAny_sequenceKey (IsTup.typeIs ht) (by decide) (wpAny_bind (wpAny_callSpecial?_slot (IsTup.typeIs ht) slot_tuple_getitem
    (wpAny_call_entry slot_tuple_getitem (IsTup.typeIs ht) entry_tuple_getitem ?_ (args_tuple_getitem (Value.ref t) (Value.ref sl)))))))
  refine wpAny_bind (show wpAny _ _ (pure (Value.ref t, [Value.ref sl])) _ _ _ from wpAny_pure ?_)
  refine wpAny_bind (tupleItemsOf_ ht (wpAny_bind (wpAny_typeOf hTs ?_)))
  rw [if_pos (by decide)]
  refine wpAny_bind (k1_sliceRev hs pk ?_)
  have hno : (((items.size : Nat) : Int) - 1 == 0 && (-1 : Int) == 1 && items.size == items.size) = false := by simp
  show wpAny _ _ (if _ then _ else _) _ _ _
  rw [if_neg (by rw [hno]; exact Bool.false_ne_true)]
  rw [K1.rev_pick]
  refine wpAny_bind (wpAny_newObj_type (wpAny_pure ⟨_, rfl, wpAny_pure h⟩) ?_)
  show _ ≤ sizeLine
  simpa using hz
end PySem
namespace K1
open PySem L2 K01
def tRev (K : PySem.W.Frag) (te : TE) (ts : TO) : TE := fun σ H Q => te σ H fun x H1 => ts σ H1 fun k H2 => k = some (-1) ∧ ∃ a xs, x = .ref a ∧ SqT K H2 a xs ∧ ∀ p, H2 p = none → Q (.ref p) (L2.upd H2 p (.tup xs.reverse))
theorem pe_rev {X : Cx} {e st : Expr} {te : TE} {ts : TO} {pos p2 : Pos} (he : PE X e te) (hs : PO X (some st) ts) : PE X (e.Subscript (Expr.Slice none none (some st) p2) pos) (tRev X.K te ts) where
  run := by
    intro pins s σ H Q I h
    refine PyProof.Rows.Subscript_ (thn (he.run pins s σ H _ I h) ?_)
    rintro v s1 ⟨x, H1, I1, r1, q1⟩
    refine wpAny_Slice ?_
    rw [evalPart_none]
    refine wpAny_pure (wpAny_pure ?_)
    refine thn (hs.run pins s1 σ H1 _ I1 q1) ?_
    rintro vk s2 ⟨k, H2, I2, pk, rfl, a, xs, rfl, hx, q⟩
    have I4 : L2.Inv X pins σ H2 { s2 with heap := s2.heap.push { cls := Value.type "slice", data := Data.fields #[.none, .none, vk] } } := Inv.kept I2 fun b ob q => Heap.get?_push_of_some { cls := Value.type "slice", data := Data.fields #[.none, .none, vk] } q
    cases r1
    obtain ⟨its, rv, ht, hz⟩ := I4.tuple hx
    have hlen : its.toArray.size = xs.length := by rw [List.size_toArray]; exact (Vals.length rv).symm
    refine PyProof.Rows.tail_any (PyProof.Rows.IsTup.typeIs ht) PyProof.Rows.slot_tuple_getitem.lookup ?_ rfl
    refine k1_tupleRev ht (Heap.IsSliceOf.new _ _ _ _) pk ?_ (by rw [hlen]; exact hz)
    refine ⟨.ref _, _, Inv.laid I4 (fun b ob q => Heap.get?_push_of_some _ q) (Nat.le_refl _) (o := .tup xs.reverse) ⟨by rw [List.length_reverse]; exact hz, _, Vals.reverse rv, PyProof.Rows.IsTup.new _ _⟩, rfl, q _ (HOk.fresh I4.hok (Nat.le_refl _))⟩
end K1
end
section
set_option maxRecDepth 100000
set_option maxHeartbeats 4000000
namespace K1
open PySem L2 K01
theorem PitAt.tup {K : PySem.W.Frag} {H H' : Hp} {p a : Addr} {z : Int} {xs : List V} (hp : PitAt H p z) (e : But p H H') (h : SqT K H a xs) : SqT K H' a xs := by
  obtain ⟨x, y, c, hl, _⟩ := hp
  rcases h with (q | ⟨o, q⟩) | q
  · exact .inl (.inl (e _ _ (fun z => by rw [z, hl] at q; cases q) q))
  · exact .inl (.inr ⟨o, e _ _ (fun z => by rw [z, hl] at q; cases q) q⟩)
  · exact .inr q
theorem PitAt.tups {H H' : Hp} {p : Addr} {z : Int} {ps : List Addr} {xss : List (List V)} (hp : PitAt H p z) (e : But p H H') (h : TupsAt H ps xss) : TupsAt H' ps xss :=
  ⟨h.1, fun i q r q1 q2 => by
    obtain ⟨x, y, c, hl, _⟩ := hp
    have := h.2 i q r q1 q2
    exact e _ _ (fun z => by rw [z, hl] at this; cases this) this⟩
theorem PitAt.tt {K : PySem.W.Frag} {H H' : Hp} {p a : Addr} {z : Int} {xss : List (List V)} (hp : PitAt H p z) (e : But p H H') (h : TTAt K H a xss) : TTAt K H' a xss := by
  obtain ⟨ps, h1, h2⟩ := h
  exact ⟨ps, hp.tup e h1, hp.tups e h2⟩
section
variable {P : Program} {w : World} {K : PySem.W.Frag} {mg : Str → Option Value} {base : Heap}
abbrev sDF : Stmt := top 53
/-- the fact speaks of two names -/
structure FOk (ms : List Str) (f : Fact) : Prop where
  l : f.1 ∈ nodes ms
  r : f.2.1 ∈ nodes ms
  ne : f.1 ≠ f.2.1
  sm : f.2.2.natAbs ≤ 10 ^ 13
def spDF (K : PySem.W.Frag) : Sp := fun vs H Q _ => ∃ (p a : Addr) (ms : List Str) (far z : Int), vs = [.ref p, .ref a, .int far] ∧ PitAt H p z ∧ z ≤ 900000 ∧ strsT K H a ms ∧ 1 ≤ ms.length ∧ ms.length ≤ 100 ∧ (nodes ms).Nodup ∧ 0 ≤ far ∧ far ≤ 10 ^ 12 ∧
  ∀ H' q f, But p H H' → PitAt H' p (z + 3) → H' q = some (.tup (factV f)) → FOk ms f → Q (.ref q) H'
theorem scDF : FnScope ["pit", "marks_here", "far", "nodes", "k", "step_here", "sum_here"] ["pit", "marks_here", "far"] (defScope sDF) := ⟨rfl, rfl, rfl, by decide +kernel, rfl, by decide +kernel, by decide +kernel⟩
theorem ok_df {f fh : Addr} {fd fdh : FuncData} (F : Fun K "_law_drawn_fact" "_law_drawn_fact" sDF f fd) (T : Bi mg)
    (FH : Fun K "_law_hoist" "_law_hoist" sHoist fh fdh) (bH : Binds K fdh ["pit", "below"] []) (mH : mg "_law_hoist" = some (.ref fh)) :
    FnOk P w K mg base CX0 2 f fd ["pit", "marks_here", "far"] (spDF K) := by
  have GH : FnOk P w K mg base CX0 1 fh fdh ["pit", "below"] (spHoist K) := ok_hoist FH T
  refine F.ok scDF (fun vs H Q E h => ?_) (fun cdv A outer s H vs Q E hr h => ?_)
  · obtain ⟨_, _, _, _, _, rfl, _⟩ := h
    rfl
  · obtain ⟨p, a, ms, far, z, rfl, hp, hz, hm, hl1, hl, hN, hf0, hf1, k⟩ := h
    refine ⟨_, pss_cons (ps_set (i := 3) scDF.nd rfl (.inl rfl) (pe_op op_catT (pe_tup (pa_cons pe_str pa_nil)) (pv 1)))
      (pss_cons (ps_par (i := 4) (j := 5) rfl scDF.nd rfl rfl (by decide) rfl rfl (pa_cons (pe_call GH hr rfl mH FH.kp bH .nil pass0 (pa_cons (pv 0) (pa_cons (pe_callB call_len_seq (by rfl) T.len PySem.boot_len (pa_cons (pv 3) pa_nil)) pa_nil)))
          (pa_cons (pe_op op_add pe_int (pe_call GH hr rfl mH FH.kp bH .nil pass0 (pa_cons (pv 0) (pa_cons (pe_op op_sub (pe_callB call_len_seq (by rfl) T.len PySem.boot_len (pa_cons (pv 3) pa_nil)) pe_int) pa_nil)))) pa_nil)) rfl)
      (pss_cons (ps_set (i := 6) scDF.nd rfl (.inl rfl) (pe_op op_sub (pe_call GH hr rfl mH FH.kp bH .nil pass0 (pa_cons (pv 0) (pa_cons (pe_op op_add (pe_op op_mul pe_int (pv 2)) pe_int) pa_nil))) (pv 2)))
      (pss_one (ps_ret (pe_tup (pa_cons (pe_ix ix_tup (pv 3) (pv 4) (fun _ _ => rfl)) (pa_cons (pe_ix ix_tup (pv 3) (pe_op op_modN (pe_op op_add (pv 4) (pv 5)) (pe_callB call_len_seq (by rfl) T.len PySem.boot_len (pa_cons (pv 3) pa_nil))) (fun _ _ => rfl)) (pa_cons (pv 6) pa_nil)))))))), ?_⟩
    refine ⟨by show 1 ≤ sizeLine; decide, fun t ht => ?_⟩
    have s1 : Same H (upd H t (.tup [.str "zero"])) := Same.new ht
    refine ⟨_, rfl, catT_it tup_at (Same.tup s1 hm) (by simp) (by rw [List.length_map]; exact Nat.le_of_lt (Nat.lt_of_le_of_lt (show 1 + ms.length ≤ 1001 by omega) (by decide))) fun u H' s2 hu => ?_⟩
    have sH := s1.trans s2
    replace hu : SqT K H' u ((nodes ms).map V.str) := hu
    have nl : (((nodes ms).map V.str).length : Int) = (ms.length : Int) + 1 := by rw [List.length_map, List.length_cons]; omega
    have P0 := hp.same sH
    refine ⟨_, rfl, _, rfl, u, _, rfl, .inr hu, p, _, z, rfl, P0, by omega, by omega, by omega, fun H1 d1 b1 P1 l1 u1 => ?_⟩
    have hu1 := P0.tup b1 hu
    refine ⟨_, rfl, _, rfl, u, _, rfl, .inr hu1, _, _, rfl, rfl, p, _, _, rfl, P1, by omega, by omega, by omega, fun H2 d2 b2 P2 l2 u2 => ⟨_, _, rfl, rfl, _, _, rfl, ?_⟩⟩
    have hu2 := P1.tup b2 hu1
    refine ⟨_, rfl, _, rfl, _, _, rfl, rfl, .inl ⟨by decide, by decide⟩, _, _, rfl, rfl, p, _, _, rfl, P2, by omega, by omega, by omega, fun H3 d3 b3 P3 l3 u3 => ⟨_, rfl, _, _, rfl, rfl, ?_⟩⟩
    have hu3 := P2.tup b3 hu2
    obtain ⟨n1, rfl⟩ := Int.eq_ofNat_of_zero_le l1
    obtain ⟨n2, rfl⟩ := Int.eq_ofNat_of_zero_le l2
    rw [nl] at u1 u2
    have h1 : n1 < (nodes ms).length := by rw [List.length_cons]; omega
    have hj : (n1 + (1 + n2)) % (ms.length + 1) < (nodes ms).length := by rw [List.length_cons]; exact Nat.mod_lt _ (by omega)
    have g1 := List.getElem?_eq_getElem h1
    have g2 := List.getElem?_eq_getElem hj
    have hne : (nodes ms)[n1] ≠ (nodes ms)[(n1 + (1 + n2)) % (ms.length + 1)] := by
      intro e
      have := nodup_get hN (i := n1) (j := (n1 + (1 + n2)) % (ms.length + 1)) g1 (by rw [g2, e])
      by_cases hlt : n1 + (1 + n2) < ms.length + 1
      · rw [Nat.mod_eq_of_lt hlt] at this; omega
      · rw [Nat.mod_eq_sub_mod (by omega), Nat.mod_eq_of_lt (by omega)] at this; omega
    generalize (nodes ms)[n1] = x at g1 hne
    generalize (nodes ms)[(n1 + (1 + n2)) % (ms.length + 1)] = y at g2 hne
    have hfm : ((n1 : Int) + (1 + (n2 : Int))).fmod ((((nodes ms).map V.str).length : Nat) : Int) = (((n1 + (1 + n2)) % (ms.length + 1) : Nat) : Int) := by
      rw [nl, Int.fmod_eq_emod_of_nonneg _ (by omega)]
      rw [Int.natCast_emod]
      congr 1
    have a1 : atI ((nodes ms).map V.str) (n1 : Nat) = some (.str x) := atI_nat (by rw [List.getElem?_map, g1]; rfl)
    have a2 : atI ((nodes ms).map V.str) (((n1 : Int) + (1 + (n2 : Int))).fmod ((((nodes ms).map V.str).length : Nat) : Int)) = some (.str y) := by
      rw [hfm]
      exact atI_nat (by rw [List.getElem?_map, g2]; rfl)
    refine ⟨_, rfl, _, rfl, _, _, _, _, rfl, rfl, hu3, a1, _, rfl, _, rfl, _, rfl, _, _, rfl, rfl, _, rfl, u, _, rfl, .inr hu3, _, _, rfl, rfl, by omega, _, _, _, _, rfl, rfl, hu3, a2, _, rfl, by show 3 ≤ sizeLine; decide, fun q hq => ?_⟩
    refine k _ q (x, y, d3 - far) (((((Same.but sH).trans b1).trans b2).trans b3).trans (Same.but (Same.new hq))) ((P3.mono (by omega)).same (Same.new hq)) upd_same ⟨List.mem_of_getElem? g1, List.mem_of_getElem? g2, hne, ?_⟩
    show (d3 - far).natAbs ≤ 10 ^ 13
    omega
end
end K1
end
section
set_option maxRecDepth 100000
set_option maxHeartbeats 4000000
namespace K1
open PySem L2 K01
/-- a sheet as the law draws it -/
structure ShOk (ms ts : List Str) (F : List Fact) : Prop where
  gm : GoodNs ms
  ml : ms.length ≤ 5
  m1 : 1 ≤ ms.length
  tm : ∀ t ∈ ts, t ∈ ms
  tn : ts.Nodup
  tl : ts.length ≤ 5
  fl : F.length ≤ 12
  fo : ∀ f ∈ F, FOk ms f
  ng : negs (ms.length + 1) (closedM (ms.length + 1) (F.map (eF ms))) = []
theorem negs_nil (m : Nat) : negs (m + 1) (closedM (m + 1) []) = [] :=
  negs_good (free_good m) (fun {y} hy => (free_le (by omega) hy).mpr ⟨.inl rfl, Int.le_refl _⟩) (fun e he => nomatch he) (fun e he => nomatch he)
theorem FOk.inN {ms : List Str} {F : List Fact} (h : ∀ f ∈ F, FOk ms f) : InN ms F := fun f hf => ⟨(h f hf).l, (h f hf).r⟩
theorem GoodNs.nodes {ms : List Str} (h : GoodNs ms) : (nodes ms).Nodup := List.nodup_cons.mpr ⟨h.nz, h.nd⟩
theorem catA_it {K : PySem.W.Frag} {H : Hp} {a b : Addr} {xs ys : List V} {Q : V → Hp → Prop} (h1 : SqT K H a xs) (h2 : SqT K H b ys) (hl : xs.length + ys.length ≤ sizeLine)
    (k : ∀ p H', Same H H' → SqT K H' p (xs ++ ys) → Q (.ref p) H') : rCatA K (.ref a) (.ref b) H Q := by
  refine ⟨_, _, _, _, rfl, rfl, h1, h2, hl, fun e => ?_, fun _ e => ?_, fun _ _ q hq => k q _ (Same.new hq) tup_at⟩
  · refine k b H (Same.refl H) ?_
    rw [e, List.nil_append]; exact h2
  · refine k a H (Same.refl H) ?_
    rw [e, List.append_nil]; exact h1
section
variable {P : Program} {w : World} {K : PySem.W.Frag} {mg : Str → Option Value} {base : Heap}
abbrev sDS : Stmt := top 54
def spDS (K : PySem.W.Frag) : Sp := fun vs H Q _ => ∃ (p : Addr) (many most : Nat) (far z : Int), vs = [.ref p, .int many, .int most, .int far] ∧ PitAt H p z ∧ z ≤ 800000 ∧ 1 ≤ many ∧ many ≤ 4 ∧ most ≤ 12 ∧ 0 ≤ far ∧ far ≤ 10 ^ 12 ∧
  ∀ H' q a b c ms ts F, But p H H' → PitAt H' p (z + 150) → H' q = some (.tup [.ref a, .ref b, .ref c]) → strsT K H' a ms → strsT K H' b ts → TTAt K H' c (F.map factV) → ShOk ms ts F → Q (.ref q) H'
abbrev nsD : List Str := ["pit", "many", "most", "far", "marks_here", "takes_here", "facts_here", "turn", "more", "name"]
theorem scDS : FnScope nsD ["pit", "many", "most", "far"] (defScope sDS) := ⟨rfl, rfl, rfl, by decide +kernel, rfl, by decide +kernel, by decide +kernel⟩
theorem ok_ds {f fh fN fD fC fM : Addr} {fd fdh fdN fdD fdC fdM : FuncData} (F : Fun K "_law_drawn_sheet" "_law_drawn_sheet" sDS f fd) (T : Bi mg)
    (FH : Fun K "_law_hoist" "_law_hoist" sHoist fh fdh) (bH : Binds K fdh ["pit", "below"] []) (mH : mg "_law_hoist" = some (.ref fh))
    (FN : Fun K "_law_call_names" "_law_call_names" sCN fN fdN) (bN : Binds K fdN ["pit", "many"] []) (mN : mg "_law_call_names" = some (.ref fN))
    (FD : Fun K "_law_drawn_fact" "_law_drawn_fact" sDF fD fdD) (bD : Binds K fdD ["pit", "marks_here", "far"] []) (mD : mg "_law_drawn_fact" = some (.ref fD))
    (FM : Fun K "_law_numbered" "_law_numbered" sNum fM fdM) (bM : Binds K fdM ["marks_here", "facts_here"] []) (mM : mg "_law_numbered" = some (.ref fM))
    (FC : Fun K "_law_closed" "_law_closed" sClosed fC fdC) (bC : Binds K fdC ["many", "facts_here"] []) (mC : mg "_law_closed" = some (.ref fC)) :
    FnOk P w K mg base CX0 3 f fd ["pit", "many", "most", "far"] (spDS K) := by
  have GH : FnOk P w K mg base CX0 1 fh fdh ["pit", "below"] (spHoist K) := ok_hoist FH T
  have GN : FnOk P w K mg base CX0 2 fN fdN ["pit", "many"] (spCN K) := ok_cn FN T FH bH mH
  have GD : FnOk P w K mg base CX0 2 fD fdD ["pit", "marks_here", "far"] (spDF K) := ok_df FD T FH bH mH
  have GM : FnOk P w K mg base CX0 1 fM fdM ["marks_here", "facts_here"] (spNum K) := ok_num FM T
  have GC : FnOk P w K mg base CX0 1 fC fdC ["many", "facts_here"] (spClosed K) := ok_closed FC T
  refine F.ok scDS (fun vs H Q E h => ?_) (fun cdv A outer s H vs Q E hr h => ?_)
  · obtain ⟨_, _, _, _, _, rfl, _⟩ := h
    rfl
  · obtain ⟨p, many, most, far, z, rfl, hp, hz, hm1, hm4, hmo, hf0, hf1, k⟩ := h
    have hr1 : Room 1 _ := hr.mono (by decide)
    refine ⟨_, pss_cons (ps_set (i := 4) scDS.nd rfl (.inl rfl) (pe_call GN hr rfl mN FN.kp bN .nil pass0 (pa_cons (pv 0) (pa_cons (pe_op op_add pe_int (pe_call GH hr1 rfl mH FH.kp bH .nil pass0 (pa_cons (pv 0) (pa_cons (pv 1) pa_nil)))) pa_nil))))
      (pss_cons (ps_set (i := 5) scDS.nd rfl (.inl rfl) (pe_callTy call_tuple_of (by rfl) T.tuple (by decide +kernel) (pa_cons (pe_lc (own := [("name", 9)]) (g := gName 9) rfl scDS.nd (pi_tup (pv 4)) (blkOk_by (N := nsD) (sc := defScope sDS) (by decide +kernel))
          (fun _ _ _ _ _ => pg_name (i := 9) scDS.nd rfl (.inl rfl)) (fun _ _ _ _ _ => pts_one (pt_cmpR op_eq (pe_call GH hr1 rfl mH FH.kp bH .nil pass0 (pa_cons (pv 0) (pa_cons pe_int pa_nil))) pe_int (nomark _))) (fun _ _ _ _ _ => pv 9)) pa_nil)))
      (pss_cons (ps_set (i := 5) scDS.nd rfl (.inl rfl) (pe_ifExp (pt_cmpR op_eq (pe_call GH hr1 rfl mH FH.kp bH .nil pass0 (pa_cons (pv 0) (pa_cons pe_int pa_nil))) pe_int (nomark _)) (pe_rev (pv 5) (po_some (pe_un un_neg pe_int))) (pv 5)))
      (pss_cons (ps_set (i := 6) scDS.nd rfl (.inl rfl) (pe_tup pa_nil))
      (pss_cons (ps_for PassesOwn.never rfl (pi_range1 (by rfl) T.range (pa_cons (pe_call GH hr1 rfl mH FH.kp bH .nil pass0 (pa_cons (pv 0) (pa_cons (pe_op op_add (pv 2) pe_int) pa_nil))) pa_nil)) (pg_name (i := 7) scDS.nd rfl (.inl rfl))
        (pss_cons (ps_set (i := 8) scDS.nd rfl (.inl rfl) (pe_op op_catA (pv 6) (pe_tup (pa_cons (pe_call GD hr rfl mD FD.kp bD .nil pass0 (pa_cons (pv 0) (pa_cons (pv 4) (pa_cons (pv 3) pa_nil)))) pa_nil))))
        (pss_one (ps_if (pt_cmpR op_notN (pe_call GC hr1 rfl mC FC.kp bC .nil pass0 (pa_cons (pe_callB call_len_seq (by rfl) T.len PySem.boot_len (pa_cons (pv 4) pa_nil)) (pa_cons (pe_call GM hr1 rfl mM FM.kp bM .nil pass0 (pa_cons (pv 4) (pa_cons (pv 8) pa_nil))) pa_nil))) pe_non (nomark _))
          (pss_one (ps_set (i := 6) scDS.nd rfl (.inl rfl) (pv 8))) pss_nil))))
      (pss_one (ps_ret (pe_tup (pa_cons (pv 4) (pa_cons (pv 5) (pa_cons (pv 6) pa_nil)))))))))), ?_⟩
    refine ⟨_, rfl, _, rfl, _, rfl, p, many, z, rfl, hp, by omega, by omega, by omega, fun H1 d0 b1 P1 l1 u1 => ?_⟩
    obtain ⟨n1, rfl⟩ := Int.eq_ofNat_of_zero_le l1
    refine ⟨_, _, rfl, rfl, p, 1 + n1, z + 1, by rw [show ((1 + n1 : Nat) : Int) = 1 + (n1 : Int) from by omega]; rfl, P1, by omega, by omega, fun H2 a ms b2 P2 ha hml hG => ?_⟩
    have B2 : But p H H2 := b1.trans b2
    have P2 : PitAt H2 p (z + 100) := P2.mono (by omega)
    refine ⟨_, rfl, a, rfl, ⟨_, ha⟩, fun C hC => ?_⟩
    have nC := P2.ne hC
    refine lc_it (walk_tup (K := K) (a := a) (xs := ms.map V.str)) (fun i H' => But p H2 H' ∧ PitAt H' p (z + 100 + i) ∧ ∃ ts : List Str, H' C = some (.lst (ts.map V.str)) ∧ ts.Sublist (ms.take i)) ⟨Same.but (Same.new hC), by simpa using P2.same (Same.new hC), [], upd_same, by simp⟩ (fun i H' _ u => P2.tup u.1 ha) ?_ ?_
    · rintro i v H3 H4 hi ⟨q1, q2, ts, q3, q4⟩ ⟨rfl, hv⟩
      obtain ⟨nm, hnm, rfl⟩ := get_map hv
      rw [List.length_map] at hi
      have htk := take_snoc hnm
      refine ⟨rfl, _, rfl, p, 2, _, rfl, q2, by omega, by decide, by decide, fun H5 d b P l u => ⟨rfl, _, rfl, ?_⟩⟩
      have ei : z + 100 + (i : Int) + 1 = z + 100 + ((i + 1 : Nat) : Int) := by omega
      rw [ei] at P
      by_cases hd : d = 0
      · refine iteDT (congrArg V.int hd) ⟨_, rfl, _, b _ _ nC q3, ?_, ?_, ?_, ts ++ [nm], by rw [upd_same, List.map_append]; rfl, by rw [htk]; exact q4.append (List.Sublist.refl _)⟩
        · rw [List.length_map]
          have := q4.length_le
          have a2 : (ms.take i).length ≤ i := by rw [List.length_take]; exact Nat.min_le_left _ _
          exact small1000 (by omega)
        · exact (q1.trans b).new hC
        · obtain ⟨x, y, c, w1, w2⟩ := P
          exact ⟨x, y, c, by rw [upd_ne (Ne.symm nC)]; exact w1, w2⟩
      · exact iteDF (fun q => hd (V.int.inj q)) ⟨q1.trans b, P, ts, b _ _ nC q3, by rw [htk]; exact q4.trans (List.sublist_append_left _ _)⟩
    rintro H3 ⟨q1, q2, ts, q3, q4⟩
    rw [List.length_map, List.take_length] at q4
    rw [List.length_map] at q2
    have P3 : PitAt H3 p (z + 105) := q2.mono (by omega)
    refine ⟨C, _, rfl, .inl ⟨SqL.of q3, fun l hl => ?_⟩⟩
    have P4 := P3.same (Same.new (o := .tup (ts.map V.str)) hl)
    have B4 : But p H (upd H3 l (.tup (ts.map V.str))) := (B2.trans q1).trans (Same.but (Same.new hl))
    have ha4 : strsT K (upd H3 l (.tup (ts.map V.str))) a ms := P2.tup (q1.trans (Same.but (Same.new hl))) ha
    have hl4 : (upd H3 l (.tup (ts.map V.str))) l = some (.tup (ts.map V.str)) := upd_same
    generalize upd H3 l (.tup (ts.map V.str)) = H4 at P4 B4 ha4 hl4 ⊢
    have tsn : ts.Nodup := q4.nodup hG.nd
    have tsm : ∀ t ∈ ts, t ∈ ms := fun t ht => q4.subset ht
    have tsl : ts.length ≤ 5 := by have := q4.length_le; omega
    dsimp only [gName]
    refine seq_gen (fun σ' H' => ∃ (b : Addr) (ts : List Str), σ' = [some (.ref p), some (.int (many : Nat)), some (.int (most : Nat)), some (.int far), some (.ref a), some (.ref b), none, none, none, none] ∧ But p H H' ∧ PitAt H' p (z + 107) ∧ strsT K H' a ms ∧ strsT K H' b ts ∧ ts.Nodup ∧ (∀ t ∈ ts, t ∈ ms) ∧ ts.length ≤ 5) (fun N hN => ?_) ?_
    · refine ⟨_, rfl, p, 3, _, rfl, P4, by omega, by decide, by decide, fun H5 d b P l u => ⟨rfl, _, rfl, ?_⟩⟩
      have hl5 := P4.tup (K := K) b (SqT.of hl4)
      have ha5 := P4.tup (K := K) b ha4
      by_cases hd : d = 0
      · refine iteDT (congrArg V.int hd) ⟨_, rfl, _, rfl, _, rfl, rfl, _, _, rfl, hl5, fun q hq => ?_⟩
        exact hN _ _ ⟨q, ts.reverse, rfl, (B4.trans b).trans (Same.but (Same.new hq)), (P.same (Same.new hq)).mono (by omega), Same.tup (Same.new hq) ha5, by unfold strsT; rw [List.map_reverse]; exact tup_at, List.pairwise_reverse.mpr (tsn.imp fun e => e.symm), fun t ht => tsm t (List.mem_reverse.mp ht), by rw [List.length_reverse]; exact tsl⟩
      · exact iteDF (fun q => hd (V.int.inj q)) ⟨_, rfl, hN _ _ ⟨_, ts, rfl, B4.trans b, P.mono (by omega), ha5, hl5, tsn, tsm, tsl⟩⟩
    rintro σ' H5 ⟨b, ts, rfl, B5, P5, ha5, hb5, tsn, tsm, tsl⟩
    refine ⟨by show 0 ≤ sizeLine; decide, fun c0 hc0 => ?_⟩
    have P6 := P5.same (Same.new (o := .tup []) hc0)
    refine ⟨_, rfl, _, rfl, _, _, rfl, rfl, p, _, _, rfl, P6, by omega, by omega, by omega, fun H7 d7 b7 P7 l7 u7 => ?_⟩
    obtain ⟨n7, rfl⟩ := Int.eq_ofNat_of_zero_le l7
    refine ⟨_, rfl, by omega, by omega, ?_⟩
    rw [Int.toNat_natCast]
    refine for_r0 (fun i σ H' => (∃ (c : Addr) (F : List Fact) (v7 v8 : Option V), σ = [some (.ref p), some (.int (many : Nat)), some (.int (most : Nat)), some (.int far), some (.ref a), some (.ref b), some (.ref c), v7, v8, none] ∧ TTAt K H' c (F.map factV) ∧ F.length ≤ i ∧ (∀ f ∈ F, FOk ms f) ∧ negs (ms.length + 1) (closedM (ms.length + 1) (F.map (eF ms))) = []) ∧ But p H H' ∧ PitAt H' p (z + 108 + 3 * i) ∧ strsT K H' a ms ∧ strsT K H' b ts)
      ⟨⟨c0, [], _, _, rfl, ⟨[], P6.tup b7 tup_at, TupsAt.nil⟩, Nat.le_refl _, by simp, negs_nil _⟩, (B5.trans (Same.but (Same.new hc0))).trans b7, P7.mono (by omega), P6.tup b7 (Same.tup (Same.new hc0) ha5), P6.tup b7 (Same.tup (Same.new hc0) hb5)⟩ ?_ ?_
    · rintro i σ H8 hi ⟨⟨c, F, v7, v8, rfl, hF, hFl, hFo, hFn⟩, B8, P8, ha8, hb8⟩
      refine ⟨_, rfl, _, rfl, _, rfl, _, rfl, p, a, ms, far, _, rfl, P8, by omega, ha8, by omega, by omega, hG.nodes, hf0, hf1, fun H9 q f b9 P9 hq hf => ?_⟩
      refine ⟨by show 1 ≤ sizeLine; decide, fun t ht => ?_⟩
      have B9 : But p H (upd H9 t (.tup [.ref q])) := (B8.trans b9).trans (Same.but (Same.new ht))
      have P9' := P9.same (Same.new (o := .tup [.ref q]) ht)
      have ha9 := Same.tup (K := K) (Same.new (o := .tup [.ref q]) ht) (P8.tup b9 ha8)
      have hb9 := Same.tup (K := K) (Same.new (o := .tup [.ref q]) ht) (P8.tup b9 hb8)
      obtain ⟨ps, hF1, hF2⟩ := (P8.tt b9 hF).same (Same.new (o := .tup [.ref q]) ht)
      have hq9 := Same.new (o := .tup [.ref q]) ht _ _ hq
      have pl : ps.length = F.length := by rw [hF2.1, List.length_map]
      refine catA_it hF1 tup_at (by rw [List.length_map, pl]; exact line8 (show F.length + 1 ≤ 100 by omega)) fun u H10 s10 hu => ?_
      have hT : TTAt K H10 u ((F ++ [f]).map factV) := ⟨ps ++ [q], by rw [List.map_append]; exact hu, by rw [List.map_append]; exact (hF2.same s10).snoc (s10 _ _ hq9)⟩
      have hFo' : ∀ g ∈ F ++ [f], FOk ms g := fun g hg => by
        rcases List.mem_append.mp hg with hg | hg
        · exact hFo g hg
        · rw [List.mem_singleton] at hg; rw [hg]; exact hf
      have ha10 := Same.tup (K := K) s10 ha9
      have hFl' : (F ++ [f]).length ≤ i + 1 := by rw [List.length_append]; simpa using hFl
      refine ⟨_, rfl, a, _, rfl, .inr ha10, _, rfl, _, rfl, a, u, ms, F ++ [f], rfl, ha10, by omega, hT, by omega, FOk.inN hFo', fun H11 r rs s11 g1 g2 => ?_⟩
      refine ⟨ms.length, r, rs, (F ++ [f]).map (eF ms), by rw [List.length_map]; rfl, by omega, g1, by rw [List.map_map]; exact g2, (FOk.inN hFo').inR, fun H12 s12 => ?_⟩
      have s3 := (s10.trans s11).trans s12
      have ePit : z + 108 + 3 * (i : Int) + 3 = z + 108 + 3 * ((i + 1 : Nat) : Int) := by omega
      rw [ePit] at P9'
      refine ⟨fun hn R => ⟨rfl, _, rfl, iteNF (fun z => nomatch z) ⟨_, rfl, ⟨u, F ++ [f], _, _, rfl, hT.same (s11.trans s12), hFl', hFo', hn⟩, B9.trans (Same.but s3), P9'.same s3, Same.tup s3 ha9, Same.tup s3 hb9⟩⟩, fun hn => ⟨rfl, _, rfl, iteNS rfl ⟨⟨c, F, _, _, rfl, ⟨ps, Same.tup s3 hF1, hF2.same s3⟩, by omega, hFo, hFn⟩, B9.trans (Same.but s3), P9'.same s3, Same.tup s3 ha9, Same.tup s3 hb9⟩⟩⟩
    · rintro σ H8 ⟨⟨c, F, v7, v8, rfl, hF, hFl, hFo, hFn⟩, B8, P8, ha8, hb8⟩
      refine ⟨_, rfl, _, rfl, _, rfl, by show 3 ≤ sizeLine; decide, fun q hq => ?_⟩
      exact k _ q a b c ms ts F (B8.trans (Same.but (Same.new hq))) ((P8.same (Same.new hq)).mono (by omega)) upd_same (Same.tup (Same.new hq) ha8) (Same.tup (Same.new hq) hb8) (hF.same (Same.new hq)) ⟨hG, by omega, by omega, tsm, tsn, tsl, by omega, hFo, hFn⟩
end
end K1
end
section
set_option maxRecDepth 100000
set_option maxHeartbeats 4000000
namespace K1
open PySem L2 K01
theorem slA_it {K : PySem.W.Frag} {H : Hp} {a : Addr} {xs : List V} {lo hi : Option Int} {Q : V → Hp → Prop} (h1 : SqT K H a xs)
    (k : ∀ p H', Same H H' → SqT K H' p (cutV xs lo hi) → Q (.ref p) H') : rSlA K (.ref a) lo hi H Q := by
  refine ⟨a, xs, rfl, h1, fun e => k a H (Same.refl H) ?_, fun _ p hp => k p _ (Same.new hp) tup_at⟩
  unfold cutV
  rw [e.1, e.2, Nat.sub_zero, List.drop_zero, List.take_length]
  exact h1
section
variable {P : Program} {w : World} {K : PySem.W.Frag} {mg : Str → Option Value} {base : Heap}
abbrev sBt : Stmt := top 61
def spBt (K : PySem.W.Frag) : Sp := fun vs H Q _ => ∃ (p s t : Addr) (us xs : List V) (z : Int), vs = [.ref p, .ref s, .ref t] ∧ PitAt H p z ∧ z ≤ 900000 ∧ s ≠ p ∧ H s = some (.lst us) ∧ us ≠ [] ∧ us.length ≤ 100 ∧ SqT K H t xs ∧ xs.length ≤ 400 ∧
  ∀ H' q u (k e : Nat), But p H H' → PitAt H' p (z + 3) → u ∈ us → k ≤ xs.length → e ≤ 1 → SqT K H' q ((xs.take k ++ [u]) ++ xs.drop (k + e)) → Q (.ref q) H'
theorem scBt : FnScope ["pit", "some", "things", "k", "thing"] ["pit", "some", "things"] (defScope sBt) := ⟨rfl, rfl, rfl, by decide +kernel, rfl, by decide +kernel, by decide +kernel⟩
theorem ok_bt {f fh : Addr} {fd fdh : FuncData} (F : Fun K "_law_bent" "_law_bent" sBt f fd) (T : Bi mg)
    (FH : Fun K "_law_hoist" "_law_hoist" sHoist fh fdh) (bH : Binds K fdh ["pit", "below"] []) (mH : mg "_law_hoist" = some (.ref fh)) :
    FnOk P w K mg base CX0 2 f fd ["pit", "some", "things"] (spBt K) := by
  have GH : FnOk P w K mg base CX0 1 fh fdh ["pit", "below"] (spHoist K) := ok_hoist FH T
  refine F.ok scBt (fun vs H Q E h => ?_) (fun cdv A outer s H vs Q E hr h => ?_)
  · obtain ⟨_, _, _, _, _, _, rfl, _⟩ := h
    rfl
  · obtain ⟨p, s0, t, us, xs, z, rfl, hp, hz, nsp, hs, hu0, hul, hx, hxl, k⟩ := h
    refine ⟨_, pss_cons (ps_par (i := 3) (j := 4) rfl scBt.nd rfl rfl (by decide) rfl rfl (pa_cons (pe_call GH hr rfl mH FH.kp bH .nil pass0 (pa_cons (pv 0) (pa_cons (pe_op op_add (pe_callB call_len_seq (by rfl) T.len PySem.boot_len (pa_cons (pv 2) pa_nil)) pe_int) pa_nil)))
          (pa_cons (pe_ix ix_list (pv 1) (pe_call GH hr rfl mH FH.kp bH .nil pass0 (pa_cons (pv 0) (pa_cons (pe_callB call_len_seq (by rfl) T.len PySem.boot_len (pa_cons (pv 1) pa_nil)) pa_nil))) (fun _ _ => rfl)) pa_nil)) rfl)
      (pss_one (ps_ret (pe_op op_catA (pe_op op_catA (pe_slice sl_tupA (pv 2) po_none (po_some (pv 3))) (pe_tup (pa_cons (pv 4) pa_nil)))
        (pe_slice sl_tupA (pv 2) (po_some (pe_op op_add (pv 3) (pe_call GH hr rfl mH FH.kp bH .nil pass0 (pa_cons (pv 0) (pa_cons pe_int pa_nil))))) po_none)))), ?_⟩
    have hul0 : 0 < us.length := List.length_pos_iff.mpr hu0
    refine ⟨_, rfl, _, rfl, t, _, rfl, .inr hx, _, _, rfl, rfl, p, _, z, rfl, hp, by omega, by omega, by omega, fun H1 d1 b1 P1 l1 u1 => ?_⟩
    have hx1 := hp.tup b1 hx
    have hs1 := b1 _ _ nsp hs
    refine ⟨_, rfl, _, rfl, _, rfl, s0, _, rfl, .inl (SqL.of hs1), p, _, _, rfl, P1, by omega, by omega, by omega, fun H2 d2 b2 P2 l2 u2 => ?_⟩
    have hx2 := P1.tup b2 hx1
    have hs2 := b2 _ _ nsp hs1
    obtain ⟨n1, rfl⟩ := Int.eq_ofNat_of_zero_le l1
    obtain ⟨n2, rfl⟩ := Int.eq_ofNat_of_zero_le l2
    have hn2 : n2 < us.length := by omega
    have hn1 : n1 ≤ xs.length := by omega
    refine ⟨s0, _, _, us[n2], rfl, rfl, SqL.of hs2, atI_nat (List.getElem?_eq_getElem hn2), _, _, rfl, ?_⟩
    have hmem : us[n2] ∈ us := List.getElem_mem hn2
    generalize us[n2] = v at hmem
    refine ⟨_, rfl, _, rfl, _, rfl, slA_it hx2 fun q1 H3 s3 h3 => ?_⟩
    rw [cut_take] at h3
    refine ⟨_, rfl, by show 1 ≤ sizeLine; decide, fun q2 hq2 => ?_⟩
    have s4 : Same H3 (upd H3 q2 (.tup [v])) := Same.new hq2
    refine catA_it (Same.tup s4 h3) tup_at ?_ fun q3 H5 s5 h5 => ?_
    · rw [List.length_take]
      exact Nat.le_of_lt (small1000 (show min n1 xs.length + 1 ≤ 1000 by omega))
    have s35 := (s3.trans s4).trans s5
    have P5 := P2.same s35
    have hx5 := Same.tup s35 hx2
    refine ⟨_, rfl, _, rfl, _, rfl, p, 2, _, rfl, P5, by omega, by decide, by decide, fun H6 d6 b6 P6 l6 u6 => ?_⟩
    obtain ⟨n6, rfl⟩ := Int.eq_ofNat_of_zero_le l6
    refine ⟨_, _, rfl, rfl, _, rfl, ?_⟩
    dsimp only [tNoPart]
    refine slA_it (P5.tup b6 hx5) fun q4 H7 s7 h7 => ?_
    have ec : (n1 : Int) + (n6 : Int) = ((n1 + n6 : Nat) : Int) := by omega
    rw [ec, cut_drop] at h7
    have h57 := Same.tup s7 (P5.tup b6 h5)
    refine catA_it h57 h7 ?_ fun q5 H8 s8 h8 => ?_
    · rw [List.length_append, List.length_take, List.length_drop]
      exact Nat.le_of_lt (small1000 (show min n1 xs.length + 1 + (xs.length - (n1 + n6)) ≤ 1000 by omega))
    exact k _ q5 v n1 n6 (((((b1.trans b2).trans (Same.but s35)).trans b6).trans (Same.but s7)).trans (Same.but s8)) (((P6.same s7).same s8).mono (by omega)) hmem hn1 (by omega) h8
end
end K1
end
section
set_option maxRecDepth 100000
set_option maxHeartbeats 4000000
namespace K1
open PySem L2 K01
def Small14 (xs : List V) : Prop := (∀ i : Int, V.int i ∈ xs → i.natAbs ≤ 10 ^ 14) ∧ ∀ z : Str, V.str z ∈ xs → AscZ z
/-- a sheet's parts, good or not -/
structure Parts (n : Nat) (ms ts : List Str) (fs : List (List V)) : Prop where
  m1 : 1 ≤ ms.length
  ml : ms.length ≤ n
  ma : ∀ z ∈ ms, AscZ z ∧ z.length ≤ 9
  tl : ts.length ≤ n
  ta : ∀ z ∈ ts, AscZ z ∧ z.length ≤ 9
  fl : fs.length ≤ n + 10
  ff : FlatF fs
  fi : ∀ xs ∈ fs, Small14 xs
  fr : ∀ xs ∈ fs, xs.length ≤ 4
structure KS (K : PySem.W.Frag) (H : Hp) (p a b c : Addr) (ms ts : List Str) (fs : List (List V)) (z : Int) (H' : Hp) : Prop where
  but : But p H H'
  pit : PitAt H' p z
  ha : strsT K H' a ms
  hb : strsT K H' b ts
  hc : TTAt K H' c fs
section
variable {K : PySem.W.Frag} {H : Hp} {p a b c : Addr} {ms ts : List Str} {fs : List (List V)} {z : Int}
theorem KS.same {H1 H2 : Hp} (h : KS K H p a b c ms ts fs z H1) (e : Same H1 H2) : KS K H p a b c ms ts fs z H2 :=
  ⟨h.but.trans (Same.but e), h.pit.same e, Same.tup e h.ha, Same.tup e h.hb, h.hc.same e⟩
theorem KS.new {H1 : Hp} {q : Addr} {o : HO} (h : KS K H p a b c ms ts fs z H1) (e : H1 q = none) : KS K H p a b c ms ts fs z (L2.upd H1 q o) := h.same (Same.new e)
theorem KS.step {H1 H2 : Hp} {z' : Int} (h : KS K H p a b c ms ts fs z H1) (e : But p H1 H2) (q : PitAt H2 p z') : KS K H p a b c ms ts fs z' H2 :=
  ⟨h.but.trans e, q, h.pit.tup e h.ha, h.pit.tup e h.hb, h.pit.tt e h.hc⟩
end
def OkRow (xs : List V) : Prop := (∀ v ∈ xs, Flat v) ∧ Small14 xs ∧ xs.length ≤ 4
/-- a list of tuples -/
def SomeOk (H : Hp) (us : List V) : Prop := ∀ u ∈ us, ∃ q xs, u = .ref q ∧ H q = some (.tup xs) ∧ OkRow xs
theorem SomeOk.same {H H' : Hp} {us : List V} (e : Same H H') (h : SomeOk H us) : SomeOk H' us := fun u hu => by
  obtain ⟨q, xs, h1, h2, h3⟩ := h u hu
  exact ⟨q, xs, h1, e _ _ h2, h3⟩
theorem SomeOk.nil {H : Hp} : SomeOk H [] := fun u hu => nomatch hu
theorem SomeOk.snoc {H : Hp} {us : List V} {q : Addr} {xs : List V} (h : SomeOk H us) (hq : H q = none) (ok : OkRow xs) : SomeOk (upd H q (.tup xs)) (us ++ [.ref q]) := fun u hu => by
  rcases List.mem_append.mp hu with hu | hu
  · exact h.same (Same.new hq) u hu
  · rw [List.mem_singleton] at hu
    exact ⟨q, xs, hu, upd_same, ok⟩
theorem SomeOk.app {H : Hp} {us ws : List V} (h : SomeOk H us) (g : SomeOk H ws) : SomeOk H (us ++ ws) := fun u hu => by
  rcases List.mem_append.mp hu with hu | hu
  · exact h u hu
  · exact g u hu
def flatI (v : V) : Prop := Flat v ∧ (∀ i : Int, v = .int i → i.natAbs ≤ 10 ^ 14) ∧ ∀ z : Str, v = .str z → AscZ z
theorem OkRow.of {xs : List V} (h : ∀ v ∈ xs, flatI v) (hl : xs.length ≤ 4) : OkRow xs := ⟨fun v hv => (h v hv).1, ⟨fun i hi => (h _ hi).2.1 i rfl, fun z hz => (h _ hz).2.2 z rfl⟩, hl⟩
theorem fl_str (z : Str) (h : AscZ z) : flatI (.str z) := ⟨.str z, (fun i e => nomatch e), fun y e => by cases e; exact h⟩
theorem fl_int {i : Int} (h : i.natAbs ≤ 10 ^ 14) : flatI (.int i) := ⟨.int i, (fun j e => by cases e; exact h), fun y e => nomatch e⟩
theorem fl_bl (b : Bool) : flatI (.bl b) := ⟨.bl b, (fun i e => nomatch e), fun y e => nomatch e⟩
theorem fl_non : flatI .non := ⟨.non, (fun i e => nomatch e), fun y e => nomatch e⟩
theorem asc_few : AscZ "1" ∧ AscZ "nomark" ∧ AscZ "" ∧ AscZ "zero" := by
  unfold AscZ
  decide +kernel
theorem ok0 : OkRow [] := .of (fun v hv => nomatch hv) (Nat.zero_le _)
theorem ok2 {u v : V} (h1 : flatI u) (h2 : flatI v) : OkRow [u, v] := by
  refine .of (fun x hx => ?_) (by show 2 ≤ 4; decide)
  simp only [List.mem_cons, List.not_mem_nil, or_false] at hx
  rcases hx with rfl | rfl <;> assumption
theorem ok3 {u v w : V} (h1 : flatI u) (h2 : flatI v) (h3 : flatI w) : OkRow [u, v, w] := by
  refine .of (fun x hx => ?_) (by show 3 ≤ 4; decide)
  simp only [List.mem_cons, List.not_mem_nil, or_false] at hx
  rcases hx with rfl | rfl | rfl <;> assumption
theorem ok4 {u v w t : V} (h1 : flatI u) (h2 : flatI v) (h3 : flatI w) (h4 : flatI t) : OkRow [u, v, w, t] := by
  refine .of (fun x hx => ?_) (by show 4 ≤ 4; decide)
  simp only [List.mem_cons, List.not_mem_nil, or_false] at hx
  rcases hx with rfl | rfl | rfl | rfl <;> assumption
def AscN (z : Str) : Prop := AscZ z ∧ z.length ≤ 9
def odd8 : List Str := ["zero", "", "a b", "a1", "abcdefghi", "Zero", "ok", "x_y"]
theorem odd8_ok : ∀ z ∈ odd8, AscN z := by
  unfold AscN AscZ
  decide +kernel
theorem ascn_in : AscN "in-" := by
  unfold AscN AscZ
  decide +kernel
theorem bend_mem {α : Type} {xs : List α} {u v : α} {k e : Nat} (h : v ∈ (xs.take k ++ [u]) ++ xs.drop (k + e)) : v ∈ xs ∨ v = u := by
  rcases List.mem_append.mp h with h | h
  · rcases List.mem_append.mp h with h | h
    · exact .inl (List.mem_of_mem_take h)
    · rw [List.mem_singleton] at h; exact .inr h
  · exact .inl (List.mem_of_mem_drop h)
theorem bend_len {α : Type} {xs : List α} {u : α} {k e n : Nat} (h : xs.length ≤ n) (hk : k ≤ xs.length) : ((xs.take k ++ [u]) ++ xs.drop (k + e)).length ≤ n + 1 ∧ 1 ≤ ((xs.take k ++ [u]) ++ xs.drop (k + e)).length := by
  simp only [List.length_append, List.length_take, List.length_drop, List.length_singleton]
  omega
theorem bend_map {α β : Type} (f : α → β) (xs : List α) (u : α) (k e : Nat) : (((xs.map f).take k ++ [f u]) ++ (xs.map f).drop (k + e)) = ((xs.take k ++ [u]) ++ xs.drop (k + e)).map f := by
  simp [List.map_take, List.map_drop]
theorem TupsAt.drop {H : Hp} {ps : List Addr} {xss : List (List V)} (h : TupsAt H ps xss) (k : Nat) : TupsAt H (ps.drop k) (xss.drop k) := by
  refine ⟨by rw [List.length_drop, List.length_drop, h.1], fun i p xs h1 h2 => ?_⟩
  rw [List.getElem?_drop] at h1 h2
  exact h.2 _ _ _ h1 h2
section
variable {P : Program} {w : World} {K : PySem.W.Frag} {mg : Str → Option Value} {base : Heap}
abbrev sBS : Stmt := top 62
def spBS (K : PySem.W.Frag) : Sp := fun vs H Q _ => ∃ (p a b c : Addr) (ms ts : List Str) (fs : List (List V)) (n : Nat) (z : Int), vs = [.ref p, .ref a, .ref b, .ref c] ∧ PitAt H p z ∧ z ≤ 800000 ∧ strsT K H a ms ∧ strsT K H b ts ∧ TTAt K H c fs ∧ Parts n ms ts fs ∧ n ≤ 10 ∧
  ∀ H' q a' b' c' ms' ts' fs', But p H H' → PitAt H' p (z + 10) → H' q = some (.tup [.ref a', .ref b', .ref c']) → strsT K H' a' ms' → strsT K H' b' ts' → TTAt K H' c' fs' → Parts (n + 1) ms' ts' fs' → Q (.ref q) H'
abbrev nsB : List Str := ["pit", "marks_here", "takes_here", "facts_here", "odd", "way", "a", "b", "sum_here", "some"]
theorem scBS : FnScope nsB ["pit", "marks_here", "takes_here", "facts_here"] (defScope sBS) := ⟨rfl, rfl, rfl, by decide +kernel, rfl, by decide +kernel, by decide +kernel⟩
theorem ok_bs {f fh fB : Addr} {fd fdh fdB : FuncData} (F : Fun K "_law_bent_sheet" "_law_bent_sheet" sBS f fd) (T : Bi mg)
    (FH : Fun K "_law_hoist" "_law_hoist" sHoist fh fdh) (bH : Binds K fdh ["pit", "below"] []) (mH : mg "_law_hoist" = some (.ref fh))
    (FB : Fun K "_law_bent" "_law_bent" sBt fB fdB) (bB : Binds K fdB ["pit", "some", "things"] []) (mB : mg "_law_bent" = some (.ref fB)) :
    FnOk P w K mg base CX0 3 f fd ["pit", "marks_here", "takes_here", "facts_here"] (spBS K) := by
  have GH : FnOk P w K mg base CX0 1 fh fdh ["pit", "below"] (spHoist K) := ok_hoist FH T
  have GB : FnOk P w K mg base CX0 2 fB fdB ["pit", "some", "things"] (spBt K) := ok_bt FB T FH bH mH
  refine F.ok scBS (fun vs H Q E h => ?_) (fun cdv A outer s H vs Q E hr h => ?_)
  · obtain ⟨_, _, _, _, _, _, _, _, _, rfl, _⟩ := h
    rfl
  · obtain ⟨p, a, b, c, ms, ts, fs, n, z, rfl, hp, hz, ha, hb, hc, hP, hn, k⟩ := h
    have hr1 : Room 1 _ := hr.mono (by decide)
    refine ⟨_, pss_cons (ps_set (i := 4) scBS.nd rfl (.inl rfl) (pe_lst (pa_cons pe_str (pa_cons pe_str (pa_cons pe_str (pa_cons pe_str (pa_cons pe_str (pa_cons pe_str (pa_cons pe_str (pa_cons pe_str pa_nil))))))))))
      (pss_cons (ps_set (i := 4) scBS.nd rfl (.inl rfl) (pe_op op_cat (pv 4) (pe_lst (pa_cons (pe_ifExp (pt_cmpR (op_neD hr.units) (pv 1) (pe_tup pa_nil) (nomark _)) (pe_ix ix_tup (pv 1) pe_int (fun _ _ => rfl)) pe_str) (pa_cons pe_str pa_nil)))))
      (pss_cons (ps_set (i := 5) scBS.nd rfl (.inl rfl) (pe_call GH hr1 rfl mH FH.kp bH .nil pass0 (pa_cons (pv 0) (pa_cons pe_int pa_nil))))
      (pss_cons (ps_if (pt_cmpR op_eq (pv 5) pe_int (nomark _)) (pss_one (ps_ret (pe_tup (pa_cons (pe_call GB hr rfl mB FB.kp bB .nil pass0 (pa_cons (pv 0) (pa_cons (pv 4) (pa_cons (pv 1) pa_nil)))) (pa_cons (pv 2) (pa_cons (pv 3) pa_nil)))))) pss_nil)
      (pss_cons (ps_if (pt_cmpR op_eq (pv 5) pe_int (nomark _)) (pss_one (ps_ret (pe_tup (pa_cons (pv 1) (pa_cons (pe_call GB hr rfl mB FB.kp bB .nil pass0 (pa_cons (pv 0) (pa_cons (pe_op op_cat (pv 4) (pe_callTy call_list_of (by rfl) T.list (by decide +kernel) (pa_cons (pv 1) pa_nil))) (pa_cons (pv 2) pa_nil)))) (pa_cons (pv 3) pa_nil)))))) pss_nil)
      (pss_cons (ps_par (i := 6) (j := 7) rfl scBS.nd rfl rfl (by decide) rfl rfl (pa_cons (pe_ix ix_tup (pe_op op_catA (pv 1) (pe_tup (pa_cons pe_str pa_nil))) (pe_call GH hr1 rfl mH FH.kp bH .nil pass0 (pa_cons (pv 0) (pa_cons (pe_callB call_len_seq (by rfl) T.len PySem.boot_len (pa_cons (pv 1) pa_nil)) pa_nil))) (fun _ _ => rfl))
          (pa_cons (pe_op op_catT (pe_tup (pa_cons pe_str pa_nil)) (pv 1)) pa_nil)) rfl)
      (pss_cons (ps_set (i := 7) scBS.nd rfl (.inl rfl) (pe_ix ix_tup (pv 7) (pe_call GH hr1 rfl mH FH.kp bH .nil pass0 (pa_cons (pv 0) (pa_cons (pe_callB call_len_seq (by rfl) T.len PySem.boot_len (pa_cons (pv 7) pa_nil)) pa_nil))) (fun _ _ => rfl)))
      (pss_cons (ps_set (i := 8) scBS.nd rfl (.inl rfl) (pe_op op_sub (pe_call GH hr1 rfl mH FH.kp bH .nil pass0 (pa_cons (pv 0) (pa_cons pe_int pa_nil))) pe_int))
      (pss_cons (ps_set (i := 9) scBS.nd rfl (.inl rfl) (pe_lst
          (pa_cons (pe_tup (pa_cons (pv 6) (pa_cons (pv 7) (pa_cons pe_bl pa_nil))))
          (pa_cons (pe_tup (pa_cons (pv 6) (pa_cons (pv 7) (pa_cons pe_str pa_nil))))
          (pa_cons (pe_tup (pa_cons (pv 6) (pa_cons (pv 7) pa_nil)))
          (pa_cons (pe_tup (pa_cons (pv 6) (pa_cons (pv 7) (pa_cons pe_int (pa_cons pe_int pa_nil)))))
          (pa_cons (pe_tup pa_nil)
          (pa_cons (pe_tup (pa_cons (pv 6) (pa_cons (pv 6) (pa_cons pe_int pa_nil))))
          (pa_cons (pe_tup (pa_cons pe_str (pa_cons (pv 6) (pa_cons pe_int pa_nil))))
          (pa_cons (pe_tup (pa_cons (pv 6) (pa_cons pe_str (pa_cons pe_int pa_nil))))
          (pa_cons (pe_tup (pa_cons pe_int (pa_cons (pv 6) (pa_cons pe_int pa_nil)))) pa_nil)))))))))))
      (pss_cons (ps_set (i := 9) scBS.nd rfl (.inl rfl) (pe_op op_cat (pv 9) (pe_lst
          (pa_cons (pe_tup (pa_cons (pv 6) (pa_cons (pv 7) (pa_cons (pv 8) pa_nil))))
          (pa_cons (pe_tup (pa_cons (pv 7) (pa_cons (pv 6) (pa_cons (pe_op op_sub (pe_un un_neg (pv 8)) pe_int) pa_nil))))
          (pa_cons (pe_tup (pa_cons (pv 7) (pa_cons (pv 6) (pa_cons (pe_op op_sub (pv 8) pe_int) pa_nil))))
          (pa_cons (pe_tup (pa_cons (pv 6) (pa_cons (pv 7) (pa_cons pe_non pa_nil)))) pa_nil)))))))
      (pss_cons (ps_set (i := 9) scBS.nd rfl (.inl rfl) (pe_op op_cat (pv 9) (pe_lst (pa_cons (pe_tup (pa_cons pe_str (pa_cons pe_str (pa_cons (pe_un un_neg pe_int) pa_nil)))) pa_nil))))
      (pss_one (ps_ret (pe_tup (pa_cons (pv 1) (pa_cons (pv 2) (pa_cons (pe_call GB hr rfl mB FB.kp bB .nil pass0 (pa_cons (pv 0) (pa_cons (pv 9) (pa_cons (pv 3) pa_nil)))) pa_nil)))))))))))))))), ?_⟩
    have k0 : KS K H p a b c ms ts fs z H := ⟨But.refl, hp, ha, hb, hc⟩
    refine ⟨by show 8 ≤ sizeLine; decide, fun l1 h1 => ?_⟩
    have k1 := k0.new (o := .lst (odd8.map V.str)) h1
    refine ⟨_, rfl, _, rfl, by show 0 ≤ sizeLine; decide, fun e he => ?_⟩
    have k2 := k1.new (o := .tup []) he
    have hl1 : (upd (upd H l1 (.lst (odd8.map V.str))) e (.tup [])) l1 = some (.lst (odd8.map V.str)) := Same.new he _ _ upd_same
    have hm0 : ms ≠ [] := fun q => by have := hP.m1; rw [q] at this; exact absurd this (by decide)
    refine ⟨.tuple _, .tuple [], .tup k2.ha (flats_dp ?_), .tup tup_at .nil, ?_, shaped_nilT, _, rfl, ?_⟩
    · intro v hv
      obtain ⟨u, _, rfl⟩ := List.mem_map.mp hv
      exact .str u
    · refine Lv.shaped (n := 1) (Lv.tuple (n := 0) ?_) (by decide)
      intro d hd
      obtain ⟨v, hv, rfl⟩ := List.mem_map.mp hd
      obtain ⟨u, hu, rfl⟩ := List.mem_map.mp hv
      exact Lv.str (hP.ma u hu).1
    obtain ⟨m0, mr, hms⟩ : ∃ m0 mr, ms = m0 :: mr := by
      cases ms with
      | nil => exact absurd rfl hm0
      | cons m0 mr => exact ⟨m0, mr, rfl⟩
    have hemp : ((ms.map V.str).map vD).isEmpty = false := by rw [hms]; rfl
    rw [eqv_nilT, hemp]
    have hm0m : m0 ∈ ms := by rw [hms]; exact List.mem_cons_self
    have h0 : atI (ms.map V.str) 0 = some (V.str m0) := atI_nat (j := 0) (by rw [hms]; rfl)
    refine iteT ⟨_, rfl, _, _, _, _, rfl, rfl, k2.ha, h0, by show 2 ≤ sizeLine; decide, fun l2 h2 => ?_⟩
    have k3 := k2.new (o := .lst [.str m0, .str "in-"]) h2
    have n12 : l1 ≠ l2 := fun q => by
      subst q
      exact absurd (hl1.symm.trans h2) (fun z => nomatch z)
    refine ⟨l1, l2, _, _, rfl, rfl, (upd_ne n12).trans hl1, upd_same, by show 8 + 2 ≤ sizeLine; decide, fun l3 h3 => ?_⟩
    have k4 := k3.new (o := .lst (odd8.map V.str ++ [.str m0, .str "in-"])) h3
    have hodd : odd8.map V.str ++ [.str m0, .str "in-"] = (odd8 ++ [m0, "in-"]).map V.str := by rw [List.map_append]; rfl
    have oddN : ∀ z ∈ odd8 ++ [m0, "in-"], AscN z := by
      intro z hz
      rcases List.mem_append.mp hz with hz | hz
      · exact odd8_ok z hz
      · simp only [List.mem_cons, List.not_mem_nil, or_false] at hz
        rcases hz with rfl | rfl
        · exact hP.ma _ hm0m
        · exact ascn_in
    have oddL : (odd8 ++ [m0, "in-"]).length = 10 := rfl
    generalize hOD : odd8 ++ [m0, "in-"] = od at oddN oddL hodd
    have nl3 : l3 ≠ p := k3.pit.ne h3
    have hl3 : (upd (upd (upd (upd H l1 (.lst (odd8.map V.str))) e (.tup [])) l2 (.lst [.str m0, .str "in-"])) l3 (.lst (odd8.map V.str ++ [.str m0, .str "in-"]))) l3 = some (.lst (od.map V.str)) := by rw [← hodd]; exact upd_same
    dsimp only [gName]
    show tSeq _ _ _ _ (upd (upd (upd (upd H l1 (.lst (odd8.map V.str))) e (.tup [])) l2 (.lst [.str m0, .str "in-"])) l3 (.lst (odd8.map V.str ++ [.str m0, .str "in-"])))
    generalize (upd (upd (upd (upd H l1 (.lst (odd8.map V.str))) e (.tup [])) l2 (.lst [.str m0, .str "in-"])) l3 (.lst (odd8.map V.str ++ [.str m0, .str "in-"]))) = H4 at k4 hl3 ⊢
    refine ⟨_, rfl, p, 4, z, rfl, k4.pit, by omega, by decide, by decide, fun H5 d b5 P5 l5 u5 => ?_⟩
    have k5 := k4.step b5 P5
    have hl5 := b5 _ _ nl3 hl3
    have odne : od.map V.str ≠ [] := fun q => by have := congrArg List.length q; rw [List.length_map, oddL] at this; exact absurd this (by decide)
    have odlen : (od.map V.str).length = 10 := by rw [List.length_map]; exact oddL
    refine ⟨_, rfl, rfl, _, rfl, ?_⟩
    by_cases e0 : d = 0
    · refine iteDT (congrArg V.int e0) ⟨_, rfl, _, rfl, _, rfl, p, l3, a, od.map V.str, ms.map V.str, _, rfl, P5, by omega, nl3, hl5, odne, by omega, k5.ha, by rw [List.length_map]; have := hP.ml; omega, fun H6 q u kk ee b6 P6 hu hk he hq => ?_⟩
      have k6 := k5.step b6 P6
      obtain ⟨zz, hzz, rfl⟩ := List.mem_map.mp hu
      rw [List.length_map] at hk
      rw [bend_map] at hq
      refine ⟨_, rfl, _, rfl, by show 3 ≤ sizeLine; decide, fun r hr => ?_⟩
      have k7 := k6.new (o := .tup [.ref q, .ref b, .ref c]) hr
      refine k _ r q b c _ ts fs k7.but (k7.pit.mono (by omega)) upd_same (Same.tup (Same.new hr) hq) k7.hb k7.hc ⟨(bend_len hP.ml hk).2, (bend_len hP.ml hk).1, ?_, by have := hP.tl; omega, hP.ta, by have := hP.fl; omega, hP.ff, hP.fi, hP.fr⟩
      intro y hy
      rcases bend_mem hy with hy | rfl
      · exact hP.ma y hy
      · exact oddN _ hzz
    refine iteDF (fun q => e0 (V.int.inj q)) ⟨_, rfl, rfl, _, rfl, ?_⟩
    by_cases e1 : d = 1
    · refine iteDT (congrArg V.int e1) ⟨_, rfl, _, rfl, _, rfl, _, rfl, a, _, rfl, .inr k5.ha, fun l6 h6 => ?_⟩
      have k6 := k5.new (o := .lst (ms.map V.str)) h6
      have n36 : l3 ≠ l6 := fun q => by rw [q] at hl5; rw [hl5] at h6; cases h6
      refine ⟨l3, l6, _, _, rfl, rfl, (upd_ne n36).trans hl5, upd_same, ?_, fun l7 h7 => ?_⟩
      · rw [odlen, List.length_map]
        have := hP.ml
        exact line8 (by omega)
      have k7 := k6.new (o := .lst (od.map V.str ++ ms.map V.str)) h7
      have nl7 := k6.pit.ne h7
      refine ⟨_, rfl, p, l7, b, od.map V.str ++ ms.map V.str, ts.map V.str, _, rfl, k7.pit, by omega, nl7, upd_same, by simp [odne], ?_, k7.hb, by rw [List.length_map]; have := hP.tl; omega, fun H8 q u kk ee b8 P8 hu hk he hq => ?_⟩
      · rw [List.length_append, odlen, List.length_map]
        have := hP.ml
        omega
      have k8 := k7.step b8 P8
      obtain ⟨zz, hzz, rfl⟩ : ∃ zz, AscN zz ∧ u = V.str zz := by
        rcases List.mem_append.mp hu with hu | hu
        · obtain ⟨zz, hzz, rfl⟩ := List.mem_map.mp hu
          exact ⟨zz, oddN _ hzz, rfl⟩
        · obtain ⟨zz, hzz, rfl⟩ := List.mem_map.mp hu
          exact ⟨zz, hP.ma _ hzz, rfl⟩
      rw [List.length_map] at hk
      rw [bend_map] at hq
      refine ⟨_, rfl, by show 3 ≤ sizeLine; decide, fun r hr => ?_⟩
      have k9 := k8.new (o := .tup [.ref a, .ref q, .ref c]) hr
      refine k _ r a q c ms _ fs k9.but (k9.pit.mono (by omega)) upd_same k9.ha (Same.tup (Same.new hr) hq) k9.hc ⟨hP.m1, by have := hP.ml; omega, hP.ma, (bend_len hP.tl hk).1, ?_, by have := hP.fl; omega, hP.ff, hP.fi, hP.fr⟩
      intro y hy
      rcases bend_mem hy with hy | rfl
      · exact hP.ta y hy
      · exact hzz
    refine iteDF (fun q => e1 (V.int.inj q)) ?_
    have ml10 := hP.ml
    refine ⟨_, rfl, by show 1 ≤ sizeLine; decide, fun t1 ht1 => ?_⟩
    have k6 := k5.new (o := .tup [.str "q"]) ht1
    refine catA_it k6.ha tup_at (by rw [List.length_map]; exact line8 (show ms.length + 1 ≤ 100 by omega)) fun u7 H7 s7 hu7 => ?_
    have k7 := k6.same s7
    have hm1 := hP.m1
    refine ⟨_, rfl, _, rfl, a, _, rfl, .inr k7.ha, p, _, _, rfl, k7.pit, by omega, by rw [List.length_map]; omega, by rw [List.length_map]; omega, fun H8 d8 b8 P8 l8 u8 => ?_⟩
    have k8 := k7.step b8 P8
    rw [List.length_map] at u8
    obtain ⟨n8, rfl⟩ := Int.eq_ofNat_of_zero_le l8
    have hn8 : n8 < ms.length := by omega
    have hx := List.getElem?_eq_getElem hn8
    have hxm : ms[n8] ∈ ms := List.getElem_mem hn8
    generalize ms[n8] = x at hx hxm
    have hxa : atI (ms.map V.str ++ [V.str "q"]) (n8 : Nat) = some (V.str x) := atI_nat (by rw [List.getElem?_append_left (by rw [List.length_map]; exact hn8), List.getElem?_map, hx]; rfl)
    refine ⟨u7, _, _, _, rfl, rfl, k7.pit.tup b8 hu7, hxa, by show 1 ≤ sizeLine; decide, fun t2 ht2 => ?_⟩
    have k9 := k8.new (o := .tup [.str "zero"]) ht2
    refine ⟨_, rfl, catT_it tup_at k9.ha (by simp) (by rw [List.length_map]; exact line8 (show 1 + ms.length ≤ 100 by omega)) fun u10 H10 s10 hu10 => ⟨_, _, rfl, ?_⟩⟩
    have k10 := k9.same s10
    replace hu10 : SqT K H10 u10 ((nodes ms).map V.str) := hu10
    have nl : (((nodes ms).map V.str).length : Int) = (ms.length : Int) + 1 := by rw [List.length_map, List.length_cons]; omega
    refine ⟨_, rfl, _, rfl, _, rfl, u10, _, rfl, .inr hu10, p, _, _, rfl, k10.pit, by omega, by omega, by omega, fun H11 d11 b11 P11 l11 u11 => ?_⟩
    have k11 := k10.step b11 P11
    rw [nl] at u11
    obtain ⟨n11, rfl⟩ := Int.eq_ofNat_of_zero_le l11
    have hn11 : n11 < (nodes ms).length := by rw [List.length_cons]; omega
    have hy := List.getElem?_eq_getElem hn11
    generalize (nodes ms)[n11] = y at hy
    have hya : atI ((nodes ms).map V.str) (n11 : Nat) = some (V.str y) := atI_nat (by rw [List.getElem?_map, hy]; rfl)
    refine ⟨u10, _, _, _, rfl, rfl, k10.pit.tup b11 hu10, hya, ?_⟩
    refine ⟨_, rfl, p, 19, _, rfl, k11.pit, by omega, by decide, by decide, fun H12 d12 b12 P12 l12 u12 => ⟨_, _, rfl, rfl, ?_⟩⟩
    have k12 := k11.step b12 P12
    have o0 : SomeOk H12 [] := SomeOk.nil
    have fx := fl_str x (hP.ma x hxm).1
    have fy := fl_str y (by
      rcases List.mem_cons.mp (List.mem_of_getElem? hy) with e | e
      · rw [e]; exact asc_few.2.2.2
      · exact (hP.ma y e).1)
    have i0 : flatI (.int 0) := fl_int (by decide)
    have i1 : flatI (.int 1) := fl_int (by decide)
    have i2 : flatI (.int 2) := fl_int (by decide)
    refine ⟨_, rfl, _, rfl, by show 3 ≤ sizeLine; decide, fun q1 w1 => ?_⟩
    have o1 := o0.snoc w1 (ok3 fx fy (fl_bl true))
    have c1 := k12.new (o := .tup [.str x, .str y, .bl true]) w1
    refine ⟨_, rfl, _, rfl, by show 3 ≤ sizeLine; decide, fun q2 w2 => ?_⟩
    have o2 := o1.snoc w2 (ok3 fx fy (fl_str "1" asc_few.1))
    have c2 := c1.new (o := .tup [.str x, .str y, .str "1"]) w2
    refine ⟨_, rfl, _, rfl, by show 2 ≤ sizeLine; decide, fun q3 w3 => ?_⟩
    have o3 := o2.snoc w3 (ok2 fx fy)
    have c3 := c2.new (o := .tup [.str x, .str y]) w3
    refine ⟨_, rfl, _, rfl, by show 4 ≤ sizeLine; decide, fun q4 w4 => ?_⟩
    have o4 := o3.snoc w4 (ok4 fx fy i1 i2)
    have c4 := c3.new (o := .tup [.str x, .str y, .int 1, .int 2]) w4
    refine ⟨by show 0 ≤ sizeLine; decide, fun q5 w5 => ?_⟩
    have o5 := o4.snoc w5 ok0
    have c5 := c4.new (o := .tup []) w5
    refine ⟨_, rfl, _, rfl, by show 3 ≤ sizeLine; decide, fun q6 w6 => ?_⟩
    have o6 := o5.snoc w6 (ok3 fx fx i0)
    have c6 := c5.new (o := .tup [.str x, .str x, .int 0]) w6
    refine ⟨_, rfl, by show 3 ≤ sizeLine; decide, fun q7 w7 => ?_⟩
    have o7 := o6.snoc w7 (ok3 (fl_str "nomark" asc_few.2.1) fx i1)
    have c7 := c6.new (o := .tup [.str "nomark", .str x, .int 1]) w7
    refine ⟨_, rfl, by show 3 ≤ sizeLine; decide, fun q8 w8 => ?_⟩
    have o8 := o7.snoc w8 (ok3 fx (fl_str "" asc_few.2.2.1) i0)
    have c8 := c7.new (o := .tup [.str x, .str "", .int 0]) w8
    refine ⟨_, rfl, by show 3 ≤ sizeLine; decide, fun q9 w9 => ?_⟩
    have o9 := o8.snoc w9 (ok3 i1 fx i0)
    have c9 := c8.new (o := .tup [.int 1, .str x, .int 0]) w9
    refine ⟨by show 9 ≤ sizeLine; decide, fun L1 hL1 => ?_⟩
    have c10 := c9.new (o := .lst [.ref q1, .ref q2, .ref q3, .ref q4, .ref q5, .ref q6, .ref q7, .ref q8, .ref q9]) hL1
    have o10 := o9.same (Same.new (o := .lst [.ref q1, .ref q2, .ref q3, .ref q4, .ref q5, .ref q6, .ref q7, .ref q8, .ref q9]) hL1)
    simp only [List.nil_append, List.cons_append] at o10
    have nL1 := c9.pit.ne hL1
    refine ⟨_, rfl, ?_⟩
    have hL1v : (upd _ L1 (.lst [.ref q1, .ref q2, .ref q3, .ref q4, .ref q5, .ref q6, .ref q7, .ref q8, .ref q9])) L1 = some (.lst [.ref q1, .ref q2, .ref q3, .ref q4, .ref q5, .ref q6, .ref q7, .ref q8, .ref q9]) := upd_same (H := upd (upd (upd (upd (upd (upd (upd (upd (upd H12 q1 (.tup [.str x, .str y, .bl true])) q2 (.tup [.str x, .str y, .str "1"])) q3 (.tup [.str x, .str y])) q4 (.tup [.str x, .str y, .int 1, .int 2])) q5 (.tup [])) q6 (.tup [.str x, .str x, .int 0])) q7 (.tup [.str "nomark", .str x, .int 1])) q8 (.tup [.str x, .str "", .int 0])) q9 (.tup [.int 1, .str x, .int 0]))
    generalize upd (upd (upd (upd (upd (upd (upd (upd (upd (upd H12 q1 (.tup [.str x, .str y, .bl true])) q2 (.tup [.str x, .str y, .str "1"])) q3 (.tup [.str x, .str y])) q4 (.tup [.str x, .str y, .int 1, .int 2])) q5 (.tup [])) q6 (.tup [.str x, .str x, .int 0])) q7 (.tup [.str "nomark", .str x, .int 1])) q8 (.tup [.str x, .str "", .int 0])) q9 (.tup [.int 1, .str x, .int 0])) L1 (.lst [.ref q1, .ref q2, .ref q3, .ref q4, .ref q5, .ref q6, .ref q7, .ref q8, .ref q9]) = H13 at c10 o10 hL1v ⊢
    generalize hus1 : ([.ref q1, .ref q2, .ref q3, .ref q4, .ref q5, .ref q6, .ref q7, .ref q8, .ref q9] : List V) = us1 at o10 hL1v
    have us1l : us1.length = 9 := by rw [← hus1]; rfl
    have b12 : d12.natAbs ≤ 19 := by omega
    have p0 : SomeOk H13 [] := SomeOk.nil
    refine ⟨_, rfl, _, rfl, _, rfl, by show 3 ≤ sizeLine; decide, fun r1 w1 => ?_⟩
    have p1 := p0.snoc w1 (ok3 fx fy (fl_int (i := d12 - 9) (by omega)))
    have e1 := c10.new (o := .tup [.str x, .str y, .int (d12 - 9)]) w1
    refine ⟨_, rfl, _, rfl, _, rfl, _, rfl, _, _, rfl, rfl, by show 3 ≤ sizeLine; decide, fun r2 w2 => ?_⟩
    have p2 := p1.snoc w2 (ok3 fy fx (fl_int (i := -(d12 - 9) - 1) (by omega)))
    have e2 := e1.new (o := .tup [.str y, .str x, .int (-(d12 - 9) - 1)]) w2
    refine ⟨_, rfl, _, rfl, _, rfl, _, _, rfl, rfl, by show 3 ≤ sizeLine; decide, fun r3 w3 => ?_⟩
    have p3 := p2.snoc w3 (ok3 fy fx (fl_int (i := d12 - 9 - 30) (by omega)))
    have e3 := e2.new (o := .tup [.str y, .str x, .int (d12 - 9 - 30)]) w3
    refine ⟨_, rfl, _, rfl, by show 3 ≤ sizeLine; decide, fun r4 w4 => ?_⟩
    have p4 := p3.snoc w4 (ok3 fx fy fl_non)
    have e4 := e3.new (o := .tup [.str x, .str y, .non]) w4
    refine ⟨by show 4 ≤ sizeLine; decide, fun L2 hL2 => ?_⟩
    have e5 := e4.new (o := .lst [.ref r1, .ref r2, .ref r3, .ref r4]) hL2
    have p5 := p4.same (Same.new (o := .lst [.ref r1, .ref r2, .ref r3, .ref r4]) hL2)
    simp only [List.nil_append, List.cons_append] at p5
    have s15 := ((((Same.new (o := .tup [.str x, .str y, .int (d12 - 9)]) w1).trans (Same.new (o := .tup [.str y, .str x, .int (-(d12 - 9) - 1)]) w2)).trans (Same.new (o := .tup [.str y, .str x, .int (d12 - 9 - 30)]) w3)).trans (Same.new (o := .tup [.str x, .str y, .non]) w4)).trans (Same.new (o := .lst [.ref r1, .ref r2, .ref r3, .ref r4]) hL2)
    refine ⟨L1, L2, _, _, rfl, rfl, s15 _ _ hL1v, upd_same, by rw [us1l]; show 9 + 4 ≤ sizeLine; decide, fun L3 hL3 => ?_⟩
    have e6 := e5.new (o := .lst (us1 ++ [.ref r1, .ref r2, .ref r3, .ref r4])) hL3
    have o16 := ((o10.same s15).app p5).same (Same.new (o := .lst (us1 ++ [.ref r1, .ref r2, .ref r3, .ref r4])) hL3)
    have us2l : (us1 ++ ([.ref r1, .ref r2, .ref r3, .ref r4] : List V)).length = 13 := by rw [List.length_append, us1l]; rfl
    have hL3v : (upd (upd (upd (upd (upd (upd H13 r1 (.tup [.str x, .str y, .int (d12 - 9)])) r2 (.tup [.str y, .str x, .int (-(d12 - 9) - 1)])) r3 (.tup [.str y, .str x, .int (d12 - 9 - 30)])) r4 (.tup [.str x, .str y, .non])) L2 (.lst [.ref r1, .ref r2, .ref r3, .ref r4])) L3 (.lst (us1 ++ [.ref r1, .ref r2, .ref r3, .ref r4]))) L3 = some (.lst (us1 ++ [.ref r1, .ref r2, .ref r3, .ref r4])) := upd_same
    refine ⟨_, rfl, ?_⟩
    generalize upd (upd (upd (upd (upd (upd H13 r1 (.tup [.str x, .str y, .int (d12 - 9)])) r2 (.tup [.str y, .str x, .int (-(d12 - 9) - 1)])) r3 (.tup [.str y, .str x, .int (d12 - 9 - 30)])) r4 (.tup [.str x, .str y, .non])) L2 (.lst [.ref r1, .ref r2, .ref r3, .ref r4])) L3 (.lst (us1 ++ [.ref r1, .ref r2, .ref r3, .ref r4])) = H14 at e6 o16 hL3v ⊢
    generalize us1 ++ ([.ref r1, .ref r2, .ref r3, .ref r4] : List V) = us2 at o16 us2l hL3v ⊢
    refine ⟨_, rfl, by show 3 ≤ sizeLine; decide, fun r5 w5 => ?_⟩
    have p6 := (SomeOk.nil (H := H14)).snoc w5 (ok3 (fl_str "zero" asc_few.2.2.2) (fl_str "zero" asc_few.2.2.2) (fl_int (i := -1) (by decide)))
    have e7 := e6.new (o := .tup [.str "zero", .str "zero", .int (-1)]) w5
    refine ⟨by show 1 ≤ sizeLine; decide, fun L4 hL4 => ?_⟩
    have e8 := e7.new (o := .lst [.ref r5]) hL4
    have s78 := (Same.new (o := .tup [.str "zero", .str "zero", .int (-1)]) w5).trans (Same.new (o := .lst [.ref r5]) hL4)
    refine ⟨L3, L4, _, _, rfl, rfl, s78 _ _ hL3v, upd_same, by rw [us2l]; show 13 + 1 ≤ sizeLine; decide, fun L5 hL5 => ?_⟩
    have e9 := e8.new (o := .lst (us2 ++ [.ref r5])) hL5
    have nL5 := e8.pit.ne hL5
    have oAll : SomeOk (upd (upd (upd H14 r5 (.tup [.str "zero", .str "zero", .int (-1)])) L4 (.lst [.ref r5])) L5 (.lst (us2 ++ [.ref r5]))) (us2 ++ [.ref r5]) := ((o16.same s78).app (p6.same (Same.new hL4))).same (Same.new hL5)
    obtain ⟨ps, hc1, hc2⟩ := e9.hc
    have pl : ps.length = fs.length := hc2.1
    have flb := hP.fl
    refine ⟨_, rfl, _, rfl, _, rfl, _, rfl, _, rfl, p, L5, c, us2 ++ [.ref r5], ps.map V.ref, _, rfl, e9.pit, by omega, nL5, upd_same, by simp, by rw [List.length_append, us2l]; show 13 + 1 ≤ 100; decide, hc1, by rw [List.length_map, pl]; omega, fun H15 q u kk ee b15 P15 hu hk he hq => ?_⟩
    have e10 := e9.step b15 P15
    obtain ⟨qu, xs, rfl, hqu, hok⟩ := oAll u hu
    have hqu' : H15 qu = some (.tup xs) := by
      refine b15 _ _ (fun e => ?_) hqu
      obtain ⟨_, _, _, g1, _⟩ := e9.pit
      rw [e, g1] at hqu
      cases hqu
    have hT15 := e9.pit.tups b15 hc2
    rw [List.length_map] at hk
    rw [bend_map] at hq
    have hTT : TTAt K H15 q ((fs.take kk ++ [xs]) ++ fs.drop (kk + ee)) := ⟨_, hq, ((hT15.take kk).app (.one hqu')).app (hT15.drop (kk + ee))⟩
    refine ⟨by show 3 ≤ sizeLine; decide, fun r hr => ?_⟩
    have e11 := e10.new (o := .tup [.ref a, .ref b, .ref q]) hr
    refine k _ r a b q ms ts _ e11.but (e11.pit.mono (by omega)) upd_same e11.ha e11.hb (hTT.same (Same.new hr)) ⟨hP.m1, by omega, hP.ma, by have := hP.tl; omega, hP.ta, ?_, ?_, ?_, ?_⟩
    · have := (bend_len (u := xs) (e := ee) hP.fl (by omega : kk ≤ fs.length)).1
      omega
    · intro y hy
      rcases bend_mem hy with hy | rfl
      · exact hP.ff y hy
      · exact hok.1
    · intro y hy
      rcases bend_mem hy with hy | rfl
      · exact hP.fi y hy
      · exact hok.2.1
    · intro y hy
      rcases bend_mem hy with hy | rfl
      · exact hP.fr y hy
      · exact hok.2.2
end
end K1
end
section
set_option maxRecDepth 100000
set_option maxHeartbeats 4000000
namespace K1
open PySem L2 K01
/-- the same data on both sides, n deep -/
inductive KT (K : PySem.W.Frag) (H : Hp) : Nat → V → V → Prop
  | non (n) : KT K H n .non .non
  | bl (n) (b : Bool) : KT K H n (.bl b) (.bl b)
  | int (n) (i : Int) : KT K H n (.int i) (.int i)
  | str (n) (z : Str) : KT K H n (.str z) (.str z)
  | tup (n) {a b : Addr} {xs ys : List V} : SqT K H a xs → SqT K H b ys → xs.length = ys.length → xs.length ≤ 500 → (∀ (i : Nat) (x y : V), xs[i]? = some x → ys[i]? = some y → KT K H n x y) → KT K H (n + 1) (.ref a) (.ref b)
theorem KT.same {K : PySem.W.Frag} {H H' : Hp} (e : Same H H') {n : Nat} {u v : V} (h : KT K H n u v) : KT K H' n u v := by
  induction h with
  | non n => exact .non n
  | bl n b => exact .bl n b
  | int n i => exact .int n i
  | str n z => exact .str n z
  | tup n h1 h2 h3 h4 _ ih => exact .tup n (Same.tup e h1) (Same.tup e h2) h3 h4 ih
theorem ty_sqt {K : PySem.W.Frag} {H : Hp} {a : Addr} {xs : List V} (h : SqT K H a xs) : TyX K H (.ref a) (Value.type "tuple") := by
  rcases h with (q | ⟨o, q⟩) | ⟨o, its, n, q1, q2, _⟩
  · exact .base (.tup q)
  · exact .fTuple q
  · exact .kTuple q1 q2
section
variable {P : Program} {w : World} {K : PySem.W.Frag} {mg : Str → Option Value} {base : Heap}
abbrev sKin : Stmt := top 49
def spKin (K : PySem.W.Frag) : Nat → Sp
  | 0 => fun _ _ _ _ => False
  | n + 1 => fun vs H Q _ => ∃ (u v : V), vs = [u, v] ∧ KT K H n u v ∧ ∀ H', Same H H' → Q (.bl true) H'
theorem scKin : FnScope ["found", "due", "k"] ["found", "due"] (defScope sKin) := ⟨rfl, rfl, rfl, by decide +kernel, rfl, by decide +kernel, by decide +kernel⟩
theorem kit2 {K : PySem.W.Frag} {t : String} {b1 b2 : Bool} (h1 : kitB t "list" = some b1) (h2 : kitB t "tuple" = some b2) : W.kitAny K (Value.type t) [Value.type "list", Value.type "tuple"] = some (b1 || b2) := by
  have e1 := kit_ty (K := K) h1
  have e2 := kit_ty (K := K) h2
  cases b1 <;> cases b2 <;> simp [W.kitAny, e1, e2]
theorem pair2 : Paired ClsV [V.ty "list", V.ty "tuple"] [Value.type "list", Value.type "tuple"] := .cons (.ty _) (.cons (.ty _) .nil)
theorem yes_eq {Q : V → Hp → Prop} {x : V} {H : Hp} (h : Q (.bl true) H) : Q (.bl (decide (x = x))) H := by rw [decide_eq_true rfl]; exact h
theorem kin_step {n : Nat} {f : Addr} {fd : FuncData} (F : Fun K "_law_kin" "_law_kin" sKin f fd) (T : Bi mg) (bK : Binds K fd ["found", "due"] []) (mK : mg "_law_kin" = some (.ref f))
    (G : FnOk P w K mg base CX0 n f fd ["found", "due"] (spKin K n)) : FnOk P w K mg base CX0 (n + 1) f fd ["found", "due"] (spKin K (n + 1)) := by
  refine F.ok scKin (fun vs H Q E h => ?_) (fun cdv A outer s H vs Q E hr h => ?_)
  · obtain ⟨_, _, rfl, _⟩ := h
    rfl
  · obtain ⟨u, v, rfl, hT, k⟩ := h
    refine ⟨_, pss_cons (ps_if (PW.pt (pw_or (pt_val ((pe_callB call_isi (by rfl) T.isinstance (by decide +kernel) (pa_cons (pv 0) (pa_cons (pe_ty (n := "bool") (by rfl) T.bool (by decide +kernel)) pa_nil))))) (pw_or1 (pt_val ((pe_callB call_isi (by rfl) T.isinstance (by decide +kernel) (pa_cons (pv 1) (pa_cons (pe_ty (n := "bool") (by rfl) T.bool (by decide +kernel)) pa_nil)))))))) (pss_one (ps_ret (pe_and ((pe_callB call_isi (by rfl) T.isinstance (by decide +kernel) (pa_cons (pv 0) (pa_cons (pe_ty (n := "bool") (by rfl) T.bool (by decide +kernel)) pa_nil)))) (pe_and ((pe_callB call_isi (by rfl) T.isinstance (by decide +kernel) (pa_cons (pv 1) (pa_cons (pe_ty (n := "bool") (by rfl) T.bool (by decide +kernel)) pa_nil)))) (pe_one (pe_cmpR op_eq (pv 0) (pv 1) (nomark _))))))) pss_nil)
      (pss_cons (ps_if (PW.pt (pw_or (pt_cmpR op_ne ((pe_callB call_isi (by rfl) T.isinstance (by decide +kernel) (pa_cons (pv 0) (pa_cons (pe_ty (n := "list") (by rfl) T.list (by decide +kernel)) pa_nil)))) ((pe_callB call_isi (by rfl) T.isinstance (by decide +kernel) (pa_cons (pv 1) (pa_cons (pe_ty (n := "list") (by rfl) T.list (by decide +kernel)) pa_nil)))) (nomark _)) (pw_or1 (pt_cmpR op_ne ((pe_callB call_isi (by rfl) T.isinstance (by decide +kernel) (pa_cons (pv 0) (pa_cons (pe_ty (n := "tuple") (by rfl) T.tuple (by decide +kernel)) pa_nil)))) ((pe_callB call_isi (by rfl) T.isinstance (by decide +kernel) (pa_cons (pv 1) (pa_cons (pe_ty (n := "tuple") (by rfl) T.tuple (by decide +kernel)) pa_nil)))) (nomark _))))) (pss_one (ps_ret pe_bl)) pss_nil)
      (pss_cons (ps_if (PW.pt (pw_or (pt_cmpR op_ne ((pe_callB call_isi (by rfl) T.isinstance (by decide +kernel) (pa_cons (pv 0) (pa_cons (pe_ty (n := "str") (by rfl) T.str (by decide +kernel)) pa_nil)))) ((pe_callB call_isi (by rfl) T.isinstance (by decide +kernel) (pa_cons (pv 1) (pa_cons (pe_ty (n := "str") (by rfl) T.str (by decide +kernel)) pa_nil)))) (nomark _)) (pw_or1 (pt_cmpR op_ne ((pe_callB call_isi (by rfl) T.isinstance (by decide +kernel) (pa_cons (pv 0) (pa_cons (pe_ty (n := "int") (by rfl) T.int (by decide +kernel)) pa_nil)))) ((pe_callB call_isi (by rfl) T.isinstance (by decide +kernel) (pa_cons (pv 1) (pa_cons (pe_ty (n := "int") (by rfl) T.int (by decide +kernel)) pa_nil)))) (nomark _))))) (pss_one (ps_ret pe_bl)) pss_nil)
      (pss_cons (ps_if (pt_val (pe_callB call_isiT (by rfl) T.isinstance (by decide +kernel) (pa_cons (pv 1) (pa_cons (pe_tup (pa_cons (pe_ty (n := "list") (by rfl) T.list (by decide +kernel)) (pa_cons (pe_ty (n := "tuple") (by rfl) T.tuple (by decide +kernel)) pa_nil))) pa_nil))))
        (pss_cons (ps_if (pt_cmpR op_ne (pe_callB call_len_seq (by rfl) T.len PySem.boot_len (pa_cons (pv 0) pa_nil)) (pe_callB call_len_seq (by rfl) T.len PySem.boot_len (pa_cons (pv 1) pa_nil)) (nomark _)) (pss_one (ps_ret pe_bl)) pss_nil)
        (pss_one (ps_ret (pe_cmpR (op_eqD hr.units) (pe_lc (own := [("k", 2)]) (g := gName 2) (tt := tNot (tB (tCall (spKin K n) [] E0 (tCons (tOp (rIxT K) (tVar 0) (tVar 2)) (tCons (tOp (rIxT K) (tVar 1) (tVar 2)) tNil))))) rfl scKin.nd (pi_range1 (by rfl) T.range (pa_cons (pe_callB call_len_seq (by rfl) T.len PySem.boot_len (pa_cons (pv 1) pa_nil)) pa_nil)) (blkOk_by (N := ["found", "due", "k"]) (sc := defScope sKin) (by decide +kernel))
          (fun _ _ _ _ _ => pg_name (i := 2) scKin.nd rfl (.inl rfl)) (fun _ _ _ _ _ => pts_one (pt_not (pt_val (pe_call G hr rfl mK F.kp bK .nil pass0 (pa_cons (pe_ix ix_tup (pv 0) (pv 2) (fun _ _ => rfl)) (pa_cons (pe_ix ix_tup (pv 1) (pv 2) (fun _ _ => rfl)) pa_nil)))))) (fun _ _ _ _ _ => pv 2)) (pe_lst pa_nil) (nomark _))))) pss_nil)
      (pss_one (ps_ret (pe_and (pe_cmpR op_eq (pe_cmpR op_isN (pv 0) pe_non (nomark _)) (pe_cmpR op_isN (pv 1) pe_non (nomark _)) (nomark _)) (pe_one (pe_cmpR op_eq (pv 0) (pv 1) (nomark _))))))))), ?_⟩
    cases hT with
    | non =>
      have hu : TyX K H .non (.type "NoneType") := .base .non
      refine (⟨_, rfl, _, _, _, _, false, rfl, .ty _, hu, kit_ty (by decide +kernel), ⟨_, rfl, iteF ((⟨_, rfl, _, _, _, _, false, rfl, .ty _, hu, kit_ty (by decide +kernel), ⟨_, rfl, iteF ?_⟩⟩))⟩⟩)
      refine (⟨_, rfl, _, _, _, _, false, rfl, .ty _, hu, kit_ty (by decide +kernel), ((⟨_, rfl, _, _, _, _, false, rfl, .ty _, hu, kit_ty (by decide +kernel), ⟨rfl, _, rfl, iteNS rfl ((⟨_, rfl, _, _, _, _, false, rfl, .ty _, hu, kit_ty (by decide +kernel), ((⟨_, rfl, _, _, _, _, false, rfl, .ty _, hu, kit_ty (by decide +kernel), ⟨rfl, _, rfl, iteNS rfl ?_⟩⟩))⟩))⟩⟩))⟩)
      refine (⟨_, rfl, _, _, _, _, false, rfl, .ty _, hu, kit_ty (by decide +kernel), ((⟨_, rfl, _, _, _, _, false, rfl, .ty _, hu, kit_ty (by decide +kernel), ⟨rfl, _, rfl, iteNS rfl ((⟨_, rfl, _, _, _, _, false, rfl, .ty _, hu, kit_ty (by decide +kernel), ((⟨_, rfl, _, _, _, _, false, rfl, .ty _, hu, kit_ty (by decide +kernel), ⟨rfl, _, rfl, iteNS rfl ?_⟩⟩))⟩))⟩⟩))⟩)
      refine ⟨_, rfl, by show 2 ≤ sizeLine; decide, fun tp htp => ⟨_, tp, _, _, [Value.type "list", Value.type "tuple"], false, rfl, upd_same, pair2, .base .non, kit2 (t := "NoneType") (b1 := false) (b2 := false) (by decide +kernel) (by decide +kernel), _, rfl, iteF ?_⟩⟩
      exact ⟨_, rfl, rfl, _, rfl, rfl, rfl, _, rfl, iteDT rfl ⟨_, rfl, _, rfl, rfl, yes_eq (k _ (Same.new htp))⟩⟩
    | str _ z =>
      have hu : TyX K H (.str z) (.type "str") := .base (.str z)
      refine (⟨_, rfl, _, _, _, _, false, rfl, .ty _, hu, kit_ty (by decide +kernel), ⟨_, rfl, iteF ((⟨_, rfl, _, _, _, _, false, rfl, .ty _, hu, kit_ty (by decide +kernel), ⟨_, rfl, iteF ?_⟩⟩))⟩⟩)
      refine (⟨_, rfl, _, _, _, _, false, rfl, .ty _, hu, kit_ty (by decide +kernel), ((⟨_, rfl, _, _, _, _, false, rfl, .ty _, hu, kit_ty (by decide +kernel), ⟨rfl, _, rfl, iteNS rfl ((⟨_, rfl, _, _, _, _, false, rfl, .ty _, hu, kit_ty (by decide +kernel), ((⟨_, rfl, _, _, _, _, false, rfl, .ty _, hu, kit_ty (by decide +kernel), ⟨rfl, _, rfl, iteNS rfl ?_⟩⟩))⟩))⟩⟩))⟩)
      refine (⟨_, rfl, _, _, _, _, true, rfl, .ty _, hu, kit_ty (by decide +kernel), ((⟨_, rfl, _, _, _, _, true, rfl, .ty _, hu, kit_ty (by decide +kernel), ⟨rfl, _, rfl, iteNS rfl ((⟨_, rfl, _, _, _, _, false, rfl, .ty _, hu, kit_ty (by decide +kernel), ((⟨_, rfl, _, _, _, _, false, rfl, .ty _, hu, kit_ty (by decide +kernel), ⟨rfl, _, rfl, iteNS rfl ?_⟩⟩))⟩))⟩⟩))⟩)
      refine ⟨_, rfl, by show 2 ≤ sizeLine; decide, fun tp htp => ⟨_, tp, _, _, [Value.type "list", Value.type "tuple"], false, rfl, upd_same, pair2, .base (.str z), kit2 (t := "str") (b1 := false) (b2 := false) (by decide +kernel) (by decide +kernel), _, rfl, iteF ?_⟩⟩
      exact ⟨_, rfl, rfl, _, rfl, rfl, rfl, _, rfl, iteDT rfl ⟨_, rfl, _, rfl, rfl, yes_eq (k _ (Same.new htp))⟩⟩
    | int _ i =>
      have hu : TyX K H (.int i) (.type "int") := .base (.int i)
      refine (⟨_, rfl, _, _, _, _, false, rfl, .ty _, hu, kit_ty (by decide +kernel), ⟨_, rfl, iteF ((⟨_, rfl, _, _, _, _, false, rfl, .ty _, hu, kit_ty (by decide +kernel), ⟨_, rfl, iteF ?_⟩⟩))⟩⟩)
      refine (⟨_, rfl, _, _, _, _, false, rfl, .ty _, hu, kit_ty (by decide +kernel), ((⟨_, rfl, _, _, _, _, false, rfl, .ty _, hu, kit_ty (by decide +kernel), ⟨rfl, _, rfl, iteNS rfl ((⟨_, rfl, _, _, _, _, false, rfl, .ty _, hu, kit_ty (by decide +kernel), ((⟨_, rfl, _, _, _, _, false, rfl, .ty _, hu, kit_ty (by decide +kernel), ⟨rfl, _, rfl, iteNS rfl ?_⟩⟩))⟩))⟩⟩))⟩)
      refine (⟨_, rfl, _, _, _, _, false, rfl, .ty _, hu, kit_ty (by decide +kernel), ((⟨_, rfl, _, _, _, _, false, rfl, .ty _, hu, kit_ty (by decide +kernel), ⟨rfl, _, rfl, iteNS rfl ((⟨_, rfl, _, _, _, _, true, rfl, .ty _, hu, kit_ty (by decide +kernel), ((⟨_, rfl, _, _, _, _, true, rfl, .ty _, hu, kit_ty (by decide +kernel), ⟨rfl, _, rfl, iteNS rfl ?_⟩⟩))⟩))⟩⟩))⟩)
      refine ⟨_, rfl, by show 2 ≤ sizeLine; decide, fun tp htp => ⟨_, tp, _, _, [Value.type "list", Value.type "tuple"], false, rfl, upd_same, pair2, .base (.int i), kit2 (t := "int") (b1 := false) (b2 := false) (by decide +kernel) (by decide +kernel), _, rfl, iteF ?_⟩⟩
      exact ⟨_, rfl, rfl, _, rfl, rfl, rfl, _, rfl, iteDT rfl ⟨_, rfl, _, rfl, rfl, yes_eq (k _ (Same.new htp))⟩⟩
    | bl _ b =>
      have hu : TyX K H (.bl b) (.type "bool") := .base (.bl b)
      exact (⟨_, rfl, _, _, _, _, true, rfl, .ty _, hu, kit_ty (by decide +kernel), ⟨_, rfl, iteT ((⟨_, rfl, _, _, _, _, true, rfl, .ty _, hu, kit_ty (by decide +kernel), ⟨_, rfl, iteT ((⟨_, rfl, _, _, _, _, true, rfl, .ty _, hu, kit_ty (by decide +kernel), ⟨_, rfl, iteT ⟨_, rfl, _, rfl, rfl, yes_eq (k _ (Same.refl H))⟩⟩⟩))⟩⟩))⟩⟩)
    | @tup n a b xs ys hx hy hl hl5 hk =>
      have hu := ty_sqt hx
      have hv := ty_sqt hy
      refine (⟨_, rfl, _, _, _, _, false, rfl, .ty _, hu, kit_ty (by decide +kernel), ⟨_, rfl, iteF ((⟨_, rfl, _, _, _, _, false, rfl, .ty _, hv, kit_ty (by decide +kernel), ⟨_, rfl, iteF ?_⟩⟩))⟩⟩)
      refine (⟨_, rfl, _, _, _, _, false, rfl, .ty _, hu, kit_ty (by decide +kernel), ((⟨_, rfl, _, _, _, _, false, rfl, .ty _, hv, kit_ty (by decide +kernel), ⟨rfl, _, rfl, iteNS rfl ((⟨_, rfl, _, _, _, _, true, rfl, .ty _, hu, kit_ty (by decide +kernel), ((⟨_, rfl, _, _, _, _, true, rfl, .ty _, hv, kit_ty (by decide +kernel), ⟨rfl, _, rfl, iteNS rfl ?_⟩⟩))⟩))⟩⟩))⟩)
      refine (⟨_, rfl, _, _, _, _, false, rfl, .ty _, hu, kit_ty (by decide +kernel), ((⟨_, rfl, _, _, _, _, false, rfl, .ty _, hv, kit_ty (by decide +kernel), ⟨rfl, _, rfl, iteNS rfl ((⟨_, rfl, _, _, _, _, false, rfl, .ty _, hu, kit_ty (by decide +kernel), ((⟨_, rfl, _, _, _, _, false, rfl, .ty _, hv, kit_ty (by decide +kernel), ⟨rfl, _, rfl, iteNS rfl ?_⟩⟩))⟩))⟩⟩))⟩)
      refine ⟨_, rfl, by show 2 ≤ sizeLine; decide, fun tp htp => ⟨_, tp, _, _, [Value.type "list", Value.type "tuple"], true, rfl, upd_same, pair2, ty_sqt (Same.tup (Same.new htp) hy), kit2 (t := "tuple") (b1 := false) (b2 := true) (by decide +kernel) (by decide +kernel), _, rfl, iteT ?_⟩⟩
      have s0 : Same H (upd H tp (.tup [V.ty "list", V.ty "tuple"])) := Same.new htp
      have hx0 := Same.tup s0 hx
      have hy0 := Same.tup s0 hy
      refine ⟨_, rfl, a, xs, rfl, .inr hx0, _, rfl, b, ys, rfl, .inr hy0, rfl, _, rfl, iteNS (by rw [hl]) ?_⟩
      refine ⟨_, rfl, b, ys, rfl, .inr hy0, _, rfl, by omega, by omega, fun D hD => ?_⟩
      rw [Int.toNat_natCast]
      refine lc_it (walk_r0 (n := ys.length)) (fun i H' => Same (upd H tp (.tup [V.ty "list", V.ty "tuple"])) H' ∧ H' D = some (.lst [])) ⟨Same.new hD, upd_same⟩ (fun _ _ _ _ => trivial) ?_ ?_
      · rintro i v H1 H2 hi ⟨q1, q2⟩ ⟨rfl, rfl⟩
        have hxi : xs[i]? = some (xs[i]'(by omega)) := List.getElem?_eq_getElem (by omega)
        have hyi : ys[i]? = some ys[i] := List.getElem?_eq_getElem hi
        have hki := (hk i _ _ hxi hyi).same (s0.trans q1)
        exact ⟨rfl, _, rfl, _, rfl, _, _, _, _, rfl, rfl, Same.tup q1 hx0, atI_nat hxi, _, rfl, _, rfl, _, _, _, _, rfl, rfl, Same.tup q1 hy0, atI_nat hyi, _, _, rfl, hki, fun H3 s3 => ⟨_, rfl, q1.trans s3, s3 _ _ q2⟩⟩
      · rintro H1 ⟨q1, q2⟩
        refine ⟨Nat.zero_le _, fun e he => ?_⟩
        have eD : D ≠ e := fun q => by rw [← q, q2] at he; cases he
        have q2' : (upd H1 e (.lst [])) D = _ := (upd_ne eD).trans q2
        exact ⟨.list [], .list [], .lst (SqL.of q2') .nil, .lst (SqL.of upd_same) .nil, shaped_nil, shaped_nil, by rw [eqv_nil]; exact k _ ((s0.trans q1).trans (Same.new (o := .lst []) he))⟩
end
end K1
namespace K1
open PySem L2 K01
section
variable {P : Program} {w : World} {K : PySem.W.Frag} {mg : Str → Option Value} {base : Heap}
theorem ok_kin {f : Addr} {fd : FuncData} (F : Fun K "_law_kin" "_law_kin" sKin f fd) (T : Bi mg) (bK : Binds K fd ["found", "due"] []) (mK : mg "_law_kin" = some (.ref f)) : ∀ n, FnOk P w K mg base CX0 n f fd ["found", "due"] (spKin K n)
  | 0 => ⟨fun _ _ _ _ h => h.elim, fun _ _ _ _ _ _ _ _ _ _ _ _ _ h => h.elim⟩
  | n + 1 => kin_step F T bK mK (ok_kin F T bK mK n)
end
end K1
end
section
set_option maxRecDepth 100000
set_option maxHeartbeats 4000000
namespace PySem
open PyProof.Rows
theorem k1_classE {prog : Program} {w : World} {A : Around} {E : Value → Shared → Prop} {s : Shared} {K : W.Frag} {x D : Addr} {ox o : Obj} {Q : Option Value → Shared → Prop}
    (hga : W.findIn K (Value.ref D) (Str.ofString "__getattribute__") = some (some (Value.builtin "BaseException.__getattribute__"))) (hgt : W.findIn K (Value.ref D) (Str.ofString "__getattr__") = some none)
    (hsub : W.subIn K (Value.ref D) (Value.type "BaseException") = some true) (hdct : W.hasDictIn K D = true) (ha : W.findIn K (Value.ref D) (Str.ofString "__class__") = some (some (Value.builtin "object.__class__")))
    (hn : W.specialIn K (Value.builtin "object.__class__") (Str.ofString "__get__") = some (some (Value.builtin "getset_descriptor.__get__"))) (htk : W.takesIn K (Value.builtin "object.__class__") = some true)
    (hm : W.mroIn K D (Value.type "object") = some true) (X : K.In s.heap) (I : W.InstAt s.heap x ox D (some o))
    (h : Q (some (Value.ref D)) { s with toks := s.toks + 1 }) : wpAny (model prog w) A (getAttr? (Value.ref x) (Str.ofString "__class__")) Q E s := by
  have hf : W.findObj K D (some o) (Str.ofString "__class__") = _ := W.findObj_data (by obtain ⟨cd, hc, _⟩ := W.any_some hdct; rw [hc]; rfl) ha hn htk
  obtain ⟨hp, g, d, t, os⟩ := s
  have L0 := W.InstAt.type I (M := model prog w)
  have L1 := W.looks_findIn X hga (M := model prog w)
  have L2 := W.looks_findIn X hgt (M := model prog w)
  have L3 := W.looks_find X I hf (M := model prog w)
  have sub : W.Looks (model prog w) hp (isInstance (Value.ref x) (Value.type "BaseException")) true := W.Looks.andThen L0 (W.looks_subIn X hsub)
  unfold getAttr?
  refine wpAny_bind (wpAny_mkText (wpAny_bind (wpAny_attempt (wpAny_holding (wpAny_bind (L0.at ?_))))))
  refine wpAny_bind (L1.at ?_)
  have hx2 : (Value.builtin "BaseException.__getattribute__" == Value.builtin "object.__getattribute__") = false := by decide
  show wpAny _ _ (if (onTheHeap (Value.ref D) && (Value.builtin "BaseException.__getattribute__" == Value.builtin "object.__getattribute__")) = true then _ else _) _ _ _
  rw [hx2, Bool.and_false, if_neg Bool.false_ne_true]
  unfold getAttrByItsOwn
  refine wpAny_bind ?_
  unfold hookBefore
  rw [if_pos (by rfl)]
  refine L2.at (wpAny_bind (wpAny_attempt (wpAny_holding ?_)))
  unfold callGetattribute
  rw [if_neg (show ¬((false && onTheHeap (Value.builtin "BaseException.__getattribute__")) = true) from Bool.false_ne_true)]
  unfold boundAndCalled
  rw [F.excAttr_ValueError.ga.bind (Value.ref x)]
  refine wpAny_bind (wpAny_pure ?_)
  show wpAny (model prog w) A (call (.builtin "BaseException.__getattribute__") [Value.ref x, Value.str (Str.ofString "__class__") t]) _ _ _
  refine wpAny_call ?_
  refine codeAny_call_builtin F.excAttr_ValueError.ga.plain F.entry_bexc_ga ?_
  have hargs : argsOk "BaseException.__getattribute__" { pos := [Value.ref x, Value.str (Str.ofString "__class__") t], kw := [] } := F.args_bexc_ga (Value.ref x) (Value.str (Str.ofString "__class__") t)
  refine @W.check_slot (model prog w) A.in1 _ ⟨hp, g, d, t + 1, os⟩ "BaseException.__getattribute__" "BaseException" "__getattribute__" (Value.ref x) [Value.str (Str.ofString "__class__") t] [] _ W.kin_classE._proof_2 W.kin_classE._proof_3 sub hargs ?_
  unfold Builtin.«object.__getattribute__»
  refine wpAny_bind (wpAny_of_eq (show slotArgs "__getattribute__" 1 { pos := [Value.ref x, Value.str (Str.ofString "__class__") t] } = pure (Value.ref x, [Value.str (Str.ofString "__class__") t]) from rfl) ?_)
  refine wpAny_bind (show wpAny _ _ (pure (Str.ofString "__class__")) _ _ _ from wpAny_pure ?_)
  refine wpAny_bind (L0.at (wpAny_bind (L3.at ?_)))
  show wpAny _ _ (Builtin.ObjectAttr.bindTo _ _ _ _) _ _ _
  unfold Builtin.ObjectAttr.bindTo
  refine wpAny_bind (wpAny_holding (wpAny_call (W.class_get X I hm (wpAny_pure ?_))))
  show wpAny _ _ (handedOut (Value.ref D)) _ _ _
  rw [W.handedOut_of rfl]
  exact wpAny_pure (wpAny_pure h)
end PySem
end
section
set_option maxRecDepth 100000
set_option maxHeartbeats 4000000
namespace PySem
theorem k1_isType {K : W.Frag} {M : Model} {h : Heap} {D : Addr} (hdct : W.hasDictIn K D = true) (X : K.In h) : W.Looks M h (isType (Value.ref D)) true := by
  obtain ⟨cdD, hcD, _⟩ := W.any_some hdct
  unfold W.clsIn at hcD
  split at hcD
  · rename_i cls dict cd slots heq
    intro A' Q' E' s' k q
    exact wpAny_bind (wpAny_loadPart (k D _ (X D _ heq)) (wpAny_pure q))
  · cases hcD
theorem k1_kitx {K : W.Frag} {x D : Addr} {ox o : Obj} (C : L2.ExcC K D) : W.KitX K (Value.ref x) (Value.ref D) (fun h => W.InstAt h x ox D (some o)) where
  ty := fun _ _ _ I => W.InstAt.type I
  it := fun _ _ X _ => k1_isType C.hd X
  ne := (W.handS_kitx_exc (x := x) (ox := ox) C.hg C.hk C.hs C.hd C.ha C.hn C.ht C.hm).ne
  ca := fun X I q => k1_classE C.hg C.hk C.hs C.hd C.ha C.hn C.ht C.hm X I q
end PySem
end
section
set_option maxRecDepth 100000
set_option maxHeartbeats 4000000
namespace K1
open PySem L2 L2H K01
/-- isinstance of a pinned error that has a dict -/
def rIsED (K : PySem.W.Frag) (D a d : Addr) : List V → Hp → VK → Prop := fun xs H Q => ∃ (c : V) (cv : Value) (b : Bool) (fs : List (Str × V)), xs = [.ref a, c] ∧ (∀ u, RelV c u → u = cv) ∧ PySem.W.kitOne K (.ref D) cv = some b ∧ H d = some (.xd fs) ∧ Q (.bl b) H
theorem call_isED {X : Cx} {p : Addr × Obj} {D d : Addr} (C : ExcC X.K D) (hp : p ∈ X.pn) (hz : Zc (.ref D) (some d) p.2) (hf : ∃ vs, p.2.data = .fields vs) : CallR X (.builtin "isinstance") (rIsED X.K D p.1 d) := by
  rintro pins s σ H xs us Q I r ⟨c, cv, b, fs, rfl, hcv, e, hd, q⟩
  obtain ⟨u1, us', rx, rr, rfl⟩ : ∃ u1 us', RelV (.ref p.1) u1 ∧ Vals [c] us' ∧ us = u1 :: us' := by
    cases r with
    | cons rx rr => exact ⟨_, _, rx, rr, rfl⟩
  obtain ⟨u2, rc, rfl⟩ : ∃ u2, RelV c u2 ∧ us' = [u2] := by
    cases rr with
    | cons rx rr => cases rr; exact ⟨_, rx, rfl⟩
  cases rx
  obtain rfl := hcv u2 rc
  obtain ⟨hget, _⟩ := I.pin p (List.mem_append.mpr (.inl hp))
  obtain ⟨vs, hv⟩ := hf
  have hok := I.hok d _ hd
  obtain ⟨o, ho⟩ : ∃ o, s.heap.get? d = some o := by
    obtain ⟨m, h, _⟩ := hok
    obtain ⟨o, es, ep, ho, _⟩ := h
    exact ⟨o, ho⟩
  have J : PySem.W.InstAt s.heap p.1 p.2 D (some o) := ⟨hget, hz.1, by unfold PySem.W.notCls; rw [hv], by rw [hz.2]; exact ho⟩
  exact PySem.W.kia_one (PySem.k1_kitx C) (Inv.kIn I) J e (fun z => nomatch z) fun tk => ⟨.bl b, H, Inv.kept I fun x x_1 z => z, rfl, q⟩
end K1
end
section
set_option maxRecDepth 100000
set_option maxHeartbeats 4000000
namespace K1
open PySem L2 L2H K01
/-- a def called where an error is handled: its contract speaks of that error -/
structure FnHP (P : Program) (w : World) (K : PySem.W.Frag) (mg : Str → Option Value) (base : Heap) (CX : CXT) (k : Nat) (f : Addr) (fd : FuncData) (ps : List Str) (sp : Addr × Obj → Sp) : Prop where
  len : ∀ (p : Addr × Obj) (vs : List V) (H : Hp) (Q : VK) (E : XK), sp p vs H Q E → vs.length = ps.length
  run : ∀ (A : Around) (outer : List Env) (s : Shared) (H : Hp) (args : Args) (us : List Value) (vs : List V) (Q : VK) (E : XK) (p : Addr × Obj), RoomH k A → Hot1 A p → PinOk outer H s p → Env0 P w K mg base A outer s H → BindsTo s fd args (ps.zip us) → Vals vs us →
    sp p vs H Q E → codeAny (model P w) A (Code.call (Value.ref f) args) (CR CX outer P w H s Q E) s
theorem fn_ofHP {CX : CXT} {P : Program} {w : World} {K : PySem.W.Frag} {mg : Str → Option Value} {base : Heap} {k : Nat} {f : Addr} {name qual : Str} {params : Arguments} {body : List Stmt} {scope : Scope} {dV kV doc pm cdv ct oc : Value} {an od : Option Addr} {osl : Array (Option Value)} {N ps : List Str} {sp : Addr × Obj → Sp}
    (lk : List.lookup f K = some { cls := oc, dict := od, data := Data.func (PySem.W.fnOf name qual params body scope dV kV doc pm an cdv ct), slots := osl }) (hcd : PySem.W.codeIn K cdv qual = true) (S : FnScope N ps scope)
    (len : ∀ (p : Addr × Obj) (vs : List V) (H : Hp) (Q : VK) (E : XK), sp p vs H Q E → vs.length = ps.length)
    (hbody : ∀ (A : Around) (outer : List Env) (s : Shared) (H : Hp) (vs : List V) (Q : VK) (E : XK) (p : Addr × Obj), Hot1 A p → RoomH k (A.deeper (PyProof.Rows.envOfC qual scope s.heap.objs.size f cdv)) → sp p vs H Q E →
      ∃ t, PSs (cxH CX P w K mg base N qual scope f cdv A outer s H E p) body t ∧ t { nx := fun x H' => Q V.non H', rt := Q } (L2.start N vs) H) :
    FnHP P w K mg base CX (k + 1) f (PySem.W.fnOf name qual params body scope dV kV doc pm an cdv ct) ps sp := by
  refine ⟨len, fun A outer s H args us vs Q E p hr hot hpin e0 hb r hsp => ?_⟩
  have hl := len p vs H Q E hsp
  have KX := PySem.W.Frag.In.keeps e0.mod.kin fun b o e => (e0.bs b o e).left
  have lim := Heap.NoLimit.keeps e0.mod.nolimit fun b o e => (e0.bs b o e).left
  refine codeAny_call_function (RoomH.depth hr) (KX f _ lk) rfl S.co S.gen rfl (PySem.W.codeRec_of KX hcd) (hb (model P w) A.in1 _ _ (wpAny_newFunctionEnv_cells S.kind (fun x hy => ?_) ?_))
  · obtain ⟨n, v⟩ := x
    exact (S.par n (List.of_mem_zip hy).1).elim .inl fun q => .inr ⟨q, PySem.W.cellsFrom_some scope.names (s.heap.objs.size + 1) [] (.inl q)⟩
  · intro env he s1 x
    subst he
    refine ⟨Heap.NoLimit.keeps lim x.toInCall.keep, codeAny_func ?_⟩
    obtain ⟨t, ht, hq⟩ := hbody A outer s H vs Q E p hot (RoomH.deeper hr (PyProof.Rows.envOfC qual scope s.heap.objs.size f cdv)) hsp
    have I := inv_startH (CX := CX) (E := E) S hpin e0 hl r x
    refine wpAny_mono (ht.run [] s1 (L2.start N vs) H { nx := fun x H' => Q V.non H', rt := Q } I hq) ?_ (fun e s' hs => hs)
    intro fl s' hs
    cases fl with
    | next => obtain ⟨σ', H', J, q⟩ := hs; exact ⟨V.non, H', J.os, J.bare, J.base, J.hok, rfl, q⟩
    | ret u => obtain ⟨v, σ', H', J, rv, q⟩ := hs; exact ⟨v, H', J.os, J.bare, J.base, J.hok, rv, q⟩
    | _ => obtain ⟨_, _, _, q⟩ := hs; exact q.elim
theorem pe_callHP {X : Cx} {CX : CXT} {k : Nat} {f : Addr} {fd : FuncData} {ps : List Str} {sp : Addr × Obj → Sp} {E : L2H.St → XK} {x : Str} {q pos : Pos} {e : Expr} {es : List Expr} {t : TA} {p : Addr × Obj}
    (F : FnHP X.prog X.w X.K X.mg X.base CX k f fd ps sp) (hr : RoomH k X.A) (hot : Hot1 X.A p) (hp : p ∈ X.pn) (hg : Gl X x) (hm : X.mg x = some (.ref f)) (hk : PySem.W.keepIn X.K (.ref f) = true) (hb : Binds X.K fd ps []) (hx : ∀ σ, PassesAt CX X σ (E σ)) (ha : PA X (e :: es) t)
    (hdb : (x == ("__debug__" : Str)) = false := by rfl) (he : starEach (e :: es) X.env = (false, eval e X.env) :: starEach es X.env := by rfl) (hpl : ((backTo pos (starEach es X.env)).any fun x => x.1) = false := by rfl) :
    PE X ((Expr.Name x q).Call (e :: es) [] pos) (tCallS (sp p) E t) := by
  constructor
  intro pins s σ H Q I h
  refine wpAny_Call_Name_kw (ld_glob I hg hm (PySem.W.callWith_K I.ok.mod.kin hk (thn (ha.run pos pins s σ H (fun vs H1 => sp p vs H1 Q (E σ)) I h) ?_) he hpl) hdb)
  rintro us s1 ⟨vs, H1, I1, r, q⟩
  refine ⟨Inv.kIn I1, ?_⟩
  have hl : us.length = ps.length := by rw [← Vals.length r]; exact F.len p vs H1 Q (E σ) q
  have b := hb s1 us (Inv.kIn I1) (by rw [List.append_nil]; exact hl)
  rw [List.append_nil] at b
  have P1 := I1.pin p (List.mem_append_left pins hp)
  have hpin : PinOk X.stack H1 s1 p := ⟨P1.1, P1.2.1, fun hm => Or.elim (List.mem_cons.mp (Inv.stkSub I1 p.1 hm)) P1.2.2.1 P1.2.2.2.1, P1.2.2.2.2⟩
  refine wpAny_call (codeAny_mono (F.run X.A X.stack s1 H1 { pos := us } us vs Q (E σ) p hr hot hpin (Inv.env0 I1) b r q) ?_)
  intro res s' hq
  cases res with
  | error e => exact hx σ pins H1 s1 e s' I1 hq
  | ok fl =>
    cases fl with
    | ret u => exact Inv.after I1 hq
    | _ => exact hq.elim
end K1
namespace K1
open PySem L2 L2H K01
theorem Fun.okHP {P : Program} {w : World} {K : PySem.W.Frag} {mg : Str → Option Value} {base : Heap} {x qual : Str} {st : Stmt} {f : Addr} {fd : FuncData} {N ps : List Str} {k : Nat} {sp : Addr × Obj → Sp} (F : Fun K x qual st f fd) (S : FnScope N ps (defScope st))
    (len : ∀ (p : Addr × Obj) (vs : List V) (H : Hp) (Q : VK) (E : XK), sp p vs H Q E → vs.length = ps.length)
    (hbody : ∀ (cdv : Value) (A : Around) (outer : List Env) (s : Shared) (H : Hp) (vs : List V) (Q : VK) (E : XK) (p : Addr × Obj), Hot1 A p → RoomH k (A.deeper (PyProof.Rows.envOfC qual (defScope st) s.heap.objs.size f cdv)) → sp p vs H Q E →
      ∃ t, PSs (cxH CX0 P w K mg base N qual (defScope st) f cdv A outer s H E p) (defBody st) t ∧ t { nx := fun x H' => Q V.non H', rt := Q } (L2.start N vs) H) :
    FnHP P w K mg base CX0 (k + 1) f fd ps sp := by
  obtain ⟨oc, od, kV, doc, pm, an, cdv, ct, osl, rfl, lk, hcd⟩ := F.ex
  exact fn_ofHP lk hcd S len fun A outer s H vs Q E p hot hr hsp => hbody cdv A outer s H vs Q E p hot hr hsp
end K1
end
section
set_option maxRecDepth 100000
set_option maxHeartbeats 4000000
namespace K1
open PySem L2 L2H K01
def isB (b : Bool) : Value → Bool
  | .bool c => c == b
  | _ => false
def rCntB (K : PySem.W.Frag) : V → List V → Hp → VK → Prop := fun x xs H Q => ∃ (p : Addr) (bs : List Bool) (b : Bool), x = .ref p ∧ xs = [.bl b] ∧ SqL K H p (bs.map V.bl) ∧ Q (.int (bs.count b : Nat)) H
theorem bools_of : ∀ {bs : List Bool} {us : List Value}, Vals (bs.map V.bl) us → us = bs.map Value.bool
  | [], _, .nil => rfl
  | b :: bs, _, .cons r t => by
    cases r
    rw [bools_of t]; rfl
theorem mt_lcountB {X : Cx} : MtR X "list.count" (rCntB X.K) := by
  rintro pins s σ H x xs v us Q I rx rxs ⟨p, bs, b, rfl, rfl, hs, q⟩
  cases rx
  obtain ⟨u, rfl, ru⟩ := Vals.one rxs
  cases ru
  obtain ⟨its, rv, ⟨w, n, ho, hc, hdn, hd⟩, hlen⟩ := I.list hs
  obtain ⟨cls, dd, data, sl⟩ := w
  cases hc
  cases hd
  have hb := bools_of rv
  subst hb
  refine call_meets F.slot_list_count ⟨_, ho, rfl⟩ F.entry_list_count (F.args_list_count_2 _ _) (SeqAt.list_countAt p _ n dd sl (Value.bool b) (isB b)) ⟨ho, fun y hy => ?_, ?_⟩
  · obtain ⟨c, _, rfl⟩ := List.mem_map.mp (List.mem_toArray.mp hy)
    exact SeqAt.EqAt.bool_bool c b
  · have ec : List.countP (isB b) (bs.map Value.bool).toArray.toList = bs.count b := by
      simp only [List.countP_map]
      rfl
    refine ⟨.int (bs.count b : Nat), H, Inv.tok I (s.toks + 1), ⟨s.toks, ?_⟩, q⟩
    rw [ec]
end K1
end
section
set_option maxRecDepth 100000
set_option maxHeartbeats 4000000
namespace K1
open PySem L2 L2H K01
section
variable {P : Program} {w : World} {K : PySem.W.Frag} {mg : Str → Option Value} {base : Heap}
abbrev sMk : Stmt := top 59
/-- the four classes of errors, and what is asked of them -/
structure Errs (K : PySem.W.Frag) (mg : Str → Option Value) (CF CM CT CC TE : Addr) : Prop where
  mF : mg "BadFact" = some (.ref CF)
  mM : mg "BadMarks" = some (.ref CM)
  mT : mg "BadTakes" = some (.ref CT)
  mC : mg "Contradiction" = some (.ref CC)
  mE : mg "TakesError" = some (.ref TE)
  kF : PySem.W.keepIn K (.ref CF) = true
  kM : PySem.W.keepIn K (.ref CM) = true
  kT : PySem.W.keepIn K (.ref CT) = true
  kC : PySem.W.keepIn K (.ref CC) = true
  kE : PySem.W.keepIn K (.ref TE) = true
/-- an error of class D: of just one of the four, and of both above them -/
structure OneOf (K : PySem.W.Frag) (CF CM CT CC TE D : Addr) : Prop where
  ex : ExcC K D
  bs : ∃ b1 b2 b3 b4 : Bool, PySem.W.kitOne K (.ref D) (.ref CF) = some b1 ∧ PySem.W.kitOne K (.ref D) (.ref CM) = some b2 ∧ PySem.W.kitOne K (.ref D) (.ref CT) = some b3 ∧ PySem.W.kitOne K (.ref D) (.ref CC) = some b4 ∧ [b1, b2, b3, b4].count true = 1
  te : PySem.W.kitOne K (.ref D) (.ref TE) = some true
  ve : PySem.W.kitOne K (.ref D) (.type "ValueError") = some true
def spMk (CF CM CT CC TE : Addr) (K : PySem.W.Frag) : Addr × Obj → Sp := fun p vs H Q _ => ∃ (D d : Addr) (fs : List (Str × V)), vs = [.ref p.1] ∧ OneOf K CF CM CT CC TE D ∧ Zc (.ref D) (some d) p.2 ∧ (∃ us, p.2.data = .fields us) ∧ H d = some (.xd fs) ∧ ∀ H', Same H H' → Q (.bl true) H'
theorem scMk : FnScope ["e", "found"] ["e"] (defScope sMk) := ⟨rfl, rfl, rfl, by decide +kernel, rfl, by decide +kernel, by decide +kernel⟩
theorem ok_mk {f : Addr} {fd : FuncData} {CF CM CT CC TE : Addr} (F : Fun K "_law_marks" "_law_marks" sMk f fd) (T : Bi mg) (hve : mg "ValueError" = none) (X : Errs K mg CF CM CT CC TE) : FnHP P w K mg base CX0 1 f fd ["e"] (spMk CF CM CT CC TE K) := by
  refine Fun.okHP F scMk (fun p vs H Q E h => ?_) (fun cdv A outer s H vs Q E p hot hr h => ?_)
  · obtain ⟨_, _, _, rfl, _⟩ := h
    rfl
  · obtain ⟨D, d, fs, rfl, O, hz, hf, hd, k⟩ := h
    have ci := call_isED (X := cxH CX0 P w K mg base ["e", "found"] "_law_marks" (defScope sMk) f cdv A outer s H E p) (p := p) O.ex (List.mem_singleton.mpr rfl) hz hf
    refine ⟨_, pss_cons (ps_set (i := 1) scMk.nd rfl (.inl rfl) (pe_lst (pa_cons (pe_callB ci (by rfl) T.isinstance (by decide +kernel) (pa_cons (pv 0) (pa_cons (pe_glob (v := .ref CF) (by rfl) X.mF rfl) pa_nil)))
        (pa_cons (pe_callB ci (by rfl) T.isinstance (by decide +kernel) (pa_cons (pv 0) (pa_cons (pe_glob (v := .ref CM) (by rfl) X.mM rfl) pa_nil)))
        (pa_cons (pe_callB ci (by rfl) T.isinstance (by decide +kernel) (pa_cons (pv 0) (pa_cons (pe_glob (v := .ref CT) (by rfl) X.mT rfl) pa_nil)))
        (pa_cons (pe_callB ci (by rfl) T.isinstance (by decide +kernel) (pa_cons (pv 0) (pa_cons (pe_glob (v := .ref CC) (by rfl) X.mC rfl) pa_nil))) pa_nil))))))
      (pss_one (ps_ret (pe_and (pe_cmpR op_eq (pe_bm PySem.F.plainAttrs_list PySem.F.slot_list_count PySem.F.type_list_count mt_lcountB (pv 1) (pa_cons pe_bl pa_nil)) pe_int (nomark _))
        (pe_and (pe_callB ci (by rfl) T.isinstance (by decide +kernel) (pa_cons (pv 0) (pa_cons (pe_glob (v := .ref TE) (by rfl) X.mE rfl) pa_nil)))
        (pe_one (pe_callB ci (by rfl) T.isinstance (by decide +kernel) (pa_cons (pv 0) (pa_cons (pe_ty (n := "ValueError") (by rfl) hve (by decide +kernel)) pa_nil)))))))), ?_⟩
    obtain ⟨b1, b2, b3, b4, h1, h2, h3, h4, hc⟩ := O.bs
    have rv : ∀ (A : Addr) (u : Value), RelV (.ref A) u → u = .ref A := fun A u r => r
    refine ⟨_, rfl, _, _, b1, fs, rfl, rv _, h1, hd, ?_⟩
    refine ⟨_, rfl, _, _, b2, fs, rfl, rv _, h2, hd, ?_⟩
    refine ⟨_, rfl, _, _, b3, fs, rfl, rv _, h3, hd, ?_⟩
    refine ⟨_, rfl, _, _, b4, fs, rfl, rv _, h4, hd, by show 4 ≤ sizeLine; decide, fun L hL => ?_⟩
    have s1 : Same H (upd H L (.lst [.bl b1, .bl b2, .bl b3, .bl b4])) := Same.new hL
    have hLL : (upd H L (.lst [.bl b1, .bl b2, .bl b3, .bl b4])) L = some (.lst ([b1, b2, b3, b4].map V.bl)) := upd_same
    refine ⟨_, rfl, .inl ⟨rfl, _, SqL.of hLL⟩, L, [b1, b2, b3, b4], true, rfl, rfl, SqL.of hLL, rfl, _, rfl, iteDT (by rw [hc]; rfl) ?_⟩
    exact ⟨_, rfl, _, _, true, fs, rfl, rv _, O.te, s1 _ _ hd, _, rfl, iteT ⟨_, rfl, _, _, true, fs, rfl, (fun u r => r), O.ve, s1 _ _ hd, k _ s1⟩⟩
end
end K1
end
section
set_option maxRecDepth 100000
set_option maxHeartbeats 4000000
namespace PySem
theorem k1_stop_hot {prog : Program} {w : World} {A : Around} {E : Value → Shared → Prop} {s : Shared} {x1 : Addr}
    (hot : HotX.HotAt A x1 s.heap)
    (h : ∀ (h' : Heap) (e : Addr) (oe : Obj), (∀ b o, s.heap.get? b = some o → h'.get? b = some o) → h'.get? e = some oe → oe.cls = Value.type "StopIteration" → E (Value.ref e) { s with heap := h' })
    {R : Fin → Shared → Prop} : wpAny (model prog w) A Builtin.SmallTypes.stopIteration R E s := by
  obtain ⟨hh, o1, vs1, h1, d1, c1⟩ := hot
  unfold Builtin.SmallTypes.stopIteration
  refine wpAny_bind ?_
  unfold newExc
  refine wpAny_bind (wpAny_newObj_type (wpAny_bind (wpAny_of_eq (show firstArgMember (Value.type "StopIteration") [] = _ from rfl) ?_)))
  refine wpAny_newObj_type ?_
  have e1 : ((s.heap.push { cls := Value.type "tuple", data := Data.seq #[] }).push { cls := Value.type "StopIteration", data := Data.fields (#[Value.ref s.heap.objs.size, Value.none, Value.none, Value.none, Value.bool false, Value.none] ++ ownMembersOf (Value.type "StopIteration") []) }).get? x1 = some o1 :=
    Heap.get?_push_of_some _ (Heap.get?_push_of_some _ h1)
  refine HotX.raiseNew_hot ⟨hh, o1, vs1, e1, d1, c1⟩ (Nat.ne_of_lt (Heap.lt_size (Heap.get?_push_of_some _ h1))) (Heap.get?_push_size _ rfl) rfl (by rw [Array.size_append]; show 2 < 6 + _; omega) ?_
  refine h _ _ _ (fun b o e => ?_) (Heap.get?_update_self _ (Heap.get?_push_size _ rfl) rfl) rfl
  rw [Heap.get?_update_other]
  · exact Heap.get?_push_of_some _ (Heap.get?_push_of_some _ e)
  · exact Ne.symm (Nat.ne_of_lt (Heap.lt_size (Heap.get?_push_of_some _ e)))
theorem k1_tuple_end_hot {prog : Program} {w : World} {A : Around} {E : Value → Shared → Prop} {s : Shared} {it t x1 : Addr} {i : Nat} {items : Array Value} {Q : Option Value → Shared → Prop}
    (hot : HotX.HotAt A x1 s.heap) (hne : x1 ≠ it) (hit : s.heap.IsTupleIter it t i) (ht : s.heap.IsTuple t items) (hx : items[i]? = none)
    (hQ : ∀ h' : Heap, Heap.ExtBut it s.heap h' → Q none { s with heap := h' }) : wpAny (model prog w) A (pyNext (Value.ref it)) Q E s := by
  have hit' := hit
  obtain ⟨o, ho, hc, hd⟩ := hit
  obtain ⟨ol, hol, hlc, nl, hdl⟩ := ht
  obtain ⟨hh, o1, vs1, h1, d1, c1⟩ := hot
  unfold pyNext
  refine wpAny_bind (wpAny_attempt (wpAny_callSpecial?_slot hit'.typeIs F.slot_tuple_iterator_next (wpAny_call_entry F.slot_tuple_iterator_next hit'.typeIs F.entry_tuple_iterator_next ?_ (F.args_tuple_iterator_next_1 _))))
  refine wpAny_bind (show wpAny _ _ (pure (Value.ref it, [])) _ _ _ from wpAny_pure ?_)
  refine wpAny_bind (wpAny_field ho hd rfl ?_)
  show wpAny _ _ (if (Value.ref t == Value.none) = true then _ else _) _ _ _
  rw [if_neg (by exact Bool.false_ne_true)]
  refine wpAny_bind (wpAny_field ho hd rfl ?_)
  refine wpAny_bind (wpAny_seqItems hol hdl ?_)
  show wpAny _ _ (match items[i]? with | some x => _ | none => _) _ _ _
  rw [hx]
  refine wpAny_bind (wpAny_rule ?_)
  refine wpAny_bind (wpAny_setField ho hd (show 0 < 2 by decide) ?_)
  have hot1 : HotX.HotAt A.in1 x1 (s.heap.update it (Obj.mapFields fun x => x.setIfInBounds 0 Value.none)) := ⟨hh, o1, vs1, by rw [Heap.get?_update_other _ _ (Ne.symm hne)]; exact h1, d1, c1⟩
  refine k1_stop_hot (x1 := x1) hot1 (fun h' e oe hk he hc => ?_)
  refine wpAny_bind (wpAny_isInstance ⟨oe, he, hc⟩ isSubtype_stop (wpAny_pure (hQ _ fun b o hb hbo => hk b o ?_)))
  show (s.heap.update it (Obj.mapFields fun x => x.setIfInBounds 0 Value.none)).get? b = some o
  rw [Heap.get?_update_other _ _ (Ne.symm hb)]
  exact hbo
theorem k1_list_end_hot {prog : Program} {w : World} {A : Around} {E : Value → Shared → Prop} {s : Shared} {it t x1 : Addr} {i : Nat} {items : Array Value} {Q : Option Value → Shared → Prop}
    (hot : HotX.HotAt A x1 s.heap) (hne : x1 ≠ it) (hit : s.heap.IsListIter it t i) (ht : s.heap.IsList t items) (hx : items[i]? = none)
    (hQ : ∀ h' : Heap, Heap.ExtBut it s.heap h' → Q none { s with heap := h' }) : wpAny (model prog w) A (pyNext (Value.ref it)) Q E s := by
  have hit' := hit
  obtain ⟨o, ho, hc, hd⟩ := hit
  obtain ⟨ol, hol, hlc, nl, hdl⟩ := ht
  obtain ⟨hh, o1, vs1, h1, d1, c1⟩ := hot
  unfold pyNext
  refine wpAny_bind (wpAny_attempt (wpAny_callSpecial?_slot hit'.typeIs slot_listiter_next (wpAny_call_entry slot_listiter_next hit'.typeIs entry_listiter_next ?_ (args_listiter_next _))))
  refine wpAny_bind (show wpAny _ _ (pure (Value.ref it, [])) _ _ _ from wpAny_pure ?_)
  refine wpAny_bind (wpAny_field ho hd rfl ?_)
  show wpAny _ _ (if (Value.ref t == Value.none) = true then _ else _) _ _ _
  rw [if_neg (by exact Bool.false_ne_true)]
  refine wpAny_bind (wpAny_field ho hd rfl ?_)
  refine wpAny_bind (wpAny_seqItems hol hdl ?_)
  show wpAny _ _ (match items[i]? with | some x => _ | none => _) _ _ _
  rw [hx]
  refine wpAny_bind (wpAny_rule ?_)
  refine wpAny_bind (wpAny_setField ho hd (show 0 < 2 by decide) ?_)
  have hot1 : HotX.HotAt A.in1 x1 (s.heap.update it (Obj.mapFields fun x => x.setIfInBounds 0 Value.none)) := ⟨hh, o1, vs1, by rw [Heap.get?_update_other _ _ (Ne.symm hne)]; exact h1, d1, c1⟩
  refine k1_stop_hot (x1 := x1) hot1 (fun h' e oe hk he hc => ?_)
  refine wpAny_bind (wpAny_isInstance ⟨oe, he, hc⟩ isSubtype_stop (wpAny_pure (hQ _ fun b o hb hbo => hk b o ?_)))
  show (s.heap.update it (Obj.mapFields fun x => x.setIfInBounds 0 Value.none)).get? b = some o
  rw [Heap.get?_update_other _ _ (Ne.symm hb)]
  exact hbo
end PySem
end
section
set_option maxRecDepth 100000
set_option maxHeartbeats 4000000
namespace PySem
/-- nothing is handled, or one error whose context is none -/
def K1Lm (A : Around) (h : Heap) : Prop := A.handled = none ∨ ∃ x1, HotX.HotAt A x1 h
theorem k1_ne {A : Around} {h : Heap} {x1 it : Addr} {o : Obj} {u v : Value} (hot : HotX.HotAt A x1 h) (ho : h.get? it = some o) (hd : o.data = Data.fields #[u, v]) : x1 ≠ it := by
  rintro rfl
  obtain ⟨_, o1, vs1, h1, d1, c1⟩ := hot
  rw [ho] at h1
  cases h1
  rw [hd] at d1
  cases d1
  cases c1
theorem k1_tuple_end {prog : Program} {w : World} {A : Around} {E : Value → Shared → Prop} {s : Shared} {it t : Addr} {i : Nat} {items : Array Value} {Q : Option Value → Shared → Prop}
    (lm : K1Lm A s.heap) (hit : s.heap.IsTupleIter it t i) (ht : s.heap.IsTuple t items) (hx : items[i]? = none)
    (hQ : ∀ h' : Heap, Heap.ExtBut it s.heap h' → Q none { s with heap := h' }) : wpAny (model prog w) A (pyNext (Value.ref it)) Q E s := by
  rcases lm with hn | ⟨x1, hot⟩
  · exact wpAny_pyNext_tuple_end hn hit ht hx hQ
  · have hit' := hit
    obtain ⟨o, ho, _, hd⟩ := hit'
    exact k1_tuple_end_hot hot (k1_ne hot ho hd) hit ht hx hQ
theorem k1_list_end {prog : Program} {w : World} {A : Around} {E : Value → Shared → Prop} {s : Shared} {it t : Addr} {i : Nat} {items : Array Value} {Q : Option Value → Shared → Prop}
    (lm : K1Lm A s.heap) (hit : s.heap.IsListIter it t i) (ht : s.heap.IsList t items) (hx : items[i]? = none)
    (hQ : ∀ h' : Heap, Heap.ExtBut it s.heap h' → Q none { s with heap := h' }) : wpAny (model prog w) A (pyNext (Value.ref it)) Q E s := by
  rcases lm with hn | ⟨x1, hot⟩
  · exact wpAny_pyNext_list_end hn hit ht hx hQ
  · have hit' := hit
    obtain ⟨o, ho, _, hd⟩ := hit'
    exact k1_list_end_hot hot (k1_ne hot ho hd) hit ht hx hQ
end PySem
end
section
set_option maxRecDepth 100000
set_option maxHeartbeats 4000000
namespace K1
open PySem L2 K01
/-- where at most one error is handled -/
def Lm (X : Cx) : Prop := ∀ (pins : List (Addr × Obj)) (σ : List (Option V)) (H : Hp) (s : Shared), L2.Inv X pins σ H s → K1Lm X.A s.heap
structure TurnK (P : Program) (w : World) (K : PySem.W.Frag) (tg : Expr) (J : It) (fp : List Addr) (it : Addr) (tn : Nat → Heap → Prop) : Prop where
  mem : it ∈ fp
  obj : ∀ (i : Nat) (h : Heap), tn i h → ∀ b ∈ fp, ∃ o, h.get? b = some o ∧ ∀ v, o.data ≠ Data.cell v
  keep : ∀ (i : Nat) (h h' : Heap), tn i h → (∀ b ∈ fp, ∀ o, h.get? b = some o → h'.get? b = some o) → tn i h'
  item : ∀ (X : Cx), X.prog = P → X.w = w → X.K = K → Lm X → ∀ (i : Nat) (pins : List (Addr × Obj)) (s : Shared) (σ : L2.St) (H : Hp) (E : Value → Shared → Prop), L2.Inv X pins σ H s → (∀ b ∈ fp, FpOk X pins H b) → tn i s.heap → J.go i H →
    wpAny (model P w) X.A (pyNext (Value.ref it)) (fun r s1 => ∃ u, r = some u ∧ wpAny (model P w) X.A (letOwnedTupleGo tg (Value.ref it) u) (fun _ s2 => ∃ x H', L2.Inv X pins σ H' s2 ∧ RelV x u ∧ J.yld i H x H' ∧ tn (i + 1) s2.heap ∧ ∀ b ∈ fp, H' b = none) E s1) E s
  done : ∀ (X : Cx), X.prog = P → X.w = w → X.K = K → Lm X → ∀ (i : Nat) (pins : List (Addr × Obj)) (s : Shared) (σ : L2.St) (H : Hp) (E : Value → Shared → Prop), L2.Inv X pins σ H s → (∀ b ∈ fp, FpOk X pins H b) → tn i s.heap → J.stop i H →
    wpAny (model P w) X.A (pyNext (Value.ref it)) (fun r s1 => r = none ∧ L2.Inv X pins σ H s1) E s
  self : ∀ (A : Around) (i : Nat) (s : Shared) (Q E : Value → Shared → Prop), tn i s.heap → Q (Value.ref it) s → wpAny (model P w) A (pyIter (Value.ref it)) Q E s
theorem turn_tupleK {P : Program} {w : World} {K : PySem.W.Frag} {tg : Expr} (a it : Addr) (hne : a ≠ it) : TurnK P w K tg (Itt K a) [it] it (fun i h => h.IsTupleIter it a i) where
  mem := by simp
  obj := fun i h st b hb => by
    rw [List.mem_singleton] at hb; subst hb
    obtain ⟨o, e, c, d⟩ := st
    exact ⟨o, e, fun v z => by rw [d] at z; cases z⟩
  keep := fun i h h' st k => st.at fun o e => k it (by simp) o e
  item := by
    intro X hP hw hK hc i pins s σ H E I hf st hg
    subst hP hw hK
    obtain ⟨xs, x, hq, hx⟩ := hg
    obtain ⟨its, rv, p, hz⟩ := I.tuple hq
    obtain ⟨u, hu, ru⟩ := Vals.get rv hx
    obtain ⟨f0, f1, f2, f3, f4, f5⟩ := hf it (by simp)
    refine wpAny_pyNext_tuple_item st p (by rw [List.getElem?_toArray]; exact hu) fun h' st' sb => ?_
    have I1 := Inv.turned (t' := s.toks) I (fun b o hb e => (sb.2 b hb).trans e) f0 f1 f3 f4 f5
    obtain ⟨o, e, c, d⟩ := id st'
    exact ⟨u, rfl, go_of e c d (by decide) ⟨x, H, I1, ru, ⟨rfl, fun ys hy => by rw [Inv.tuple_inj I hy hq]; exact hx⟩, st', fun b hb => (hf b hb).1⟩⟩
  done := by
    intro X hP hw hK hc i pins s σ H E I hf st hg
    subst hP hw hK
    obtain ⟨xs, hq, hx⟩ := hg
    obtain ⟨its, rv, p, hz⟩ := I.tuple hq
    obtain ⟨f0, f1, f2, f3, f4, f5⟩ := hf it (by simp)
    have hl := Vals.length rv
    exact k1_tuple_end (hc pins σ H s I) st p (by rw [List.getElem?_toArray]; exact List.getElem?_eq_none (by omega)) fun h' eb => ⟨rfl, Inv.turned I (fun b o hb e => eb b o hb e) f0 f1 f3 f4 f5⟩
  self := fun _ _ _ _ _ st h => wpAny_pyIter_tupleiter st h
end K1
end
section
set_option maxRecDepth 100000
set_option maxHeartbeats 4000000
namespace K1
open PySem L2 L2H K01
def PIEK (X : Cx) (pins : List (Addr × Obj)) (σ : L2.St) (tg : Expr) (R : It → Hp → Prop) (itv : Value) (s2 : Shared) : Prop :=
  ∃ it fp tn J H', itv = Value.ref it ∧ L2.Inv X pins σ H' s2 ∧ TurnK X.prog X.w X.K tg J fp it tn ∧ tn 0 s2.heap ∧ (∀ b ∈ fp, FpOk X pins H' b) ∧ R J H'
structure PIK (X : Cx) (tg iter : Expr) (wi : TI) : Prop where
  run : ∀ (pins : List (Addr × Obj)) (s : Shared) (σ : L2.St) (H : Hp) (R : It → Hp → Prop), L2.Inv X pins σ H s → wi σ H R → wpAny (model X.prog X.w) X.A (eval iter X.env) (fun v s1 => wpAny (model X.prog X.w) X.A (pyIter v) (PIEK X pins σ tg R) X.xe s1) X.xe s
theorem lc_coreK {X : Cx} {pins : List (Addr × Obj)} {s : Shared} {σ : L2.St} {H : Hp} {Q : VK} {elt tg iter : Expr} {ifs : List Expr} {scope : Scope} {own : List (Str × Nat)} {pos pos' : Pos} {wi : TI} {g : TG} {tt : TT} {te : TE} {use : Option (Value → Sem Unit)} {Qf : Value → Shared → Prop}
    (hc : HotC X) (hN : X.N.Nodup) (I : L2.Inv X pins σ H s) (hi : PIK X tg iter wi) (ok : BlkOk X.N X.env.scope scope own)
    (hg : ∀ (s : Shared) (H : Hp) (C : Addr) (cl : List (Str × Addr)) (fp : List Addr), PG (X.blk s H scope (compEnvC scope cl C X.env) fp) tg g)
    (ht : ∀ (s : Shared) (H : Hp) (C : Addr) (cl : List (Str × Addr)) (fp : List Addr), PTs (X.blk s H scope (compEnvC scope cl C X.env) fp) ifs tt)
    (he : ∀ (s : Shared) (H : Hp) (C : Addr) (cl : List (Str × Addr)) (fp : List Addr), PE (X.blk s H scope (compEnvC scope cl C X.env) fp) elt te)
    (hs : ∀ x : Value, foldedSetIterable iter X.env x = pure x) (h : tLc wi g tt te (own.map fun x => x.2) σ H Q)
    (hRR : ∀ (D C : Addr) (s' : Shared) (m : Str → Option Value) (H' : Hp), L2.Inv X pins σ H' s' → Q (V.ref D) H' → s'.heap.Ns C m → FpOk X pins H' C → compPost (model X.prog X.w) X.A X.xe use Qf (Value.ref D) C (Except.ok Flow.next) s') :
    wpAny (model X.prog X.w) X.A (comprehension (elt.ListComp [{ target := tg, iter := iter, ifs := ifs, is_async := 0 }] scope pos) scope X.env pos' (newList []) false (eval iter X.env) use) Qf X.xe s := by
  have hfree : ∀ y ∈ scope.names, y.2 = NameKind.free → ∃ c, List.lookup y.1 X.env.cells = some c := fun y hy e => (ok.free y hy e).elim (fun k => I.ok.has y.1 (.inl k)) fun k => I.ok.has y.1 (.inr k)
  refine wpAny_comprehension_free rfl hs (closure_ok hfree) ok.kind (fun y hy e => by rw [ok.uniq y hy, e]) (thn (hi.run pins s σ H _ I h) ?_)
  intro xv s1 hx
  refine thn hx ?_
  rintro itv s2 ⟨it, fp, tn, J, H2, rfl, I2, T, st2, f2, q⟩
  refine wpAny_newObj_type (newEnv_comp ?_) (by show 0 ≤ sizeLine; decide)
  have hDn : H2 s2.heap.objs.size = none := HOk.fresh I2.hok (Nat.le_refl _)
  obtain ⟨W, ⟨m0, w0⟩, turn⟩ := q s2.heap.objs.size hDn
  have I3 : L2.Inv X pins σ (upd H2 s2.heap.objs.size (.lst [])) { s2 with heap := s2.heap.push { cls := Value.type "list", data := Data.seq #[] } } :=
    Inv.laid I2 (fun b o e => Heap.get?_push_of_some _ e) (Nat.le_refl _) ⟨Nat.zero_le _, [], 0, Paired.nil, Heap.get?_push_size s2.heap rfl⟩
  have sz : ∀ b ∈ fp, b < s2.heap.objs.size := fun b hb => by
    obtain ⟨o, e, _⟩ := T.obj 0 s2.heap st2 b hb
    exact Heap.lt_size e
  have f3 : ∀ b ∈ fp, FpOk X pins (upd H2 s2.heap.objs.size (.lst [])) b ∧ b < (s2.heap.push { cls := Value.type "list", data := Data.seq #[] }).objs.size := fun b hb =>
    ⟨⟨(upd_ne (Nat.ne_of_lt (sz b hb))).trans (f2 b hb).1, (f2 b hb).2⟩, by rw [Heap.size_push]; exact Nat.lt_succ_of_lt (sz b hb)⟩
  have st3 : tn 0 (s2.heap.push { cls := Value.type "list", data := Data.seq #[] }) := T.keep 0 s2.heap _ st2 fun b _ o e => Heap.get?_push_of_some _ e
  generalize hs3 : ({ s2 with heap := s2.heap.push { cls := Value.type "list", data := Data.seq #[] } } : Shared) = s3 at I3 ⊢
  have hh3 : s3.heap = s2.heap.push { cls := Value.type "list", data := Data.seq #[] } := by rw [← hs3]
  rw [← hh3] at f3 st3
  generalize hD : s2.heap.objs.size = D at *
  have I4 := block_start I3 ok hN f3
  have Bl : Lm (X.blk s3 (upd H2 D (.lst [])) scope (compEnvC scope (cellsFrom (s3.heap.objs.size + 1) scope.names (cloFrom X.env.cells scope.names [])) s3.heap.objs.size X.env) fp) := by
    intro pins' σ' H' s' I'
    obtain ⟨p, hot, hp⟩ := hc
    have P3 := I3.pin p (List.mem_append_left _ hp)
    obtain ⟨vs, hv, hvn⟩ := hot.2
    exact .inr ⟨p.1, hot.1, p.2, vs, I'.base.keep p.1 p.2 P3.1 P3.2.1 (fun hm => (List.mem_cons.mp (Inv.stkSub I3 _ hm)).elim P3.2.2.1 P3.2.2.2.1) (fun hm => (f3 p.1 hm).1.2.2.2.2.2 p (List.mem_append_left _ hp) rfl), hv, hvn⟩
  have st4 : tn 0 (pushCells (s3.heap.push { cls := Value.type "dict", data := Data.dict #[] }) scope.names) := T.keep 0 s3.heap _ st3 fun b _ o e => pushCells_keeps _ _ _ _ (Heap.get?_push_of_some _ e)
  have nfp : ∀ b ∈ fp, (upd H2 D (.lst [])) b = none := fun b hb => (f3 b hb).1.1
  have stat : ∀ {σ' : L2.St} {H' : Hp} {s' : Shared}, L2.Inv (X.blk s3 (upd H2 D (.lst [])) scope (compEnvC scope (cellsFrom (s3.heap.objs.size + 1) scope.names (cloFrom X.env.cells scope.names [])) s3.heap.objs.size X.env) fp) [] σ' H' s' → (∀ b ∈ fp, H' b = none) → ∀ b ∈ fp, FpOk (X.blk s3 (upd H2 D (.lst [])) scope (compEnvC scope (cellsFrom (s3.heap.objs.size + 1) scope.names (cloFrom X.env.cells scope.names [])) s3.heap.objs.size X.env) fp) [] H' b :=
    fun I' hn b hb => ⟨hn b hb, (I'.ok.exf b hb).1, I'.ok.exfs b hb, .inl hb, fun x c e => (I'.ok.exf b hb).2 x c e, fun p hp => by simp at hp⟩
  have pg := hg s3 (upd H2 D (.lst [])) s3.heap.objs.size (cellsFrom (s3.heap.objs.size + 1) scope.names (cloFrom X.env.cells scope.names [])) fp
  have pt := ht s3 (upd H2 D (.lst [])) s3.heap.objs.size (cellsFrom (s3.heap.objs.size + 1) scope.names (cloFrom X.env.cells scope.names [])) fp
  have pe := he s3 (upd H2 D (.lst [])) s3.heap.objs.size (cellsFrom (s3.heap.objs.size + 1) scope.names (cloFrom X.env.cells scope.names [])) fp
  have cL : (compEnvC scope (cellsFrom (s3.heap.objs.size + 1) scope.names (cloFrom X.env.cells scope.names [])) s3.heap.objs.size X.env).locals = s3.heap.objs.size := rfl
  show codeAny (model X.prog X.w) X.A (Code.compStart (elt.ListComp [{ target := tg, iter := iter, ifs := ifs, is_async := 0 }] scope pos) 0 (Value.ref it) (Value.ref D) (compEnvC scope (cellsFrom (s3.heap.objs.size + 1) scope.names (cloFrom X.env.cells scope.names [])) s3.heap.objs.size X.env)) (compPost (model X.prog X.w) X.A X.xe use Qf (Value.ref D) s3.heap.objs.size) _
  generalize compEnvC scope (cellsFrom (s3.heap.objs.size + 1) scope.names (cloFrom X.env.cells scope.names [])) s3.heap.objs.size X.env = CE at *
  have loop : codeAny (model X.prog X.w) X.A (Code.compLoop (elt.ListComp [{ target := tg, iter := iter, ifs := ifs, is_async := 0 }] scope pos) 0 (Value.ref it) (Value.ref D) CE) (compPost (model X.prog X.w) X.A X.xe use Qf (Value.ref D) s3.heap.objs.size) { heap := pushCells (s3.heap.push { cls := Value.type "dict", data := Data.dict #[] }) scope.names, gens := s3.gens, drawn := s3.drawn, toks := s3.toks, os := s3.os } := by
    refine compLoop_any (fun n s' => ∃ i H', L2.Inv (X.blk s3 (upd H2 D (.lst [])) scope CE fp) [] (wipe σ (own.map fun x => x.2)) H' s' ∧ tn i s'.heap ∧ (∀ b ∈ fp, H' b = none) ∧ W i n H') ?_ m0 ⟨0, _, I4, st4, nfp, w0⟩
    rintro n s5 ⟨i, H5, I5, st5, n5, w5⟩
    rcases turn i n H5 w5 with ⟨stop, qq⟩ | ⟨go, Nx, hNx, step⟩
    · refine thnF (T.done (X.blk s3 (upd H2 D (.lst [])) scope CE fp) rfl rfl rfl Bl i [] s5 _ H5 (fun _ _ => False) I5 (stat I5 n5) st5 stop) ?_
      rintro r s6 ⟨rfl, I6⟩
      have I7 := Inv.call' I3 I6.os I6.base I6.hok I6.bare fun b hb => ⟨(f3 b hb).1.2.2.2.1, (f3 b hb).1.2.1, (f3 b hb).1.2.2.2.2.1, (f3 b hb).1.2.2.2.2.2⟩
      obtain ⟨m, hn, _⟩ := I6.loc
      have nC := I6.free
      rw [cL] at hn nC
      exact hRR D _ s6 m H5 I7 qq hn (Inv.fpOk I3 (Nat.le_refl _) nC)
    · refine thnF (T.item (X.blk s3 (upd H2 D (.lst [])) scope CE fp) rfl rfl rfl Bl i [] s5 _ H5 (fun _ _ => False) I5 (stat I5 n5) st5 go) ?_
      rintro r s6 ⟨u, rfl, h6⟩
      refine thnF h6 ?_
      rintro _ s7 ⟨x, H7, I7, r7, y7, st7, n7⟩
      have I7' := Inv.pinned I7 (stat I7 n7) (T.obj (i + 1) s7.heap st7)
      refine thnF (pg.run ([] ++ pinsAt fp s7.heap) s7 _ H7 x u _ I7' r7 (step x H7 y7)) ?_
      rintro _ s8 ⟨σ8, H8, I8, hw8, q8⟩
      refine thnF (pt.run ([] ++ pinsAt fp s7.heap) s8 σ8 H8 _ I8 q8) ?_
      rintro b s9 ⟨H9, I9, q9⟩
      have fin : ∀ {s' : Shared} {H' : Hp}, L2.Inv (X.blk s3 (upd H2 D (.lst [])) scope CE fp) ([] ++ pinsAt fp s7.heap) σ8 H' s' → Nx H' → ∃ m', m' < n ∧ ∃ i H'', L2.Inv (X.blk s3 (upd H2 D (.lst [])) scope CE fp) [] (wipe σ (own.map fun x => x.2)) H'' s' ∧ tn i s'.heap ∧ (∀ b ∈ fp, H'' b = none) ∧ W i m' H'' := by
        intro s' H' I' nx
        obtain ⟨m', hm, w'⟩ := hNx H' nx
        have pin' : ∀ b ∈ fp, ∀ o, s7.heap.get? b = some o → s'.heap.get? b = some o ∧ H' b = none := fun b hb o e => by
          have z := I'.pin (b, o) (List.mem_append_right _ (List.mem_append_right _ (mem_pinsAt hb e)))
          exact ⟨z.1, z.2.1⟩
        refine ⟨m', hm, i + 1, H', Inv.weak (Inv.unpinned I') ?_ ?_, T.keep (i + 1) s7.heap _ st7 fun b hb o e => (pin' b hb o e).1, fun b hb => ?_, w'⟩
        · rw [← hw8, wipe_length]
        · intro j v e
          rw [← hw8] at e
          exact (wipe_some e).1
        · obtain ⟨o, e, _⟩ := T.obj (i + 1) s7.heap st7 b hb
          exact (pin' b hb o e).2
      cases b with
      | false => exact fin I9 q9
      | true =>
        refine thnF (pe.run ([] ++ pinsAt fp s7.heap) s9 σ8 H9 _ I9 q9) ?_
        rintro yv s10 ⟨y, H10, I10, r10, acc, hD10, hz10, nx⟩
        exact app_ok (X := X.blk s3 (upd H2 D (.lst [])) scope CE fp) I10 hD10 hz10 r10 fun s11 I11 => fin I11 nx
  exact codeAny_compStart_list loop (T.self X.A 0 _ _ _ st4 loop)
theorem pe_lcK {X : Cx} {elt tg iter : Expr} {ifs : List Expr} {scope : Scope} {own : List (Str × Nat)} {pos : Pos} {wi : TI} {g : TG} {tt : TT} {te : TE}
    (hc : HotC X) (hN : X.N.Nodup) (hi : PIK X tg iter wi) (ok : BlkOk X.N X.env.scope scope own)
    (hg : ∀ (s : Shared) (H : Hp) (C : Addr) (cl : List (Str × Addr)) (fp : List Addr), PG (X.blk s H scope (compEnvC scope cl C X.env) fp) tg g)
    (ht : ∀ (s : Shared) (H : Hp) (C : Addr) (cl : List (Str × Addr)) (fp : List Addr), PTs (X.blk s H scope (compEnvC scope cl C X.env) fp) ifs tt)
    (he : ∀ (s : Shared) (H : Hp) (C : Addr) (cl : List (Str × Addr)) (fp : List Addr), PE (X.blk s H scope (compEnvC scope cl C X.env) fp) elt te)
    (hs : ∀ x : Value, foldedSetIterable iter X.env x = pure x := by intro x; rfl) :
    PE X (elt.ListComp [{ target := tg, iter := iter, ifs := ifs, is_async := 0 }] scope pos) (tLc wi g tt te (own.map fun x => x.2)) where
  run := by
    intro pins s σ H Q I h
    rw [eval_ListComp]
    refine lc_coreK hc hN I hi ok hg ht he hs h fun D C s' m H' I' q hn f => ⟨m, hn, fun h'' sb => ?_⟩
    obtain ⟨f0, f1, f2, f3, f4, f5⟩ := f
    exact ⟨.ref D, H', Inv.turned I' (fun b o hb e => (sb.2 b hb).trans e) f0 f1 f3 f4 f5, rfl, q⟩
theorem pi_tupK {X : Cx} {tg l : Expr} {tl : TE} (hl : PE X l tl) : PIK X tg l (iTup X.K tl) where
  run := by
    intro pins s σ H R I h
    refine thn (hl.run pins s σ H _ I h) ?_
    rintro v s1 ⟨x, H1, I1, r1, a, rfl, ⟨xs, hq⟩, q⟩
    cases r1
    obtain ⟨its, rv, p, hz⟩ := I1.tuple hq
    refine wpAny_pyIter_tuple p ?_
    have hlt : a < s1.heap.objs.size := by
      obtain ⟨o, ho, _⟩ := p
      exact Heap.lt_size ho
    refine ⟨s1.heap.objs.size, [s1.heap.objs.size], fun i h => h.IsTupleIter s1.heap.objs.size a i, Itt X.K a, H1, rfl, Inv.kept I1 fun b o e => Heap.get?_push_of_some _ e, turn_tupleK a _ (Nat.ne_of_lt hlt), ⟨_, Heap.get?_push_size _ rfl, rfl, rfl⟩, fun b hb => ?_, q⟩
    rw [List.mem_singleton] at hb
    subst hb
    exact Inv.fpOk I1 (Nat.le_refl _) (HOk.fresh I1.hok (Nat.le_refl _))
end K1
end
section
set_option maxRecDepth 100000
set_option maxHeartbeats 4000000
namespace K1
open PySem L2 L2H K01
theorem ps_setLcK {X : Cx} {i : Nat} {y : Str} {py : Pos} {elt tg iter : Expr} {ifs : List Expr} {scope : Scope} {own : List (Str × Nat)} {pos spos : Pos} {wi : TI} {g : TG} {tt : TT} {te : TE}
    (hc : HotC X) (hN : X.N.Nodup) (hy : X.N[i]? = some y) (hyl : List.lookup y X.env.scope.names = some NameKind.local)
    (hsw : swapsWith (elt.ListComp [{ target := tg, iter := iter, ifs := ifs, is_async := 0 }] scope pos) (some (Expr.Name y py)) spos.line X.env = pure true)
    (hi : PIK X tg iter wi) (ok : BlkOk X.N X.env.scope scope own)
    (hg : ∀ (s : Shared) (H : Hp) (C : Addr) (cl : List (Str × Addr)) (fp : List Addr), PG (X.blk s H scope (compEnvC scope cl C X.env) fp) tg g)
    (ht : ∀ (s : Shared) (H : Hp) (C : Addr) (cl : List (Str × Addr)) (fp : List Addr), PTs (X.blk s H scope (compEnvC scope cl C X.env) fp) ifs tt)
    (he : ∀ (s : Shared) (H : Hp) (C : Addr) (cl : List (Str × Addr)) (fp : List Addr), PE (X.blk s H scope (compEnvC scope cl C X.env) fp) elt te)
    (hs : ∀ x : Value, foldedSetIterable iter X.env x = pure x := by intro x; rfl) :
    PS X (Stmt.Assign [Expr.Name y py] (elt.ListComp [{ target := tg, iter := iter, ifs := ifs, is_async := 0 }] scope pos) spos) (tAsg (tLc wi g tt te (own.map fun x => x.2)) (gName i)) where
  run := by
    intro pins s σ H D I h
    rw [exec_Assign_Name_used y py _ spos hsw]
    refine wpAny_bind (wpAny_standAt (wpAny_bind ?_))
    refine wpAny_bind (thn (lc_coreK hc hN I hi ok hg ht he hs h fun L C s' m H' I' q hn f => ?_) fun x s' hq => wpAny_pure (wpAny_pure hq))
    refine wpAny_assign_Name (store_ok2 (v := V.ref L) I' hN hy (.inl hyl) rfl (fun s2 I2 x => ?_) (.inr hyl))
    obtain ⟨a, sb, ha⟩ := x
    obtain ⟨f0, f1, f2, f3, f4, f5⟩ := f
    have haC : C ≠ a := ha.elim (fun z => by rw [z]; exact f1) fun z e => f4 y a z e.symm
    exact ⟨m, Heap.Ns.sameBut hn sb haC, fun h3 sb3 => ⟨_, H', Inv.turned I2 (fun b o hb e => (sb3.2 b hb).trans e) f0 f1 f3 f4 f5, q⟩⟩
end K1
end
section
set_option maxRecDepth 100000
set_option maxHeartbeats 4000000
namespace PySem
theorem k1_walks_list {prog : Program} {w : World} {A : Around} {x1 : Addr} (I ax : Addr) (hne : ax ≠ I) (h1 : x1 ≠ I) (items : Array Value) :
    Walks prog w A I [I, ax, x1] [I] items.size (fun i v => items[i]? = some v) fun i h => (h.IsListIter I ax i ∧ h.IsList ax items) ∧ HotX.HotAt A x1 h where
  sub := fun b hb => by rw [List.mem_singleton] at hb; rw [hb]; simp
  frame := fun i h h' st hk => by
    obtain ⟨st, hh, o1, vs1, g1, d1, c1⟩ := st
    exact ⟨⟨st.1.at fun o e => hk I (by simp) o e, st.2.at fun o e => hk ax (by simp) o e⟩, hh, o1, vs1, hk x1 (by simp) _ g1, d1, c1⟩
  item := fun i s Q E hi st hQ => by
    obtain ⟨st, hh, o1, vs1, g1, d1, c1⟩ := st
    refine wpAny_pyNext_list_item st.1 st.2 (Array.getElem?_eq_getElem hi) fun h' hit' hs' => hQ items[i] h' s.toks (Array.getElem?_eq_getElem hi) ⟨⟨hit', st.2.extBut hs'.extBut hne⟩, hh, o1, vs1, hs'.extBut _ _ h1 g1, d1, c1⟩ fun b o hb e => hs'.extBut b o (fun z => hb (by rw [z]; simp)) e
  done := fun s Q E st hQ => k1_list_end (.inr ⟨x1, st.2⟩) st.1.1 st.1.2 (by simp) fun h' he' => hQ h' s.toks fun b o hb e => he' b o (fun z => hb (by rw [z]; simp)) e
  self := fun _ _ _ _ st hQ => wpAny_pyIter_listiter st.1.1 hQ
theorem k1_sum_intList {prog : Program} {w : World} {A : Around} {E : Value → Shared → Prop} {s : Shared} {l x1 : Addr} {xs : Array (Int × Tok)} {Q : Value → Shared → Prop} (hot : HotX.HotAt A x1 s.heap)
    (hl : s.heap.IsList l (intItems xs)) (h : ∀ (h' : Heap) (tk : Nat) (t' : Tok), (∀ b o, s.heap.get? b = some o → h'.get? b = some o) → Q (.int (preSum (numAt xs) xs.size) t') { s with heap := h', toks := tk }) :
    wpAny (model prog w) A (call (.builtin "sum") [.ref l]) Q E s := by
  have hx : x1 < s.heap.objs.size := by
    obtain ⟨_, o1, vs1, g1, _⟩ := hot
    exact Heap.lt_size g1
  refine call_sum_walkG (iter_intList hl fun s₂ e st hfp hlI => ?_)
  subst e
  obtain ⟨hh, o1, vs1, g1, d1, c1⟩ := hot
  refine ⟨_, [s.heap.objs.size, l, x1], [s.heap.objs.size], _, _, _, numAt xs, rfl, k1_walks_list (A := A.in1) (x1 := x1) s.heap.objs.size l hlI (Nat.ne_of_lt hx) (intItems xs), ⟨st, hh, o1, vs1, Heap.get?_push_of_some _ g1, d1, c1⟩, fun b hb => ?_, fun i v => intItems_at, fun h' tk t' hk => ?_⟩
  · simp only [List.mem_cons, List.not_mem_nil, or_false] at hb
    rcases hb with rfl | rfl | rfl
    · exact hfp _ (by simp)
    · exact hfp _ (by simp)
    · rw [Heap.size_push]; exact Nat.lt_succ_of_lt hx
  · have e : (intItems xs).size = xs.size := Array.size_map ..
    rw [e]
    exact h h' tk t' (old_kept hk)
theorem k1_sum_raw {prog : Program} {w : World} {A : Around} {E : Value → Shared → Prop} {s : Shared} {l x1 : Addr} {its : List Value} {ns : List Int} {Q : Value → Shared → Prop} (hot : HotX.HotAt A x1 s.heap)
    (hl : s.heap.IsList l its.toArray) (hi : PyProof.Rows.IntsAre its ns) (h : ∀ (h' : Heap) (tk : Nat) (t' : Tok), (∀ b o, s.heap.get? b = some o → h'.get? b = some o) → Q (.int ns.sum t') { s with heap := h', toks := tk }) :
    wpAny (model prog w) A (call (.builtin "sum") [.ref l]) Q E s := by
  obtain ⟨xs, e⟩ := AllInts.items hi.allInts
  have hn := hi.numsOf
  rw [e] at hl
  have hn2 : numsOf (intItems xs).toList = ns := by rw [← e]; exact hn
  refine k1_sum_intList hot hl fun h' tk t' hk => ?_
  have := h h' tk t' hk
  rw [preSum_eq xs xs.size, List.take_of_length_le (by simp)]
  rw [nums_intItems] at hn2
  rw [hn2]
  exact this
end PySem
namespace K1
open PySem L2 L2H K01
theorem cr_sumK {X : Cx} (hc : HotC X) : CallR X (Value.builtin "sum") (rSum X.K) := by
  rintro pins s σ H vs us Q I r ⟨a, ns, rfl, hs, q⟩
  obtain ⟨its, rv, hl, hz⟩ := I.list hs
  rw [Vals.ref1 r]
  obtain ⟨x1, hot⟩ := HotC.at hc I
  exact k1_sum_raw hot (PlainL.isList hl) (Vals.ints rv) fun h' tk t' hk => ⟨.int ns.sum, H, Inv.kept I hk, ⟨t', rfl⟩, q⟩
end K1
end
section
set_option maxRecDepth 100000
set_option maxHeartbeats 4000000
namespace K1
open PySem L2 L2H K01
theorem path_ends {F : List Fact} : ∀ {RG : List Fact} {x y : Str} {c : Int}, isPath F x y c RG → RG ≠ [] → RG.map (fun f => f.2.1) = (RG.drop 1).map (fun f => f.1) ++ [y] ∧ (RG.take 1).map (fun f => f.1) = [x]
  | [], _, _, _, _, h => absurd rfl h
  | [f], x, y, c, ⟨_, h2, h3, _⟩, _ => ⟨by simp [h3], by simp [h2]⟩
  | f :: g :: r, x, y, c, ⟨_, h2, h3⟩, _ => by
    have h := path_ends h3 (fun e => nomatch e)
    refine ⟨?_, by simp [h2]⟩
    rw [List.map_cons, h.1]
    have hg : g.1 = f.2.1 := h3.2.1
    simp [hg]
theorem path_sum {F : List Fact} : ∀ {RG : List Fact} {x y : Str} {c : Int}, isPath F x y c RG → (RG.map fun f => f.2.2).sum = c
  | [], _, _, _, ⟨_, h⟩ => by simp [h]
  | f :: r, x, y, c, ⟨_, _, h⟩ => by
    rw [List.map_cons, List.sum_cons, path_sum h]; omega
def fD (f : Fact) : PyData := .tuple [.str f.1, .str f.2.1, .int f.2.2]
theorem fD_lv {f : Fact} (h1 : AscZ f.1) (h2 : AscZ f.2.1) : Lv 1 (fD f) := Lv.tuple (n := 0) fun d hd => by
  simp only [List.mem_cons, List.not_mem_nil, or_false] at hd
  rcases hd with rfl | rfl | rfl
  · exact Lv.str h1
  · exact Lv.str h2
  · exact Lv.int _
theorem fD_dp {K : PySem.W.Frag} {H : Hp} {p : Addr} {f : Fact} (h : H p = some (.tup (factV f))) : Dp K H (.ref p) (fD f) := .tup (SqT.of h) (.cons (.str _) (.cons (.str _) (.cons (.int _) .nil)))
theorem tups_dp {K : PySem.W.Frag} {H : Hp} : ∀ {ps : List Addr} {F : List Fact}, TupsAt H ps (F.map factV) → DpAll K H (ps.map V.ref) (F.map fD)
  | [], [], _ => .nil
  | [], f :: F, h => by have := h.1; simp at this
  | p :: ps, [], h => by have := h.1; simp at this
  | p :: ps, f :: F, h => .cons (fD_dp (h.2 0 p (factV f) rfl rfl)) (tups_dp ⟨by have := h.1; simpa using this, fun i q r h1 h2 => h.2 (i + 1) q r (by simpa using h1) (by simpa using h2)⟩)
section
variable {P : Program} {w : World} {K : PySem.W.Frag} {mg : Str → Option Value} {base : Heap}
theorem Fun.okH {x qual : Str} {st : Stmt} {f : Addr} {fd : FuncData} {N ps : List Str} {k : Nat} {sp : Sp} (F : Fun K x qual st f fd) (S : FnScope N ps (defScope st))
    (len : ∀ (vs : List V) (H : Hp) (Q : VK) (E : XK), sp vs H Q E → vs.length = ps.length)
    (hbody : ∀ (cdv : Value) (A : Around) (outer : List Env) (s : Shared) (H : Hp) (vs : List V) (Q : VK) (E : XK) (p : Addr × Obj), Hot1 A p → RoomH k (A.deeper (PyProof.Rows.envOfC qual (defScope st) s.heap.objs.size f cdv)) → sp vs H Q E →
      ∃ t, PSs (cxH CX0 P w K mg base N qual (defScope st) f cdv A outer s H E p) (defBody st) t ∧ t { nx := fun x H' => Q V.non H', rt := Q } (L2.start N vs) H) :
    FnH P w K mg base CX0 (k + 1) f fd ps sp := by
  obtain ⟨oc, od, kV, doc, pm, an, cdv, ct, osl, rfl, lk, hcd⟩ := F.ex
  exact fn_ofH lk hcd S len fun A outer s H vs Q E p hot hr hsp => hbody cdv A outer s H vs Q E p hot hr hsp
abbrev sRR : Stmt := top 55
def spRR (K : PySem.W.Frag) : Sp := fun vs H Q _ => ∃ (a c r : Addr) (ms : List Str) (MS RG : List Fact), vs = [.ref a, .ref c, .ref r] ∧ strsT K H a ms ∧ ms.length ≤ 20 ∧ (∀ z ∈ ms, AscZ z) ∧ TTAt K H c (MS.map factV) ∧ MS.length ≤ 30 ∧ InN ms MS ∧ TTAt K H r (RG.map factV) ∧ isRing (MS ++ zeros ms) RG ∧ ∀ H', Same H H' → Q (.bl true) H'
abbrev nsR : List Str := ["marks_here", "facts_here", "ring_here", "free", "known", "tips", "label", "row"]
theorem scRR : FnScope nsR ["marks_here", "facts_here", "ring_here"] (defScope sRR) := ⟨rfl, rfl, rfl, by decide +kernel, rfl, by decide +kernel, by decide +kernel⟩
theorem ok_rr {f : Addr} {fd : FuncData} (F : Fun K "_law_ring_right" "_law_ring_right" sRR f fd) (T : Bi mg) (hsum : mg "sum" = none) : FnH P w K mg base CX0 1 f fd ["marks_here", "facts_here", "ring_here"] (spRR K) := by
  refine Fun.okH F scRR (fun vs H Q E h => ?_) (fun cdv A outer s H vs Q E p hot hr h => ?_)
  · obtain ⟨_, _, _, _, _, _, rfl, _⟩ := h
    rfl
  · obtain ⟨a, c, r, ms, MS, RG, rfl, hm, hml, hma, hc, hcl, hI, hR, hring, k⟩ := h
    have hC : HotC (cxH CX0 P w K mg base nsR "_law_ring_right" (defScope sRR) f cdv A outer s H E p) := ⟨p, hot, List.mem_singleton.mpr rfl⟩
    have hu : (A.deeper (PyProof.Rows.envOfC "_law_ring_right" (defScope sRR) s.heap.objs.size f cdv)).units + 65 < cLine := by have := hr.un; omega
    have hu64 : (A.deeper (PyProof.Rows.envOfC "_law_ring_right" (defScope sRR) s.heap.objs.size f cdv)).units + 64 < cLine := by omega
    refine ⟨_, pss_cons (ps_setLcK (i := 3) (own := [("label", 6)]) (g := gName 6) hC scRR.nd rfl rfl rfl (pi_tupK (pv 0)) (blkOk_by (N := nsR) (sc := defScope sRR) (by decide +kernel))
          (fun _ _ _ _ _ => pg_name (i := 6) scRR.nd rfl (.inl rfl)) (fun _ _ _ _ _ => pts_nil) (fun _ _ _ _ _ => pe_tup (pa_cons pe_str (pa_cons (pv 6) (pa_cons pe_int pa_nil)))))
      (pss_cons (ps_set (i := 4) scRR.nd rfl (.inr rfl) (pe_op op_cat (pe_callTy call_list_of (by rfl) T.list (by decide +kernel) (pa_cons (pv 1) pa_nil)) (pv 3)))
      (pss_cons (ps_if (PW.pt (pw_or (pt_not (pt_val (pe_callB call_isi (by rfl) T.isinstance (by decide +kernel) (pa_cons (pv 2) (pa_cons (pe_ty (n := "tuple") (by rfl) T.tuple (by decide +kernel)) pa_nil)))))
          (pw_or (pt_cmpR (op_eqD hu64) (pv 2) (pe_tup pa_nil) (nomark _))
          (pw_or1 (pt_cmpR (op_neD hu64) (pe_lcK (own := [("row", 7)]) (g := gName 7) (tt := tTest (tOp (rNotInD K) (tVar 7) (tVar 4))) hC scRR.nd (pi_tupK (pv 2)) (blkOk_by (N := nsR) (sc := defScope sRR) (by decide +kernel))
            (fun _ _ _ _ _ => pg_name (i := 7) scRR.nd rfl (.inl rfl)) (fun _ _ _ _ _ => pts_one (pt_cmpR (op_notInD hu) (pv 7) (pv 4) (by rfl))) (fun _ _ _ _ _ => pv 7)) (pe_lst pa_nil) (nomark _)))))) (pss_one (ps_ret pe_bl)) pss_nil)
      (pss_cons (ps_setLcK (i := 5) (own := [("row", 7)]) (g := gName 7) (te := tOp (rIxT K) (tVar 7) (tC (.int 0))) hC scRR.nd rfl rfl rfl (pi_tupK (pe_op op_catA (pe_slice sl_tupA (pv 2) (po_some pe_int) po_none) (pe_slice sl_tupA (pv 2) po_none (po_some pe_int)))) (blkOk_by (N := nsR) (sc := defScope sRR) (by decide +kernel))
          (fun _ _ _ _ _ => pg_name (i := 7) scRR.nd rfl (.inl rfl)) (fun _ _ _ _ _ => pts_nil) (fun _ _ _ _ _ => pe_ix ix_tup (pv 7) pe_int (fun _ _ => rfl)))
      (pss_one (ps_ret (pe_and (pe_cmpR (op_eqD hu64) (pe_lcK (own := [("row", 7)]) (g := gName 7) (te := tOp (rIxT K) (tVar 7) (tC (.int 1))) hC scRR.nd (pi_tupK (pv 2)) (blkOk_by (N := nsR) (sc := defScope sRR) (by decide +kernel))
            (fun _ _ _ _ _ => pg_name (i := 7) scRR.nd rfl (.inl rfl)) (fun _ _ _ _ _ => pts_nil) (fun _ _ _ _ _ => pe_ix ix_tup (pv 7) pe_int (fun _ _ => rfl))) (pv 5) (nomark _))
        (pe_one (pe_cmpR op_lt (pe_callB (cr_sumK hC) (by rfl) hsum (by decide +kernel) (pa_cons (pe_lcK (own := [("row", 7)]) (g := gName 7) (te := tOp (rIxT K) (tVar 7) (tC (.int 2))) hC scRR.nd (pi_tupK (pv 2)) (blkOk_by (N := nsR) (sc := defScope sRR) (by decide +kernel))
            (fun _ _ _ _ _ => pg_name (i := 7) scRR.nd rfl (.inl rfl)) (fun _ _ _ _ _ => pts_nil) (fun _ _ _ _ _ => pe_ix ix_tup (pv 7) pe_int (fun _ _ => rfl))) pa_nil)) pe_int (nomark _)))))))))  , ?_⟩
    obtain ⟨rl, x0, cc, hpath, hneg⟩ := hring
    have hRne : RG ≠ [] := by
      rintro rfl
      obtain ⟨_, e⟩ := hpath
      omega
    obtain ⟨qs, hq, hqT⟩ := hR
    have ql : qs.length = RG.length := by have := hqT.1; rw [List.length_map] at this; exact this
    have zl : (zeros ms).length = ms.length := by unfold zeros; rw [List.length_map]
    -- free
    refine ⟨_, rfl, a, rfl, ⟨_, hm⟩, fun D hD => ?_⟩
    refine lc_it (walk_tup (K := K) (a := a) (xs := ms.map V.str)) (fun i H' => Same H H' ∧ ∃ ps, H' D = some (.lst (ps.map V.ref)) ∧ TupsAt H' ps (((zeros ms).take i).map factV)) ⟨Same.new hD, [], upd_same, TupsAt.nil⟩ (fun i H' _ u => Same.tup u.1 hm) ?_ ?_
    · rintro i v H1 H2 hi ⟨q1, ps, q2, q3⟩ ⟨rfl, hv⟩
      obtain ⟨z, hz, rfl⟩ := get_map hv
      rw [List.length_map] at hi
      have hzz : (zeros ms)[i]? = some (("zero", z, 0) : Fact) := by unfold zeros; rw [List.getElem?_map, hz]; rfl
      have pl : ps.length ≤ i := by have := q3.1; rw [List.length_map, List.length_take] at this; omega
      refine ⟨rfl, yes_ ⟨_, rfl, by show 3 ≤ sizeLine; decide, fun t ht => ?_⟩⟩
      have nD : t ≠ D := fun e => by rw [e, q2] at ht; cases ht
      refine ⟨_, (upd_ne nD.symm).trans q2, by rw [List.length_map]; exact small1000 (by omega), Same.set (q1.trans (Same.new ht)) hD, ps ++ [t], by rw [upd_same, List.map_append]; rfl, ?_⟩
      rw [take_snoc hzz, List.map_append]
      exact TupsAt.upd (xs := ps.map V.ref) ((upd_ne nD.symm).trans q2) ((q3.same (Same.new ht)).snoc upd_same)
    rintro H1 ⟨s1, fs0, f1, f2⟩
    rw [List.length_map, ← zl, List.take_length] at f2
    have fl : fs0.length = ms.length := by have := f2.1; rw [List.length_map, zl] at this; exact this
    -- known
    obtain ⟨ps, hc1, hc2⟩ := hc
    have pl : ps.length = MS.length := by have := hc2.1; rw [List.length_map] at this; exact this
    refine ⟨_, rfl, c, _, rfl, .inr (Same.tup s1 hc1), fun l1 h1 => ?_⟩
    have nDl : D ≠ l1 := fun e => by rw [e] at f1; rw [f1] at h1; cases h1
    refine ⟨_, rfl, l1, D, _, _, rfl, rfl, upd_same, (upd_ne nDl).trans f1, by rw [List.length_map, List.length_map, pl, fl]; exact line8 (by omega), fun l2 h2 => ?_⟩
    have s2 := (Same.new (o := .lst (ps.map V.ref)) h1).trans (Same.new (o := .lst (ps.map V.ref ++ fs0.map V.ref)) h2)
    have kT : TupsAt (upd (upd H1 l1 (.lst (ps.map V.ref))) l2 (.lst (ps.map V.ref ++ fs0.map V.ref))) (ps ++ fs0) ((MS ++ zeros ms).map factV) := by
      rw [List.map_append]
      exact ((hc2.same s1).same s2).app (f2.same s2)
    have kL : (upd (upd H1 l1 (.lst (ps.map V.ref))) l2 (.lst (ps.map V.ref ++ fs0.map V.ref))) l2 = some (.lst ((ps ++ fs0).map V.ref)) := by rw [List.map_append]; exact upd_same
    have hq2 := Same.tup (K := K) (s1.trans s2) hq
    have hqT2 := hqT.same (s1.trans s2)
    have s3 := s1.trans s2
    dsimp only [gName]
    generalize upd (upd H1 l1 (.lst (ps.map V.ref))) l2 (.lst (ps.map V.ref ++ fs0.map V.ref)) = H3 at s2 kT kL hq2 hqT2 s3 ⊢
    -- the words of data
    have azero : AscZ "zero" := by unfold AscZ; decide +kernel
    have hasc : ∀ z ∈ nodes ms, AscZ z := fun z hz => by
      rcases List.mem_cons.mp hz with rfl | hz
      · exact azero
      · exact hma z hz
    have hall : ∀ f ∈ MS ++ zeros ms, AscZ f.1 ∧ AscZ f.2.1 := fun f hf => by
      rcases List.mem_append.mp hf with hf | hf
      · exact ⟨hasc _ (hI f hf).1, hasc _ (hI f hf).2⟩
      · exact ⟨hasc _ (zeros_in ms f hf).1, hasc _ (zeros_in ms f hf).2⟩
    have hRm : ∀ f ∈ RG, f ∈ MS ++ zeros ms := fun f hf => hpath.mem f hf
    have shp : ∀ {F : List Fact}, (∀ f ∈ F, f ∈ MS ++ zeros ms) → SeqAt.shaped (.list (F.map fD)) = true ∧ SeqAt.shaped (.tuple (F.map fD)) = true := fun {F} hF => by
      have : ∀ d ∈ F.map fD, Lv 1 d := fun d hd => by
        obtain ⟨f, hf, rfl⟩ := List.mem_map.mp hd
        exact fD_lv (hall f (hF f hf)).1 (hall f (hF f hf)).2
      exact ⟨(Lv.list this).shaped (by decide), (Lv.tuple this).shaped (by decide)⟩
    refine (⟨_, rfl, _, _, _, _, true, rfl, .ty _, (ty_sqt hq2), kit_ty (by decide +kernel), ⟨_, rfl, iteF ?_⟩⟩)
    refine ⟨_, rfl, by show 0 ≤ sizeLine; decide, fun e he => ?_⟩
    have s4 : Same H3 (upd H3 e (.tup [])) := Same.new he
    refine ⟨.tuple _, .tuple [], .tup (Same.tup s4 hq2) (tups_dp (hqT2.same s4)), .tup tup_at .nil, (shp hRm).2, shaped_nilT, _, rfl, ?_⟩
    have hem : (RG.map fD).isEmpty = false := by cases RG with
      | nil => exact absurd rfl hRne
      | cons => rfl
    rw [eqv_nilT, hem]
    refine iteF ⟨_, rfl, r, rfl, ⟨_, Same.tup s4 hq2⟩, fun D3 hD3 => ?_⟩
    generalize upd H3 e (.tup []) = H4 at s4 hD3 ⊢
    have hq4 := Same.tup s4 hq2
    have hqT4 := hqT2.same s4
    have kT4 := kT.same s4
    have kL4 := s4 _ _ kL
    refine lc_it (walk_tup (K := K) (a := r) (xs := qs.map V.ref)) (fun i H' => Same H4 H' ∧ H' D3 = some (.lst [])) ⟨Same.new hD3, upd_same⟩ (fun i H' _ u => Same.tup u.1 hq4) ?_ ?_
    · rintro i v H5 H6 hi ⟨q1, q2⟩ ⟨rfl, hv⟩
      obtain ⟨pr, hpr, rfl⟩ := get_map hv
      obtain ⟨xs, hxs, hpx⟩ := (hqT4.same q1).get hpr
      obtain ⟨f, hf, rfl⟩ := get_map hxs
      have hfm := hRm f (List.mem_of_getElem? hf)
      refine ⟨rfl, _, rfl, _, rfl, fD f, (MS ++ zeros ms).map fD, fD_dp hpx, .lst (SqL.of (q1 _ _ kL4)) (tups_dp (kT4.same q1)), (fD_lv (hall f hfm).1 (hall f hfm).2).shaped (by decide), (shp fun f h => h).1, _, rfl, ?_⟩
      have hany : (((MS ++ zeros ms).map fD).any fun z => PyData.eqv z (fD f)) = true := List.any_eq_true.mpr ⟨fD f, List.mem_map.mpr ⟨f, hfm, rfl⟩, SeqAt.eqv_refl _ (fD_lv (hall f hfm).1 (hall f hfm).2).1⟩
      rw [hany]
      exact iteF ⟨q1, q2⟩
    rintro H5 ⟨s5, hD5⟩
    refine ⟨by show 0 ≤ sizeLine; decide, fun e2 he2 => ?_⟩
    have nDe : D3 ≠ e2 := fun q => by rw [q] at hD5; rw [hD5] at he2; cases he2
    refine ⟨.list [], .list [], .lst (SqL.of ((upd_ne nDe).trans hD5)) .nil, .lst (SqL.of upd_same) .nil, shaped_nil, shaped_nil, _, rfl, ?_⟩
    rw [eqv_nil]
    refine iteF ?_
    have s6 := s5.trans (Same.new (o := .lst []) he2)
    have hq6 := Same.tup s6 hq4
    have hqT6 := hqT4.same s6
    have sA : Same H (upd H5 e2 (.lst [])) := (s3.trans s4).trans s6
    generalize upd H5 e2 (.lst []) = H6 at s6 hq6 hqT6 sA ⊢
    -- tips
    have dT : TupsAt H6 (qs.drop 1 ++ qs.take 1) ((RG.drop 1 ++ RG.take 1).map factV) := by
      rw [List.map_append, List.map_drop, List.map_take]
      exact (hqT6.drop 1).app (hqT6.take 1)
    have dl : (qs.drop 1 ++ qs.take 1).length = RG.length := by rw [List.length_append, List.length_drop, List.length_take, ql]; omega
    have sz1 : ∀ n, n ≤ 2100 → n ≤ sizeLine := fun n h => Nat.le_trans h (by show 2100 ≤ 16777216; decide)
    refine ⟨_, rfl, _, rfl, ?_⟩
    dsimp only [tNoPart]
    refine slA_it hq6 fun u1 H7 s7 h7 => ?_
    have e1 : cutV (qs.map V.ref) (some 1) none = (qs.map V.ref).drop 1 := cut_drop _ 1
    rw [e1] at h7
    refine ⟨_, rfl, _, rfl, slA_it (Same.tup s7 hq6) fun u2 H8 s8 h8 => ?_⟩
    have e2 : cutV (qs.map V.ref) none (some 1) = (qs.map V.ref).take 1 := cut_take _ 1
    rw [e2] at h8
    refine catA_it (Same.tup s8 h7) h8 ?_ fun u3 H9 s9 h9 => ?_
    · rw [List.length_drop, List.length_take, List.length_map]; exact sz1 _ (by omega)
    have s79 := (s7.trans s8).trans s9
    have h9' : SqT K H9 u3 ((qs.drop 1 ++ qs.take 1).map V.ref) := by rw [List.map_append, List.map_drop, List.map_take]; exact h9
    have dT9 := dT.same s79
    refine ⟨u3, rfl, ⟨_, h9'⟩, fun D4 hD4 => ?_⟩
    refine lc_it (walk_tup (K := K) (a := u3) (xs := (qs.drop 1 ++ qs.take 1).map V.ref)) (fun i H' => Same H9 H' ∧ H' D4 = some (.lst (((RG.drop 1 ++ RG.take 1).take i).map fun f => V.str f.1))) ⟨Same.new hD4, upd_same⟩ (fun i H' _ u => Same.tup u.1 h9') ?_ ?_
    · rintro i v Ha Hb hi ⟨q1, q2⟩ ⟨rfl, hv⟩
      obtain ⟨pr, hpr, rfl⟩ := get_map hv
      obtain ⟨xs, hxs, hpx⟩ := (dT9.same q1).get hpr
      obtain ⟨f, hf, rfl⟩ := get_map hxs
      rw [List.length_map] at hi
      refine ⟨rfl, yes_ ⟨_, rfl, _, _, _, _, rfl, rfl, SqT.of hpx, at_of (j := 0) rfl rfl, _, q2, ?_, Same.set q1 hD4, ?_⟩⟩
      · rw [List.length_map, List.length_take]
        exact Nat.lt_of_le_of_lt (Nat.min_le_left _ _) (by show i < 16777216; omega)
      · rw [upd_same, take_snoc hf, List.map_append]; rfl
    rintro H10 ⟨s10, hT4⟩
    have dl2 : (RG.drop 1 ++ RG.take 1).length = RG.length := by rw [List.length_append, List.length_drop, List.length_take]; omega
    rw [List.length_map, dl, ← dl2, List.take_length] at hT4
    have hq10 := Same.tup (s79.trans s10) hq6
    have hqT10 := hqT6.same (s79.trans s10)
    -- the ends
    refine ⟨_, rfl, r, rfl, ⟨_, hq10⟩, fun D5 hD5 => ?_⟩
    have nD45 : D4 ≠ D5 := fun q => by rw [q] at hT4; rw [hT4] at hD5; cases hD5
    refine lc_it (walk_tup (K := K) (a := r) (xs := qs.map V.ref)) (fun i H' => Same H10 H' ∧ H' D5 = some (.lst ((RG.take i).map fun f => V.str f.2.1))) ⟨Same.new hD5, upd_same⟩ (fun i H' _ u => Same.tup u.1 hq10) ?_ ?_
    · rintro i v Ha Hb hi ⟨q1, q2⟩ ⟨rfl, hv⟩
      obtain ⟨pr, hpr, rfl⟩ := get_map hv
      obtain ⟨xs, hxs, hpx⟩ := (hqT10.same q1).get hpr
      obtain ⟨f, hf, rfl⟩ := get_map hxs
      rw [List.length_map] at hi
      refine ⟨rfl, yes_ ⟨_, rfl, _, _, _, _, rfl, rfl, SqT.of hpx, at_of (j := 1) rfl rfl, _, q2, ?_, Same.set q1 hD5, ?_⟩⟩
      · rw [List.length_map, List.length_take]
        exact Nat.lt_of_le_of_lt (Nat.min_le_left _ _) (by show i < 16777216; omega)
      · rw [upd_same, take_snoc hf, List.map_append]; rfl
    rintro H11 ⟨s11, hT5⟩
    rw [List.length_map, ql, List.take_length] at hT5
    have hpe := path_ends hpath hRne
    have hends : (RG.map fun f => V.str f.2.1) = ((RG.drop 1 ++ RG.take 1).map fun f => V.str f.1) := by
      have h1 : (RG.map fun f => V.str f.2.1) = (RG.map fun f => f.2.1).map V.str := by rw [List.map_map]; rfl
      have h2 : ((RG.drop 1 ++ RG.take 1).map fun f => V.str f.1) = ((RG.drop 1 ++ RG.take 1).map fun f => f.1).map V.str := by rw [List.map_map]; rfl
      rw [h1, h2, hpe.1, List.map_append (f := fun f : Fact => f.1) (l₁ := RG.drop 1), hpe.2]
    have hvs : ∀ v ∈ (RG.map fun f => V.str f.2.1), Flat v := fun v hv => by
      obtain ⟨f, _, rfl⟩ := List.mem_map.mp hv
      exact .str _
    have hlv : Lv 1 (.list ((RG.map fun f => V.str f.2.1).map vD)) := Lv.list (n := 0) fun d hd => by
      obtain ⟨v, hv, rfl⟩ := List.mem_map.mp hd
      obtain ⟨f, hf, rfl⟩ := List.mem_map.mp hv
      exact Lv.str (hall f (hRm f hf)).2
    refine ⟨_, rfl, .list ((RG.map fun f => V.str f.2.1).map vD), .list ((RG.map fun f => V.str f.2.1).map vD), .lst (SqL.of hT5) (flats_dp hvs), .lst (SqL.of (by rw [hends]; exact s11 _ _ hT4)) (flats_dp hvs), hlv.shaped (by decide), hlv.shaped (by decide), _, rfl, ?_⟩
    rw [SeqAt.eqv_refl _ hlv.1]
    refine iteT ?_
    -- the sum
    have hq11 := Same.tup s11 hq10
    have hqT11 := hqT10.same s11
    refine ⟨_, rfl, r, rfl, ⟨_, hq11⟩, fun D6 hD6 => ?_⟩
    refine lc_it (walk_tup (K := K) (a := r) (xs := qs.map V.ref)) (fun i H' => Same H11 H' ∧ H' D6 = some (.lst ((RG.take i).map fun f => V.int f.2.2))) ⟨Same.new hD6, upd_same⟩ (fun i H' _ u => Same.tup u.1 hq11) ?_ ?_
    · rintro i v Ha Hb hi ⟨q1, q2⟩ ⟨rfl, hv⟩
      obtain ⟨pr, hpr, rfl⟩ := get_map hv
      obtain ⟨xs, hxs, hpx⟩ := (hqT11.same q1).get hpr
      obtain ⟨f, hf, rfl⟩ := get_map hxs
      rw [List.length_map] at hi
      refine ⟨rfl, yes_ ⟨_, rfl, _, _, _, _, rfl, rfl, SqT.of hpx, at_of (j := 2) rfl rfl, _, q2, ?_, Same.set q1 hD6, ?_⟩⟩
      · rw [List.length_map, List.length_take]
        exact Nat.lt_of_le_of_lt (Nat.min_le_left _ _) (by show i < 16777216; omega)
      · rw [upd_same, take_snoc hf, List.map_append]; rfl
    rintro H12 ⟨s12, hT6⟩
    rw [List.length_map, ql, List.take_length] at hT6
    refine ⟨D6, RG.map fun f => f.2.2, rfl, SqL.of (by rw [List.map_map]; exact hT6), _, _, rfl, rfl, ?_⟩
    have hlt : decide ((RG.map fun f => f.2.2).sum < 0) = true := by rw [path_sum hpath]; exact decide_eq_true hneg
    show Q (.bl (decide ((RG.map fun f => f.2.2).sum < 0))) H12
    rw [hlt]
    exact k _ (((((sA.trans s79).trans s10).trans s11)).trans s12)
end
end K1
end
section
set_option maxRecDepth 100000
set_option maxHeartbeats 4000000
namespace PySem
open PyProof.Rows
theorem k1_unpackItems {prog : Program} {w : World} {A : Around} {E : Value → Shared → Prop} {s : Shared} {t : Addr} {items : Array Value} {Q : List Value → Shared → Prop} (lm : K1Lm A s.heap) (ht : s.heap.IsTuple t items)
    (hQ : ∀ h' : Heap, Heap.ExtBut s.heap.objs.size s.heap h' → Q items.toList { s with heap := h' }) : wpAny (model prog w) A (unpackItems (Value.ref t) items.size none) Q E s := by
  have hlt : t ≠ s.heap.objs.size := by
    obtain ⟨o, ho, _⟩ := ht
    exact Nat.ne_of_lt (Heap.lt_size ho)
  unfold unpackItems notIterableAtAll
  refine wpAny_bind ?_
  refine wpAny_bind (wpAny_specialOf ht.typeIs F.slot_tuple_iter.lookup (wpAny_pure ?_))
  show wpAny _ _ (Bind.bind (holding [Value.ref t] (pyIter (Value.ref t))) _) _ _ _
  have ht1 : (s.heap.push { cls := Value.type "tuple_iterator", data := Data.fields #[Value.ref t, Value.int 0 0] }).IsTuple t items := ht.at fun o e => Heap.get?_push_of_some _ e
  refine wpAny_bind (wpAny_holding (wpAny_pyIter_tuple ht ?_))
  refine wpAny_bind (wpAny_holding (draw_tuple hlt items.size 0 _ _ ⟨_, Heap.get?_push_size _ rfl, rfl, rfl⟩ ht1 (by omega) fun h' hit' hs' => ?_))
  have e : List.take items.size (List.drop 0 items.toList) = items.toList := by rw [List.drop_zero, ← Array.length_toList, List.take_length]
  rw [e]
  show wpAny _ _ (if items.toList.length < items.size then _ else _) _ _ _
  rw [if_neg (by rw [Array.length_toList]; omega)]
  have lm' : K1Lm A h' := by
    rcases lm with hn | ⟨x1, hh, o1, vs1, g1, d1, c1⟩
    · exact .inl hn
    · exact .inr ⟨x1, hh, o1, vs1, hs'.extBut _ _ (Nat.ne_of_lt (Heap.lt_size g1)) (Heap.get?_push_of_some _ g1), d1, c1⟩
  refine wpAny_bind (wpAny_holding (k1_tuple_end (i := 0 + items.size) lm' hit' (ht1.extBut hs'.extBut hlt) (by simp) fun h'' he => ?_))
  refine wpAny_pure (hQ h'' fun b o hb hbo => he b o hb (hs'.extBut b o hb (Heap.get?_push_of_some _ hbo)))
end PySem
end
section
set_option maxRecDepth 100000
set_option maxHeartbeats 4000000
namespace K1
open PySem PySem.Spec PyProof.Rows L2 L2H K01
/-- a, b = (e, f) of two local names where an error is handled -/
theorem ps_parK {X : Cx} {i j : Nat} {x y : Str} {a b : Expr} {ta : TA} {px py pt pos : Pos} {kt k2 : Nat} {pt2 : Pos} (hc : HotC X) (hN : X.N.Nodup) (hi : X.N[i]? = some x) (hj : X.N[j]? = some y) (hij : i ≠ j)
    (hx : X.env.scope.names.lookup x = some .local) (hy : X.env.scope.names.lookup y = some .local) (ha : PA X [a, b] ta)
    (hw : swappedStores [.Tuple [.Name x px, .Name y py] kt pt] (.Tuple [a, b] k2 pt2) X.env = pure (some [x, y]))
    (hs : swapsWithSole [.Tuple [.Name x px, .Name y py] kt pt] (.Tuple [a, b] k2 pt2) pos.line X.env = pure false := by rfl) : PS X (.Assign [.Tuple [.Name x px, .Name y py] kt pt] (.Tuple [a, b] k2 pt2) pos) (tPar i j ta) where
  run := by
    intro pins s σ H D I h
    have two : ∀ {vs : List V} {us : List Value} {v w : V}, vs = [v, w] → Vals vs us → ∃ c d, us = [c, d] ∧ RelV v c ∧ RelV w d := by
      rintro vs us v w rfl r
      match us, r with
      | [c, d], .cons p (.cons q .nil) => exact ⟨c, d, rfl, p, q⟩
    rw [exec_Assign_arm]
    refine wpAny_bind (wpAny_standAt ?_)
    rw [hs]; refine wpAny_bind (wpAny_pure ?_); rw [if_neg Bool.false_ne_true]
    refine wpAny_bind (Tuple_ (thn (ha.run _ pins s σ H _ I h) ?_))
    rintro us s1 ⟨vs, H1, I1, r1, v, w, e1, q1⟩
    obtain ⟨c, d, rfl, rv, rw'⟩ := two e1 r1
    refine wpAny_newObj_type ?_ (by show 2 ≤ 16777216; decide)
    have I2 := (I1.kept (h' := s1.heap.push { cls := .type "tuple", data := .seq [c, d].toArray }) (t' := s1.toks) fun z o e => Heap.get?_push_of_some _ e)
    rw [hw]; refine wpAny_bind (wpAny_pure ?_)
    have goal : wpAny (model X.prog X.w) X.A (rule "assign.swapped-stores" >>= fun _ => unpackItems (.ref s1.heap.objs.size) 2 none >>= fun items => assignInOrder [fun u => bindName X.env y u, fun u => bindName X.env x u] items.reverse >>= fun _ => pure Flow.next) (SP X pins D) X.xe
        { s1 with heap := s1.heap.push { cls := .type "tuple", data := .seq [c, d].toArray } } := by
      refine wpAny_bind (wpAny_rule (wpAny_bind ?_))
      refine PySem.k1_unpackItems (items := #[c, d]) (.inr (hc.at I2)) (IsTup.new s1.heap _) fun h' hx' => ?_
      have I3 := I2.kept (h' := h') (t' := s1.toks) fun z o e => hx' z o (Nat.ne_of_lt (Heap.lt_size e)) e
      show wpAny _ _ (assignInOrder _ [d, c] >>= _) _ _ _
      refine wpAny_bind (assignInOrder_cons (wpAny_bindName (store_ok I3 hN hj (.inl hy) rw' (fun s2 I4 => ?_) (.inr hy))))
      refine assignInOrder_cons (wpAny_bindName (store_ok I4 hN hi (.inl hx) rv (fun s3 I5 => ?_) (.inr hx)))
      exact assignInOrder_nil (wpAny_pure ⟨_, H1, by rw [List.set_comm _ _ hij.symm] at I5; exact I5, q1⟩)
    exact goal
/-- what several clauses 'except x as n' wish, one behind the other -/
def wManyAs (K : PySem.W.Frag) (i : Nat) (Wout : WX) (D : Ends) : List (Value × (Addr → Value → Option Addr → TS)) → WX
  | [] => Wout
  | (c, ts) :: r => wAs K c i ts (wManyAs K i Wout D r) D
/-- the clauses: each names a class and holds the error in n -/
inductive HdsAs (X : Cx) (n : Str) : List ExceptHandler → List (Value × (Addr → Value → Option Addr → TS)) → Prop
  | nil : HdsAs X n [] []
  | cons {x : Str} {c : Value} {ts : Addr → Value → Option Addr → TS} {b : Stmt} {rest : List Stmt} {p q : Pos} {hds : List ExceptHandler} {l : List (Value × (Addr → Value → Option Addr → TS))} (named : Names X x c)
      (suite : ∀ (a : Addr) (oe : Obj) (cls : Value) (d : Option Addr) (pn : List (Addr × Obj)), L2N.Zn cls d oe → (∃ vs, oe.data = .fields vs) → PSs (X.suite a ((a, oe) :: pn)) (b :: rest) (ts a cls d))
      (more : HdsAs X n hds l) : HdsAs X n (.ExceptHandler (some (.Name x p)) (some n) (b :: rest) q :: hds) ((c, ts) :: l)
section
variable {X : Cx} {n : Str} {i : Nat} {Wout : WX} {D : Ends} {pins : List (Addr × Obj)} {σ : L2.St} {H : Hp} {sI s0 : Shared} {B h3 : Heap} {a : Addr} {cls : Value} {d : Option Addr}
/-- an error that flies over our frames, beside the state without it -/
structure Flies (X : Cx) (pins : List (Addr × Obj)) (σ : L2.St) (H : Hp) (sI : Shared) (B : Heap) (a : Addr) (cls : Value) (d : Option Addr) (s : Shared) : Prop where
  inv : Inv X pins σ H sI
  nb : ∀ b o, sI.heap.get? b = some o → b ∉ frs X.stack → B.get? b = some o
  up : sI.heap.UpToSlots s.heap
  fly : HandSPX.FlyingZ B (X.env :: X.outer) a (L2N.Zn cls d) s.heap
  na : H a = none
  os : s.os = sI.os
  ag : AllBare s.gens
theorem Flies.state (F : Flies X pins σ H sI B a cls d s0) : Inv X pins σ H s0 := Inv.landed F.inv F.nb F.fly.1 F.up F.os F.ag
theorem Flies.fresh (F : Flies X pins σ H sI B a cls d s0) (hf : X.env.frame = some X.env.locals) {oe : Obj} {vs : Array Value} (he : s0.heap.get? a = some oe) (hd : oe.data = .fields vs) : a ≠ X.env.locals ∧ a ∉ X.fs := by
  have not : a ∉ frs (X.env :: X.outer) := by
    intro hm
    obtain ⟨_, o', e', hnf⟩ := Heap.FunFrames.mem F.fly.2.2.1 hm
    rw [he] at e'; cases e'
    exact hnf vs hd
  constructor
  · rintro rfl
    exact not (List.mem_filterMap.mpr ⟨X.env, List.mem_cons_self, hf⟩)
  · intro hm
    obtain ⟨e, he, q⟩ := List.mem_filterMap.mp hm
    exact not (List.mem_filterMap.mpr ⟨e, List.mem_cons_of_mem X.env he, q⟩)
/-- the clauses are gone through -/
theorem handle_as (hs : X.stack = X.env :: X.outer) (hf : X.env.frame = some X.env.locals) (hN : X.N.Nodup) (hi : X.N[i]? = some n) (hln : X.env.kindOf n = some .local) (tk : L2N.Takes X Wout) {hds : List ExceptHandler} {l : List (Value × (Addr → Value → Option Addr → TS))}
    (hk : HdsAs X n hds l) (F : Flies X pins σ H sI B a cls d s0) (hw : wManyAs X.K i Wout D l cls d σ H) : wpAny (model X.prog X.w) X.A (handleBy (.ref a) X.env hds) (SP X pins D) X.xe s0 := by
  have ok := F.inv.ok
  obtain ⟨oe3, vs3, he3, hz3, hd3⟩ := HandSPX.FlyingZ.there F.fly
  obtain ⟨nL, nF⟩ := F.fresh hf he3 hd3
  have S3 := F.state.suite he3 hd3 F.na nL nF
  induction hk with
  | nil =>
    refine wpAny_handleBy_nil ?_
    obtain ⟨k1, k2, k3, oe, vs, T, oT, ts', he, hz, hd, h1, hr⟩ := id F.fly
    unfold PySem.passOn
    refine wpAny_bind (wpAny_field he hd h1 ?_)
    rw [if_neg (by simp)]
    have out : wpAny (model X.prog X.w) X.A (setFlight (.ref a) X.env.frame) (fun _ s4 => wpAny (model X.prog X.w) X.A (throw (.ref a) : Sem Flow) (SP X pins D) X.xe s4) X.xe s0 := by
      rw [hf]
      refine HandSPX.setFlight_upZ F.fly fun h4 hh4 up4 => ?_
      exact wpAny_throw (tk _ _ ⟨a, B, sI, pins, σ, H, cls, d, rfl, F.inv, F.nb, F.up.trans up4, .inr (.inr (by rw [hs]; exact hh4)), F.na, F.os, F.ag, hw⟩)
    first
      | exact wpAny_bind out
      | exact wpAny_bind (wpAny_pure (wpAny_bind out))
  | @cons x c ts b rest p q hds2 l2 named suite more ih =>
    obtain ⟨t, ht, yes, no⟩ := hw
    refine wpAny_handleBy_cons (codeAny_handlers_test ?_) (fun q => nomatch q)
    have LM := PySem.W.exm_one (M := model X.prog X.w) F.state.kIn (fun A Q E s k q => wpAny_typeOf_ref (k _ _ he3) (by rw [hz3.1]; exact q)) ht
    have named' : ∀ {Q : Value → Shared → Prop} {E : Value → Shared → Prop}, Q c s0 → wpAny (model X.prog X.w) (X.A.mark (some (.ref a))) (eval (.Name x p) X.env) Q E s0 := by
      intro Q E q
      obtain ⟨hg, hdbg, hm | ⟨hm, hv, hnn⟩⟩ := named
      · exact ld_glob (X := X.suite a ((a, oe3) :: (X.pn ++ pins))) S3 hg hm q hdbg
      · exact ld_blt (X := X.suite a ((a, oe3) :: (X.pn ++ pins))) S3 hg hm hv q hnn hdbg
    refine named' (LM.here ?_)
    cases t with
    | false =>
      show wpAny _ X.A (handleBy (.ref a) X.env hds2) _ _ _
      exact ih (no rfl)
    | true =>
      refine codeAny_handlers_suite_as (HandSPX.lands_againZ F.fly fun h4 fl4 up4 => ?_)
      have F4 : Flies X pins σ H sI B a cls d { s0 with heap := h4 } := ⟨F.inv, F.nb, F.up.trans up4, fl4, F.na, F.os, F.ag⟩
      obtain ⟨oe4, vs4, he4, hz4, hd4⟩ := HandSPX.FlyingZ.there fl4
      have S4 := F4.state.suite he4 hd4 F.na nL nF
      refine store_ok (X := X.suite a ((a, oe4) :: (X.pn ++ pins))) (v := .ref a) S4 hN hi (.inl hln) rfl (fun s5 S5 => ?_) (.inr hln)
      refine wpAny_mono ((suite a oe4 cls d (X.pn ++ pins) hz4 ⟨_, hd4⟩).run [] s5 _ H _ S5 (yes rfl a F.na)) ?_ (fun _ _ z => z.elim)
      intro f s6 hsp
      have drop : ∀ {σ6 : L2.St} {H6 : Hp} {Q : Shared → Prop}, Inv (X.suite a ((a, oe4) :: (X.pn ++ pins))) [] σ6 H6 s6 → (∀ s7, Inv X pins (σ6.set i none) H6 s7 → Q s7) → wpAny (model X.prog X.w) X.A (do bindName X.env n .none; unbindBehindTheSuite X.env n q) (fun _ s7 => Q s7) X.xe s6 :=
        fun S6 hq => gone_ok (S6.unsuite ok) hN hi hln hq
      match f, hsp with
      | .next, ⟨_, _, S6, q6⟩ => exact drop S6 fun s7 J7 => ⟨_, _, J7, q6⟩
      | .brk, ⟨_, _, S6, q6⟩ => exact drop S6 fun s7 J7 => ⟨_, _, J7, q6⟩
      | .cont, ⟨_, _, S6, q6⟩ => exact drop S6 fun s7 J7 => ⟨_, _, J7, q6⟩
      | .ret u, ⟨_, _, _, S6, r6, q6⟩ => exact drop S6 fun s7 J7 => ⟨_, _, _, J7, r6, q6⟩
end
/-- try: body, except x as n: .., except y as n: .. -/
theorem ps_try_manyAs {X : Cx} {n : Str} {i : Nat} {body : List Stmt} {hd0 : ExceptHandler} {hds : List ExceptHandler} {l : List (Value × (Addr → Value → Option Addr → TS))} {pos : Pos} {tb : WX → TS} {Wout : WX} (hs : X.stack = X.env :: X.outer) (hf : X.env.frame = some X.env.locals)
    (hN : X.N.Nodup) (hi : X.N[i]? = some n) (hln : X.env.kindOf n = some .local) (tk : L2N.Takes X Wout)
    (hb : ∀ (W : WX) (pn : List (Addr × Obj)) (xe : Value → Shared → Prop), L2N.Takes (X.tr pn xe) W → PassesOwn (model X.prog X.w) X.A X.env xe → PSs (X.tr pn xe) body (tb W)) (hh : HdsAs X n (hd0 :: hds) l) :
    PS X (.Try body (hd0 :: hds) [] [] pos) (fun D σ H => tb (wManyAs X.K i Wout D l) D σ H) where
  run := by
    intro pins s σ H D I h
    have ok := I.ok
    have hfr : X.A.frames = some (X.env :: X.outer) := by rw [ok.frames, hs]
    have caught : ∀ (xe : Value → Shared → Prop) (u : Value) (s' : Shared), L2N.XE (X.tr (X.pn ++ pins) xe) (wManyAs X.K i Wout D l) u s' → wpAny (model X.prog X.w) X.A (noteFrame u X.env) (fun _ s₂ => wpAny (model X.prog X.w) X.A (setFlight u none) (fun _ s₃ => wpAny (model X.prog X.w) X.A (handleBy u X.env (hd0 :: hds)) (SP X pins D) X.xe s₃) X.xe s₂) X.xe s' := by
      rintro xe u s' ⟨a, B, sI, pins', σ', H', cls, d, rfl, J', nb, up, sky, na, os, ag, w⟩
      have J : Inv X pins σ' H' sI := Inv.ofTry J' ok
      have sky' : Sky B (X.env :: X.outer) a (L2N.Zn cls d) X.env.locals s'.heap := by rw [← hs]; exact sky
      refine L2N.Sky.land L2N.Zn.steady hfr hf sky' fun h3 fl3 up3 => ?_
      exact handle_as hs hf hN hi hln tk hh ⟨J, nb, up.trans up3, fl3, na, os, ag⟩ w
    refine wpAny_Try_except (wpAny_mono ((hb (wManyAs X.K i Wout D l) (X.pn ++ pins) _ (fun u s' xx => ?_) PassesOwn.looking).run [] s σ H D (I.toTry _) h) ?_ (fun e s1 he => he))
    · exact caught _ u s' xx
    · intro f s1 hsp
      match f, hsp with
      | .next, ⟨_, _, J', q⟩ => exact wpAny_execs_nil ⟨_, _, Inv.ofTry J' ok, q⟩
      | .brk, ⟨_, _, J', q⟩ => exact ⟨_, _, Inv.ofTry J' ok, q⟩
      | .cont, ⟨_, _, J', q⟩ => exact ⟨_, _, Inv.ofTry J' ok, q⟩
      | .ret u, ⟨_, _, _, J', r, q⟩ => exact ⟨_, _, _, Inv.ofTry J' ok, r, q⟩
end K1
end
section
set_option maxRecDepth 100000
set_option maxHeartbeats 4000000
namespace K1
open PySem PyProof.Rows L2 L2H K01
/-- C(..) in a try: what is wished of an error speaks of the slots -/
def tMakeS (C : Addr) (sp : Sp) (dvs : List V) (E : L2.St → XK) (t : TA) : TE := fun σ H Q => t σ H fun vs H1 => ∀ x dx, H1 x = none → H1 dx = none → dx ≠ x →
  sp (.ref x :: (vs ++ dvs)) (upd (upd H1 dx (.own x)) x (.ins C dx [])) (fun v H2 => v = .non ∧ Q (.ref x) H2) (E σ)
/-- C(k = v, ..) in a try -/
def tMakeKS (C : Addr) (m : Nat) (sp : Sp) (gV : List V → List V → List V) (E : L2.St → XK) (tk : TA) : TE := fun σ H Q => tk σ H fun zs H2 => zs.length = m ∧ ∀ x dx, H2 x = none → H2 dx = none → dx ≠ x →
  sp (gV [.ref x] zs) (upd (upd H2 dx (.own x)) x (.ins C dx [])) (fun v H3 => v = .non ∧ Q (.ref x) H3) (E σ)
section
variable {X : Cx} {CX : CXT} {k : Nat} {f C : Addr} {fd : FuncData} {ps ks : List Str} {sp : Sp} {dvs : List V} {ds : List Value} {E : XK} {Es : L2.St → XK} {x : Str} {p pos : Pos} {e : Expr} {es : List Expr} {t tk : TA} {kws : List Keyword} {g : List Value → List Value → List Value} {gV : List V → List V → List V}
/-- a new instance: __init__ is called with these values -/
theorem make_at {pins : List (Addr × Obj)} {σ : L2.St} {H : Hp} {s : Shared} {Q : VK} {us all : List Value} {vs : List V} {kw : List (Str × Value)} (M : Mk X.K C f) (F : FnOk X.prog X.w X.K X.mg X.base CX k f fd ps sp) (hr : Room (k + 1) X.A) (hx : PassesAt CX X σ E) (I : Inv X pins σ H s)
    (hb : ∀ s', X.K.In s'.heap → BindsTo s' fd ⟨Value.ref (s.heap.objs.size + 1) :: us, kw⟩ (ps.zip all)) (r : Vals vs all)
    (hsp : sp vs (upd (upd H s.heap.objs.size (.own (s.heap.objs.size + 1))) (s.heap.objs.size + 1) (.ins C s.heap.objs.size [])) (fun v H2 => v = .non ∧ Q (.ref (s.heap.objs.size + 1)) H2) E) :
    wpAny (model X.prog X.w) X.A (call (.ref C) us kw) (EP X pins σ Q) X.xe s := by
  have I2 := Inv.made (C := C) I
  have body := F.run _ X.stack _ _ ⟨Value.ref (s.heap.objs.size + 1) :: us, kw⟩ all _ _ E (Room.make hr C us kw) (Env0.make I2.env0 C us kw) (hb _ I2.kIn) r hsp
  refine wpAny_call (make_map (f := f) I.kIn M.makes M.init (beq_iff_eq.mp M.fn) (codeAny_mono body fun res s' q => ?_))
  match res, q with
  | .error e, q => exact hx pins _ _ e s' I2 q
  | .ok (.ret u), q =>
    obtain ⟨v, H', I3, rv, rfl, q3⟩ := Inv.after I2 q
    exact ⟨rv, V.ref (s.heap.objs.size + 1), H', I3, rfl, q3⟩
theorem pe_makeS (M : Mk X.K C f) (F : FnOk X.prog X.w X.K X.mg X.base CX k f fd ps sp) (hr : Room (k + 1) X.A) (hg : Gl X x) (hm : X.mg x = some (.ref C)) (hb : Binds X.K fd ps ds) (hd : Vals dvs ds) (hx : ∀ σ, PassesAt CX X σ (Es σ))
    (ha : PA X (e :: es) t) (hdb : (x == ("__debug__" : Str)) = false := by rfl) (he : starEach (e :: es) X.env = (false, eval e X.env) :: starEach es X.env := by rfl) (hpl : ((backTo pos (starEach es X.env)).any fun x => x.1) = false := by rfl) :
    PE X ((Expr.Name x p).Call (e :: es) [] pos) (tMakeS C sp dvs Es t) where
  run := by
    intro pins s σ H Q I h
    refine wpAny_Call_Name_kw (ld_glob I hg hm (PySem.W.callWith_K (h₀ := X.base) I.ok.mod.kin M.kp (thn (ha.run pos pins s σ H _ I h) ?_) he hpl) hdb)
    rintro us s1 ⟨vs, H1, I1, r, q⟩
    refine ⟨I1.kIn, ?_⟩
    have q' := q (s1.heap.objs.size + 1) s1.heap.objs.size (I1.hok.fresh (Nat.le_succ _)) (I1.hok.fresh (Nat.le_refl _)) (Nat.ne_of_lt (Nat.lt_succ_self _))
    have r2 : Vals (V.ref (s1.heap.objs.size + 1) :: (vs ++ dvs)) (Value.ref (s1.heap.objs.size + 1) :: (us ++ ds)) := .cons rfl (Vals.append r hd)
    have hl : (Value.ref (s1.heap.objs.size + 1) :: us ++ ds).length = ps.length := by
      rw [← F.len _ _ _ _ q']; exact (Vals.length r2).symm
    exact make_at M F hr (hx σ) I1 (fun s' K' => hb s' _ K' hl) r2 q'
theorem pe_makeKS (M : Mk X.K C f) (F : FnOk X.prog X.w X.K X.mg X.base CX k f fd ps sp) (hr : Room (k + 1) X.A) (hg : Gl X x) (hm : X.mg x = some (.ref C)) (hb : KBn X.K fd ps 1 ks g gV) (hx : ∀ σ, PassesAt CX X σ (Es σ)) (hkw : PK X kws tk)
    (hall : ((backToKw pos (keywordEach kws X.env)).all fun x => x.1.isSome) = true := by rfl) (hks : (backToKw pos (keywordEach kws X.env)).filterMap (fun x => x.1) = ks := by rfl) (hdb : (x == ("__debug__" : Str)) = false := by rfl)
    (hpl : (((backTo pos (starEach [] X.env)).any fun x => x.1) || ((backToKw pos (keywordEach kws X.env)).any fun x => x.1.isNone)) = false := by rfl) :
    PE X ((Expr.Name x p).Call [] kws pos) (tMakeKS C ks.length sp gV Es tk) where
  run := by
    intro pins s σ H Q I h
    refine wpAny_Call_Name_kw (ld_glob I hg hm (PySem.W.callWith_KW0 (h₀ := X.base) I.ok.mod.kin M.kp hall (thn (hkw.run pos pins s σ H _ I h) ?_) hpl) hdb)
    rintro ws s2 ⟨zs, H2, I2, rz, l2, q2⟩
    refine ⟨I2.kIn, ?_⟩
    rw [hks]
    have q' := q2 (s2.heap.objs.size + 1) s2.heap.objs.size (I2.hok.fresh (Nat.le_succ _)) (I2.hok.fresh (Nat.le_refl _)) (Nat.ne_of_lt (Nat.lt_succ_self _))
    have r1 : Vals [V.ref (s2.heap.objs.size + 1)] [Value.ref (s2.heap.objs.size + 1)] := .cons rfl .nil
    exact make_at (us := []) M F hr (hx σ) I2 (fun s' K' => hb.to s' [Value.ref (s2.heap.objs.size + 1)] ws K' rfl ((Vals.length rz).symm.trans l2)) (hb.rel r1 rz) q'
end
end K1
end
section
set_option maxRecDepth 100000
set_option maxHeartbeats 4000000
namespace K1
open PySem L2 K01
theorem ShOk.parts {ms ts : List Str} {F : List Fact} (h : ShOk ms ts F) : Parts 5 ms ts (F.map factV) where
  m1 := h.m1
  ml := h.ml
  ma := fun z hz => ⟨(h.gm.gn z hz).asc, by have := (h.gm.gn z hz).len'; omega⟩
  tl := h.tl
  ta := fun z hz => ⟨(h.gm.gn z (h.tm z hz)).asc, by have := (h.gm.gn z (h.tm z hz)).len'; omega⟩
  fl := by rw [List.length_map]; have := h.fl; omega
  ff := fun xs hx x hxx => by
    obtain ⟨f, _, rfl⟩ := List.mem_map.mp hx
    simp only [factV, List.mem_cons, List.not_mem_nil, or_false] at hxx
    rcases hxx with rfl | rfl | rfl
    · exact .str _
    · exact .str _
    · exact .int _
  fi := fun xs hx => by
    obtain ⟨f, hf, rfl⟩ := List.mem_map.mp hx
    have hz : AscZ "zero" := asc_few.2.2.2
    have nm : ∀ z ∈ nodes ms, AscZ z := fun z hz' => by
      rcases List.mem_cons.mp hz' with rfl | hz'
      · exact hz
      · exact (h.gm.gn z hz').asc
    refine ⟨fun i hi => ?_, fun z hz' => ?_⟩
    · simp only [factV, List.mem_cons, List.not_mem_nil, or_false] at hi
      rcases hi with e | e | e
      · cases e
      · cases e
      · cases e
        have := (h.fo f hf).sm
        omega
    · simp only [factV, List.mem_cons, List.not_mem_nil, or_false] at hz'
      rcases hz' with e | e | e
      · cases e; exact nm _ (h.fo f hf).l
      · cases e; exact nm _ (h.fo f hf).r
      · cases e
  fr := fun xs hx => by
    obtain ⟨f, _, rfl⟩ := List.mem_map.mp hx
    show 3 ≤ 4
    decide
/-- a drawn sheet has no fault -/
theorem ShOk.fault {ms ts : List Str} {F : List Fact} (h : ShOk ms ts F) : K1.fault ms ts (F.map factV) = none := by
  have hM : first (badMark ms) ms.length = none := first_none fun j hj => by
    have hz : ms[j]? = some ms[j] := List.getElem?_eq_getElem hj
    have hm : markAt ms j = ms[j] := by unfold markAt; rw [hz]; rfl
    have hin : ms[j] ∈ ms := List.getElem_mem hj
    unfold badMark
    rw [hm, (h.gm.gn _ hin).ok, decide_eq_false (p := ms[j] = "zero") (fun e => h.gm.nz (by rw [← e]; exact hin)), decide_eq_false (p := ms[j] ∈ ms.take j)]
    · rfl
    · intro hk
      obtain ⟨k, hk1, hk2⟩ := List.mem_take_iff_getElem.mp hk
      have := nodup_get h.gm.nd (i := k) (j := j) (List.getElem?_eq_some_iff.mpr ⟨by omega, hk2⟩) hz
      omega
  have hT : first (badTake ms ts) ts.length = none := first_none fun j hj => by
    have hz : ts[j]? = some ts[j] := List.getElem?_eq_getElem hj
    have hm : markAt ts j = ts[j] := by unfold markAt; rw [hz]; rfl
    unfold badTake
    rw [hm, decide_eq_true (h.tm _ (List.getElem_mem hj)), decide_eq_false]
    · rfl
    · intro hk
      obtain ⟨k, hk1, hk2⟩ := List.mem_take_iff_getElem.mp hk
      have := nodup_get h.tn (i := k) (j := j) (List.getElem?_eq_some_iff.mpr ⟨by omega, hk2⟩) hz
      omega
  have hF : first (badFact ms (F.map factV)) (F.map factV).length = none := first_none fun j hj => by
    rw [List.length_map] at hj
    have hz : (F.map factV)[j]? = some (factV F[j]) := by rw [List.getElem?_map, List.getElem?_eq_getElem hj]; rfl
    have ho := h.fo _ (List.getElem_mem hj)
    unfold badFact
    rw [hz]
    show (!(inV (.str F[j].1) ((nodes ms).map V.str) && (inV (.str F[j].2.1) ((nodes ms).map V.str) && (!decide (V.str F[j].1 = V.str F[j].2.1) && true)))) = false
    rw [inV_str, inV_str, decide_eq_true ho.l, decide_eq_true ho.r, decide_eq_false (fun e => ho.ne (V.str.inj e))]
    rfl
  unfold K1.fault
  rw [hM]
  simp only []
  rw [hT]
  simp only []
  rw [hF]
end K1
end
section
set_option maxRecDepth 100000
set_option maxHeartbeats 4000000
namespace K1
open PySem L2 K01
theorem eg_in {ms : List Str} {MS : List Fact} (hI : InN ms MS) : InN ms (MS ++ zeros ms) := fun f hf => by
  rcases List.mem_append.mp hf with hf | hf
  · exact hI f hf
  · exact zeros_in ms f hf
/-- a ring below zero: the law's closing tells it -/
theorem ring_negs {ms : List Str} {MS RG : List Fact} (hI : InN ms MS) (hN : (nodes ms).Nodup) (h : isRing (MS ++ zeros ms) RG) : negs (ms.length + 1) (closedM (ms.length + 1) (MS.map (eF ms))) ≠ [] := by
  obtain ⟨_, x, c, hp, hc⟩ := h
  have hx : x ∈ nodes ms := by
    cases RG with
    | nil => obtain ⟨_, e⟩ := hp; omega
    | cons f r =>
      obtain ⟨hf, hfx, _⟩ := hp
      rw [← hfx]
      exact (eg_in hI f hf).1
  refine negs_ring (hI.inR) ((eg_in hI).inR) (fun e he => ?_) (ix_lt hx) (isPath.walk (ms := ms) hp) hc
  rw [List.map_append] at he
  rcases List.mem_append.mp he with he | he
  · exact .inl he
  · rw [zeros_edges hN] at he
    obtain ⟨a, b, d⟩ := e
    have := zero_mem he
    exact .inr ⟨this.1, this.2.1⟩
/-- a sheet that can be: the law's closing has nothing below zero -/
theorem made_negs {ms : List Str} {MS : List Fact} {B : Mat} (hI : InN ms MS) (hN : (nodes ms).Nodup) (G : Good (ms.length + 1) (EG ms MS) B) : negs (ms.length + 1) (closedM (ms.length + 1) (MS.map (eF ms))) = [] := by
  refine negs_good G (fun {y} hy => ?_) hI.inR (fun e he => by unfold EG; rw [List.map_append]; exact List.mem_append_left _ he)
  cases y with
  | zero => exact G.diag0 (by omega)
  | succ i =>
    refine G.edge ?_
    unfold EG
    rw [List.map_append, zeros_edges hN]
    exact List.mem_append_right _ (List.mem_map.mpr ⟨i, List.mem_range.mpr (by omega), rfl⟩)
end K1
end
section
set_option maxRecDepth 100000
set_option maxHeartbeats 4000000
namespace K1
open PySem L2 L2H K01
theorem takes_noN {X : Cx} : L2N.Takes X (fun _ _ _ _ => False) := fun _ _ ⟨_, _, _, _, _, _, _, _, _, _, _, _, _, _, _, _, w⟩ => w.elim
theorem pe_imp {X : Cx} {e : Expr} {te te' : TE} (h : PE X e te) (k : ∀ σ H Q, te' σ H Q → te σ H Q) : PE X e te' := ⟨fun pins s σ H Q I q => h.run pins s σ H Q I (k σ H Q q)⟩
theorem pe_fldK {X : Cx} {K : PySem.W.Frag} {e : Expr} {ta : TE} {f : Str} {pos : Pos} (he : PE X e ta) (hb : attributeBase e f X.env (eval e X.env) = eval e X.env) (hK : X.K = K) : PE X (.Attribute e f pos) (tFld K ta f) := by
  subst hK
  exact pe_fld he hb
theorem op_eqDK {X : Cx} {K : PySem.W.Frag} (hK : X.K = K) (hu : X.A.units + 64 < cLine) : OpR X (compareOp .Eq) (rEqD K) := by
  subst hK
  exact op_eqD hu
theorem pass0S {X : Cx} {E : L2.St → XK} : ∀ σ, PassesAt CX0 X σ (E σ) := fun _ _ _ _ _ _ _ c => c.elim
/-- the classes as the clauses ask them -/
structure ErT (K : PySem.W.Frag) (CM CT CF CC : Addr) : Prop where
  mm : PySem.W.exmOne K (.ref CM) (.ref CM) = some true
  tm : PySem.W.exmOne K (.ref CT) (.ref CM) = some false
  tt : PySem.W.exmOne K (.ref CT) (.ref CT) = some true
  fm : PySem.W.exmOne K (.ref CF) (.ref CM) = some false
  ft : PySem.W.exmOne K (.ref CF) (.ref CT) = some false
  ff : PySem.W.exmOne K (.ref CF) (.ref CF) = some true
  cm : PySem.W.exmOne K (.ref CC) (.ref CM) = some false
  ct : PySem.W.exmOne K (.ref CC) (.ref CT) = some false
  cf : PySem.W.exmOne K (.ref CC) (.ref CF) = some false
  cc : PySem.W.exmOne K (.ref CC) (.ref CC) = some true
  xm : XfC K CM
  xt : XfC K CT
  xf : XfC K CF
  xc : XfC K CC
  im : PySem.W.findIn K (.ref CM) "index" = some none
  it : PySem.W.findIn K (.ref CT) "index" = some none
  jf : PySem.W.findIn K (.ref CF) "index" = some none
  rc : PySem.W.findIn K (.ref CC) "ring" = some none
/-- a sheet is made: what __init__ is asked, said of the heap ahead -/
theorem sheet_it {K : PySem.W.Frag} {C CC : Addr} {cls : Nat → Addr} {H : Hp} {x dx a b c : Addr} {ms ts : List Str} {fs : List (List V)} {Q : V → Hp → Prop} {E : XK} (hx : H x = none) (hdx : H dx = none) (hne : dx ≠ x)
    (hm : strsT K H a ms) (hs : Short ms) (hml : ms.length ≤ 100) (ht : strsT K H b ts) (htl : ts.length ≤ 400) (hf : TTAt K H c fs) (hff : FlatF fs) (hfl : fs.length ≤ 400) (hfi : SmallI fs)
    (kE : ∀ k i H' d, fault ms ts fs = some (k, i) → Same H H' → H' d = some (.xd [("index", .int (i : Nat))]) → E (.ref (cls k)) (some d) H')
    (kR : fault ms ts fs = none → ∀ MS : List Fact, fs = MS.map factV → InN ms MS → ∀ H' d rp RG, Same H H' → H' d = some (.xd [("ring", .ref rp)]) → TTAt K H' rp (RG.map factV) → isRing (MS ++ zeros ms) RG → E (.ref CC) (some d) H')
    (kQ : fault ms ts fs = none → ∀ MS : List Fact, fs = MS.map factV → InN ms MS → (nodes ms).Nodup → ∀ B, Good (ms.length + 1) (EG ms MS) B → ∀ H' p, Same H H' → H' x = some (.ins C dx (f5 a b c p)) → Q (.ref x) H') :
    spSheet K C CC cls [.ref x, .ref a, .ref b, .ref c] (upd (upd H dx (.own x)) x (.ins C dx [])) (fun v H2 => v = .non ∧ Q (.ref x) H2) E := by
  have s1 : Same H (upd H dx (.own x)) := Same.new hdx
  have hx1 : (upd H dx (.own x)) x = none := by rw [upd_ne hne.symm]; exact hx
  have s2 : Same H (upd (upd H dx (.own x)) x (.ins C dx [])) := s1.trans (Same.new hx1)
  have back : ∀ H', But x (upd (upd H dx (.own x)) x (.ins C dx [])) H' → Same H H' := fun H' h b o e => h b o (fun z => by rw [z, hx] at e; cases e) (s2 b o e)
  exact ⟨x, dx, a, b, c, ms, ts, fs, rfl, upd_same, Same.tup s2 hm, hs, hml, Same.tup s2 ht, htl, hf.same s2, hff, hfl, hfi, fun k i H' d e h _ hd => kE k i H' d e (back H' h) hd,
    fun e MS e1 e2 H' d rp RG h _ hd hR hr => kR e MS e1 e2 H' d rp RG (back H' h) hd hR hr, fun e MS e1 e2 e3 B G H' p h _ hi => ⟨rfl, kQ e MS e1 e2 e3 B G H' p (back H' h) hi⟩⟩
theorem hot_of {A : Around} {a : Addr} {oe : Obj} {cls : Value} {d : Option Addr} (hz : L2N.Zn cls d oe) (hf : ∃ vs, oe.data = .fields vs) : Hot1 (A.mark (some (.ref a))) (a, oe) := by
  obtain ⟨vs, h⟩ := hf
  exact ⟨rfl, vs, h, hz.2.2 vs h⟩
theorem roomH_mark {k : Nat} {A : Around} {v : Option Value} (r : Room (k + 1) A) : RoomH 1 (A.mark v) := by
  have h1 := r.dp
  have h2 := r.un
  exact ⟨by show A.depth + 3 * 1 + 5 < recursionLimit; omega, by show A.units + 16 * 1 + 200 < cLine; omega⟩
theorem rows_dp {K : PySem.W.Frag} {H : Hp} : ∀ {ps : List Addr} {fs : List (List V)}, TupsAt H ps fs → FlatF fs → DpAll K H (ps.map V.ref) (fs.map fun xs => PyData.tuple (xs.map vD))
  | [], [], _, _ => .nil
  | [], f :: F, h, _ => by have := h.1; simp at this
  | p :: ps, [], h, _ => by have := h.1; simp at this
  | p :: ps, f :: F, h, g => .cons (.tup (SqT.of (h.2 0 p f rfl rfl)) (flats_dp (g f List.mem_cons_self))) (rows_dp ⟨by have := h.1; simpa using this, fun i q r h1 h2 => h.2 (i + 1) q r (by simpa using h1) (by simpa using h2)⟩ fun xs hx => g xs (List.mem_cons_of_mem _ hx))
theorem rows_shaped {fs : List (List V)} (hff : FlatF fs) (hfa : ∀ xs ∈ fs, ∀ z : Str, V.str z ∈ xs → AscZ z) : SeqAt.shaped (.tuple (fs.map fun xs => PyData.tuple (xs.map vD))) = true := by
  refine Lv.shaped (n := 2) (Lv.tuple (n := 1) ?_) (by decide)
  intro d hd
  obtain ⟨xs, hx, rfl⟩ := List.mem_map.mp hd
  refine Lv.tuple (n := 0) ?_
  intro e he
  obtain ⟨v, hv, rfl⟩ := List.mem_map.mp he
  cases hff xs hx v hv with
  | non => exact Lv.none
  | bl b => exact Lv.bl b
  | int i => exact Lv.int i
  | str z => exact Lv.str (hfa xs hx z hv)
theorem noF {α : Prop} (e : false = true) : α := nomatch e
theorem noT {α : Prop} (e : true = false) : α := nomatch e
theorem look1 {f : Str} {v : V} : List.lookup f [(f, v)] = some v := by simp [List.lookup]
section
variable {P : Program} {w : World} {K : PySem.W.Frag} {mg : Str → Option Value} {base : Heap}
abbrev sMade : Stmt := top 60
/-- _law_marks(e), e at slot 6 -/
def tMkA (K : PySem.W.Frag) (CF CM CT CC TE a : Addr) (cls : Value) (d : Option Addr) : L2.TE := fun σ H Q => σ[6]? = some (some (.ref a)) ∧ ∃ (D dd : Addr) (fs : List (Str × V)), cls = .ref D ∧ OneOf K CF CM CT CC TE D ∧ d = some dd ∧ H dd = some (.xd fs) ∧ ∀ H', Same H H' → Q (.bl true) H'
theorem mkA_imp {CF CM CT CC TE a : Addr} {oe : Obj} {cls : Value} {d : Option Addr} {E : L2.St → XK} (hz : L2N.Zn cls d oe) (hf : ∃ vs, oe.data = .fields vs) : ∀ σ H Q, tMkA K CF CM CT CC TE a cls d σ H Q → tCallS (spMk CF CM CT CC TE K (a, oe)) E (tCons (tVar 6) tNil) σ H Q := by
  rintro σ H Q ⟨h6, D, dd, fs, rfl, O, rfl, hd, k⟩
  exact ⟨_, h6, D, dd, fs, rfl, O, hz.zc, hf, hd, k⟩
def spMade (K : PySem.W.Frag) : Sp := fun vs H Q _ => ∃ (way : Int) (a b c : Addr) (ms ts : List Str) (fs : List (List V)), vs = [.int way, .ref a, .ref b, .ref c] ∧ strsT K H a ms ∧ Short ms ∧ ms.length ≤ 20 ∧ (∀ z ∈ ms, AscZ z) ∧ strsT K H b ts ∧ ts.length ≤ 20 ∧ TTAt K H c fs ∧ FlatF fs ∧ fs.length ≤ 30 ∧ SmallI fs ∧
  (∀ xs ∈ fs, ∀ z : Str, V.str z ∈ xs → AscZ z) ∧
  (∀ k i H' p, fault ms ts fs = some (k, i) → Same H H' → H' p = some (.tup [.str (kindZ k), .int (i : Nat)]) → Q (.ref p) H') ∧
  (fault ms ts fs = none → ∀ MS : List Fact, fs = MS.map factV → InN ms MS → ∀ RG, isRing (MS ++ zeros ms) RG → ∀ H' p, Same H H' → H' p = some (.tup [.str "ring"]) → Q (.ref p) H') ∧
  (fault ms ts fs = none → ∀ MS : List Fact, fs = MS.map factV → InN ms MS → (nodes ms).Nodup → ∀ B, Good (ms.length + 1) (EG ms MS) B → ∀ H' p c', Same H H' → H' p = some (.tup [.str "fine", .ref a, .ref b, .ref c']) → TTAt K H' c' fs → Q (.ref p) H')
abbrev nsMd : List Str := ["way", "marks_here", "takes_here", "facts_here", "found", "good", "e"]
theorem scMd : FnScope nsMd ["way", "marks_here", "takes_here", "facts_here"] (defScope sMade) := ⟨rfl, rfl, rfl, by decide +kernel, rfl, by decide +kernel, by decide +kernel⟩
theorem ok_made {f iS fM fR C CC CM CT CF TE D0 : Addr} {fd fdS fdM fdR : FuncData} (F : Fun K "_law_made" "_law_made" sMade f fd) (T : Bi mg) (hve : mg "ValueError" = none) (hsum : mg "sum" = none)
    (FS : FunD K "__init__" "Sheet.__init__" (defArgs sSheet) (defBody sSheet) (defScope sSheet) [.ref D0] [] iS fdS) (GS : FnOk P w K mg base (L2N.CX P w) 5 iS fdS ["self", "marks", "takes", "facts"] (spSheet K C CC (clsOf CM CT CF))) (S : ShT K C)
    (Mc : Mk K C iS) (mS : mg "Sheet" = some (.ref C)) (hD : ∀ H, SqT K H D0 [])
    (FM : Fun K "_law_marks" "_law_marks" sMk fM fdM) (bM : Binds K fdM ["e"] []) (mM : mg "_law_marks" = some (.ref fM)) (FR : Fun K "_law_ring_right" "_law_ring_right" sRR fR fdR) (bR : Binds K fdR ["marks_here", "facts_here", "ring_here"] []) (mR : mg "_law_ring_right" = some (.ref fR))
    (ER : Errs K mg CF CM CT CC TE) (ET : ErT K CM CT CF CC) (oM : OneOf K CF CM CT CC TE CM) (oT : OneOf K CF CM CT CC TE CT) (oF : OneOf K CF CM CT CC TE CF) (oC : OneOf K CF CM CT CC TE CC) :
    FnOk P w K mg base CX0 7 f fd ["way", "marks_here", "takes_here", "facts_here"] (spMade K) := by
  have GM : FnHP P w K mg base CX0 1 fM fdM ["e"] (spMk CF CM CT CC TE K) := ok_mk FM T hve ER
  have GR : FnH P w K mg base CX0 1 fR fdR ["marks_here", "facts_here", "ring_here"] (spRR K) := ok_rr FR T hsum
  obtain ⟨ds3, v3, b3⟩ := FS.binds1 3 0 (by simp) rfl (ps := ["self", "marks", "takes", "facts"]) (fun T kV doc pm an cdv ct us its hl hi => match us, hl, its, hi with | [_, _, _], _, [_], _ => ⟨_, rfl, rfl⟩)
  obtain ⟨ds4, v4, b4⟩ := FS.binds1 4 1 (by simp) rfl (ps := ["self", "marks", "takes", "facts"]) (fun T kV doc pm an cdv ct us its hl hi => match us, hl, its, hi with | [_, _, _, _], _, [_], _ => ⟨_, rfl, rfl⟩)
  obtain ⟨ik, bk⟩ := FS.kbindsD 1 (ps := ["self", "marks", "takes", "facts"]) ["facts", "takes", "marks"] (fun {α} us its ws => match us, ws with | [u], [x, y, z] => [u, z, y, x] | _, _ => []) (by simp)
    (fun {vs ds zs us its ws} h1 h2 h3 => by
      cases h1 with
      | nil => exact .nil
      | cons p q => cases q with
        | cons _ _ => exact .nil
        | nil => cases h3 with
          | nil => exact .nil
          | cons p1 q1 => cases q1 with
            | nil => exact .nil
            | cons p2 q2 => cases q2 with
              | nil => exact .nil
              | cons p3 q3 => cases q3 with
                | nil => exact .cons p (.cons p3 (.cons p2 (.cons p1 .nil)))
                | cons _ _ => exact .nil)
    (fun T kV doc pm an cdv ct us its ws hl hi hw => match us, hl, its, hi, ws, hw with | [_], _, [_], _, [_, _, _], _ => ⟨_, rfl, rfl⟩)
  refine F.ok scMd (fun vs H Q E h => ?_) (fun cdv A outer s H vs Q E hr h => ?_)
  · obtain ⟨_, _, _, _, _, _, _, rfl, _⟩ := h
    rfl
  · obtain ⟨way, a, b, c, ms, ts, fs, rfl, hm, hs, hml, hma, ht, htl, hf, hff, hfl, hfi, hfa, kF, kR, kQ⟩ := h
    refine ⟨_, pss_cons (ps_asg (pe_tup (pa_cons pe_non (pa_cons pe_bl pa_nil))) (pg_tup rfl (pgs_cons (pg_name (i := 4) scMd.nd rfl (.inl rfl)) (pgs_cons (pg_name (i := 5) scMd.nd rfl (.inl rfl)) pgs_nil))))
      (pss_cons (ps_try_manyAs (i := 6) (n := "e") rfl rfl scMd.nd rfl rfl takes_noN (fun W pn xe tkW po =>
          pss_cons (ps_if (PW.pt (pw_and (pt_cmpR op_eq (pv 0) pe_int (nomark _)) (pw_and1 (pt_cmpR (op_eqDK (K := K) rfl hr.units) (pv 3) (pe_tup pa_nil) (nomark _)))))
              (pss_one (ps_set (i := 4) scMd.nd rfl (.inl rfl) (pe_makeS (Es := WE W) Mc GS hr rfl mS b3 v3 (fun σ => L2N.passAt tkW σ) (pa_cons (pv 1) (pa_cons (pv 2) pa_nil)))))
              (pss_one (ps_if (pt_cmpR op_eq (pv 0) pe_int (nomark _))
                (pss_one (ps_set (i := 4) scMd.nd rfl (.inl rfl) (pe_makeS (Es := WE W) Mc GS hr rfl mS b4 v4 (fun σ => L2N.passAt tkW σ) (pa_cons (pv 1) (pa_cons (pv 2) (pa_cons (pv 3) pa_nil))))))
                (pss_one (ps_set (i := 4) scMd.nd rfl (.inl rfl) (pe_makeKS (Es := WE W) Mc GS hr rfl mS bk (fun σ => L2N.passAt tkW σ) (pk_cons (pv 3) (pk_cons (pv 2) (pk_cons (pv 1) pk_nil)))))))))
            (pss_one (ps_set (i := 4) scMd.nd rfl (.inl rfl) (pe_tup (pa_cons pe_str (pa_cons (pe_fldK (K := K) (pv 4) rfl rfl) (pa_cons (pe_fldK (K := K) (pv 4) rfl rfl) (pa_cons (pe_fldK (K := K) (pv 4) rfl rfl) pa_nil))))))))
          (HdsAs.cons ⟨rfl, rfl, .inl ER.mM⟩ (fun a oe cls d pn hz hf => pss_one (ps_parK (i := 4) (j := 5) ⟨(a, oe), hot_of hz hf, List.mem_cons_self⟩ scMd.nd rfl rfl (by decide) rfl rfl
              (pa_cons (pe_tup (pa_cons pe_str (pa_cons (pe_xf ET.xm ET.im hz.zc hf (pv 6)) pa_nil))) (pa_cons (pe_imp (pe_callHP (E := fun _ _ _ _ => False) GM (roomH_mark hr) (hot_of hz hf) List.mem_cons_self rfl mM FM.kp bM pass0S (pa_cons (pv 6) pa_nil)) (mkA_imp hz hf)) pa_nil)) rfl))
          (HdsAs.cons ⟨rfl, rfl, .inl ER.mT⟩ (fun a oe cls d pn hz hf => pss_one (ps_parK (i := 4) (j := 5) ⟨(a, oe), hot_of hz hf, List.mem_cons_self⟩ scMd.nd rfl rfl (by decide) rfl rfl
              (pa_cons (pe_tup (pa_cons pe_str (pa_cons (pe_xf ET.xt ET.it hz.zc hf (pv 6)) pa_nil))) (pa_cons (pe_imp (pe_callHP (E := fun _ _ _ _ => False) GM (roomH_mark hr) (hot_of hz hf) List.mem_cons_self rfl mM FM.kp bM pass0S (pa_cons (pv 6) pa_nil)) (mkA_imp hz hf)) pa_nil)) rfl))
          (HdsAs.cons ⟨rfl, rfl, .inl ER.mF⟩ (fun a oe cls d pn hz hf => pss_one (ps_parK (i := 4) (j := 5) ⟨(a, oe), hot_of hz hf, List.mem_cons_self⟩ scMd.nd rfl rfl (by decide) rfl rfl
              (pa_cons (pe_tup (pa_cons pe_str (pa_cons (pe_xf ET.xf ET.jf hz.zc hf (pv 6)) pa_nil))) (pa_cons (pe_imp (pe_callHP (E := fun _ _ _ _ => False) GM (roomH_mark hr) (hot_of hz hf) List.mem_cons_self rfl mM FM.kp bM pass0S (pa_cons (pv 6) pa_nil)) (mkA_imp hz hf)) pa_nil)) rfl))
          (HdsAs.cons ⟨rfl, rfl, .inl ER.mC⟩ (fun a oe cls d pn hz hf => pss_one (ps_parK (i := 4) (j := 5) ⟨(a, oe), hot_of hz hf, List.mem_cons_self⟩ scMd.nd rfl rfl (by decide) rfl rfl
              (pa_cons (pe_tup (pa_cons pe_str pa_nil)) (pa_cons (pe_and (pe_imp (pe_callHP (E := fun _ _ _ _ => False) GM (roomH_mark hr) (hot_of hz hf) List.mem_cons_self rfl mM FM.kp bM pass0S (pa_cons (pv 6) pa_nil)) (mkA_imp hz hf))
                (pe_one (pe_callH (E := fun _ _ _ _ => False) GR (roomH_mark hr) ⟨(a, oe), hot_of hz hf, List.mem_cons_self⟩ rfl mR FR.kp bR pass0S (pa_cons (pv 1) (pa_cons (pv 3) (pa_cons (pe_xf ET.xc ET.rc hz.zc hf (pv 6)) pa_nil)))))) pa_nil)) rfl))
          HdsAs.nil)))))
      (pss_one (ps_ret (pe_ifExp (pt_val (pv 5)) (pv 4) pe_str)))), ?_⟩
    refine ⟨by show 2 ≤ sizeLine; decide, fun q0 hq0 => ?_⟩
    have s0 : Same H (upd H q0 (.tup [.non, .bl true])) := Same.new hq0
    refine ⟨q0, _, rfl, tup_at, rfl, ?_⟩
    generalize upd H q0 (.tup [.non, .bl true]) = H0 at s0
    refine ⟨_, _, rfl, _, _, rfl, rfl, ?_⟩
    have hm0 := Same.tup (K := K) s0 hm
    have ht0 := Same.tup (K := K) s0 ht
    have hf0 := hf.same s0
    dsimp only [gName]
    show tSeq _ _ _ _ _
    refine seq_gen (fun σ' H' => ∃ v, σ' = [some (.int way), some (.ref a), some (.ref b), some (.ref c), some v, some (.bl true), none] ∧ Q v H') (fun N hN => ?_) ?_
    · dsimp only []
      generalize hW : wManyAs _ _ _ _ _ = W
      -- what the clauses ask
      have eW : ∀ k i H' d, fault ms ts fs = some (k, i) → Same H0 H' → H' d = some (.xd [("index", .int (i : Nat))]) → W (.ref (clsOf CM CT CF k)) (some d) [some (.int way), some (.ref a), some (.ref b), some (.ref c), some .non, some (.bl true), none] H' := by
        intro k i H' d e sH hd
        subst hW
        have fin : ∀ (q : Addr) (H2 H3 : Hp), Same H' H2 → H2 q = some (.tup [.str (kindZ k), .int (i : Nat)]) → Same H2 H3 → Q (.ref q) H3 := fun q H2 H3 s2 h2 s3 => kF k i H3 q e (((s0.trans sH).trans s2).trans s3) (s3 _ _ h2)
        match k, e, fin with
        | 0, e, fin =>
          refine ⟨true, ET.mm, fun _ a0 ha0 => ?_, noT⟩
          refine ⟨_, rfl, rfl, rfl, d, _, _, rfl, hd, look1, by show 2 ≤ sizeLine; decide, fun q hq => ?_⟩
          have s2 : Same H' (upd H' q (.tup [.str "marks", .int (i : Nat)])) := Same.new hq
          exact ⟨rfl, CM, d, _, rfl, oM, rfl, s2 _ _ hd, fun H3 s3 => ⟨_, _, rfl, hN _ _ ⟨_, rfl, fin q _ H3 s2 upd_same s3⟩⟩⟩
        | 1, e, fin =>
          refine ⟨false, ET.tm, noF, fun _ => ⟨true, ET.tt, fun _ a0 ha0 => ?_, noT⟩⟩
          refine ⟨_, rfl, rfl, rfl, d, _, _, rfl, hd, look1, by show 2 ≤ sizeLine; decide, fun q hq => ?_⟩
          have s2 : Same H' (upd H' q (.tup [.str "takes", .int (i : Nat)])) := Same.new hq
          exact ⟨rfl, CT, d, _, rfl, oT, rfl, s2 _ _ hd, fun H3 s3 => ⟨_, _, rfl, hN _ _ ⟨_, rfl, fin q _ H3 s2 upd_same s3⟩⟩⟩
        | k + 2, e, fin =>
          refine ⟨false, ET.fm, noF, fun _ => ⟨false, ET.ft, noF, fun _ => ⟨true, ET.ff, fun _ a0 ha0 => ?_, noT⟩⟩⟩
          refine ⟨_, rfl, rfl, rfl, d, _, _, rfl, hd, look1, by show 2 ≤ sizeLine; decide, fun q hq => ?_⟩
          have s2 : Same H' (upd H' q (.tup [.str "fact", .int (i : Nat)])) := Same.new hq
          exact ⟨rfl, CF, d, _, rfl, oF, rfl, s2 _ _ hd, fun H3 s3 => ⟨_, _, rfl, hN _ _ ⟨_, rfl, fin q _ H3 s2 upd_same s3⟩⟩⟩
      have rW : fault ms ts fs = none → ∀ MS : List Fact, fs = MS.map factV → InN ms MS → ∀ H' d rp RG, Same H0 H' → H' d = some (.xd [("ring", .ref rp)]) → TTAt K H' rp (RG.map factV) → isRing (MS ++ zeros ms) RG →
          W (.ref CC) (some d) [some (.int way), some (.ref a), some (.ref b), some (.ref c), some .non, some (.bl true), none] H' := by
        intro hno MS eMS hIn H' d rp RG sH hd hR hring
        subst hW
        refine ⟨false, ET.cm, noF, fun _ => ⟨false, ET.ct, noF, fun _ => ⟨false, ET.cf, noF, fun _ => ⟨true, ET.cc, fun _ a0 ha0 => ?_, noT⟩⟩⟩⟩
        refine ⟨by show 1 ≤ sizeLine; decide, fun q hq => ?_⟩
        have s2 : Same H' (upd H' q (.tup [.str "ring"])) := Same.new hq
        refine ⟨rfl, CC, d, _, rfl, oC, rfl, s2 _ _ hd, fun H3 s3 => ⟨_, rfl, iteT ?_⟩⟩
        have s4 := (sH.trans s2).trans s3
        refine ⟨_, rfl, _, rfl, _, rfl, rfl, rfl, d, _, _, rfl, s3 _ _ (s2 _ _ hd), look1, ?_⟩
        refine ⟨a, c, rp, ms, MS, RG, rfl, Same.tup s4 hm0, hml, hma, by rw [← eMS]; exact hf0.same s4, by rw [eMS, List.length_map] at hfl; exact hfl, hIn, (hR.same s2).same s3, hring, fun H5 s5 => ⟨_, _, rfl, ?_⟩⟩
        exact hN _ _ ⟨_, rfl, kR hno MS eMS hIn RG hring H5 q ((s0.trans s4).trans s5) (s5 _ _ (s3 _ _ upd_same))⟩
      clear hW
      show tSeq _ _ _ _ _
      refine seq_gen (fun σ' H' => ∃ (x dx c' p : Addr) (MS : List Fact) (B : Mat), σ' = [some (.int way), some (.ref a), some (.ref b), some (.ref c), some (.ref x), some (.bl true), none] ∧ H' x = some (.ins C dx (f5 a b c' p)) ∧ Same H0 H' ∧ TTAt K H' c' fs ∧ fault ms ts fs = none ∧ fs = MS.map factV ∧ InN ms MS ∧ (nodes ms).Nodup ∧ Good (ms.length + 1) (EG ms MS) B) (fun N2 hN2 => ?_) ?_
      · have mk : ∀ (H1 : Hp) (c' : Addr), Same H0 H1 → TTAt K H1 c' fs → ∀ x dx, H1 x = none → H1 dx = none → dx ≠ x →
            spSheet K C CC (clsOf CM CT CF) [.ref x, .ref a, .ref b, .ref c'] (upd (upd H1 dx (.own x)) x (.ins C dx [])) (fun v H2 => v = .non ∧ N2 [some (.int way), some (.ref a), some (.ref b), some (.ref c), some (.ref x), some (.bl true), none] H2) (WE W [some (.int way), some (.ref a), some (.ref b), some (.ref c), some .non, some (.bl true), none]) := by
          intro H1 c' s1 hc' x dx h1 h2 h3
          refine sheet_it h1 h2 h3 (Same.tup s1 hm0) hs (by omega) (Same.tup s1 ht0) (by omega) hc' hff (by omega) hfi (Q := fun _ H2 => N2 [some (.int way), some (.ref a), some (.ref b), some (.ref c), some (.ref x), some (.bl true), none] H2)
            (fun k i H' d e s2 hd => eW k i H' d e (s1.trans s2) hd) (fun hno MS eMS hIn H' d rp RG s2 hd hR hring => rW hno MS eMS hIn H' d rp RG (s1.trans s2) hd hR hring) (fun hno MS eMS hIn hNd B hG H' p s2 hx => hN2 _ _ ⟨x, dx, c', p, MS, B, rfl, hx, s1.trans s2, hc'.same s2, hno, eMS, hIn, hNd, hG⟩)
        obtain ⟨ps, hp1, hp2⟩ := hf0
        have hf0' : TTAt K H0 c fs := ⟨ps, hp1, hp2⟩
        refine ⟨_, rfl, rfl, _, rfl, ?_⟩
        by_cases e0 : way = 0
        · refine iteDT (congrArg V.int e0) ?_
          refine ⟨_, rfl, by show 0 ≤ sizeLine; decide, fun e he => ?_⟩
          have s1 : Same H0 (upd H0 e (.tup [])) := Same.new he
          refine ⟨.tuple _, .tuple [], .tup (Same.tup s1 hp1) (rows_dp (hp2.same s1) hff), .tup tup_at .nil, rows_shaped hff hfa, shaped_nilT, _, rfl, ?_⟩
          rw [eqv_nilT]
          by_cases e1 : fs = []
          · have hemp : (fs.map fun xs => PyData.tuple (xs.map vD)).isEmpty = true := by rw [e1]; rfl
            rw [hemp]
            refine iteT ⟨_, rfl, _, rfl, fun x dx h1 h2 h3 => mk _ D0 s1 ⟨[], by exact hD _, by rw [e1]; exact TupsAt.nil⟩ x dx h1 h2 h3⟩
          · have hemp : (fs.map fun xs => PyData.tuple (xs.map vD)).isEmpty = false := by
              cases fs with
              | nil => exact absurd rfl e1
              | cons => rfl
            rw [hemp]
            refine iteF ⟨_, rfl, rfl, _, rfl, iteDT (congrArg V.int e0) ?_⟩
            exact ⟨_, rfl, _, rfl, _, rfl, fun x dx h1 h2 h3 => mk _ c s1 (hf0'.same s1) x dx h1 h2 h3⟩
        · refine iteDF (fun q => e0 (V.int.inj q)) ?_
          refine iteF ⟨_, rfl, rfl, _, rfl, iteDF (fun q => e0 (V.int.inj q)) ?_⟩
          exact ⟨_, rfl, _, rfl, _, rfl, rfl, fun x dx h1 h2 h3 => mk _ c (fun _ _ h => h) hf0' x dx h1 h2 h3⟩
      · rintro _ H' ⟨x, dx, c', p, MS, B, rfl, hx, sH, hc', hno, eMS, hIn, hNd, hG⟩
        refine ⟨_, rfl, x, C, dx, _, _, rfl, hx, S.cl, S.nm, look_m, ?_⟩
        refine ⟨_, rfl, x, C, dx, _, _, rfl, hx, S.cl, S.nt, look_t, ?_⟩
        refine ⟨_, rfl, x, C, dx, _, _, rfl, hx, S.cl, S.nf, look_f, ?_⟩
        refine ⟨by show 4 ≤ sizeLine; decide, fun q hq => ?_⟩
        have sq : Same H' (upd H' q (.tup [.str "fine", .ref a, .ref b, .ref c'])) := Same.new hq
        exact hN _ _ ⟨_, rfl, kQ hno MS eMS hIn hNd B hG _ q c' ((s0.trans sH).trans sq) upd_same (hc'.same sq)⟩
    · rintro _ H' ⟨v, rfl, q⟩
      exact ⟨_, rfl, _, rfl, iteT ⟨_, rfl, q⟩⟩
end
end K1
end
section
set_option maxRecDepth 100000
set_option maxHeartbeats 4000000
namespace K1
open PySem L2 K01
theorem kt_flat {K : PySem.W.Frag} {H : Hp} {n : Nat} {v : V} (h : Flat v) : KT K H n v v := by
  cases h with
  | non => exact .non n
  | bl b => exact .bl n b
  | int i => exact .int n i
  | str z => exact .str n z
theorem kt_row {K : PySem.W.Frag} {H : Hp} {n : Nat} {a b : Addr} {xs : List V} (h1 : SqT K H a xs) (h2 : SqT K H b xs) (hl : xs.length ≤ 500) (hf : ∀ x ∈ xs, Flat x) : KT K H (n + 1) (.ref a) (.ref b) :=
  .tup n h1 h2 rfl hl fun i x y e1 e2 => by
    rw [e1] at e2
    cases e2
    exact kt_flat (hf x (List.mem_of_getElem? e1))
theorem kt_strs {K : PySem.W.Frag} {H : Hp} {n : Nat} {a b : Addr} {ms : List Str} (h1 : strsT K H a ms) (h2 : strsT K H b ms) (hl : ms.length ≤ 500) : KT K H (n + 1) (.ref a) (.ref b) :=
  kt_row h1 h2 (by rw [List.length_map]; exact hl) fun x hx => by
    obtain ⟨z, _, rfl⟩ := List.mem_map.mp hx
    exact .str z
theorem kt_rows {K : PySem.W.Frag} {H : Hp} {n : Nat} {a b : Addr} {fs : List (List V)} (h1 : TTAt K H a fs) (h2 : TTAt K H b fs) (hl : fs.length ≤ 500) (hr : ∀ xs ∈ fs, xs.length ≤ 500) (hf : FlatF fs) : KT K H (n + 2) (.ref a) (.ref b) := by
  obtain ⟨ps, q1, t1⟩ := h1
  obtain ⟨qs, q2, t2⟩ := h2
  refine .tup (n + 1) q1 q2 (by rw [List.length_map, List.length_map, t1.1, t2.1]) (by rw [List.length_map, t1.1]; exact hl) fun i x y e1 e2 => ?_
  obtain ⟨p, hp, rfl⟩ := get_map e1
  obtain ⟨q, hq, rfl⟩ := get_map e2
  obtain ⟨xs, hxs, hpx⟩ := t1.get hp
  obtain ⟨ys, hys, hqy⟩ := t2.get hq
  rw [hxs] at hys
  cases hys
  have hm := List.mem_of_getElem? hxs
  exact kt_row (SqT.of hpx) (SqT.of hqy) (hr xs hm) (hf xs hm)
/-- ('fine', marks, takes, facts) on both sides -/
theorem kt_fine {K : PySem.W.Frag} {H : Hp} {p q a b c a' b' c' : Addr} {ms ts : List Str} {fs : List (List V)} (hp : SqT K H p [.str "fine", .ref a, .ref b, .ref c]) (hq : SqT K H q [.str "fine", .ref a', .ref b', .ref c'])
    (h1 : strsT K H a ms) (h1' : strsT K H a' ms) (h2 : strsT K H b ts) (h2' : strsT K H b' ts) (h3 : TTAt K H c fs) (h3' : TTAt K H c' fs) (l1 : ms.length ≤ 500) (l2 : ts.length ≤ 500) (l3 : fs.length ≤ 500) (hr : ∀ xs ∈ fs, xs.length ≤ 500) (hf : FlatF fs) :
    KT K H 3 (.ref p) (.ref q) := by
  refine .tup 2 hp hq rfl (by show 4 ≤ 500; decide) fun i x y e1 e2 => ?_
  match i, e1, e2 with
  | 0, e1, e2 => cases e1; cases e2; exact .str 2 _
  | 1, e1, e2 => cases e1; cases e2; exact kt_strs h1 h1' l1
  | 2, e1, e2 => cases e1; cases e2; exact kt_strs h2 h2' l2
  | 3, e1, e2 => cases e1; cases e2; exact kt_rows h3 h3' l3 hr hf
  | i + 4, e1, e2 => cases e1
end K1
end
section
set_option maxRecDepth 100000
set_option maxHeartbeats 4000000
namespace K1
open PySem L2 L2H K01
def spLaw (K : PySem.W.Frag) : Sp := fun vs H Q _ => ∃ (a : Addr) (ns : List Int), vs = [.ref a] ∧ SqL K H a (ns.map V.int) ∧ ns.length ≤ 63 ∧ ∀ H', Q (.bl true) H'
theorem factV_inj {F G : List Fact} (h : F.map factV = G.map factV) : F = G := by
  induction F generalizing G with
  | nil => cases G with
    | nil => rfl
    | cons g G => cases h
  | cons f F ih => cases G with
    | nil => cases h
    | cons g G =>
      simp only [List.map_cons, List.cons.injEq] at h
      have e : f = g := by
        obtain ⟨f1, f2, f3⟩ := f
        obtain ⟨g1, g2, g3⟩ := g
        have := h.1
        simp only [factV, List.cons.injEq, V.str.injEq, V.int.injEq, and_true] at this
        obtain ⟨rfl, rfl, rfl⟩ := this
        rfl
      rw [e, ih h.2]
/-- the script's list, beside the pit at p -/
def Scr (K : PySem.W.Frag) (a : Addr) (xs : List V) (p : Addr) (H : Hp) : Prop := SqL K H a xs ∧ (p = a → ∀ H', SqL K H' a xs)
theorem sql_at {K : PySem.W.Frag} {a : Addr} {xs : List V} {H H' : Hp} (h : SqL K H a xs) (e : ∀ o, H a = some o → H' a = some o) : SqL K H' a xs := by
  rcases h with (q | ⟨o, q⟩) | q
  · exact .inl (.inl (e _ q))
  · exact .inl (.inr ⟨o, e _ q⟩)
  · exact .inr q
theorem sql_free {K : PySem.W.Frag} {a : Addr} {xs : List V} {H : Hp} (h : SqL K H a xs) (e : H a = none) (H' : Hp) : SqL K H' a xs := by
  rcases h with (q | ⟨o, q⟩) | q
  · rw [e] at q; cases q
  · rw [e] at q; cases q
  · exact .inr q
theorem Scr.but {K : PySem.W.Frag} {a : Addr} {xs : List V} {p : Addr} {H H' : Hp} (h : Scr K a xs p H) (e : But p H H') : Scr K a xs p H' := by
  refine ⟨?_, h.2⟩
  by_cases q : p = a
  · exact h.2 q H'
  · exact sql_at h.1 fun o ho => e a o (fun z => q z.symm) ho
theorem Scr.new {K : PySem.W.Frag} {a : Addr} {xs : List V} {p : Addr} {H H' : Hp} (h : SqL K H a xs) (e : H p = none) (s : Same H H') : Scr K a xs p H' :=
  ⟨sql_at h fun o ho => s _ _ ho, fun q => by subst q; exact sql_free h e⟩
section
variable {K : PySem.W.Frag}
/-- what _law_made answers -/
def MadeR (K : PySem.W.Frag) (H : Hp) (a b : Addr) (ms ts : List Str) (fs : List (List V)) (u : V) : Prop :=
  (∃ k i p, fault ms ts fs = some (k, i) ∧ u = .ref p ∧ SqT K H p [.str (kindZ k), .int (i : Nat)]) ∨
  (fault ms ts fs = none ∧ ∃ (MS : List Fact) (p c' : Addr), fs = MS.map factV ∧ InN ms MS ∧ negs (ms.length + 1) (closedM (ms.length + 1) (MS.map (eF ms))) = [] ∧ u = .ref p ∧ SqT K H p [.str "fine", .ref a, .ref b, .ref c'] ∧ TTAt K H c' fs) ∨
  (fault ms ts fs = none ∧ ∃ (MS : List Fact) (p : Addr), fs = MS.map factV ∧ InN ms MS ∧ negs (ms.length + 1) (closedM (ms.length + 1) (MS.map (eF ms))) ≠ [] ∧ u = .ref p ∧ SqT K H p [.str "ring"])
/-- what is due -/
def DueR (K : PySem.W.Frag) (H : Hp) (ms ts : List Str) (fs : List (List V)) (v : V) : Prop :=
  (∃ k i p, fault ms ts fs = some (k, i) ∧ v = .ref p ∧ SqT K H p [.str (kindZ k), .int (i : Nat)]) ∨
  (fault ms ts fs = none ∧ ∃ MS : List Fact, fs = MS.map factV ∧ InN ms MS ∧ negs (ms.length + 1) (closedM (ms.length + 1) (MS.map (eF ms))) = [] ∧ v = .non) ∨
  (fault ms ts fs = none ∧ ∃ (MS : List Fact) (p : Addr), fs = MS.map factV ∧ InN ms MS ∧ negs (ms.length + 1) (closedM (ms.length + 1) (MS.map (eF ms))) ≠ [] ∧ v = .ref p ∧ SqT K H p [.str "ring"])
theorem MadeR.same {H H' : Hp} {a b : Addr} {ms ts : List Str} {fs : List (List V)} {u : V} (e : Same H H') (h : MadeR K H a b ms ts fs u) : MadeR K H' a b ms ts fs u := by
  rcases h with ⟨k, i, p, h1, h2, h3⟩ | ⟨h0, MS, p, c', h1, h2, h3, h4, h5, h6⟩ | ⟨h0, MS, p, h1, h2, h3, h4, h5⟩
  · exact .inl ⟨k, i, p, h1, h2, Same.tup e h3⟩
  · exact .inr (.inl ⟨h0, MS, p, c', h1, h2, h3, h4, Same.tup e h5, h6.same e⟩)
  · exact .inr (.inr ⟨h0, MS, p, h1, h2, h3, h4, Same.tup e h5⟩)
theorem DueR.same {H H' : Hp} {ms ts : List Str} {fs : List (List V)} {v : V} (e : Same H H') (h : DueR K H ms ts fs v) : DueR K H' ms ts fs v := by
  rcases h with ⟨k, i, p, h1, h2, h3⟩ | h | ⟨h0, MS, p, h1, h2, h3, h4, h5⟩
  · exact .inl ⟨k, i, p, h1, h2, Same.tup e h3⟩
  · exact .inr (.inl h)
  · exact .inr (.inr ⟨h0, MS, p, h1, h2, h3, h4, Same.tup e h5⟩)
theorem kt_fault {H : Hp} {p q : Addr} {z : Str} {i : Int} (h1 : SqT K H p [.str z, .int i]) (h2 : SqT K H q [.str z, .int i]) : KT K H 3 (.ref p) (.ref q) := by
  refine .tup 2 h1 h2 rfl (by show 2 ≤ 500; decide) fun j x y e1 e2 => ?_
  rw [e1] at e2; cases e2
  match j, e1 with
  | 0, e1 => cases e1; exact .str 2 _
  | 1, e1 => cases e1; exact .int 2 _
  | j + 2, e1 => cases e1
theorem kt_ring {H : Hp} {p q : Addr} {z : Str} (h1 : SqT K H p [.str z]) (h2 : SqT K H q [.str z]) : KT K H 3 (.ref p) (.ref q) := by
  refine .tup 2 h1 h2 rfl (by show 1 ≤ 500; decide) fun j x y e1 e2 => ?_
  rw [e1] at e2; cases e2
  match j, e1 with
  | 0, e1 => cases e1; exact .str 2 _
  | j + 1, e1 => cases e1
theorem Parts.mono {n m : Nat} {ms ts : List Str} {fs : List (List V)} (h : Parts n ms ts fs) (e : n ≤ m) : Parts m ms ts fs :=
  ⟨h.m1, Nat.le_trans h.ml e, h.ma, Nat.le_trans h.tl e, h.ta, by have := h.fl; omega, h.ff, h.fi, h.fr⟩
/-- _law_made of parts -/
theorem made_it {H : Hp} {way : Int} {a b c : Addr} {n : Nat} {ms ts : List Str} {fs : List (List V)} {Q : VK} {E : XK} (ha : strsT K H a ms) (hb : strsT K H b ts) (hc : TTAt K H c fs) (hP : Parts n ms ts fs) (hn : n ≤ 10)
    (k : ∀ u H', Same H H' → MadeR K H' a b ms ts fs u → Q u H') : spMade K [.int way, .ref a, .ref b, .ref c] H Q E := by
  have hml := hP.ml
  have htl := hP.tl
  have hfl := hP.fl
  refine ⟨way, a, b, c, ms, ts, fs, rfl, ha, ⟨by omega, fun z hz => by have := (hP.ma z hz).2; omega⟩, by omega, fun z hz => (hP.ma z hz).1, hb, by omega, hc, hP.ff, by omega, fun xs hx i hi => ?_, fun xs hx z hz => (hP.fi xs hx).2 z hz,
    fun k' i H' p e s h => k _ H' s (.inl ⟨k', i, p, e, rfl, SqT.of h⟩), fun e MS e1 e2 RG hR H' p s h => k _ H' s (.inr (.inr ⟨e, MS, p, e1, e2, ring_negs e2 (marks_ok (fault_none e).1).1 hR, rfl, SqT.of h⟩)),
    fun e MS e1 e2 e3 B hG H' p c' s h hc' => k _ H' s (.inr (.inl ⟨e, MS, p, c', e1, e2, made_negs e2 e3 hG, rfl, SqT.of h, hc'⟩))⟩
  have h1 := (hP.fi xs hx).1 i hi
  by_cases h0 : i.natAbs = 0
  · rw [h0]; decide
  · exact (Nat.log2_lt h0).mpr (Nat.lt_of_le_of_lt h1 (by decide +kernel))
/-- _law_sheet_fault of parts -/
theorem due_it {H : Hp} {a b c : Addr} {n : Nat} {ms ts : List Str} {fs : List (List V)} {Q : VK} {E : XK} (ha : strsT K H a ms) (hb : strsT K H b ts) (hc : TTAt K H c fs) (hP : Parts n ms ts fs) (hn : n ≤ 10)
    (k : ∀ v H', Same H H' → DueR K H' ms ts fs v → Q v H') : spSF K [.ref a, .ref b, .ref c] H Q E := by
  have hml := hP.ml
  have htl := hP.tl
  have hfl := hP.fl
  exact ⟨a, b, c, ms, ts, fs, rfl, ha, ⟨by omega, fun z hz => by have := (hP.ma z hz).2; omega⟩, by omega, fun z hz => (hP.ma z hz).1, hb, by omega, hc, hP.ff, by omega,
    fun k' i H' p e s h => k _ H' s (.inl ⟨k', i, p, e, rfl, SqT.of h⟩), fun e H' MS e1 e2 s => ⟨fun hg => k _ H' s (.inr (.inl ⟨e, MS, e1, e2, hg, rfl⟩)), fun hg p h => k _ H' s (.inr (.inr ⟨e, MS, p, e1, e2, hg, rfl, SqT.of h⟩))⟩⟩
/-- the two agree; where nothing is due the sheet itself is -/
theorem agree {H : Hp} {a b : Addr} {n : Nat} {ms ts : List Str} {fs : List (List V)} {u v : V} (ha : strsT K H a ms) (hb : strsT K H b ts) (hP : Parts n ms ts fs) (hn : n ≤ 10) (M : MadeR K H a b ms ts fs u) (D : DueR K H ms ts fs v) :
    (v ≠ .non ∧ KT K H 3 u v) ∨ (v = .non ∧ ∀ H', Same H H' → ∀ q a' b' c', strsT K H' a' ms → strsT K H' b' ts → TTAt K H' c' fs → SqT K H' q [.str "fine", .ref a', .ref b', .ref c'] → KT K H' 3 u (.ref q)) := by
  have hml := hP.ml
  have htl := hP.tl
  have hfl := hP.fl
  rcases D with ⟨k, i, p, e, rfl, hp⟩ | ⟨e, MS, e1, e2, hg, rfl⟩ | ⟨e, MS, p, e1, e2, hg, rfl, hp⟩
  · refine .inl ⟨fun z => (nomatch z), ?_⟩
    rcases M with ⟨k', i', p', e', rfl, hp'⟩ | ⟨e', _⟩ | ⟨e', _⟩
    · rw [e] at e'; cases e'
      exact kt_fault hp' hp
    · rw [e] at e'; cases e'
    · rw [e] at e'; cases e'
  · refine .inr ⟨rfl, fun H' s q a' b' c' ha' hb' hc' hq => ?_⟩
    rcases M with ⟨k', i', p', e', rfl, hp'⟩ | ⟨_, MS', p', cc, e1', e2', hg', rfl, hp', hcc⟩ | ⟨_, MS', p', e1', e2', hg', rfl, hp'⟩
    · rw [e] at e'; cases e'
    · exact kt_fine (Same.tup s hp') hq (Same.tup s ha) ha' (Same.tup s hb) hb' (hcc.same s) hc' (by omega) (by omega) (by omega) (fun xs hx => by have := hP.fr xs hx; omega) hP.ff
    · rw [e1] at e1'
      rw [factV_inj e1'] at hg
      exact absurd hg hg'
  · refine .inl ⟨fun z => (nomatch z), ?_⟩
    rcases M with ⟨k', i', p', e', rfl, hp'⟩ | ⟨_, MS', p', cc, e1', e2', hg', rfl, hp', hcc⟩ | ⟨_, MS', p', e1', e2', hg', rfl, hp'⟩
    · rw [e] at e'; cases e'
    · rw [e1] at e1'
      rw [factV_inj e1'] at hg
      exact absurd hg' hg
    · exact kt_ring hp' hp
end
section
variable {P : Program} {w : World} {K : PySem.W.Frag} {mg : Str → Option Value} {base : Heap}
abbrev sLaw : Stmt := top 63
abbrev nsLaw : List Str := ["script", "at", "pit", "turn", "far", "marks_here", "takes_here", "facts_here", "way", "due", "trial", "bent", "found"]
theorem scLaw : FnScope nsLaw ["script"] (defScope sLaw) := ⟨rfl, rfl, rfl, by decide +kernel, rfl, by decide +kernel, by decide +kernel⟩
theorem ok_law {f fP fH fD fB fS fM fK : Addr} {fd fdP fdH fdD fdB fdS fdM fdK : FuncData} (F : Fun K "law" "law" sLaw f fd) (T : Bi mg)
    (FP : Fun K "_law_pit" "_law_pit" sPit fP fdP) (bP : Binds K fdP ["script", "at"] []) (mP : mg "_law_pit" = some (.ref fP))
    (FH : Fun K "_law_hoist" "_law_hoist" sHoist fH fdH) (bH : Binds K fdH ["pit", "below"] []) (mH : mg "_law_hoist" = some (.ref fH))
    (FD : Fun K "_law_drawn_sheet" "_law_drawn_sheet" sDS fD fdD) (bD : Binds K fdD ["pit", "many", "most", "far"] []) (mD : mg "_law_drawn_sheet" = some (.ref fD)) (GD : FnOk P w K mg base CX0 3 fD fdD ["pit", "many", "most", "far"] (spDS K))
    (FB : Fun K "_law_bent_sheet" "_law_bent_sheet" sBS fB fdB) (bB : Binds K fdB ["pit", "marks_here", "takes_here", "facts_here"] []) (mB : mg "_law_bent_sheet" = some (.ref fB)) (GB : FnOk P w K mg base CX0 3 fB fdB ["pit", "marks_here", "takes_here", "facts_here"] (spBS K))
    (FS : Fun K "_law_sheet_fault" "_law_sheet_fault" sSF fS fdS) (bS : Binds K fdS ["marks_here", "takes_here", "facts_here"] []) (mS : mg "_law_sheet_fault" = some (.ref fS)) (GS : FnOk P w K mg base CX0 2 fS fdS ["marks_here", "takes_here", "facts_here"] (spSF K))
    (FM : Fun K "_law_made" "_law_made" sMade fM fdM) (bM : Binds K fdM ["way", "marks_here", "takes_here", "facts_here"] []) (mM : mg "_law_made" = some (.ref fM)) (GM : FnOk P w K mg base CX0 7 fM fdM ["way", "marks_here", "takes_here", "facts_here"] (spMade K))
    (FK : Fun K "_law_kin" "_law_kin" sKin fK fdK) (bK : Binds K fdK ["found", "due"] []) (mK : mg "_law_kin" = some (.ref fK)) :
    FnOk P w K mg base CX0 8 f fd ["script"] (spLaw K) := by
  have GP : FnOk P w K mg base CX0 1 fP fdP ["script", "at"] (spPit K) := ok_pit FP T
  have GH : FnOk P w K mg base CX0 1 fH fdH ["pit", "below"] (spHoist K) := ok_hoist FH T
  have GK : FnOk P w K mg base CX0 4 fK fdK ["found", "due"] (spKin K 4) := ok_kin FK T bK mK 4
  refine F.ok scLaw (fun vs H Q E h => ?_) (fun cdv A outer s H vs Q E hr h => ?_)
  · obtain ⟨_, _, rfl, _⟩ := h
    rfl
  · obtain ⟨a, ns, rfl, ha, hl, kQ⟩ := h
    have hr1 : Room 1 _ := hr.mono (by decide)
    have hr2 : Room 2 _ := hr.mono (by decide)
    have hr3 : Room 3 _ := hr.mono (by decide)
    have hr4 : Room 4 _ := hr.mono (by decide)
    refine ⟨_, pss_cons (ps_for PassesOwn.never rfl (pi_range1 (by rfl) T.range (pa_cons (pe_callB (call_max2 rfl) (by rfl) T.max (by decide +kernel) (pa_cons pe_int (pa_cons (pe_callB (call_min2 rfl) (by rfl) T.min (by decide +kernel) (pa_cons pe_int (pa_cons (pe_callB call_len_seq (by rfl) T.len PySem.boot_len (pa_cons (pv 0) pa_nil)) pa_nil))) pa_nil))) pa_nil)) (pg_name (i := 1) scLaw.nd rfl (.inl rfl))
        (pss_cons (ps_set (i := 2) scLaw.nd rfl (.inl rfl) (pe_call GP hr1 rfl mP FP.kp bP .nil pass0 (pa_cons (pv 0) (pa_cons (pv 1) pa_nil))))
        (pss_one (ps_for PassesOwn.never rfl (pi_range1 (by rfl) T.range (pa_cons pe_int pa_nil)) (pg_name (i := 3) scLaw.nd rfl (.inl rfl))
          (pss_cons (ps_set (i := 4) scLaw.nd rfl (.inl rfl) (pe_ix ix_list (pe_lst (pa_cons pe_int (pa_cons (pe_op op_powW pe_int pe_int) pa_nil))) (pe_call GH hr1 rfl mH FH.kp bH .nil pass0 (pa_cons (pv 2) (pa_cons pe_int pa_nil))) (fun _ _ => rfl)))
          (pss_cons (ps_asg (pe_call GD hr3 rfl mD FD.kp bD .nil pass0 (pa_cons (pv 2) (pa_cons pe_int (pa_cons pe_int (pa_cons (pv 4) pa_nil))))) (pg_tup rfl (pgs_cons (pg_name (i := 5) scLaw.nd rfl (.inl rfl)) (pgs_cons (pg_name (i := 6) scLaw.nd rfl (.inl rfl)) (pgs_cons (pg_name (i := 7) scLaw.nd rfl (.inl rfl)) pgs_nil)))))
          (pss_cons (ps_for PassesOwn.never rfl (pi_range1 (by rfl) T.range (pa_cons pe_int pa_nil)) (pg_name (i := 8) scLaw.nd rfl (.inl rfl))
            (pss_cons (ps_set (i := 9) scLaw.nd rfl (.inl rfl) (pe_tup (pa_cons pe_str (pa_cons (pv 5) (pa_cons (pv 6) (pa_cons (pv 7) pa_nil))))))
            (pss_one (ps_if (pt_not (pt_val (pe_call GK hr4 rfl mK FK.kp bK .nil pass0 (pa_cons (pe_call GM hr rfl mM FM.kp bM .nil pass0 (pa_cons (pv 8) (pa_cons (pv 5) (pa_cons (pv 6) (pa_cons (pv 7) pa_nil))))) (pa_cons (pv 9) pa_nil))))) (pss_one (ps_ret pe_bl)) pss_nil))))
          (pss_one (ps_for PassesOwn.never rfl (pi_range1 (by rfl) T.range (pa_cons pe_int pa_nil)) (pg_name (i := 10) scLaw.nd rfl (.inl rfl))
            (pss_cons (ps_set (i := 11) scLaw.nd rfl (.inl rfl) (pe_call GB hr3 rfl mB FB.kp bB .nil pass0 (pa_cons (pv 2) (pa_cons (pv 5) (pa_cons (pv 6) (pa_cons (pv 7) pa_nil))))))
            (pss_cons (ps_if (pt_cmpR op_eq (pe_call GH hr1 rfl mH FH.kp bH .nil pass0 (pa_cons (pv 2) (pa_cons pe_int pa_nil))) pe_int (nomark _))
                (pss_one (ps_set (i := 11) scLaw.nd rfl (.inl rfl) (pe_call GB hr3 rfl mB FB.kp bB .nil pass0 (pa_cons (pv 2) (pa_cons (pe_ix ix_tup (pv 11) pe_int (fun _ _ => rfl)) (pa_cons (pe_ix ix_tup (pv 11) pe_int (fun _ _ => rfl)) (pa_cons (pe_ix ix_tup (pv 11) pe_int (fun _ _ => rfl)) pa_nil))))))) pss_nil)
            (pss_cons (ps_set (i := 9) scLaw.nd rfl (.inl rfl) (pe_call GS hr2 rfl mS FS.kp bS .nil pass0 (pa_cons (pe_ix ix_tup (pv 11) pe_int (fun _ _ => rfl)) (pa_cons (pe_ix ix_tup (pv 11) pe_int (fun _ _ => rfl)) (pa_cons (pe_ix ix_tup (pv 11) pe_int (fun _ _ => rfl)) pa_nil)))))
            (pss_one (ps_for PassesOwn.never rfl (pi_range1 (by rfl) T.range (pa_cons pe_int pa_nil)) (pg_name (i := 8) scLaw.nd rfl (.inl rfl))
              (pss_cons (ps_set (i := 12) scLaw.nd rfl (.inl rfl) (pe_call GM hr rfl mM FM.kp bM .nil pass0 (pa_cons (pv 8) (pa_cons (pe_ix ix_tup (pv 11) pe_int (fun _ _ => rfl)) (pa_cons (pe_ix ix_tup (pv 11) pe_int (fun _ _ => rfl)) (pa_cons (pe_ix ix_tup (pv 11) pe_int (fun _ _ => rfl)) pa_nil))))))
              (pss_one (ps_if (pt_not (pt_val (pe_call GK hr4 rfl mK FK.kp bK .nil pass0 (pa_cons (pv 12) (pa_cons (pe_ifExp (pt_cmpR op_isN (pv 9) pe_non (nomark _)) (pe_op op_catT (pe_tup (pa_cons pe_str pa_nil)) (pv 11)) (pv 9)) pa_nil))))) (pss_one (ps_ret pe_bl)) pss_nil)))))))))))))))))
      (pss_one (ps_ret (pe_call GK hr4 rfl mK FK.kp bK .nil pass0 (pa_cons (pe_call GM hr rfl mM FM.kp bM .nil pass0 (pa_cons pe_int (pa_cons (pe_tup pa_nil) (pa_cons (pe_tup pa_nil) (pa_cons (pe_tup pa_nil) pa_nil))))) (pa_cons (pe_tup (pa_cons pe_str (pa_cons (pe_tup pa_nil) (pa_cons (pe_tup pa_nil) (pa_cons (pe_tup pa_nil) pa_nil))))) pa_nil))))), ?_⟩
    obtain ⟨m, hm, hm5⟩ : ∃ m : Nat, (if (if (((ns.map V.int).length : Nat) : Int) < 5 then (((ns.map V.int).length : Nat) : Int) else 5) > 1 then (if (((ns.map V.int).length : Nat) : Int) < 5 then (((ns.map V.int).length : Nat) : Int) else 5) else 1) = (m : Int) ∧ m ≤ 5 := by
      by_cases q1 : (((ns.map V.int).length : Nat) : Int) < 5
      · rw [if_pos q1]
        by_cases q2 : (((ns.map V.int).length : Nat) : Int) > 1
        · rw [if_pos q2]; exact ⟨_, rfl, by omega⟩
        · rw [if_neg q2]; exact ⟨1, rfl, by omega⟩
      · rw [if_neg q1]; exact ⟨5, rfl, by omega⟩
    refine ⟨_, rfl, a, _, rfl, .inl ha, _, _, rfl, _, _, rfl, ?_⟩
    rw [hm]
    refine ⟨_, rfl, by omega, by omega, ?_⟩
    rw [Int.toNat_natCast]
    refine for_r0 (n := m) (fun i σ H' => (∃ v1 v2 v3 v4 v5 v6 v7 v8 v9 v10 v11 v12 : Option V, σ = [some (.ref a), v1, v2, v3, v4, v5, v6, v7, v8, v9, v10, v11, v12]) ∧ SqL K H' a (ns.map V.int)) ⟨⟨_, _, _, _, _, _, _, _, _, _, _, _, rfl⟩, ha⟩ ?_ ?_
    · rintro i σ H1 hi ⟨⟨v1, v2, v3, v4, v5, v6, v7, v8, v9, v10, v11, v12, rfl⟩, ha1⟩
      refine ⟨_, rfl, _, rfl, a, ns, i, rfl, ha1, hl, by omega, fun H2 p s2 hp P2 => ?_⟩
      have S2 : Scr K a (ns.map V.int) p H2 := Scr.new ha1 hp s2
      clear s2 hp
      dsimp only [gName]
      refine ⟨_, rfl, by omega, by omega, ?_⟩
      refine for_r0 (n := 3) (fun j σ H' => (∃ w3 w4 w5 w6 w7 w8 w9 w10 w11 w12 : Option V, σ = [some (.ref a), some (.int (i : Nat)), some (.ref p), w3, w4, w5, w6, w7, w8, w9, w10, w11, w12]) ∧ Scr K a (ns.map V.int) p H' ∧ PitAt H' p (403 * j)) ⟨⟨_, _, _, _, _, _, _, _, _, _, rfl⟩, S2, by simpa using P2⟩ ?_ ?_
      · rintro j σ H3 hj ⟨⟨w3, w4, w5, w6, w7, w8, w9, w10, w11, w12, rfl⟩, S3, P3⟩
        dsimp only [gName]
        refine ⟨_, _, rfl, rfl, pow_ok (n := 12) (by decide) (by decide), by show 2 ≤ sizeLine; decide, fun l hl => ?_⟩
        have P4 := P3.same (Same.new (o := .lst [.int 9, .int (10 ^ 12)]) hl)
        have S4 := S3.but (Same.but (Same.new (o := .lst [.int 9, .int (10 ^ 12)]) hl))
        have nl : l ≠ p := P3.ne hl
        refine ⟨_, rfl, p, 2, _, rfl, P4, by omega, by decide, by decide, fun H5 d b5 P5 l5 u5 => ?_⟩
        obtain ⟨far, hat, hf0, hf1⟩ : ∃ far : Int, atI [V.int 9, V.int (10 ^ 12)] d = some (.int far) ∧ 0 ≤ far ∧ far ≤ 10 ^ 12 := by
          have : d = 0 ∨ d = 1 := by omega
          rcases this with rfl | rfl
          · exact ⟨9, at_of (j := 0) rfl rfl, by decide, by decide⟩
          · exact ⟨10 ^ 12, at_of (j := 1) rfl rfl, by decide, by decide⟩
        refine ⟨l, _, _, _, rfl, rfl, SqL.of (b5 _ _ nl upd_same), hat, ?_⟩
        have S5 := S4.but b5
        clear S4 P4 hat b5 l5 u5 nl hl
        refine ⟨_, rfl, _, rfl, p, 4, 12, far, _, rfl, P5, by omega, by decide, by decide, by decide, hf0, hf1, fun H6 q6 a1 b1 c1 ms ts F b6 P6 hq6 ha6 hb6 hc6 ok => ?_⟩
        have S6 := S5.but b6
        clear S5 P5 b6
        refine ⟨q6, _, rfl, SqT.of hq6, rfl, _, _, rfl, _, _, rfl, _, _, rfl, rfl, ?_⟩
        dsimp only [gName]
        have hP := ok.parts
        refine ⟨_, rfl, by omega, by omega, ?_⟩
        refine for_r0 (n := 2) (fun g σ H' => (∃ w8 w9 : Option V, σ = [some (.ref a), some (.int (i : Nat)), some (.ref p), some (.int (j : Nat)), some (.int far), some (.ref a1), some (.ref b1), some (.ref c1), w8, w9, w10, w11, w12]) ∧ Same H6 H') ⟨⟨_, _, rfl⟩, fun _ _ h => h⟩ ?_ ?_
        · rintro g σ H7 hg ⟨⟨w8, w9, rfl⟩, s7⟩
          dsimp only [gName]
          refine ⟨_, rfl, _, rfl, _, rfl, by show 4 ≤ sizeLine; decide, fun q hq => ?_⟩
          have s8 : Same H6 (upd H7 q (.tup [.str "fine", .ref a1, .ref b1, .ref c1])) := s7.trans (Same.new hq)
          have hq8 : SqT K (upd H7 q (.tup [.str "fine", .ref a1, .ref b1, .ref c1])) q [.str "fine", .ref a1, .ref b1, .ref c1] := tup_at
          dsimp only [gName]
          generalize upd H7 q (.tup [.str "fine", .ref a1, .ref b1, .ref c1]) = H8 at s8 hq8
          refine ⟨_, rfl, _, rfl, _, rfl, _, rfl, ?_⟩
          dsimp only [tNil, List.append_nil]
          refine made_it (Same.tup s8 ha6) (Same.tup s8 hb6) (hc6.same s8) hP (by decide) fun u H9 s9 M => ?_
          have s69 := s8.trans s9
          have ku : KT K H9 3 u (.ref q) := by
            rcases agree (Same.tup s69 ha6) (Same.tup s69 hb6) hP (by decide) M (.inr (.inl ⟨ok.fault, F, rfl, FOk.inN ok.fo, ok.ng, rfl⟩)) with ⟨h, _⟩ | ⟨_, h⟩
            · exact absurd rfl h
            · exact h H9 (fun _ _ e => e) q a1 b1 c1 (Same.tup s69 ha6) (Same.tup s69 hb6) (hc6.same s69) (Same.tup s9 hq8)
          refine ⟨_, rfl, _, _, rfl, ku, fun H10 s10 => ⟨_, rfl, iteF ?_⟩⟩
          exact ⟨⟨_, _, rfl⟩, s69.trans s10⟩
        · rintro σ H7 ⟨⟨w8, w9, rfl⟩, s7⟩
          have k0 : KS K H6 p a1 b1 c1 ms ts (F.map factV) (403 * j + 151) H7 := ⟨Same.but s7, (P6.same s7).mono (by omega), Same.tup s7 ha6, Same.tup s7 hb6, hc6.same s7⟩
          refine ⟨_, rfl, by omega, by omega, ?_⟩
          refine for_r0 (n := 12) (fun g σ H' => (∃ w8 w9 w10 w11 w12 : Option V, σ = [some (.ref a), some (.int (i : Nat)), some (.ref p), some (.int (j : Nat)), some (.int far), some (.ref a1), some (.ref b1), some (.ref c1), w8, w9, w10, w11, w12]) ∧ KS K H6 p a1 b1 c1 ms ts (F.map factV) (403 * j + 151 + 21 * g) H') ⟨⟨_, _, _, _, _, rfl⟩, by simpa using k0⟩ ?_ ?_
          · rintro g σ H8 hg ⟨⟨w8, w9, w10, w11, w12, rfl⟩, k8⟩
            dsimp only [gName]
            refine ⟨_, rfl, _, rfl, _, rfl, _, rfl, p, a1, b1, c1, ms, ts, F.map factV, 5, _, rfl, k8.pit, by omega, k8.ha, k8.hb, k8.hc, hP, by decide, fun H9 q9 a9 b9 c9 ms9 ts9 fs9 but9 P9 hq9 ha9 hb9 hc9 hP9 => ?_⟩
            have k9 := k8.step but9 P9
            dsimp only [gName]
            clear k8 but9 k0
            refine seq_gen (fun σ' H' => ∃ (q a' b' c' : Addr) (ms' ts' : List Str) (fs' : List (List V)), σ' = [some (.ref a), some (.int (i : Nat)), some (.ref p), some (.int (j : Nat)), some (.int far), some (.ref a1), some (.ref b1), some (.ref c1), w8, w9, some (.int (g : Nat)), some (.ref q), w12] ∧ SqT K H' q [.ref a', .ref b', .ref c'] ∧
              strsT K H' a' ms' ∧ strsT K H' b' ts' ∧ TTAt K H' c' fs' ∧ Parts 7 ms' ts' fs' ∧ KS K H6 p a1 b1 c1 ms ts (F.map factV) (403 * j + 151 + 21 * g + 21) H') (fun N hN => ?_) ?_
            · refine ⟨_, rfl, p, 3, _, rfl, k9.pit, by omega, by decide, by decide, fun H10 d b10 P10 l10 u10 => ⟨rfl, _, rfl, ?_⟩⟩
              have hq10 := k9.pit.tup (K := K) b10 (SqT.of hq9)
              have ha10 := k9.pit.tup (K := K) b10 ha9
              have hb10 := k9.pit.tup (K := K) b10 hb9
              have hc10 := k9.pit.tt (K := K) b10 hc9
              have k10 := k9.step b10 P10
              by_cases hd : d = 0
              · refine iteDT (congrArg V.int hd) ⟨_, rfl, _, rfl, _, _, _, _, rfl, rfl, hq10, at_of (j := 0) rfl rfl, _, rfl, _, _, _, _, rfl, rfl, hq10, at_of (j := 1) rfl rfl, _, rfl, _, _, _, _, rfl, rfl, hq10, at_of (j := 2) rfl rfl, ?_⟩
                refine ⟨p, a9, b9, c9, ms9, ts9, fs9, 6, _, rfl, k10.pit, by omega, ha10, hb10, hc10, hP9, by decide, fun H11 q11 a11 b11 c11 ms11 ts11 fs11 but11 P11 hq11 ha11 hb11 hc11 hP11 => ?_⟩
                exact hN _ _ ⟨q11, a11, b11, c11, ms11, ts11, fs11, rfl, SqT.of hq11, ha11, hb11, hc11, hP11, k10.step but11 (P11.mono (by omega))⟩
              · exact iteDF (fun e => hd (V.int.inj e)) (hN _ _ ⟨q9, a9, b9, c9, ms9, ts9, fs9, rfl, hq10, ha10, hb10, hc10, hP9.mono (by decide), k10.step But.refl (P10.mono (by omega))⟩)
            · rintro σ' H10 ⟨q, a', b', c', ms', ts', fs', rfl, hq, ha', hb', hc', hP', k10⟩
              refine ⟨_, rfl, _, _, _, _, rfl, rfl, hq, at_of (j := 0) rfl rfl, _, rfl, _, _, _, _, rfl, rfl, hq, at_of (j := 1) rfl rfl, _, rfl, _, _, _, _, rfl, rfl, hq, at_of (j := 2) rfl rfl, ?_⟩
              dsimp only [tNil, List.append_nil]
              refine due_it ha' hb' hc' hP' (by decide) fun v H11 s11 D => ?_
              dsimp only [gName]
              refine ⟨_, rfl, by omega, by omega, ?_⟩
              refine for_r0 (n := 2) (fun h σ H' => (∃ w8 w12 : Option V, σ = [some (.ref a), some (.int (i : Nat)), some (.ref p), some (.int (j : Nat)), some (.int far), some (.ref a1), some (.ref b1), some (.ref c1), w8, some v, some (.int (g : Nat)), some (.ref q), w12]) ∧ Same H11 H') ⟨⟨_, _, rfl⟩, fun _ _ h => h⟩ ?_ ?_
              · rintro h σ H12 hh ⟨⟨w8, w12, rfl⟩, s12⟩
                have s10 := s11.trans s12
                have hq12 := Same.tup s10 hq
                dsimp only [gName]
                refine ⟨_, rfl, _, rfl, _, _, _, _, rfl, rfl, hq12, at_of (j := 0) rfl rfl, _, rfl, _, _, _, _, rfl, rfl, hq12, at_of (j := 1) rfl rfl, _, rfl, _, _, _, _, rfl, rfl, hq12, at_of (j := 2) rfl rfl, ?_⟩
                dsimp only [tNil, List.append_nil]
                refine made_it (Same.tup s10 ha') (Same.tup s10 hb') (hc'.same s10) hP' (by decide) fun u H13 s13 M => ?_
                have s1013 := s10.trans s13
                dsimp only [gName]
                refine ⟨_, rfl, _, rfl, rfl, _, rfl, ?_⟩
                rcases agree (Same.tup s1013 ha') (Same.tup s1013 hb') hP' (by decide) M (D.same (s12.trans s13)) with ⟨hv, ku⟩ | ⟨hv, ku⟩
                · refine iteDF hv ⟨_, rfl, _, _, rfl, ku, fun H14 s14 => ⟨_, rfl, iteF ?_⟩⟩
                  exact ⟨⟨_, _, rfl⟩, (s12.trans s13).trans s14⟩
                · refine iteDT hv ⟨by show 1 ≤ sizeLine; decide, fun t0 ht0 => ⟨_, rfl, ?_⟩⟩
                  have s14 : Same H13 (upd H13 t0 (.tup [.str "fine"])) := Same.new ht0
                  refine catT_it tup_at (Same.tup s14 (Same.tup s13 hq12)) (by simp) (by show 1 + 3 ≤ sizeLine; decide) fun t1 H15 s15 ht1 => ?_
                  have s1315 := s14.trans s15
                  refine ⟨_, _, rfl, ku H15 s1315 t1 a' b' c' (Same.tup (s1013.trans s1315) ha') (Same.tup (s1013.trans s1315) hb') (hc'.same (s1013.trans s1315)) ht1, fun H16 s16 => ⟨_, rfl, iteF ?_⟩⟩
                  exact ⟨⟨_, _, rfl⟩, ((s12.trans s13).trans s1315).trans s16⟩
              · rintro σ H12 ⟨⟨w8, w12, rfl⟩, s12⟩
                refine ⟨⟨_, _, _, _, _, rfl⟩, ?_⟩
                have k12 := k10.same (s11.trans s12)
                have e : (403 * j + 151 + 21 * g + 21 : Int) = 403 * j + 151 + 21 * ((g + 1 : Nat) : Int) := by omega
                rw [e] at k12
                exact k12
          · rintro σ H8 ⟨⟨w8, w9, w10, w11, w12, rfl⟩, k8⟩
            exact ⟨⟨_, _, _, _, _, _, _, _, _, _, rfl⟩, S6.but k8.but, k8.pit.mono (by omega)⟩
      · rintro σ H3 ⟨⟨w3, w4, w5, w6, w7, w8, w9, w10, w11, w12, rfl⟩, S3, P3⟩
        exact ⟨⟨_, _, _, _, _, _, _, _, _, _, _, _, rfl⟩, S3.1⟩
    · rintro σ H1 ⟨⟨v1, v2, v3, v4, v5, v6, v7, v8, v9, v10, v11, v12, rfl⟩, ha1⟩
      refine ⟨by show 0 ≤ sizeLine; decide, fun e1 he1 => ⟨by show 0 ≤ sizeLine; decide, fun e2 he2 => ⟨by show 0 ≤ sizeLine; decide, fun e3 he3 => ?_⟩⟩⟩
      have t1 : SqT K (upd (upd (upd H1 e1 (.tup [])) e2 (.tup [])) e3 (.tup [])) e1 [] := Same.tup ((Same.new he2).trans (Same.new he3)) tup_at
      have t2 : SqT K (upd (upd (upd H1 e1 (.tup [])) e2 (.tup [])) e3 (.tup [])) e2 [] := Same.tup (Same.new he3) tup_at
      have t3 : SqT K (upd (upd (upd H1 e1 (.tup [])) e2 (.tup [])) e3 (.tup [])) e3 [] := tup_at
      generalize upd (upd (upd H1 e1 (.tup [])) e2 (.tup [])) e3 (.tup []) = H2 at t1 t2 t3 ⊢
      have n0 : (nodes []).Nodup := by simp [nodes]
      refine ⟨0, e1, e2, e3, [], [], [], rfl, t1, ⟨by decide, fun z hz => nomatch hz⟩, by decide, (fun z hz => nomatch hz), t2, by decide, ⟨[], t3, TupsAt.nil⟩, (fun z hz => nomatch hz), by decide, (fun z hz => nomatch hz), (fun z hz => nomatch hz), (fun k i H' p e => nomatch e), fun _ MS e1 e2 RG hR H' p s h => ?_, fun _ MS e1' e2' e3' B hG H' p c' s h hc' => ?_⟩
      · have e0 : MS = [] := by
          cases MS with
          | nil => rfl
          | cons => cases e1
        subst e0
        exact absurd (negs_nil 0) (ring_negs (ms := []) e2 n0 hR)
      · refine ⟨by show 0 ≤ sizeLine; decide, fun e4 he4 => ⟨by show 0 ≤ sizeLine; decide, fun e5 he5 => ⟨by show 0 ≤ sizeLine; decide, fun e6 he6 => ⟨by show 4 ≤ sizeLine; decide, fun q hq => ?_⟩⟩⟩⟩
        have s4 := (((Same.new (o := .tup []) he4).trans (Same.new (o := .tup []) he5)).trans (Same.new (o := .tup []) he6)).trans (Same.new (o := .tup [.str "fine", .ref e4, .ref e5, .ref e6]) hq)
        have t4 : SqT K (upd (upd (upd (upd H' e4 (.tup [])) e5 (.tup [])) e6 (.tup [])) q (.tup [.str "fine", .ref e4, .ref e5, .ref e6])) e4 [] := Same.tup (((Same.new he5).trans (Same.new he6)).trans (Same.new hq)) tup_at
        have t5 : SqT K (upd (upd (upd (upd H' e4 (.tup [])) e5 (.tup [])) e6 (.tup [])) q (.tup [.str "fine", .ref e4, .ref e5, .ref e6])) e5 [] := Same.tup ((Same.new he6).trans (Same.new hq)) tup_at
        have t6 : SqT K (upd (upd (upd (upd H' e4 (.tup [])) e5 (.tup [])) e6 (.tup [])) q (.tup [.str "fine", .ref e4, .ref e5, .ref e6])) e6 [] := Same.tup (Same.new hq) tup_at
        exact ⟨_, _, rfl, kt_fine (ms := []) (ts := []) (fs := []) (SqT.of (s4 _ _ h)) tup_at (Same.tup (s.trans s4) t1) t4 (Same.tup (s.trans s4) t2) t5 (hc'.same s4) ⟨[], t6, TupsAt.nil⟩ (by decide) (by decide) (by decide) (fun z hz => nomatch hz) (fun z hz => nomatch hz), fun H'' _ => kQ H''⟩
end
end K1
end
section
set_option maxRecDepth 100000
set_option maxHeartbeats 4000000
namespace PySem
namespace K1X
open PySem.W PySem.Calls PyProof.Rows PySem.HandSPX PySem.Spec
section
variable {M : Model} {P : Program} {w : World} {A : Around} {E : Value → Shared → Prop} {s : Shared} {qual : Str} {scope : Scope} {L fI cc : Addr} {cda : Value}
theorem ldK {m : Str → Option Value} {x : Str} {pos : Pos} {v : Value} {Q : Value → Shared → Prop} (hn : s.heap.Ns L m) (hv : m x = some v) (h : Q v s) (hk : scope.kind = .function) (hl : scope.names.lookup x = some .local)
    (hd : (x == ("__debug__" : Str)) = false) : wpAny M A (eval (.Name x pos) (ksEnv qual scope L fI cda cc)) Q E s := wpAny_Name (wpAny_loadName_local hk hl hn hv h) hd
theorem two_size {a b : Nat} (h1 : a ≤ 5000000) (h2 : b ≤ 5000000) : a + b ≤ sizeLine := by
  rw [sizeLine_eq]; omega
/-- f'a{fld}b', fld an int -/
theorem js_int {e : Value} {i : Int} {t : Tok} {fld a b : Str} {q1 q2 q3 q4 q5 : Pos} {k1 k2 : Nat} {Q : Value → Shared → Prop} (hn : s.heap.Ns L (fun x => ([("self", e), (fld, Value.int i t)] : List (Str × Value)).reverse.lookup x)) (hk : scope.kind = .function) (hl : scope.names.lookup fld = some .local)
    (hd : (fld == ("__debug__" : Str)) = false) (hi : i.natAbs.log2 < 1920) (ha : a.length ≤ 100) (hb : b.length ≤ 100) (h : ∀ y tk tk', Q (.str y tk) { s with toks := tk' }) :
    wpAny (model P w) A (eval (.JoinedStr [.Constant (.str a) k1 q1, .FormattedValue (.Name fld q2) (-1) none q3, .Constant (.str b) k2 q4] q5) (ksEnv qual scope L fI cda cc)) Q E s := by
  have hv : ([("self", e), (fld, Value.int i t)] : List (Str × Value)).reverse.lookup fld = some (.int i t) := by simp [List.lookup]
  have lc := PyProof.Rows.int_text_len_1921 hi
  refine wpAny_JoinedStr ?_
  refine wpAny_Constant_str ⟨a, _, rfl, by rw [strLen_append]; exact two_size (by show 0 ≤ _; omega) (by omega), ?_⟩
  refine wpAny_FormattedValue_plain (ldK hn hv ?_ hk hl hd)
  refine wpAny_formatField_int hi ⟨_, _, rfl, ?_, ?_⟩
  · rw [strLen_append, strLen_append]; exact two_size (by show 0 + a.length ≤ _; omega) (by omega)
  refine wpAny_Constant_str ⟨b, _, rfl, ?_, ?_, h _ _ _⟩
  · rw [strLen_append, strLen_append, strLen_append]; exact two_size (by show 0 + a.length + _ ≤ _; omega) (by omega)
  · rw [strLen_append, strLen_append, strLen_append]; exact two_size (by show 0 + a.length + _ ≤ _; omega) (by omega)
/-- f'a{fld}', fld a ring -/
theorem js_ring {e v : Value} {fld a : Str} {q1 q2 q3 q5 : Pos} {k1 : Nat} {Q : Value → Shared → Prop} (hn : s.heap.Ns L (fun x => ([("self", e), (fld, v)] : List (Str × Value)).reverse.lookup x)) (hk : scope.kind = .function) (hl : scope.names.lookup fld = some .local)
    (hd : (fld == ("__debug__" : Str)) = false) (hi : K1.OkRing P v s.heap) (hu : A.units + 8 < cLine) (ha : a.length ≤ 100) (h : ∀ y tk tk', Q (.str y tk) { s with toks := tk' }) :
    wpAny (model P w) A (eval (.JoinedStr [.Constant (.str a) k1 q1, .FormattedValue (.Name fld q2) (-1) none q3] q5) (ksEnv qual scope L fI cda cc)) Q E s := by
  have hv : ([("self", e), (fld, v)] : List (Str × Value)).reverse.lookup fld = some v := by simp [List.lookup]
  obtain ⟨r, o, items, n, rfl, h1, h2, h3, h4, h5⟩ := hi
  have sz : items.size * (2200 + 2) + 10 ≤ 4624210 := by omega
  refine wpAny_JoinedStr ?_
  refine wpAny_Constant_str ⟨a, _, rfl, by rw [strLen_append]; exact two_size (by show 0 ≤ _; omega) (by omega), ?_⟩
  refine wpAny_FormattedValue_plain (ldK hn hv ?_ hk hl hd)
  refine k1_fmt (h₀ := s.heap) (b := 2200) hu h1 h2 h3 (h5 w) (Nat.le_trans sz (by rw [sizeLine_eq]; decide)) fun m u tk hm => ?_
  refine ⟨m, _, rfl, ?_, ?_, h _ _ _⟩
  · rw [strLen_append, strLen_append]; exact two_size (by show 0 + a.length ≤ _; omega) (by omega)
  · rw [strLen_append, strLen_append]; exact two_size (by show 0 + a.length ≤ _; omega) (by omega)
end
end K1X
end PySem
namespace K1
open PySem PyProof.Rows L2 K01
abbrev prg : Program := PySem.Challenge.pw_unknowntakes_k01_sheets_checked
/-- __init__ of an error class, the i-th statement -/
abbrev sXI (i : Nat) : Stmt := inClass (top i) 0
/-- what the head says of an error class at C, its __init__ at fI: class x, field fld, its def st -/
structure XAt (K : PySem.W.Frag) (st : Stmt) (x fld qual : Str) (C fI : Addr) : Prop where
  g : PySem.W.nsIn K mainGlobals x = some (some (.ref C))
  cls : ∃ nm q N bs sn sub ab col dd k0 k1 k2 k3 k5 T, K.lookup C = some (excClassObj nm q C N bs [.ref T, .type "ValueError", .type "Exception", .type "BaseException", .type "object"] true sn sub ab col dd k0 k1 k2 k3 k5 "ValueError.__new__")
  sa : PySem.W.findIn K (.ref C) "__setattr__" = some (some (.builtin "object.__setattr__"))
  ga : PySem.W.findIn K (.ref C) "__getattribute__" = some (some (.builtin "BaseException.__getattribute__"))
  gg : PySem.W.findIn K (.ref C) "__getattr__" = some none
  noN : PySem.W.findIn K (.ref C) fld = some none
  iC : PySem.W.findIn K (.ref C) "__init__" = some (some (.ref fI))
  tC : PySem.W.typeIn K (.ref fI) = some (.type "function")
  kC : PySem.W.keepIn K (.ref C) = true
  exC : PySem.W.subIn K (.ref C) (.type "BaseException") = some true
  vE : PySem.W.subIn K (.ref C) (.type "ValueError") = some true
  tyC : PySem.W.typeIn K (.ref C) = some (.type "type")
  hdC : PySem.W.hasDictIn K C = true
  se : PySem.W.subIn K (.ref C) (.ref C) = some true
  su : PySem.W.ks_superIn K C C "__init__" = some (some (.builtin "ValueError.__init__"))
  mr : PySem.W.mroIn K C (.ref C) = some true
  sc : PySem.W.nsIn K cStatics "thirdparty.any" = some none
  sp : PySem.W.nsIn K mainGlobals "super" = some none
  fn : ∃ (oc doc pm ct ccl cl : Value) (od an cdd cld : Option Addr) (osl ccs csl : Array (Option Value)) (cda cc : Addr) (vs : Array Value) (file : Str) (tf : Tok),
    K.lookup fI = some ⟨oc, od, .func (PySem.W.ksFn "__init__" qual (defArgs st) (defBody st) (defScope st) .none .none doc pm an (.ref cda) ct cc), osl⟩ ∧ PySem.W.codeIn K (.ref cda) qual = true ∧ K.lookup cda = some ⟨ccl, cdd, .fields vs, ccs⟩ ∧ vs[2]? = some (.str file tf) ∧ ((prg.main.file : Str) == file) = true ∧
      K.lookup cc = some ⟨cl, cld, .cell (some (.ref C)), csl⟩
theorem refsVE_T (T : Addr) : PySem.HandSPX.refsVE [.ref T, .type "ValueError", .type "Exception", .type "BaseException", .type "object"] = true := by rfl
theorem xc_marks {K : PySem.W.Frag} {mg : Str → Option Value} {C fI : Addr} (T : XAt K (sXI 10) "BadMarks" "index" "BadMarks.__init__" C fI) {h0 : Heap} (X0 : K.In h0) (G0 : h0.Ns mainGlobals mg) : PySem.K1X.XC prg K mg "BadMarks" "index" C fI OkInt := by
  obtain ⟨nm, q, N, bs, sn, sub, ab, col, dd, k0, k1, k2, k3, k5, TE, hC⟩ := T.cls
  obtain ⟨oc, doc, pm, ct, ccl, cl, od, an, cdd, cld, osl, ccs, csl, cda, cc, vs, file, tf, ho, hcd, hcode, hvs, hfile, hcell⟩ := T.fn
  refine { gC := PySem.W.mg_of X0 G0 T.g, cls := ⟨nm, q, N, bs, _, sn, sub, ab, col, dd, k0, k1, k2, k3, k5, hC, refsVE_T TE⟩, ga := T.ga, gg := T.gg, noN := T.noN, iC := T.iC, tC := T.tC, kC := T.kC, exC := T.exC, tyC := T.tyC, hdC := T.hdC, te := PySem.W.exm_ref T.exC T.hdC T.tyC T.se, mono := fun u h h' _ z => z, run := ?_ }
  intro w A s R e t0 v X hlim G Bt hx hnx hr hu hok hq
  obtain ⟨i, t, rfl, hi⟩ := hok
  refine PySem.K1X.init_super X hlim G Bt (PySem.W.mg_none_of X0 G0 T.sp) hC (refsVE_T TE) T.sa T.noN T.vE T.su T.mr T.sc ho hcd hcode hvs hfile hcell rfl rfl (by decide +kernel) (by decide +kernel) (fun s' => .of_eq rfl) rfl rfl rfl rfl rfl (by decide +kernel) rfl rfl (by decide +kernel) (fun env => rfl) (fun L => rfl) (fun f L => rfl) (fun L => rfl) ?_ hx hnx hr hq
  intro L B EE s' Q hn hk hb h
  exact PySem.K1X.js_int hn rfl rfl (by decide +kernel) hi (by decide +kernel) (by decide +kernel) h
theorem xc_takes {K : PySem.W.Frag} {mg : Str → Option Value} {C fI : Addr} (T : XAt K (sXI 11) "BadTakes" "index" "BadTakes.__init__" C fI) {h0 : Heap} (X0 : K.In h0) (G0 : h0.Ns mainGlobals mg) : PySem.K1X.XC prg K mg "BadTakes" "index" C fI OkInt := by
  obtain ⟨nm, q, N, bs, sn, sub, ab, col, dd, k0, k1, k2, k3, k5, TE, hC⟩ := T.cls
  obtain ⟨oc, doc, pm, ct, ccl, cl, od, an, cdd, cld, osl, ccs, csl, cda, cc, vs, file, tf, ho, hcd, hcode, hvs, hfile, hcell⟩ := T.fn
  refine { gC := PySem.W.mg_of X0 G0 T.g, cls := ⟨nm, q, N, bs, _, sn, sub, ab, col, dd, k0, k1, k2, k3, k5, hC, refsVE_T TE⟩, ga := T.ga, gg := T.gg, noN := T.noN, iC := T.iC, tC := T.tC, kC := T.kC, exC := T.exC, tyC := T.tyC, hdC := T.hdC, te := PySem.W.exm_ref T.exC T.hdC T.tyC T.se, mono := fun u h h' _ z => z, run := ?_ }
  intro w A s R e t0 v X hlim G Bt hx hnx hr hu hok hq
  obtain ⟨i, t, rfl, hi⟩ := hok
  refine PySem.K1X.init_super X hlim G Bt (PySem.W.mg_none_of X0 G0 T.sp) hC (refsVE_T TE) T.sa T.noN T.vE T.su T.mr T.sc ho hcd hcode hvs hfile hcell rfl rfl (by decide +kernel) (by decide +kernel) (fun s' => .of_eq rfl) rfl rfl rfl rfl rfl (by decide +kernel) rfl rfl (by decide +kernel) (fun env => rfl) (fun L => rfl) (fun f L => rfl) (fun L => rfl) ?_ hx hnx hr hq
  intro L B EE s' Q hn hk hb h
  exact PySem.K1X.js_int hn rfl rfl (by decide +kernel) hi (by decide +kernel) (by decide +kernel) h
theorem xc_fact {K : PySem.W.Frag} {mg : Str → Option Value} {C fI : Addr} (T : XAt K (sXI 12) "BadFact" "index" "BadFact.__init__" C fI) {h0 : Heap} (X0 : K.In h0) (G0 : h0.Ns mainGlobals mg) : PySem.K1X.XC prg K mg "BadFact" "index" C fI OkInt := by
  obtain ⟨nm, q, N, bs, sn, sub, ab, col, dd, k0, k1, k2, k3, k5, TE, hC⟩ := T.cls
  obtain ⟨oc, doc, pm, ct, ccl, cl, od, an, cdd, cld, osl, ccs, csl, cda, cc, vs, file, tf, ho, hcd, hcode, hvs, hfile, hcell⟩ := T.fn
  refine { gC := PySem.W.mg_of X0 G0 T.g, cls := ⟨nm, q, N, bs, _, sn, sub, ab, col, dd, k0, k1, k2, k3, k5, hC, refsVE_T TE⟩, ga := T.ga, gg := T.gg, noN := T.noN, iC := T.iC, tC := T.tC, kC := T.kC, exC := T.exC, tyC := T.tyC, hdC := T.hdC, te := PySem.W.exm_ref T.exC T.hdC T.tyC T.se, mono := fun u h h' _ z => z, run := ?_ }
  intro w A s R e t0 v X hlim G Bt hx hnx hr hu hok hq
  obtain ⟨i, t, rfl, hi⟩ := hok
  refine PySem.K1X.init_super X hlim G Bt (PySem.W.mg_none_of X0 G0 T.sp) hC (refsVE_T TE) T.sa T.noN T.vE T.su T.mr T.sc ho hcd hcode hvs hfile hcell rfl rfl (by decide +kernel) (by decide +kernel) (fun s' => .of_eq rfl) rfl rfl rfl rfl rfl (by decide +kernel) rfl rfl (by decide +kernel) (fun env => rfl) (fun L => rfl) (fun f L => rfl) (fun L => rfl) ?_ hx hnx hr hq
  intro L B EE s' Q hn hk hb h
  exact PySem.K1X.js_int hn rfl rfl (by decide +kernel) hi (by decide +kernel) (by decide +kernel) h
theorem xc_ring {K : PySem.W.Frag} {mg : Str → Option Value} {C fI : Addr} (T : XAt K (sXI 13) "Contradiction" "ring" "Contradiction.__init__" C fI) {h0 : Heap} (X0 : K.In h0) (G0 : h0.Ns mainGlobals mg) : PySem.K1X.XC prg K mg "Contradiction" "ring" C fI (OkRing prg) := by
  obtain ⟨nm, q, N, bs, sn, sub, ab, col, dd, k0, k1, k2, k3, k5, TE, hC⟩ := T.cls
  obtain ⟨oc, doc, pm, ct, ccl, cl, od, an, cdd, cld, osl, ccs, csl, cda, cc, vs, file, tf, ho, hcd, hcode, hvs, hfile, hcell⟩ := T.fn
  refine { gC := PySem.W.mg_of X0 G0 T.g, cls := ⟨nm, q, N, bs, _, sn, sub, ab, col, dd, k0, k1, k2, k3, k5, hC, refsVE_T TE⟩, ga := T.ga, gg := T.gg, noN := T.noN, iC := T.iC, tC := T.tC, kC := T.kC, exC := T.exC, tyC := T.tyC, hdC := T.hdC, te := PySem.W.exm_ref T.exC T.hdC T.tyC T.se, mono := okRing_mono, run := ?_ }
  intro w A s R e t0 v X hlim G Bt hx hnx hr hu hok hq
  refine PySem.K1X.init_super X hlim G Bt (PySem.W.mg_none_of X0 G0 T.sp) hC (refsVE_T TE) T.sa T.noN T.vE T.su T.mr T.sc ho hcd hcode hvs hfile hcell rfl rfl (by decide +kernel) (by decide +kernel) (fun s' => .of_eq rfl) rfl rfl rfl rfl rfl (by decide +kernel) rfl rfl (by decide +kernel) (fun env => rfl) (fun L => rfl) (fun f L => rfl) (fun L => rfl) ?_ hx hnx hr hq
  intro L B EE s' Q hn hk hb h
  exact PySem.K1X.js_ring hn rfl rfl (by decide +kernel) (okRing_mono _ _ _ hk hok) (by omega) (by decide +kernel) h
end K1
end
section
set_option maxRecDepth 100000
set_option maxHeartbeats 4000000
namespace K1
open PySem PyProof.Rows L2 L2H K01
/-- a def of the top -/
structure DefAt (K : PySem.W.Frag) (x : Str) (st : Stmt) (ps : List Str) : Prop where
  ex : ∃ (f : Addr) (fd : FuncData), PySem.W.nsIn K mainGlobals x = some (some (.ref f)) ∧ Fun K x x st f fd ∧ Binds K fd ps []
theorem defAt {K : PySem.W.Frag} {x : Str} {st : Stmt} {ps : List Str} {f : Addr} {oc : Value} {od an : Option Addr} {osl : Array (Option Value)} {kV doc pm cdv ct : Value} (a : PySem.W.nsIn K mainGlobals x = some (some (.ref f)))
    (l : K.lookup f = some ⟨oc, od, .func (PySem.W.fnOf x x (defArgs st) (defBody st) (defScope st) .none kV doc pm an cdv ct), osl⟩) (c : PySem.W.codeIn K cdv x = true) (k : PySem.W.keepIn K (.ref f) = true)
    (b : ∀ (kV doc pm : Value) (an : Option Addr) (cdv ct : Value) (us : List Value), us.length = ps.length → bindArgs (PySem.W.fnOf x x (defArgs st) (defBody st) (defScope st) .none kV doc pm an cdv ct) ⟨us, []⟩ = pure (ps.zip us)) : DefAt K x st ps :=
  ⟨f, _, a, fun_mk l c k, (fun_mk l c k).binds b⟩
/-- the class Sheet -/
structure ShAt (K : PySem.W.Frag) (C iS D0 : Addr) : Prop where
  a : PySem.W.nsIn K mainGlobals "Sheet" = some (some (.ref C))
  makes : PySem.W.makesIn K C = true
  init : PySem.W.findIn K (.ref C) "__init__" = some (some (.ref iS))
  fn : PySem.W.isFn K (.ref iS) = true
  kp : PySem.W.keepIn K (.ref C) = true
  pg : PySem.W.plainGet K C Str.empty = true
  hd : PySem.W.hasDictIn K C = true
  po : PySem.W.plainOver K C = true
  sa : PySem.W.findIn K (.ref C) "__setattr__" = some (some (.builtin "object.__setattr__"))
  nm : PySem.W.findIn K (.ref C) "marks" = some none
  nt : PySem.W.findIn K (.ref C) "takes" = some none
  nf : PySem.W.findIn K (.ref C) "facts" = some none
  nl : PySem.W.findIn K (.ref C) "_limits" = some none
  nb : PySem.W.findIn K (.ref C) "bounds" = some none
  ex : ∃ (oc kV doc pm : Value) (od an : Option Addr) (cdv ct : Value) (osl : Array (Option Value)) (T : Addr) (oT : Obj) (n : Nat) (o0 : Obj) (n0 : Nat),
    K.lookup iS = some ⟨oc, od, .func (PySem.W.fnOf "__init__" "Sheet.__init__" (defArgs sSheet) (defBody sSheet) (defScope sSheet) (.ref T) kV doc pm an cdv ct), osl⟩ ∧ PySem.W.codeIn K cdv "Sheet.__init__" = true ∧ PySem.W.keepIn K (.ref iS) = true ∧
      K.lookup T = some oT ∧ oT.data = .seq #[.ref D0] n ∧ K.lookup D0 = some o0 ∧ o0.cls = .type "tuple" ∧ o0.data = .seq #[] n0
theorem ShAt.dflt {K : PySem.W.Frag} {C iS D0 : Addr} (S : ShAt K C iS D0) : ∀ H, SqT K H D0 [] := fun H => by
  obtain ⟨oc, kV, doc, pm, od, an, cdv, ct, osl, T, oT, n, o0, n0, h1, h2, h3, h4, h5, h6, h7, h8⟩ := S.ex
  exact .inr ⟨o0, #[], n0, h6, h7, h8, Nat.zero_le _, .nil⟩
theorem ShAt.fund {K : PySem.W.Frag} {C iS D0 : Addr} (S : ShAt K C iS D0) : ∃ fd, FunD K "__init__" "Sheet.__init__" (defArgs sSheet) (defBody sSheet) (defScope sSheet) [.ref D0] [] iS fd := by
  obtain ⟨oc, kV, doc, pm, od, an, cdv, ct, osl, T, oT, n, o0, n0, h1, h2, h3, h4, h5, h6, h7, h8⟩ := S.ex
  exact ⟨_, ⟨oc, od, .ref T, kV, doc, pm, an, cdv, ct, osl, rfl, h1, h2, .inr ⟨by simp, T, oT, [.ref D0], n, rfl, h4, h5, .cons rfl .nil⟩, .inl rfl⟩, h3⟩
theorem ShAt.sh {K : PySem.W.Frag} {C iS D0 : Addr} (S : ShAt K C iS D0) : ShT K C := ⟨⟨S.pg, S.hd, S.po, S.sa⟩, S.nm, S.nt, S.nf, S.nl, S.nb⟩
theorem ShAt.maker {K : PySem.W.Frag} {C iS D0 : Addr} (S : ShAt K C iS D0) : Mk K C iS := ⟨S.makes, S.init, S.fn, S.kp⟩
/-- the errors among themselves -/
structure ErrAt (K : PySem.W.Frag) (CM CT CF CC TE : Addr) : Prop where
  mt : PySem.W.subIn K (.ref CM) (.ref CT) = some false
  mf : PySem.W.subIn K (.ref CM) (.ref CF) = some false
  mc : PySem.W.subIn K (.ref CM) (.ref CC) = some false
  tm : PySem.W.subIn K (.ref CT) (.ref CM) = some false
  tf : PySem.W.subIn K (.ref CT) (.ref CF) = some false
  tc : PySem.W.subIn K (.ref CT) (.ref CC) = some false
  fm : PySem.W.subIn K (.ref CF) (.ref CM) = some false
  ft : PySem.W.subIn K (.ref CF) (.ref CT) = some false
  fc : PySem.W.subIn K (.ref CF) (.ref CC) = some false
  cm : PySem.W.subIn K (.ref CC) (.ref CM) = some false
  ct : PySem.W.subIn K (.ref CC) (.ref CT) = some false
  cf : PySem.W.subIn K (.ref CC) (.ref CF) = some false
  me : PySem.W.subIn K (.ref CM) (.ref TE) = some true
  te : PySem.W.subIn K (.ref CT) (.ref TE) = some true
  fe : PySem.W.subIn K (.ref CF) (.ref TE) = some true
  ce : PySem.W.subIn K (.ref CC) (.ref TE) = some true
  eg : PySem.W.nsIn K mainGlobals "TakesError" = some (some (.ref TE))
  ek : PySem.W.keepIn K (.ref TE) = true
  ex : PySem.W.subIn K (.ref TE) (.type "BaseException") = some true
  ed : PySem.W.hasDictIn K TE = true
  et : PySem.W.typeIn K (.ref TE) = some (.type "type")
  hn : PySem.W.specialIn K (.builtin "object.__class__") "__get__" = some (some (.builtin "getset_descriptor.__get__"))
  ht : PySem.W.takesIn K (.builtin "object.__class__") = some true
  ma : PySem.W.findIn K (.ref CM) "__class__" = some (some (.builtin "object.__class__"))
  ta : PySem.W.findIn K (.ref CT) "__class__" = some (some (.builtin "object.__class__"))
  fa : PySem.W.findIn K (.ref CF) "__class__" = some (some (.builtin "object.__class__"))
  ca : PySem.W.findIn K (.ref CC) "__class__" = some (some (.builtin "object.__class__"))
  mo : PySem.W.mroIn K CM (.type "object") = some true
  to_ : PySem.W.mroIn K CT (.type "object") = some true
  fo : PySem.W.mroIn K CF (.type "object") = some true
  co : PySem.W.mroIn K CC (.type "object") = some true
theorem kit_ref {K : PySem.W.Frag} {D C : Addr} {b : Bool} (h1 : PySem.W.subIn K (.ref C) (.type "BaseException") = some true) (hd : PySem.W.hasDictIn K C = true) (ht : PySem.W.typeIn K (.ref C) = some (.type "type")) (h4 : PySem.W.subIn K (.ref D) (.ref C) = some b)
    (hs : PySem.W.subIn K (.ref D) (.ref D) = some true) : PySem.W.kitOne K (.ref D) (.ref C) = some b := by
  have e := PySem.W.exm_ref h1 hd ht h4
  unfold PySem.W.exmOne at e
  rw [if_pos (by rw [h1]; rfl)] at e
  unfold PySem.W.kitOne
  by_cases q : D = C
  · subst q
    rw [hs] at h4
    cases h4
    rw [if_pos (by simp)]
  · rw [if_neg (by simpa using q)]
    exact e
theorem kit_ve {K : PySem.W.Frag} {D : Addr} (h : PySem.W.subIn K (.ref D) (.type "ValueError") = some true) : PySem.W.kitOne K (.ref D) (.type "ValueError") = some true := by
  unfold PySem.W.kitOne
  rw [if_neg (by simp)]
  unfold PySem.W.kitCls
  have : PySem.W.kitMeta "ValueError" = true := by decide +kernel
  simp only [this, if_true]
  exact h
section
variable {K : PySem.W.Frag} {CM CT CF CC TE iM iT iF iC : Addr} (E : ErrAt K CM CT CF CC TE)
  (XM : XAt K (sXI 10) "BadMarks" "index" "BadMarks.__init__" CM iM) (XT : XAt K (sXI 11) "BadTakes" "index" "BadTakes.__init__" CT iT) (XF : XAt K (sXI 12) "BadFact" "index" "BadFact.__init__" CF iF) (XC : XAt K (sXI 13) "Contradiction" "ring" "Contradiction.__init__" CC iC)
include E XM XT XF XC
theorem err_t : ErT K CM CT CF CC where
  mm := PySem.W.exm_ref XM.exC XM.hdC XM.tyC XM.se
  tm := PySem.W.exm_ref XM.exC XM.hdC XM.tyC E.tm
  tt := PySem.W.exm_ref XT.exC XT.hdC XT.tyC XT.se
  fm := PySem.W.exm_ref XM.exC XM.hdC XM.tyC E.fm
  ft := PySem.W.exm_ref XT.exC XT.hdC XT.tyC E.ft
  ff := PySem.W.exm_ref XF.exC XF.hdC XF.tyC XF.se
  cm := PySem.W.exm_ref XM.exC XM.hdC XM.tyC E.cm
  ct := PySem.W.exm_ref XT.exC XT.hdC XT.tyC E.ct
  cf := PySem.W.exm_ref XF.exC XF.hdC XF.tyC E.cf
  cc := PySem.W.exm_ref XC.exC XC.hdC XC.tyC XC.se
  xm := ⟨XM.ga, XM.gg, XM.exC, XM.hdC⟩
  xt := ⟨XT.ga, XT.gg, XT.exC, XT.hdC⟩
  xf := ⟨XF.ga, XF.gg, XF.exC, XF.hdC⟩
  xc := ⟨XC.ga, XC.gg, XC.exC, XC.hdC⟩
  im := XM.noN
  it := XT.noN
  jf := XF.noN
  rc := XC.noN
theorem one_m : OneOf K CF CM CT CC TE CM :=
  ⟨⟨XM.ga, XM.gg, XM.exC, XM.hdC, E.ma, E.hn, E.ht, E.mo⟩, ⟨false, true, false, false, kit_ref XF.exC XF.hdC XF.tyC E.mf XM.se, kit_ref XM.exC XM.hdC XM.tyC XM.se XM.se, kit_ref XT.exC XT.hdC XT.tyC E.mt XM.se, kit_ref XC.exC XC.hdC XC.tyC E.mc XM.se, rfl⟩, kit_ref E.ex E.ed E.et E.me XM.se, kit_ve XM.vE⟩
theorem one_t : OneOf K CF CM CT CC TE CT :=
  ⟨⟨XT.ga, XT.gg, XT.exC, XT.hdC, E.ta, E.hn, E.ht, E.to_⟩, ⟨false, false, true, false, kit_ref XF.exC XF.hdC XF.tyC E.tf XT.se, kit_ref XM.exC XM.hdC XM.tyC E.tm XT.se, kit_ref XT.exC XT.hdC XT.tyC XT.se XT.se, kit_ref XC.exC XC.hdC XC.tyC E.tc XT.se, rfl⟩, kit_ref E.ex E.ed E.et E.te XT.se, kit_ve XT.vE⟩
theorem one_f : OneOf K CF CM CT CC TE CF :=
  ⟨⟨XF.ga, XF.gg, XF.exC, XF.hdC, E.fa, E.hn, E.ht, E.fo⟩, ⟨true, false, false, false, kit_ref XF.exC XF.hdC XF.tyC XF.se XF.se, kit_ref XM.exC XM.hdC XM.tyC E.fm XF.se, kit_ref XT.exC XT.hdC XT.tyC E.ft XF.se, kit_ref XC.exC XC.hdC XC.tyC E.fc XF.se, rfl⟩, kit_ref E.ex E.ed E.et E.fe XF.se, kit_ve XF.vE⟩
theorem one_c : OneOf K CF CM CT CC TE CC :=
  ⟨⟨XC.ga, XC.gg, XC.exC, XC.hdC, E.ca, E.hn, E.ht, E.co⟩, ⟨false, false, false, true, kit_ref XF.exC XF.hdC XF.tyC E.cf XC.se, kit_ref XM.exC XM.hdC XM.tyC E.cm XC.se, kit_ref XT.exC XT.hdC XT.tyC E.ct XC.se, kit_ref XC.exC XC.hdC XC.tyC XC.se XC.se, rfl⟩, kit_ref E.ex E.ed E.et E.ce XC.se, kit_ve XC.vE⟩
theorem errs_of {h : Heap} {mg : Str → Option Value} (X : K.In h) (G : h.Ns mainGlobals mg) : Errs K mg CF CM CT CC TE :=
  ⟨PySem.W.mg_of X G XF.g, PySem.W.mg_of X G XM.g, PySem.W.mg_of X G XT.g, PySem.W.mg_of X G XC.g, PySem.W.mg_of X G E.eg, XF.kC, XM.kC, XT.kC, XC.kC, E.ek⟩
end
end K1
end
section
set_option maxRecDepth 100000
set_option maxHeartbeats 4000000
namespace K1
open PySem PyProof.Rows L2 L2H K01
/-- built-in names that the head leaves -/
structure BiAt (K : PySem.W.Frag) : Prop where
  isinstance_ : PySem.W.nsIn K mainGlobals "isinstance" = some none
  len_ : PySem.W.nsIn K mainGlobals "len" = some none
  range_ : PySem.W.nsIn K mainGlobals "range" = some none
  enumerate_ : PySem.W.nsIn K mainGlobals "enumerate" = some none
  zip_ : PySem.W.nsIn K mainGlobals "zip" = some none
  tuple_ : PySem.W.nsIn K mainGlobals "tuple" = some none
  list_ : PySem.W.nsIn K mainGlobals "list" = some none
  int_ : PySem.W.nsIn K mainGlobals "int" = some none
  str_ : PySem.W.nsIn K mainGlobals "str" = some none
  bool_ : PySem.W.nsIn K mainGlobals "bool" = some none
  abs_ : PySem.W.nsIn K mainGlobals "abs" = some none
  max_ : PySem.W.nsIn K mainGlobals "max" = some none
  min_ : PySem.W.nsIn K mainGlobals "min" = some none
  sum_ : PySem.W.nsIn K mainGlobals "sum" = some none
  super_ : PySem.W.nsIn K mainGlobals "super" = some none
  ve_ : PySem.W.nsIn K mainGlobals "ValueError" = some none
theorem BiAt.bi {K : PySem.W.Frag} {h : Heap} {mg : Str → Option Value} (B : BiAt K) (X : K.In h) (G : h.Ns mainGlobals mg) : Bi mg :=
  ⟨PySem.W.mg_none_of X G B.isinstance_, PySem.W.mg_none_of X G B.len_, PySem.W.mg_none_of X G B.range_, PySem.W.mg_none_of X G B.enumerate_, PySem.W.mg_none_of X G B.zip_, PySem.W.mg_none_of X G B.tuple_, PySem.W.mg_none_of X G B.list_, PySem.W.mg_none_of X G B.int_, PySem.W.mg_none_of X G B.str_, PySem.W.mg_none_of X G B.bool_, PySem.W.mg_none_of X G B.abs_, PySem.W.mg_none_of X G B.max_, PySem.W.mg_none_of X G B.min_, PySem.W.mg_none_of X G B.sum_, PySem.W.mg_none_of X G B.super_⟩
/-- all defs -/
structure DfAt (K : PySem.W.Frag) : Prop where
  dsFree : DefAt K "free_bounds" sFree ["many"]
  dsBarred : DefAt K "is_barred" sBarred ["bounds", "x", "y", "number"]
  dsKept : DefAt K "is_kept" sKept ["bounds", "x", "y", "number"]
  dsLesser : DefAt K "lesser_row" sLesser ["row", "step", "onward"]
  dsTight : DefAt K "tightened" sTight ["bounds", "x", "y", "number"]
  dsWhole : DefAt K "is_whole" sWhole ["x"]
  dsName : DefAt K "is_name" sName ["x"]
  dsNames : DefAt K "names_of" sNames ["marks"]
  dsSpots : DefAt K "spots_of" sSpots ["marks"]
  dsBadMark : DefAt K "first_bad_mark" sBadMark ["marks"]
  dsBadTake : DefAt K "first_bad_take" sBadTake ["marks", "takes"]
  dsFact : DefAt K "is_fact" sFact ["fact", "names"]
  dsBadFact : DefAt K "first_bad_fact" sBadFact ["marks", "facts"]
  dsCheck : DefAt K "check_parts" sCheck ["marks", "takes", "facts"]
  dsAll : DefAt K "all_facts" sAll ["marks", "facts"]
  dsStraight : DefAt K "is_straight" sStraight ["fact", "ahead"]
  dsChain : DefAt K "chain_of" sChain ["marks", "facts", "bounds", "x", "y"]
  dsBounds : DefAt K "bounds_with" sBounds ["marks", "facts", "bounds", "more"]
  dsPit : DefAt K "_law_pit" sPit ["script", "at"]
  dsHoist : DefAt K "_law_hoist" sHoist ["pit", "below"]
  dsKin : DefAt K "_law_kin" sKin ["found", "due"]
  dsCN : DefAt K "_law_call_names" sCN ["pit", "many"]
  dsClosed : DefAt K "_law_closed" sClosed ["many", "facts_here"]
  dsNum : DefAt K "_law_numbered" sNum ["marks_here", "facts_here"]
  dsDF : DefAt K "_law_drawn_fact" sDF ["pit", "marks_here", "far"]
  dsDS : DefAt K "_law_drawn_sheet" sDS ["pit", "many", "most", "far"]
  dsRR : DefAt K "_law_ring_right" sRR ["marks_here", "facts_here", "ring_here"]
  dsGood : DefAt K "_law_name_good" sGood ["value"]
  dsFGood : DefAt K "_law_fact_good" sFGood ["marks_here", "row"]
  dsSF : DefAt K "_law_sheet_fault" sSF ["marks_here", "takes_here", "facts_here"]
  dsMk : DefAt K "_law_marks" sMk ["e"]
  dsMade : DefAt K "_law_made" sMade ["way", "marks_here", "takes_here", "facts_here"]
  dsBt : DefAt K "_law_bent" sBt ["pit", "some", "things"]
  dsBS : DefAt K "_law_bent_sheet" sBS ["pit", "marks_here", "takes_here", "facts_here"]
theorem law_all {K : PySem.W.Frag} {h : Heap} {mg : Str → Option Value} {w : World} {fa C iS D0 CM CT CF CC TE iM iT iF iC : Addr} {fd : FuncData} (X : K.In h) (G : h.Ns mainGlobals mg) (hfa : mg "law" = some (.ref fa)) (B : BiAt K) (D : DfAt K) (S : ShAt K C iS D0) (E : ErrAt K CM CT CF CC TE)
    (XM : XAt K (sXI 10) "BadMarks" "index" "BadMarks.__init__" CM iM) (XT : XAt K (sXI 11) "BadTakes" "index" "BadTakes.__init__" CT iT) (XF : XAt K (sXI 12) "BadFact" "index" "BadFact.__init__" CF iF) (XC : XAt K (sXI 13) "Contradiction" "ring" "Contradiction.__init__" CC iC)
    (a : PySem.W.nsIn K mainGlobals "law" = some (some (.ref fa))) (F : Fun K "law" "law" sLaw fa fd) :
    (∀ (s : Shared) (u : Value), BindsTo s fd ⟨[u], []⟩ [("script", u)]) ∧ ∀ base : Heap, K.In base → base.Ns mainGlobals mg → FnOk prg w K mg base CX0 8 fa fd ["script"] (spLaw K) := by
  refine ⟨fun s u => ?_, fun base _ _ => ?_⟩
  · obtain ⟨oc, od, kV, doc, pm, an, cdv, ct, osl, rfl, lk, hcd⟩ := F.ex
    exact .of_eq rfl
  have T := B.bi X G
  have hve : mg "ValueError" = none := PySem.W.mg_none_of X G B.ve_
  obtain ⟨fsFree, fdsFree, nsFree, FsFree, bsFree⟩ := D.dsFree.ex
  have msFree := PySem.W.mg_of X G nsFree
  obtain ⟨fsBarred, fdsBarred, nsBarred, FsBarred, bsBarred⟩ := D.dsBarred.ex
  have msBarred := PySem.W.mg_of X G nsBarred
  obtain ⟨fsKept, fdsKept, nsKept, FsKept, bsKept⟩ := D.dsKept.ex
  have msKept := PySem.W.mg_of X G nsKept
  obtain ⟨fsLesser, fdsLesser, nsLesser, FsLesser, bsLesser⟩ := D.dsLesser.ex
  have msLesser := PySem.W.mg_of X G nsLesser
  obtain ⟨fsTight, fdsTight, nsTight, FsTight, bsTight⟩ := D.dsTight.ex
  have msTight := PySem.W.mg_of X G nsTight
  obtain ⟨fsWhole, fdsWhole, nsWhole, FsWhole, bsWhole⟩ := D.dsWhole.ex
  have msWhole := PySem.W.mg_of X G nsWhole
  obtain ⟨fsName, fdsName, nsName, FsName, bsName⟩ := D.dsName.ex
  have msName := PySem.W.mg_of X G nsName
  obtain ⟨fsNames, fdsNames, nsNames, FsNames, bsNames⟩ := D.dsNames.ex
  have msNames := PySem.W.mg_of X G nsNames
  obtain ⟨fsSpots, fdsSpots, nsSpots, FsSpots, bsSpots⟩ := D.dsSpots.ex
  have msSpots := PySem.W.mg_of X G nsSpots
  obtain ⟨fsBadMark, fdsBadMark, nsBadMark, FsBadMark, bsBadMark⟩ := D.dsBadMark.ex
  have msBadMark := PySem.W.mg_of X G nsBadMark
  obtain ⟨fsBadTake, fdsBadTake, nsBadTake, FsBadTake, bsBadTake⟩ := D.dsBadTake.ex
  have msBadTake := PySem.W.mg_of X G nsBadTake
  obtain ⟨fsFact, fdsFact, nsFact, FsFact, bsFact⟩ := D.dsFact.ex
  have msFact := PySem.W.mg_of X G nsFact
  obtain ⟨fsBadFact, fdsBadFact, nsBadFact, FsBadFact, bsBadFact⟩ := D.dsBadFact.ex
  have msBadFact := PySem.W.mg_of X G nsBadFact
  obtain ⟨fsCheck, fdsCheck, nsCheck, FsCheck, bsCheck⟩ := D.dsCheck.ex
  have msCheck := PySem.W.mg_of X G nsCheck
  obtain ⟨fsAll, fdsAll, nsAll, FsAll, bsAll⟩ := D.dsAll.ex
  have msAll := PySem.W.mg_of X G nsAll
  obtain ⟨fsStraight, fdsStraight, nsStraight, FsStraight, bsStraight⟩ := D.dsStraight.ex
  have msStraight := PySem.W.mg_of X G nsStraight
  obtain ⟨fsChain, fdsChain, nsChain, FsChain, bsChain⟩ := D.dsChain.ex
  have msChain := PySem.W.mg_of X G nsChain
  obtain ⟨fsBounds, fdsBounds, nsBounds, FsBounds, bsBounds⟩ := D.dsBounds.ex
  have msBounds := PySem.W.mg_of X G nsBounds
  obtain ⟨fsPit, fdsPit, nsPit, FsPit, bsPit⟩ := D.dsPit.ex
  have msPit := PySem.W.mg_of X G nsPit
  obtain ⟨fsHoist, fdsHoist, nsHoist, FsHoist, bsHoist⟩ := D.dsHoist.ex
  have msHoist := PySem.W.mg_of X G nsHoist
  obtain ⟨fsKin, fdsKin, nsKin, FsKin, bsKin⟩ := D.dsKin.ex
  have msKin := PySem.W.mg_of X G nsKin
  obtain ⟨fsCN, fdsCN, nsCN, FsCN, bsCN⟩ := D.dsCN.ex
  have msCN := PySem.W.mg_of X G nsCN
  obtain ⟨fsClosed, fdsClosed, nsClosed, FsClosed, bsClosed⟩ := D.dsClosed.ex
  have msClosed := PySem.W.mg_of X G nsClosed
  obtain ⟨fsNum, fdsNum, nsNum, FsNum, bsNum⟩ := D.dsNum.ex
  have msNum := PySem.W.mg_of X G nsNum
  obtain ⟨fsDF, fdsDF, nsDF, FsDF, bsDF⟩ := D.dsDF.ex
  have msDF := PySem.W.mg_of X G nsDF
  obtain ⟨fsDS, fdsDS, nsDS, FsDS, bsDS⟩ := D.dsDS.ex
  have msDS := PySem.W.mg_of X G nsDS
  obtain ⟨fsRR, fdsRR, nsRR, FsRR, bsRR⟩ := D.dsRR.ex
  have msRR := PySem.W.mg_of X G nsRR
  obtain ⟨fsGood, fdsGood, nsGood, FsGood, bsGood⟩ := D.dsGood.ex
  have msGood := PySem.W.mg_of X G nsGood
  obtain ⟨fsFGood, fdsFGood, nsFGood, FsFGood, bsFGood⟩ := D.dsFGood.ex
  have msFGood := PySem.W.mg_of X G nsFGood
  obtain ⟨fsSF, fdsSF, nsSF, FsSF, bsSF⟩ := D.dsSF.ex
  have msSF := PySem.W.mg_of X G nsSF
  obtain ⟨fsMk, fdsMk, nsMk, FsMk, bsMk⟩ := D.dsMk.ex
  have msMk := PySem.W.mg_of X G nsMk
  obtain ⟨fsMade, fdsMade, nsMade, FsMade, bsMade⟩ := D.dsMade.ex
  have msMade := PySem.W.mg_of X G nsMade
  obtain ⟨fsBt, fdsBt, nsBt, FsBt, bsBt⟩ := D.dsBt.ex
  have msBt := PySem.W.mg_of X G nsBt
  obtain ⟨fsBS, fdsBS, nsBS, FsBS, bsBS⟩ := D.dsBS.ex
  have msBS := PySem.W.mg_of X G nsBS
  have xM := xc_marks XM X G
  have xT := xc_takes XT X G
  have xF := xc_fact XF X G
  have xC := xc_ring XC X G
  have G1 : FnOk prg w K mg base (L2N.CX prg w) 4 fsCheck fdsCheck ["marks", "takes", "facts"] (spCheck K (clsOf CM CT CF)) :=
    ok_check FsCheck T FsBadMark bsBadMark msBadMark FsBadTake bsBadTake msBadTake FsBadFact bsBadFact msBadFact FsName bsName msName FsFact bsFact msFact FsNames bsNames msNames FsWhole bsWhole msWhole xM xT xF
  have G2 : FnOk prg w K mg base (L2N.CX prg w) 4 fsBounds fdsBounds ["marks", "facts", "bounds", "more"] (spBounds K CC) :=
    ok_bounds FsBounds T FsSpots bsSpots msSpots FsNames bsNames msNames FsAll bsAll msAll FsStraight bsStraight msStraight FsChain bsChain msChain FsBarred bsBarred msBarred FsKept bsKept msKept FsTight bsTight msTight FsLesser bsLesser msLesser xC
  obtain ⟨fdS, FS⟩ := S.fund
  have G3 : FnOk prg w K mg base (L2N.CX prg w) 5 iS fdS ["self", "marks", "takes", "facts"] (spSheet K C CC (clsOf CM CT CF)) := ok_sheet FS T S.sh FsCheck bsCheck msCheck G1 FsBounds bsBounds msBounds G2 FsFree bsFree msFree
  have G4 : FnOk prg w K mg base CX0 7 fsMade fdsMade ["way", "marks_here", "takes_here", "facts_here"] (spMade K) :=
    ok_made FsMade T hve T.sum FS G3 S.sh S.maker (PySem.W.mg_of X G S.a) S.dflt FsMk bsMk msMk FsRR bsRR msRR (errs_of E XM XT XF XC X G) (err_t E XM XT XF XC) (one_m E XM XT XF XC) (one_t E XM XT XF XC) (one_f E XM XT XF XC) (one_c E XM XT XF XC)
  have G5 : FnOk prg w K mg base CX0 3 fsDS fdsDS ["pit", "many", "most", "far"] (spDS K) := ok_ds FsDS T FsHoist bsHoist msHoist FsCN bsCN msCN FsDF bsDF msDF FsNum bsNum msNum FsClosed bsClosed msClosed
  have G6 : FnOk prg w K mg base CX0 3 fsBS fdsBS ["pit", "marks_here", "takes_here", "facts_here"] (spBS K) := ok_bs FsBS T FsHoist bsHoist msHoist FsBt bsBt msBt
  have G7 : FnOk prg w K mg base CX0 2 fsSF fdsSF ["marks_here", "takes_here", "facts_here"] (spSF K) := ok_sf FsSF T FsGood bsGood msGood FsFGood bsFGood msFGood FsNum bsNum msNum FsClosed bsClosed msClosed
  exact ok_law F T FsPit bsPit msPit FsHoist bsHoist msHoist FsDS bsDS msDS G5 FsBS bsBS msBS G6 FsSF bsSF msSF G7 FsMade bsMade msMade G4 FsKin bsKin msKin
theorem walk {l : PySem.W.OpenLaw} {q : Program} {loose : List Str} {XP : (Str → Option Value) → Heap → Prop} {YP : World → Heap → Prop} {d : DefRec} {K : Params → PySem.W.Frag} (hn : l.most = some 63) (hdf : d.params.defaults = [])
    (hY : ∀ (w : World) (h : Heap), YP w h → (K w.params).In h)
    (F : ∀ (w : World) (mg : Str → Option Value) (fa : Addr) (h : Heap), (K w.params).In h → h.Ns mainGlobals mg → mg d.name = some (.ref fa) →
      ∃ fd : FuncData, (∀ (s : Shared) (u : Value), BindsTo s fd ⟨[u], []⟩ [("script", u)]) ∧ ∀ base : Heap, (K w.params).In base → base.Ns mainGlobals mg → FnOk l.prog w (K w.params) mg base CX0 8 fa fd ["script"] (spLaw (K w.params))) :
    PySem.W.WalkO q loose XP YP l.row.toRowW d [] (fun f vs => PySem.call f vs) :=
  L2.walk_of (n := 63) (k := 8) (x := "script") (CX := fun _ => CX0) (sp := fun w => spLaw (K w.params)) hn (by decide) hdf ⟨rfl, by decide, by decide⟩ hY F (fun _ _ a ns hl _ hS => ⟨a, ns, rfl, hS, hl, fun _ => rfl⟩) fun _ _ _ _ _ z => z
end K1
end
section
set_option maxRecDepth 100000
set_option maxHeartbeats 4000000
namespace K1
open PySem PyProof.Rows L2 L2H K01
theorem bd_sFree (kV doc pm : Value) (an : Option Addr) (cdv ct : Value) (us : List Value) (hl : us.length = (["many"] : List Str).length) : bindArgs (PySem.W.fnOf "free_bounds" "free_bounds" (defArgs sFree) (defBody sFree) (defScope sFree) .none kV doc pm an cdv ct) ⟨us, []⟩ = pure ((["many"] : List Str).zip us) := match us, hl with | [_], _ => rfl
theorem bd_sBarred (kV doc pm : Value) (an : Option Addr) (cdv ct : Value) (us : List Value) (hl : us.length = (["bounds", "x", "y", "number"] : List Str).length) : bindArgs (PySem.W.fnOf "is_barred" "is_barred" (defArgs sBarred) (defBody sBarred) (defScope sBarred) .none kV doc pm an cdv ct) ⟨us, []⟩ = pure ((["bounds", "x", "y", "number"] : List Str).zip us) := match us, hl with | [_, _, _, _], _ => rfl
theorem bd_sKept (kV doc pm : Value) (an : Option Addr) (cdv ct : Value) (us : List Value) (hl : us.length = (["bounds", "x", "y", "number"] : List Str).length) : bindArgs (PySem.W.fnOf "is_kept" "is_kept" (defArgs sKept) (defBody sKept) (defScope sKept) .none kV doc pm an cdv ct) ⟨us, []⟩ = pure ((["bounds", "x", "y", "number"] : List Str).zip us) := match us, hl with | [_, _, _, _], _ => rfl
theorem bd_sLesser (kV doc pm : Value) (an : Option Addr) (cdv ct : Value) (us : List Value) (hl : us.length = (["row", "step", "onward"] : List Str).length) : bindArgs (PySem.W.fnOf "lesser_row" "lesser_row" (defArgs sLesser) (defBody sLesser) (defScope sLesser) .none kV doc pm an cdv ct) ⟨us, []⟩ = pure ((["row", "step", "onward"] : List Str).zip us) := match us, hl with | [_, _, _], _ => rfl
theorem bd_sTight (kV doc pm : Value) (an : Option Addr) (cdv ct : Value) (us : List Value) (hl : us.length = (["bounds", "x", "y", "number"] : List Str).length) : bindArgs (PySem.W.fnOf "tightened" "tightened" (defArgs sTight) (defBody sTight) (defScope sTight) .none kV doc pm an cdv ct) ⟨us, []⟩ = pure ((["bounds", "x", "y", "number"] : List Str).zip us) := match us, hl with | [_, _, _, _], _ => rfl
theorem bd_sWhole (kV doc pm : Value) (an : Option Addr) (cdv ct : Value) (us : List Value) (hl : us.length = (["x"] : List Str).length) : bindArgs (PySem.W.fnOf "is_whole" "is_whole" (defArgs sWhole) (defBody sWhole) (defScope sWhole) .none kV doc pm an cdv ct) ⟨us, []⟩ = pure ((["x"] : List Str).zip us) := match us, hl with | [_], _ => rfl
theorem bd_sName (kV doc pm : Value) (an : Option Addr) (cdv ct : Value) (us : List Value) (hl : us.length = (["x"] : List Str).length) : bindArgs (PySem.W.fnOf "is_name" "is_name" (defArgs sName) (defBody sName) (defScope sName) .none kV doc pm an cdv ct) ⟨us, []⟩ = pure ((["x"] : List Str).zip us) := match us, hl with | [_], _ => rfl
theorem bd_sNames (kV doc pm : Value) (an : Option Addr) (cdv ct : Value) (us : List Value) (hl : us.length = (["marks"] : List Str).length) : bindArgs (PySem.W.fnOf "names_of" "names_of" (defArgs sNames) (defBody sNames) (defScope sNames) .none kV doc pm an cdv ct) ⟨us, []⟩ = pure ((["marks"] : List Str).zip us) := match us, hl with | [_], _ => rfl
theorem bd_sSpots (kV doc pm : Value) (an : Option Addr) (cdv ct : Value) (us : List Value) (hl : us.length = (["marks"] : List Str).length) : bindArgs (PySem.W.fnOf "spots_of" "spots_of" (defArgs sSpots) (defBody sSpots) (defScope sSpots) .none kV doc pm an cdv ct) ⟨us, []⟩ = pure ((["marks"] : List Str).zip us) := match us, hl with | [_], _ => rfl
theorem bd_sBadMark (kV doc pm : Value) (an : Option Addr) (cdv ct : Value) (us : List Value) (hl : us.length = (["marks"] : List Str).length) : bindArgs (PySem.W.fnOf "first_bad_mark" "first_bad_mark" (defArgs sBadMark) (defBody sBadMark) (defScope sBadMark) .none kV doc pm an cdv ct) ⟨us, []⟩ = pure ((["marks"] : List Str).zip us) := match us, hl with | [_], _ => rfl
theorem bd_sBadTake (kV doc pm : Value) (an : Option Addr) (cdv ct : Value) (us : List Value) (hl : us.length = (["marks", "takes"] : List Str).length) : bindArgs (PySem.W.fnOf "first_bad_take" "first_bad_take" (defArgs sBadTake) (defBody sBadTake) (defScope sBadTake) .none kV doc pm an cdv ct) ⟨us, []⟩ = pure ((["marks", "takes"] : List Str).zip us) := match us, hl with | [_, _], _ => rfl
theorem bd_sFact (kV doc pm : Value) (an : Option Addr) (cdv ct : Value) (us : List Value) (hl : us.length = (["fact", "names"] : List Str).length) : bindArgs (PySem.W.fnOf "is_fact" "is_fact" (defArgs sFact) (defBody sFact) (defScope sFact) .none kV doc pm an cdv ct) ⟨us, []⟩ = pure ((["fact", "names"] : List Str).zip us) := match us, hl with | [_, _], _ => rfl
theorem bd_sBadFact (kV doc pm : Value) (an : Option Addr) (cdv ct : Value) (us : List Value) (hl : us.length = (["marks", "facts"] : List Str).length) : bindArgs (PySem.W.fnOf "first_bad_fact" "first_bad_fact" (defArgs sBadFact) (defBody sBadFact) (defScope sBadFact) .none kV doc pm an cdv ct) ⟨us, []⟩ = pure ((["marks", "facts"] : List Str).zip us) := match us, hl with | [_, _], _ => rfl
theorem bd_sCheck (kV doc pm : Value) (an : Option Addr) (cdv ct : Value) (us : List Value) (hl : us.length = (["marks", "takes", "facts"] : List Str).length) : bindArgs (PySem.W.fnOf "check_parts" "check_parts" (defArgs sCheck) (defBody sCheck) (defScope sCheck) .none kV doc pm an cdv ct) ⟨us, []⟩ = pure ((["marks", "takes", "facts"] : List Str).zip us) := match us, hl with | [_, _, _], _ => rfl
theorem bd_sAll (kV doc pm : Value) (an : Option Addr) (cdv ct : Value) (us : List Value) (hl : us.length = (["marks", "facts"] : List Str).length) : bindArgs (PySem.W.fnOf "all_facts" "all_facts" (defArgs sAll) (defBody sAll) (defScope sAll) .none kV doc pm an cdv ct) ⟨us, []⟩ = pure ((["marks", "facts"] : List Str).zip us) := match us, hl with | [_, _], _ => rfl
theorem bd_sStraight (kV doc pm : Value) (an : Option Addr) (cdv ct : Value) (us : List Value) (hl : us.length = (["fact", "ahead"] : List Str).length) : bindArgs (PySem.W.fnOf "is_straight" "is_straight" (defArgs sStraight) (defBody sStraight) (defScope sStraight) .none kV doc pm an cdv ct) ⟨us, []⟩ = pure ((["fact", "ahead"] : List Str).zip us) := match us, hl with | [_, _], _ => rfl
theorem bd_sChain (kV doc pm : Value) (an : Option Addr) (cdv ct : Value) (us : List Value) (hl : us.length = (["marks", "facts", "bounds", "x", "y"] : List Str).length) : bindArgs (PySem.W.fnOf "chain_of" "chain_of" (defArgs sChain) (defBody sChain) (defScope sChain) .none kV doc pm an cdv ct) ⟨us, []⟩ = pure ((["marks", "facts", "bounds", "x", "y"] : List Str).zip us) := match us, hl with | [_, _, _, _, _], _ => rfl
theorem bd_sBounds (kV doc pm : Value) (an : Option Addr) (cdv ct : Value) (us : List Value) (hl : us.length = (["marks", "facts", "bounds", "more"] : List Str).length) : bindArgs (PySem.W.fnOf "bounds_with" "bounds_with" (defArgs sBounds) (defBody sBounds) (defScope sBounds) .none kV doc pm an cdv ct) ⟨us, []⟩ = pure ((["marks", "facts", "bounds", "more"] : List Str).zip us) := match us, hl with | [_, _, _, _], _ => rfl
theorem bd_sPit (kV doc pm : Value) (an : Option Addr) (cdv ct : Value) (us : List Value) (hl : us.length = (["script", "at"] : List Str).length) : bindArgs (PySem.W.fnOf "_law_pit" "_law_pit" (defArgs sPit) (defBody sPit) (defScope sPit) .none kV doc pm an cdv ct) ⟨us, []⟩ = pure ((["script", "at"] : List Str).zip us) := match us, hl with | [_, _], _ => rfl
theorem bd_sHoist (kV doc pm : Value) (an : Option Addr) (cdv ct : Value) (us : List Value) (hl : us.length = (["pit", "below"] : List Str).length) : bindArgs (PySem.W.fnOf "_law_hoist" "_law_hoist" (defArgs sHoist) (defBody sHoist) (defScope sHoist) .none kV doc pm an cdv ct) ⟨us, []⟩ = pure ((["pit", "below"] : List Str).zip us) := match us, hl with | [_, _], _ => rfl
theorem bd_sKin (kV doc pm : Value) (an : Option Addr) (cdv ct : Value) (us : List Value) (hl : us.length = (["found", "due"] : List Str).length) : bindArgs (PySem.W.fnOf "_law_kin" "_law_kin" (defArgs sKin) (defBody sKin) (defScope sKin) .none kV doc pm an cdv ct) ⟨us, []⟩ = pure ((["found", "due"] : List Str).zip us) := match us, hl with | [_, _], _ => rfl
theorem bd_sCN (kV doc pm : Value) (an : Option Addr) (cdv ct : Value) (us : List Value) (hl : us.length = (["pit", "many"] : List Str).length) : bindArgs (PySem.W.fnOf "_law_call_names" "_law_call_names" (defArgs sCN) (defBody sCN) (defScope sCN) .none kV doc pm an cdv ct) ⟨us, []⟩ = pure ((["pit", "many"] : List Str).zip us) := match us, hl with | [_, _], _ => rfl
theorem bd_sClosed (kV doc pm : Value) (an : Option Addr) (cdv ct : Value) (us : List Value) (hl : us.length = (["many", "facts_here"] : List Str).length) : bindArgs (PySem.W.fnOf "_law_closed" "_law_closed" (defArgs sClosed) (defBody sClosed) (defScope sClosed) .none kV doc pm an cdv ct) ⟨us, []⟩ = pure ((["many", "facts_here"] : List Str).zip us) := match us, hl with | [_, _], _ => rfl
theorem bd_sNum (kV doc pm : Value) (an : Option Addr) (cdv ct : Value) (us : List Value) (hl : us.length = (["marks_here", "facts_here"] : List Str).length) : bindArgs (PySem.W.fnOf "_law_numbered" "_law_numbered" (defArgs sNum) (defBody sNum) (defScope sNum) .none kV doc pm an cdv ct) ⟨us, []⟩ = pure ((["marks_here", "facts_here"] : List Str).zip us) := match us, hl with | [_, _], _ => rfl
theorem bd_sDF (kV doc pm : Value) (an : Option Addr) (cdv ct : Value) (us : List Value) (hl : us.length = (["pit", "marks_here", "far"] : List Str).length) : bindArgs (PySem.W.fnOf "_law_drawn_fact" "_law_drawn_fact" (defArgs sDF) (defBody sDF) (defScope sDF) .none kV doc pm an cdv ct) ⟨us, []⟩ = pure ((["pit", "marks_here", "far"] : List Str).zip us) := match us, hl with | [_, _, _], _ => rfl
theorem bd_sDS (kV doc pm : Value) (an : Option Addr) (cdv ct : Value) (us : List Value) (hl : us.length = (["pit", "many", "most", "far"] : List Str).length) : bindArgs (PySem.W.fnOf "_law_drawn_sheet" "_law_drawn_sheet" (defArgs sDS) (defBody sDS) (defScope sDS) .none kV doc pm an cdv ct) ⟨us, []⟩ = pure ((["pit", "many", "most", "far"] : List Str).zip us) := match us, hl with | [_, _, _, _], _ => rfl
theorem bd_sRR (kV doc pm : Value) (an : Option Addr) (cdv ct : Value) (us : List Value) (hl : us.length = (["marks_here", "facts_here", "ring_here"] : List Str).length) : bindArgs (PySem.W.fnOf "_law_ring_right" "_law_ring_right" (defArgs sRR) (defBody sRR) (defScope sRR) .none kV doc pm an cdv ct) ⟨us, []⟩ = pure ((["marks_here", "facts_here", "ring_here"] : List Str).zip us) := match us, hl with | [_, _, _], _ => rfl
theorem bd_sGood (kV doc pm : Value) (an : Option Addr) (cdv ct : Value) (us : List Value) (hl : us.length = (["value"] : List Str).length) : bindArgs (PySem.W.fnOf "_law_name_good" "_law_name_good" (defArgs sGood) (defBody sGood) (defScope sGood) .none kV doc pm an cdv ct) ⟨us, []⟩ = pure ((["value"] : List Str).zip us) := match us, hl with | [_], _ => rfl
theorem bd_sFGood (kV doc pm : Value) (an : Option Addr) (cdv ct : Value) (us : List Value) (hl : us.length = (["marks_here", "row"] : List Str).length) : bindArgs (PySem.W.fnOf "_law_fact_good" "_law_fact_good" (defArgs sFGood) (defBody sFGood) (defScope sFGood) .none kV doc pm an cdv ct) ⟨us, []⟩ = pure ((["marks_here", "row"] : List Str).zip us) := match us, hl with | [_, _], _ => rfl
theorem bd_sSF (kV doc pm : Value) (an : Option Addr) (cdv ct : Value) (us : List Value) (hl : us.length = (["marks_here", "takes_here", "facts_here"] : List Str).length) : bindArgs (PySem.W.fnOf "_law_sheet_fault" "_law_sheet_fault" (defArgs sSF) (defBody sSF) (defScope sSF) .none kV doc pm an cdv ct) ⟨us, []⟩ = pure ((["marks_here", "takes_here", "facts_here"] : List Str).zip us) := match us, hl with | [_, _, _], _ => rfl
theorem bd_sMk (kV doc pm : Value) (an : Option Addr) (cdv ct : Value) (us : List Value) (hl : us.length = (["e"] : List Str).length) : bindArgs (PySem.W.fnOf "_law_marks" "_law_marks" (defArgs sMk) (defBody sMk) (defScope sMk) .none kV doc pm an cdv ct) ⟨us, []⟩ = pure ((["e"] : List Str).zip us) := match us, hl with | [_], _ => rfl
theorem bd_sMade (kV doc pm : Value) (an : Option Addr) (cdv ct : Value) (us : List Value) (hl : us.length = (["way", "marks_here", "takes_here", "facts_here"] : List Str).length) : bindArgs (PySem.W.fnOf "_law_made" "_law_made" (defArgs sMade) (defBody sMade) (defScope sMade) .none kV doc pm an cdv ct) ⟨us, []⟩ = pure ((["way", "marks_here", "takes_here", "facts_here"] : List Str).zip us) := match us, hl with | [_, _, _, _], _ => rfl
theorem bd_sBt (kV doc pm : Value) (an : Option Addr) (cdv ct : Value) (us : List Value) (hl : us.length = (["pit", "some", "things"] : List Str).length) : bindArgs (PySem.W.fnOf "_law_bent" "_law_bent" (defArgs sBt) (defBody sBt) (defScope sBt) .none kV doc pm an cdv ct) ⟨us, []⟩ = pure ((["pit", "some", "things"] : List Str).zip us) := match us, hl with | [_, _, _], _ => rfl
theorem bd_sBS (kV doc pm : Value) (an : Option Addr) (cdv ct : Value) (us : List Value) (hl : us.length = (["pit", "marks_here", "takes_here", "facts_here"] : List Str).length) : bindArgs (PySem.W.fnOf "_law_bent_sheet" "_law_bent_sheet" (defArgs sBS) (defBody sBS) (defScope sBS) .none kV doc pm an cdv ct) ⟨us, []⟩ = pure ((["pit", "marks_here", "takes_here", "facts_here"] : List Str).zip us) := match us, hl with | [_, _, _, _], _ => rfl
/-- the class Sheet, flat -/
theorem shAt {K : PySem.W.Frag} {C iS D0 T : Addr} {oc kV doc pm cdv ct : Value} {od an : Option Addr} {osl : Array (Option Value)} {oT o0 : Obj} {n n0 : Nat}
    (a : PySem.W.nsIn K mainGlobals "Sheet" = some (some (.ref C))) (makes : PySem.W.makesIn K C = true) (init : PySem.W.findIn K (.ref C) "__init__" = some (some (.ref iS))) (fn : PySem.W.isFn K (.ref iS) = true) (kp : PySem.W.keepIn K (.ref C) = true)
    (pg : PySem.W.plainGet K C Str.empty = true) (hd : PySem.W.hasDictIn K C = true) (po : PySem.W.plainOver K C = true) (sa : PySem.W.findIn K (.ref C) "__setattr__" = some (some (.builtin "object.__setattr__")))
    (nm : PySem.W.findIn K (.ref C) "marks" = some none) (nt : PySem.W.findIn K (.ref C) "takes" = some none) (nf : PySem.W.findIn K (.ref C) "facts" = some none) (nl : PySem.W.findIn K (.ref C) "_limits" = some none) (nb : PySem.W.findIn K (.ref C) "bounds" = some none)
    (l : K.lookup iS = some ⟨oc, od, .func (PySem.W.fnOf "__init__" "Sheet.__init__" (defArgs sSheet) (defBody sSheet) (defScope sSheet) (.ref T) kV doc pm an cdv ct), osl⟩) (c : PySem.W.codeIn K cdv "Sheet.__init__" = true) (k : PySem.W.keepIn K (.ref iS) = true)
    (lT : K.lookup T = some oT) (dT : oT.data = .seq #[.ref D0] n) (l0 : K.lookup D0 = some o0) (c0 : o0.cls = .type "tuple") (d0 : o0.data = .seq #[] n0) : ShAt K C iS D0 :=
  ⟨a, makes, init, fn, kp, pg, hd, po, sa, nm, nt, nf, nl, nb, oc, kV, doc, pm, od, an, cdv, ct, osl, T, oT, n, o0, n0, l, c, k, lT, dT, l0, c0, d0⟩
/-- an error class, flat -/
theorem xAt {K : PySem.W.Frag} {st : Stmt} {x fld qual : Str} {C fI N T cda cc : Addr} {nm q : Str} {bs : List Value} {sn : List Str} {sub : List Value} {ab : Bool} {col : Option Bool} {dd : Option Addr} {k0 k1 k2 k3 k5 : Option Value}
    {oc doc pm ct ccl cl : Value} {od an cdd cld : Option Addr} {osl ccs csl : Array (Option Value)} {vs : Array Value} {file : Str} {tf : Tok}
    (g : PySem.W.nsIn K mainGlobals x = some (some (.ref C))) (cls : K.lookup C = some (excClassObj nm q C N bs [.ref T, .type "ValueError", .type "Exception", .type "BaseException", .type "object"] true sn sub ab col dd k0 k1 k2 k3 k5 "ValueError.__new__"))
    (sa : PySem.W.findIn K (.ref C) "__setattr__" = some (some (.builtin "object.__setattr__"))) (ga : PySem.W.findIn K (.ref C) "__getattribute__" = some (some (.builtin "BaseException.__getattribute__"))) (gg : PySem.W.findIn K (.ref C) "__getattr__" = some none) (noN : PySem.W.findIn K (.ref C) fld = some none)
    (iC : PySem.W.findIn K (.ref C) "__init__" = some (some (.ref fI))) (tC : PySem.W.typeIn K (.ref fI) = some (.type "function")) (kC : PySem.W.keepIn K (.ref C) = true) (exC : PySem.W.subIn K (.ref C) (.type "BaseException") = some true) (vE : PySem.W.subIn K (.ref C) (.type "ValueError") = some true)
    (tyC : PySem.W.typeIn K (.ref C) = some (.type "type")) (hdC : PySem.W.hasDictIn K C = true) (se : PySem.W.subIn K (.ref C) (.ref C) = some true) (su : PySem.W.ks_superIn K C C "__init__" = some (some (.builtin "ValueError.__init__"))) (mr : PySem.W.mroIn K C (.ref C) = some true)
    (sc : PySem.W.nsIn K cStatics "thirdparty.any" = some none) (sp : PySem.W.nsIn K mainGlobals "super" = some none)
    (l : K.lookup fI = some ⟨oc, od, .func (PySem.W.ksFn "__init__" qual (defArgs st) (defBody st) (defScope st) .none .none doc pm an (.ref cda) ct cc), osl⟩) (c : PySem.W.codeIn K (.ref cda) qual = true) (lc : K.lookup cda = some ⟨ccl, cdd, .fields vs, ccs⟩) (hvs : vs[2]? = some (.str file tf)) (hf : ((prg.main.file : Str) == file) = true)
    (lcc : K.lookup cc = some ⟨cl, cld, .cell (some (.ref C)), csl⟩) : XAt K st x fld qual C fI :=
  ⟨g, ⟨nm, q, N, bs, sn, sub, ab, col, dd, k0, k1, k2, k3, k5, T, cls⟩, sa, ga, gg, noN, iC, tC, kC, exC, vE, tyC, hdC, se, su, mr, sc, sp, oc, doc, pm, ct, ccl, cl, od, an, cdd, cld, osl, ccs, csl, cda, cc, vs, file, tf, l, c, lc, hvs, hf, lcc⟩
theorem law_ex {K : PySem.W.Frag} {h : Heap} {mg : Str → Option Value} {w : World} {fa f C iS D0 CM CT CF CC TE iM iT iF iC : Addr} {oc : Value} {od an : Option Addr} {osl : Array (Option Value)} {kV doc pm cdv ct : Value} (X : K.In h) (G : h.Ns mainGlobals mg) (hfa : mg "law" = some (.ref fa))
    (a : PySem.W.nsIn K mainGlobals "law" = some (some (.ref f))) (l : K.lookup f = some ⟨oc, od, .func (PySem.W.fnOf "law" "law" (defArgs sLaw) (defBody sLaw) (defScope sLaw) .none kV doc pm an cdv ct), osl⟩) (c : PySem.W.codeIn K cdv "law" = true) (k : PySem.W.keepIn K (.ref f) = true)
    (B : BiAt K) (D : DfAt K) (S : ShAt K C iS D0) (XM : XAt K (sXI 10) "BadMarks" "index" "BadMarks.__init__" CM iM) (XT : XAt K (sXI 11) "BadTakes" "index" "BadTakes.__init__" CT iT) (XF : XAt K (sXI 12) "BadFact" "index" "BadFact.__init__" CF iF) (XC : XAt K (sXI 13) "Contradiction" "ring" "Contradiction.__init__" CC iC)
    (E : ErrAt K CM CT CF CC TE) : ∃ fd : FuncData, (∀ (s : Shared) (u : Value), BindsTo s fd ⟨[u], []⟩ [("script", u)]) ∧ ∀ base : Heap, K.In base → base.Ns mainGlobals mg → FnOk prg w K mg base CX0 8 fa fd ["script"] (spLaw K) := by
  have e := hfa.symm.trans (PySem.W.mg_of X G a)
  cases e
  exact ⟨_, law_all X G hfa B D S E XM XT XF XC a (fun_mk l c k)⟩
end K1
end
section
set_option maxRecDepth 100000
set_option maxHeartbeats 0
open PySem PySem.W PyProof.Rows
theorem PySem.Challenge.cw_unknowntakes_k01_sheets_checked_holds : PySem.Challenge.rw_unknowntakes_k01_sheets_checked.Holds := by
  exact PySem.K01.hd (by
    w_strict (
      k_fill
      refine K1.walk (l := PySem.Challenge.rw_unknowntakes_k01_sheets_checked) rfl rfl (fun w h Y => PySem.W.kIn_of Y) ?F
      case F =>
        intro w mg fa h KX G hmg
        refine' K1.law_ex KX G hmg ?a ?l ?c ?k ?B ?D ?S ?XM ?XT ?XF ?XC ?E
        case a => (first | k_is | rfl | kernel_rfl)
        case l => (first | k_is | rfl | kernel_rfl)
        case c => (first | k_is | rfl | kernel_rfl)
        case k => (first | k_is | rfl | kernel_rfl)
        case B => exact ⟨by (first | k_is | rfl | kernel_rfl), by (first | k_is | rfl | kernel_rfl), by (first | k_is | rfl | kernel_rfl), by (first | k_is | rfl | kernel_rfl), by (first | k_is | rfl | kernel_rfl), by (first | k_is | rfl | kernel_rfl), by (first | k_is | rfl | kernel_rfl), by (first | k_is | rfl | kernel_rfl), by (first | k_is | rfl | kernel_rfl), by (first | k_is | rfl | kernel_rfl), by (first | k_is | rfl | kernel_rfl), by (first | k_is | rfl | kernel_rfl), by (first | k_is | rfl | kernel_rfl), by (first | k_is | rfl | kernel_rfl), by (first | k_is | rfl | kernel_rfl), by (first | k_is | rfl | kernel_rfl)⟩
        case D =>
          refine' ⟨?dsFree, ?dsBarred, ?dsKept, ?dsLesser, ?dsTight, ?dsWhole, ?dsName, ?dsNames, ?dsSpots, ?dsBadMark, ?dsBadTake, ?dsFact, ?dsBadFact, ?dsCheck, ?dsAll, ?dsStraight, ?dsChain, ?dsBounds, ?dsPit, ?dsHoist, ?dsKin, ?dsCN, ?dsClosed, ?dsNum, ?dsDF, ?dsDS, ?dsRR, ?dsGood, ?dsFGood, ?dsSF, ?dsMk, ?dsMade, ?dsBt, ?dsBS⟩
          case dsFree => (refine' K1.defAt ?a ?l ?c ?k K1.bd_sFree; (case a => (first | k_is | rfl | kernel_rfl)); (case l => (first | k_is | rfl | kernel_rfl)); (case c => (first | k_is | rfl | kernel_rfl)); (case k => (first | k_is | rfl | kernel_rfl)))
          case dsBarred => (refine' K1.defAt ?a ?l ?c ?k K1.bd_sBarred; (case a => (first | k_is | rfl | kernel_rfl)); (case l => (first | k_is | rfl | kernel_rfl)); (case c => (first | k_is | rfl | kernel_rfl)); (case k => (first | k_is | rfl | kernel_rfl)))
          case dsKept => (refine' K1.defAt ?a ?l ?c ?k K1.bd_sKept; (case a => (first | k_is | rfl | kernel_rfl)); (case l => (first | k_is | rfl | kernel_rfl)); (case c => (first | k_is | rfl | kernel_rfl)); (case k => (first | k_is | rfl | kernel_rfl)))
          case dsLesser => (refine' K1.defAt ?a ?l ?c ?k K1.bd_sLesser; (case a => (first | k_is | rfl | kernel_rfl)); (case l => (first | k_is | rfl | kernel_rfl)); (case c => (first | k_is | rfl | kernel_rfl)); (case k => (first | k_is | rfl | kernel_rfl)))
          case dsTight => (refine' K1.defAt ?a ?l ?c ?k K1.bd_sTight; (case a => (first | k_is | rfl | kernel_rfl)); (case l => (first | k_is | rfl | kernel_rfl)); (case c => (first | k_is | rfl | kernel_rfl)); (case k => (first | k_is | rfl | kernel_rfl)))
          case dsWhole => (refine' K1.defAt ?a ?l ?c ?k K1.bd_sWhole; (case a => (first | k_is | rfl | kernel_rfl)); (case l => (first | k_is | rfl | kernel_rfl)); (case c => (first | k_is | rfl | kernel_rfl)); (case k => (first | k_is | rfl | kernel_rfl)))
          case dsName => (refine' K1.defAt ?a ?l ?c ?k K1.bd_sName; (case a => (first | k_is | rfl | kernel_rfl)); (case l => (first | k_is | rfl | kernel_rfl)); (case c => (first | k_is | rfl | kernel_rfl)); (case k => (first | k_is | rfl | kernel_rfl)))
          case dsNames => (refine' K1.defAt ?a ?l ?c ?k K1.bd_sNames; (case a => (first | k_is | rfl | kernel_rfl)); (case l => (first | k_is | rfl | kernel_rfl)); (case c => (first | k_is | rfl | kernel_rfl)); (case k => (first | k_is | rfl | kernel_rfl)))
          case dsSpots => (refine' K1.defAt ?a ?l ?c ?k K1.bd_sSpots; (case a => (first | k_is | rfl | kernel_rfl)); (case l => (first | k_is | rfl | kernel_rfl)); (case c => (first | k_is | rfl | kernel_rfl)); (case k => (first | k_is | rfl | kernel_rfl)))
          case dsBadMark => (refine' K1.defAt ?a ?l ?c ?k K1.bd_sBadMark; (case a => (first | k_is | rfl | kernel_rfl)); (case l => (first | k_is | rfl | kernel_rfl)); (case c => (first | k_is | rfl | kernel_rfl)); (case k => (first | k_is | rfl | kernel_rfl)))
          case dsBadTake => (refine' K1.defAt ?a ?l ?c ?k K1.bd_sBadTake; (case a => (first | k_is | rfl | kernel_rfl)); (case l => (first | k_is | rfl | kernel_rfl)); (case c => (first | k_is | rfl | kernel_rfl)); (case k => (first | k_is | rfl | kernel_rfl)))
          case dsFact => (refine' K1.defAt ?a ?l ?c ?k K1.bd_sFact; (case a => (first | k_is | rfl | kernel_rfl)); (case l => (first | k_is | rfl | kernel_rfl)); (case c => (first | k_is | rfl | kernel_rfl)); (case k => (first | k_is | rfl | kernel_rfl)))
          case dsBadFact => (refine' K1.defAt ?a ?l ?c ?k K1.bd_sBadFact; (case a => (first | k_is | rfl | kernel_rfl)); (case l => (first | k_is | rfl | kernel_rfl)); (case c => (first | k_is | rfl | kernel_rfl)); (case k => (first | k_is | rfl | kernel_rfl)))
          case dsCheck => (refine' K1.defAt ?a ?l ?c ?k K1.bd_sCheck; (case a => (first | k_is | rfl | kernel_rfl)); (case l => (first | k_is | rfl | kernel_rfl)); (case c => (first | k_is | rfl | kernel_rfl)); (case k => (first | k_is | rfl | kernel_rfl)))
          case dsAll => (refine' K1.defAt ?a ?l ?c ?k K1.bd_sAll; (case a => (first | k_is | rfl | kernel_rfl)); (case l => (first | k_is | rfl | kernel_rfl)); (case c => (first | k_is | rfl | kernel_rfl)); (case k => (first | k_is | rfl | kernel_rfl)))
          case dsStraight => (refine' K1.defAt ?a ?l ?c ?k K1.bd_sStraight; (case a => (first | k_is | rfl | kernel_rfl)); (case l => (first | k_is | rfl | kernel_rfl)); (case c => (first | k_is | rfl | kernel_rfl)); (case k => (first | k_is | rfl | kernel_rfl)))
          case dsChain => (refine' K1.defAt ?a ?l ?c ?k K1.bd_sChain; (case a => (first | k_is | rfl | kernel_rfl)); (case l => (first | k_is | rfl | kernel_rfl)); (case c => (first | k_is | rfl | kernel_rfl)); (case k => (first | k_is | rfl | kernel_rfl)))
          case dsBounds => (refine' K1.defAt ?a ?l ?c ?k K1.bd_sBounds; (case a => (first | k_is | rfl | kernel_rfl)); (case l => (first | k_is | rfl | kernel_rfl)); (case c => (first | k_is | rfl | kernel_rfl)); (case k => (first | k_is | rfl | kernel_rfl)))
          case dsPit => (refine' K1.defAt ?a ?l ?c ?k K1.bd_sPit; (case a => (first | k_is | rfl | kernel_rfl)); (case l => (first | k_is | rfl | kernel_rfl)); (case c => (first | k_is | rfl | kernel_rfl)); (case k => (first | k_is | rfl | kernel_rfl)))
          case dsHoist => (refine' K1.defAt ?a ?l ?c ?k K1.bd_sHoist; (case a => (first | k_is | rfl | kernel_rfl)); (case l => (first | k_is | rfl | kernel_rfl)); (case c => (first | k_is | rfl | kernel_rfl)); (case k => (first | k_is | rfl | kernel_rfl)))
          case dsKin => (refine' K1.defAt ?a ?l ?c ?k K1.bd_sKin; (case a => (first | k_is | rfl | kernel_rfl)); (case l => (first | k_is | rfl | kernel_rfl)); (case c => (first | k_is | rfl | kernel_rfl)); (case k => (first | k_is | rfl | kernel_rfl)))
          case dsCN => (refine' K1.defAt ?a ?l ?c ?k K1.bd_sCN; (case a => (first | k_is | rfl | kernel_rfl)); (case l => (first | k_is | rfl | kernel_rfl)); (case c => (first | k_is | rfl | kernel_rfl)); (case k => (first | k_is | rfl | kernel_rfl)))
          case dsClosed => (refine' K1.defAt ?a ?l ?c ?k K1.bd_sClosed; (case a => (first | k_is | rfl | kernel_rfl)); (case l => (first | k_is | rfl | kernel_rfl)); (case c => (first | k_is | rfl | kernel_rfl)); (case k => (first | k_is | rfl | kernel_rfl)))
          case dsNum => (refine' K1.defAt ?a ?l ?c ?k K1.bd_sNum; (case a => (first | k_is | rfl | kernel_rfl)); (case l => (first | k_is | rfl | kernel_rfl)); (case c => (first | k_is | rfl | kernel_rfl)); (case k => (first | k_is | rfl | kernel_rfl)))
          case dsDF => (refine' K1.defAt ?a ?l ?c ?k K1.bd_sDF; (case a => (first | k_is | rfl | kernel_rfl)); (case l => (first | k_is | rfl | kernel_rfl)); (case c => (first | k_is | rfl | kernel_rfl)); (case k => (first | k_is | rfl | kernel_rfl)))
          case dsDS => (refine' K1.defAt ?a ?l ?c ?k K1.bd_sDS; (case a => (first | k_is | rfl | kernel_rfl)); (case l => (first | k_is | rfl | kernel_rfl)); (case c => (first | k_is | rfl | kernel_rfl)); (case k => (first | k_is | rfl | kernel_rfl)))
          case dsRR => (refine' K1.defAt ?a ?l ?c ?k K1.bd_sRR; (case a => (first | k_is | rfl | kernel_rfl)); (case l => (first | k_is | rfl | kernel_rfl)); (case c => (first | k_is | rfl | kernel_rfl)); (case k => (first | k_is | rfl | kernel_rfl)))
          case dsGood => (refine' K1.defAt ?a ?l ?c ?k K1.bd_sGood; (case a => (first | k_is | rfl | kernel_rfl)); (case l => (first | k_is | rfl | kernel_rfl)); (case c => (first | k_is | rfl | kernel_rfl)); (case k => (first | k_is | rfl | kernel_rfl)))
          case dsFGood => (refine' K1.defAt ?a ?l ?c ?k K1.bd_sFGood; (case a => (first | k_is | rfl | kernel_rfl)); (case l => (first | k_is | rfl | kernel_rfl)); (case c => (first | k_is | rfl | kernel_rfl)); (case k => (first | k_is | rfl | kernel_rfl)))
          case dsSF => (refine' K1.defAt ?a ?l ?c ?k K1.bd_sSF; (case a => (first | k_is | rfl | kernel_rfl)); (case l => (first | k_is | rfl | kernel_rfl)); (case c => (first | k_is | rfl | kernel_rfl)); (case k => (first | k_is | rfl | kernel_rfl)))
          case dsMk => (refine' K1.defAt ?a ?l ?c ?k K1.bd_sMk; (case a => (first | k_is | rfl | kernel_rfl)); (case l => (first | k_is | rfl | kernel_rfl)); (case c => (first | k_is | rfl | kernel_rfl)); (case k => (first | k_is | rfl | kernel_rfl)))
          case dsMade => (refine' K1.defAt ?a ?l ?c ?k K1.bd_sMade; (case a => (first | k_is | rfl | kernel_rfl)); (case l => (first | k_is | rfl | kernel_rfl)); (case c => (first | k_is | rfl | kernel_rfl)); (case k => (first | k_is | rfl | kernel_rfl)))
          case dsBt => (refine' K1.defAt ?a ?l ?c ?k K1.bd_sBt; (case a => (first | k_is | rfl | kernel_rfl)); (case l => (first | k_is | rfl | kernel_rfl)); (case c => (first | k_is | rfl | kernel_rfl)); (case k => (first | k_is | rfl | kernel_rfl)))
          case dsBS => (refine' K1.defAt ?a ?l ?c ?k K1.bd_sBS; (case a => (first | k_is | rfl | kernel_rfl)); (case l => (first | k_is | rfl | kernel_rfl)); (case c => (first | k_is | rfl | kernel_rfl)); (case k => (first | k_is | rfl | kernel_rfl)))
        case S =>
          refine' K1.shAt ?a ?makes ?init ?fn ?kp ?pg ?hd ?po ?sa ?nm ?nt ?nf ?nl ?nb ?l ?c ?k ?lT ?dT ?l0 ?c0 ?d0
          case a => (first | k_is | rfl | kernel_rfl)
          case makes => (first | k_is | rfl | kernel_rfl)
          case init => (first | k_is | rfl | kernel_rfl)
          case fn => (first | k_is | rfl | kernel_rfl)
          case kp => (first | k_is | rfl | kernel_rfl)
          case pg => (first | k_is | rfl | kernel_rfl)
          case hd => (first | k_is | rfl | kernel_rfl)
          case po => (first | k_is | rfl | kernel_rfl)
          case sa => (first | k_is | rfl | kernel_rfl)
          case nm => (first | k_is | rfl | kernel_rfl)
          case nt => (first | k_is | rfl | kernel_rfl)
          case nf => (first | k_is | rfl | kernel_rfl)
          case nl => (first | k_is | rfl | kernel_rfl)
          case nb => (first | k_is | rfl | kernel_rfl)
          case l => (first | k_is | rfl | kernel_rfl)
          case c => (first | k_is | rfl | kernel_rfl)
          case k => (first | k_is | rfl | kernel_rfl)
          case lT => (first | k_is | rfl | kernel_rfl)
          case dT => rfl
          case l0 => (first | k_is | rfl | kernel_rfl)
          case c0 => rfl
          case d0 => rfl
        case XM => (refine' K1.xAt ?g ?cls ?sa ?ga ?gg ?noN ?iC ?tC ?kC ?exC ?vE ?tyC ?hdC ?se ?su ?mr ?sc ?sp ?l ?c ?lc ?hvs ?hf ?lcc; (case g => (first | k_is | rfl | kernel_rfl)); (case cls => (first | k_is | rfl | kernel_rfl)); (case sa => (first | k_is | rfl | kernel_rfl)); (case ga => (first | k_is | rfl | kernel_rfl)); (case gg => (first | k_is | rfl | kernel_rfl)); (case noN => (first | k_is | rfl | kernel_rfl)); (case iC => (first | k_is | rfl | kernel_rfl)); (case tC => (first | k_is | rfl | kernel_rfl)); (case kC => (first | k_is | rfl | kernel_rfl)); (case exC => (first | k_is | rfl | kernel_rfl)); (case vE => (first | k_is | rfl | kernel_rfl)); (case tyC => (first | k_is | rfl | kernel_rfl)); (case hdC => (first | k_is | rfl | kernel_rfl)); (case se => (first | k_is | rfl | kernel_rfl)); (case su => (first | k_is | rfl | kernel_rfl)); (case mr => (first | k_is | rfl | kernel_rfl)); (case sc => (first | k_is | rfl | kernel_rfl)); (case sp => (first | k_is | rfl | kernel_rfl)); (case l => (first | k_is | rfl | kernel_rfl)); (case c => (first | k_is | rfl | kernel_rfl)); (case lc => (first | k_is | rfl | kernel_rfl)); (case hvs => rfl); (case hf => rfl); (case lcc => (first | k_is | rfl | kernel_rfl)))
        case XT => (refine' K1.xAt ?g ?cls ?sa ?ga ?gg ?noN ?iC ?tC ?kC ?exC ?vE ?tyC ?hdC ?se ?su ?mr ?sc ?sp ?l ?c ?lc ?hvs ?hf ?lcc; (case g => (first | k_is | rfl | kernel_rfl)); (case cls => (first | k_is | rfl | kernel_rfl)); (case sa => (first | k_is | rfl | kernel_rfl)); (case ga => (first | k_is | rfl | kernel_rfl)); (case gg => (first | k_is | rfl | kernel_rfl)); (case noN => (first | k_is | rfl | kernel_rfl)); (case iC => (first | k_is | rfl | kernel_rfl)); (case tC => (first | k_is | rfl | kernel_rfl)); (case kC => (first | k_is | rfl | kernel_rfl)); (case exC => (first | k_is | rfl | kernel_rfl)); (case vE => (first | k_is | rfl | kernel_rfl)); (case tyC => (first | k_is | rfl | kernel_rfl)); (case hdC => (first | k_is | rfl | kernel_rfl)); (case se => (first | k_is | rfl | kernel_rfl)); (case su => (first | k_is | rfl | kernel_rfl)); (case mr => (first | k_is | rfl | kernel_rfl)); (case sc => (first | k_is | rfl | kernel_rfl)); (case sp => (first | k_is | rfl | kernel_rfl)); (case l => (first | k_is | rfl | kernel_rfl)); (case c => (first | k_is | rfl | kernel_rfl)); (case lc => (first | k_is | rfl | kernel_rfl)); (case hvs => rfl); (case hf => rfl); (case lcc => (first | k_is | rfl | kernel_rfl)))
        case XF => (refine' K1.xAt ?g ?cls ?sa ?ga ?gg ?noN ?iC ?tC ?kC ?exC ?vE ?tyC ?hdC ?se ?su ?mr ?sc ?sp ?l ?c ?lc ?hvs ?hf ?lcc; (case g => (first | k_is | rfl | kernel_rfl)); (case cls => (first | k_is | rfl | kernel_rfl)); (case sa => (first | k_is | rfl | kernel_rfl)); (case ga => (first | k_is | rfl | kernel_rfl)); (case gg => (first | k_is | rfl | kernel_rfl)); (case noN => (first | k_is | rfl | kernel_rfl)); (case iC => (first | k_is | rfl | kernel_rfl)); (case tC => (first | k_is | rfl | kernel_rfl)); (case kC => (first | k_is | rfl | kernel_rfl)); (case exC => (first | k_is | rfl | kernel_rfl)); (case vE => (first | k_is | rfl | kernel_rfl)); (case tyC => (first | k_is | rfl | kernel_rfl)); (case hdC => (first | k_is | rfl | kernel_rfl)); (case se => (first | k_is | rfl | kernel_rfl)); (case su => (first | k_is | rfl | kernel_rfl)); (case mr => (first | k_is | rfl | kernel_rfl)); (case sc => (first | k_is | rfl | kernel_rfl)); (case sp => (first | k_is | rfl | kernel_rfl)); (case l => (first | k_is | rfl | kernel_rfl)); (case c => (first | k_is | rfl | kernel_rfl)); (case lc => (first | k_is | rfl | kernel_rfl)); (case hvs => rfl); (case hf => rfl); (case lcc => (first | k_is | rfl | kernel_rfl)))
        case XC => (refine' K1.xAt ?g ?cls ?sa ?ga ?gg ?noN ?iC ?tC ?kC ?exC ?vE ?tyC ?hdC ?se ?su ?mr ?sc ?sp ?l ?c ?lc ?hvs ?hf ?lcc; (case g => (first | k_is | rfl | kernel_rfl)); (case cls => (first | k_is | rfl | kernel_rfl)); (case sa => (first | k_is | rfl | kernel_rfl)); (case ga => (first | k_is | rfl | kernel_rfl)); (case gg => (first | k_is | rfl | kernel_rfl)); (case noN => (first | k_is | rfl | kernel_rfl)); (case iC => (first | k_is | rfl | kernel_rfl)); (case tC => (first | k_is | rfl | kernel_rfl)); (case kC => (first | k_is | rfl | kernel_rfl)); (case exC => (first | k_is | rfl | kernel_rfl)); (case vE => (first | k_is | rfl | kernel_rfl)); (case tyC => (first | k_is | rfl | kernel_rfl)); (case hdC => (first | k_is | rfl | kernel_rfl)); (case se => (first | k_is | rfl | kernel_rfl)); (case su => (first | k_is | rfl | kernel_rfl)); (case mr => (first | k_is | rfl | kernel_rfl)); (case sc => (first | k_is | rfl | kernel_rfl)); (case sp => (first | k_is | rfl | kernel_rfl)); (case l => (first | k_is | rfl | kernel_rfl)); (case c => (first | k_is | rfl | kernel_rfl)); (case lc => (first | k_is | rfl | kernel_rfl)); (case hvs => rfl); (case hf => rfl); (case lcc => (first | k_is | rfl | kernel_rfl)))
        case E =>
          refine' { mt := ?mt, mf := ?mf, mc := ?mc, tm := ?tm, tf := ?tf, tc := ?tc, fm := ?fm, ft := ?ft, fc := ?fc, cm := ?cm, ct := ?ct, cf := ?cf, me := ?me, te := ?te, fe := ?fe, ce := ?ce, eg := ?eg, ek := ?ek, ex := ?ex, ed := ?ed, et := ?et, hn := ?hn, ht := ?ht, ma := ?ma, ta := ?ta, fa := ?fa, ca := ?ca, mo := ?mo, to_ := ?to_, fo := ?fo, co := ?co }
          case eg => (first | k_is | rfl | kernel_rfl)
          case mt => (first | k_is | rfl | kernel_rfl)
          case mf => (first | k_is | rfl | kernel_rfl)
          case mc => (first | k_is | rfl | kernel_rfl)
          case tm => (first | k_is | rfl | kernel_rfl)
          case tf => (first | k_is | rfl | kernel_rfl)
          case tc => (first | k_is | rfl | kernel_rfl)
          case fm => (first | k_is | rfl | kernel_rfl)
          case ft => (first | k_is | rfl | kernel_rfl)
          case fc => (first | k_is | rfl | kernel_rfl)
          case cm => (first | k_is | rfl | kernel_rfl)
          case ct => (first | k_is | rfl | kernel_rfl)
          case cf => (first | k_is | rfl | kernel_rfl)
          case me => (first | k_is | rfl | kernel_rfl)
          case te => (first | k_is | rfl | kernel_rfl)
          case fe => (first | k_is | rfl | kernel_rfl)
          case ce => (first | k_is | rfl | kernel_rfl)
          case ek => (first | k_is | rfl | kernel_rfl)
          case ex => (first | k_is | rfl | kernel_rfl)
          case ed => (first | k_is | rfl | kernel_rfl)
          case et => (first | k_is | rfl | kernel_rfl)
          case hn => (first | k_is | rfl | kernel_rfl)
          case ht => (first | k_is | rfl | kernel_rfl)
          case ma => (first | k_is | rfl | kernel_rfl)
          case ta => (first | k_is | rfl | kernel_rfl)
          case fa => (first | k_is | rfl | kernel_rfl)
          case ca => (first | k_is | rfl | kernel_rfl)
          case mo => (first | k_is | rfl | kernel_rfl)
          case to_ => (first | k_is | rfl | kernel_rfl)
          case fo => (first | k_is | rfl | kernel_rfl)
          case co => (first | k_is | rfl | kernel_rfl)))
end
