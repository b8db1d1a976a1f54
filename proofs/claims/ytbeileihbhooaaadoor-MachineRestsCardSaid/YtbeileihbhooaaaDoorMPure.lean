/-
  machine: what a step does, as plain functions.
-/
import Derived.Test.YtbeileihbhooaaaDoorGPure
import Derived.Test.YtbeileihbhooaaaDoorGIns
import Derived.IntWalk
namespace Go.Proofs.YtbeileihbhooaaaDoor
open Go.RowKit

def In32 (x : Int) : Prop := -2147483648 ≤ x ∧ x ≤ 2147483647
def getW (l : List Int) (x : Int) : Int := l.getD x.toNat 0
def setW (l : List Int) (x v : Int) : List Int := l.set x.toNat v
theorem setW_length (l : List Int) (x v : Int) : (setW l x v).length = l.length := by unfold setW; rw [List.length_set]
theorem getW_in {l : List Int} (h : ∀ x ∈ l, In32 x) (x : Int) : In32 (getW l x) := by
  unfold getW
  rw [List.getD_eq_getElem?_getD]
  cases e : l[x.toNat]? with
  | none => exact ⟨by decide, by decide⟩
  | some v => exact h v (List.mem_of_getElem? e)
theorem setW_in {l : List Int} (h : ∀ x ∈ l, In32 x) (x v : Int) (hv : In32 v) : ∀ y ∈ setW l x v, In32 y := by
  intro y hy
  rcases List.mem_or_eq_of_mem_set hy with h1 | h1
  · exact h y h1
  · rw [h1]; exact hv
/-- a state: the place, the words, whether it goes on -/
structure MS where
  pc : Int
  mem : List Int
  halt : Int
def truthI (b : Bool) : Int := if b then 1 else 0
theorem truthI_in (b : Bool) : In32 (truthI b) := by cases b <;> exact ⟨by decide, by decide⟩
theorem wrap32_ok (x : Int) : In32 (wrap32 x) := by unfold In32 wrap32; omega
theorem tdiv_in {b c : Int} (hb : In32 b) : -2147483648 ≤ b.tdiv c ∧ b.tdiv c ≤ 2147483648 := by
  unfold In32 at hb
  have h : (b.tdiv c).natAbs ≤ b.natAbs := Int.natAbs_tdiv_le_natAbs b c
  omega
theorem tmod_in {b c : Int} (hb : In32 b) : In32 (b.tmod c) := by
  unfold In32 at *
  have h : (b.tmod c).natAbs ≤ b.natAbs := by
    rw [Int.natAbs_tmod]; exact Nat.mod_le _ _
  by_cases h0 : 0 ≤ b
  · omega
  · have h1 : 0 ≤ (-b).tmod c := Int.tmod_nonneg _ (by omega)
    rw [Int.neg_tmod] at h1
    omega
theorem tmod_sub (b c : Int) : b - b.tdiv c * c = b.tmod c := by
  have := Int.tdiv_mul_add_tmod b c
  omega
/-- what comes of two words -/
def twoV (o b c : Int) : Int :=
  if o = 3 then wrap32 (b + c) else if o = 4 then wrap32 (b - c) else if o = 5 then wrap32 (b * c)
  else if o = 6 then (if c = 0 then 0 else wrap32 (b.tdiv c)) else if o = 7 then (if c = 0 then 0 else b.tmod c)
  else if o = 8 then truthI (b == c) else if o = 9 then truthI (b != c) else if o = 10 then truthI (decide (b < c)) else if o = 11 then truthI (decide (b ≤ c))
  else if o = 12 then truthI (b != 0 && c != 0) else truthI (b != 0 || c != 0)
theorem twoV_in (o b c : Int) (hb : In32 b) : In32 (twoV o b c) := by
  unfold twoV
  repeat' split
  all_goals first | exact wrap32_ok _ | exact truthI_in _ | exact ⟨by decide, by decide⟩ | exact tmod_in hb
def rightM (s : MS) : Bool := decide (1 ≤ s.mem.length ∧ s.mem.length ≤ 256 ∧ 0 ≤ s.pc ∧ s.pc ≤ 2048 ∧ 0 ≤ s.halt ∧ s.halt ≤ 2)
def insAt (c : List Ins) (pc : Int) : Ins := c.getD pc.toNat noIns
/-- is there an instruction that may be at the state's place? -/
def namedV (c : List Ins) (pc : Int) (n : Nat) : Bool := decide (c.length ≤ 2048 ∧ pc < c.length) && rightV (insAt c pc).o (insAt c pc).a (insAt c pc).b (insAt c pc).c c.length n
def placeV (i : Ins) (m : List Int) : Int := if i.o = 15 then i.b + getW m i.c else if i.o = 16 then i.a + getW m i.b else 0
def thereV (i : Ins) (m : List Int) : Bool := decide (0 ≤ placeV i m ∧ placeV i m < m.length)
/-- the words behind an instruction -/
def memV (i : Ins) (m : List Int) : List Int :=
  if i.o = 1 then setW m i.a i.b else if i.o = 2 then setW m i.a (getW m i.b)
  else if 3 ≤ i.o ∧ i.o ≤ 13 then setW m i.a (twoV i.o (getW m i.b) (getW m i.c))
  else if i.o = 14 then setW m i.a (truthI (getW m i.b == 0))
  else if i.o = 15 then setW m i.a (getW m (i.b + getW m i.c))
  else if i.o = 16 then setW m (i.a + getW m i.b) (getW m i.c)
  else if i.o = 17 then setW m i.a (if i.c < (if getW m i.a < i.b then i.b else getW m i.a) then i.c else if getW m i.a < i.b then i.b else getW m i.a)
  else if i.o = 18 then setW m i.a (truthI (decide (0 ≤ getW m i.b) && decide (getW m i.b < i.c)))
  else m
theorem memV_length (i : Ins) (m : List Int) : (memV i m).length = m.length := by
  unfold memV
  repeat' split
  all_goals first | rfl | exact setW_length _ _ _
def pcV (i : Ins) (m : List Int) (pc : Int) : Int :=
  if i.o = 0 then pc else if i.o = 19 ∨ (i.o = 20 ∧ getW m i.b = 0) ∨ (i.o = 21 ∧ getW m i.b ≠ 0) then i.a else pc + 1
def haltV (i : Ins) : Int := if i.o = 0 then 1 + i.a else 0
def stepV (c : List Ins) (s : MS) : MS :=
  if rightM s = true ∧ s.halt = 0 then
    if namedV c s.pc s.mem.length = true ∧ thereV (insAt c s.pc) s.mem = true then ⟨pcV (insAt c s.pc) s.mem s.pc, memV (insAt c s.pc) s.mem, haltV (insAt c s.pc)⟩
    else ⟨s.pc, s.mem, 2⟩
  else s
theorem stepV_length (c : List Ins) (s : MS) : (stepV c s).mem.length = s.mem.length := by
  unfold stepV
  repeat' split
  all_goals first | rfl | exact memV_length _ _
theorem stepV_off {c : List Ins} {s : MS} (h : s.halt ≠ 0) : stepV c s = s := by
  unfold stepV
  rw [if_neg (fun h2 => h h2.2)]
/-- so many steps -/
def iterV (c : List Ins) : Nat → MS → MS
  | 0, s => s
  | k + 1, s => stepV c (iterV c k s)
theorem iterV_length (c : List Ins) (s : MS) : ∀ k, (iterV c k s).mem.length = s.mem.length
  | 0 => rfl
  | k + 1 => (stepV_length c _).trans (iterV_length c s k)
theorem iterV_add (c : List Ins) (s : MS) (a : Nat) : ∀ b, iterV c (a + b) s = iterV c b (iterV c a s)
  | 0 => rfl
  | b + 1 => by
    show stepV c (iterV c (a + b) s) = stepV c (iterV c b (iterV c a s))
    rw [iterV_add c s a b]
theorem iterV_off {c : List Ins} {s : MS} (h : s.halt ≠ 0) : ∀ k, iterV c k s = s
  | 0 => rfl
  | k + 1 => by
    show stepV c (iterV c k s) = s
    rw [iterV_off h k, stepV_off h]
/-- how many steps a run does: it stops at the first state that doesn't go on -/
structure Stop (c : List Ins) (s : MS) (most : Int) (j : Nat) : Prop where
  le : (j : Int) ≤ most ∨ j = 0
  all : ∀ i, i < j → (iterV c i s).halt = 0
  stop : most ≤ (j : Int) ∨ (iterV c j s).halt ≠ 0
theorem Stop.one {c : List Ins} {s : MS} {most : Int} {j k : Nat} (h : Stop c s most j) (g : Stop c s most k) : j = k := by
  rcases Nat.lt_trichotomy j k with h1 | h1 | h1
  · rcases h.stop with h2 | h2
    · have := g.le; omega
    · exact absurd (g.all j h1) h2
  · exact h1
  · rcases g.stop with h2 | h2
    · have := h.le; omega
    · exact absurd (h.all k h1) h2
#print axioms Stop.one
end Go.Proofs.YtbeileihbhooaaaDoor
