/-
  machine: one step: contract.
-/
import Derived.Test.YtbeileihbhooaaaDoorMStepA
import Derived.Test.YtbeileihbhooaaaDoorMStepB
import Derived.Test.YtbeileihbhooaaaDoorMStepC
import Derived.Test.YtbeileihbhooaaaDoorMStepD
import Derived.Test.YtbeileihbhooaaaDoorMStepE
import Derived.Test.YtbeileihbhooaaaDoorMStepF
namespace Go.Proofs.YtbeileihbhooaaaDoor
open Go.RowKit

theorem step_c (w : World) (hf : Hid (Forms w)) (A : Option Addr) (n d : Nat) (l : List Ins) (h : Hid (RdS w A n d l)) (g r m cp : Nat) (s : MS) (HS : Hid (StM w g r m cp s)) (HI : Hid (∀ x ∈ s.mem, In32 x)) (hp : 0 ≤ s.pc) (hh : s.halt = 0) (mp : Nat) (HM : Hid (MapTo w mp 14)) (hr : rightM s = true) : Calls Tryd.prog 32 #[.slice A n d, .pointer (some ⟨g, 0, none⟩), .map (some mp)] w (Steps w g r m cp (stepV l s)) := by
  have hm256 : m ≤ 256 := by
    have := of_decide_eq_true hr
    have := HS.out.lt
    omega
  have hsl : s.mem.length = m := HS.out.lt.2.2.2.1
  unfold stepV
  rw [if_pos ⟨hr, hh⟩, hsl]
  by_cases hN : namedV l s.pc m = true
  · by_cases hT : thereV (insAt l s.pc) s.mem = true
    · rw [if_pos ⟨hN, hT⟩]
      obtain ⟨h0, h1, hri⟩ := named_pc hN
      obtain ⟨ho1, ho2⟩ := right_op hri
      rcases (by omega : (insAt l s.pc).o = 0 ∨ (insAt l s.pc).o = 1 ∨ (insAt l s.pc).o = 2 ∨ (3 ≤ (insAt l s.pc).o ∧ (insAt l s.pc).o ≤ 13) ∨ (insAt l s.pc).o = 14 ∨ (insAt l s.pc).o = 15 ∨ (insAt l s.pc).o = 16 ∨ (insAt l s.pc).o = 17 ∨ (insAt l s.pc).o = 18 ∨ (insAt l s.pc).o = 19 ∨ (insAt l s.pc).o = 20 ∨ (insAt l s.pc).o = 21) with e | e | e | ⟨e3, e4⟩ | e | e | e | e | e | e | e | e
      · rw [e] at hri
        have := right_0 hri
        rcases this.2.2.2 with ha | ha
        · exact step_0a w hf A n d l h g r m cp s HS HI hp hh mp HM hN e hT ha
        · exact step_0b w hf A n d l h g r m cp s HS HI hp hh mp HM hN e hT ha
      · exact step_1 w hf A n d l h g r m cp s HS HI hp hh mp HM hN e hT
      · exact step_2 w hf A n d l h g r m cp s HS HI hp hh mp HM hN e hT
      · exact step_two w hf A n d l h g r m cp s HS HI hp hh mp HM hN e3 e4 hT
      · exact step_14 w hf A n d l h g r m cp s HS HI hp hh mp HM hN e hT
      · exact step_15 w hf A n d l h g r m cp s HS HI hp hh mp HM hN e hT hm256
      · exact step_16 w hf A n d l h g r m cp s HS HI hp hh mp HM hN e hT hm256
      · exact step_17 w hf A n d l h g r m cp s HS HI hp hh mp HM hN e hT
      · by_cases z0 : 0 ≤ getW s.mem (insAt l s.pc).b
        · by_cases z1 : getW s.mem (insAt l s.pc).b < (insAt l s.pc).c
          · exact step_18a w hf A n d l h g r m cp s HS HI hp hh mp HM hN e hT z0 z1
          · exact step_18b w hf A n d l h g r m cp s HS HI hp hh mp HM hN e hT z0 z1
        · exact step_18c w hf A n d l h g r m cp s HS HI hp hh mp HM hN e hT z0
      · exact step_19 w hf A n d l h g r m cp s HS HI hp hh mp HM hN e hT
      · by_cases z : getW s.mem (insAt l s.pc).b = 0
        · exact step_20t w hf A n d l h g r m cp s HS HI hp hh mp HM hN e hT z
        · exact step_20f w hf A n d l h g r m cp s HS HI hp hh mp HM hN e hT z
      · by_cases z : getW s.mem (insAt l s.pc).b = 0
        · exact step_21t w hf A n d l h g r m cp s HS HI hp hh mp HM hN e hT z
        · exact step_21f w hf A n d l h g r m cp s HS HI hp hh mp HM hN e hT z
    · rw [if_neg (fun k => hT k.2)]
      have hT' : thereV (insAt l s.pc) s.mem = false := by simpa using hT
      by_cases e15 : (insAt l s.pc).o = 15
      · exact gone_15 w hf A n d l h g r m cp s HS HI hp hh mp HM hN e15 hT' hm256
      · by_cases e16 : (insAt l s.pc).o = 16
        · exact gone_16 w hf A n d l h g r m cp s HS HI hp hh mp HM hN e16 hT' hm256
        · refine absurd ?_ hT
          refine decide_eq_true ?_
          unfold placeV
          rw [if_neg e15, if_neg e16]
          have := of_decide_eq_true hr
          omega
  · rw [if_neg (fun k => hN k.1)]
    exact step_no w hf A n d l h g r m cp s HS HI hp hh mp HM (by simpa using hN)
#print axioms step_c
end Go.Proofs.YtbeileihbhooaaaDoor
