/-
  machine: the operations of two words, in a map of functions: contracts.
-/
import Derived.Test.YtbeileihbhooaaaDoorMMem
import Derived.Test.YtbeileihbhooaaaDoorMPure
import Derived.Maps.Keyed
import Derived.ChangeMaps5
import Derived.Deep.QuietTactic
import Derived.BigQuiet
namespace Go.Proofs.YtbeileihbhooaaaDoor
open Go.RowKit Go.Maps Go.ChangeMaps

theorem truth_c (w : World) (b : Bool) : Calls Tryd.prog 48 #[.bool b] w (fun e w' => e = .returned (.int .i32 (truthI b)) ∧ w = w') := by
  cases b <;> (go_enter Tryd.func48, Tryd.ntmps48; go_wp2_with fail; go_ret; exact ⟨rfl, rfl⟩)

/-- the function of an operation -/
def fnOf (k : Int) : Nat := if k = 3 then 42 else if k = 4 then 43 else if k = 5 then 44 else if k = 6 then 45 else if k = 7 then 46 else if k = 8 then 47 else if k = 9 then 49 else if k = 10 then 50 else if k = 11 then 51 else if k = 12 then 52 else 53
def fnV (k : Int) : Value := .func (.func (fnOf k)) #[] #[]
/-- a map of the first operations' functions -/
def MapTo (w : World) (b : Nat) (m : Int) : Prop := ∃ es clock, w.heap[b]? = some (.map es clock) ∧ (∀ e ∈ es.toList, ∃ y : Int, e.key = .int .i64 y ∧ 3 ≤ y ∧ y < m ∧ e.val = fnV y) ∧ ∀ y : Int, 3 ≤ y → y < m → ∃ e ∈ es.toList, e.key = .int .i64 y
theorem MapTo.keep {w w' : World} {b : Nat} {m : Int} (h : MapTo w b m) (k : w'.heap[b]? = w.heap[b]?) : MapTo w' b m := by
  obtain ⟨es, clock, hb, h1, h2⟩ := h
  exact ⟨es, clock, k.trans hb, h1, h2⟩
theorem MapTo.lt {w : World} {b : Nat} {m : Int} (h : MapTo w b m) : b < w.heap.size := by
  obtain ⟨es, clock, hb, _, _⟩ := h
  exact (Array.getElem?_eq_some_iff.1 hb).1
theorem key64 {P : Program} {k : TypeId} (hk : P.underlying k = some (.int .i64)) {y : Int} (h3 : 3 ≤ y) (h4 : y ≤ 14) : keyOf P k (.int .i64 y) = some (.int .i64 y) := keyOf_int_mk hk (by simp [Lit.wf, IntKind.min, IntKind.max, IntKind.signed, IntKind.bits]; omega)

theorem wpList_ins {P : Program} {w : World} {ops : Array Oper} {rest : List Oper} {o : Oper} {a : Act} {Q : Exit → Act → World → Prop} (hg : o.guard = none) (x key v : Operand) (T K E : TypeId) (hop : o.op = Op.insert T x key v)
    (ht : P.underlying T = some (.map K E)) (hk : P.underlying K = some (.int .i64)) (b : Nat) (m : Int) (hm3 : 3 ≤ m) (hm4 : m ≤ 13) (hx : a.eval x = .map (some b)) (hkey : a.eval key = .int .i64 m) (hv : a.eval v = fnV m) (H : MapTo w b m)
    (hK : ∀ w', MapTo w' b (m + 1) → Below b w w' → wpList P ops Q rest (a.put o.dst undef) w') : wpList P ops Q (o :: rest) a w := by
  refine wpList_plain hg fun K' hK' => ?_
  obtain ⟨es, clock, hb, h1, h2⟩ := H
  have KK := int_keyed hk
  have hke := key64 (P := P) hk hm3 (by omega)
  have hrun : (Instr.mapUpdate T (.map (some b)) (.int .i64 m) (fnV m)).run P w = .ok () (setBlock w b (.map (es.push ⟨.int .i64 m, fnV m, clock⟩) (clock + 1))) := by
    rcases KK.find w hke es.toList (fun e he => by obtain ⟨y, e1, y1, y2, _⟩ := h1 e he; exact ⟨_, by rw [e1]; exact key64 hk y1 (by omega)⟩) with ⟨f1, _⟩ | ⟨j, e0, _, f2, f3⟩
    · simp [Instr.mapUpdate, run_underlying ht, MapKept.run_getObj_map hb, KK.check w false hke, f1, MapKept.run_setObj_map _ hb, Result.andThen, setBlock]
    · obtain ⟨y, e1, y1, y2, _⟩ := h1 e0 (List.mem_of_getElem? f2)
      rw [e1] at f3
      injection f3 with _ f4
      omega
  unfold Oper.wp
  simp [execOp, hop, hx, hkey, hv, hrun, Result.andThen]
  refine hK' _ _ (hK _ ⟨_, _, heap_setBlock_same hb _, fun e he => ?_, fun y y1 y2 => ?_⟩ ⟨rfl, rfl, rfl, by simp [setBlock], fun k hk => heap_setBlock_other hb _ (by omega)⟩)
  · rw [Array.toList_push, List.mem_append, List.mem_singleton] at he
    rcases he with he | rfl
    · obtain ⟨y, e1, y1, y2, e2⟩ := h1 e he
      exact ⟨y, e1, y1, by omega, e2⟩
    · exact ⟨m, rfl, hm3, by omega, rfl⟩
  · by_cases e : y = m
    · subst e
      exact ⟨⟨.int .i64 y, fnV y, clock⟩, by rw [Array.toList_push, List.mem_append, List.mem_singleton]; exact .inr rfl, rfl⟩
    · obtain ⟨x, hx1, hx2⟩ := h2 y y1 (by omega)
      exact ⟨x, by rw [Array.toList_push, List.mem_append]; exact .inl hx1, hx2⟩

theorem run_op {P : Program} {w : World} {T K E : TypeId} (ht : P.underlying T = some (.map K E)) (hk : P.underlying K = some (.int .i64)) {b : Nat} (H : MapTo w b 14) {m : Int} (hm3 : 3 ≤ m) (hm4 : m ≤ 13) :
    (Instr.lookup T (.map (some b)) (.int .i64 m) false).run P w = .ok (fnV m) w := by
  obtain ⟨es, clock, hb, h1, h2⟩ := H
  have KK := int_keyed hk
  have hke := key64 (P := P) hk hm3 (by omega)
  rcases KK.find w hke es.toList (fun e he => by obtain ⟨y, e1, y1, y2, _⟩ := h1 e he; exact ⟨_, by rw [e1]; exact key64 hk y1 (by omega)⟩) with ⟨_, f2⟩ | ⟨j, e0, f1, f2, f3⟩
  · obtain ⟨e, he, hke2⟩ := h2 m hm3 (by omega)
    exact absurd hke2 (f2 e he)
  · obtain ⟨y, e1, y1, y2, e2⟩ := h1 e0 (List.mem_of_getElem? f2)
    rw [e1] at f3
    injection f3 with _ f4
    subst f4
    simp [Instr.lookup, run_underlying ht, MapKept.run_getObj_map hb, KK.check w _ hke, f1, e2, Result.andThen]

/-- the map of all operations, new -/
def OpsAt (w : World) (e : Ending) (w' : World) : Prop := ∃ b, e = .returned (.map (some b)) ∧ w.heap.size ≤ b ∧ MapTo w' b 14 ∧ Below w.heap.size w w'
set_option maxRecDepth 100000 in
set_option maxHeartbeats 1000000 in
theorem ops_c (w : World) : Calls Tryd.prog 31 #[] w (OpsAt w) := by
  have hmm := @run_makeMap Tryd.prog
  go_enter Tryd.func31, Tryd.ntmps31
  have HM : Hid (MapTo (w.alloc (.map #[] 0)) w.heap.size 3) := ⟨#[], 0, Go.heap_alloc_new w _, by simp, fun y h1 h2 => by omega⟩
  have HB : Hid (Below w.heap.size w (w.alloc (.map #[] 0))) := ext_alloc w _
  obtain ⟨V, hV⟩ : ∃ V, V = w.alloc (.map #[] 0) := ⟨_, rfl⟩
  obtain ⟨b, hb⟩ : ∃ b, b = w.heap.size := ⟨_, rfl⟩
  rw [← hV] at HM HB
  have hmm2 : ∀ t, (Instr.makeMap t none).run Tryd.prog w = .ok (.map (some b)) V := fun t => by rw [hb, hV]; exact hmm t w
  have HG := Lib.hid hb
  rw [← hb] at HM HB
  clear hmm hV hb
  go_wp2_with (refine wpList_ins rfl _ _ _ _ 3 _ rfl Tryd.underlying64 Tryd.underlying3 b _ (by decide) (by decide) (by rfl) (by rfl) (by rfl) HM.out ?_; intro w2 hm2 hb2; replace HB := Lib.hid (HB.out.trans hb2); replace HM := Lib.hid hm2; clear hm2 hb2; go_simp)
  go_ret
  exact ⟨b, rfl, by rw [HG.out]; exact Nat.le_refl _, HM.out, by rw [← HG.out]; exact HB.out⟩
theorem op3_c (w : World) (b c : Int) (hb : In32 b) (hc : In32 c) : Calls Tryd.prog 42 #[.int .i32 b, .int .i32 c] w (fun e w' => e = .returned (.int .i32 (twoV 3 b c)) ∧ w = w') := by
  rw [show twoV 3 b c = wrap32 (b + c) from rfl]
  unfold In32 at hb hc
  obtain ⟨_, _⟩ := hb
  obtain ⟨_, _⟩ := hc
  go_enter Tryd.func42, Tryd.ntmps42
  go_wp2_with fail
  go_ret
  exact ⟨by first | rfl | simp, rfl⟩
theorem op4_c (w : World) (b c : Int) (hb : In32 b) (hc : In32 c) : Calls Tryd.prog 43 #[.int .i32 b, .int .i32 c] w (fun e w' => e = .returned (.int .i32 (twoV 4 b c)) ∧ w = w') := by
  rw [show twoV 4 b c = wrap32 (b - c) from rfl]
  unfold In32 at hb hc
  obtain ⟨_, _⟩ := hb
  obtain ⟨_, _⟩ := hc
  go_enter Tryd.func43, Tryd.ntmps43
  go_wp2_with fail
  go_ret
  exact ⟨by first | rfl | simp, rfl⟩
theorem op5_c (w : World) (b c : Int) (hb : In32 b) (hc : In32 c) : Calls Tryd.prog 44 #[.int .i32 b, .int .i32 c] w (fun e w' => e = .returned (.int .i32 (twoV 5 b c)) ∧ w = w') := by
  rw [show twoV 5 b c = wrap32 (b * c) from rfl]
  unfold In32 at hb hc
  obtain ⟨_, _⟩ := hb
  obtain ⟨_, _⟩ := hc
  go_enter Tryd.func44, Tryd.ntmps44
  go_wp2_with fail
  go_ret
  exact ⟨by first | rfl | simp, rfl⟩
theorem op6_c (w : World) (b c : Int) (_hb : In32 b) (_hc : In32 c) : Calls Tryd.prog 45 #[.int .i32 b, .int .i32 c] w (fun e w' => e = .returned (.int .i32 (twoV 6 b c)) ∧ w = w') := by
  by_cases h0 : c = 0
  · subst h0
    go_enter Tryd.func45, Tryd.ntmps45
    go_wp2_with fail
    go_ret
    exact ⟨rfl, rfl⟩
  · rw [show twoV 6 b c = if c = 0 then 0 else wrap32 (b.tdiv c) from rfl, if_neg h0]
    have h1 : (c == 0) = false := by rw [beq_eq_false_iff_ne]; exact h0
    go_enter Tryd.func45, Tryd.ntmps45
    go_wp2_with fail
    go_ret
    exact ⟨rfl, rfl⟩
theorem op7_c (w : World) (b c : Int) (_hb : In32 b) (_hc : In32 c) : Calls Tryd.prog 46 #[.int .i32 b, .int .i32 c] w (fun e w' => e = .returned (.int .i32 (twoV 7 b c)) ∧ w = w') := by
  by_cases h0 : c = 0
  · subst h0
    go_enter Tryd.func46, Tryd.ntmps46
    go_wp2_with fail
    go_ret
    exact ⟨rfl, rfl⟩
  · rw [show twoV 7 b c = if c = 0 then 0 else b.tmod c from rfl, if_neg h0]
    have h1 : (c == 0) = false := by rw [beq_eq_false_iff_ne]; exact h0
    go_enter Tryd.func46, Tryd.ntmps46
    go_wp2_with fail
    go_ret
    exact ⟨rfl, rfl⟩
theorem op8_c (w : World) (b c : Int) (_hb : In32 b) (_hc : In32 c) : Calls Tryd.prog 47 #[.int .i32 b, .int .i32 c] w (fun e w' => e = .returned (.int .i32 (twoV 8 b c)) ∧ w = w') := by
  rw [show twoV 8 b c = truthI (b == c) from rfl]
  obtain ⟨q, hq⟩ : ∃ q : Bool, (b == c) = q := ⟨_, rfl⟩
  rw [hq]
  go_enter Tryd.func47, Tryd.ntmps47
  go_wp2_with fail
  refine (truth_c _ q).mono ?_
  rintro e w' ⟨rfl, rfl⟩
  clear hq
  go_wp2_with fail
  go_ret
  exact ⟨rfl, rfl⟩
theorem op9_c (w : World) (b c : Int) (_hb : In32 b) (_hc : In32 c) : Calls Tryd.prog 49 #[.int .i32 b, .int .i32 c] w (fun e w' => e = .returned (.int .i32 (twoV 9 b c)) ∧ w = w') := by
  rw [show twoV 9 b c = truthI (b != c) from rfl]
  obtain ⟨q, hq⟩ : ∃ q : Bool, (b != c) = q := ⟨_, rfl⟩
  rw [hq]
  go_enter Tryd.func49, Tryd.ntmps49
  go_wp2_with fail
  refine (truth_c _ q).mono ?_
  rintro e w' ⟨rfl, rfl⟩
  clear hq
  go_wp2_with fail
  go_ret
  exact ⟨rfl, rfl⟩
theorem op10_c (w : World) (b c : Int) (_hb : In32 b) (_hc : In32 c) : Calls Tryd.prog 50 #[.int .i32 b, .int .i32 c] w (fun e w' => e = .returned (.int .i32 (twoV 10 b c)) ∧ w = w') := by
  rw [show twoV 10 b c = truthI (decide (b < c)) from rfl]
  obtain ⟨q, hq⟩ : ∃ q : Bool, (decide (b < c)) = q := ⟨_, rfl⟩
  rw [hq]
  go_enter Tryd.func50, Tryd.ntmps50
  go_wp2_with fail
  refine (truth_c _ q).mono ?_
  rintro e w' ⟨rfl, rfl⟩
  clear hq
  go_wp2_with fail
  go_ret
  exact ⟨rfl, rfl⟩
theorem op11_c (w : World) (b c : Int) (_hb : In32 b) (_hc : In32 c) : Calls Tryd.prog 51 #[.int .i32 b, .int .i32 c] w (fun e w' => e = .returned (.int .i32 (twoV 11 b c)) ∧ w = w') := by
  rw [show twoV 11 b c = truthI (decide (b ≤ c)) from rfl]
  obtain ⟨q, hq⟩ : ∃ q : Bool, (decide (b ≤ c)) = q := ⟨_, rfl⟩
  rw [hq]
  go_enter Tryd.func51, Tryd.ntmps51
  go_wp2_with fail
  refine (truth_c _ q).mono ?_
  rintro e w' ⟨rfl, rfl⟩
  clear hq
  go_wp2_with fail
  go_ret
  exact ⟨rfl, rfl⟩
theorem op12_c (w : World) (b c : Int) (_hb : In32 b) (_hc : In32 c) : Calls Tryd.prog 52 #[.int .i32 b, .int .i32 c] w (fun e w' => e = .returned (.int .i32 (twoV 12 b c)) ∧ w = w') := by
  rw [show twoV 12 b c = truthI (b != 0 && c != 0) from rfl]
  obtain ⟨p, hp⟩ : ∃ p : Bool, (b != 0) = p := ⟨_, rfl⟩
  obtain ⟨q, hq⟩ : ∃ q : Bool, (c != 0) = q := ⟨_, rfl⟩
  rw [hp, hq]
  cases p <;> cases q
  all_goals
    go_enter Tryd.func52, Tryd.ntmps52
    go_wp2_with (refine (truth_c _ _).mono ?_; rintro e w' ⟨rfl, rfl⟩)
    go_ret
    exact ⟨rfl, rfl⟩
theorem op13_c (w : World) (b c : Int) (_hb : In32 b) (_hc : In32 c) : Calls Tryd.prog 53 #[.int .i32 b, .int .i32 c] w (fun e w' => e = .returned (.int .i32 (twoV 13 b c)) ∧ w = w') := by
  rw [show twoV 13 b c = truthI (b != 0 || c != 0) from rfl]
  obtain ⟨p, hp⟩ : ∃ p : Bool, (b != 0) = p := ⟨_, rfl⟩
  obtain ⟨q, hq⟩ : ∃ q : Bool, (c != 0) = q := ⟨_, rfl⟩
  rw [hp, hq]
  cases p <;> cases q
  all_goals
    go_enter Tryd.func53, Tryd.ntmps53
    go_wp2_with (refine (truth_c _ _).mono ?_; rintro e w' ⟨rfl, rfl⟩)
    go_ret
    exact ⟨rfl, rfl⟩

/-- an operation's function, called -/
theorem op_any (w : World) (k b c : Int) (h3 : 3 ≤ k) (h4 : k ≤ 13) (hb : In32 b) (hc : In32 c) : Calls Tryd.prog (fnOf k) #[.int .i32 b, .int .i32 c] w (fun e w' => e = .returned (.int .i32 (twoV k b c)) ∧ w = w') := by
  rcases (by omega : k = 3 ∨ k = 4 ∨ k = 5 ∨ k = 6 ∨ k = 7 ∨ k = 8 ∨ k = 9 ∨ k = 10 ∨ k = 11 ∨ k = 12 ∨ k = 13) with rfl | rfl | rfl | rfl | rfl | rfl | rfl | rfl | rfl | rfl | rfl
  · exact op3_c w b c hb hc
  · exact op4_c w b c hb hc
  · exact op5_c w b c hb hc
  · exact op6_c w b c hb hc
  · exact op7_c w b c hb hc
  · exact op8_c w b c hb hc
  · exact op9_c w b c hb hc
  · exact op10_c w b c hb hc
  · exact op11_c w b c hb hc
  · exact op12_c w b c hb hc
  · exact op13_c w b c hb hc
theorem call_fn (k : Int) (h3 : 3 ≤ k) (h4 : k ≤ 13) (x y : Value) (u : World) : (callFunc (fnOf k) #[x, y]).run Tryd.prog u = .ok (.enter (fnOf k) #[x, y]) u := by
  rcases (by omega : k = 3 ∨ k = 4 ∨ k = 5 ∨ k = 6 ∨ k = 7 ∨ k = 8 ∨ k = 9 ∨ k = 10 ∨ k = 11 ∨ k = 12 ∨ k = 13) with rfl | rfl | rfl | rfl | rfl | rfl | rfl | rfl | rfl | rfl | rfl
  · show (callFunc 42 #[x, y]).run Tryd.prog u = .ok (.enter 42 #[x, y]) u
    go_simp
  · show (callFunc 43 #[x, y]).run Tryd.prog u = .ok (.enter 43 #[x, y]) u
    go_simp
  · show (callFunc 44 #[x, y]).run Tryd.prog u = .ok (.enter 44 #[x, y]) u
    go_simp
  · show (callFunc 45 #[x, y]).run Tryd.prog u = .ok (.enter 45 #[x, y]) u
    go_simp
  · show (callFunc 46 #[x, y]).run Tryd.prog u = .ok (.enter 46 #[x, y]) u
    go_simp
  · show (callFunc 47 #[x, y]).run Tryd.prog u = .ok (.enter 47 #[x, y]) u
    go_simp
  · show (callFunc 49 #[x, y]).run Tryd.prog u = .ok (.enter 49 #[x, y]) u
    go_simp
  · show (callFunc 50 #[x, y]).run Tryd.prog u = .ok (.enter 50 #[x, y]) u
    go_simp
  · show (callFunc 51 #[x, y]).run Tryd.prog u = .ok (.enter 51 #[x, y]) u
    go_simp
  · show (callFunc 52 #[x, y]).run Tryd.prog u = .ok (.enter 52 #[x, y]) u
    go_simp
  · show (callFunc 53 #[x, y]).run Tryd.prog u = .ok (.enter 53 #[x, y]) u
    go_simp
#print axioms op_any
#print axioms ops_c
end Go.Proofs.YtbeileihbhooaaaDoor
