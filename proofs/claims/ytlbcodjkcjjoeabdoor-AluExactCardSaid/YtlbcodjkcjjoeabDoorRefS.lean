/- What the reference's Shift comes to, as a contract over the translation. Conditions: bytes are 0 to 255. -/
import Derived.Test.YtlbcodjkcjjoeabDoorRefI
import Derived.Test.YtlbcodjkcjjoeabDoorPlainD
namespace Go.Proofs.YtlbcodjkcjjoeabDoor
open Go.ChangeShapes Go.WideShapes Go.ChangeAt Go.RowKit
set_option linter.unusedVariables false

theorem appM {ops : Array Oper} {rest : List Oper} {o : Oper} {a : Act} {Q : Exit → Act → World → Prop} (w : World) (hgd : o.guard = none) (s x : Operand)
    (ho : o.op = .call { callee := .builtin .append, args := #[s, x], argTypes := #[44, 44] })
    (base : Nat) (v : Value) (n : Nat) (xs : List Value) (hs : a.eval s = v) (hown : w.ownsRow base 4 1 v n xs) (ad : Addr) (m c : Nat) (news : List Value) (hx : a.eval x = .slice (some ad) m c) (hl : news.length = m * 1)
    (hnews : ∀ j u, news[j]? = some u → w.cell? (ad.add j) = some u) (h1 : ∀ u ∈ news, u.oneCell' = true) (hn : n + m ≤ 1000) (hbase : base ≤ w.heap.size)
    (h : ∀ v' w', w'.ownsRow base 4 1 v' (n + m) (xs ++ news) → Below base w w' → wpList Tryd.prog ops Q rest (a.put o.dst v') w') :
    wpList Tryd.prog ops Q (o :: rest) a w := by
  obtain ⟨i, hi, hz, hsize, hby⟩ := info_parts info4
  refine wpList_append_own w hgd s x 44 ho base 4 i (.bool false) 1 1 Tryd.underlying44 hi hz hsize hby rfl (by decide) v n xs hs hown ad m c news hx hl hnews h1 (by unfold maxLen; omega) (by omega) hbase ?_
  intro v' w' h2 h3 _
  exact h v' w' h2 ((Below.refl _ _).grown h3 hbase (fun k hk => (hown.lt k hk).1))
theorem addAt (b o j : Nat) : (⟨b, o, none⟩ : Addr).add j = ⟨b, o + j, none⟩ := by unfold Addr.add; split <;> simp_all
theorem owns_lit (w : World) (base : Nat) (b : Bool) (hb : base ≤ w.heap.size) : (w.alloc (.cells #[.bool b] 4)).ownsRow base 4 1 (.slice (some ⟨w.heap.size, 0, none⟩) 1 1) 1 [.bool b] :=
  ⟨rfl, .inr ⟨w.heap.size, 1, #[.bool b], rfl, hb, heap_alloc_new w _, Nat.le_refl _, by unfold maxLen; omega, rfl, rfl⟩⟩
/-- m cells of a row of truths from place o on, as news -/
theorem newsOf (w : World) (b n : Nat) (f : Nat → Bool) (hc : ∀ i, i < n → w.cell? ⟨b, i, none⟩ = some (.bool (f i))) (o m : Nat) (hm : o + m ≤ n) :
    ∀ j u, ((List.range m).map fun i => Value.bool (f (o + i)))[j]? = some u → w.cell? ((⟨b, o, none⟩ : Addr).add j) = some u := by
  intro j u hj
  rw [addAt]
  rw [List.getElem?_map] at hj
  by_cases h : j < m
  · rw [List.getElem?_range h] at hj
    simp only [Option.map_some, Option.some.injEq] at hj
    rw [← hj]
    exact hc _ (by omega)
  · rw [List.getElem?_eq_none (by simpa using h)] at hj
    cases hj
theorem oneBools (m : Nat) (f : Nat → Bool) : ∀ u ∈ ((List.range m).map fun i => Value.bool (f i)), u.oneCell' = true := by
  intro u hu
  simp only [List.mem_map] at hu
  obtain ⟨i, _, rfl⟩ := hu
  rfl
/-- what comes in at the low end -/
def inLow (b : Bool) (A j : Nat) : Bool := if j = 0 then b else bitB A (j - 1)
/-- what comes in at the high end -/
def inHigh (b : Bool) (A j : Nat) : Bool := if j = 7 then b else bitB A (j + 1)
def halves (A j : Nat) : Bool := if j < 4 then bitB A (j + 4) else bitB A (j - 4)
theorem natAll {p : Nat → Prop} [DecidablePred p] (h : decide (∀ n : Fin 256, p n.val) = true) (x : Nat) (h1 : x ≤ 255) : p x := of_decide_eq_true h ⟨x, by omega⟩
theorem lowFin (A : Nat) (b : Bool) (hA : A ≤ 255) : ((numF (inLow b A) 8 : Nat) : Int) = (A : Int) * 2 % 256 + b2n b := by
  cases b
  · exact natAll (p := fun A => ((numF (inLow false A) 8 : Nat) : Int) = (A : Int) * 2 % 256 + (b2n false : Nat)) (by decide +kernel) A hA
  · exact natAll (p := fun A => ((numF (inLow true A) 8 : Nat) : Int) = (A : Int) * 2 % 256 + (b2n true : Nat)) (by decide +kernel) A hA
theorem highFin (A : Nat) (b : Bool) (hA : A ≤ 255) : ((numF (inHigh b A) 8 : Nat) : Int) = (A : Int) / 2 + (b2n b : Nat) * 128 := by
  cases b
  · exact natAll (p := fun A => ((numF (inHigh false A) 8 : Nat) : Int) = (A : Int) / 2 + (b2n false : Nat) * 128) (by decide +kernel) A hA
  · exact natAll (p := fun A => ((numF (inHigh true A) 8 : Nat) : Int) = (A : Int) / 2 + (b2n true : Nat) * 128) (by decide +kernel) A hA
theorem halvesFin (A : Nat) (hA : A ≤ 255) : ((numF (halves A) 8 : Nat) : Int) = (A : Int) % 16 * 16 + (A : Int) / 16 :=
  natAll (p := fun A => ((numF (halves A) 8 : Nat) : Int) = (A : Int) % 16 * 16 + (A : Int) / 16) (by decide +kernel) A hA
theorem top (A : Nat) (hA : A ≤ 255) : ((b2n (bitB A 7) : Nat) : Int) = (A : Int) / 128 := natAll (p := fun A => ((b2n (bitB A 7) : Nat) : Int) = (A : Int) / 128) (by decide +kernel) A hA
theorem low (A : Nat) (hA : A ≤ 255) : ((b2n (bitB A 0) : Nat) : Int) = (A : Int) % 2 := natAll (p := fun A => ((b2n (bitB A 0) : Nat) : Int) = (A : Int) % 2) (by decide +kernel) A hA
theorem topB (A : Nat) (hA : A ≤ 255) : bitB A 7 = ((A : Int) / 128 == 1) := natAll (p := fun A => bitB A 7 = ((A : Int) / 128 == 1)) (by decide +kernel) A hA
theorem lowB (A : Nat) (hA : A ≤ 255) : bitB A 0 = ((A : Int) % 2 == 1) := natAll (p := fun A => bitB A 0 = ((A : Int) % 2 == 1)) (by decide +kernel) A hA
theorem lowList (b : Bool) (A : Nat) : [Value.bool b] ++ ((List.range 7).map fun i => Value.bool (bitB A (0 + i))) = (List.range 8).map fun j => Value.bool (inLow b A j) := rfl
theorem highList (b : Bool) (A : Nat) : ([] ++ ((List.range 7).map fun i => Value.bool (bitB A (1 + i)))) ++ [Value.bool b] = (List.range 8).map fun j => Value.bool (inHigh b A j) := rfl
theorem halvesList (A : Nat) : ([] ++ ((List.range 4).map fun i => Value.bool (bitB A (4 + i)))) ++ ((List.range 4).map fun i => Value.bool (bitB A (0 + i))) = (List.range 8).map fun j => Value.bool (halves A j) := rfl
end Go.Proofs.YtlbcodjkcjjoeabDoor
