/- A law on append to a slice of truths that the call itself made, with what it leaves of other such slices. No condition but the slice's length (at most 1000). -/
import Derived.Test.YtlbcodjkcjjoeabDoorRows
import Derived.WalkKit
import Derived.LoopTactic
import Derived.Maps.AppendAt
namespace Go.Proofs.YtlbcodjkcjjoeabDoor
open Go.RowKit

theorem info4 : (Tryd.prog.info? 4).map (fun i => (i.zero, i.size, i.bytes)) = some (some (.bool false), 1, 1) := by kernel_rfl
/-- two slices in different blocks -/
def Ap (v r : Value) : Prop := ∀ g, v.ownBlock = some g → r.ownBlock ≠ some g
theorem Ap.symm {v r : Value} (h : Ap v r) : Ap r v := fun g hr hv => h g hv hr
theorem ap_nil (r : Value) : Ap (.slice none 0 0) r := fun g h => by simp [Value.ownBlock] at h

theorem append_where (w : World) (base ty : Nat) (i : TypeInfo) (hi : Tryd.prog.info? 4 = some i) (hz : i.zero = some (.bool false)) (hsize : i.size = 1) (hby : i.bytes = 1)
    (v : Value) (n : Nat) (xs : List Value) (hown : w.ownsRow base 4 1 v n xs) (a : Addr) (b : Bool) (hnews : ∀ j u, [Value.bool b][j]? = some u → w.cell? (a.add j) = some u) (hn : n ≤ 1000)
    (v' : Value) (w' : World) (hr : (Builtin.append_ #[44, 44] ty #[v, .slice (some a) 1 1]).run Tryd.prog w = .ok v' w') :
    v'.ownBlock = v.ownBlock ∨ ∃ g, v'.ownBlock = some g ∧ w.heap.size ≤ g := by
  rcases hown.2 with ⟨rfl, rfl⟩ | ⟨g, cap, cur, rfl, hbg, hg, hnc, hcm, hcs, htake⟩
  · have h := run_append_nil (P := Tryd.prog) w 44 ty 4 i (.bool false) Tryd.underlying44 hi hz a 1 1 [.bool b] (by rw [hsize]; rfl) hnews (by omega) (by omega) (by rw [hby]; omega)
    rw [hr] at h
    injection h with h1 _
    subst h1
    exact Or.inr ⟨_, rfl, Nat.le_refl _⟩
  · by_cases hroom : n + 1 ≤ cap
    · have h := run_append_room (P := Tryd.prog) w 44 ty 4 i Tryd.underlying44 hi g n cap cur hg a 1 1 [.bool b] (by rw [hsize]; rfl) hnews (fun u hu => by simp at hu; subst hu; rfl) hroom (by rw [hsize]; simp; omega)
      rw [hr] at h
      injection h with h1 _
      subst h1
      exact Or.inl rfl
    · have holds : ∀ j u, xs[j]? = some u → w.cell? ((⟨g, 0, none⟩ : Addr).add j) = some u := hown.cells (g := g) rfl
      have h := run_append_grow (P := Tryd.prog) w 44 ty 4 i (.bool false) Tryd.underlying44 hi hz ⟨g, 0, none⟩ n cap xs (by rw [hown.1, hsize]) holds a 1 1 [.bool b] (by rw [hsize]; rfl) hnews (by omega) (by omega) (growslice_fits (by omega) (by rw [hby]; omega))
      rw [hr] at h
      injection h with h1 _
      subst h1
      exact Or.inr ⟨_, rfl, Nat.le_refl _⟩

theorem app {ops : Array Oper} {rest : List Oper} {o : Oper} {a : Act} {Q : Exit → Act → World → Prop} (w : World) (hgd : o.guard = none) (s x : Operand)
    (ho : o.op = .call { callee := .builtin .append, args := #[s, x], argTypes := #[44, 44] })
    (base : Nat) (v : Value) (n : Nat) (xs : List Value) (hs : a.eval s = v) (hown : w.ownsRow base 4 1 v n xs) (b : Bool) (hx : a.eval x = .slice (some ⟨w.heap.size, 0, none⟩) 1 1)
    (hn : n ≤ 1000) (hbase : base ≤ w.heap.size)
    (h : ∀ v' w', w'.ownsRow base 4 1 v' (n + 1) (xs ++ [.bool b]) → Below base w w' → (∀ r m ys, w.ownsRow base 4 1 r m ys → Ap v r → w'.ownsRow base 4 1 r m ys ∧ Ap v' r) → wpList Tryd.prog ops Q rest (a.put o.dst v') w') :
    wpList Tryd.prog ops Q (o :: rest) a (w.alloc (.cells #[.bool b] 4)) := by
  obtain ⟨i, hi, hz, hsize, hby⟩ := info_parts info4
  have hnews := cell_one_new w (.bool b) 4
  have hsz : base ≤ (w.alloc (.cells #[.bool b] 4)).heap.size := by simp; omega
  have h63 : n + 1 ≤ maxLen := by unfold maxLen; omega
  refine wpList_plain hgd fun _ hK => ?_
  obtain ⟨v', w', hr, h2, h3, _⟩ := run_append_own (P := Tryd.prog) (w.alloc (.cells #[.bool b] 4)) base 44 o.type 4 i (.bool false) 1 1 Tryd.underlying44 hi hz hsize hby rfl (by decide) v n xs (hown.alloc _) ⟨w.heap.size, 0, none⟩ 1 1 [.bool b] rfl hnews (fun u hu => by simp at hu; subst hu; rfl) h63 (by omega) hsz
  have hwh := append_where (w.alloc (.cells #[.bool b] 4)) base o.type i hi hz hsize hby v n xs (hown.alloc _) ⟨w.heap.size, 0, none⟩ b hnews hn v' w' hr
  unfold Oper.wp execOp
  simp only [ho, resolve, invoke, builtin, Sem.run_bind, Sem.run_pure, Result.andThen_ok, List.map_toArray, List.map_cons, List.map_nil, hs, hx, hr]
  refine hK _ _ (h v' w' h2 (((Below.refl _ _).alloc hbase _).grown h3 hsz (fun k hk => (hown.lt k hk).1)) fun r m ys hr1 hap => ⟨(hr1.alloc _).kept h3 ?_, ?_⟩)
  · by_cases hn0 : r.ownBlock = none
    · exact Or.inl hn0
    · obtain ⟨g, hg⟩ := Option.ne_none_iff_exists'.1 hn0
      exact Or.inr (fun e => hap g (e ▸ hg) hg)
  · intro g hg hrg
    rcases hwh with he | ⟨g', hg', hle⟩
    · exact hap g (he ▸ hg) hrg
    · have := (hr1.lt g hrg).2
      have e : g = g' := Option.some.inj (hg.symm.trans hg')
      simp at hle
      omega
end Go.Proofs.YtlbcodjkcjjoeabDoor
