/-
  More steps of XQ5's and XQ7's walks: a nil check, a struct's building, a store to an address that a source has given. No program is imported.
-/
import Derived.Test.YtnbhiamnoapmlaaQ7
namespace Go.Proofs.Ytnbhiamnoapmlaa
open Go.RowKit
section
variable {P : Program} {l : List Oper} {fs : List Tmp} {FS : Tmp → Value → World → Prop} {I : World → Prop} {E : Act → Prop} {o : Oper} {rest : List Oper} {a : Act}
/-- an operation whose value is the same in every world of the class, and which leaves the world -/
theorem wpF_val (v : Value) (hn : noB l.toArray fs o = true) (hw : Region.wanted o (yielded l.toArray a.tmps) = true)
    (hrun : ∀ w, I w → (execOp a.eval o).run P w = .ok (.value v) w) (h : wpF P l.toArray I fs FS E rest (a.put o.dst v)) : wpF P l.toArray I fs FS E (o :: rest) a := by
  obtain ⟨h1, h2⟩ := noB_spec hn
  refine ⟨v, .inl ⟨h1, h2, .inl ⟨hw, fun w hI => ?_⟩⟩, h⟩
  rw [hrun w hI]
  exact ⟨rfl, rfl⟩
theorem wpF_nil {x : Operand} {ad : Addr} (hop : o.op = .nilCheck x) (hn : noB l.toArray fs o = true) (hw : Region.wanted o (yielded l.toArray a.tmps) = true) (hx : a.eval x = .pointer (some ad))
    (h : wpF P l.toArray I fs FS E rest (a.put o.dst (.pointer (some ad)))) : wpF P l.toArray I fs FS E (o :: rest) a :=
  wpF_val _ hn hw (fun w _ => by simp only [execOp, hop, hx]; rfl) h
/-- the store of XQ7's law, to an address that a source has given -/
theorem wpFS_storeX {St : (Tmp → Value) → World → World → Prop} {t : TypeId} {x y : Operand} (ho : o.op = .store t x y) (hd : o.dst = none) (hg : o.guard = none)
    (hrun : ∀ xs w, I w → (∀ s ∈ fs, FS s (xs s) w) → ∃ w', (Instr.storeAt t ((fill fs xs a).eval x) ((fill fs xs a).eval y)).run P w = .ok () w' ∧ St xs w w') (h : wpFS P l.toArray I fs FS St E none rest a) : wpFS P l.toArray I fs FS St E (some 0) (o :: rest) a := by
  refine ⟨⟨hd, fun xs w hI hs => ⟨by simp [Region.wanted, hg], ?_⟩⟩, h⟩
  obtain ⟨w', hr, hst⟩ := hrun xs w hI hs
  unfold execOp
  simp only [ho]
  rw [Sem.run_bind, hr]
  exact hst
end
end Go.Proofs.Ytnbhiamnoapmlaa
