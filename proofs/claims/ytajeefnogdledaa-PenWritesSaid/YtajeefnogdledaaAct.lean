/-
  An act of a pen, in memory; the contract of cut.
-/
import Derived.Test.YtajeefnogdledaaRef2
import Derived.Test.YtajeefnogdledaaQ2
namespace Go.Proofs.Ytajeefnogdledaa
open Go.RowKit
set_option maxRecDepth 100000

theorem min_at (n K : Nat) (KI : Int) (h : KI = K) : ∃ m : Nat, m = min n K ∧ (if KI < (n : Int) then KI else (n : Int)) = (m : Int) := ⟨_, rfl, by split <;> omega⟩
theorem act_facts {w W : World} {k N : Int} {AL AS AB : Option Addr} {nL cL nS cS nB cB : Nat}
    (hW : (w.alloc (.cells #[.int .i64 k, .int .u32 N, .slice AL nL cL, .slice AS nS cS, .slice AB nB cB] 32)).alloc (.cells #[.int .i64 0, .int .u32 0, .slice none 0 0, .slice none 0 0, .slice none 0 0] 32) = W) :
    W.cell? ⟨w.heap.size, 0, none⟩ = some (.int .i64 k) ∧ W.cell? ⟨w.heap.size, 1, none⟩ = some (.int .u32 N) ∧ W.cell? ⟨w.heap.size, 2, none⟩ = some (.slice AL nL cL) ∧ W.cell? ⟨w.heap.size, 3, none⟩ = some (.slice AS nS cS) ∧ W.cell? ⟨w.heap.size, 4, none⟩ = some (.slice AB nB cB) ∧
      W.frozen? ⟨w.heap.size, 2, none⟩ = false ∧ W.frozen? ⟨w.heap.size, 3, none⟩ = false ∧ W.frozen? ⟨w.heap.size, 4, none⟩ = false ∧
      W.cell? ⟨w.heap.size + 1, 0, none⟩ = some (.int .i64 0) ∧ W.cell? ⟨w.heap.size + 1, 1, none⟩ = some (.int .u32 0) ∧ W.cell? ⟨w.heap.size + 1, 2, none⟩ = some (.slice none 0 0) ∧ W.cell? ⟨w.heap.size + 1, 3, none⟩ = some (.slice none 0 0) ∧ W.cell? ⟨w.heap.size + 1, 4, none⟩ = some (.slice none 0 0) ∧
      W.frozen? ⟨w.heap.size + 1, 0, none⟩ = false ∧ W.frozen? ⟨w.heap.size + 1, 1, none⟩ = false ∧ W.frozen? ⟨w.heap.size + 1, 2, none⟩ = false ∧ W.frozen? ⟨w.heap.size + 1, 3, none⟩ = false ∧ W.frozen? ⟨w.heap.size + 1, 4, none⟩ = false ∧ Below w.heap.size w W := by
  subst hW
  have e : ((w.alloc (.cells #[.int .i64 k, .int .u32 N, .slice AL nL cL, .slice AS nS cS, .slice AB nB cB] 32)).alloc (.cells #[.int .i64 0, .int .u32 0, .slice none 0 0, .slice none 0 0, .slice none 0 0] 32)).heap[w.heap.size]? = some (.cells #[.int .i64 k, .int .u32 N, .slice AL nL cL, .slice AS nS cS, .slice AB nB cB] 32 (0, 0)) := by
    rw [Below.heap_alloc _ _ _ (by simp)]; exact heap_alloc_new w _
  have e1 : ((w.alloc (.cells #[.int .i64 k, .int .u32 N, .slice AL nL cL, .slice AS nS cS, .slice AB nB cB] 32)).alloc (.cells #[.int .i64 0, .int .u32 0, .slice none 0 0, .slice none 0 0, .slice none 0 0] 32)).heap[w.heap.size + 1]? = some (.cells #[.int .i64 0, .int .u32 0, .slice none 0 0, .slice none 0 0, .slice none 0 0] 32 (0, 0)) := by
    have := heap_alloc_new (w.alloc (.cells #[.int .i64 k, .int .u32 N, .slice AL nL cL, .slice AS nS cS, .slice AB nB cB] 32)) (.cells #[.int .i64 0, .int .u32 0, .slice none 0 0, .slice none 0 0, .slice none 0 0] 32)
    simpa using this
  refine ⟨?_, ?_, ?_, ?_, ?_, frozen_of e, frozen_of e, frozen_of e, ?_, ?_, ?_, ?_, ?_, frozen_of e1, frozen_of e1, frozen_of e1, frozen_of e1, frozen_of e1, ((Below.refl _ w).alloc (Nat.le_refl _) _).alloc (by simp) _⟩
  all_goals first
    | (rw [World.cell?, e]; rfl)
    | (rw [World.cell?, e1]; rfl)

set_option maxHeartbeats 1000000 in
theorem cut_go (k N : Int) (AL AS AB : Option Addr) (nL cL nS cS nB cB : Nat) (w : World) (h1 : nL ≤ cL) (h2 : nS ≤ cS) (h3 : nB ≤ cB) :
    Calls Try.prog 8 #[.agg #[.int .i64 k, .int .u32 N, .slice AL nL cL, .slice AS nS cS, .slice AB nB cB]] w fun e w' =>
      e = .returned (.agg #[.int .i64 k, .int .u32 N, .slice AL (min nL 20) cL, .slice AS (min nS 20) cS, .slice AB (min nB 400) cB]) ∧ Below w.heap.size w w' := by
  obtain ⟨mL, hmL, qL⟩ := min_at nL 20 20 rfl
  obtain ⟨mS, hmS, qS⟩ := min_at nS 20 20 rfl
  obtain ⟨mB, hmB, qB⟩ := min_at nB 400 400 rfl
  rw [← hmL, ← hmS, ← hmB]
  have b1 : (mL : Int) ≤ (cL : Int) := by omega
  have b2 : (mS : Int) ≤ (cS : Int) := by omega
  have b3 : (mB : Int) ≤ (cB : Int) := by omega
  have b1' : mL ≤ cL := by omega
  have b2' : mS ≤ cS := by omega
  have b3' : mB ≤ cB := by omega
  clear hmL hmS hmB
  go_enter Try.func8, Try.ntmps8
  go_wp2
  generalize hW : World.alloc _ _ = W
  obtain ⟨c0, c1, c2, c3, c4, f2, f3, f4, d0, d1, d2, d3, d4, g0, g1, g2, g3, g4, hb⟩ := act_facts hW
  have HB := Lib.hid hb
  clear hW hb
  refine wp_region_lex2 (C := fun w' => ∃ n, w' = W.drewN n) (by kernel_rfl) (by kernel_rfl) ⟨1, rfl⟩ ?_
  repeat (first
    | (refine wpQ2_pure rfl ?_; go_big_quiet_step (fail); refine wpQuiet_nil ?_)
    | (refine wpQ2_look rfl ?_; go_big_quiet_step (fail); refine wpQuiet_nil ?_))
  refine wpQ2_store (fun w' => ∃ n, w' = (W.setCell ⟨w.heap.size, 2, none⟩ (.slice AL mL cL)).drewN n) rfl rfl rfl ⟨w.heap.size, 2, none⟩ (.slice AL mL cL) rfl rfl ?_ ?_
  · rintro w1 ⟨n, rfl⟩
    refine ⟨(W.drewN n).setCell ⟨w.heap.size, 2, none⟩ (.slice AL mL cL), ?_, n, rfl⟩
    simp [Instr.storeAt, go_sem, *]
  repeat (first
    | (refine wpQ2_pure rfl ?_; go_big_quiet_step (fail); refine wpQuiet_nil ?_))
  refine wpQ2_store (fun w' => ∃ n, w' = ((W.setCell ⟨w.heap.size, 2, none⟩ (.slice AL mL cL)).setCell ⟨w.heap.size, 3, none⟩ (.slice AS mS cS)).drewN n) rfl rfl rfl ⟨w.heap.size, 3, none⟩ (.slice AS mS cS) rfl rfl ?_ ?_
  · rintro w1 ⟨n, rfl⟩
    refine ⟨((W.setCell ⟨w.heap.size, 2, none⟩ (.slice AL mL cL)).drewN n).setCell ⟨w.heap.size, 3, none⟩ (.slice AS mS cS), ?_, n, rfl⟩
    simp [Instr.storeAt, go_sem, *]
  repeat (first
    | (refine wpQ2_pure rfl ?_; go_big_quiet_step (fail); refine wpQuiet_nil ?_))
  refine wpQ2_store (fun w' => ∃ n, w' = (((W.setCell ⟨w.heap.size, 2, none⟩ (.slice AL mL cL)).setCell ⟨w.heap.size, 3, none⟩ (.slice AS mS cS)).setCell ⟨w.heap.size, 4, none⟩ (.slice AB mB cB)).drewN n) rfl rfl rfl ⟨w.heap.size, 4, none⟩ (.slice AB mB cB) rfl rfl ?_ ?_
  · rintro w1 ⟨n, rfl⟩
    refine ⟨(((W.setCell ⟨w.heap.size, 2, none⟩ (.slice AL mL cL)).setCell ⟨w.heap.size, 3, none⟩ (.slice AS mS cS)).drewN n).setCell ⟨w.heap.size, 4, none⟩ (.slice AB mB cB), ?_, n, rfl⟩
    simp [Instr.storeAt, go_sem, *]
  rintro w2 ⟨n, rfl⟩
  go_wp2
  refine bodyPost_ret (by simp [results, Try.results8, go_sem, d0, d1, d2, d3, d4]; try rfl) rfl ?_
  refine ⟨rfl, ?_⟩
  repeat (first
    | (with_reducible refine Below.setCell ?_ (by first | exact Nat.le_refl _ | exact Nat.le_succ _) _)
    | (with_reducible refine below_drewN ?_ _))
  exact HB.out

/-- an act -/
structure ActD where
  kind : Int
  N : Int
  L : List Int
  S : List Int
  B : List Int
/-- .. that lies below block B -/
def ActAt (w : World) (B : Nat) (d : ActD) (v : Value) : Prop :=
  ∃ AL AS AB nL cL nS cS nB cB, v = .agg #[.int .i64 d.kind, .int .u32 d.N, .slice AL nL cL, .slice AS nS cS, .slice AB nB cB] ∧ d.L.length = nL ∧ d.S.length = nS ∧ d.B.length = nB ∧ nL ≤ cL ∧ nS ≤ cS ∧ nB ≤ cB ∧
    Nums .u64 w B AL d.L ∧ Nums .i64 w B AS d.S ∧ Nums .u8 w B AB d.B
structure ActD.ok (d : ActD) : Prop where
  n0 : 0 ≤ d.N
  n1 : d.N ≤ 4294967295
  l : ∀ c ∈ d.L, 0 ≤ c ∧ c ≤ 18446744073709551615
  s : ∀ c ∈ d.S, -9223372036854775808 ≤ c ∧ c ≤ 9223372036854775807
def ActD.cut (d : ActD) : ActD := { d with L := d.L.take 20, S := d.S.take 20, B := d.B.take 400 }
theorem ActD.ok.cut {d : ActD} (h : d.ok) : d.cut.ok := ⟨h.n0, h.n1, fun c hc => h.l c (List.mem_of_mem_take hc), fun c hc => h.s c (List.mem_of_mem_take hc)⟩
/-- short enough -/
structure ActD.short (d : ActD) : Prop where
  l : d.L.length ≤ 20
  s : d.S.length ≤ 20
  b : d.B.length ≤ 400
theorem ActD.cut_short (d : ActD) : d.cut.short := ⟨by simp [ActD.cut]; omega, by simp [ActD.cut]; omega, by simp [ActD.cut]; omega⟩
theorem ActAt.kept {w w' : World} {B : Nat} {d : ActD} {v : Value} (h : ActAt w B d v) (hb : Below B w w') : ActAt w' B d v := by
  obtain ⟨AL, AS, AB, nL, cL, nS, cS, nB, cB, h1, h2, h3, h4, h5, h6, h7, h8, h9, h10⟩ := h
  exact ⟨AL, AS, AB, nL, cL, nS, cS, nB, cB, h1, h2, h3, h4, h5, h6, h7, h8.below hb, h9.below hb, h10.below hb⟩
theorem cut_any (w : World) (B : Nat) (d : ActD) (v : Value) (h : ActAt w B d v) (hB : B ≤ w.heap.size) :
    Calls Try.prog 8 #[v] w fun e w' => ∃ v', e = .returned v' ∧ ActAt w' B d.cut v' ∧ Below w.heap.size w w' := by
  obtain ⟨AL, AS, AB, nL, cL, nS, cS, nB, cB, rfl, h2, h3, h4, h5, h6, h7, h8, h9, h10⟩ := h
  refine (cut_go d.kind d.N AL AS AB nL cL nS cS nB cB w h5 h6 h7).mono fun e w' he => ⟨_, he.1, ?_, he.2⟩
  have hb := he.2.mono hB
  exact ⟨AL, AS, AB, _, cL, _, cS, _, cB, rfl, by simp [ActD.cut, h2]; omega, by simp [ActD.cut, h3]; omega, by simp [ActD.cut, h4]; omega, by omega, by omega, by omega, (h8.take 20).below hb, (h9.take 20).below hb, (h10.take 400).below hb⟩
end Go.Proofs.Ytajeefnogdledaa
