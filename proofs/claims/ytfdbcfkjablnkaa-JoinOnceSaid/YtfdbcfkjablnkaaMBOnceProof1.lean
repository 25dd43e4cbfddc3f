/-
  The law JoinOnce of layer 15 (join) returns true: for every start, room, frames and numbers near, with no condition.
-/
import Derived.Lib.MinMax
import Derived.Deep.Slices
import Derived.Test.YtfdbcfkjablnkaaRows
import Derived.Below
import Derived.WalkKit
import Derived.ProofKit
import Derived.OpenShut
import Derived.ShutString
import Derived.ChangeOld
import Derived.Test.YtfdbcfkjablnkaaMB6
namespace Go.Proofs.Ytfdbcfkjablnkaa
open Go.RowKit Go.Shelf
set_option maxRecDepth 100000

structure TwoF (w2 : World) (bs : Nat) (tf tr tb : TypeId) (g1 g2 : List Fr) (W : World) (u v : Value) : Prop where
  off : Off (fun b => b = bs) w2 W
  box : Boxed W bs tb u
  one : W.ownsRow w2.heap.size tf 6 u g1.length (flatF g1)
  two : W.ownsRow w2.heap.size tr 6 v g2.length (flatF g2)
theorem own_of_block {W W' : World} {base e size n : Nat} {v : Value} {xs : List Value} (h : W.ownsRow base e size v n xs) (hk : ∀ g, base ≤ g → W'.heap[g]? = W.heap[g]?) : W'.ownsRow base e size v n xs :=
  ⟨h.1, h.2.imp id fun ⟨g, cap, cur, hv, hg, hh, r⟩ => ⟨g, cap, cur, hv, hg, (hk g hg).trans hh, r⟩⟩
section
variable {w2 W W' W4 : World} {bs : Nat} {tf tr tb : TypeId} {g1 g2 : List Fr} {u v u' v' : Value} {f : Fr}
theorem TwoF.below (h : TwoF w2 bs tf tr tb g1 g2 W u v) (hb : Below W.heap.size W W') : TwoF w2 bs tf tr tb g1 g2 W' u v :=
  ⟨(h.off.trans (Off.of_below hb : Off (fun b => b = bs) W W') (fun _ _ hS => hS)), (hb.block _ h.box.lt).trans h.box, own_below6 h.one hb, own_below6 h.two hb⟩
theorem TwoF.push1 (h : TwoF w2 bs tf tr tb g1 g2 W u v) (hne : tf ≠ tr) (hbs : bs < w2.heap.size) (hown : W4.ownsRow w2.heap.size tf 6 u' (g1.length + 1) (flatF g1 ++ f.cs.toList)) (hg : W.grownBy W4 u.ownBlock) :
    TwoF w2 bs tf tr tb (g1 ++ [f]) g2 (W4.setCell ⟨bs, 0, none⟩ u') u' v := by
  have hlo : ∀ g, u.ownBlock = some g → w2.heap.size ≤ g := fun g hk => (h.one.lt g hk).1
  have ho : Off (fun b => b = bs) w2 W4 := ⟨hg.os.trans h.off.os, hg.tape.trans h.off.tape, hg.output.trans h.off.output, Nat.le_trans h.off.size hg.size, fun k hk hn => by
    rw [hg.block k (by have := h.off.size; omega) (fun e => by have := hlo k e.symm; omega)]
    exact h.off.block k hk hn⟩
  have hb4 : Boxed W4 bs tb u := h.box.kept hg (fun e => by have := hlo bs e.symm; omega)
  have hset : ∀ g, w2.heap.size ≤ g → (W4.setCell ⟨bs, 0, none⟩ u').heap[g]? = W4.heap[g]? := fun g hg' => Below.heap_setCell W4 ⟨bs, 0, none⟩ _ _ (by simp only; omega)
  refine ⟨ho.setCell (p := ⟨bs, 0, none⟩) rfl _, hb4.set _, ?_, ?_⟩
  · rw [List.length_append, List.length_singleton, flatF_push]
    exact own_of_block hown hset
  · exact own_of_block (h.two.kept hg (own_apart h.two h.one (Ne.symm hne))) hset
theorem TwoF.push2 (h : TwoF w2 bs tf tr tb g1 g2 W u v) (hne : tf ≠ tr) (hbs : bs < w2.heap.size) (hown : W4.ownsRow w2.heap.size tr 6 v' (g2.length + 1) (flatF g2 ++ f.cs.toList)) (hg : W.grownBy W4 v.ownBlock) :
    TwoF w2 bs tf tr tb g1 (g2 ++ [f]) W4 u v' := by
  have hlo : ∀ g, v.ownBlock = some g → w2.heap.size ≤ g := fun g hk => (h.two.lt g hk).1
  refine ⟨⟨hg.os.trans h.off.os, hg.tape.trans h.off.tape, hg.output.trans h.off.output, Nat.le_trans h.off.size hg.size, fun k hk hn => ?_⟩, h.box.kept hg (fun e => by have := hlo bs e.symm; omega), h.one.kept hg (own_apart h.one h.two hne), ?_⟩
  · rw [hg.block k (by have := h.off.size; omega) (fun e => by have := hlo k e.symm; omega)]
    exact h.off.block k hk hn
  · rw [List.length_append, List.length_singleton, flatF_push]
    exact hown
theorem own_frs {base e : Nat} (h : W.ownsRow base e 6 u g1.length (flatF g1)) (hat : ∀ f ∈ g1, f.At W W.heap.size) : ∃ A c, u = .slice A g1.length c ∧ g1.length ≤ c ∧ FrsAt W W.heap.size A g1 := by
  rcases h.2 with ⟨rfl, h0⟩ | ⟨g, cap, cur, rfl, hbg, hh, hle, _⟩
  · rw [List.eq_nil_of_length_eq_zero h0]
    exact ⟨none, 0, rfl, Nat.le_refl _, fun f hf => by simp at hf, fun i f hi => by simp at hi⟩
  · refine ⟨_, cap, rfl, hle, hat, fun j f hj => ⟨g, 0, rfl, (Array.getElem?_eq_some_iff.1 hh).1, fun q x hq => ?_⟩⟩
    have h1 := h.cells (g := g) rfl (j * 6 + q) x (flatF_at hj hq)
    rw [Addr.add_lit] at h1
    rw [Nat.add_assoc]
    exact h1
end
theorem firstBad_push : ∀ (gs : List Fr) (f : Fr), firstBad (gs ++ [f]) = if firstBad gs = 0 then f.chk else firstBad gs
  | [], f => by by_cases h : f.chk = 0 <;> simp [firstBad, h]
  | g :: r, f => by
    rw [List.cons_append, firstBad, firstBad, firstBad_push r f]
    by_cases h : g.chk = 0 <;> simp [h]
/-- a frame, cut -/
def Fr.cut (f : Fr) : Fr := ⟨f.v, f.k, f.s, f.i, f.c, f.a, f.cp, f.zs.take 250⟩
theorem Fr.cut_at {w : World} {B : Nat} {f : Fr} (h : f.At w B) : f.cut.At w B :=
  ⟨h.s0, h.s1, by unfold Fr.cut; simp only [List.length_take]; have := h.room; omega, by unfold Fr.cut; simp only [List.length_take]; have := h.few; omega, h.byte.take 250, h.nums.take 250⟩
end Go.Proofs.Ytfdbcfkjablnkaa

namespace Go.Proofs.Ytfdbcfkjablnkaa
open Go.RowKit Go.Shelf
set_option maxRecDepth 100000
attribute [local go_sem] Oper.semAt_some

/-- a frame, cut -/
theorem cut_any (v k s i c : Int) (A : Option Addr) (n m cp : Nat) (w : World) (hm : min (n : Int) 250 = (m : Int)) (hmn : m ≤ n) (hn : n ≤ cp) :
    Calls Try.prog 6 #[frV v k s i c (.slice A n cp)] w fun e w' => e = .returned (frV v k s i c (.slice A m cp)) ∧ Below w.heap.size w w' := by
  have hmc : (m : Int) ≤ (cp : Int) := by omega
  unfold frV
  have HF : Hid (frC v k s i c (.slice A n cp) = #[.int .i64 v, .int .i64 k, .int .u32 s, .int .i64 i, .int .i64 c, .slice A n cp]) := rfl
  have HG : Hid (frC v k s i c (.slice A m cp) = #[.int .i64 v, .int .i64 k, .int .u32 s, .int .i64 i, .int .i64 c, .slice A m cp]) := rfl
  rw [HF.out, HG.out]
  go_enter Try.func6, Try.ntmps6
  go_wp2
  refine bodyPost_ret (v := .agg #[.int .i64 v, .int .i64 k, .int .u32 s, .int .i64 i, .int .i64 c, .slice A m cp]) (by simp [results, Try.results6, go_sem]) rfl ?_
  exact ⟨rfl, ((Below.refl _ w).alloc (Nat.le_refl _) _).alloc (by simp) _⟩
end Go.Proofs.Ytfdbcfkjablnkaa

namespace Go.Proofs.Ytfdbcfkjablnkaa
open Go.RowKit Go.Shelf
set_option maxRecDepth 100000

theorem room_of15 (x : Int) : ∃ r : Nat, wrap64 (1 + wrap64 ((IntKind.u64.wrap x).tmod 16)) = (r : Int) ∧ 1 ≤ r ∧ r ≤ 16 := by
  have h0 : 0 ≤ IntKind.u64.wrap x := by rw [IntKind.wrap_u64]; omega
  have h1 := Int.tmod_nonneg 16 h0
  have h2 := Int.tmod_lt_of_pos (IntKind.u64.wrap x) (show (0 : Int) < 16 by omega)
  refine ⟨(1 + (IntKind.u64.wrap x).tmod 16).toNat, ?_, by omega, by omega⟩
  unfold wrap64; omega
theorem u32Info15 : (Try.prog.info? 22).map (fun i => (i.zero, i.size, i.bytes)) = some (some (.int .u32 0), 1, 4) := by kernel_rfl
/-- what holds of the law's joiner; its window's numbers by their places Ps; the law's own list has those of the places Qs -/
structure OnceJ (s : Int) (w W : World) (S : Nat → Prop) (bj bw b r : Nat) (t : Int) (q : Nat) (T : List Tb.Ms) (Ps Qs : List Int) (v : Value) (P : Int) : Prop where
  inv : Wn.Inv s P (fun x => x < 0 ∨ x ∈ Ps) t q
  rng : ∀ p ∈ Ps, -100 ≤ p ∧ p < 65536
  sub : ∀ p ∈ Qs, p ∈ Ps
  joi : JAt W S bj bw b r t q T
  low : ∀ p, S p → w.heap.size ≤ p
  lowb : w.heap.size ≤ bw
  own : W.ownsRow w.heap.size 22 1 v Qs.length ((Qs.map (Sr.add s)).map (Value.int .u32))
  sep : ∀ g, v.ownBlock = some g → ¬ S g
  below : Below w.heap.size w W
section
variable {s : Int} {w W W' : World} {S : Nat → Prop} {bj bw b r : Nat} {t : Int} {q : Nat} {T : List Tb.Ms} {Ps Qs : List Int} {v : Value} {P : Int}
theorem own_row15 (h : W.ownsRow w.heap.size 22 1 v Qs.length ((Qs.map (Sr.add s)).map (Value.int .u32))) : ∃ A c, v = .slice A Qs.length c ∧ Qs.length ≤ c ∧ Nums .u32 W W.heap.size A (Qs.map (Sr.add s)) := by
  rw [show Qs.length = (Qs.map (Sr.add s)).length by simp] at h
  obtain ⟨A, c, h1, h2, h3⟩ := own_len h
  rw [List.length_map] at h1 h2
  exact ⟨A, c, h1, h2, h3⟩
theorem OnceJ.later (h : OnceJ s w W S bj bw b r t q T Ps Qs v P) (hb : Below W.heap.size W W') : OnceJ s w W' S bj bw b r t q T Ps Qs v P :=
  ⟨h.inv, h.rng, h.sub, h.joi.below hb, h.low, h.lowb, tord_off (T := fun _ => False) h.own (Off.of_below hb) fun _ _ h => h, h.sep, h.below.trans (hb.mono h.below.size)⟩
theorem OnceJ.come (h : OnceJ s w W S bj bw b r t q T Ps Qs v P) {p : Int} (hp : -100 ≤ p ∧ p < 65536) (hm : Sr.add s p ∈ Qs.map (Sr.add s)) : Wn.look t q (Sr.add s p) ≠ 0 := fun h0 => by
  obtain ⟨p', h1, h2⟩ := List.mem_map.1 hm
  have h3 := h.sub p' h1
  have h4 := h.rng p' h3
  have h5 : p' = p := by unfold Sr.add at h2; omega
  subst h5
  rcases (h.inv.look_new (p := p') (by omega)).1 h0 with h6 | h6
  · have := h.inv.le p' (.inr h3); omega
  · exact h6.2 (.inr h3)
/-- the list's block is a row of numbers -/
theorem OnceJ.rowty (h : OnceJ s w W S bj bw b r t q T Ps Qs v P) {g : Nat} (hg : v.ownBlock = some g) : ∃ cs, W.heap[g]? = some (.cells cs 22 (0, 0)) := by
  obtain ⟨A, c, rfl, _, _⟩ := own_row15 h.own
  exact tord_row (base := w.heap.size) h.own hg
theorem OnceJ.lt15 (h : OnceJ s w W S bj bw b r t q T Ps Qs v P) {g : Nat} (hg : v.ownBlock = some g) : w.heap.size ≤ g ∧ g < W.heap.size := h.own.lt g hg
/-- a frame comes -/
theorem OnceJ.take (h : OnceJ s w W S bj bw b r t q T Ps Qs v P) (f : Fr) (hf : f.At W W.heap.size) :
    Calls Try.prog 7 #[.pointer (some ⟨bj, 0, none⟩), frV f.v f.k f.s f.i f.c (.slice f.a f.zs.length f.cp)] W fun e W' => ∃ A2 n c2 wh ev old er, e = .returned (.tuple #[outV A2 n c2 wh ev old, .int .i64 er]) ∧ (Wn.look t q f.s ≠ 0 → er ≠ 0) ∧ (wh = true → Wn.look t q f.s = 0) ∧
      (∃ S' T', OnceJ s w W' S' bj bw b r t q T' Ps Qs v P) ∧ ∀ (g : Nat) (cs : Array Value) (tt : TypeId), W.heap[g]? = some (.cells cs tt (0, 0)) → tt ≠ 75 → tt ≠ 22 → W'.heap[g]? = some (.cells cs tt (0, 0)) := by
  refine (jtake_any h.joi f hf).mono ?_
  rintro e W' hR
  obtain ⟨A2, c2, rfl, _, _, ho, S', hJ, hS'⟩ := hR
  have hlt := h.joi.lt
  refine ⟨A2, _, c2, _, _, _, _, rfl, fun h0 => ?_, fun h1 => ?_, ⟨S', _, h.inv, h.rng, h.sub, hJ, fun p hp => ?_, h.lowb, tord_off h.own ho fun g hg hs => h.sep g hg hs.1, fun g hg hs => ?_, h.below.trans (ho.below h.low h.below.size)⟩, fun g cs tt hg h1 h2 => (TOff.keep ho (Array.getElem?_eq_some_iff.1 hg).1 (h.joi.tys.not hg h1 h2)).trans hg⟩
  · have h2 : jwhy t q f ≠ 0 := by
      unfold jwhy
      split
      · assumption
      · exact h0
    unfold jtake
    rw [if_pos h2]
    exact h2
  · unfold jtake at h1
    split at h1
    · cases h1
    · rename_i h2
      have h2 : jwhy t q f = 0 := by simpa using h2
      unfold jwhy at h2
      split at h2
      · rename_i h3; exact absurd h2 h3
      · exact h2
  · rcases hS' p hp with h1 | h1
    · exact h.low p h1
    · exact Nat.le_trans h.below.size h1
  · rcases hS' g hs with h1 | h1
    · exact h.sep g hg h1
    · have := (h.lt15 hg).2; omega
/-- a number has come -/
theorem OnceJ.done (h : OnceJ s w W S bj bw b r t q T Ps Qs v P) {p : Int} (hp : -100 ≤ p ∧ p < 65536) :
    Calls Try.prog 8 #[.pointer (some ⟨bj, 0, none⟩), .int .u32 (Sr.add s p)] W fun e W' => e = .returned (.int .i64 (Wn.look t q (Sr.add s p))) ∧
      (Wn.look t q (Sr.add s p) = 0 → ∃ S' T' P', OnceJ s w W' S' bj bw b r (Wn.nt t (Sr.add s p)) (Wn.nq t q (Sr.add s p)) T' (Ps ++ [p]) Qs v P') ∧ (Wn.look t q (Sr.add s p) ≠ 0 → ∃ S' T', OnceJ s w W' S' bj bw b r t q T' Ps Qs v P) ∧
      ∀ (g : Nat) (cs : Array Value) (tt : TypeId), W.heap[g]? = some (.cells cs tt (0, 0)) → tt ≠ 75 → tt ≠ 22 → tt ≠ 80 → W'.heap[g]? = some (.cells cs tt (0, 0)) := by
  have hz := Sr.add_lt s p
  refine (jdone_any h.joi (z := Sr.add s p) (by omega)).mono ?_
  rintro e W' ⟨rfl, ho, S', hJ, hS'⟩
  have hbw : ∀ (g : Nat) (cs : Array Value) (tt : TypeId), W.heap[g]? = some (.cells cs tt (0, 0)) → tt ≠ 80 → g ≠ bw := fun g cs tt h1 h2 e => by
    have h3 : W.heap[bw]? = _ := h.joi.win
    rw [e, h3] at h1
    injection h1 with h1
    injection h1 with _ h1
    exact h2 h1.symm
  have hown := tord_off h.own ho fun g hg hs => by
    obtain ⟨cs, hc⟩ := h.rowty hg
    rcases hs.1 with h1 | h1
    · exact h.sep g hg h1
    · exact hbw g cs _ hc (by decide) h1
  have hbel := h.below.trans (ho.below (fun q hq => by
    rcases hq with h1 | h1
    · exact h.low q h1
    · rw [h1]; exact h.lowb) h.below.size)
  refine ⟨rfl, fun h0 => ?_, fun h0 => ?_, fun g cs tt hg h1 h2 h3 => (TOff.keep ho (Array.getElem?_eq_some_iff.1 hg).1 fun hs => ?_).trans hg⟩
  · rw [if_pos h0, if_pos h0, if_pos h0] at hJ
    refine ⟨S', _, _, (h.inv.come (p := p) (by omega) h0).congr fun x => ?_, fun x hx => ?_, fun x hx => List.mem_append_left _ (h.sub x hx), hJ, fun x hx => h.low x (hS' x hx), h.lowb, hown, fun g hg hs => h.sep g hg (hS' g hs), hbel⟩
    · rw [List.mem_append, List.mem_singleton]
      exact ⟨fun h => h.elim (fun h => .inl (.inl h)) (fun h => h.elim (fun h => .inl (.inr h)) .inr), fun h => h.elim (fun h => h.elim .inl (fun h => .inr (.inl h))) (fun h => .inr (.inr h))⟩
    · rcases List.mem_append.1 hx with h1 | h1
      · exact h.rng x h1
      · rw [List.mem_singleton] at h1; omega
  · rw [if_neg h0, if_neg h0, if_neg h0] at hJ
    exact ⟨S', _, h.inv, h.rng, h.sub, hJ, fun x hx => h.low x (hS' x hx), h.lowb, hown, fun g hg hs => h.sep g hg (hS' g hs), hbel⟩
  · rcases hs with h4 | h4
    · exact h.joi.tys.not hg h1 h2 h4
    · exact hbw g cs tt hg h3 h4
/-- the list grows -/
theorem OnceJ.push {p : Int} {v' : Value} {o : Obj} (h : OnceJ s w W S bj bw b r t q T Ps Qs v P) (hp : p ∈ Ps) (hown : W'.ownsRow w.heap.size 22 1 v' (Qs.length + 1) ((Qs.map (Sr.add s)).map (Value.int .u32) ++ [.int .u32 (Sr.add s p)])) (hg : (W.alloc o).grownBy W' v.ownBlock)
    (hat : v'.ownBlock = v.ownBlock ∨ v'.ownBlock = some (W.alloc o).heap.size) : OnceJ s w W' S bj bw b r t q T Ps (Qs ++ [p]) v' P := by
  have ho := grown_off3 hg
  have hto : TOff (fun g => v.ownBlock = some g) W W' := Off.mono ho fun g hgl e => ⟨e, fun cs hc => by
    obtain ⟨cs', h1⟩ := h.rowty e
    rw [h1] at hc
    injection hc with hc
    injection hc with _ hc _
    exact absurd hc (by decide), fun cs hc => by
    obtain ⟨cs', h1⟩ := h.rowty e
    rw [h1] at hc
    injection hc with hc
    injection hc with _ hc _
    exact absurd hc (by decide)⟩
  have hnot : ∀ (g : Nat) (cs : Array Value) (tt : TypeId), W.heap[g]? = some (.cells cs tt (0, 0)) → tt ≠ 22 → ¬ v.ownBlock = some g := fun g cs tt h1 h2 e => by
    obtain ⟨cs', h3⟩ := h.rowty e
    rw [h3] at h1
    injection h1 with h1
    injection h1 with _ h1 _
    exact h2 h1.symm
  refine ⟨h.inv, h.rng, fun x hx => ?_, h.joi.toff hto (fun x hx e => h.sep x e hx) (hnot _ _ _ h.joi.row (by decide)) (hnot _ _ _ (show W.heap[bw]? = _ from h.joi.win) (by decide)), h.low, h.lowb, ?_, fun g hg2 hs => ?_, h.below.trans (ho.below (fun g e => (h.lt15 e).1) h.below.size)⟩
  · rcases List.mem_append.1 hx with h1 | h1
    · exact h.sub x h1
    · rw [List.mem_singleton] at h1; rw [h1]; exact hp
  · rw [List.length_append, List.length_singleton, List.map_append, List.map_append]
    exact hown
  · rcases hat with e | e
    · exact h.sep g (by rw [← e]; exact hg2) hs
    · rw [e] at hg2
      injection hg2 with hg2
      have := h.joi.lt g hs
      rw [World.size_alloc] at hg2
      omega
end
set_option maxHeartbeats 16000000 in
theorem jonce_go (s : Int) (hs : 0 ≤ s ∧ s < 4294967296) (x : Int) (A : Option Addr) (n cp : Nat) (fs : List Fr) (a : Option Addr) (m c : Nat) (es : List Int) (w : World) (hn : fs.length = n) (hcp : n ≤ cp) (h1 : FrsAt w w.heap.size A fs)
    (hm : es.length = m) (hmc : m ≤ c) (hz : ∀ z ∈ es, 0 ≤ z ∧ z < 65536) (h2 : Nums .u16 w w.heap.size a es) :
    Calls Try.prog 3 #[.int .u32 s, .int .i64 x, .slice A n cp, .slice a m c] w fun e w' => e = .returned (.bool true) ∧ Below w.heap.size w w' := by
  obtain ⟨j0, hj, hj0, hj1, hj2⟩ := info_parts u32Info15
  have hnc : (n : Int) ≤ (cp : Int) := by omega
  have hmci : (m : Int) ≤ (c : Int) := by omega
  obtain ⟨r, hr, hr1, hr2⟩ := room_of15 x
  have HKN := Lib.hid (fun W => jknown_any W)
  have HNW := Lib.hid (jnew_any s (r : Int) hs w)
  have H1 := Lib.hid h1
  have HN := Lib.hid hn
  have H2 := Lib.hid h2
  have HM := Lib.hid hm
  have HZ := Lib.hid hz
  have HR := Lib.hid hr
  clear h1 hn h2 hm hz hr hcp hmc
  go_enter Try.func3, Try.ntmps3
  go_wp2_with fail
  rw [HR.out]
  refine HNW.out.mono ?_
  rintro e w1 (⟨h, _⟩ | ⟨r', hr', S, bj, bw, b, rfl, hJ, hS, hbw, hbj, hb1⟩)
  · exact absurd ⟨by omega, by omega⟩ h
  obtain rfl : r' = r := by omega
  have H0 : Hid (OnceJ s w w1 S bj bw b r' (Sr.add s (-1)) 18446744073709551615 [] [] [] (.slice none 0 0) (-1)) := Lib.hid
    ⟨(Wn.Inv.start s).congr fun x => by simp, fun p hp => (by cases hp), fun p hp => (by cases hp), hJ, hS, hbw, World.ownsRow_nil _ _ _ _, fun g hg => by simp [Value.ownBlock] at hg, hb1⟩
  clear hJ hb1 hS HNW hr' HR hbw hbj
  go_wp2_with fail
  go_loopw [11, 12] (fun v iv wr => ∃ (j : Nat) (S : Nat → Prop) (t : Int) (q : Nat) (T : List Tb.Ms) (Ps Qs : List Int) (P : Int), j ≤ n ∧ j ≤ 100 ∧ Qs.length ≤ j ∧ iv = .int .i64 (j : Int) ∧ Hid (OnceJ s w wr S bj bw b r' t q T Ps Qs v P)) (fun _ iv _ => 100 - (intOf iv).toNat)
  case atStart => exact ⟨0, _, _, _, _, _, _, _, by omega, by omega, by simp, rfl, H0⟩
  case round =>
    clear H0
    obtain ⟨j, S, t, q, T, Ps, Qs, P, hjn, hj100, hQj, rfl, HO⟩ := hrel
    by_cases hA : j < n ∧ j < 100
    · have hj1' : (j : Int) < (n : Int) := by omega
      have hj2' : (j : Int) < 100 := by omega
      obtain ⟨Av, cv, rfl, hcv, hnv⟩ := own_row15 HO.out.own
      obtain ⟨f, hfj⟩ : ∃ f, fs[j]? = some f := ⟨_, List.getElem?_eq_getElem (by rw [HN.out]; omega)⟩
      have hat := H1.out.1 f (List.mem_of_getElem? hfj)
      have hfl : (f.zs.take 250).length = min 250 f.zs.length := List.length_take
      have KC : ∀ W, Calls Try.prog 6 #[.agg #[.int .i64 f.v, .int .i64 f.k, .int .u32 f.s, .int .i64 f.i, .int .i64 f.c, .slice f.a f.zs.length f.cp]] W fun e w' => e = .returned (.agg #[.int .i64 f.cut.v, .int .i64 f.cut.k, .int .u32 f.cut.s, .int .i64 f.cut.i, .int .i64 f.cut.c, .slice f.cut.a f.cut.zs.length f.cut.cp]) ∧ Below W.heap.size W w' :=
        fun W => cut_any f.v f.k f.s f.i f.c f.a f.zs.length (f.zs.take 250).length f.cp W (by omega) (by omega) hat.room
      obtain ⟨g, off, hAA, hg, a0, a1, a2, a3, a4, a5⟩ := (H1.out.below HO.out.below).six hfj
      subst hAA
      have HCA := Lib.hid (Fr.cut_at hat)
      have HKC := Lib.hid KC
      clear KC hat hfl hfj
      generalize f.cut = h at HCA HKC
      go_wp2_with fail
      refine (HKC.out wr).mono ?_
      rintro e W3 ⟨rfl, hb3⟩
      obtain ⟨N, p, hN, hp, hpos, hneg⟩ : ∃ N p, Sr.add s p = N ∧ (-100 ≤ p ∧ p < 65536) ∧ (∀ z, es[j]? = some z → ((s + z) % 4294967296 - 50) % 4294967296 = N) ∧ (es[j]? = none → s = N) := by
        cases he : es[j]? with
        | none => exact ⟨s, 0, by unfold Sr.add; omega, by omega, fun z h => (by cases h), fun _ => rfl⟩
        | some z =>
          have hzb := HZ.out z (List.mem_of_getElem? he)
          exact ⟨Sr.add s (z - 50), z - 50, rfl, by omega, fun z' h => by injection h with h; subst h; unfold Sr.add; omega, fun h => (by cases h)⟩
      have hNb : 0 ≤ N ∧ N < 4294967296 := by rw [← hN]; exact Sr.add_lt _ _
      obtain ⟨W4, hW4⟩ : ∃ W4, W3.alloc (.cells (frC h.v h.k N h.i h.c (.slice h.a h.zs.length h.cp)) 35) = W4 := ⟨_, rfl⟩
      have hb34 : Below W3.heap.size W3 W4 := by rw [← hW4]; exact (Below.refl _ _).alloc (Nat.le_refl _) _
      have hb4 := hb3.trans (hb34.mono hb3.size)
      have hO4 := HO.out.later hb4
      obtain ⟨gf, hgf⟩ : ∃ gf, W3.heap.size = gf := ⟨_, rfl⟩
      have hx4 : W4.heap[gf]? = some (.cells (frC h.v h.k N h.i h.c (.slice h.a h.zs.length h.cp)) 35 (0, 0)) := by rw [← hW4, ← hgf]; exact World.alloc_heap_new _ _
      have hat4 : (⟨h.v, h.k, N, h.i, h.c, h.a, h.cp, h.zs⟩ : Fr).At W4 W4.heap.size := by
        have h0 := (HCA.out.below hO4.below).mono hO4.below.size
        exact ⟨by show 0 ≤ N; omega, by show N ≤ 4294967295; omega, h0.room, h0.few, h0.byte, h0.nums⟩
      have KT := hO4.take ⟨h.v, h.k, N, h.i, h.c, h.a, h.cp, h.zs⟩ hat4
      obtain ⟨d0, d1, d2, d3, d4, d5⟩ := fr_block hx4
      unfold frV at KT
      simp only [frC] at KT hW4
      have HKT := Lib.hid KT
      have HW4 := Lib.hid hW4
      have HO4 := Lib.hid hO4
      have HX4 := Lib.hid hx4
      have HGF := Lib.hid hgf
      have HPN := Lib.hid hN
      have HPB := Lib.hid hp
      have HB3 := Lib.hid hb3
      clear hW4 hb34 hb4 hO4 hx4 hat4 hb3 a0 a1 a2 a3 a4 a5 HKC KT hN hp hgf
      by_cases hjm : j < m
      case' pos =>
        obtain ⟨z, he⟩ : ∃ z, es[j]? = some z := ⟨_, List.getElem?_eq_getElem (by rw [HM.out]; exact hjm)⟩
        have hjm' : (j : Int) < (m : Int) := by omega
        have hzU := HZ.out z (List.mem_of_getElem? he)
        obtain ⟨b1, o1, rfl, hb1, hc1⟩ := ((H2.out.below (HO.out.below.trans (HB3.out.mono HO.out.below.size)))).open he
        have hb1' : b1 < W3.heap.size := by have := HB3.out.size; have := HO.out.below.size; omega
        have hc1' : (W3.alloc (.cells #[.int .i64 h.v, .int .i64 h.k, .int .u32 h.s, .int .i64 h.i, .int .i64 h.c, .slice h.a h.zs.length h.cp] 35)).cell? ⟨b1, o1 + j, none⟩ = some (.int .u16 z) :=
          (((Below.refl W3.heap.size W3).alloc (Nat.le_refl _) (.cells #[.int .i64 h.v, .int .i64 h.k, .int .u32 h.s, .int .i64 h.i, .int .i64 h.c, .slice h.a h.zs.length h.cp] 35)).cell (p := ⟨b1, o1 + j, none⟩) hb1').trans hc1
        have HN2 := Lib.hid (hpos z he)
        have HN3 : Hid ((s + z - 50) % 4294967296 = N) := Lib.hid (by have := HN2.out; omega)
        clear hpos hneg he d0 d1 d2 d3 d4 d5
        go_wp2_with fail
        rw [HN2.out, HN3.out, HW4.out]
      case' neg =>
        have hjm' : ¬ (j : Int) < (m : Int) := by omega
        have HSN := Lib.hid (hneg (List.getElem?_eq_none (by rw [HM.out]; omega)))
        clear hpos hneg d0 d1 d2 d3 d4 d5
        go_wp2_with fail
        rw [show W3.alloc (.cells #[.int .i64 h.v, .int .i64 h.k, .int .u32 s, .int .i64 h.i, .int .i64 h.c, .slice h.a h.zs.length h.cp] 35) = W4 from by rw [HSN.out]; exact HW4.out,
          show Value.agg #[.int .i64 h.v, .int .i64 h.k, .int .u32 s, .int .i64 h.i, .int .i64 h.c, .slice h.a h.zs.length h.cp] = .agg #[.int .i64 h.v, .int .i64 h.k, .int .u32 N, .int .i64 h.i, .int .i64 h.c, .slice h.a h.zs.length h.cp] from by rw [HSN.out]]
      all_goals (
        rw [HGF.out]
        refine HKT.out.mono ?_
        rintro e W5 ⟨A2, n2, c2, wh, ev, old, er, rfl, her, hwh, ⟨S5, T5, hO5⟩, hkeep⟩
        obtain ⟨W6, hW6⟩ : ∃ W6, W5.alloc (.cells (outC A2 n2 c2 wh ev old) 39) = W6 := ⟨_, rfl⟩
        have hb56 : Below W5.heap.size W5 W6 := by rw [← hW6]; exact (Below.refl _ _).alloc (Nat.le_refl _) _
        obtain ⟨go, hgo⟩ : ∃ go, W5.heap.size = go := ⟨_, rfl⟩
        have hxo6 : W6.heap[go]? = some (.cells (outC A2 n2 c2 wh ev old) 39 (0, 0)) := by rw [← hW6, ← hgo]; exact World.alloc_heap_new _ _
        have hxf6 := row_stays (hkeep _ _ _ HX4.out (by decide) (by decide)) hb56
        have hO6 := hO5.later hb56
        obtain ⟨A6, c6, e6, _, hn6⟩ := own_row15 hO6.own
        injection e6 with e61 e62 e63
        subst e61 e63
        clear e62
        have HO6 := Lib.hid hO6
        have HXO := Lib.hid hxo6
        have HXF := Lib.hid hxf6
        have HN6 := Lib.hid hn6
        have HGO := Lib.hid hgo
        have HER := Lib.hid her
        have HWH := Lib.hid hwh
        have hgol : go < W6.heap.size := (Array.getElem?_eq_some_iff.1 hxo6).1
        have hgfl : gf < W6.heap.size := (Array.getElem?_eq_some_iff.1 hxf6).1
        have hW6' : Hid (W5.alloc (.cells #[.slice A2 n2 c2, .bool wh, .bool ev, .int .u32 old] 39) = W6) := Lib.hid hW6
        clear hb56 hxo6 hxf6 hO6 hn6 hO5 hkeep hW6 hgo her hwh hnv HKT HO4 HX4 HW4
        unfold outV
        simp only [outC]
        go_wp2_with fail
        rw [hW6'.out, HGO.out]
        go_loopw [16] (fun kv wx => ∃ k : Nat, k ≤ Qs.length ∧ kv = .int .i64 (k : Int) ∧ Below W6.heap.size W6 wx) (fun kv _ => Qs.length - (intOf kv).toNat)
        case atStart => exact ⟨0, by omega, rfl, Below.refl _ _⟩
        case round =>
          rename World => wx
          obtain ⟨k, hkQ, rfl, hbx⟩ := hrel
          rcases Nat.lt_or_ge k Qs.length with hk | hk
          · obtain ⟨y, hy⟩ : ∃ y, (Qs.map (Sr.add s))[k]? = some y := ⟨_, List.getElem?_eq_getElem (by rw [List.length_map]; exact hk)⟩
            have hym := List.mem_of_getElem? hy
            obtain ⟨b2, o2, rfl, hb2, hc2⟩ := HN6.out.open hy
            have hk' : (k : Int) < (Qs.length : Int) := by omega
            have hkc : (k : Int) < (cv : Int) := by omega
            have LD : ∀ V, Below wx.heap.size wx V → (Instr.loadAt 22 (.pointer (some ⟨b2, o2 + k, none⟩))).run Try.prog V = .ok (.int .u32 y) V := fun V hV => by
              have hV6 := hbx.trans (hV.mono hbx.size)
              have := (hV6.cell (p := ⟨b2, o2 + k, none⟩) hb2).trans hc2
              simp [Instr.loadAt, go_sem, this]
            have LN : ∀ V, Below wx.heap.size wx V → (Instr.loadAt 22 (.pointer (some ⟨gf, 2, none⟩))).run Try.prog V = .ok (.int .u32 N) V := fun V hV => by
              obtain ⟨d0, d1, d2, d3, d4, d5⟩ := fr_block (row_stays HXF.out (hbx.trans (hV.mono hbx.size)))
              simp [Instr.loadAt, go_sem, d2]
            have hcase : ((y == N) = true ∧ (er == 0) = false) ∨ (y == N) = false := by
              by_cases hyN : y = N
              · refine .inl ⟨by simpa using hyN, ?_⟩
                rw [beq_eq_false_iff_ne]
                refine HER.out ?_
                rw [← HPN.out]
                exact HO.out.come HPB.out (by rw [HPN.out, ← hyN]; exact hym)
              · exact .inr (by simpa using hyN)
            have HBX := Lib.hid hbx
            clear hy hym hc2 hbx
            rcases hcase with ⟨hyN, hne⟩ | hyN
            case' inl =>
              go_wp2_with fail
            case' inr =>
              go_wp2_with fail
            all_goals (
              refine wp_region_F 113 [] (fun _ _ _ => True) (fun V => Below wx.heap.size wx V) (by kernel_rfl) (by kernel_rfl) (by rfl) (by simp) (fun W W' h hb => h.trans (hb.mono h.size)) (fun q x W W' h hb => trivial) (Below.refl _ _).drew ?_
              repeat (refine wpF_pure rfl rfl ?_; go_big_quiet_step (fail); refine wpQuiet_nil ?_)
              refine wpF_load (.int .u32 y) rfl (by rfl) (by rfl) (by rfl) LD ?_
              simp only [Act.put, List.setIfInBounds_toArray, List.set_cons_succ, List.set_cons_zero]
              repeat (refine wpF_pure rfl rfl ?_; go_big_quiet_step (fail); refine wpQuiet_nil ?_)
              refine wpF_load (.int .u32 N) rfl (by rfl) (by rfl) (by rfl) LN ?_
              simp only [Act.put, List.setIfInBounds_toArray, List.set_cons_succ, List.set_cons_zero]
              repeat (refine wpF_pure rfl rfl ?_; go_big_quiet_step (fail); refine wpQuiet_nil ?_)
              intro xs V hV _
              have HV := Lib.hid (HBX.out.trans (hV.mono HBX.out.size))
              simp only [fill]
              clear hV LD LN
              go_wp2
              go_roundw
              case rel => exact ⟨k + 1, by omega, by go_num, HV.out⟩
              case measure => simp [intOf]; omega)
          · have hkq : k = Qs.length := by omega
            subst hkq
            have hO7 := HO6.out.later hbx
            have hxo7 := row_stays HXO.out hbx
            have hxf7 := row_stays HXF.out hbx
            obtain ⟨k0, k1, k2, k3⟩ := out_block hxo7
            have hQ1 : Qs.length ≤ 100 := by omega
            cases wh with
            | false =>
              have HFIN := Lib.hid hO7
              clear hO7 hxo7 hxf7 hbx HWH HER
              go_wp2
              go_roundw
              case rel => exact ⟨j + 1, _, _, _, _, _, _, _, by omega, by omega, by omega, by go_num, HFIN⟩
              case measure => simp [intOf]; omega
            | true =>
              have hL0 : Wn.look t q N = 0 := HWH.out rfl
              obtain ⟨d0, d1, d2, d3, d4, d5⟩ := fr_block hxf7
              have KD := hO7.done HPB.out
              rw [HPN.out, hL0] at KD
              have HXF7 := Lib.hid hxf7
              have HLK := Lib.hid (Wn.look_again hL0)
              clear hO7 hxo7 hxf7 hbx HWH HER hL0
              go_wp2_with fail
              refine KD.mono ?_
              rintro e W8 ⟨rfl, h81, _, hkeep⟩
              obtain ⟨S8, T8, P8, hO8⟩ := h81 trivial
              have hxf8 := hkeep _ _ _ HXF7.out (by decide) (by decide) (by decide)
              have KD2 := hO8.done HPB.out
              rw [HPN.out, HLK.out] at KD2
              obtain ⟨d0, d1, d2, d3, d4, d5⟩ := fr_block hxf8
              have HXF8 := Lib.hid hxf8
              clear h81 hkeep hO8 hxf8 KD k0 k1 k2 k3
              go_wp2_with fail
              refine KD2.mono ?_
              rintro e W9 ⟨rfl, _, h92, hkeep⟩
              obtain ⟨S9, T9, hO9⟩ := h92 (by decide)
              obtain ⟨d0, d1, d2, d3, d4, d5⟩ := fr_block (hkeep _ _ _ HXF8.out (by decide) (by decide) (by decide))
              have HO9 := Lib.hid hO9
              have HOW := Lib.hid (tord_off (T := fun _ => False) hO9.own (Off.of_below ((Below.refl W9.heap.size W9).alloc (Nat.le_refl _) (.cells #[.int .u32 N] 22))) fun _ _ h => h)
              have HNW : Hid (∀ (i : Nat) (u : Value), [Value.int .u32 N][i]? = some u → (W9.alloc (.cells #[.int .u32 N] 22)).cell? ((⟨W9.heap.size, 0, none⟩ : Addr).add i) = some u) := Lib.hid (cell_one_new _ _ _)
              have HX1 : Hid (Qs.length + 1 ≤ maxLen) := by show _ ≤ _; unfold maxLen; omega
              have HX2 : Hid ((Qs.length + 1) * 4 ≤ 140737488355328) := by show _ ≤ _; omega
              have HX3 : Hid (w.heap.size ≤ (W9.alloc (.cells #[.int .u32 N] 22)).heap.size) := by show _ ≤ _; have := hO9.below.size; rw [World.size_alloc]; omega
              clear h92 hkeep hO9 KD2
              go_wp2_with (at_builtin; refine wpList_append_own_at _ rfl (.tmp 106) (.tmp 110) 30 rfl w.heap.size 22 j0 (.int .u32 0) 1 4 Try.underlying30 hj hj0 hj1 hj2 rfl (by decide) _ _ _ rfl HOW.out ⟨W9.heap.size, 0, none⟩ 1 1 [.int .u32 N] rfl rfl HNW.out (by simp [Value.oneCell']) HX1.out HX2.out HX3.out ?_)
              intro v' w4 hown4 hgrow4 _ hat4
              have HFIN : Hid (OnceJ s w w4 S9 bj bw b r' _ _ T9 (Ps ++ [p]) (Qs ++ [p]) v' P8) := Lib.hid (HO9.out.push (by simp) (by rw [HPN.out, List.map_map]; exact hown4) hgrow4 (by rw [World.size_alloc]; exact hat4))
              clear hown4 hgrow4 hat4 HO9 HOW HNW HXF8 HXF7 d0 d1 d2 d3 d4 d5
              go_wp2
              go_roundw
              case rel => exact ⟨j + 1, _, _, _, _, _, _, _, by omega, by omega, by simp; omega, by go_num, HFIN⟩
              case measure => simp [intOf]; omega)
    · by_cases hj1 : j < n
      case' pos =>
        have hj1' : (j : Int) < (n : Int) := by omega
        have hj2' : ¬ (j : Int) < 100 := by omega
      case' neg =>
        have hj1' : ¬ (j : Int) < (n : Int) := by omega
      all_goals (
        clear hA hj1
        go_wp2_with fail
        refine (HKN.out wr).mono ?_
        rintro e wz ⟨rfl, hbz⟩
        have HBZ := Lib.hid (HO.out.below.trans (hbz.mono HO.out.below.size))
        clear hbz
        go_wp2
        go_ret
        exact ⟨rfl, HBZ.out⟩)
end Go.Proofs.Ytfdbcfkjablnkaa

namespace Go.Proofs.Ytfdbcfkjablnkaa.joinOnce
open Go.ChangeShapes Go.WideShapes Go.ChangeAt Go.RowKit
open Go.ChangeMaps (open_string shut_string)
set_option linter.unusedVariables false

theorem own : ownKnob Try.prog.godebug = none := by kernel_rfl
theorem laidOut : laidOutB Try.prog = true := by kernel_rfl

set_option maxRecDepth 100000 in
theorem lifted (os : Os) (started : os.Started) (H : Type) (enc : TypeId × Value → H) :
    ReturnsInHanded {} Try.checked os 3 .any (Rows.joinOnceSpec.pre6 enc Try.prog Try.f3 Rows.joinOnceRow.domain false) (Rows.joinOnceSpec.post enc Try.prog Try.f3 false true false false) := by
  refine returnsInHanded_of_change (C := Try.checked) own started (by kernel_rfl) Try.func3
    (ChangeSpec.witness6 (enc := enc) (C := Try.checked) false ⟨#[], #[.int .u32 0, .int .i64 0, .slice none 0 0, .slice none 0 0], []⟩ 8 (by kernel_rfl) (by kernel_rfl) (by kernel_rfl) (by kernel_rfl)) ?_
  intro W base args ds gs before hval0 hW hcnd _
  have hval : ∀ (j : Nat) t v, Try.f3.params[j]? = some t → args[j]? = some v → Value.okWide Try.prog W .any base t v := hval0
  have hW' := hW
  obtain ⟨p, q, hA0, hV, rfl, hfz, hnd⟩ := hW
  have hA : DataW.TrodAll enc Try.prog W 0 (fun _ => true) true Try.f3.params.toList args.toList ds p := hA0
  rw [Try.params3] at hA hval
  obtain ⟨v0, vs0, d0, ds0, p0, q0, hargs, rfl, rfl, h0, r0⟩ := trodAll_cons hA
  obtain ⟨v1, vs1, d1, ds1, p1, q1, rfl, rfl, rfl, h1, r1⟩ := trodAll_cons r0
  obtain ⟨v2, vs2, d2, ds2, p2, q2, rfl, rfl, rfl, h2, r2⟩ := trodAll_cons r1
  obtain ⟨v3, vs3, d3, ds3, p3, q3, rfl, rfl, rfl, h3, r3⟩ := trodAll_cons r2
  obtain ⟨rfl, rfl, rfl⟩ := trodAll_nil r3
  obtain rfl : args = #[v0, v1, v2, v3] := by cases args; simp_all
  obtain ⟨rfl, rfl⟩ := trodVars_none hV
  obtain ⟨a0, rfl, rfl, rfl, w0⟩ := open_int Try.underlying22 (hval 0 22 v0 rfl rfl) h0
  obtain ⟨a1, rfl, rfl, rfl, w1⟩ := open_int Try.underlying3 (hval 1 3 v1 rfl rfl) h1
  obtain ⟨a2, len2, cap2, rfl⟩ := okWide_slice Try.underlying23 (hval 2 23 v2 rfl rfl)
  have k2 := h2
  have lt2 : ∀ x ∈ p2, x.block < W.heap.size := by obtain ⟨m, hm⟩ := k2; exact DataW.trod_lt m _ _ _ hm
  obtain ⟨e2, hd2, hx2, hm2, w2, wf2⟩ := (by
    obtain ⟨fuel, hf⟩ := h2
    exact frs_of hf : ∃ fs : List Fr, fs.length = len2 ∧ len2 ≤ 9223372036854775807 ∧ len2 ≤ cap2 ∧ FrsAt W W.heap.size a2 fs ∧ ∀ f ∈ fs, f.Wf)
  obtain ⟨a3, len3, cap3, rfl⟩ := okWide_slice Try.underlying24 (hval 3 24 v3 rfl rfl)
  have k3 := h3
  have lt3 : ∀ x ∈ p3, x.block < W.heap.size := by obtain ⟨m, hm⟩ := k3; exact DataW.trod_lt m _ _ _ hm
  obtain ⟨e3, hd3, hm3, w3⟩ : ∃ es : List Int, es.length = len3 ∧ len3 ≤ cap3 ∧ Nums .u16 W W.heap.size a3 es ∧ ∀ z ∈ es, (Lit.int .u16 z).wf = true := by
    obtain ⟨fuel, hf⟩ := h3
    obtain ⟨_, _, _, es, he, q⟩ := row_of Try.underlying24 Try.underlying37 (by kernel_rfl) hf
    injection he with e1 e2 e3
    subst e1 e2 e3
    exact ⟨es, q⟩
  clear hA0 hval0
  refine (jonce_go a0 (by have := bounds_u32 w0; omega) a1 a2 len2 cap2 e2 a3 len3 cap3 e3 W hd2 hm2 w2 hd3 hm3 (fun z hz => by have := bounds_u16 (w3.2 z hz); omega) w3.1).mono fun e W' ⟨he, bel⟩ => ?_
  subst he
  exact ⟨_, rfl, _, _, _, [], _, [], hW', trodAll_mk1 (shut_bool Try.underlying4 _), (trodAll_cons_mk (shut_int Try.underlying22 w0) (trodAll_cons_mk (shut_int Try.underlying3 w1) (trodAll_cons_mk (Below.trod laidOut (by kernel_rfl) (of_decide_eq_true (by kernel_rfl)) k2 bel lt2) (trodAll_cons_mk (Below.trod laidOut (by kernel_rfl) (of_decide_eq_true (by kernel_rfl)) k3 bel lt3) trodAll_mk0)))), rfl, bel.frame _, fun h => by cases h⟩

theorem over : Rows.joinOnceRow.holds Try.pinned (OpenSpec.ofChange Rows.joinOnceSpec) :=
  OpenClaim.holds_of_wide 3 Try.f3 rfl rfl rfl rfl rfl rfl rfl ⟨rfl, rfl, rfl, rfl, rfl⟩ rfl rfl rfl rfl rfl (by kernel_rfl) Try.func3 (by kernel_rfl)
    (of_decide_eq_true (by kernel_rfl)) (by unfold Func.isWrapper; first | (rw [if_pos (by decide +kernel)]; kernel_rfl) | (rw [if_neg (by decide +kernel)]; exact ⟨rfl, rfl⟩))
    (fun os started H enc _ => lifted os started H enc)

theorem proved : Rows.JoinOnceSaid := over
#print axioms proved
end Go.Proofs.Ytfdbcfkjablnkaa.joinOnce
