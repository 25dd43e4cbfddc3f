/-
  The law FramePacks returns true at every list of frames.
-/
import Derived.Test.YtbohdmconeebeaaDoorRows
import Derived.Maps.AppendAt
import Derived.OrdersIn
import Derived.TacticsIn
import Derived.RangeFuncCalls
import Derived.Test.YtbohdmconeebeaaDoorCards
import Derived.Test.YtbohdmconeebeaaDoorTie
import Derived.ChangeOld
import Derived.SevenTiedAt
import Derived.Test.YtbohdmconeebeaaDoorMC4
namespace Go.Proofs.YtbohdmconeebeaaDoor
open Go.RowKit Go.Shelf
set_option maxRecDepth 100000
attribute [local go_sem] Oper.semAt_some

theorem of_frame (v k s i c : Int) (A : Option Addr) (n cp : Nat) (w : World) : Calls Tryd.prog 6 #[frV v k s i c (.slice A n cp)] w fun e w' => e = .returned (frV v k s i c (.slice A n cp)) ∧ Below w.heap.size w w' := by
  have hb : Below w.heap.size w ((w.alloc (.cells (frC v k s i c (.slice A n cp)) 31)).alloc (.cells (frC v k s i c (.slice A n cp)) 35)) := ((Below.refl _ w).alloc (Nat.le_refl _) _).alloc (by simp) _
  have HB := Lib.hid hb
  unfold frV
  have HF : Hid (frC v k s i c (.slice A n cp) = #[.int .i64 v, .int .i64 k, .int .u32 s, .int .i64 i, .int .i64 c, .slice A n cp]) := rfl
  rw [HF.out] at HB ⊢
  clear hb
  go_enter Tryd.func6, Tryd.ntmps6
  go_wp2
  refine bodyPost_ret (v := .agg #[.int .i64 v, .int .i64 k, .int .u32 s, .int .i64 i, .int .i64 c, .slice A n cp]) (by simp [results, Tryd.results6, go_sem]) rfl ?_
  exact ⟨rfl, HB.out⟩
end Go.Proofs.YtbohdmconeebeaaDoor

namespace Go.Proofs.YtbohdmconeebeaaDoor
open Go.RowKit
set_option maxRecDepth 100000
theorem intInfo : (Tryd.prog.info? 3).map (fun i => (i.zero, i.size, i.bytes)) = some (some (.int .i64 0), 1, 8) := by kernel_rfl
end Go.Proofs.YtbohdmconeebeaaDoor

namespace Go.Proofs.YtbohdmconeebeaaDoor
open Go.RowKit Go.Shelf
set_option maxRecDepth 100000

/-- the cells of frames, one behind the other -/
def flatF (fs : List Fr) : List Value := fs.flatMap fun f => f.cs.toList
theorem flatF_len (fs : List Fr) : (flatF fs).length = fs.length * 6 := by
  induction fs with
  | nil => rfl
  | cons f r ih => unfold flatF at *; rw [List.flatMap_cons, List.length_append, ih, List.length_cons]; have : f.cs.toList.length = 6 := rfl; omega
theorem flatF_push (fs : List Fr) (f : Fr) : flatF (fs ++ [f]) = flatF fs ++ f.cs.toList := by unfold flatF; simp
theorem flatF_at : ∀ {fs : List Fr} {j q : Nat} {f : Fr} {u : Value}, fs[j]? = some f → f.cs[q]? = some u → (flatF fs)[j * 6 + q]? = some u
  | [], _, _, _, _, h, _ => by simp at h
  | g :: r, 0, q, f, u, h, hq => by
    simp only [List.getElem?_cons_zero, Option.some.injEq] at h
    subst h
    have hlt : q < 6 := (Array.getElem?_eq_some_iff.1 hq).1
    unfold flatF
    rw [List.flatMap_cons, List.getElem?_append_left (by show 0 * 6 + q < 6; omega), Nat.zero_mul, Nat.zero_add, Array.getElem?_toList]
    exact hq
  | g :: r, j + 1, q, f, u, h, hq => by
    have ih := flatF_at (fs := r) (j := j) (q := q) (f := f) (u := u) (by simpa using h) hq
    unfold flatF at *
    have h6 : g.cs.toList.length = 6 := rfl
    rw [List.flatMap_cons, List.getElem?_append_right (by rw [h6]; omega), h6, show (j + 1) * 6 + q - 6 = j * 6 + q by omega]
    exact ih
/-- two rows of unlike types lie apart -/
theorem own_apart {W : World} {base e e2 size size2 n m : Nat} {v u : Value} {xs ys : List Value} (h : W.ownsRow base e size v n xs) (h2 : W.ownsRow base e2 size2 u m ys) (hne : e ≠ e2) : v.ownBlock = none ∨ v.ownBlock ≠ u.ownBlock := by
  rcases h.2 with ⟨rfl, _⟩ | ⟨g, cap, cur, rfl, _, hh, _⟩
  · exact .inl rfl
  · right
    rcases h2.2 with ⟨rfl, _⟩ | ⟨g2, cap2, cur2, rfl, _, hh2, _⟩
    · simp [Value.ownBlock]
    · intro e3
      simp only [Value.ownBlock, Option.some.injEq] at e3
      subst e3
      rw [hh] at hh2
      injection hh2 with hh2
      injection hh2 with _ ht
      exact hne ht
theorem own_below6 {W W' : World} {base e size n : Nat} {v : Value} {xs : List Value} (h : W.ownsRow base e size v n xs) (hb : Below W.heap.size W W') : W'.ownsRow base e size v n xs := by
  refine ⟨h.1, ?_⟩
  rcases h.2 with h | ⟨g, cap, cur, hv, hg, hh, r⟩
  · exact .inl h
  · exact .inr ⟨g, cap, cur, hv, hg, (hb.block g (Array.getElem?_eq_some_iff.1 hh).1).trans hh, r⟩
/-- frames that lie there, their payloads with them -/
def FrsIn (w : World) (B : Nat) (A : Option Addr) (fs : List Fr) : Prop :=
  ∀ (j : Nat) (f : Fr), fs[j]? = some f → ∃ b, A = some ⟨b, 0, none⟩ ∧ b < B ∧ (∀ (q : Nat) (u : Value), f.cs[q]? = some u → w.cell? ⟨b, j * 6 + q, none⟩ = some u) ∧ f.zs.length ≤ f.cp ∧ Nums .u8 w B f.a f.zs
theorem FrsIn.below {w w' : World} {B : Nat} {A : Option Addr} {fs : List Fr} (h : FrsIn w B A fs) (hb : Below B w w') : FrsIn w' B A fs := fun j f hj => by
  obtain ⟨b, e, hB, hc, hl, hn⟩ := h j f hj
  exact ⟨b, e, hB, fun q u hq => (hb.cell (p := ⟨b, j * 6 + q, none⟩) hB).trans (hc q u hq), hl, hn.below hb⟩
theorem FrsIn.mono {w : World} {B B' : Nat} {A : Option Addr} {fs : List Fr} (h : FrsIn w B A fs) (hB : B ≤ B') : FrsIn w B' A fs := fun j f hj => by
  obtain ⟨b, e, hb, hc, hl, hn⟩ := h j f hj
  exact ⟨b, e, by omega, hc, hl, hn.mono hB⟩

/-- a row of frames, a row of numbers; the payloads in neither -/
structure FL (tf ti : TypeId) (base : Nat) (W : World) (v u : Value) (fs : List Fr) (es : List Int) : Prop where
  out : W.ownsRow base tf 6 v fs.length (flatF fs)
  err : W.ownsRow base ti 1 u es.length (es.map (Value.int .i64))
  pay : ∀ f ∈ fs, f.zs.length ≤ f.cp ∧ NumsS .u8 W (fun b => b < W.heap.size ∧ v.ownBlock ≠ some b ∧ u.ownBlock ≠ some b) f.a f.zs
section
variable {tf ti : TypeId} {base : Nat} {W W3 W4 W6 : World} {v v' u u' : Value} {fs : List Fr} {es : List Int}
theorem FL.start (tf ti : TypeId) (base : Nat) (W : World) : FL tf ti base W (.slice none 0 0) (.slice none 0 0) [] [] := ⟨World.ownsRow_nil _ _ _ _, World.ownsRow_nil _ _ _ _, fun f hf => by cases hf⟩
theorem FL.below {W' : World} (h : FL tf ti base W v u fs es) (hb : Below W.heap.size W W') : FL tf ti base W' v u fs es :=
  ⟨own_below6 h.out hb, own_below6 h.err hb, fun f hf => ⟨(h.pay f hf).1, ((h.pay f hf).2.keeps (KeepS.of_below hb fun _ hk => hk.1)).more fun _ hk => ⟨Nat.lt_of_lt_of_le hk.1 hb.size, hk.2⟩⟩⟩
theorem FL.err4 (h : FL tf ti base W v u fs es) (hne : tf ≠ ti) (hg : W.grownBy W4 v.ownBlock) : W4.ownsRow base ti 1 u es.length (es.map (Value.int .i64)) := h.err.kept hg (own_apart h.err h.out (Ne.symm hne))
/-- a frame and a number more -/
theorem FL.push {f : Fr} {e : Int} {o : Obj} (h : FL tf ti base W v u fs es) (hne : tf ≠ ti) (hb : Below W.heap.size W W3) (hf : f.zs.length ≤ f.cp) (hn : NumsS .u8 W3 (fun b => W.heap.size ≤ b ∧ b < W3.heap.size) f.a f.zs)
    (hown : W4.ownsRow base tf 6 v' (fs.length + 1) (flatF fs ++ f.cs.toList)) (hg : W3.grownBy W4 v.ownBlock) (hat : v'.ownBlock = v.ownBlock ∨ v'.ownBlock = some W3.heap.size)
    (hown2 : W6.ownsRow base ti 1 u' (es.length + 1) (es.map (Value.int .i64) ++ [.int .i64 e])) (hg2 : (W4.alloc o).grownBy W6 u.ownBlock) (hat2 : u'.ownBlock = u.ownBlock ∨ u'.ownBlock = some (W4.alloc o).heap.size) :
    FL tf ti base W6 v' u' (fs ++ [f]) (es ++ [e]) := by
  have hs3 := hb.size
  have hs4 := hg.size
  have hs6 := hg2.size
  rw [World.size_alloc] at hs6 hat2
  have he4 := (h.below hb).err4 hne hg
  -- what lies below W3's end, in neither row
  have key : ∀ a zs, NumsS .u8 W3 (fun b => b < W3.heap.size ∧ v.ownBlock ≠ some b ∧ u.ownBlock ≠ some b) a zs → NumsS .u8 W6 (fun b => b < W6.heap.size ∧ v'.ownBlock ≠ some b ∧ u'.ownBlock ≠ some b) a zs := fun a zs hz => by
    have h4 : KeepS (fun b => b < W3.heap.size ∧ v.ownBlock ≠ some b ∧ u.ownBlock ≠ some b) W3 W6 :=
      ⟨by omega, fun k hk => (hg2.block k (by rw [World.size_alloc]; omega) (fun e => hk.2.2 e.symm)).trans ((Below.heap_alloc W4 o k (by omega)).trans (hg.block k hk.1 (fun e => hk.2.1 e.symm)))⟩
    refine (hz.keeps h4).more fun k hk => ⟨by omega, fun e3 => ?_, fun e3 => ?_⟩
    · rcases hat with h5 | h5
      · exact hk.2.1 (h5.symm.trans e3)
      · rw [h5] at e3; injection e3 with e3; omega
    · rcases hat2 with h5 | h5
      · exact hk.2.2 (h5.symm.trans e3)
      · rw [h5] at e3; injection e3 with e3; omega
  refine ⟨?_, ?_, fun g hg' => ?_⟩
  · rw [flatF_push, List.length_append, List.length_singleton]
    refine (hown.alloc o).kept hg2 ?_
    rcases own_apart hown he4 hne with h5 | h5
    · exact .inl h5
    · exact .inr h5
  · rw [List.length_append, List.length_singleton, List.map_append]
    exact hown2
  · rcases List.mem_append.1 hg' with hg' | hg'
    · have h5 := (h.below hb).pay g hg'
      exact ⟨h5.1, key _ _ h5.2⟩
    · obtain rfl : g = f := by simpa using hg'
      refine ⟨hf, key _ _ (hn.more fun k hk => ⟨hk.2, fun e => ?_, fun e => ?_⟩)⟩
      · have := (h.out.lt k e).2; omega
      · have := (h.err.lt k e).2; omega
theorem FL.lies (h : FL tf ti base W v u fs es) : ∃ A c, v = .slice A fs.length c ∧ fs.length ≤ c ∧ FrsIn W W.heap.size A fs := by
  rcases h.out.2 with ⟨rfl, h0⟩ | ⟨g, cap, cur, rfl, hbg, hh, hle, _⟩
  · rw [List.eq_nil_of_length_eq_zero h0]
    exact ⟨none, 0, rfl, Nat.le_refl _, fun i f hi => by simp at hi⟩
  · refine ⟨_, cap, rfl, hle, fun j f hj => ⟨g, rfl, (Array.getElem?_eq_some_iff.1 hh).1, fun q u hq => ?_, (h.pay f (List.mem_of_getElem? hj)).1, (h.pay f (List.mem_of_getElem? hj)).2.nums fun _ hk => hk.1⟩⟩
    have h1 := h.out.cells (g := g) rfl (j * 6 + q) u (flatF_at hj hq)
    rw [Addr.add_lit, Nat.zero_add] at h1
    exact h1
end
end Go.Proofs.YtbohdmconeebeaaDoor

namespace Go.Proofs.YtbohdmconeebeaaDoor
open Go.RowKit Go.Shelf
set_option maxRecDepth 100000

structure TwoF (w2 : World) (bs : Nat) (tf tr tb : TypeId) (g1 g2 : List Fr) (W : World) (u v : Value) : Prop where
  off : Off (fun b => b = bs) w2 W
  box : Boxed W bs tb u
  one : W.ownsRow w2.heap.size tf 6 u g1.length (flatF g1)
  two : W.ownsRow w2.heap.size tr 6 v g2.length (flatF g2)
theorem own_of_block {W W' : World} {base e size n : Nat} {v : Value} {xs : List Value} (h : W.ownsRow base e size v n xs) (hk : ∀ g, base ≤ g → W'.heap[g]? = W.heap[g]?) : W'.ownsRow base e size v n xs :=
  ⟨h.1, h.2.imp id fun ⟨g, cap, cur, hv, hg, hh, r⟩ => ⟨g, cap, cur, hv, hg, (hk g hg).trans hh, r⟩⟩
section
variable {w2 W W' W4 : World} {bs : Nat} {tf tr tb : TypeId} {g1 g2 : List Fr} {u v u' v' : Value} {f : Fr}
theorem TwoF.below (h : TwoF w2 bs tf tr tb g1 g2 W u v) (hb : Below W.heap.size W W') : TwoF w2 bs tf tr tb g1 g2 W' u v :=
  ⟨(h.off.trans (Off.of_below hb : Off (fun b => b = bs) W W') (fun _ _ hS => hS)), (hb.block _ h.box.lt).trans h.box, own_below6 h.one hb, own_below6 h.two hb⟩
theorem TwoF.push1 (h : TwoF w2 bs tf tr tb g1 g2 W u v) (hne : tf ≠ tr) (hbs : bs < w2.heap.size) (hown : W4.ownsRow w2.heap.size tf 6 u' (g1.length + 1) (flatF g1 ++ f.cs.toList)) (hg : W.grownBy W4 u.ownBlock) :
    TwoF w2 bs tf tr tb (g1 ++ [f]) g2 (W4.setCell ⟨bs, 0, none⟩ u') u' v := by
  have hlo : ∀ g, u.ownBlock = some g → w2.heap.size ≤ g := fun g hk => (h.one.lt g hk).1
  have ho : Off (fun b => b = bs) w2 W4 := ⟨hg.os.trans h.off.os, hg.tape.trans h.off.tape, hg.output.trans h.off.output, Nat.le_trans h.off.size hg.size, fun k hk hn => by
    rw [hg.block k (by have := h.off.size; omega) (fun e => by have := hlo k e.symm; omega)]
    exact h.off.block k hk hn⟩
  have hb4 : Boxed W4 bs tb u := h.box.kept hg (fun e => by have := hlo bs e.symm; omega)
  have hset : ∀ g, w2.heap.size ≤ g → (W4.setCell ⟨bs, 0, none⟩ u').heap[g]? = W4.heap[g]? := fun g hg' => Below.heap_setCell W4 ⟨bs, 0, none⟩ _ _ (by simp only; omega)
  refine ⟨ho.setCell (p := ⟨bs, 0, none⟩) rfl _, hb4.set _, ?_, ?_⟩
  · rw [List.length_append, List.length_singleton, flatF_push]
    exact own_of_block hown hset
  · exact own_of_block (h.two.kept hg (own_apart h.two h.one (Ne.symm hne))) hset
theorem TwoF.push2 (h : TwoF w2 bs tf tr tb g1 g2 W u v) (hne : tf ≠ tr) (hbs : bs < w2.heap.size) (hown : W4.ownsRow w2.heap.size tr 6 v' (g2.length + 1) (flatF g2 ++ f.cs.toList)) (hg : W.grownBy W4 v.ownBlock) :
    TwoF w2 bs tf tr tb g1 (g2 ++ [f]) W4 u v' := by
  have hlo : ∀ g, v.ownBlock = some g → w2.heap.size ≤ g := fun g hk => (h.two.lt g hk).1
  refine ⟨⟨hg.os.trans h.off.os, hg.tape.trans h.off.tape, hg.output.trans h.off.output, Nat.le_trans h.off.size hg.size, fun k hk hn => ?_⟩, h.box.kept hg (fun e => by have := hlo bs e.symm; omega), h.one.kept hg (own_apart h.one h.two hne), ?_⟩
  · rw [hg.block k (by have := h.off.size; omega) (fun e => by have := hlo k e.symm; omega)]
    exact h.off.block k hk hn
  · rw [List.length_append, List.length_singleton, flatF_push]
    exact hown
theorem own_frs {base e : Nat} (h : W.ownsRow base e 6 u g1.length (flatF g1)) (hat : ∀ f ∈ g1, f.At W W.heap.size) : ∃ A c, u = .slice A g1.length c ∧ g1.length ≤ c ∧ FrsAt W W.heap.size A g1 := by
  rcases h.2 with ⟨rfl, h0⟩ | ⟨g, cap, cur, rfl, hbg, hh, hle, _⟩
  · rw [List.eq_nil_of_length_eq_zero h0]
    exact ⟨none, 0, rfl, Nat.le_refl _, fun f hf => by simp at hf, fun i f hi => by simp at hi⟩
  · refine ⟨_, cap, rfl, hle, hat, fun j f hj => ⟨g, 0, rfl, (Array.getElem?_eq_some_iff.1 hh).1, fun q x hq => ?_⟩⟩
    have h1 := h.cells (g := g) rfl (j * 6 + q) x (flatF_at hj hq)
    rw [Addr.add_lit] at h1
    rw [Nat.add_assoc]
    exact h1
end
theorem firstBad_push : ∀ (gs : List Fr) (f : Fr), firstBad (gs ++ [f]) = if firstBad gs = 0 then f.chk else firstBad gs
  | [], f => by by_cases h : f.chk = 0 <;> simp [firstBad, h]
  | g :: r, f => by
    rw [List.cons_append, firstBad, firstBad, firstBad_push r f]
    by_cases h : g.chk = 0 <;> simp [h]
/-- a frame, cut -/
def Fr.cut (f : Fr) : Fr := ⟨f.v, f.k, f.s, f.i, f.c, f.a, f.cp, f.zs.take 250⟩
theorem Fr.cut_at {w : World} {B : Nat} {f : Fr} (h : f.At w B) : f.cut.At w B :=
  ⟨h.s0, h.s1, by unfold Fr.cut; simp only [List.length_take]; have := h.room; omega, by unfold Fr.cut; simp only [List.length_take]; have := h.few; omega, h.byte.take 250, h.nums.take 250⟩
end Go.Proofs.YtbohdmconeebeaaDoor

namespace Go.Proofs.YtbohdmconeebeaaDoor
open Go.RowKit

section
variable {F : Fence} {n : Nat} {P : Program} {g : Operand} {ps : Array Tmp} {assign body : Code} {Q : Exit → Act → World → Prop} {a : Act} {w : World}
theorem range_stopb {α : Type} (hro : F.round = none) (h1 : 1 ≤ n) {gf : Nat} {lb : Array Value} (hg : a.eval g = .func (.func gf) #[] lb) (hFg : F.fn gf) (eg : ∀ args w, (callFunc gf args).run P w = .ok (.enter gf args) w)
    (enc : α → Array Value) (hps : ∀ x, (enc x).size = ps.size) (Rd : Nat → α → World → Prop) (Fx : Nat → α → Nat → World → Prop) (Dn : Nat → World → Prop) (Sx : Code → World → Prop) (Kp : World → World → Prop) (N : Nat)
    (hFp : ∀ j x q W l o o', Fx j x q W → w.heap.size ≤ l → W.heap[l]? = some o → o.isCells = false → Fx j x q (W.putObj l o'))
    (hDp : ∀ j W l o o', Dn j W → w.heap.size ≤ l → W.heap[l]? = some o → o.isCells = false → Dn j (W.putObj l o'))
    (hSp : ∀ c W l o o', Sx c W → w.heap.size ≤ l → W.heap[l]? = some o → o.isCells = false → Sx c (W.putObj l o'))
    (hKt : ∀ A B C, Kp A B → Kp B C → Kp A C)
    (hKp : ∀ W l o o', w.heap.size ≤ l → W.heap[l]? = some o → o.isCells = false → Kp W (W.putObj l o'))
    (hD0 : ∀ o, Dn 0 ((w.alloc (.deferred (some []))).alloc o))
    (hround : ∀ (l j : Nat) (x : α) (W : World) (K : Act → World → Prop), Rd j x W → j < N →
      (∀ b q W', Fx j x q W' → KeepsFrom w.heap.size W W' → Kp W W' → (∀ l V, w.heap.size ≤ l → Fx j x q V → body.wpIn (F.inRound l) (n - 1 - 1) P (stopPost w.heap.size Kp (Dn (j + 1)) Sx V) b V) → K b W') →
      assign.wpIn (F.inRound l) (n - 1 - 1) P (Exit.then K (fun _ _ _ => False)) { tmps := (ps.zip (enc x)).foldl (fun t (p, v) => t.setIfInBounds p v) a.tmps, defers := [] } W)
    (hiter : ∀ (Bk : World → Prop) (X : World → Prop) (l : Nat) (W : World), (∀ A B, Bk A → A.heap.size ≤ B.heap.size → (∀ k, w.heap.size ≤ k → k < w.heap.size + 2 → B.heap[k]? = A.heap[k]?) → Bk B) → (∀ A, Bk A → w.heap.size + 2 ≤ A.heap.size) →
      (∀ A l' o o', X A → w.heap.size + 2 ≤ l' → A.heap[l']? = some o → o.isCells = false → X (A.putObj l' o')) → l < w.heap.size + 2 → Dn 0 W → Bk W →
      (∀ j x W1, Rd j x W1 → Bk W1 → j < N → YieldAt F (n - 1 - 1) P l (enc x) W1 (YPost w.heap.size l Kp (fun W2 => Dn (j + 1) W2 ∧ Bk W2) X W1)) →
      CallsIn F (n - 1) P gf (#[.func (.yield l) #[] #[]] ++ lb) W fun e W' => (∃ v, e = .returned v) ∧ ((Dn N W' ∧ Bk W') ∨ X W'))
    (hdone : ∀ (D : Nat) (W : World), w.heap.size ≤ D → Dn N W → W.heap[D]? = some (.deferred (some [])) → Q .normal { a with defers := { target := .collected D, args := #[] } :: a.defers } W)
    (hstop : ∀ (D : Nat) (c : Code) (W : World), w.heap.size ≤ D → Sx c W → W.heap[D]? = some (.deferred (some [])) → c.wpIn F n P Q { a with defers := { target := .collected D, args := #[] } :: a.defers } W) :
    (Code.rangeFunc g ps assign body).wpIn F n P Q a w :=
  range_stopa hro h1 hg hFg eg enc hps Rd
    (fun j x b W => ∃ q, Fx j x q W ∧ ∀ l V, w.heap.size ≤ l → Fx j x q V → body.wpIn (F.inRound l) (n - 1 - 1) P (stopPost w.heap.size Kp (Dn (j + 1)) Sx V) b V) Dn Sx Kp N
    (fun j x _ W l o o' h hl ho hc => by
      obtain ⟨q, h1, h2⟩ := h
      exact ⟨q, hFp j x q W l o o' h1 hl ho hc, h2⟩)
    hDp hSp hKt hKp hD0
    (fun l j x W K hr hj hK => hround l j x W K hr hj fun b q W' h1 h2 h3 h4 => hK b W' ⟨q, h1, h4⟩ h2 h3)
    (fun l _ _ _ W hl h _ => by
      obtain ⟨q, h1, h2⟩ := h
      exact h2 l W hl h1)
    hiter hdone hstop
end
end Go.Proofs.YtbohdmconeebeaaDoor

namespace Go.Proofs.YtbohdmconeebeaaDoor
open Go.RowKit
section
variable {P : Program} {ops : Array Oper} {Q : Exit → Act → World → Prop} {md : Region.Mode}
/-- Orders.lean's, with no way out by what an operation asks for -/
def wpOpS (P : Program) (ops : Array Oper) (Q : Exit → Act → World → Prop) (i : Nat) (K : Act → World → Prop) (a : Act) (w : World) : Prop :=
  match ops[i]? with
  | none => K a w
  | some o => if Region.wanted o (yielded ops a.tmps) then o.wp P a w K Q else K (a.put o.dst undef) w
def wpAnyS (P : Program) (md : Region.Mode) (ops : Array Oper) (Q : Exit → Act → World → Prop) : Nat → Array Bool → Act → World → Prop
  | 0, listed, a, w => Region.ready md ops listed = [] ∧ Q .normal a w
  | fuel + 1, listed, a, w =>
    (Region.ready md ops listed = [] → Q .normal a w) ∧
    ∀ i ∈ Region.ready md ops listed, wpOpS P ops Q i (wpAnyS P md ops Q fuel (listed.setIfInBounds i true)) a w
theorem oper_in {lr n : Nat} {o : Oper} {a : Act} {w : World} {K K' : Act → World → Prop} (hd : ∀ c, o.op ≠ .defer c) (hK : ∀ a w, K a w → K' a w) (h : o.wp P a w K Q) : o.wpIn (Fence.wide.inRound lr) n P a w K' Q := by
  refine ⟨fun _ _ => trivial, ?_⟩
  rw [Fence.inRound_round, Oper.semAt_some lr a.eval o hd]
  unfold Oper.wp at h
  generalize (execOp a.eval o).run P w = r at h
  cases r with
  | ok x w' =>
    cases x <;> simp only [Oper.upon, Oper.uponIn] at h ⊢
    case value v => exact hK _ _ h
    case skip => exact hK _ _ h
    case defer d => exact hK _ _ h
    case enter f args =>
      refine ⟨fun hh => by simp [Fence.wide] at hh, CallsIn.inRound lr (callsIn_wide.2 h |>.mono fun e w'' he => ?_)⟩
      cases e <;> first | exact hK _ _ he | exact he
    case row row args => exact ⟨fun hh => by simp [Fence.wide] at hh, fun c cs _ => let ⟨v, w3, r, s⟩ := h c cs; ⟨v, w3, hK _ _ r, stepsIn_wide.2 s⟩⟩
  | halt x w' => cases x <;> simp only [Oper.upon, Oper.uponIn] at h ⊢ <;> exact h
theorem wpAnyIn_of_S {lr n : Nat} (hd : ∀ (j : Nat) o, ops[j]? = some o → ∀ c, o.op ≠ .defer c) : ∀ (fuel : Nat) (listed : Array Bool) (a : Act) (w : World), wpAnyS P md ops Q fuel listed a w → wpAnyIn (Fence.wide.inRound lr) n P md ops Q fuel listed a w
  | 0, _, _, _, h => h
  | fuel + 1, listed, a, w, h => by
    refine ⟨h.1, fun i hi => ?_⟩
    have h1 := h.2 i hi
    unfold wpOpS at h1
    unfold wpOpIn
    cases ho : ops[i]? with
    | none => rw [ho] at h1; exact wpAnyIn_of_S hd fuel _ _ _ h1
    | some o =>
      rw [ho] at h1
      simp only at h1 ⊢
      split
      · rename_i hw
        rw [if_pos hw] at h1
        exact oper_in (hd i o ho) (fun a w hk => wpAnyIn_of_S hd fuel _ a w hk) h1
      · rename_i hw
        rw [if_neg hw] at h1
        exact ⟨fun _ _ => trivial, wpAnyIn_of_S hd fuel _ _ _ h1⟩
end
section
variable {P : Program} {l : List Oper} {vs : List Value} {fs : List Tmp} {FS : Tmp → Value → World → Prop} {I : World → Prop} {a0 : Act}
/-- one operation of such a run -/
theorem op_of_S {N : Nat} {Q' : Exit → Act → World → Prop} {K : Act → World → Prop} (hR : RG .any l.toArray N) (hN : N ≤ a0.tmps.size) (hlen : vs.length = l.length) {listed : Array Bool} {b : Act} {w : World} {i : Nat} {o : Oper} {v : Value}
    (h : Inv l vs fs FS I a0 listed b w) (ho2 : l[i]? = some o) (hun : listed.getD i true = false) (hp : ∀ e ∈ o.after, Region.binds .any e = true → listed.getD e.on true = true) (hv : vs[i]? = some v) (hob : Ob P l.toArray I fs FS o v (lex l vs a0 i))
    (hK : ∀ u w', Below w.heap.size w w' → (∀ d, o.dst = some d → (d ∈ fs → FS d u w') ∧ (d ∉ fs → vs[i]? = some u)) → K (b.put o.dst u) w') : wpOpS P l.toArray Q' i K b w := by
  have ho : l.toArray[i]? = some o := by simpa using ho2
  have hsel : ∀ cs c, o.op ≠ .select cs c := fun cs c => hR.sel i o cs c ho
  have ag : ∀ d ∈ o.looksAt l.toArray, d ∉ fs → (lex l vs a0 i).tmps[d]? = b.tmps[d]? := fun d hd hf => h.agree hR hN hlen ho2 hun hp hd hf
  unfold wpOpS
  simp only [ho]
  rcases hob with ⟨h1, h2, hcalm⟩ | ⟨s, hs, hds, h1, hwt, hsrc⟩ | ⟨s, hs, ⟨j, hj, hje⟩, h1, h2, huse⟩ | ⟨s, R, hs, hds, hRs, h1, hmix⟩
  · have he := exec_agree (ops := l.toArray) hsel fun d hd => ag d hd (h1 d hd)
    have hw := wanted_agree (ops := l.toArray) fun d hd => ag d hd (h1 d hd)
    have kv : ∀ w', Below w.heap.size w w' → K (b.put o.dst v) w' := fun w' hb => hK v w' hb fun d hd => ⟨fun hf => absurd hf (h2 d hd), fun _ => hv⟩
    rcases hcalm with ⟨hwt, hval⟩ | ⟨hwf, rfl⟩
    · rw [hw] at hwt
      rw [if_pos hwt]
      have h3 := hval w h.cls
      rw [he] at h3
      unfold Oper.wp
      generalize (execOp b.eval o).run P w = r at h3
      cases r with
      | ok n w' =>
        cases n <;> simp only [calmUpon] at h3 <;> simp only [Oper.upon]
        case value u => obtain ⟨rfl, rfl⟩ := h3; exact kv _ (Below.refl _ _)
        case skip => obtain ⟨rfl, rfl⟩ := h3; exact kv _ (Below.refl _ _)
        case enter f args =>
          obtain ⟨rfl, hcc⟩ := h3
          exact hcc.mono fun e w'' ⟨he, hb⟩ => by subst he; exact kv _ hb
      | halt x w' => simp only [calmUpon] at h3
    · rw [hw] at hwf
      rw [hwf, if_neg (by simp)]
      exact kv w (Below.refl _ _)
  · have he := exec_agree (ops := l.toArray) hsel fun d hd => ag d hd (h1 d hd)
    have hw := wanted_agree (ops := l.toArray) fun d hd => ag d hd (h1 d hd)
    rw [hw] at hwt
    rw [if_pos hwt]
    have h3 := hsrc w h.cls
    rw [he] at h3
    have kf : ∀ u w', FS s u w' → Below w.heap.size w w' → K (b.put o.dst u) w' := fun u w' hf hb => hK u w' hb fun d hd => by
      obtain rfl : d = s := Option.some.inj (hd.symm.trans hds)
      exact ⟨fun _ => hf, fun hnf => absurd hs hnf⟩
    unfold Oper.wp
    generalize (execOp b.eval o).run P w = r at h3
    cases r with
    | ok n w' =>
      cases n <;> simp only [srcUpon] at h3 <;> simp only [Oper.upon]
      case value u => exact kf u w' h3.1 h3.2
      case enter f args =>
        obtain ⟨rfl, hcc⟩ := h3
        exact hcc.mono fun e w'' ⟨u, he, hf, hb⟩ => by subst he; exact kf u w'' hf hb
    | halt x w' => simp only [srcUpon] at h3
  · obtain ⟨e, hee, heb⟩ := Array.any_eq_true'.1 hje
    simp only [Bool.and_eq_true, beq_iff_eq] at heb
    obtain ⟨hbe, rfl⟩ := heb
    obtain ⟨oj, hoj, hdj⟩ := Option.bind_eq_some_iff.1 hj
    have hoj2 : l[e.on]? = some oj := by simpa using hoj
    obtain ⟨vj, hvj⟩ : ∃ v, vs[e.on]? = some v := ⟨_, List.getElem?_eq_getElem (by rw [hlen]; exact (List.getElem?_eq_some_iff.1 hoj2).1)⟩
    obtain ⟨x, hbx, hfx⟩ := (h.ins e.on oj s vj hoj2 (hp e hee hbe) hdj hvj).1 hs
    have hslt : s < (lex l vs a0 i).tmps.size := by rw [(lex_size l vs a0 i).1]; exact Nat.lt_of_lt_of_le (hR.small _ _ _ hoj hdj) hN
    have ag2 : ∀ d ∈ o.looksAt l.toArray, ((lex l vs a0 i).put (some s) x).tmps[d]? = b.tmps[d]? := fun d hd => by
      by_cases hsd : s = d
      · subst hsd
        rw [put_same x hslt, hbx]
      · rw [put_other x (by simpa using hsd)]
        exact ag d hd fun hf => hsd (h1 d hd hf).symm
    obtain ⟨hwt, h3⟩ := huse x w h.cls hfx
    rw [wanted_agree (ops := l.toArray) ag2] at hwt
    rw [exec_agree (ops := l.toArray) hsel ag2] at h3
    have kv : ∀ w', Below w.heap.size w w' → K (b.put o.dst v) w' := fun w' hb => hK v w' hb fun d hd => ⟨fun hf => absurd hf (h2 d hd), fun _ => hv⟩
    rw [if_pos hwt]
    unfold Oper.wp
    generalize (execOp b.eval o).run P w = r at h3
    cases r with
    | ok n w' =>
      cases n <;> simp only [calmUpon] at h3 <;> simp only [Oper.upon]
      case value u => obtain ⟨rfl, rfl⟩ := h3; exact kv _ (Below.refl _ _)
      case skip => obtain ⟨rfl, rfl⟩ := h3; exact kv _ (Below.refl _ _)
      case enter f args =>
        obtain ⟨rfl, hcc⟩ := h3
        exact hcc.mono fun e w'' ⟨he, hb⟩ => by subst he; exact kv _ hb
    | halt x w' => simp only [calmUpon] at h3

  · have got : ∀ r ∈ R, ∃ x, b.tmps[r]? = some x ∧ FS r x w ∧ r < (lex l vs a0 i).tmps.size := fun r hr => by
      obtain ⟨hrf, j, hj, hje⟩ := hRs r hr
      obtain ⟨e, hee, heb⟩ := Array.any_eq_true'.1 hje
      simp only [Bool.and_eq_true, beq_iff_eq] at heb
      obtain ⟨hbe, rfl⟩ := heb
      obtain ⟨oj, hoj, hdj⟩ := Option.bind_eq_some_iff.1 hj
      have hoj2 : l[e.on]? = some oj := by simpa using hoj
      obtain ⟨vj, hvj⟩ : ∃ v, vs[e.on]? = some v := ⟨_, List.getElem?_eq_getElem (by rw [hlen]; exact (List.getElem?_eq_some_iff.1 hoj2).1)⟩
      obtain ⟨x, hbx, hfx⟩ := (h.ins e.on oj r vj hoj2 (hp e hee hbe) hdj hvj).1 hrf
      exact ⟨x, hbx, hfx, by rw [(lex_size l vs a0 i).1]; exact Nat.lt_of_lt_of_le (hR.small _ _ _ hoj hdj) hN⟩
    have ag2 : ∀ d ∈ o.looksAt l.toArray, (fill R (fun s => b.tmps.getD s undef) (lex l vs a0 i)).tmps[d]? = b.tmps[d]? := fun d hd => by
      by_cases hdR : d ∈ R
      · obtain ⟨x, hbx, _, hlt⟩ := got d hdR
        rw [fill_in R _ _ d hdR hlt, hbx]
        simp [hbx]
      · rw [fill_out R _ _ d hdR]
        exact ag d hd fun hf => hdR (h1 d hd hf)
    obtain ⟨hwt, h3⟩ := hmix (fun s => b.tmps.getD s undef) w h.cls fun r hr => by
      obtain ⟨x, hbx, hfx, _⟩ := got r hr
      simpa [hbx] using hfx
    rw [wanted_agree (ops := l.toArray) ag2] at hwt
    rw [exec_agree (ops := l.toArray) hsel ag2] at h3
    rw [if_pos hwt]
    have kf : ∀ u w', FS s u w' → Below w.heap.size w w' → K (b.put o.dst u) w' := fun u w' hf hb => hK u w' hb fun d hd => by
      obtain rfl : d = s := Option.some.inj (hd.symm.trans hds)
      exact ⟨fun _ => hf, fun hnf => absurd hs hnf⟩
    unfold Oper.wp
    generalize (execOp b.eval o).run P w = r at h3
    cases r with
    | ok n w' =>
      cases n <;> simp only [srcUpon] at h3 <;> simp only [Oper.upon]
      case value u => exact kf u w' h3.1 h3.2
      case enter f args =>
        obtain ⟨rfl, hcc⟩ := h3
        exact hcc.mono fun e w'' ⟨u, he, hf, hb⟩ => by subst he; exact kf u w'' hf hb
    | halt x w' => simp only [srcUpon] at h3

theorem any_of_S {N : Nat} {Q' : Exit → Act → World → Prop} (hR : RG .any l.toArray N) (hN : N ≤ a0.tmps.size) (hlen : vs.length = l.length) (hI : Closed I) (hF : ∀ s x w w', FS s x w → Below w.heap.size w w' → FS s x w')
    (hob : ∀ (k : Nat) o v, l[k]? = some o → vs[k]? = some v → Ob P l.toArray I fs FS o v (lex l vs a0 k))
    (hQ : ∀ (listed : Array Bool) b w, (∀ j, listed.getD j true = true) → Inv l vs fs FS I a0 listed b w → Q' .normal b w) :
    ∀ (fuel : Nat) (listed : Array Bool) (b : Act) (w : World), listed.toList.count false ≤ fuel → Inv l vs fs FS I a0 listed b w → wpAnyS P .any l.toArray Q' fuel listed b w
  | 0, listed, b, w, hc, h => by
    have hall := count_zero (L := listed) (by omega)
    refine ⟨?_, hQ listed b w hall h⟩
    rw [List.eq_nil_iff_forall_not_mem]
    intro i hi
    have := (mem_ready.1 hi).1
    rw [hall i] at this
    cases this
  | fuel + 1, listed, b, w, hc, h => by
    refine ⟨fun h0 => hQ listed b w (ready_all hR h.lsize h0) h, fun i hi => ?_⟩
    obtain ⟨hun, o, ho, hall⟩ := mem_ready.1 hi
    have ho2 : l[i]? = some o := by simpa using ho
    have hp : ∀ e ∈ o.after, Region.binds .any e = true → listed.getD e.on true = true := fun e he hb => by
      have h1 := hall e he hb
      rw [Array.getD_eq_getD_getElem?] at h1 ⊢
      cases hx : listed[e.on]? with
      | none => rfl
      | some y => rw [hx] at h1; simpa using h1
    obtain ⟨v, hv⟩ : ∃ v, vs[i]? = some v := ⟨_, List.getElem?_eq_getElem (by rw [hlen]; exact (List.getElem?_eq_some_iff.1 ho2).1)⟩
    exact op_of_S hR hN hlen h ho2 hun hp hv (hob i o v ho2 hv) fun u w' hb hu =>
      any_of_S hR hN hlen hI hF hob hQ fuel _ _ _ (by have := count_set hun; omega) (h.next hR hN hI hF ho2 hp hb hu)

/-- .. in a round of a loop over a function -/
theorem wpIn_region_F {lr n : Nat} {id : Nat} {Q : Exit → Act → World → Prop} {a : Act} {w : World} {l : List Oper} (N : Nat) (fs : List Tmp) (FS : Tmp → Value → World → Prop) (I : World → Prop) (hm : P.follows .mixedOrders = true) (hB : rgB .any l.toArray N = true)
    (hfs : (fs.all fun s => l.any fun o => o.dst == some s) = true) (hN : N ≤ a.tmps.size) (hI : Closed I) (hF : ∀ s x w w', FS s x w → Below w.heap.size w w' → FS s x w') (hC : I w.drew) (hdf : (l.all fun o => match o.op with | .defer _ => false | _ => true) = true)
    (h : wpF P l.toArray I fs FS (fun a' => ∀ xs w', I w' → (∀ s ∈ fs, FS s (xs s) w') → Q .normal (fill fs xs a') w') l a) : (Code.region id l.toArray true).wpIn (Fence.wide.inRound lr) n P Q a w := by
  have hR := rgB_spec hB
  obtain ⟨vs, hlen, hob, hE⟩ := wpF_vals l a h
  refine wpIn_region_any hm (wpAnyIn_of_S (fun j o ho c hc => ?_) _ _ _ _ ?_)
  · have hmem : o ∈ l := List.mem_of_getElem? (by simpa using ho)
    rw [List.all_eq_true] at hdf
    have := hdf o hmem
    rw [hc] at this
    cases this
  refine any_of_S (l := l) (vs := vs) (fs := fs) (FS := FS) (I := I) (a0 := a) hR hN hlen hI hF hob ?_ _ _ _ _ ?_ ?_
  · intro listed b w' hall hinv
    have hw : ∀ s ∈ fs, ∃ x, b.tmps[s]? = some x ∧ FS s x w' := fun s hs => by
      rw [List.all_eq_true] at hfs
      have h1 := hfs s hs
      rw [List.any_eq_true] at h1
      obtain ⟨o, ho, hd⟩ := h1
      obtain ⟨j, hj, rfl⟩ := List.getElem_of_mem ho
      have hd' : (l[j]).dst = some s := by simpa using hd
      obtain ⟨v, hv⟩ : ∃ v, vs[j]? = some v := ⟨_, List.getElem?_eq_getElem (by rw [hlen]; exact hj)⟩
      exact (hinv.ins j l[j] s v (List.getElem?_eq_getElem hj) (hall j) hd' hv).1 hs
    have hb : b = fill fs (fun s => b.tmps.getD s undef) (lex l vs a l.length) := by
      have ht : b.tmps = (fill fs (fun s => b.tmps.getD s undef) (lex l vs a l.length)).tmps := by
        apply Array.ext_getElem?
        intro d
        by_cases hd : d ∈ fs
        · obtain ⟨x, hx, _⟩ := hw d hd
          have hlt : d < (lex l vs a l.length).tmps.size := by
            rw [(lex_size l vs a l.length).1, ← hinv.size]
            exact (Array.getElem?_eq_some_iff.1 hx).1
          rw [fill_in fs _ _ d hd hlt, hx]
          simp [hx]
        · rw [fill_out fs _ _ d hd]
          by_cases hwr : ∃ (j : Nat) (oj : Oper), l[j]? = some oj ∧ oj.dst = some d
          · obtain ⟨j, oj, hj, hdj⟩ := hwr
            obtain ⟨v, hv⟩ : ∃ v, vs[j]? = some v := ⟨_, List.getElem?_eq_getElem (by rw [hlen]; exact (List.getElem?_eq_some_iff.1 hj).1)⟩
            have hj' : l.toArray[j]? = some oj := by simpa using hj
            rw [(hinv.ins j oj d v hj (hall j) hdj hv).2 hd]
            exact (lex_in l vs a l.length j oj d v hj (List.getElem?_eq_some_iff.1 hj).1 hv hdj (Nat.lt_of_lt_of_le (hR.small _ _ _ hj' hdj) hN) fun i oi hi _ hne => hR.once i j oi oj d (by simpa using hi) hj' hdj hne).symm
          · rw [lex_out l vs a l.length d fun i oi hi _ hdi => hwr ⟨i, oi, hi, hdi⟩]
            exact hinv.out d fun i oi hi _ hdi => hwr ⟨i, oi, hi, hdi⟩
      have hd : b.defers = (fill fs (fun s => b.tmps.getD s undef) (lex l vs a l.length)).defers := by
        rw [(fill_size ..).2, (lex_size ..).2]
        exact hinv.defers
      cases b
      simp only at ht hd
      rw [Act.mk.injEq]
      exact ⟨ht, hd⟩
    rw [hb]
    refine hE _ w' hinv.cls fun s hs => ?_
    obtain ⟨x, hx, hf⟩ := hw s hs
    simpa [hx] using hf
  · simp
  · refine ⟨hC, rfl, rfl, fun _ _ => rfl, fun j o d v hj hlj => ?_, fun j o hj hlj => ?_, by simp⟩
    all_goals
      have hlt := (List.getElem?_eq_some_iff.1 hj).1
      rw [Array.getD_eq_getD_getElem?] at hlj
      simp [hlt] at hlj
end
end Go.Proofs.YtbohdmconeebeaaDoor

namespace Go.Proofs.YtbohdmconeebeaaDoor
open Go.RowKit Go.Shelf
set_option maxRecDepth 100000
attribute [local go_sem] Oper.semAt_some

/-- what the iterator gives: a frame, an error, where the payload lies -/
abbrev ItF := ((Hd × List Int) × Int) × Option Addr × Nat
def itF (x : ItF) : Array Value := #[frP x.1.1 (.slice x.2.1 x.1.1.2.length x.2.2), .int .i64 x.1.2]
theorem zInfo : (Tryd.prog.info? 31).map (fun i => (i.zero, i.size, i.bytes)) = some (some (.agg #[.int .i64 0, .int .i64 0, .int .u32 0, .int .i64 0, .int .i64 0, .slice none 0 0]), 6, 64) := by kernel_rfl
theorem rzInfo : (Tryd.prog.info? 35).map (fun i => (i.zero, i.size, i.bytes)) = some (some (.agg #[.int .i64 0, .int .i64 0, .int .u32 0, .int .i64 0, .int .i64 0, .slice none 0 0]), 6, 64) := by kernel_rfl

theorem cells_new' {W : World} {cs : List Value} (t : TypeId) (j : Nat) (u : Value) (h : cs[j]? = some u) : (W.alloc (.cells cs.toArray t)).cell? ((⟨W.heap.size, 0, none⟩ : Addr).add j) = some u := by
  rw [Addr.add_lit, Nat.zero_add, World.cell?_alloc_at _ _ _ _ rfl]
  simpa using h

theorem own_sl {W : World} {base e size n : Nat} {v : Value} {xs : List Value} (h : W.ownsRow base e size v n xs) : ∃ A c, v = .slice A n c ∧ n ≤ c := by
  rcases h.2 with ⟨rfl, rfl⟩ | ⟨g, cap, cur, rfl, _, _, hle, _⟩
  · exact ⟨none, 0, rfl, Nat.le_refl _⟩
  · exact ⟨_, cap, rfl, hle⟩

theorem head_frame {W : World} {base e n c : Nat} {A : Option Addr} {G : List Fr} {f : Fr} (h : W.ownsRow base e 6 (.slice A n c) n (flatF G)) (hf : G[0]? = some f) :
    ∃ g, A = some ⟨g, 0, none⟩ ∧ g < W.heap.size ∧ ∀ (q : Nat) (u : Value), f.cs[q]? = some u → W.cell? ⟨g, q, none⟩ = some u := by
  have hlen := h.1
  rw [flatF_len] at hlen
  have h0 : 0 < G.length := (List.getElem?_eq_some_iff.1 hf).1
  rcases h.2 with ⟨e, h2⟩ | ⟨g, cap, cur, hv, _, hh, _⟩
  · omega
  · injection hv with hv _ hcp
    subst hv hcp
    refine ⟨g, rfl, (Array.getElem?_eq_some_iff.1 hh).1, fun q u hq => ?_⟩
    have h1 := h.cells (g := g) rfl (0 * 6 + q) u (flatF_at hf hq)
    rw [Addr.add_lit, Nat.zero_add, Nat.zero_mul, Nat.zero_add] at h1
    exact h1
theorem boxed_then {U W : World} {b : Nat} {t : TypeId} {v : Value} (h : Boxed U b t v) (hW : Below U.heap.size U W) : W.cell? ⟨b, 0, none⟩ = some v := (show Boxed W b t v from (hW.block b h.lt).trans h).cell

set_option maxHeartbeats 16000000 in
theorem packs_go (A : Option Addr) (n m cp : Nat) (fs : List Fr) (w : World) (hn : fs.length = n) (hcp : n ≤ cp) (hm : m = min n 10) (h1 : FrsAt w w.heap.size A fs) (hwf : ∀ f ∈ fs, f.Wf) (ht : Tens w w.heap.size) :
    Calls Tryd.prog 3 #[.slice A n cp] w fun e w' => e = .returned (.bool true) ∧ Below w.heap.size w w' := by
  obtain ⟨z0, hf, hf0, hf1, hf2⟩ := info_parts zInfo
  obtain ⟨r0, hr, hr0, hr1, hr2⟩ := info_parts rzInfo
  have hnc : (n : Int) ≤ (cp : Int) := by omega
  obtain ⟨gs, hgs⟩ : ∃ gs, (fs.take m).map Fr.cut = gs := ⟨_, rfl⟩
  have hgl : gs.length = m := by rw [← hgs, List.length_map, List.length_take]; omega
  have hmn : m ≤ n := by omega
  have hm10 : m ≤ 10 := by omega
  have HMX := Lib.hid (show n ≤ m ∨ 10 ≤ m by omega)
  clear hm
  have HN := Lib.hid hn
  have HGL := Lib.hid hgl
  have HGS := Lib.hid hgs
  have H1 := Lib.hid h1
  have HGA : Hid (∀ f ∈ gs, f.At w w.heap.size) := fun f hf => by
    rw [← hgs] at hf
    obtain ⟨x, hx, rfl⟩ := List.mem_map.1 hf
    exact Fr.cut_at (h1.1 x (List.mem_of_mem_take hx))
  have HWF := Lib.hid hwf
  have HT := Lib.hid ht
  obtain ⟨w0, hw0⟩ : ∃ w0, w.alloc (.cells #[.bool false] 4) = w0 := ⟨_, rfl⟩
  have bR0 : Boxed w0 w.heap.size 4 (.bool false) := by rw [← hw0]; exact Boxed.new w _ _
  have hs0 : w0.heap.size = w.heap.size + 1 := by rw [← hw0]; simp
  have hbw : Below w.heap.size w w0 := by rw [← hw0]; exact (Below.refl _ w).alloc (Nat.le_refl _) _
  have K1 := fnew_any w0
  clear hn h1 hwf ht hgs hgl
  refine (callsIn_wide (n := 9)).1 ?_
  refine callsIn_of_wp_marks Tryd.func3 rfl trivial ?_ rfl
  simp only [Tryd.ntmps3, List.size_toArray, List.length_cons, List.length_nil, Nat.reduceAdd, Nat.reduceSub, Array.replicate_succ, Array.replicate_zero, List.push_toArray, List.append_toArray, List.nil_append, List.cons_append]
  gi_wp2_with fail
  refine ⟨trivial, ?_⟩
  refine (callsIn_wide.2 (K1)).mono ?_
  rintro e w1 ⟨rfl, hcod1, hb1, hs1⟩
  generalize w0.heap.size + 1 = cb at *
  clear K1 hw0
  obtain ⟨w2, hw2⟩ : ∃ w2, w1.alloc (.cells #[.slice none 0 0] 22) = w2 := ⟨_, rfl⟩
  have bS2 : Boxed w2 w1.heap.size 22 (.slice none 0 0) := by rw [← hw2]; exact Boxed.new w1 _ _
  have hs2 : w2.heap.size = w1.heap.size + 1 := by rw [← hw2]; simp
  have hb12 : Below w1.heap.size w1 w2 := by rw [← hw2]; exact (Below.refl _ w1).alloc (Nat.le_refl _) _
  have hb02 := hb1.trans (hb12.mono hb1.size)
  have HW2 := Lib.hid hw2
  have HS := Lib.hid (And.intro hs0 (And.intro hs1 hs2))
  clear hw2 hs0 hs1 hs2
  gi_wp2_with fail
  refine wpIn_wide.2 ?_
  rw [HW2.out]
  go_loopw [5, 6, 7, 8, 9] (fun v wa iv _ _ wr => ∃ (k : Nat) (u : Value), k ≤ m ∧ iv = .int .i64 (k : Int) ∧ wa = .int .i64 (firstBad (gs.take k)) ∧ Hid (TwoF w2 w1.heap.size 31 35 22 (gs.take k) (gs.take k) wr u v)) (fun _ _ iv _ _ _ => m - (intOf iv).toNat)
  case atStart => exact ⟨0, _, by omega, rfl, rfl, ⟨Off.refl _ _, bS2, World.ownsRow_nil _ _ _ _, World.ownsRow_nil _ _ _ _⟩⟩
  case round =>
    obtain ⟨k, u, hk, rfl, rfl, HF⟩ := hrel
    by_cases hlt : k < m
    · have hkn : (k : Int) < (n : Int) := by omega
      have hk10 : (k : Int) < 10 := by omega
      obtain ⟨f, hfk⟩ : ∃ f, fs[k]? = some f := ⟨_, List.getElem?_eq_getElem (by rw [HN.out]; omega)⟩
      have hbW : Below w.heap.size w wr := (hbw.trans (hb02.mono (by have := HS.out; omega))).trans (HF.out.off.below (fun b hb => by have := HS.out; omega) (by have := HS.out; omega))
      obtain ⟨g, off, rfl, hg, c0, c1, c2, c3, c4, c5⟩ := (H1.out.below hbW).six hfk
      have hat := (H1.out.below hbW).1 f (List.mem_of_getElem? hfk)
      have hwf := HWF.out f (List.mem_of_getElem? hfk)
      have hgk : gs[k]? = some f.cut := by rw [← HGS.out, List.getElem?_map, List.getElem?_take, if_pos hlt, hfk]; rfl
      have HGK := Lib.hid hgk
      have hatc := Fr.cut_at hat
      have hatc0 := Fr.cut_at (H1.out.1 f (List.mem_of_getElem? hfk))
      have hwf2 : f.cut.Wf := ⟨hwf.v, hwf.k, hwf.i, hwf.c⟩
      have hfl : (f.zs.take 250).length = min 250 f.zs.length := List.length_take
      have h250 : f.cut.zs.length ≤ 250 := by show (f.zs.take 250).length ≤ 250; omega
      have KC : Hid (∀ W, Calls Tryd.prog 5 #[.agg #[.int .i64 f.v, .int .i64 f.k, .int .u32 f.s, .int .i64 f.i, .int .i64 f.c, .slice f.a f.zs.length f.cp]] W fun e w' => e = .returned (.agg #[.int .i64 f.cut.v, .int .i64 f.cut.k, .int .u32 f.cut.s, .int .i64 f.cut.i, .int .i64 f.cut.c, .slice f.cut.a f.cut.zs.length f.cut.cp]) ∧ Below W.heap.size W w') :=
        fun W => cut_any f.v f.k f.s f.i f.c f.a f.zs.length (f.zs.take 250).length f.cp W (by omega) (by omega) hat.room
      clear hfk hat hwf hgk hfl
      generalize f.cut = h at *
      have HAT := Lib.hid hatc
      have HWFF := Lib.hid hwf2
      have HGF := Lib.hid (HF.out.off.below (B := w1.heap.size) (fun b hb => by omega) (by have := HS.out; omega))
      obtain ⟨fv, fk, fq, fi, fc, fa, fcp, fz⟩ := h
      simp only at KC h250
      have HAT0 := Lib.hid hatc0
      clear hatc hwf2 hatc0
      go_wp2_with fail
      refine (KC.out wr).mono ?_
      rintro e W1 ⟨rfl, hb1⟩
      have hF1 := HF.out.below hb1
      have hbn := (Below.refl W1.heap.size W1).alloc (Nat.le_refl _) (.cells #[.int .i64 fv, .int .i64 fk, .int .u32 fq, .int .i64 fi, .int .i64 fc, .slice fa fz.length fcp] 31)
      have hF2 := hF1.below hbn
      have hbn3 := hbn.alloc hbn.size (.cells #[.int .i64 fv, .int .i64 fk, .int .u32 fq, .int .i64 fi, .int .i64 fc, .slice fa fz.length fcp] 31)
      have HF3 := Lib.hid (hF1.below hbn3)
      have kS2 := hF2.box.cell
      have kS3 := HF3.out.box.cell
      have fS3 := HF3.out.box.frozen
      have HNW : Hid (∀ (j : Nat) (u : Value), [Value.int .i64 fv, .int .i64 fk, .int .u32 fq, .int .i64 fi, .int .i64 fc, .slice fa fz.length fcp][j]? = some u → ((W1.alloc (.cells #[.int .i64 fv, .int .i64 fk, .int .u32 fq, .int .i64 fi, .int .i64 fc, .slice fa fz.length fcp] 31)).alloc (.cells #[.int .i64 fv, .int .i64 fk, .int .u32 fq, .int .i64 fi, .int .i64 fc, .slice fa fz.length fcp] 31)).cell? ((⟨W1.heap.size + 1, 0, none⟩ : Addr).add j) = some u) := fun j u h => by
        have := cells_new' (W := W1.alloc (.cells #[.int .i64 fv, .int .i64 fk, .int .u32 fq, .int .i64 fi, .int .i64 fc, .slice fa fz.length fcp] 31)) 31 j u h
        rwa [World.size_alloc] at this
      have hgl : (gs.take k).length = k := by rw [List.length_take, HGL.out]; omega
      have HX1 : Hid ((gs.take k).length + 1 ≤ maxLen) := by show _ ≤ _; unfold maxLen; omega
      have HX2 : Hid (((gs.take k).length + 1) * 64 ≤ 140737488355328) := by show _ ≤ _; omega
      have HX3 := Lib.hid HF3.out.off.size
      have HKL := Lib.hid hgl
      clear hF1 hbn hF2 hbn3 hgl KC c0 c1 c2 c3 c4 c5
      go_wp2_with (at_builtin; refine wpList_append_own_at _ rfl (.tmp 32) (.tmp 34) 22 rfl w2.heap.size 31 z0 _ 6 64 Tryd.underlying22 hf hf0 hf1 hf2 rfl (by decide) _ _ _ rfl HF3.out.one ⟨W1.heap.size + 1, 0, none⟩ 1 1 [Value.int .i64 fv, .int .i64 fk, .int .u32 fq, .int .i64 fi, .int .i64 fc, .slice fa fz.length fcp] rfl rfl HNW.out (by simp [Value.oneCell']) HX1.out HX2.out HX3.out ?_)
      intro u' W4 hown hg4 _ _
      have hmk : min k gs.length = k := by have := HGL.out; omega
      obtain ⟨A5, c5, rfl, hc5⟩ := own_sl hown
      rw [hmk] at hc5 hown ⊢
      have hlo := Lib.hid HF.out.one.lt
      have hlo2 := Lib.hid HF.out.two.lt
      have hs1 := Lib.hid hb1.size
      have HF5 := Lib.hid (HF3.out.push1 (f := ⟨fv, fk, fq, fi, fc, fa, fcp, fz⟩) (by decide) (by have := HS.out; omega) (by rw [List.length_take, hmk]; exact hown) hg4)
      have kS4 : W4.cell? ⟨w1.heap.size, 0, none⟩ = some u := (HF3.out.box.kept hg4 (fun e => by have := (hlo.out _ e.symm).1; have := HS.out; omega)).cell
      have fS4 : W4.frozen? ⟨w1.heap.size, 0, none⟩ = false := (HF3.out.box.kept hg4 (fun e => by have := (hlo.out _ e.symm).1; have := HS.out; omega)).frozen
      have hF5 : (W4.setCell ⟨w1.heap.size, 0, none⟩ (.slice A5 (k + 1) c5)).heap[W1.heap.size]? = some (.cells (frC fv fk fq fi fc (.slice fa fz.length fcp)) 31 (0, 0)) := by
        have hbs := HF.out.box.lt
        rw [Below.heap_setCell W4 ⟨w1.heap.size, 0, none⟩ _ _ (by simp only; have := hs1.out; omega), hg4.block _ (by simp; omega) (fun e => by have := (hlo.out _ e.symm).2; have := hs1.out; omega),
          Below.heap_alloc _ _ _ (by simp)]
        exact World.alloc_heap_new _ _
      obtain ⟨d0, d1, d2, d3, d4, d5⟩ := fr_block hF5
      have HB5 := Lib.hid hF5
      have KO : Hid (∀ W, Calls Tryd.prog 6 #[.agg #[.int .i64 fv, .int .i64 fk, .int .u32 fq, .int .i64 fi, .int .i64 fc, .slice fa fz.length fcp]] W fun e w' => e = .returned (.agg #[.int .i64 fv, .int .i64 fk, .int .u32 fq, .int .i64 fi, .int .i64 fc, .slice fa fz.length fcp]) ∧ Below W.heap.size W w') := fun W => of_frame fv fk fq fi fc fa fz.length fcp W
      have KR : Hid (∀ W, Calls Tryd.prog 7 #[.agg #[.int .i64 fv, .int .i64 fk, .int .u32 fq, .int .i64 fi, .int .i64 fc, .slice fa fz.length fcp]] W fun e w' => e = .returned (.int .i64 (fchk fv fk fi fc fz.length)) ∧ Below W.heap.size W w') := fun W => rfcheck_any fv fk fq fi fc fa fz.length fcp W
      clear hown hg4 HF3 HNW HX3 kS2 kS3 fS3 hF5
      go_wp2_with fail
      refine (KO.out _).mono ?_
      rintro e W6 ⟨rfl, hb6⟩
      have HF6 := Lib.hid ((HF5.out.below hb6).below ((Below.refl W6.heap.size W6).alloc (Nat.le_refl _) (.cells #[.int .i64 fv, .int .i64 fk, .int .u32 fq, .int .i64 fi, .int .i64 fc, .slice fa fz.length fcp] 35)))
      have HB6 := Lib.hid ((Below.heap_alloc W6 (.cells #[.int .i64 fv, .int .i64 fk, .int .u32 fq, .int .i64 fi, .int .i64 fc, .slice fa fz.length fcp] 35) W1.heap.size (by have := hb6.size; have := (Array.getElem?_eq_some_iff.1 HB5.out).1; omega)).trans ((hb6.block _ (Array.getElem?_eq_some_iff.1 HB5.out).1).trans HB5.out))
      have HNW : Hid (∀ (j : Nat) (u : Value), [.int .i64 fv, .int .i64 fk, .int .u32 fq, .int .i64 fi, .int .i64 fc, .slice fa fz.length fcp][j]? = some u → (W6.alloc (.cells #[.int .i64 fv, .int .i64 fk, .int .u32 fq, .int .i64 fi, .int .i64 fc, .slice fa fz.length fcp] 35)).cell? ((⟨W6.heap.size, 0, none⟩ : Addr).add j) = some u) := fun j u h => cells_new' 35 j u h
      have HX3 := Lib.hid HF6.out.off.size
      clear d0 d1 d2 d3 d4 d5 kS4 fS4 hb6
      go_wp2_with (at_builtin; refine wpList_append_own_at _ rfl (.tmp 36) (.tmp 39) 25 rfl w2.heap.size 35 r0 _ 6 64 Tryd.underlying25 hr hr0 hr1 hr2 rfl (by decide) _ _ _ rfl HF6.out.two ⟨W6.heap.size, 0, none⟩ 1 1 [.int .i64 fv, .int .i64 fk, .int .u32 fq, .int .i64 fi, .int .i64 fc, .slice fa fz.length fcp] rfl rfl HNW.out (by simp [Value.oneCell']) HX1.out HX2.out HX3.out ?_)
      intro v' W7 hown hg7 _ _
      obtain ⟨A7, c7, rfl, hc7⟩ := own_sl hown
      have HF7 := Lib.hid (HF6.out.push2 (f := ⟨fv, fk, fq, fi, fc, fa, fcp, fz⟩) (by decide) (by have := HS.out; omega) (by rw [List.length_take, hmk]; exact hown) hg7)
      have hF7 : W7.heap[W1.heap.size]? = some (.cells (frC fv fk fq fi fc (.slice fa fz.length fcp)) 31 (0, 0)) :=
        (hg7.block _ (Array.getElem?_eq_some_iff.1 HB6.out).1 (fun e => by have := (hlo2.out _ e.symm).2; have := hs1.out; omega)).trans HB6.out
      obtain ⟨d0, d1, d2, d3, d4, d5⟩ := fr_block hF7
      have HB7 := Lib.hid hF7
      have hs7 := Lib.hid (show wr.heap.size ≤ W7.heap.size from by have := (Array.getElem?_eq_some_iff.1 hF7).1; have := hs1.out; omega)
      clear hown hg7 HF6 HB6 HNW HX1 HX2 HX3 hF7 HF5 HB5
      go_wp2_with (first | (go_at_call 6; refine (KO.out _).mono ?_; rintro e W8 ⟨rfl, hb8⟩; have HB8 := Lib.hid hb8; clear hb8) | (go_at_call 7; refine (KR.out _).mono ?_; rintro e W9 ⟨rfl, hb9⟩; have HB9 := Lib.hid hb9; clear hb9))
      have hF9 := (HF7.out.below HB8.out).below HB9.out
      have hf9 := (HB9.out.block _ (by have := HB8.out.size; have := (Array.getElem?_eq_some_iff.1 HB7.out).1; omega)).trans ((HB8.out.block _ (Array.getElem?_eq_some_iff.1 HB7.out).1).trans HB7.out)
      have hG : gs.take k ++ [(⟨fv, fk, fq, fi, fc, fa, fcp, fz⟩ : Fr)] = gs.take (k + 1) := by rw [List.take_add_one, HGK.out]; rfl
      rw [hG] at hF9
      have hGl : (gs.take (k + 1)).length = k + 1 := by rw [List.length_take, HGL.out]; omega
      obtain ⟨f0, hf0'⟩ : ∃ f0, (gs.take (k + 1))[0]? = some f0 := ⟨_, List.getElem?_eq_getElem (by omega)⟩
      have hone := hF9.one
      have htwo := hF9.two
      rw [hGl] at hone htwo
      obtain ⟨q5, rfl, hq5, hc50⟩ := head_frame hone hf0'
      obtain ⟨q7, rfl, hq7, hc70⟩ := head_frame htwo hf0'
      have hbW9 : Below w.heap.size w W9 := (hbw.trans (hb02.mono (by have := HS.out; omega))).trans (hF9.off.below (fun b hb => by have := HS.out; omega) (by have := HS.out; omega))
      have hsW9 := hbW9.size
      have hat0 := HGA.out f0 (List.mem_of_mem_take (List.mem_of_getElem? hf0'))
      have hlF : ∀ W, Below W9.heap.size W9 W → (Instr.loadAt 31 (.pointer (some ⟨W1.heap.size, 0, none⟩))).run Tryd.prog W = .ok (.agg #[.int .i64 fv, .int .i64 fk, .int .u32 fq, .int .i64 fi, .int .i64 fc, .slice fa fz.length fcp]) W := fun W hW => by
        obtain ⟨d0, d1, d2, d3, d4, d5⟩ := fr_block ((hW.block _ (Array.getElem?_eq_some_iff.1 hf9).1).trans hf9)
        simp [Instr.loadAt, go_sem, d0, d1, d2, d3, d4, d5]
      have hlS : ∀ W, Below W9.heap.size W9 W → (Instr.loadAt 22 (.pointer (some ⟨w1.heap.size, 0, none⟩))).run Tryd.prog W = .ok (.slice (some ⟨q5, 0, none⟩) (k + 1) c5) W := fun W hW => by
        have := boxed_then hF9.box hW
        simp [Instr.loadAt, go_sem, this]
      have hlS0 : ∀ W, Below W9.heap.size W9 W → (Instr.loadAt 31 (.pointer (some ⟨q5, 0, none⟩))).run Tryd.prog W = .ok (.agg #[.int .i64 f0.v, .int .i64 f0.k, .int .u32 f0.s, .int .i64 f0.i, .int .i64 f0.c, .slice f0.a f0.zs.length f0.cp]) W := fun W hW => by
        have d0 : W.cell? ⟨q5, 0, none⟩ = some (.int .i64 f0.v) := (hW.cell (p := ⟨q5, 0, none⟩) hq5).trans (hc50 0 _ rfl)
        have d1 : W.cell? ⟨q5, 1, none⟩ = some (.int .i64 f0.k) := (hW.cell (p := ⟨q5, 1, none⟩) hq5).trans (hc50 1 _ rfl)
        have d2 : W.cell? ⟨q5, 2, none⟩ = some (.int .u32 f0.s) := (hW.cell (p := ⟨q5, 2, none⟩) hq5).trans (hc50 2 _ rfl)
        have d3 : W.cell? ⟨q5, 3, none⟩ = some (.int .i64 f0.i) := (hW.cell (p := ⟨q5, 3, none⟩) hq5).trans (hc50 3 _ rfl)
        have d4 : W.cell? ⟨q5, 4, none⟩ = some (.int .i64 f0.c) := (hW.cell (p := ⟨q5, 4, none⟩) hq5).trans (hc50 4 _ rfl)
        have d5 : W.cell? ⟨q5, 5, none⟩ = some (.slice f0.a f0.zs.length f0.cp) := (hW.cell (p := ⟨q5, 5, none⟩) hq5).trans (hc50 5 _ rfl)
        simp [Instr.loadAt, go_sem, d0, d1, d2, d3, d4, d5]
      have hlW0 : ∀ W, Below W9.heap.size W9 W → (Instr.loadAt 35 (.pointer (some ⟨q7, 0, none⟩))).run Tryd.prog W = .ok (.agg #[.int .i64 f0.v, .int .i64 f0.k, .int .u32 f0.s, .int .i64 f0.i, .int .i64 f0.c, .slice f0.a f0.zs.length f0.cp]) W := fun W hW => by
        have d0 : W.cell? ⟨q7, 0, none⟩ = some (.int .i64 f0.v) := (hW.cell (p := ⟨q7, 0, none⟩) hq7).trans (hc70 0 _ rfl)
        have d1 : W.cell? ⟨q7, 1, none⟩ = some (.int .i64 f0.k) := (hW.cell (p := ⟨q7, 1, none⟩) hq7).trans (hc70 1 _ rfl)
        have d2 : W.cell? ⟨q7, 2, none⟩ = some (.int .u32 f0.s) := (hW.cell (p := ⟨q7, 2, none⟩) hq7).trans (hc70 2 _ rfl)
        have d3 : W.cell? ⟨q7, 3, none⟩ = some (.int .i64 f0.i) := (hW.cell (p := ⟨q7, 3, none⟩) hq7).trans (hc70 3 _ rfl)
        have d4 : W.cell? ⟨q7, 4, none⟩ = some (.int .i64 f0.c) := (hW.cell (p := ⟨q7, 4, none⟩) hq7).trans (hc70 4 _ rfl)
        have d5 : W.cell? ⟨q7, 5, none⟩ = some (.slice f0.a f0.zs.length f0.cp) := (hW.cell (p := ⟨q7, 5, none⟩) hq7).trans (hc70 5 _ rfl)
        simp [Instr.loadAt, go_sem, d0, d1, d2, d3, d4, d5]
      have hnm : ∀ W, Below W9.heap.size W9 W → w.heap.size ≤ W.heap.size ∧ Nums .u8 W w.heap.size fa fz ∧ Nums .u8 W w.heap.size f0.a f0.zs ∧ Tens W w.heap.size := fun W hW => by
        have hbW := hbW9.trans (hW.mono hsW9)
        exact ⟨hbW.size, HAT0.out.nums.below hbW, hat0.nums.below hbW, HT.out.below hbW⟩
      have hfb := HAT0.out.byte
      have hfs := And.intro HAT0.out.s0 HAT0.out.s1
      simp only at hfb hfs
      have kCk : ∀ W, Below W9.heap.size W9 W → Calls Tryd.prog 8 #[.pointer (some ⟨cb, 0, none⟩), .agg #[.int .i64 fv, .int .i64 fk, .int .u32 fq, .int .i64 fi, .int .i64 fc, .slice fa fz.length fcp]] W fun e w'' => e = .returned (.int .i64 (fchk fv fk fi fc fz.length)) ∧ Below W.heap.size W w'' := fun W _ => fcheck_any cb fv fk fq fi fc fa fz.length fcp W
      have kSm : ∀ W, Below W9.heap.size W9 W → Calls Tryd.prog 9 #[.agg #[.int .i64 fv, .int .i64 fk, .int .u32 fq, .int .i64 fi, .int .i64 fc, .slice fa fz.length fcp], .agg #[.int .i64 fv, .int .i64 fk, .int .u32 fq, .int .i64 fi, .int .i64 fc, .slice fa fz.length fcp]] W fun e w'' => e = .returned (.bool true) ∧ Below W.heap.size W w'' := fun W hW => by
        have h := fsame_any fv fk fq fi fc fv fk fq fi fc w.heap.size fa fa fz.length fcp fz.length fcp fz fz W rfl rfl (hnm W hW).1 hfb hfb (hnm W hW).2.1 (hnm W hW).2.1
        have e1 : sameZ fv fk fq fi fc fv fk fq fi fc fz fz = true := by simp [sameZ]
        rw [e1] at h
        exact h
      obtain ⟨b0, hb0⟩ : ∃ b0, sameZ fv fk fq fi fc f0.v f0.k f0.s f0.i f0.c fz f0.zs = b0 := ⟨_, rfl⟩
      have kS0 : ∀ W, Below W9.heap.size W9 W → Calls Tryd.prog 9 #[.agg #[.int .i64 fv, .int .i64 fk, .int .u32 fq, .int .i64 fi, .int .i64 fc, .slice fa fz.length fcp], .agg #[.int .i64 f0.v, .int .i64 f0.k, .int .u32 f0.s, .int .i64 f0.i, .int .i64 f0.c, .slice f0.a f0.zs.length f0.cp]] W fun e w'' => e = .returned (.bool b0) ∧ Below W.heap.size W w'' := fun W hW => by
        have h := fsame_any fv fk fq fi fc f0.v f0.k f0.s f0.i f0.c w.heap.size fa f0.a fz.length fcp f0.zs.length f0.cp fz f0.zs W rfl rfl (hnm W hW).1 hfb hat0.byte (hnm W hW).2.1 (hnm W hW).2.2.1
        rw [hb0] at h
        exact h
      have kR0 : ∀ W, Below W9.heap.size W9 W → Calls Tryd.prog 12 #[.agg #[.int .i64 fv, .int .i64 fk, .int .u32 fq, .int .i64 fi, .int .i64 fc, .slice fa fz.length fcp], .agg #[.int .i64 f0.v, .int .i64 f0.k, .int .u32 f0.s, .int .i64 f0.i, .int .i64 f0.c, .slice f0.a f0.zs.length f0.cp]] W fun e w'' => e = .returned (.bool b0) ∧ Below W.heap.size W w'' := fun W hW => by
        have h := rfsame_any fv fk fq fi fc f0.v f0.k f0.s f0.i f0.c w.heap.size fa f0.a fz.length fcp f0.zs.length f0.cp fz f0.zs W rfl rfl (by omega) (hnm W hW).1 (hnm W hW).2.1 (hnm W hW).2.2.1
        rw [hb0] at h
        exact h
      obtain ⟨S, hS⟩ : ∃ S, flineZ fv fk fq fi fc fz.length = S := ⟨_, rfl⟩
      have kLn : ∀ W, Below W9.heap.size W9 W → Calls Tryd.prog 10 #[.agg #[.int .i64 fv, .int .i64 fk, .int .u32 fq, .int .i64 fi, .int .i64 fc, .slice fa fz.length fcp]] W fun e w'' => e = .returned (.string S) ∧ Below W.heap.size W w'' := fun W hW => by
        have h := fline_any fv fk fq fi fc HWFF.out.v HWFF.out.k HWFF.out.i HWFF.out.c hfs fa fz.length fcp (by omega) w.heap.size W (hnm W hW).2.2.2 (hnm W hW).1
        rw [hS] at h
        exact h
      have kRL : ∀ W, Below W9.heap.size W9 W → Calls Tryd.prog 11 #[.agg #[.int .i64 fv, .int .i64 fk, .int .u32 fq, .int .i64 fi, .int .i64 fc, .slice fa fz.length fcp]] W fun e w'' => e = .returned (.string S) ∧ Below W.heap.size W w'' := fun W _ => by
        have h := rfline_any fv fk fq fi fc HWFF.out.v HWFF.out.k HWFF.out.i HWFF.out.c hfs fa fz.length fcp (by omega) W
        rw [hS] at h
        exact h
      have h0k : 0 < k + 1 := by omega
      have hkc5 : ((k : Int) + 1) ≤ (c5 : Int) := by omega
      have hkc7 : ((k : Int) + 1) ≤ (c7 : Int) := by omega
      have hFB : firstBad (gs.take (k + 1)) = if firstBad (gs.take k) = 0 then fchk fv fk fi fc fz.length else firstBad (gs.take k) := by rw [← hG, firstBad_push]; rfl
      have HFB := Lib.hid hFB
      have HF9 := Lib.hid hF9
      clear hF9 hf9 hG hGl hf0' hone htwo hc50 hc70 hat0 hfb hb0 hS hFB d0 d1 d2 d3 d4 d5
      refine wp_region_F 144 [] (fun _ _ _ => False) (fun W => Below W9.heap.size W9 W) (by kernel_rfl) (by kernel_rfl) (by rfl) (by simp) (fun W W' h hb => h.trans (hb.mono h.size)) (fun s v W W' h hb => h) (Below.refl _ _).drew ?_
      repeat (refine wpF_pure rfl rfl ?_; go_big_quiet_step (fail); refine wpQuiet_nil ?_)
      refine wpF_load (.agg #[.int .i64 fv, .int .i64 fk, .int .u32 fq, .int .i64 fi, .int .i64 fc, .slice fa fz.length fcp]) rfl (by rfl) (by rfl) (by rfl) hlF ?_
      simp only [Act.put, List.setIfInBounds_toArray, List.set_cons_succ, List.set_cons_zero]
      refine wpF_call (f := 8) (args := #[.pointer (some ⟨cb, 0, none⟩), .agg #[.int .i64 fv, .int .i64 fk, .int .u32 fq, .int .i64 fi, .int .i64 fc, .slice fa fz.length fcp]]) (.int .i64 (fchk fv fk fi fc fz.length)) rfl rfl (fun x => by first | rfl | (simp [go_sem]; done)) (fun W hW => kCk W hW) ?_
      simp only [Act.put, List.setIfInBounds_toArray, List.set_cons_succ, List.set_cons_zero]
      repeat (refine wpF_pure rfl rfl ?_; go_big_quiet_step (fail); refine wpQuiet_nil ?_)
      refine wpF_load (.agg #[.int .i64 fv, .int .i64 fk, .int .u32 fq, .int .i64 fi, .int .i64 fc, .slice fa fz.length fcp]) rfl (by rfl) (by rfl) (by rfl) hlF ?_
      simp only [Act.put, List.setIfInBounds_toArray, List.set_cons_succ, List.set_cons_zero]
      refine wpF_load (.agg #[.int .i64 fv, .int .i64 fk, .int .u32 fq, .int .i64 fi, .int .i64 fc, .slice fa fz.length fcp]) rfl (by rfl) (by rfl) (by rfl) hlF ?_
      simp only [Act.put, List.setIfInBounds_toArray, List.set_cons_succ, List.set_cons_zero]
      refine wpF_call (f := 9) (args := #[.agg #[.int .i64 fv, .int .i64 fk, .int .u32 fq, .int .i64 fi, .int .i64 fc, .slice fa fz.length fcp], .agg #[.int .i64 fv, .int .i64 fk, .int .u32 fq, .int .i64 fi, .int .i64 fc, .slice fa fz.length fcp]]) (.bool true) rfl rfl (fun x => by first | rfl | (simp [go_sem]; done)) (fun W hW => kSm W hW) ?_
      simp only [Act.put, List.setIfInBounds_toArray, List.set_cons_succ, List.set_cons_zero]
      repeat (refine wpF_pure rfl rfl ?_; go_big_quiet_step (fail); refine wpQuiet_nil ?_)
      refine wpF_load (.agg #[.int .i64 fv, .int .i64 fk, .int .u32 fq, .int .i64 fi, .int .i64 fc, .slice fa fz.length fcp]) rfl (by rfl) (by rfl) (by rfl) hlF ?_
      simp only [Act.put, List.setIfInBounds_toArray, List.set_cons_succ, List.set_cons_zero]
      refine wpF_call (f := 10) (args := #[.agg #[.int .i64 fv, .int .i64 fk, .int .u32 fq, .int .i64 fi, .int .i64 fc, .slice fa fz.length fcp]]) (.string S) rfl rfl (fun x => by first | rfl | (simp [go_sem]; done)) (fun W hW => kLn W hW) ?_
      simp only [Act.put, List.setIfInBounds_toArray, List.set_cons_succ, List.set_cons_zero]
      refine wpF_load (.agg #[.int .i64 fv, .int .i64 fk, .int .u32 fq, .int .i64 fi, .int .i64 fc, .slice fa fz.length fcp]) rfl (by rfl) (by rfl) (by rfl) hlF ?_
      simp only [Act.put, List.setIfInBounds_toArray, List.set_cons_succ, List.set_cons_zero]
      refine wpF_call (f := 6) (args := #[.agg #[.int .i64 fv, .int .i64 fk, .int .u32 fq, .int .i64 fi, .int .i64 fc, .slice fa fz.length fcp]]) (.agg #[.int .i64 fv, .int .i64 fk, .int .u32 fq, .int .i64 fi, .int .i64 fc, .slice fa fz.length fcp]) rfl rfl (fun x => by first | rfl | (simp [go_sem]; done)) (fun W _ => KO.out W) ?_
      simp only [Act.put, List.setIfInBounds_toArray, List.set_cons_succ, List.set_cons_zero]
      refine wpF_call (f := 11) (args := #[.agg #[.int .i64 fv, .int .i64 fk, .int .u32 fq, .int .i64 fi, .int .i64 fc, .slice fa fz.length fcp]]) (.string S) rfl rfl (fun x => by first | rfl | (simp [go_sem]; done)) (fun W hW => kRL W hW) ?_
      simp only [Act.put, List.setIfInBounds_toArray, List.set_cons_succ, List.set_cons_zero]
      repeat (refine wpF_pure rfl rfl ?_; go_big_quiet_step (fail); refine wpQuiet_nil ?_)
      refine wpF_load (.agg #[.int .i64 fv, .int .i64 fk, .int .u32 fq, .int .i64 fi, .int .i64 fc, .slice fa fz.length fcp]) rfl (by rfl) (by rfl) (by rfl) hlF ?_
      simp only [Act.put, List.setIfInBounds_toArray, List.set_cons_succ, List.set_cons_zero]
      refine wpF_load (.slice (some ⟨q5, 0, none⟩) (k + 1) c5) rfl (by rfl) (by rfl) (by rfl) hlS ?_
      simp only [Act.put, List.setIfInBounds_toArray, List.set_cons_succ, List.set_cons_zero]
      repeat (refine wpF_pure rfl rfl ?_; go_big_quiet_step (fail); refine wpQuiet_nil ?_)
      refine wpF_load (.agg #[.int .i64 f0.v, .int .i64 f0.k, .int .u32 f0.s, .int .i64 f0.i, .int .i64 f0.c, .slice f0.a f0.zs.length f0.cp]) rfl (by rfl) (by rfl) (by rfl) hlS0 ?_
      simp only [Act.put, List.setIfInBounds_toArray, List.set_cons_succ, List.set_cons_zero]
      refine wpF_call (f := 9) (args := #[.agg #[.int .i64 fv, .int .i64 fk, .int .u32 fq, .int .i64 fi, .int .i64 fc, .slice fa fz.length fcp], .agg #[.int .i64 f0.v, .int .i64 f0.k, .int .u32 f0.s, .int .i64 f0.i, .int .i64 f0.c, .slice f0.a f0.zs.length f0.cp]]) (.bool b0) rfl rfl (fun x => by first | rfl | (simp [go_sem]; done)) (fun W hW => kS0 W hW) ?_
      simp only [Act.put, List.setIfInBounds_toArray, List.set_cons_succ, List.set_cons_zero]
      refine wpF_load (.agg #[.int .i64 fv, .int .i64 fk, .int .u32 fq, .int .i64 fi, .int .i64 fc, .slice fa fz.length fcp]) rfl (by rfl) (by rfl) (by rfl) hlF ?_
      simp only [Act.put, List.setIfInBounds_toArray, List.set_cons_succ, List.set_cons_zero]
      refine wpF_call (f := 6) (args := #[.agg #[.int .i64 fv, .int .i64 fk, .int .u32 fq, .int .i64 fi, .int .i64 fc, .slice fa fz.length fcp]]) (.agg #[.int .i64 fv, .int .i64 fk, .int .u32 fq, .int .i64 fi, .int .i64 fc, .slice fa fz.length fcp]) rfl rfl (fun x => by first | rfl | (simp [go_sem]; done)) (fun W _ => KO.out W) ?_
      simp only [Act.put, List.setIfInBounds_toArray, List.set_cons_succ, List.set_cons_zero]
      repeat (refine wpF_pure rfl rfl ?_; go_big_quiet_step (fail); refine wpQuiet_nil ?_)
      refine wpF_load (.agg #[.int .i64 f0.v, .int .i64 f0.k, .int .u32 f0.s, .int .i64 f0.i, .int .i64 f0.c, .slice f0.a f0.zs.length f0.cp]) rfl (by rfl) (by rfl) (by rfl) hlW0 ?_
      simp only [Act.put, List.setIfInBounds_toArray, List.set_cons_succ, List.set_cons_zero]
      refine wpF_call (f := 12) (args := #[.agg #[.int .i64 fv, .int .i64 fk, .int .u32 fq, .int .i64 fi, .int .i64 fc, .slice fa fz.length fcp], .agg #[.int .i64 f0.v, .int .i64 f0.k, .int .u32 f0.s, .int .i64 f0.i, .int .i64 f0.c, .slice f0.a f0.zs.length f0.cp]]) (.bool b0) rfl rfl (fun x => by first | rfl | (simp [go_sem]; done)) (fun W hW => kR0 W hW) ?_
      simp only [Act.put, List.setIfInBounds_toArray, List.set_cons_succ, List.set_cons_zero]
      repeat (refine wpF_pure rfl rfl ?_; go_big_quiet_step (fail); refine wpQuiet_nil ?_)
      intro xs W hW _
      simp only [fill]
      have HF10 := Lib.hid (HF9.out.below hW)
      generalize fchk fv fk fi fc fz.length = ch at *
      clear hlF hlS hlS0 hlW0 hnm kCk kSm kS0 kR0 kLn kRL
      obtain ⟨z, hz⟩ : ∃ z, firstBad (gs.take k) = z := ⟨_, rfl⟩
      rw [hz] at HFB ⊢
      clear hz
      by_cases hz0 : z = 0
      · subst hz0
        rw [if_pos rfl] at HFB
        go_wp2
        go_roundw
        case rel => exact ⟨k + 1, _, by omega, by go_num, by rw [HFB.out], HF10⟩
        case measure => simp [intOf]; omega
      · have hz1 : (z == 0) = false := by rw [beq_eq_false_iff_ne]; exact hz0
        rw [if_neg hz0] at HFB
        go_wp2
        go_roundw
        case rel => exact ⟨k + 1, _, by omega, by go_num, by rw [HFB.out], HF10⟩
        case measure => simp [intOf]; omega
    · obtain rfl : k = m := by omega
      have hT : gs.take k = gs := List.take_of_length_le (by rw [HGL.out]; omega)
      rw [hT] at HF ⊢
      have hbV : Below w.heap.size w wr := (hbw.trans (hb02.mono (by have := HS.out; omega))).trans (HF.out.off.below (fun b hb => by have := HS.out; omega) (by have := HS.out; omega))
      have hatV : ∀ f ∈ gs, f.At wr wr.heap.size := fun f hf => ((HGA.out f hf).below hbV).mono hbV.size
      have hone := HF.out.one
      have htwo := HF.out.two
      obtain ⟨A5, c5, rfl, hc5, hfr5⟩ := own_frs hone hatV
      obtain ⟨A7, c7, rfl, hc7, hfr7⟩ := own_frs htwo hatV
      rw [HGL.out] at hc5 hc7 ⊢
      have bS := HF.out.box
      rw [HGL.out] at bS
      have kS := bS.cell
      have hb1V : Below w1.heap.size w1 wr := hb12.trans ((HF.out.off.below (B := w1.heap.size) (fun b hb => by omega) (by have := HS.out; omega)))
      have hcodV := (hcod1.below hb1V).mono hb1V.size
      have KP := Lib.hid (fpack_any cb A5 k c5 gs wr hcodV HGL.out hc5 (by omega) hfr5)
      have HFR5 := Lib.hid hfr5
      have HFR7 := Lib.hid hfr7
      have HBV := Lib.hid hbV
      have HCV := Lib.hid hcodV
      have bR : Boxed wr w.heap.size 4 (.bool false) := by
        have h2 := (hb02.trans ((HF.out.off.below (B := w0.heap.size) (fun b hb => by have := HS.out; omega) (by have := HS.out; omega)) : Below w0.heap.size w2 wr))
        exact (h2.block _ bR0.lt).trans bR0
      obtain ⟨z, hz⟩ : ∃ z, firstBad gs = z := ⟨_, rfl⟩
      rw [hz] at KP ⊢
      have HZ := Lib.hid hz
      clear hatV hone htwo hfr5 hfr7 hbV hb1V hcodV hz
      have hkk : ((k : Int) < (n : Int) ∧ ¬ (k : Int) < 10) ∨ (¬ (k : Int) < (n : Int)) := by have := HMX.out; omega
      rcases hkk with ⟨hk1, hk2⟩ | hk1
      all_goals (
        go_wp2_with fail
        gi_wp2_with fail
        refine ⟨trivial, ?_⟩
        refine (callsIn_wide.2 KP.out).mono ?_
        rintro e wp hr
        rcases hr with ⟨hz0, rfl, hbp⟩ | ⟨hz0, vb, rfl, hmp⟩
        · have hz1 : (z != 0) = true := by simpa using hz0
          have HBP := Lib.hid (HBV.out.trans (hbp.mono HBV.out.size))
          have bRp : Boxed wp w.heap.size 4 (.bool false) := (hbp.block _ bR.lt).trans bR
          clear hbp KP
          gi_wp2_with fail
          refine ⟨trivial, ?_⟩
          refine (callsIn_wide.2 (fknown_any _)).mono ?_
          rintro e W0 ⟨rfl, hW0⟩
          have kR0 := boxed_then bRp hW0
          have fR0 := (show Boxed W0 w.heap.size 4 (.bool false) from (hW0.block _ bRp.lt).trans bRp).frozen
          have bR9 := (show Boxed W0 w.heap.size 4 (.bool false) from (hW0.block _ bRp.lt).trans bRp).set (.bool true)
          have kRh := bR9.cell
          have HEND := Lib.hid ((HBP.out.trans (hW0.mono HBP.out.size)).setCell (p := ⟨w.heap.size, 0, none⟩) (Nat.le_refl _) (.bool true))
          clear hW0 bR9
          gi_wp2
          refine ⟨.bool true, ?_, rfl, HEND.out⟩
          simp [results, Tryd.f3, go_sem, kRh]
        · obtain ⟨AB, cB, rfl, hcB, hnB⟩ := hmp.slice
          have hchk : ∀ f ∈ gs, f.chk = 0 := firstBad_all (HZ.out.trans hz0)
          have hwl := wrap_room gs hchk
          rw [HGL.out] at hwl
          have hsegs := Lib.hid (fun (j p : Nat) (b : List Int) (h : (Fc.scan 0 [] (Fc.wrap (gs.map Fr.seg)))[j]? = some (p, b)) => scan_packed h)
          have hscn := Lib.hid ((scan_packed_len gs).trans HGL.out)
          have HBY : Hid (Bytes (Fc.wrap (gs.map Fr.seg))) := wrap_bytes fun b hb => by
            obtain ⟨f, hf, rfl⟩ := List.mem_map.1 hb
            have hat := HGA.out f hf
            exact seg_bytes (hchk f hf) ⟨hat.s0, hat.s1⟩ hat.byte
          have HCHK := Lib.hid hchk
          have hbp := hmp.2
          have hnBp := hnB
          have HMW : Hid (Nums .u8 wp wp.heap.size AB (Fc.wrap (gs.map Fr.seg))) := hnB
          have bRp : Boxed wp w.heap.size 4 (.bool false) := (hbp.block _ bR.lt).trans bR
          have bSp : Boxed wp w1.heap.size 22 (.slice A5 k c5) := (hbp.block _ bS.lt).trans bS
          have HF5p := Lib.hid ((HFR5.out.below hbp).mono hbp.size)
          have HF7p := Lib.hid ((HFR7.out.below hbp).mono hbp.size)
          have HBp := Lib.hid (HBV.out.trans (hbp.mono HBV.out.size))
          have HCp := Lib.hid ((HCV.out.below hbp).mono hbp.size)
          have hkz : k = 0 → gs = [] := fun h => List.eq_nil_of_length_eq_zero (by rw [HGL.out]; exact h)
          subst hz0
          generalize hX : Fc.wrap (gs.map Fr.seg) = X at *
          obtain ⟨nb, hnb⟩ : ∃ nb, X.length = nb := ⟨_, rfl⟩
          rw [hnb] at hcB hwl ⊢
          have HNB := Lib.hid hnb
          have HX := Lib.hid hX
          have hsp := Lib.hid hbp.size
          clear hmp hnB hnBp hchk hbp KP hX hnb bR bS
          gi_wp2_with fail
          refine ⟨trivial, ?_⟩
          obtain ⟨w6, hw6⟩ : ∃ w6, wp.alloc (.cells #[.int .i64 0] 3) = w6 := ⟨_, rfl⟩
          have hs6 : w6.heap.size = wp.heap.size + 1 := by rw [← hw6]; simp
          have bI6 : Boxed w6 wp.heap.size 3 (.int .i64 ((0 : Nat) : Int)) := by rw [← hw6]; exact Boxed.new wp _ _
          have hb56 : Below wp.heap.size wp w6 := by rw [← hw6]; exact (Below.refl _ wp).alloc (Nat.le_refl _) _
          rw [hw6]
          refine (callsIn_wide.2 (frames_any cb AB nb cB X w6 HNB.out (by omega) ((HMW.out.below hb56).mono hb56.size))).mono ?_
          rintro e w7 ⟨Bs, Ba, Bc, AC, cC, rfl, hseq⟩
          have hfn := frs_not_nil Ba Bc
          have hb67 := hseq.below
          have hs67 := hb67.size
          have hb57 := hb56.trans (hb67.mono (by omega))
          have bI : Boxed w7 wp.heap.size 3 (.int .i64 ((0 : Nat) : Int)) := (hb67.block _ (by omega)).trans bI6
          have bS7 : Boxed w7 w1.heap.size 22 (.slice A5 k c5) := (hb57.block _ bSp.lt).trans bSp
          have bR7 : Boxed w7 w.heap.size 4 (.bool false) := (hb57.block _ bRp.lt).trans bRp
          have hbS := bSp.lt
          have hbR := bRp.lt
          clear hw6 bI6 hb67 hb56 bSp bRp
          have hOff : ∀ V, Off (fun q => q = wp.heap.size) w7 V → Below wp.heap.size wp V := fun V hV => hb57.trans (hV.below (fun q hq => by omega) (by omega))
          have hBi : wp.heap.size < w7.heap.size := by omega
          gi_wp2_with fail
          refine range_stopb rfl (by omega) (gf := 32) (lb := #[.pointer (some ⟨Ba, 0, none⟩), .pointer (some ⟨Bc, 0, none⟩)]) rfl trivial (enters_of Tryd.func32 (by kernel_rfl) rfl)
            itF (fun _ => rfl)
            (fun j x V => Ld w7 wp.heap.size 3 j V ∧ (∃ p s, (Fc.scan 0 [] X)[j]? = some (p, s) ∧ unS s = x.1) ∧ x.1.1.2.length ≤ x.2.2 ∧ Nums .u8 V V.heap.size x.2.1 x.1.1.2)
            (fun j x q V => Ld w7 wp.heap.size 3 j V ∧ (∃ p s, (Fc.scan 0 [] X)[j]? = some (p, s) ∧ unS s = x.1) ∧ Nums .u8 V V.heap.size x.2.1 x.1.1.2 ∧ w7.heap.size ≤ q ∧
              V.heap[q]? = some (.cells (frC x.1.1.1.1 x.1.1.1.2.1 x.1.1.1.2.2.1 x.1.1.1.2.2.2.1 x.1.1.1.2.2.2.2 (.slice x.2.1 x.1.1.2.length x.2.2)) 31 (0, 0)))
            (fun j V => Ld w7 wp.heap.size 3 j V) (fun _ _ => False) (KpC wp.heap.size) (Fc.scan 0 [] X).length
            (fun j x q V l o o' h hl ho hc' => ⟨h.1.below hBi (below_put V o' hl), h.2.1, by rw [show (V.putObj l o').heap.size = V.heap.size by simp [World.putObj]]; exact h.2.2.1.putObj ho hc' o', h.2.2.2.1,
              (World.putObj_heap_other (fun e => by subst e; rw [h.2.2.2.2] at ho; injection ho with ho; subst ho; cases hc')).trans h.2.2.2.2⟩)
            (fun j V l o o' h hl _ _ => h.below hBi (below_put V o' hl))
            (fun _ _ _ _ _ h _ _ _ => h)
            (fun _ _ _ h k => h.trans k) (fun V l o o' _ ho hc' => KpC.putObj ho hc')
            (fun o => Ld.below ⟨bI, Off.refl _ _⟩ hBi (((Below.refl w7.heap.size w7).alloc (Nat.le_refl _) _).alloc (by simp) _)) ?round ?iter ?done ?stop
          case round =>
            rintro l j ⟨⟨⟨⟨v, kk, s, i, d⟩, L⟩, er⟩, AL, cL⟩ V K ⟨hLd, hseg, hcL, hnL⟩ hj hK
            rw [hscn.out] at hj
            simp only [itF, frP, frV, frC] at *
            have hVs := hLd.2.size
            have hK' := Lib.hid hK
            clear hK
            gi_wp2_with fail
            refine hK'.out _ V.heap.size _ ⟨hLd.below hBi ((Below.refl w7.heap.size V).alloc hVs _), hseg, (hnL.below ((Below.refl _ V).alloc (Nat.le_refl _) _)).mono (by simp), hVs, World.alloc_heap_new _ _⟩ ⟨by simp, fun q o _ ho _ => (Below.heap_alloc _ _ _ (Array.getElem?_eq_some_iff.1 ho).1).trans ho⟩ (KpC.of_below ((Below.refl _ V).alloc (Nat.le_refl _) _)) ?_
            clear hK' hLd hseg hnL hVs
            generalize V.heap.size = q
            clear V
            rintro l V hl ⟨hLd, ⟨p, sg, hsc, hun⟩, hnL, hq, hbox⟩
            have hVs := hLd.2.size
            have hbV := hOff V hLd.2
            obtain ⟨f, hf, rfl⟩ := hsegs.out j p sg hsc
            rw [unS_seg (HCHK.out f (List.mem_of_getElem? hf))] at hun
            obtain ⟨g5, o5, rfl, hg5, r0', r1', r2', r3', r4', r5'⟩ := (HF5p.out.below hbV).six hf
            have hat := (HGA.out f (List.mem_of_getElem? hf)).below (HBp.out.trans (hbV.mono HBp.out.size))
            have hsBV : w.heap.size ≤ V.heap.size := Nat.le_trans HBp.out.size hbV.size
            obtain ⟨fv, fk, fq, fi, fc, fa, fcp, fz⟩ := f
            simp only [frD', Prod.mk.injEq] at hun
            obtain ⟨⟨⟨rfl, rfl, rfl, rfl, rfl⟩, rfl⟩, rfl⟩ := hun
            simp only at r0' r1' r2' r3' r4' r5'
            have hbb := hat.byte
            have hnn := hat.nums
            have hfew := hat.few
            simp only at hbb hnn hfew
            have bIV := hLd.1
            have bSV : Boxed V w1.heap.size 22 (.slice (some ⟨g5, o5, none⟩) k c5) := (hLd.2.block w1.heap.size (by omega) (by omega)).trans bS7
            have hlI : ∀ W, Below V.heap.size V W → (Instr.loadAt 3 (.pointer (some ⟨wp.heap.size, 0, none⟩))).run Tryd.prog W = .ok (.int .i64 (j : Int)) W := fun W hW => by
              have := boxed_then bIV hW
              simp [Instr.loadAt, go_sem, this]
            have hlS : ∀ W, Below V.heap.size V W → (Instr.loadAt 22 (.pointer (some ⟨w1.heap.size, 0, none⟩))).run Tryd.prog W = .ok (.slice (some ⟨g5, o5, none⟩) k c5) W := fun W hW => by
              have := boxed_then bSV hW
              simp [Instr.loadAt, go_sem, this]
            have hlF : ∀ W, Below V.heap.size V W → (Instr.loadAt 31 (.pointer (some ⟨q, 0, none⟩))).run Tryd.prog W = .ok (.agg #[.int .i64 fv, .int .i64 fk, .int .u32 fq, .int .i64 fi, .int .i64 fc, .slice AL fz.length cL]) W := fun W hW => by
              obtain ⟨d0, d1, d2, d3, d4, d5⟩ := fr_block ((hW.block q (Array.getElem?_eq_some_iff.1 hbox).1).trans hbox)
              simp [Instr.loadAt, go_sem, d0, d1, d2, d3, d4, d5]
            have hgV : g5 < V.heap.size := by have := hbV.size; omega
            have hlR : ∀ W, Below V.heap.size V W → (Instr.loadAt 31 (.pointer (some ⟨g5, o5 + j * 6, none⟩))).run Tryd.prog W = .ok (.agg #[.int .i64 fv, .int .i64 fk, .int .u32 fq, .int .i64 fi, .int .i64 fc, .slice fa fz.length fcp]) W := fun W hW => by
              have d0 := (hW.cell (p := ⟨g5, o5 + j * 6, none⟩) hgV).trans r0'
              have d1 := (hW.cell (p := ⟨g5, o5 + j * 6 + 1, none⟩) hgV).trans r1'
              have d2 := (hW.cell (p := ⟨g5, o5 + j * 6 + 2, none⟩) hgV).trans r2'
              have d3 := (hW.cell (p := ⟨g5, o5 + j * 6 + 3, none⟩) hgV).trans r3'
              have d4 := (hW.cell (p := ⟨g5, o5 + j * 6 + 4, none⟩) hgV).trans r4'
              have d5 := (hW.cell (p := ⟨g5, o5 + j * 6 + 5, none⟩) hgV).trans r5'
              simp [Instr.loadAt, go_sem, d0, d1, d2, d3, d4, d5]
            have hSm : ∀ W, Below V.heap.size V W → Calls Tryd.prog 9 #[.agg #[.int .i64 fv, .int .i64 fk, .int .u32 fq, .int .i64 fi, .int .i64 fc, .slice AL fz.length cL], .agg #[.int .i64 fv, .int .i64 fk, .int .u32 fq, .int .i64 fi, .int .i64 fc, .slice fa fz.length fcp]] W fun e w'' => e = .returned (.bool true) ∧ Below W.heap.size W w'' := fun W hW => by
              have h := fsame_any fv fk fq fi fc fv fk fq fi fc V.heap.size AL fa fz.length cL fz.length fcp fz fz W rfl rfl hW.size hbb hbb (hnL.below hW) ((hnn.mono hsBV).below hW)
              have e1 : sameZ fv fk fq fi fc fv fk fq fi fc fz fz = true := by simp [sameZ]
              rw [e1] at h
              exact h
            have hjN : (j : Int) < (k : Int) := by omega
            have hjN2 : decide ((k : Int) ≤ (j : Int)) = false := by rw [decide_eq_false_iff_not]; omega
            have hjN3 : decide (k ≤ j) = false := by rw [decide_eq_false_iff_not]; omega
            have hNc1 : (k : Int) ≤ (c5 : Int) := by omega
            have hj0 : (0 : Int) ≤ (j : Int) := by omega
            have hj2 : (j : Int) ≤ 1000 := by omega
            have hfin : Hid (∀ (V1 : World), Below V.heap.size V V1 → KeepsFrom w7.heap.size V (V1.setCell ⟨wp.heap.size, 0, none⟩ (.int .i64 ((j : Int) + 1))) ∧ Ld w7 wp.heap.size 3 (j + 1) (V1.setCell ⟨wp.heap.size, 0, none⟩ (.int .i64 ((j : Int) + 1))) ∧ KpC wp.heap.size V (V1.setCell ⟨wp.heap.size, 0, none⟩ (.int .i64 ((j : Int) + 1)))) := fun V1 hb =>
              ⟨(⟨hb.size, fun k o _ ho _ => (hb.block k (Array.getElem?_eq_some_iff.1 ho).1).trans ho⟩ : KeepsFrom w7.heap.size V V1).trans ((KeepsOthers.setCell _ _ _).from _),
                ⟨by rw [Int.natCast_succ]; exact Boxed.set _ ((hb.block _ (by omega)).trans hLd.1 : Boxed V1 wp.heap.size 3 _), (off_below hLd.2 (hb.mono hVs)).setCell (p := ⟨wp.heap.size, 0, none⟩) rfl _⟩, (KpC.of_below hb).set _⟩
            have HBI := Lib.hid (show Boxed V wp.heap.size 3 (.int .i64 (j : Int)) from bIV)
            clear hLd hsc hnL hbox hf bIV bSV hbV hat hbb hnn r0' r1' r2' r3' r4' r5'
            gi_wp2_with fail
            refine wpIn_region_F 144 [] (fun _ _ _ => True) (fun W => Below V.heap.size V W) (by kernel_rfl) (by kernel_rfl) (by rfl) (by simp) (fun W W' h hb => h.trans (hb.mono h.size)) (fun q x W W' h hb => trivial) (Below.refl _ _).drew (by rfl) ?_
            refine wpF_load (.int .i64 (j : Int)) rfl (by rfl) (by rfl) (by rfl) hlI ?_
            simp only [Act.put, List.setIfInBounds_toArray, List.set_cons_succ, List.set_cons_zero]
            refine wpF_load (.slice (some ⟨g5, o5, none⟩) k c5) rfl (by rfl) (by rfl) (by rfl) hlS ?_
            simp only [Act.put, List.setIfInBounds_toArray, List.set_cons_succ, List.set_cons_zero]
            repeat (refine wpF_pure rfl rfl ?_; go_big_quiet_step (fail); refine wpQuiet_nil ?_)
            refine wpF_load (.agg #[.int .i64 fv, .int .i64 fk, .int .u32 fq, .int .i64 fi, .int .i64 fc, .slice AL fz.length cL]) rfl (by rfl) (by rfl) (by rfl) hlF ?_
            simp only [Act.put, List.setIfInBounds_toArray, List.set_cons_succ, List.set_cons_zero]
            refine wpF_load (.slice (some ⟨g5, o5, none⟩) k c5) rfl (by rfl) (by rfl) (by rfl) hlS ?_
            simp only [Act.put, List.setIfInBounds_toArray, List.set_cons_succ, List.set_cons_zero]
            refine wpF_load (.int .i64 (j : Int)) rfl (by rfl) (by rfl) (by rfl) hlI ?_
            simp only [Act.put, List.setIfInBounds_toArray, List.set_cons_succ, List.set_cons_zero]
            repeat (refine wpF_pure rfl rfl ?_; go_big_quiet_step (fail); refine wpQuiet_nil ?_)
            refine wpF_load (.agg #[.int .i64 fv, .int .i64 fk, .int .u32 fq, .int .i64 fi, .int .i64 fc, .slice fa fz.length fcp]) rfl (by rfl) (by rfl) (by rfl) hlR ?_
            simp only [Act.put, List.setIfInBounds_toArray, List.set_cons_succ, List.set_cons_zero]
            refine wpF_call (f := 9) (args := #[.agg #[.int .i64 fv, .int .i64 fk, .int .u32 fq, .int .i64 fi, .int .i64 fc, .slice AL fz.length cL], .agg #[.int .i64 fv, .int .i64 fk, .int .u32 fq, .int .i64 fi, .int .i64 fc, .slice fa fz.length fcp]]) (.bool true) rfl rfl (fun x => by first | rfl | (simp [go_sem]; done)) (fun W hW => hSm W hW) ?_
            simp only [Act.put, List.setIfInBounds_toArray, List.set_cons_succ, List.set_cons_zero]
            repeat (refine wpF_pure rfl rfl ?_; go_big_quiet_step (fail); refine wpQuiet_nil ?_)
            intro xs W hW _
            simp only [fill]
            have kI1 : W.cell? ⟨wp.heap.size, 0, none⟩ = some (.int .i64 (j : Int)) := boxed_then HBI.out hW
            have fI1 : W.frozen? ⟨wp.heap.size, 0, none⟩ = false := (show Boxed W wp.heap.size 3 (.int .i64 (j : Int)) from (hW.block _ HBI.out.lt).trans HBI.out).frozen
            have hend := Lib.hid (hfin.out W hW)
            clear hfin hW hlI hlS hlF hlR hSm
            gi_wp2
            exact hend.out
          case iter =>
            intro Bk Y l V hBk hBlt hY2 hl hD hB hY
            have hne : ∀ q : Nat, wp.heap.size + 1 ≤ q → ¬ (fun q => q = wp.heap.size) q := fun q h e => by simp only at e; omega
            have hnu : Nums .u8 V V.heap.size AC X := fun h0 => by
              obtain ⟨b, off, e, hb, hcl⟩ := hseq.nums h0
              exact ⟨b, off, e, by have := hD.2.size; omega, fun q z hq => hD.2.cell (hcl q z hq) (by simp only; omega)⟩
            exact frames_in 8 (by omega) 7 l Bs Ba Bc cb nb cC wp.heap.size w7.heap.size AC X HNB.out (by omega) HBY.out (fun j V => Ld w7 wp.heap.size 3 j V) Bk Y hBi hl (fun j A B h hb => h.below hBi hb)
              (fun j A h => (HCp.out.below (hOff A h.2)).mono (hOff A h.2).size) hBk hBlt hY2
              (fun j p s A1 c1 W1 h1 h2 h3 h4 h5 => hY j (unS s, A1, c1) W1 ⟨h1, ⟨p, s, h2, rfl⟩, h3, h4⟩ h5 (by
                rcases Nat.lt_or_ge j (Fc.scan 0 [] X).length with h | h
                · exact h
                · rw [List.getElem?_eq_none h] at h2; cases h2)) V
              (hD.2.cell hseq.boxS (hne Bs (by have := hseq.loS; omega))) (hD.2.cell hseq.boxA (hne Ba (by have := hseq.loA; omega))) (hD.2.cell hseq.boxC (hne Bc (by have := hseq.loC; omega))) (by have := hseq.loC; omega) hnu hD hB
          case done =>
            rintro D V hD ⟨hI, hO⟩ hK
            rw [hscn.out] at hI
            have hVs := hO.size
            have bSV : Boxed V w1.heap.size 22 (.slice A5 k c5) := (hO.block w1.heap.size (by omega) (by omega)).trans bS7
            have bRV : Boxed V w.heap.size 4 (.bool false) := (hO.block w.heap.size (by omega) (by omega)).trans bR7
            have hbV := hOff V hO
            clear bS7 bR7 bI hseq hOff hfn hO
            gi_wp2_with fail
            refine ⟨trivial, ?_⟩
            refine (callsIn_wide.2 (fknown_any _)).mono ?_
            rintro e W0 ⟨rfl, hW0⟩
            have hb0 := hbV.trans (hW0.mono hbV.size)
            gi_wp2_with fail
            refine ⟨trivial, ?_⟩
            refine (callsIn_wide.2 (rfwire_any A7 k c7 gs W0 HGL.out hc7 (by omega) HCHK.out ((HF7p.out.below hb0).mono hb0.size))).mono ?_
            rintro e W2 ⟨x2, rfl, hm2⟩
            rw [HX.out] at hm2
            obtain ⟨A9, c9, rfl, hc9, hn9⟩ := hm2.slice
            rw [HNB.out]
            have hb2 := hb0.trans (hm2.2.mono hb0.size)
            have KE := same_any W2.heap.size AB A9 nb nb cB c9 X X W2 HNB.out HNB.out (by omega) ((HMW.out.below hb2).mono hb2.size) hn9
            rw [decide_eq_true rfl] at KE
            have hV2 := hW0.trans (hm2.2.mono hW0.size)
            clear hm2 hn9
            gi_wp2_with fail
            refine ⟨trivial, ?_⟩
            refine (callsIn_wide.2 KE).mono ?_
            rintro e W3 ⟨rfl, d, hd⟩
            have hb23 : Below W2.heap.size W2 W3 := by rw [hd]; exact below_drewN (Below.refl _ _) d
            have hV3 := hV2.trans (hb23.mono hV2.size)
            have hb3 := hb2.trans (hb23.mono hb2.size)
            have kI3 := boxed_then hI hV3
            have kS3 := boxed_then bSV hV3
            have kR3 := boxed_then bRV hV3
            have bR3 := show Boxed W3 w.heap.size 4 (.bool false) from (hV3.block _ bRV.lt).trans bRV
            have fR3 := bR3.frozen
            have bR9 := bR3.set (.bool true)
            have hDV : D < V.heap.size := (Array.getElem?_eq_some_iff.1 hK).1
            have hwD : w.heap.size < D := by omega
            have hK9 : (W3.setCell ⟨w.heap.size, 0, none⟩ (.bool true)).heap[D]? = some (.deferred (some [])) := (Below.heap_setCell W3 _ _ _ (by simp only; omega)).trans ((hV3.block _ hDV).trans hK)
            have hb9 := (HBp.out.trans (hb3.mono HBp.out.size)).setCell (p := ⟨w.heap.size, 0, none⟩) (Nat.le_refl _) (.bool true)
            have bRh : Boxed ((W3.setCell ⟨w.heap.size, 0, none⟩ (.bool true)).putObj D (.deferred none)) w.heap.size 4 (.bool true) := (World.putObj_heap_other (by omega)).trans bR9
            have hbh := hb9.trans (below_put (B := w.heap.size) (W3.setCell ⟨w.heap.size, 0, none⟩ (.bool true)) (.deferred none) (by omega : w.heap.size ≤ D))
            have kRh := bRh.cell
            have HF := Lib.hid (And.intro hK9 hbh)
            clear hK9 hb9 hbh bR9 bRh bR3 hV3 hV2 hb3 hb2 hb23 hb0 hW0 hd KE hI bSV bRV hK hbV
            gi_wp2
            refine ⟨by simp, .inl ⟨_, _, rfl, run_takeDeferred HF.out.1, ?_⟩⟩
            refine ⟨.bool true, ?_, rfl, HF.out.2⟩
            simp [results, Tryd.f3, go_sem, kRh]
          case stop =>
            rintro D cd W' _ h _
            exact h.elim)
end Go.Proofs.YtbohdmconeebeaaDoor

namespace Go.Proofs.YtbohdmconeebeaaDoor.framePacks
open Go.ChangeShapes Go.WideShapes Go.ChangeAt Go.RowKit
set_option linter.unusedVariables false

set_option maxRecDepth 100000 in
theorem lifted (os : Os) (started : os.Started) (H : Type) (enc : TypeId × Value → H) :
    ReturnsInHanded {} Tryd.checked os 3 .any (fun w args => (Rows.framePacksSpec.pre enc Tryd.prog Tryd.f3 [] false w args ∧ laidMetH Tryd.prog laidL w) ∧ sizedMet enc Tryd.prog Tryd.f3 (OpenSpec.ofChange Rows.framePacksSpec) false w args)
      (Rows.framePacksSpec.post enc Tryd.prog Tryd.f3 false true false false) := by
  refine returnsInHanded_of_change_and (C := Tryd.checked) (X := fun w _ => laidMetH Tryd.prog laidL w) (fun _ _ _ hh h => h.of_heap hh) ownK started (by kernel_rfl) Tryd.func3
    (ChangeSpec.witness_shaped (enc := enc) (C := Tryd.checked) (os := os) (X := fun w _ => laidMetH Tryd.prog laidL w) false (World.doorLaid Tryd.prog 2000 os) #[.slice none 0 0] 8 rfl (World.shaped_of_RefB (by kernel_rfl) (by kernel_rfl)) (by kernel_rfl) (by kernel_rfl) (by kernel_rfl) (door_met os _)) ?_
  intro W base args ds gs before hval0 hW _ _ hL _
  have hval : ∀ (j : Nat) t v, Tryd.f3.params[j]? = some t → args[j]? = some v → Value.okWide Tryd.prog W .any base t v := hval0
  have hW' := hW
  obtain ⟨p, q, hA0, hV, rfl, hfz, hnd⟩ := hW
  have hA : DataW.TrodAll enc Tryd.prog W 0 (fun _ => true) true Tryd.f3.params.toList args.toList ds p := hA0
  rw [Tryd.params3] at hA hval
  obtain ⟨v0, vs0, d0, ds0, p0, q0, hargs, rfl, rfl, h0, r0⟩ := trodAll_cons hA
  obtain ⟨rfl, rfl, rfl⟩ := trodAll_nil r0
  obtain rfl : args = #[v0] := by cases args; simp_all
  obtain ⟨rfl, rfl⟩ := trodVars_none hV
  obtain ⟨a0, len0, cap0, rfl⟩ := okWide_slice Tryd.underlying22 (hval 0 22 v0 rfl rfl)
  have k0 := h0
  have lt0 : ∀ x ∈ p0, x.block < W.heap.size := by obtain ⟨m, hm⟩ := k0; exact DataW.trod_lt m _ _ _ hm
  obtain ⟨fuel0, hf0⟩ := h0
  obtain ⟨fs0, l0, _, q0, m0, wf0⟩ := frs_of hf0
  have ht := tens_of_laid hL
  clear hA0 hval0
  refine (packs_go a0 len0 (min len0 10) cap0 fs0 W l0 q0 rfl m0 wf0 ht).mono fun e W' ⟨he, bel⟩ => ?_
  subst he
  exact ⟨_, rfl, _, _, _, [], _, [], hW', trodAll_mk1 (shut_bool Tryd.underlying4 _), (trodAll_cons_mk (Below.trod lOut (by kernel_rfl) (of_decide_eq_true (by kernel_rfl)) k0 bel lt0) trodAll_mk0), rfl, bel.frame _, fun h => by cases h⟩

theorem over : Rows.FramePacksSaid :=
  OpenClaim.holds_of_wide 3 Tryd.f3 rfl rfl rfl rfl rfl rfl rfl ⟨rfl, rfl, rfl, rfl, rfl⟩ rfl rfl rfl rfl rfl (by kernel_rfl) Tryd.func3 (by kernel_rfl)
    (of_decide_eq_true (by kernel_rfl)) (by unfold Func.isWrapper; first | (rw [if_pos (by decide +kernel)]; kernel_rfl) | (rw [if_neg (by decide +kernel)]; exact ⟨rfl, rfl⟩))
    (fun os started H enc _ => lifted os started H enc)

theorem proved : Rows.FramePacksCardSaid :=
  Claim7.holds_tied_plain_at .later [] [.data, .data, .data] true (true, "08c5a4f10aa9c89280467d4b827b51413fac2a817f71cde582c9302db0423461") false
    over (fun _ h => by cases h) (by kernel_rfl) (fun _ h => by cases h) framePacks_row_tie rfl ⟨rfl, rfl⟩ (by kernel_rfl) rfl
    (fun f fn hf hfn => by
      obtain rfl : f = 3 := Option.some.inj ((show Tryd.prog.funcNamed "cuneiform/cuneiformlaw08.FramePacks" = some 3 by kernel_rfl).symm.trans hf) |>.symm
      obtain rfl : fn = Tryd.f3 := (Option.some.inj (Tryd.func3.symm.trans hfn)).symm
      exact ⟨by kernel_rfl, fun j t ht => by
        rw [Tryd.params3] at ht
        have hm : t ∈ [22] := by simpa using Array.mem_of_getElem? ht
        have hall : ([22].all fun u => !Tryd.prog.wantsStandIn u) = true := by kernel_rfl
        exact (show Tryd.prog.wantsStandIn t = false by simpa using List.all_eq_true.1 hall t hm)⟩)
    (by kernel_rfl)
#print axioms proved
end Go.Proofs.YtbohdmconeebeaaDoor.framePacks
