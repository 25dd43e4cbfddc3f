/-
  A part of the texts of one proof, put together: TabW, FrM, TabR, CutN, CutC, KpA, SloU, CutD, CutG, TabS, TabT, RhC, SerK, SerB, Q12, Q14, Q3.
-/
import Derived.Maps.AppendAt
import Derived.Deep.MidRow
import Derived.Test.YtloncplpjdekoaaRows
import Derived.WalkLawsBesides
import Derived.WalkMore
import Derived.Lib.Hide
import Derived.Lib.MinMax
import Derived.Test.YtloncplpjdekoaaMB5
namespace Go.Proofs.Ytloncplpjdekoaa.Tb
open Go.RowKit
theorem Like.refl (x : Ms) : Like x x := ⟨rfl, rfl, rfl, rfl, .refl _⟩
theorem Like.symm {x y : Ms} (h : Like x y) : Like y x := ⟨h.1.symm, h.2.1.symm, h.2.2.1.symm, h.2.2.2.1.symm, h.2.2.2.2.symm⟩
theorem Like.trans {x y z : Ms} (h : Like x y) (k : Like y z) : Like x z := ⟨k.1.trans h.1, k.2.1.trans h.2.1, k.2.2.1.trans h.2.2.1, k.2.2.2.1.trans h.2.2.2.1, h.2.2.2.2.trans k.2.2.2.2⟩
theorem Like.err {x y : Ms} (h : Like x y) (f : Fr) : y.err f = x.err f := by
  unfold Ms.err sErr
  rw [h.1, h.2.1, h.2.2.1, h.2.2.2.1, Sl.has_perm h.2.2.2.2, Sl.tot_perm h.2.2.2.2]
theorem Like.push {x y : Ms} (h : Like x y) (f : Fr) : Like (x.push f) (y.push f) := ⟨h.1, h.2.1, h.2.2.1, h.2.2.2.1, h.2.2.2.2.append_right _⟩
theorem Like.full {x y : Ms} (h : Like x y) : y.full = x.full := by
  unfold Ms.full
  rw [h.2.2.2.1, h.2.2.2.2.length_eq]
theorem Likes.refl : ∀ T : List Ms, Likes T T
  | [] => trivial
  | x :: r => ⟨Like.refl x, Likes.refl r⟩
theorem Likes.symm : ∀ {T T' : List Ms}, Likes T T' → Likes T' T
  | [], [], _ => trivial
  | _ :: _, _ :: _, h => ⟨h.1.symm, Likes.symm h.2⟩
  | [], _ :: _, h => h.elim
  | _ :: _, [], h => h.elim
theorem Likes.trans : ∀ {T T' U : List Ms}, Likes T T' → Likes T' U → Likes T U
  | [], [], [], _, _ => trivial
  | _ :: _, _ :: _, _ :: _, h, k => ⟨h.1.trans k.1, Likes.trans h.2 k.2⟩
  | [], _ :: _, _, h, _ => h.elim
  | _ :: _, [], _, h, _ => h.elim
  | [], [], _ :: _, _, k => k.elim
  | _ :: _, _ :: _, [], _, k => k.elim
theorem Likes.len {T T' : List Ms} (h : Likes T T') : T'.length = T.length := by
  have := congrArg List.length h.nums
  unfold Tb.nums at this
  rwa [List.length_map, List.length_map] at this
theorem Likes.old {T T' : List Ms} (h : Likes T T') : old T' = old T := by
  unfold Tb.old
  rw [h.nums]
theorem Likes.held : ∀ {T T' : List Ms}, Likes T T' → held T' = held T
  | [], [], _ => rfl
  | x :: r, y :: s, h => by
    have h1 := Likes.held h.2
    have h2 := Sl.tot_perm h.1.2.2.2.2
    unfold Tb.held at *
    rw [List.map_cons, List.map_cons, List.sum_cons, List.sum_cons, h1, h2]
  | [], _ :: _, h => h.elim
  | _ :: _, [], h => h.elim
theorem Likes.find : ∀ {T T' : List Ms}, Likes T T' → ∀ n : Int, (find T n = none ∧ find T' n = none) ∨ ∃ x y, find T n = some x ∧ find T' n = some y ∧ Like x y
  | [], [], _, _ => .inl ⟨rfl, rfl⟩
  | x :: r, y :: s, h, n => by
    have hs : y.s = x.s := h.1.2.2.1
    unfold Tb.find
    by_cases hx : x.s = n
    · rw [List.find?_cons_of_pos (by simpa using hx), List.find?_cons_of_pos (by simpa [hs] using hx)]
      exact .inr ⟨x, y, rfl, rfl, h.1⟩
    · rw [List.find?_cons_of_neg (by simpa using hx), List.find?_cons_of_neg (by simpa [hs] using hx)]
      exact Likes.find h.2 n
  | [], _ :: _, h, _ => h.elim
  | _ :: _, [], h, _ => h.elim
theorem Likes.drop : ∀ {T T' : List Ms}, Likes T T' → ∀ n : Int, Likes (drop T n) (drop T' n)
  | [], [], _, _ => trivial
  | x :: r, y :: s, h, n => by
    have hs : y.s = x.s := h.1.2.2.1
    have ih := Likes.drop h.2 n
    unfold Tb.drop at *
    by_cases hx : x.s = n
    · rw [List.filter_cons_of_neg (by simpa using hx), List.filter_cons_of_neg (by simpa [hs] using hx)]
      exact ih
    · rw [List.filter_cons_of_pos (by simpa using hx), List.filter_cons_of_pos (by simpa [hs] using hx)]
      exact ⟨h.1, ih⟩
  | [], _ :: _, h, _ => h.elim
  | _ :: _, [], h, _ => h.elim
theorem Likes.put1 : ∀ {T T' : List Ms}, Likes T T' → ∀ f : Fr, Likes (put1 T f) (put1 T' f)
  | [], [], _, _ => trivial
  | x :: r, y :: s, h, f => by
    have hs : y.s = x.s := h.1.2.2.1
    have ih := Likes.put1 h.2 f
    unfold Tb.put1 at *
    rw [List.map_cons, List.map_cons]
    refine ⟨?_, ih⟩
    by_cases hx : x.s = f.s
    · rw [if_pos hx, if_pos (hs.trans hx)]
      exact h.1.push f
    · rw [if_neg hx, if_neg (by rw [hs]; exact hx)]
      exact h.1
  | [], _ :: _, h, _ => h.elim
  | _ :: _, [], h, _ => h.elim
/-- two answers that are the same but for the order in which frames came -/
structure ResLike (a b : Res) : Prop where
  e : b.e = a.e
  o : b.o = a.o
  T : Likes a.T b.T
theorem ResLike.refl {T T' : List Ms} (h : Likes T T') (e : Int) (o : Out) : ResLike ⟨e, T, o⟩ ⟨e, T', o⟩ := ⟨rfl, rfl, h⟩
theorem Likes.came {T T' : List Ms} (h : Likes T T') (n : Int) (ev : Bool) (o : Int) (hk : ∀ x, Tb.find T n = some x → Sl.Keys x.C) : ResLike (.ok (came T n ev o)) (.ok (came T' n ev o)) := by
  rcases h.find n with ⟨h1, h2⟩ | ⟨x, y, h1, h2, h3⟩
  · unfold Tb.came
    rw [h1, h2]
    exact ⟨rfl, rfl, h⟩
  · unfold Tb.came
    rw [h1, h2]
    simp only [h3.full]
    by_cases hf : x.full = true
    · rw [if_pos hf, if_pos hf]
      refine ⟨rfl, ?_, h.drop n⟩
      show Out.mk _ _ _ _ = Out.mk _ _ _ _
      rw [← h3.2.2.2.2.length_eq, Sl.cat_perm h3.2.2.2.2 (hk x h1)]
    · rw [if_neg hf, if_neg hf]
      exact ⟨rfl, rfl, h⟩
theorem keys_push {C : Sl.Ct} {p : Nat × List Int} (h : Sl.Keys C) (hn : Sl.has C p.1 = false) : Sl.Keys (C ++ [p]) := by
  unfold Sl.Keys at *
  rw [List.map_append, List.nodup_append]
  refine ⟨h, by simp, fun a ha b hb => ?_⟩
  have hb' : b = p.1 := by simpa using hb
  rintro rfl
  rw [hb'] at ha
  rw [Sl.has_iff.2 ha] at hn
  cases hn
theorem Likes.put {T T' : List Ms} (h : Likes T T') (hk : ∀ x ∈ T, Sl.Keys x.C) (r : Nat) (f : Fr) : ResLike (put r T f) (put r T' f) := by
  unfold Tb.put
  by_cases h1 : chk f.v f.k f.i f.c ≠ 0
  · rw [if_pos h1, if_pos h1]; exact .refl h _ _
  rw [if_neg h1, if_neg h1]
  by_cases h2 : f.zs = []
  · rw [if_pos h2, if_pos h2]; exact .refl h _ _
  rw [if_neg h2, if_neg h2]
  rcases h.find f.s with ⟨e1, e2⟩ | ⟨x, y, e1, e2, hxy⟩
  · rw [e1, e2]
    simp only []
    by_cases h3 : (Ms.new f).err f ≠ 0
    · rw [if_pos h3, if_pos h3]; exact .refl h _ _
    rw [if_neg h3, if_neg h3, h.len, h.old]
    by_cases h4 : T.length = r
    · rw [if_pos h4, if_pos h4]
      by_cases h5 : Sr.after f.s (Tb.old T) = true
      · rw [if_pos h5, if_pos h5]
        refine ((h.drop _).push (Like.refl _)).came f.s true _ fun z hz => ?_
        rw [find_app (find_drop e1) rfl] at hz
        injection hz with hz
        rw [← hz]
        exact keys_push (C := []) (by simp [Sl.Keys]) rfl
      · rw [if_neg h5, if_neg h5]; exact .refl h _ _
    · rw [if_neg h4, if_neg h4]
      refine (h.push (Like.refl _)).came f.s false _ fun z hz => ?_
      rw [find_app e1 rfl] at hz
      injection hz with hz
      rw [← hz]
      exact keys_push (C := []) (by simp [Sl.Keys]) rfl
  · rw [e1, e2]
    simp only [hxy.err]
    by_cases h3 : x.err f ≠ 0
    · rw [if_pos h3, if_pos h3]; exact .refl h _ _
    rw [if_neg h3, if_neg h3]
    refine (h.put1 f).came f.s false _ fun z hz => ?_
    rw [find_put1 e1] at hz
    injection hz with hz
    rw [← hz]
    obtain ⟨_, _, _, _, h6, _⟩ := sErr_zero (Decidable.not_not.1 h3)
    exact keys_push (hk x (find_mem e1).1) h6
end Go.Proofs.Ytloncplpjdekoaa.Tb

namespace Go.Proofs.Ytloncplpjdekoaa
open Go.RowKit Go.Shelf
set_option maxRecDepth 100000

structure TwoF (w2 : World) (bs : Nat) (tf tr tb : TypeId) (g1 g2 : List Fr) (W : World) (u v : Value) : Prop where
  off : Off (fun b => b = bs) w2 W
  box : Boxed W bs tb u
  one : W.ownsRow w2.heap.size tf 6 u g1.length (flatF g1)
  two : W.ownsRow w2.heap.size tr 6 v g2.length (flatF g2)
theorem own_of_block {W W' : World} {base e size n : Nat} {v : Value} {xs : List Value} (h : W.ownsRow base e size v n xs) (hk : ∀ g, base ≤ g → W'.heap[g]? = W.heap[g]?) : W'.ownsRow base e size v n xs :=
  ⟨h.1, h.2.imp id fun ⟨g, cap, cur, hv, hg, hh, r⟩ => ⟨g, cap, cur, hv, hg, (hk g hg).trans hh, r⟩⟩
section
variable {w2 W W' W4 : World} {bs : Nat} {tf tr tb : TypeId} {g1 g2 : List Fr} {u v u' v' : Value} {f : Fr}
theorem TwoF.below (h : TwoF w2 bs tf tr tb g1 g2 W u v) (hb : Below W.heap.size W W') : TwoF w2 bs tf tr tb g1 g2 W' u v :=
  ⟨(h.off.trans (Off.of_below hb : Off (fun b => b = bs) W W') (fun _ _ hS => hS)), (hb.block _ h.box.lt).trans h.box, own_below6 h.one hb, own_below6 h.two hb⟩
theorem TwoF.push1 (h : TwoF w2 bs tf tr tb g1 g2 W u v) (hne : tf ≠ tr) (hbs : bs < w2.heap.size) (hown : W4.ownsRow w2.heap.size tf 6 u' (g1.length + 1) (flatF g1 ++ f.cs.toList)) (hg : W.grownBy W4 u.ownBlock) :
    TwoF w2 bs tf tr tb (g1 ++ [f]) g2 (W4.setCell ⟨bs, 0, none⟩ u') u' v := by
  have hlo : ∀ g, u.ownBlock = some g → w2.heap.size ≤ g := fun g hk => (h.one.lt g hk).1
  have ho : Off (fun b => b = bs) w2 W4 := ⟨hg.os.trans h.off.os, hg.tape.trans h.off.tape, hg.output.trans h.off.output, Nat.le_trans h.off.size hg.size, fun k hk hn => by
    rw [hg.block k (by have := h.off.size; omega) (fun e => by have := hlo k e.symm; omega)]
    exact h.off.block k hk hn⟩
  have hb4 : Boxed W4 bs tb u := h.box.kept hg (fun e => by have := hlo bs e.symm; omega)
  have hset : ∀ g, w2.heap.size ≤ g → (W4.setCell ⟨bs, 0, none⟩ u').heap[g]? = W4.heap[g]? := fun g hg' => Below.heap_setCell W4 ⟨bs, 0, none⟩ _ _ (by simp only; omega)
  refine ⟨ho.setCell (p := ⟨bs, 0, none⟩) rfl _, hb4.set _, ?_, ?_⟩
  · rw [List.length_append, List.length_singleton, flatF_push]
    exact own_of_block hown hset
  · exact own_of_block (h.two.kept hg (own_apart h.two h.one (Ne.symm hne))) hset
theorem TwoF.push2 (h : TwoF w2 bs tf tr tb g1 g2 W u v) (hne : tf ≠ tr) (hbs : bs < w2.heap.size) (hown : W4.ownsRow w2.heap.size tr 6 v' (g2.length + 1) (flatF g2 ++ f.cs.toList)) (hg : W.grownBy W4 v.ownBlock) :
    TwoF w2 bs tf tr tb g1 (g2 ++ [f]) W4 u v' := by
  have hlo : ∀ g, v.ownBlock = some g → w2.heap.size ≤ g := fun g hk => (h.two.lt g hk).1
  refine ⟨⟨hg.os.trans h.off.os, hg.tape.trans h.off.tape, hg.output.trans h.off.output, Nat.le_trans h.off.size hg.size, fun k hk hn => ?_⟩, h.box.kept hg (fun e => by have := hlo bs e.symm; omega), h.one.kept hg (own_apart h.one h.two hne), ?_⟩
  · rw [hg.block k (by have := h.off.size; omega) (fun e => by have := hlo k e.symm; omega)]
    exact h.off.block k hk hn
  · rw [List.length_append, List.length_singleton, flatF_push]
    exact hown
theorem own_frs {base e : Nat} (h : W.ownsRow base e 6 u g1.length (flatF g1)) (hat : ∀ f ∈ g1, f.At W W.heap.size) : ∃ A c, u = .slice A g1.length c ∧ g1.length ≤ c ∧ FrsAt W W.heap.size A g1 := by
  rcases h.2 with ⟨rfl, h0⟩ | ⟨g, cap, cur, rfl, hbg, hh, hle, _⟩
  · rw [List.eq_nil_of_length_eq_zero h0]
    exact ⟨none, 0, rfl, Nat.le_refl _, fun f hf => by simp at hf, fun i f hi => by simp at hi⟩
  · refine ⟨_, cap, rfl, hle, hat, fun j f hj => ⟨g, 0, rfl, (Array.getElem?_eq_some_iff.1 hh).1, fun q x hq => ?_⟩⟩
    have h1 := h.cells (g := g) rfl (j * 6 + q) x (flatF_at hj hq)
    rw [Addr.add_lit] at h1
    rw [Nat.add_assoc]
    exact h1
end
theorem firstBad_push : ∀ (gs : List Fr) (f : Fr), firstBad (gs ++ [f]) = if firstBad gs = 0 then f.chk else firstBad gs
  | [], f => by by_cases h : f.chk = 0 <;> simp [firstBad, h]
  | g :: r, f => by
    rw [List.cons_append, firstBad, firstBad, firstBad_push r f]
    by_cases h : g.chk = 0 <;> simp [h]
/-- a frame, cut -/
def Fr.cut (f : Fr) : Fr := ⟨f.v, f.k, f.s, f.i, f.c, f.a, f.cp, f.zs.take 250⟩
theorem Fr.cut_at {w : World} {B : Nat} {f : Fr} (h : f.At w B) : f.cut.At w B :=
  ⟨h.s0, h.s1, by unfold Fr.cut; simp only [List.length_take]; have := h.room; omega, by unfold Fr.cut; simp only [List.length_take]; have := h.few; omega, h.byte.take 250, h.nums.take 250⟩
end Go.Proofs.Ytloncplpjdekoaa

namespace Go.Proofs.Ytloncplpjdekoaa
open Go.RowKit
set_option maxRecDepth 100000

/-- one of the document's slots -/
structure Ds where
  v : Int
  k : Int
  s : Int
  c : Int
  A : Option Addr
  n : Nat
  cp : Nat
  gs : List Fr
def Ds.cs (d : Ds) : Array Value := frC d.v d.k d.s 0 d.c (.slice d.A d.n d.cp)
def Ds.ms (d : Ds) : Tb.Ms := ⟨d.v, d.k, d.s, d.c, d.gs.map Fr.ct⟩
structure Ds.At (w : World) (d : Ds) : Prop where
  ref : RefAt w d.c d.A d.n d.cp d.gs
  num : 0 ≤ d.s ∧ d.s ≤ 4294967295
  good : chk d.v d.k 0 d.c = 0
theorem Ds.At.below {w w' : World} {d : Ds} (h : d.At w) (hb : Below w.heap.size w w') : d.At w' := ⟨h.ref.below hb, h.num, h.good⟩
theorem Ds.At.pos {w : World} {d : Ds} (h : d.At w) : 1 ≤ d.c ∧ d.c ≤ 255 := by
  obtain ⟨_, _, _, h1, h2, _⟩ := chk_zero h.good
  exact ⟨h1, h2⟩
/-- the cells of slots, one behind the other -/
def flatD (L : List Ds) : List Value := L.flatMap fun d => d.cs.toList
theorem flatD_len (L : List Ds) : (flatD L).length = L.length * 6 := by
  induction L with
  | nil => rfl
  | cons d r ih => unfold flatD at *; rw [List.flatMap_cons, List.length_append, ih, List.length_cons]; have : d.cs.toList.length = 6 := rfl; omega
theorem flatD_push (L : List Ds) (d : Ds) : flatD (L ++ [d]) = flatD L ++ d.cs.toList := by unfold flatD; simp
theorem flatD_at : ∀ {L : List Ds} {j q : Nat} {d : Ds} {u : Value}, L[j]? = some d → d.cs[q]? = some u → (flatD L)[j * 6 + q]? = some u
  | [], _, _, _, _, h, _ => by simp at h
  | g :: r, 0, q, d, u, h, hq => by
    simp only [List.getElem?_cons_zero, Option.some.injEq] at h
    subst h
    have hlt : q < 6 := (Array.getElem?_eq_some_iff.1 hq).1
    unfold flatD
    rw [List.flatMap_cons, List.getElem?_append_left (by show 0 * 6 + q < 6; omega), Nat.zero_mul, Nat.zero_add, Array.getElem?_toList]
    exact hq
  | g :: r, j + 1, q, d, u, h, hq => by
    rw [List.getElem?_cons_succ] at h
    unfold flatD
    have h6 : g.cs.toList.length = 6 := rfl
    rw [List.flatMap_cons, List.getElem?_append_right (by omega), h6, show (j + 1) * 6 + q - 6 = j * 6 + q by omega]
    exact flatD_at h hq
theorem flatD_get {L : List Ds} {p : Nat} {u : Value} (h : (flatD L)[p]? = some u) : ∃ (j q : Nat) (d : Ds), p = j * 6 + q ∧ L[j]? = some d ∧ d.cs[q]? = some u := by
  have hlt := (List.getElem?_eq_some_iff.1 h).1
  rw [flatD_len] at hlt
  have hj : p / 6 < L.length := by omega
  obtain ⟨d, hd⟩ : ∃ d, L[p / 6]? = some d := ⟨_, List.getElem?_eq_getElem hj⟩
  have hq : p % 6 < d.cs.size := by show p % 6 < 6; omega
  refine ⟨p / 6, p % 6, d, by omega, hd, ?_⟩
  have h1 := flatD_at hd (Array.getElem?_eq_getElem hq)
  rw [show p / 6 * 6 + p % 6 = p by omega, h] at h1
  rw [Array.getElem?_eq_getElem hq, h1]
/-- slots that lie one behind the other -/
structure DocAt (w : World) (A : Option Addr) (n cp : Nat) (L : List Ds) : Prop where
  at' : ∀ d ∈ L, d.At w
  len : L.length = n
  room : n ≤ cp
  few : n ≤ 1000
  cells : ∀ (j : Nat) (d : Ds), L[j]? = some d → ∃ b off, A = some ⟨b, off, none⟩ ∧ b < w.heap.size ∧ ∀ (q : Nat) (u : Value), d.cs[q]? = some u → w.cell? ⟨b, off + j * 6 + q, none⟩ = some u
  row : ∀ (j : Nat) (d : Ds), L[j]? = some d → ∀ b off, A = some ⟨b, off, none⟩ → ∃ cs, w.heap[b]? = some (.cells cs 83 (0, 0))
def docV (r : Nat) (A : Option Addr) (n cp : Nat) : Value := .agg #[.int .i64 (r : Int), .slice A n cp]
section
variable {w w' : World} {A : Option Addr} {n cp : Nat} {L : List Ds}
theorem DocAt.nil (w : World) : DocAt w none 0 0 [] := ⟨fun d hd => (by cases hd), rfl, Nat.le_refl _, by omega, fun j d h => by simp at h, fun j d h => by simp at h⟩
theorem DocAt.below (h : DocAt w A n cp L) (hb : Below w.heap.size w w') : DocAt w' A n cp L := ⟨fun d hd => (h.at' d hd).below hb, h.len, h.room, h.few, fun j d hj => by
  obtain ⟨b, off, e, hB, hc⟩ := h.cells j d hj
  exact ⟨b, off, e, by have := hb.size; omega, fun q u hq => (hb.cell (p := ⟨b, off + j * 6 + q, none⟩) hB).trans (hc q u hq)⟩, fun j d hj b off e => by
  obtain ⟨cs, h1⟩ := h.row j d hj b off e
  exact ⟨cs, (hb.block b (Array.getElem?_eq_some_iff.1 h1).1).trans h1⟩⟩
theorem DocAt.six (h : DocAt w A n cp L) {j : Nat} {d : Ds} (hj : L[j]? = some d) : ∃ b off, A = some ⟨b, off, none⟩ ∧ b < w.heap.size ∧
    w.cell? ⟨b, off + j * 6, none⟩ = some (.int .i64 d.v) ∧ w.cell? ⟨b, off + j * 6 + 1, none⟩ = some (.int .i64 d.k) ∧ w.cell? ⟨b, off + j * 6 + 2, none⟩ = some (.int .u32 d.s) ∧ w.cell? ⟨b, off + j * 6 + 3, none⟩ = some (.int .i64 0) ∧
    w.cell? ⟨b, off + j * 6 + 4, none⟩ = some (.int .i64 d.c) ∧ w.cell? ⟨b, off + j * 6 + 5, none⟩ = some (.slice d.A d.n d.cp) := by
  obtain ⟨b, off, e, hB, hc⟩ := h.cells j d hj
  exact ⟨b, off, e, hB, hc 0 _ rfl, hc 1 _ rfl, hc 2 _ rfl, hc 3 _ rfl, hc 4 _ rfl, hc 5 _ rfl⟩
/-- from a row that a call made -/
theorem own_docs {W : World} {base : Nat} {u : Value} (h : W.ownsRow base 83 6 u L.length (flatD L)) (hat : ∀ d ∈ L, d.At W) (hf : L.length ≤ 1000) : ∃ A c, u = .slice A L.length c ∧ L.length ≤ c ∧ DocAt W A L.length c L := by
  rcases h.2 with ⟨rfl, h0⟩ | ⟨g, cap, cur, rfl, hbg, hh, hle, _⟩
  · rw [List.eq_nil_of_length_eq_zero h0]
    exact ⟨none, 0, rfl, Nat.le_refl _, .nil W⟩
  · refine ⟨_, cap, rfl, hle, hat, rfl, hle, hf, fun j d hj => ⟨g, 0, rfl, (Array.getElem?_eq_some_iff.1 hh).1, fun q x hq => ?_⟩, fun j d hj b off e => ?_⟩
    · have h1 := h.cells (g := g) rfl (j * 6 + q) x (flatD_at hj hq)
      rw [Addr.add_lit] at h1
      rw [Nat.add_assoc]
      exact h1
    · injection e with e
      injection e with e
      subst e
      exact ⟨_, hh⟩
/-- the box of an argument -/
theorem doc_box {r : Nat} {w1 : World} (hw : w.alloc (.cells #[.int .i64 (r : Int), .slice A n cp] 30) = w1) : Below w.heap.size w w1 ∧ w1.heap.size = w.heap.size + 1 ∧ w1.heap[w.heap.size]? = some (.cells #[.int .i64 (r : Int), .slice A n cp] 30 (0, 0)) := by
  subst hw
  exact ⟨(Below.refl _ w).alloc (Nat.le_refl _) _, by simp, World.alloc_heap_new _ _⟩
theorem doc_cells {r : Nat} {W : World} {b : Nat} {t : TypeId} (h : W.heap[b]? = some (.cells #[.int .i64 (r : Int), .slice A n cp] t (0, 0))) : W.cell? ⟨b, 0, none⟩ = some (.int .i64 (r : Int)) ∧ W.cell? ⟨b, 1, none⟩ = some (.slice A n cp) := by
  constructor <;> simp [World.cell?, h]
/-- what find answers -/
def FindR (w : World) (L : List Ds) (z : Int) (e : Ending) (w' : World) : Prop :=
  Below w.heap.size w w' ∧ (((∀ d ∈ L, d.s ≠ z) ∧ e = .returned (.int .i64 (-1))) ∨ ∃ (j : Nat) (d : Ds), L[j]? = some d ∧ d.s = z ∧ e = .returned (.int .i64 (j : Int)))
theorem dfind_any (h : DocAt w A n cp L) (r : Nat) (z : Int) : Calls Try.prog 27 #[docV r A n cp, .int .u32 z] w (FindR w L z) := by
  obtain ⟨w1, hw1⟩ : ∃ w1, w.alloc (.cells #[.int .i64 (r : Int), .slice A n cp] 30) = w1 := ⟨_, rfl⟩
  obtain ⟨hb1, hs1, hx1⟩ := doc_box hw1
  obtain ⟨d0, d1⟩ := doc_cells hx1
  have hnc : (n : Int) ≤ (cp : Int) := by have := h.room; omega
  have hn1 : n ≤ 1000 := h.few
  have HNO : Hid ((∀ d ∈ L, d.s ≠ z) → FindR w L z (.returned (.int .i64 (-1))) w1) := Lib.hid fun hno => ⟨hb1, .inl ⟨hno, rfl⟩⟩
  have HYES : Hid (∀ (j : Nat) (d : Ds), L[j]? = some d → d.s = z → FindR w L z (.returned (.int .i64 (j : Int))) w1) := Lib.hid fun j d hj hd => ⟨hb1, .inr ⟨j, d, hj, hd, rfl⟩⟩
  have H1 := Lib.hid (h.below hb1)
  have HL := Lib.hid h.len
  have HW1 := Lib.hid hw1
  clear h hw1 hb1 hx1
  generalize FindR w L z = G at *
  unfold docV
  go_enter Try.func27, Try.ntmps27
  go_wp2_with fail
  rw [HW1.out]
  go_loopw [5] (fun iv wr => ∃ j : Nat, j ≤ n ∧ iv = .int .i64 (j : Int) ∧ wr = w1 ∧ ∀ d ∈ L.take j, d.s ≠ z) (fun iv _ => n - (intOf iv).toNat)
  case atStart => exact ⟨0, by omega, rfl, rfl, fun d hd => by simp at hd⟩
  case round =>
    obtain ⟨j, hj, rfl, rfl, hno⟩ := hrel
    by_cases hjn : j < n
    · have hjn' : (j : Int) < (n : Int) := by omega
      obtain ⟨d, hd⟩ : ∃ d, L[j]? = some d := ⟨_, List.getElem?_eq_getElem (by rw [HL.out]; exact hjn)⟩
      obtain ⟨b, off, rfl, hb, a0, a1, a2, a3, a4, a5⟩ := H1.out.six hd
      by_cases hs : d.s = z
      · have HFIN := Lib.hid (HYES.out j d hd hs)
        have hs' : (d.s == z) = true := by simpa using hs
        clear hno hd hs
        go_wp2
        exact HFIN.out
      · have hs' : (d.s == z) = false := by simpa using hs
        have HN2 : Hid (∀ x ∈ L.take (j + 1), x.s ≠ z) := Lib.hid fun x hx => by
          rw [List.take_add_one, hd] at hx
          rcases List.mem_append.1 hx with hx | hx
          · exact hno x hx
          · have : x = d := by simpa using hx
            rw [this]; exact hs
        clear hno hd hs
        go_wp2
        go_roundw
        case rel => exact ⟨j + 1, by omega, by go_num, trivial, HN2.out⟩
        case measure => simp [intOf]; omega
    · obtain rfl : j = n := by omega
      have hjn' : ¬ (j : Int) < (j : Int) := by omega
      have HFIN := Lib.hid (HNO.out (by rw [← HL.out, List.take_length] at hno; exact hno))
      clear hno
      go_wp2
      exact HFIN.out
end
end Go.Proofs.Ytloncplpjdekoaa

namespace Go.Proofs.Ytloncplpjdekoaa
open Go.RowKit
set_option maxRecDepth 100000

namespace Ct
/-- how many parts n bytes have by a room -/
def cnt (n r : Nat) : Nat := (n + r - 1) / r
/-- the part at a place -/
def part (zs : List Int) (r j : Nat) : List Int := (zs.drop (j * r)).take r
theorem lt_cnt {n r j : Nat} (hr : 1 ≤ r) : j < cnt n r ↔ j * r < n := by
  unfold cnt
  have h := Nat.le_div_iff_mul_le (k0 := hr) (x := j + 1) (y := n + r - 1)
  rw [Nat.add_mul, Nat.one_mul] at h
  constructor
  · intro hj
    have := h.1 hj
    omega
  · intro hj
    exact h.2 (by omega)
theorem cnt_zero (r : Nat) : cnt 0 r = 0 := by
  rcases Nat.eq_zero_or_pos r with rfl | h
  · simp [cnt]
  · unfold cnt; rw [Nat.zero_add, Nat.div_eq_of_lt (by omega)]
theorem cnt_pos {n r : Nat} (hr : 1 ≤ r) (hn : 1 ≤ n) : 1 ≤ cnt n r := (lt_cnt (n := n) (j := 0) hr).2 (by omega)
theorem cnt_le {n r : Nat} (hr : 1 ≤ r) : cnt n r ≤ n := by
  rcases Nat.lt_or_ge n (cnt n r) with h | h
  · have := (lt_cnt hr).1 h
    have h2 : n * 1 ≤ n * r := Nat.mul_le_mul_left n hr
    omega
  · exact h
theorem cnt_anti {n r r' : Nat} (hr : 1 ≤ r) (h : r ≤ r') : cnt n r' ≤ cnt n r := by
  rcases Nat.lt_or_ge (cnt n r) (cnt n r') with h1 | h1
  · have h2 := (lt_cnt (by omega : 1 ≤ r')).1 h1
    have h3 : cnt n r * r ≤ cnt n r * r' := Nat.mul_le_mul_left _ h
    have := (lt_cnt (n := n) hr).2 (by omega : cnt n r * r < n)
    omega
  · exact h1
theorem cnt_end {n r : Nat} (hr : 1 ≤ r) : n ≤ cnt n r * r := by
  rcases Nat.lt_or_ge (cnt n r * r) n with h | h
  · have := (lt_cnt hr).2 h; omega
  · exact h
theorem cnt_div {n r : Nat} (hr : 1 ≤ r) (hn : 1 ≤ n) : (n - 1) / r + 1 = cnt n r := by
  unfold cnt
  rw [show n + r - 1 = (n - 1) + r by omega, Nat.add_div_right _ hr]
theorem part_len (zs : List Int) (r j : Nat) : (part zs r j).length = min r (zs.length - j * r) := by
  unfold part; rw [List.length_take, List.length_drop]
theorem part_mem {zs : List Int} {r j : Nat} {z : Int} (h : z ∈ part zs r j) : z ∈ zs := List.mem_of_mem_drop (List.mem_of_mem_take h)
theorem part_take {zs : List Int} (r j : Nat) : zs.take (j * r) ++ part zs r j = zs.take ((j + 1) * r) := by
  unfold part
  rw [Nat.add_mul, Nat.one_mul, List.take_add]

/-- the frames of a body, of a head -/
structure Cut (v k s : Int) (zs : List Int) (r : Nat) (fs : List Fr) : Prop where
  len : fs.length = cnt zs.length r
  at' : ∀ (j : Nat) (f : Fr), fs[j]? = some f → f.v = v ∧ f.k = k ∧ f.s = s ∧ f.i = (j : Int) ∧ f.c = (cnt zs.length r : Int) ∧ f.zs = part zs r j
/-- the payloads, one behind the other -/
def flat (fs : List Fr) : List Int := fs.flatMap Fr.zs
theorem flat_push (fs : List Fr) (f : Fr) : flat (fs ++ [f]) = flat fs ++ f.zs := by simp [flat]
theorem flat_take {fs : List Fr} {j : Nat} {f : Fr} (h : fs[j]? = some f) : flat (fs.take (j + 1)) = flat (fs.take j) ++ f.zs := by
  rw [List.take_add_one, h]; exact flat_push _ _
theorem flat_len_le (fs : List Fr) (k : Nat) : (flat (fs.take k)).length ≤ (flat fs).length := by
  have h : flat fs = flat (fs.take k) ++ flat (fs.drop k) := by
    unfold flat; rw [← List.flatMap_append, List.take_append_drop]
  rw [h, List.length_append]; omega
theorem Cut.flat_upto {v k s : Int} {zs : List Int} {r : Nat} {fs : List Fr} (h : Cut v k s zs r fs) : ∀ j, j ≤ fs.length → flat (fs.take j) = zs.take (j * r)
  | 0, _ => by simp [flat]
  | j + 1, hj => by
    obtain ⟨f, hf⟩ : ∃ f, fs[j]? = some f := ⟨_, List.getElem?_eq_getElem (by omega)⟩
    rw [flat_take hf, Cut.flat_upto h j (by omega), (h.at' j f hf).2.2.2.2.2, part_take]
theorem Cut.flat_eq {v k s : Int} {zs : List Int} {r : Nat} {fs : List Fr} (h : Cut v k s zs r fs) (hr : 1 ≤ r) : flat fs = zs := by
  have h1 := h.flat_upto fs.length (Nat.le_refl _)
  rw [List.take_length, h.len, List.take_of_length_le (cnt_end hr)] at h1
  exact h1

/-- what is wrong with a cut -/
def fErr (v k : Int) (n : Nat) (room : Int) : Int := if n = 0 then 13 else if 192 < n then 2 else if room < 1 ∨ 242 < room then 5 else chk v k 0 (cnt n room.toNat : Int)
theorem fErr_zero {v k : Int} {n : Nat} {room : Int} (h : fErr v k n room = 0) : 1 ≤ n ∧ n ≤ 192 ∧ 1 ≤ room ∧ room ≤ 242 ∧ chk v k 0 (cnt n room.toNat : Int) = 0 := by
  unfold fErr at h
  split at h
  · omega
  · split at h
    · omega
    · split at h
      · omega
      · exact ⟨by omega, by omega, by omega, by omega, h⟩

/-- what is wrong with one frame beside the first one, at its place -/
def wBad (f0 f : Fr) (j : Nat) : Int := if mateZ f0.v f0.k f0.s f0.c f.v f.k f.s f.c = true then (if f.i = (j : Int) then 0 else 3) else 17
def wFst (f0 : Fr) : Nat → List Fr → Int
  | _, [] => 0
  | j, f :: r => if wBad f0 f j ≠ 0 then wBad f0 f j else wFst f0 (j + 1) r
def wEnd (f0 : Fr) (n : Nat) : Int := if (n : Int) < f0.c then 13 else if f0.c < (n : Int) then 6 else 0
/-- what is wrong with frames -/
def wErr : List Fr → Int
  | [] => 13
  | f0 :: r => if wFst f0 0 (f0 :: r) ≠ 0 then wFst f0 0 (f0 :: r) else wEnd f0 (r.length + 1)
theorem wFst_zero (f0 : Fr) : ∀ (s : Nat) (fs : List Fr), (∀ (j : Nat) (g : Fr), fs[j]? = some g → wBad f0 g (s + j) = 0) → wFst f0 s fs = 0
  | _, [], _ => rfl
  | s, f :: r, h => by
    have h0 := h 0 f rfl
    rw [Nat.add_zero] at h0
    rw [wFst, if_neg (by simp [h0])]
    exact wFst_zero f0 (s + 1) r fun j g hg => by
      have := h (j + 1) g (by simpa using hg)
      rwa [show s + (j + 1) = s + 1 + j by omega] at this
theorem wFst_at (f0 : Fr) : ∀ (s k : Nat) (fs : List Fr) (f : Fr), (∀ (j : Nat) (g : Fr), j < k → fs[j]? = some g → wBad f0 g (s + j) = 0) → fs[k]? = some f → wBad f0 f (s + k) ≠ 0 → wFst f0 s fs = wBad f0 f (s + k)
  | _, _, [], _, _, h, _ => by simp at h
  | s, 0, g :: r, f, _, hf, hb => by
    simp only [List.getElem?_cons_zero, Option.some.injEq] at hf
    subst hf
    rw [Nat.add_zero] at hb ⊢
    rw [wFst, if_pos hb]
  | s, k + 1, g :: r, f, h, hf, hb => by
    have h0 := h 0 g (by omega) rfl
    rw [Nat.add_zero] at h0
    rw [wFst, if_neg (by simp [h0])]
    have e : s + (k + 1) = s + 1 + k := by omega
    rw [e] at hb ⊢
    exact wFst_at f0 (s + 1) k r f (fun j x hj hx => by
      have := h (j + 1) x (by omega) (by simpa using hx)
      rwa [show s + (j + 1) = s + 1 + j by omega] at this) (by simpa using hf) hb
theorem wErr_bad {fs : List Fr} {f0 f : Fr} {k : Nat} (h0 : fs[0]? = some f0) (hp : ∀ (j : Nat) (g : Fr), j < k → fs[j]? = some g → wBad f0 g j = 0) (hf : fs[k]? = some f) (hb : wBad f0 f k ≠ 0) : wErr fs = wBad f0 f k := by
  cases fs with
  | nil => simp at h0
  | cons g r =>
    simp only [List.getElem?_cons_zero, Option.some.injEq] at h0
    subst h0
    have h1 := wFst_at g 0 k (g :: r) f (fun j x hj hx => by rw [Nat.zero_add]; exact hp j x hj hx) hf (by rwa [Nat.zero_add])
    rw [Nat.zero_add] at h1
    rw [wErr, h1, if_pos hb]
theorem wErr_end {fs : List Fr} {f0 : Fr} (h0 : fs[0]? = some f0) (hp : ∀ (j : Nat) (g : Fr), fs[j]? = some g → wBad f0 g j = 0) : wErr fs = wEnd f0 fs.length := by
  cases fs with
  | nil => simp at h0
  | cons g r =>
    simp only [List.getElem?_cons_zero, Option.some.injEq] at h0
    subst h0
    have h1 := wFst_zero g 0 (g :: r) (fun j x hx => by rw [Nat.zero_add]; exact hp j x hx)
    rw [wErr, h1, if_neg (by simp)]
    rfl
theorem Cut.whole {v k s : Int} {zs : List Int} {r : Nat} {fs : List Fr} (h : Cut v k s zs r fs) (hr : 1 ≤ r) (hn : 1 ≤ zs.length) : wErr fs = 0 := by
  have hp := cnt_pos hr hn
  have hl := h.len
  obtain ⟨f0, hf0⟩ : ∃ f0, fs[0]? = some f0 := ⟨_, List.getElem?_eq_getElem (by omega)⟩
  obtain ⟨e1, e2, e3, _, e4, _⟩ := h.at' 0 f0 hf0
  rw [wErr_end hf0 (fun j g hg => by
    obtain ⟨d1, d2, d3, d4, d5, _⟩ := h.at' j g hg
    unfold wBad
    rw [if_pos (by simp [mateZ, e1, e2, e3, e4, d1, d2, d3, d5]), if_pos d4])]
  unfold wEnd
  rw [e4, h.len, if_neg (by omega), if_neg (by omega)]
theorem wBad_zero {f0 f : Fr} {j : Nat} : wBad f0 f j = 0 ↔ mateZ f0.v f0.k f0.s f0.c f.v f.k f.s f.c = true ∧ f.i = (j : Int) := by
  unfold wBad
  constructor
  · intro h
    by_cases h1 : mateZ f0.v f0.k f0.s f0.c f.v f.k f.s f.c = true
    · rw [if_pos h1] at h
      by_cases h2 : f.i = (j : Int)
      · exact ⟨h1, h2⟩
      · rw [if_neg h2] at h; omega
    · rw [if_neg h1] at h; omega
  · rintro ⟨h1, h2⟩
    rw [if_pos h1, if_pos h2]
end Ct
end Go.Proofs.Ytloncplpjdekoaa

namespace Go.Proofs.Ytloncplpjdekoaa
open Go.RowKit
set_option maxRecDepth 100000

theorem ret_intC {a b : Int} (h : a = b) : Ending.returned (.int .i64 a) = Ending.returned (.int .i64 b) := by rw [h]
/-- how many parts there are of a number of bytes that there can be -/
def cntZ (n : Nat) (r : Int) : Int := if r < 1 then 0 else if n = 0 then 1 else (Ct.cnt n r.toNat : Int)
theorem ccount_any (n : Nat) (r : Int) (hn : n ≤ 9223372036854775807) (hr : -9223372036854775808 ≤ r ∧ r ≤ 9223372036854775807) (w : World) :
    Calls Try.prog 47 #[.int .i64 (n : Int), .int .i64 r] w fun e w' => e = .returned (.int .i64 (cntZ n r)) ∧ w' = w := by
  by_cases h1 : r < 1
  · have hz : cntZ n r = 0 := by unfold cntZ; rw [if_pos h1]
    rw [hz]
    clear hz
    go_enter Try.func47, Try.ntmps47
    go_wp2
    go_ret
    exact ⟨rfl, rfl⟩
  · by_cases h2 : (n : Int) < 1
    · have hz : cntZ n r = 1 := by unfold cntZ; rw [if_neg h1, if_pos (by omega)]
      rw [hz]
      clear hz
      go_enter Try.func47, Try.ntmps47
      go_wp2
      go_ret
      exact ⟨rfl, rfl⟩
    · have hq : ((n : Int) - 1).tdiv r = ((n - 1) / r.toNat : Nat) := by
        rw [show (n : Int) - 1 = ((n - 1 : Nat) : Int) by omega]
        have hrr : r = (r.toNat : Int) := by omega
        rw [hrr, Int.toNat_natCast]
        exact Int.ofNat_tdiv _ _
      have hz : cntZ n r = (((n - 1) / r.toNat : Nat) : Int) + 1 := by
        unfold cntZ
        rw [if_neg h1, if_neg (by omega), ← Ct.cnt_div (by omega) (by omega)]
        omega
      rw [hz]
      have hd : (n - 1) / r.toNat ≤ n - 1 := Nat.div_le_self _ _
      have hr0 : ¬ r = 0 := by omega
      obtain ⟨q, hq2⟩ : ∃ q, (n - 1) / r.toNat = q := ⟨_, rfl⟩
      rw [hq2] at hq hd ⊢
      clear hz hq2
      have HD := Lib.hid hd
      have hq0 : 0 ≤ (q : Int) + 1 ∧ (q : Int) + 1 ≤ 9223372036854775807 := by omega
      go_enter Try.func47, Try.ntmps47
      go_wp2
      go_ret
      exact ⟨rfl, rfl⟩

set_option maxHeartbeats 2000000 in
theorem rmates_any (v k s i c v' k' s' i' c' : Int) (w : World) :
    Calls Try.prog 52 #[hdV v k s i c, hdV v' k' s' i' c'] w fun e w' => e = .returned (.bool (mateZ v k s c v' k' s' c')) ∧ Below w.heap.size w w' := by
  unfold hdV
  obtain ⟨w0, hw⟩ : ∃ w0, (w.alloc (.cells #[.int .i64 v, .int .i64 k, .int .u32 s, .int .i64 i, .int .i64 c] 44)).alloc (.cells #[.int .i64 v', .int .i64 k', .int .u32 s', .int .i64 i', .int .i64 c'] 44) = w0 := ⟨_, rfl⟩
  have hb : Below w.heap.size w w0 := by rw [← hw]; exact ((Below.refl _ w).alloc (Nat.le_refl _) _).alloc (by simp) _
  have q1 : w0.heap[w.heap.size]? = some (.cells #[.int .i64 v, .int .i64 k, .int .u32 s, .int .i64 i, .int .i64 c] 44 (0, 0)) := by
    rw [← hw]; exact (Below.heap_alloc _ _ _ (by simp)).trans (World.alloc_heap_new _ _)
  have q2 : w0.heap[w.heap.size + 1]? = some (.cells #[.int .i64 v', .int .i64 k', .int .u32 s', .int .i64 i', .int .i64 c'] 44 (0, 0)) := by
    rw [← hw]
    have := World.alloc_heap_new (w.alloc (.cells #[.int .i64 v, .int .i64 k, .int .u32 s, .int .i64 i, .int .i64 c] 44)) (.cells #[.int .i64 v', .int .i64 k', .int .u32 s', .int .i64 i', .int .i64 c'] 44)
    rwa [World.size_alloc] at this
  obtain ⟨d0, d1, d2, d3, d4⟩ := hd_block q1
  obtain ⟨e0, e1, e2, e3, e4⟩ := hd_block q2
  have HW := Lib.hid hw
  have HB := Lib.hid hb
  clear hw q1 q2 hb
  by_cases h1 : v = v'
  · by_cases h2 : k = k'
    · by_cases h3 : s = s'
      · by_cases h4 : c = c'
        · have hz : mateZ v k s c v' k' s' c' = true := by simp [mateZ, h1, h2, h3, h4]
          rw [hz]
          subst h1 h2 h3 h4
          clear hz
          go_enter Try.func52, Try.ntmps52
          go_wp2_with fail
          rw [HW.out]
          go_wp2
          go_ret
          exact ⟨rfl, HB.out⟩
        · have hz : mateZ v k s c v' k' s' c' = false := by simp [mateZ, h4]
          have h5 : (c == c') = false := by simp [h4]
          rw [hz]
          subst h1 h2 h3
          clear hz
          go_enter Try.func52, Try.ntmps52
          go_wp2_with fail
          rw [HW.out]
          go_wp2
          go_ret
          exact ⟨rfl, HB.out⟩
      · have hz : mateZ v k s c v' k' s' c' = false := by simp [mateZ, h3]
        have h5 : (s == s') = false := by simp [h3]
        rw [hz]
        subst h1 h2
        clear hz
        go_enter Try.func52, Try.ntmps52
        go_wp2_with fail
        rw [HW.out]
        go_wp2
        go_ret
        exact ⟨rfl, HB.out⟩
    · have hz : mateZ v k s c v' k' s' c' = false := by simp [mateZ, h2]
      have h5 : (k == k') = false := by simp [h2]
      rw [hz]
      subst h1
      clear hz
      go_enter Try.func52, Try.ntmps52
      go_wp2_with fail
      rw [HW.out]
      go_wp2
      go_ret
      exact ⟨rfl, HB.out⟩
  · have hz : mateZ v k s c v' k' s' c' = false := by simp [mateZ, h1]
    have h5 : (v == v') = false := by simp [h1]
    rw [hz]
    clear hz
    go_enter Try.func52, Try.ntmps52
    go_wp2_with fail
    rw [HW.out]
    go_wp2
    go_ret
    exact ⟨rfl, HB.out⟩
end Go.Proofs.Ytloncplpjdekoaa

namespace Go.Proofs.Ytloncplpjdekoaa
open Go.RowKit

theorem run_append_any_at {P : Program} {w : World} (t ty : TypeId) (base : Nat) (e : TypeId) (i : TypeInfo) (z : Value) (bytes : Nat) (ht : P.underlying t = some (.slice e)) (hi : P.info? e = some i) (hz : i.zero = some z) (hsize : i.size = 1) (hby : i.bytes = bytes) (hzs : z.cells.size = 1)
    (k : IntKind) (n : Nat) (xs : List Value) (zs : List Int) (v : Value) (hown : w.ownsRow base e 1 v n xs) (A : Option Addr) (m c B : Nat) (hm : zs.length = m) (hn : Nums k w B A zs)
    (h63 : n + m ≤ maxLen) (hbytes : (n + m) * bytes ≤ 140737488355328) (hbase : base ≤ w.heap.size) :
    ∃ v' w', (Builtin.append_ #[t, t] ty #[v, .slice A m c]).run P w = .ok v' w' ∧ w'.ownsRow base e 1 v' (n + m) (xs ++ zs.map (Value.int k)) ∧ w.grownBy w' v.ownBlock ∧ (v'.ownBlock = v.ownBlock ∨ v'.ownBlock = some w.heap.size) := by
  subst hm
  by_cases hz0 : zs = []
  · subst hz0
    have hv : ∃ b n cap, v = .slice b n cap ∧ n ≤ cap := by
      rcases hown.2 with ⟨rfl, _⟩ | ⟨g, cap, cur, rfl, _, _, hle, _⟩
      · exact ⟨_, _, _, rfl, Nat.le_refl _⟩
      · exact ⟨_, _, _, rfl, hle⟩
    obtain ⟨b, q, cap, rfl, hle⟩ := hv
    refine ⟨_, _, run_append_nothing w t t ty e i ht hi b q cap hle _ ?_, by simpa using hown, ⟨rfl, rfl, rfl, Nat.le_refl _, fun _ _ _ => rfl⟩, .inl rfl⟩
    cases A with
    | none => exact ⟨.inl ⟨e, ht⟩, fun _ => rfl, run_firstCells_none w i.size 0 0 c, run_firstCells_none w.drew i.size 0 0 c, by simp, fun _ h => by cases h⟩
    | some ad => exact Src.ofSlice w ht ad 0 c [] (by simp) (by simp) (fun _ h => by cases h)
  · obtain ⟨b1, o1, rfl, hb1, hc⟩ := hn hz0
    obtain ⟨v', w', h1, h2, h3, _, h5⟩ := run_append_own_at (P := P) (w := w) base t ty e i z 1 bytes ht hi hz hsize hby hzs (by decide) v n xs hown ⟨b1, o1, none⟩ zs.length c (zs.map (Value.int k)) (by simp) (fun j u hj => by
      rw [List.getElem?_map] at hj
      obtain ⟨y, hy, rfl⟩ := Option.map_eq_some_iff.1 hj
      rw [Addr.add_lit]
      exact hc j y hy) (fun u hu => by obtain ⟨y, _, rfl⟩ := List.mem_map.1 hu; rfl) h63 hbytes hbase
    exact ⟨v', w', h1, h2, h3, h5⟩

theorem wpListIn_append_any_at {F : Fence} {nF : Nat} {P : Program} {w : World} {ops : Array Oper} {rest : List Oper} {o : Oper} {a : Act} {Q : Exit → Act → World → Prop} (hg : o.guard = none) (s x : Operand) (t : TypeId)
    (hop : o.op = Op.call { callee := Callee.builtin Builtin.append, args := #[s, x], argTypes := #[t, t] })
    (base : Nat) (e : TypeId) (i : TypeInfo) (z : Value) (bytes : Nat) (ht : P.underlying t = some (.slice e)) (hi : P.info? e = some i) (hz : i.zero = some z) (hsize : i.size = 1) (hby : i.bytes = bytes) (hzs : z.cells.size = 1)
    (k : IntKind) (n : Nat) (xs : List Value) (zs : List Int) (v : Value) (hs : a.eval s = v) (hown : w.ownsRow base e 1 v n xs) (A : Option Addr) (m c B : Nat) (hx : a.eval x = .slice A m c) (hm : zs.length = m) (hn : Nums k w B A zs)
    (h63 : n + m ≤ maxLen) (hbytes : (n + m) * bytes ≤ 140737488355328) (hbase : base ≤ w.heap.size)
    (hK : ∀ v' w', w'.ownsRow base e 1 v' (n + m) (xs ++ zs.map (Value.int k)) → w.grownBy w' v.ownBlock → (v'.ownBlock = v.ownBlock ∨ v'.ownBlock = some w.heap.size) → wpListIn F nF P ops Q rest (a.put o.dst v') w') :
    wpListIn F nF P ops Q (o :: rest) a w := by
  refine wpListIn_plain hg fun K hK' => ?_
  obtain ⟨v', w', hrun, r1, r2, r3⟩ := run_append_any_at (P := P) (w := w) t o.type base e i z bytes ht hi hz hsize hby hzs k n xs zs v hown A m c B hm hn h63 hbytes hbase
  unfold Oper.wpIn
  refine ⟨?_, ?_⟩
  · simp [Oper.about, hop, resolve, Target.leads, Sem.run_pure]
  · rw [Oper.semAt_plain F _ _ (by rw [hop]; intro c hc'; cases hc')]
    simp [execOp, hop, resolve, invoke, builtin, hs, hx, hrun, Result.andThen]
    exact hK' _ _ (hK v' w' r1 r2 r3)

/-- the block of the row that the box holds -/
def ownA (b : Nat) (W : World) : Option Nat := (W.cell? ⟨b, 0, none⟩).bind Value.ownBlock
/-- whatever is cells, but the two boxes and the one's row, is as it was -/
structure KpA (bI bA : Nat) (W W' : World) : Prop where
  size : W.heap.size ≤ W'.heap.size
  same : ∀ (k : Nat) (o : Obj), k ≠ bI → k ≠ bA → ownA bA W ≠ some k → W.heap[k]? = some o → o.isCells = true → W'.heap[k]? = some o
  own : ownA bA W' = ownA bA W ∨ ∃ g, ownA bA W' = some g ∧ W.heap.size ≤ g
section
variable {bI bA : Nat} {A B C : World}
theorem KpA.refl (bI bA : Nat) (A : World) : KpA bI bA A A := ⟨Nat.le_refl _, fun _ _ _ _ _ h _ => h, .inl rfl⟩
theorem KpA.trans (h : KpA bI bA A B) (k : KpA bI bA B C) : KpA bI bA A C := by
  refine ⟨Nat.le_trans h.size k.size, fun i o hi ha hown ho hc => ?_, ?_⟩
  · refine k.same i o hi ha (fun e => ?_) (h.same i o hi ha hown ho hc) hc
    rcases h.own with h1 | ⟨g, h1, h2⟩
    · rw [h1] at e; exact hown e
    · rw [h1] at e; injection e with e
      have := (Array.getElem?_eq_some_iff.1 ho).1
      omega
  · rcases k.own with h1 | ⟨g, h1, h2⟩
    · rcases h.own with h3 | ⟨g, h3, h4⟩
      · exact .inl (h1.trans h3)
      · exact .inr ⟨g, h1.trans h3, h4⟩
    · exact .inr ⟨g, h1, Nat.le_trans h.size h2⟩
theorem KpA.putObj {l : Nat} {W : World} {o o' : Obj} (hbl : bA < l) (ho : W.heap[l]? = some o) (hc : o.isCells = false) : KpA bI bA W (W.putObj l o') := by
  refine ⟨by simp [World.putObj], fun k p _ _ _ hp hpc => (World.putObj_heap_other (fun e => ?_)).trans hp, .inl ?_⟩
  · subst e
    rw [hp] at ho
    injection ho with ho
    subst ho
    rw [hpc] at hc; cases hc
  · unfold ownA
    rw [World.cell?_of_block (World.putObj_heap_other (by simp only; omega))]
theorem KpA.of_below {b : Nat} (h : Below b A B) (hs : A.heap.size ≤ b) (hb : bA < A.heap.size) : KpA bI bA A B := ⟨h.size, fun k _ _ _ _ ho _ => (h.block k (by have := (Array.getElem?_eq_some_iff.1 ho).1; omega)).trans ho, .inl (by unfold ownA; rw [h.cell (p := ⟨bA, 0, none⟩) (by simp only; omega)])⟩
end

/-- the boxes behind j rounds: the count, and the row, whose numbers are zs -/
structure TwoB (w : World) (bI bA : Nat) (tI tA e : TypeId) (k : IntKind) (j : Nat) (zs : List Int) (V : World) : Prop where
  cnt : Boxed V bI tI (.int .i64 ((j : Nat) : Int))
  row : ∃ v, Boxed V bA tA v ∧ V.ownsRow w.heap.size e 1 v zs.length (zs.map (Value.int k)) ∧ (j = 0 → v = .slice none 0 0)
  off : Off (fun q => q = bI ∨ q = bA) w V
section
variable {w V V1 V2 : World} {bI bA : Nat} {tI tA e : TypeId} {k : IntKind} {j : Nat} {zs : List Int}
theorem TwoB.putObj {l : Nat} {o o' : Obj} (h : TwoB w bI bA tI tA e k j zs V) (hI : bI < w.heap.size) (hA : bA < w.heap.size) (hl : w.heap.size ≤ l) (ho : V.heap[l]? = some o) (hc : o.isCells = false) : TwoB w bI bA tI tA e k j zs (V.putObj l o') := by
  obtain ⟨v, h1, h2, h3⟩ := h.row
  exact ⟨(World.putObj_heap_other (by omega)).trans h.cnt, ⟨v, (World.putObj_heap_other (by omega)).trans h1, ownsRow_putObj h2 _ ho hc, h3⟩, off_below h.off (below_put V o' hl)⟩
theorem TwoB.start (h : TwoB w bI bA tI tA e k 0 [] V) (hI : bI < w.heap.size) (hA : bA < w.heap.size) (hb : Below w.heap.size V V1) : TwoB w bI bA tI tA e k 0 [] V1 := by
  obtain ⟨v, h1, h2, h3⟩ := h.row
  refine ⟨(hb.block bI hI).trans h.cnt, ⟨v, (hb.block bA hA).trans h1, ?_, h3⟩, off_below h.off hb⟩
  rw [h3 rfl]
  exact World.ownsRow_nil _ _ _ _
theorem TwoB.own0 (h : TwoB w bI bA tI tA e k 0 zs V) : ownA bA V = none := by
  obtain ⟨v, h1, _, h3⟩ := h.row
  unfold ownA
  rw [h1.cell, h3 rfl]; rfl
/-- a round: the row grows, the count goes up -/
theorem TwoB.next {v v' : Value} {ys : List Int} {m : Nat} (h : TwoB w bI bA tI tA e k j zs V) (hv : Boxed V bA tA v) (hrow : V.ownsRow w.heap.size e 1 v zs.length (zs.map (Value.int k))) (hne : bI ≠ bA) (hI : bI < w.heap.size) (hA : bA < w.heap.size)
    (h1 : Below V.heap.size V V1) (hm : (zs ++ ys).length = m) (hown' : V2.ownsRow w.heap.size e 1 v' m (zs.map (Value.int k) ++ ys.map (Value.int k))) (hg : V1.grownBy V2 v.ownBlock) (hat : v'.ownBlock = v.ownBlock ∨ v'.ownBlock = some V1.heap.size) :
    Boxed V2 bA tA v ∧ Boxed V2 bI tI (.int .i64 (j : Int)) ∧ Boxed (V2.setCell ⟨bA, 0, none⟩ v') bI tI (.int .i64 (j : Int)) ∧
    TwoB w bI bA tI tA e k (j + 1) (zs ++ ys) ((V2.setCell ⟨bA, 0, none⟩ v').setCell ⟨bI, 0, none⟩ (.int .i64 ((j : Int) + 1))) ∧
    KeepsFrom w.heap.size V ((V2.setCell ⟨bA, 0, none⟩ v').setCell ⟨bI, 0, none⟩ (.int .i64 ((j : Int) + 1))) ∧ KpA bI bA V ((V2.setCell ⟨bA, 0, none⟩ v').setCell ⟨bI, 0, none⟩ (.int .i64 ((j : Int) + 1))) := by
  have hsV := h.off.size
  have hs1 := h1.size
  have hs2 := hg.size
  have hlt := hrow.lt
  have hlt' := hown'.lt
  have hnr : ∀ b, b < w.heap.size → some b ≠ v.ownBlock := fun b hb e2 => by have := (hlt b e2.symm).1; omega
  have hA2 : Boxed V2 bA tA v := (hg.block bA (by omega) (hnr bA hA)).trans ((h1.block bA (by omega)).trans hv)
  have hI2 : Boxed V2 bI tI (.int .i64 (j : Int)) := (hg.block bI (by omega) (hnr bI hI)).trans ((h1.block bI (by omega)).trans h.cnt)
  have hI3 : Boxed (V2.setCell ⟨bA, 0, none⟩ v') bI tI (.int .i64 (j : Int)) := hI2.other hne v'
  have hA3 : Boxed (V2.setCell ⟨bA, 0, none⟩ v') bA tA v' := hA2.set v'
  have hnr' : ∀ b, b < w.heap.size → v'.ownBlock = none ∨ v'.ownBlock ≠ some b := fun b hb => .inr fun e2 => by have := (hlt' b e2).1; omega
  have hr3 := hown'.kept (grownBy_setCell' V2 bA v') (hnr' bA hA)
  have hr4 := hr3.kept (grownBy_setCell' _ bI (.int .i64 ((j : Int) + 1))) (hnr' bI hI)
  have hblk : ∀ q, q < V.heap.size → q ≠ bI → q ≠ bA → some q ≠ v.ownBlock → ((V2.setCell ⟨bA, 0, none⟩ v').setCell ⟨bI, 0, none⟩ (.int .i64 ((j : Int) + 1))).heap[q]? = V.heap[q]? := fun q hq h3 h4 h5 =>
    (Below.heap_setCell _ ⟨bI, 0, none⟩ _ q h3).trans ((Below.heap_setCell _ ⟨bA, 0, none⟩ _ q h4).trans ((hg.block q (by omega) h5).trans (h1.block q hq)))
  have hsz : V.heap.size ≤ ((V2.setCell ⟨bA, 0, none⟩ v').setCell ⟨bI, 0, none⟩ (.int .i64 ((j : Int) + 1))).heap.size := by simp only [World.setCell, Array.size_modify]; omega
  have hAf : Boxed ((V2.setCell ⟨bA, 0, none⟩ v').setCell ⟨bI, 0, none⟩ (.int .i64 ((j : Int) + 1))) bA tA v' := hA3.other (Ne.symm hne) _
  have hcellV : ∀ q o, v.ownBlock = some q → V.heap[q]? = some o → o.isCells = true := fun q o ej hj => by
    rcases hrow.2 with ⟨rfl, _⟩ | ⟨g, cap, cur, rfl, _, hgb, _⟩
    · simp [Value.ownBlock] at ej
    · obtain rfl : g = q := by simpa [Value.ownBlock] using ej
      rw [hgb] at hj; cases hj; rfl
  refine ⟨hA2, hI2, hI3, ⟨?_, ⟨v', hAf, ?_, fun h0 => by omega⟩, ?_⟩, ?_, ?_⟩
  · rw [Int.natCast_succ]; exact hI3.set _
  · rw [hm, List.map_append]; exact hr4
  · refine ⟨hg.os.trans (h1.os.trans h.off.os), hg.tape.trans (h1.tape.trans h.off.tape), hg.output.trans (h1.output.trans h.off.output), Nat.le_trans hsV hsz, fun q hq hn => ?_⟩
    exact (hblk q (by omega) (fun e2 => hn (.inl e2)) (fun e2 => hn (.inr e2)) (hnr q hq)).trans (h.off.block q hq hn)
  · refine ⟨hsz, fun q o hq ho hc => ?_⟩
    have hql := (Array.getElem?_eq_some_iff.1 ho).1
    refine (hblk q hql (by omega) (by omega) (fun e2 => ?_)).trans ho
    have := hcellV q o e2.symm ho
    rw [hc] at this; cases this
  · have hoV : ownA bA V = v.ownBlock := by unfold ownA; rw [hv.cell]; rfl
    have hoF : ownA bA ((V2.setCell ⟨bA, 0, none⟩ v').setCell ⟨bI, 0, none⟩ (.int .i64 ((j : Int) + 1))) = v'.ownBlock := by unfold ownA; rw [hAf.cell]; rfl
    refine ⟨hsz, fun q o h3 h4 h5 ho hc => ?_, ?_⟩
    · have hql := (Array.getElem?_eq_some_iff.1 ho).1
      exact (hblk q hql h3 h4 (fun e2 => h5 (by rw [hoV, e2]))).trans ho
    · rw [hoF, hoV]
      rcases hat with h6 | h6
      · exact .inl h6
      · exact .inr ⟨_, h6, hs1⟩
end
end Go.Proofs.Ytloncplpjdekoaa

namespace Go.Proofs.Ytloncplpjdekoaa
open Go.RowKit
set_option maxRecDepth 100000

theorem sfInfo : (Try.prog.info? 46).map (fun i => (i.zero, i.size, i.bytes)) = some (some (.agg #[.int .i64 0, .int .i64 0, .int .u32 0, .int .i64 0, .int .i64 0, .slice none 0 0]), 6, 64) := by kernel_rfl
theorem ssInfo : (Try.prog.info? 83).map (·.size) = some 6 := by kernel_rfl
theorem fs_one (v k s i c : Int) (A : Option Addr) (n cp : Nat) : (frC v k s i c (.slice A n cp)).all (·.oneCell') = true := by simp [frC, Value.oneCell']
theorem flatF_get {fs : List Fr} {p : Nat} {u : Value} (h : (flatF fs)[p]? = some u) : ∃ (j q : Nat) (f : Fr), p = j * 6 + q ∧ fs[j]? = some f ∧ f.cs[q]? = some u := by
  have hlt := (List.getElem?_eq_some_iff.1 h).1
  rw [flatF_len] at hlt
  have hj : p / 6 < fs.length := by omega
  obtain ⟨f, hf⟩ : ∃ f, fs[p / 6]? = some f := ⟨_, List.getElem?_eq_getElem hj⟩
  have hq : p % 6 < f.cs.size := by show p % 6 < 6; omega
  refine ⟨p / 6, p % 6, f, by omega, hf, ?_⟩
  have h1 := flatF_at hf (Array.getElem?_eq_getElem hq)
  rw [show p / 6 * 6 + p % 6 = p by omega, h] at h1
  rw [Array.getElem?_eq_getElem hq, h1]
/-- a list of frames from anywhere, appended to an empty literal -/
theorem append_frames {P : Program} {W : World} (t ty e : TypeId) (i : TypeInfo) (z : Value) (ht : P.underlying t = some (.slice e)) (hi : P.info? e = some i) (hz : i.zero = some z) (hsize : i.size = 6) (hby : i.bytes = 64) (hzs : z.cells.size = 6)
    (H g : Nat) (hH : H ≤ W.heap.size) (hown : W.ownsRow H e 6 (.slice (some ⟨g, 0, none⟩) 0 0) 0 []) (A : Option Addr) (n cp : Nat) (fs : List Fr) (hn : fs.length = n) (hn2 : n ≤ 1000000) (hat : FrsAt W W.heap.size A fs) :
    ∃ v' W', (Builtin.append_ #[t, t] ty #[.slice (some ⟨g, 0, none⟩) 0 0, .slice A n cp]).run P W = .ok v' W' ∧ W'.ownsRow H e 6 v' n (flatF fs) ∧ Below W.heap.size W W' := by
  by_cases h0 : n = 0
  · subst h0
    obtain rfl : fs = [] := List.eq_nil_of_length_eq_zero hn
    refine ⟨_, _, run_append_nothing W t t ty e i ht hi (some ⟨g, 0, none⟩) 0 0 (Nat.le_refl _) _ ?_, hown, ⟨rfl, rfl, rfl, Nat.le_refl _, fun _ _ => rfl⟩⟩
    cases A with
    | none => exact ⟨.inl ⟨e, ht⟩, fun _ => rfl, run_firstCells_none W i.size 0 0 cp, run_firstCells_none W.drew i.size 0 0 cp, by simp, fun _ h => by cases h⟩
    | some ad => exact Src.ofSlice W ht ad 0 cp [] (by simp) (by simp) (fun _ h => by cases h)
  · obtain ⟨f0, hf0⟩ : ∃ f, fs[0]? = some f := ⟨_, List.getElem?_eq_getElem (by omega)⟩
    obtain ⟨b, off, rfl, _, _⟩ := hat.2 0 f0 hf0
    obtain ⟨v', W', hr, h1, h2⟩ := run_append_arg_grows (P := P) W t ty e i z 6 64 ht hi hz hsize hby hzs (by omega) ⟨g, 0, none⟩ 0 0 [] rfl (fun j u hj => by simp at hj) ⟨b, off, none⟩ n cp (flatF fs) (by rw [flatF_len, hn]) (fun j u hj => by
      obtain ⟨j', q, f, rfl, hf, hu⟩ := flatF_get hj
      obtain ⟨b', off', e', _, hc⟩ := hat.2 j' f hf
      injection e' with e'
      injection e' with e1 e2
      subst e1 e2
      rw [Addr.add_lit, ← Nat.add_assoc]
      exact hc q u hu) (by omega) (by unfold maxLen; omega) (by omega)
    rw [Nat.zero_add, List.nil_append] at h1
    exact ⟨v', W', hr, ownsRow_lower h1 hH, ⟨h2.os, h2.tape, h2.output, h2.size, fun k hk => h2.block k hk (by simp)⟩⟩
/-- what the document's Put answers -/
def RPutR (w : World) (v k s c : Int) (A : Option Addr) (n cp : Nat) (fs : List Fr) (f : Fr) (er : Int) (e : Ending) (w' : World) : Prop :=
  Below w.heap.size w w' ∧ ((er ≠ 0 ∧ e = .returned (.tuple #[frV v k s 0 c (.slice A n cp), .int .i64 er])) ∨ (er = 0 ∧ ∃ A' cp', e = .returned (.tuple #[frV v k s 0 c (.slice A' (n + 1) cp'), .int .i64 0]) ∧ RefAt w' c A' (n + 1) cp' (fs ++ [f])))
theorem three_boxes {w w1 : World} {cs1 cs2 cs3 : Array Value} {t1 t2 t3 : TypeId} (hw : ((w.alloc (.cells cs1 t1)).alloc (.cells cs2 t2)).alloc (.cells cs3 t3) = w1) :
    Below w.heap.size w w1 ∧ w1.heap.size = w.heap.size + 3 ∧ w1.heap[w.heap.size]? = some (.cells cs1 t1 (0, 0)) ∧ w1.heap[w.heap.size + 1]? = some (.cells cs2 t2 (0, 0)) ∧ w1.heap[w.heap.size + 2]? = some (.cells cs3 t3 (0, 0)) := by
  subst hw
  refine ⟨(((Below.refl _ w).alloc (Nat.le_refl _) _).alloc (by simp) _).alloc (by simp; omega) _, by simp, ?_, ?_, ?_⟩
  · exact (Below.heap_alloc _ _ _ (by simp; omega)).trans ((Below.heap_alloc _ _ _ (by simp)).trans (World.alloc_heap_new _ _))
  · have h := World.alloc_heap_new (w.alloc (.cells cs1 t1)) (.cells cs2 t2)
    rw [World.size_alloc] at h
    exact (Below.heap_alloc _ _ _ (by simp)).trans h
  · have h := World.alloc_heap_new ((w.alloc (.cells cs1 t1)).alloc (.cells cs2 t2)) (.cells cs3 t3)
    rw [World.size_alloc, World.size_alloc] at h
    exact h

theorem exec_appendU {P : Program} {w w' : World} {o : Oper} {b : Act} {v1 v2 v' : Value} (s x : Operand) (t : TypeId) (hop : o.op = Op.call { callee := Callee.builtin Builtin.append, args := #[s, x], argTypes := #[t, t] })
    (hs : b.eval s = v1) (hx : b.eval x = v2) (hrun : (Builtin.append_ #[t, t] o.type #[v1, v2]).run P w = .ok v' w') : (execOp b.eval o).run P w = .ok (.value v') w' := by
  simp [execOp, hop, resolve, invoke, builtin, hs, hx, hrun, Result.andThen]
/-- what the operations of 'append(append([]F{}, s.L...), f)' hand on -/
def FPut (H n : Nat) (fs : List Fr) (f : Fr) (q : Tmp) (x : Value) (W : World) : Prop :=
  if q = 47 then ∃ g, x = .slice (some ⟨g, 0, none⟩) 0 0 ∧ W.ownsRow H 46 6 (.slice (some ⟨g, 0, none⟩) 0 0) 0 []
  else if q = 50 then W.ownsRow H 46 6 x n (flatF fs)
  else ∃ g, x = .slice (some ⟨g, 0, none⟩) 1 1 ∧ W.heap[g]? = some (.cells f.cs 46 (0, 0))
theorem FPut.later {H n : Nat} {fs : List Fr} {f : Fr} {q : Tmp} {x : Value} {W W' : World} (h : FPut H n fs f q x W) (hb : Below W.heap.size W W') : FPut H n fs f q x W' := by
  unfold FPut at h ⊢
  split at h
  · rename_i hq
    rw [if_pos hq]
    obtain ⟨g, e, h1⟩ := h
    exact ⟨g, e, own_below6 h1 hb⟩
  · rename_i hq
    rw [if_neg hq]
    split at h
    · rename_i hq2
      rw [if_pos hq2]
      exact own_below6 h hb
    · rename_i hq2
      rw [if_neg hq2]
      obtain ⟨g, e, h1⟩ := h
      exact ⟨g, e, (hb.block g (Array.getElem?_eq_some_iff.1 h1).1).trans h1⟩
set_option maxHeartbeats 8000000 in
theorem rput_any {w : World} (v k s : Int) {c : Int} {A : Option Addr} {n cp : Nat} {fs : List Fr} (h : RefAt w c A n cp fs) (f : Fr) (hf : f.At w w.heap.size) (hfl : f.zs.length ≤ 250) :
    Calls Try.prog 32 #[frV v k s 0 c (.slice A n cp), frV f.v f.k f.s f.i f.c (.slice f.a f.zs.length f.cp)] w (RPutR w v k s c A n cp fs f (sErr v k s c f.v f.k f.s f.i f.c (fs.map Fr.ct) f.zs)) := by
  obtain ⟨w1, hw1⟩ : ∃ w1, ((w.alloc (.cells (frC v k s 0 c (.slice A n cp)) 83)).alloc (.cells (frC f.v f.k f.s f.i f.c (.slice f.a f.zs.length f.cp)) 46)).alloc (.cells (frC 0 0 0 0 0 (.slice none 0 0)) 83) = w1 := ⟨_, rfl⟩
  obtain ⟨hb1, hs1, hx1, hx2, hx3⟩ := three_boxes hw1
  have HX : Hid (∀ W, Below w1.heap.size w1 W → W.heap[w.heap.size]? = some (.cells (frC v k s 0 c (.slice A n cp)) 83 (0, 0)) ∧ W.heap[w.heap.size + 1]? = some (.cells (frC f.v f.k f.s f.i f.c (.slice f.a f.zs.length f.cp)) 46 (0, 0)) ∧ W.heap[w.heap.size + 2]? = some (.cells (frC 0 0 0 0 0 (.slice none 0 0)) 83 (0, 0))) :=
    Lib.hid fun W hW => ⟨(hW.block _ (by omega)).trans hx1, (hW.block _ (by omega)).trans hx2, (hW.block _ (by omega)).trans hx3⟩
  have HBad : Hid (∀ (er : Int) (W : World), sErr v k s c f.v f.k f.s f.i f.c (fs.map Fr.ct) f.zs = er → er ≠ 0 → Below w.heap.size w W → RPutR w v k s c A n cp fs f (sErr v k s c f.v f.k f.s f.i f.c (fs.map Fr.ct) f.zs) (.returned (.tuple #[frV v k s 0 c (.slice A n cp), .int .i64 er])) W) :=
    Lib.hid fun er W he h0 hb => by rw [he]; exact ⟨hb, .inl ⟨h0, rfl⟩⟩
  obtain ⟨d0, d1, d2, d3, d4, d5⟩ := fr_block hx1
  obtain ⟨e0, e1, e2, e3, e4, e5⟩ := fr_block hx2
  have KM := rmates_any f.v f.k f.s f.i f.c v k s 0 c w1
  have HAF : Hid (∀ f' ∈ fs ++ [f], f'.At w w.heap.size) := Lib.hid fun f' hf' => by
    rcases List.mem_append.1 hf' with hf' | hf'
    · exact h.at'.1 f' hf'
    · obtain rfl := List.mem_singleton.1 hf'
      exact hf
  have HB1 := Lib.hid hb1
  have HS1 := Lib.hid hs1
  have HRA := Lib.hid (h.below hb1)
  have HSE := Lib.hid (show sErr v k s c f.v f.k f.s f.i f.c (fs.map Fr.ct) f.zs = if mateZ v k s c f.v f.k f.s f.c = false then 17 else if f.i < 0 ∨ c ≤ f.i then 3 else if f.zs.length = 0 then 13 else if Sl.has (fs.map Fr.ct) f.i.toNat then 16 else if 192 < Sl.tot (fs.map Fr.ct) + f.zs.length then 6 else 0 from rfl)
  have HW1 : Hid (((w.alloc (.cells #[.int .i64 v, .int .i64 k, .int .u32 s, .int .i64 0, .int .i64 c, .slice A n cp] 83)).alloc (.cells #[.int .i64 f.v, .int .i64 f.k, .int .u32 f.s, .int .i64 f.i, .int .i64 f.c, .slice f.a f.zs.length f.cp] 46)).alloc (.cells #[.int .i64 0, .int .i64 0, .int .u32 0, .int .i64 0, .int .i64 0, .slice none 0 0] 83) = w1) := Lib.hid hw1
  rw [show mateZ f.v f.k f.s f.c v k s c = mateZ v k s c f.v f.k f.s f.c from by unfold mateZ; congr 1; simp [eq_comm]] at KM
  have HGood : Hid ((sErr v k s c f.v f.k f.s f.i f.c (fs.map Fr.ct) f.zs) = 0 → ∀ (A' : Option Addr) (cp' : Nat) (W : World), Below w.heap.size w W → RefAt W c A' (n + 1) cp' (fs ++ [f]) → RPutR w v k s c A n cp fs f (sErr v k s c f.v f.k f.s f.i f.c (fs.map Fr.ct) f.zs) (.returned (.tuple #[frV v k s 0 c (.slice A' (n + 1) cp'), .int .i64 0])) W) :=
    Lib.hid fun he A' cp' W hb hr => ⟨hb, .inr ⟨he, A', cp', rfl, hr⟩⟩
  generalize RPutR w v k s c A n cp fs f (sErr v k s c f.v f.k f.s f.i f.c (fs.map Fr.ct) f.zs) = G at *
  generalize sErr v k s c f.v f.k f.s f.i f.c (fs.map Fr.ct) f.zs = SE at *
  generalize mateZ v k s c f.v f.k f.s f.c = M at *
  clear h hf hw1 hx1 hx2 hx3 hb1
  unfold frV frC hdV at *
  go_enter Try.func32, Try.ntmps32
  go_wp2_with fail
  rw [HW1.out]
  refine KM.mono ?_
  rintro e w2 ⟨rfl, hb2⟩
  obtain ⟨hx1, hx2, hx3⟩ := HX.out w2 hb2
  obtain ⟨d0, d1, d2, d3, d4, d5⟩ := fr_block hx1
  obtain ⟨e0, e1, e2, e3, e4, e5⟩ := fr_block hx2
  have HB2 := Lib.hid (HB1.out.trans (hb2.mono HB1.out.size))
  have HEND : Hid (∀ (W : World) (er : Int), Below w1.heap.size w1 W → SE = er → er ≠ 0 →
      (W.setRow (w.heap.size + 2) (frC v k s 0 c (.slice A n cp))).cell? ⟨w.heap.size + 2, 0, none⟩ = some (.int .i64 v) ∧ (W.setRow (w.heap.size + 2) (frC v k s 0 c (.slice A n cp))).cell? ⟨w.heap.size + 2, 1, none⟩ = some (.int .i64 k) ∧
      (W.setRow (w.heap.size + 2) (frC v k s 0 c (.slice A n cp))).cell? ⟨w.heap.size + 2, 2, none⟩ = some (.int .u32 s) ∧ (W.setRow (w.heap.size + 2) (frC v k s 0 c (.slice A n cp))).cell? ⟨w.heap.size + 2, 3, none⟩ = some (.int .i64 0) ∧
      (W.setRow (w.heap.size + 2) (frC v k s 0 c (.slice A n cp))).cell? ⟨w.heap.size + 2, 4, none⟩ = some (.int .i64 c) ∧ (W.setRow (w.heap.size + 2) (frC v k s 0 c (.slice A n cp))).cell? ⟨w.heap.size + 2, 5, none⟩ = some (.slice A n cp) ∧
      G (.returned (.tuple #[.agg #[.int .i64 v, .int .i64 k, .int .u32 s, .int .i64 0, .int .i64 c, .slice A n cp], .int .i64 er])) (W.setRow (w.heap.size + 2) (frC v k s 0 c (.slice A n cp)))) := Lib.hid fun W er hW he h0 => by
    obtain ⟨_, _, hx⟩ := HX.out W hW
    have hh := setRow_heap W (w.heap.size + 2) _ (frC v k s 0 c (.slice A n cp)) _ _ hx
    have hbw := HB1.out.trans (hW.mono HB1.out.size)
    have hbF : Below w.heap.size w (W.setRow (w.heap.size + 2) (frC v k s 0 c (.slice A n cp))) := hbw.trans ((Off.setRow (S := fun q => q = w.heap.size + 2) (Off.of_below (Below.refl _ _)) rfl _).below (fun q hq => by omega) hbw.size)
    obtain ⟨g0, g1, g2, g3, g4, g5⟩ := fr_block hh
    exact ⟨g0, g1, g2, g3, g4, g5, HBad.out er _ he h0 hbF⟩
  cases M with
  | false =>
    rw [if_pos rfl] at HSE
    go_wp2_with (refine wpList_store_row rfl 83 (.tmp 4) (.tmp 12) rfl (w.heap.size + 2) (frC v k s 0 c (.slice A n cp)) rfl rfl 83 _ hx3 ssInfo rfl (fs_one _ _ _ _ _ _ _ _) ?_)
    obtain ⟨g0, g1, g2, g3, g4, g5, HFIN⟩ := HEND.out _ 17 hb2 HSE.out (by omega)
    refine bodyPost_ret (by simp [results, Try.results32, go_sem, g0, g1, g2, g3, g4, g5]; try rfl) rfl ?_
    exact HFIN
  | true =>
    rw [if_neg (by simp)] at HSE
    by_cases hi0 : f.i < 0
    · rw [if_pos (.inl hi0)] at HSE
      go_wp2_with (refine wpList_store_row rfl 83 (.tmp 4) (.tmp 26) rfl (w.heap.size + 2) (frC v k s 0 c (.slice A n cp)) rfl rfl 83 _ hx3 ssInfo rfl (fs_one _ _ _ _ _ _ _ _) ?_)
      obtain ⟨g0, g1, g2, g3, g4, g5, HFIN⟩ := HEND.out _ 3 hb2 HSE.out (by omega)
      refine bodyPost_ret (by simp [results, Try.results32, go_sem, g0, g1, g2, g3, g4, g5]; try rfl) rfl ?_
      exact HFIN
    · by_cases hi1 : c ≤ f.i
      · rw [if_pos (.inr hi1)] at HSE
        go_wp2_with (refine wpList_store_row rfl 83 (.tmp 4) (.tmp 26) rfl (w.heap.size + 2) (frC v k s 0 c (.slice A n cp)) rfl rfl 83 _ hx3 ssInfo rfl (fs_one _ _ _ _ _ _ _ _) ?_)
        obtain ⟨g0, g1, g2, g3, g4, g5, HFIN⟩ := HEND.out _ 3 hb2 HSE.out (by omega)
        refine bodyPost_ret (by simp [results, Try.results32, go_sem, g0, g1, g2, g3, g4, g5]; try rfl) rfl ?_
        exact HFIN
      · rw [if_neg (by omega)] at HSE
        by_cases hn0 : f.zs.length = 0
        · rw [if_pos hn0] at HSE
          have hn0' : (f.zs.length : Int) = 0 := by omega
          go_wp2_with (refine wpList_store_row rfl 83 (.tmp 4) (.tmp 31) rfl (w.heap.size + 2) (frC v k s 0 c (.slice A n cp)) rfl rfl 83 _ hx3 ssInfo rfl (fs_one _ _ _ _ _ _ _ _) ?_)
          obtain ⟨g0, g1, g2, g3, g4, g5, HFIN⟩ := HEND.out _ 13 hb2 HSE.out (by omega)
          refine bodyPost_ret (by simp [results, Try.results32, go_sem, g0, g1, g2, g3, g4, g5]; try rfl) rfl ?_
          exact HFIN
        · rw [if_neg hn0] at HSE
          have hn0' : ¬ (f.zs.length : Int) = 0 := by omega
          obtain ⟨j, hj⟩ := Int.eq_ofNat_of_zero_le (a := f.i) (by omega)
          rw [hj, Int.toNat_natCast] at HSE
          have KH := rhas_any v k s 0 (HRA.out.below hb2) j
          unfold HasR at KH
          rw [← hj] at KH
          unfold frV frC at KH
          have HJ := Lib.hid hj
          have HHB2 := Lib.hid hb2
          clear hj hx1 hx2 hx3 hb2
          go_wp2_with fail
          refine KH.mono ?_
          rintro e w3 ⟨hb3', hor⟩
          have hb3 := HHB2.out.trans (hb3'.mono HHB2.out.size)
          obtain ⟨hx1, hx2, hx3b⟩ := HX.out w3 hb3
          obtain ⟨d0, d1, d2, d3, d4, d5⟩ := fr_block hx1
          obtain ⟨e0, e1, e2, e3, e4, e5⟩ := fr_block hx2
          rcases hor with ⟨hno, rfl⟩ | ⟨hyes, p, f', _, _, rfl⟩
          · rw [if_neg (by rw [hno]; simp)] at HSE
            have HNO := Lib.hid hno
            have HB3 := Lib.hid hb3
            have HRA3 := Lib.hid (HRA.out.below hb3)
            have KS := Lib.hid (fun (V : World) (hV : Below w3.heap.size w3 V) => rsize_any v k s 0 (HRA3.out.below hV))
            have LX : Hid (∀ V, Below w3.heap.size w3 V → Below w1.heap.size w1 V) := Lib.hid fun V hV => HB3.out.trans (hV.mono HB3.out.size)
            have L1 : ∀ V, Below w3.heap.size w3 V → (Instr.loadAt 83 (.pointer (some ⟨w.heap.size, 0, none⟩))).run Try.prog V = .ok (.agg #[.int .i64 v, .int .i64 k, .int .u32 s, .int .i64 0, .int .i64 c, .slice A n cp]) V := fun V hV => by
              obtain ⟨hy, _, _⟩ := HX.out V (LX.out V hV)
              obtain ⟨d0, d1, d2, d3, d4, d5⟩ := fr_block hy
              simp [Instr.loadAt, go_sem, d0, d1, d2, d3, d4, d5]
            have L2 : ∀ V, Below w3.heap.size w3 V → (Instr.loadAt 34 (.pointer (some ⟨w.heap.size + 1, 5, none⟩))).run Try.prog V = .ok (.slice f.a f.zs.length f.cp) V := fun V hV => by
              obtain ⟨_, hy, _⟩ := HX.out V (LX.out V hV)
              obtain ⟨d0, d1, d2, d3, d4, d5⟩ := fr_block hy
              simp [Instr.loadAt, go_sem, d5]
            obtain ⟨T, hT⟩ : ∃ T, Sl.tot (fs.map Fr.ct) = T := ⟨_, rfl⟩
            have hTm := HRA.out.most
            rw [hT] at HSE KS hTm
            have HTT := Lib.hid hT
            unfold frV frC at KS
            clear KH hb3' hno hT d0 d1 d2 d3 d4 d5 e0 e1 e2 e3 e4 e5 hx1 hx2 hx3b hb3
            go_wp2_with fail
            refine wp_region_F 56 [] (fun _ _ _ => True) (fun V => Below w3.heap.size w3 V) (by kernel_rfl) (by kernel_rfl) (by rfl) (by simp) (fun W W' h hb => h.trans (hb.mono h.size)) (fun _ _ _ _ _ _ => trivial) (Below.refl _ _).drew ?_
            refine wpF_load _ rfl (by rfl) (by rfl) (by rfl) L1 ?_
            simp only [Act.put, List.setIfInBounds_toArray, List.set_cons_succ, List.set_cons_zero]
            refine wpF_call (f := 54) (args := #[.agg #[.int .i64 v, .int .i64 k, .int .u32 s, .int .i64 0, .int .i64 c, .slice A n cp]]) (.int .i64 (T : Int)) rfl rfl (fun x => by first | rfl | (simp [go_sem]; done)) KS.out ?_
            simp only [Act.put, List.setIfInBounds_toArray, List.set_cons_succ, List.set_cons_zero]
            repeat (first | (refine wpF_nil rfl rfl rfl rfl ?_; simp only [Act.put, List.setIfInBounds_toArray, List.set_cons_succ, List.set_cons_zero]) | (refine wpF_pure rfl rfl ?_; go_big_quiet_step (fail); refine wpQuiet_nil ?_))
            refine wpF_load _ rfl (by rfl) (by rfl) (by rfl) L2 ?_
            simp only [Act.put, List.setIfInBounds_toArray, List.set_cons_succ, List.set_cons_zero]
            repeat (first | (refine wpF_nil rfl rfl rfl rfl ?_; simp only [Act.put, List.setIfInBounds_toArray, List.set_cons_succ, List.set_cons_zero]) | (refine wpF_pure rfl rfl ?_; go_big_quiet_step (fail); refine wpQuiet_nil ?_))
            intro xs4 w4 hb4' _
            simp only [fill]
            have hb4 := LX.out w4 hb4'
            obtain ⟨hx1, hx2, hx3c⟩ := HX.out w4 hb4
            obtain ⟨d0, d1, d2, d3, d4, d5⟩ := fr_block hx1
            obtain ⟨e0, e1, e2, e3, e4, e5⟩ := fr_block hx2
            clear L1 L2 hb4'
            by_cases ht : 192 < T + f.zs.length
            · rw [if_pos ht] at HSE
              have ht2 : (192 : Int) < (T : Int) + (f.zs.length : Int) := by omega
              go_wp2_with (refine wpList_store_row rfl 83 (.tmp 4) (.tmp 46) rfl (w.heap.size + 2) (frC v k s 0 c (.slice A n cp)) rfl rfl 83 _ hx3c ssInfo rfl (fs_one _ _ _ _ _ _ _ _) ?_)
              obtain ⟨g0, g1, g2, g3, g4, g5, HFIN⟩ := HEND.out _ 6 hb4 HSE.out (by omega)
              refine bodyPost_ret (by simp [results, Try.results32, go_sem, g0, g1, g2, g3, g4, g5]; try rfl) rfl ?_
              exact HFIN
            · rw [if_neg ht] at HSE
              have ht2 : ¬ (192 : Int) < (T : Int) + (f.zs.length : Int) := by omega
              have LX4 : Hid (∀ V, Below w4.heap.size w4 V → Below w1.heap.size w1 V) := Lib.hid fun V hV => hb4.trans (hV.mono hb4.size)
              have L1 : ∀ V, Below w4.heap.size w4 V → (Instr.loadAt 81 (.pointer (some ⟨w.heap.size, 5, none⟩))).run Try.prog V = .ok (.slice A n cp) V := fun V hV => by
                obtain ⟨hy, _, _⟩ := HX.out V (LX4.out V hV)
                obtain ⟨d0, d1, d2, d3, d4, d5⟩ := fr_block hy
                simp [Instr.loadAt, go_sem, d5]
              have L2 : ∀ V, Below w4.heap.size w4 V → (Instr.loadAt 46 (.pointer (some ⟨w.heap.size + 1, 0, none⟩))).run Try.prog V = .ok (.agg #[.int .i64 f.v, .int .i64 f.k, .int .u32 f.s, .int .i64 f.i, .int .i64 f.c, .slice f.a f.zs.length f.cp]) V := fun V hV => by
                obtain ⟨_, hy, _⟩ := HX.out V (LX4.out V hV)
                obtain ⟨d0, d1, d2, d3, d4, d5⟩ := fr_block hy
                simp [Instr.loadAt, go_sem, d0, d1, d2, d3, d4, d5]
              have HRA4 := Lib.hid (HRA.out.below hb4)
              have HB4 := Lib.hid hb4
              have hn250 := HRA.out.few_len
              have hlen := HRA.out.len
              obtain ⟨z0, hi, hz0, hz1, hz2⟩ := info_parts sfInfo
              clear d0 d1 d2 d3 d4 d5 e0 e1 e2 e3 e4 e5 hx1 hx2 hx3c hb4 KS
              go_wp2_with fail
              refine wp_region_FT 56 6 [47, 50, 52] (FPut w4.heap.size n fs f) (fun V => Below w4.heap.size w4 V) (by kernel_rfl) (by kernel_rfl) (by rfl) (by kernel_rfl) (by kernel_rfl) (by kernel_rfl) (by rfl) (by simp) (fun W W' h hb => h.trans (hb.mono h.size)) (fun q x W W' h hb => h.later hb) (Below.refl _ _).drew ?_
              simp only [List.take_succ_cons, List.take_zero, List.drop_succ_cons, List.drop_zero]
              refine wpF_src 47 (by simp) rfl rfl rfl (fun W hW => ⟨.slice (some ⟨W.heap.size, 0, none⟩) 0 0, W.alloc (.cells #[] 46), ?_, ?_, (Below.refl _ _).alloc (Nat.le_refl _) _⟩) ?_
              · simp [go_sem]
              · unfold FPut
                rw [if_pos rfl]
                exact ⟨_, rfl, World.ownsRow_made W #[] 0 hW.size (by unfold maxLen; omega) rfl⟩
              simp only [Act.put, List.setIfInBounds_toArray, List.set_cons_succ, List.set_cons_zero]
              repeat (refine wpF_pure rfl rfl ?_; go_big_quiet_step (fail); refine wpQuiet_nil ?_)
              refine wpF_load _ rfl (by rfl) (by rfl) (by rfl) L1 ?_
              simp only [Act.put, List.setIfInBounds_toArray, List.set_cons_succ, List.set_cons_zero]
              refine wpF_mix 50 [47] (by simp) rfl (by kernel_rfl) (by kernel_rfl) (fun xs => by rfl) (fun xs W hW hx => ?_) ?_
              · have h47 := hx 47 (by simp)
                unfold FPut at h47
                rw [if_pos rfl] at h47
                obtain ⟨g, e47, ho47⟩ := h47
                obtain ⟨v', W', hr, ho, hbl⟩ := append_frames (P := Try.prog) 81 81 46 z0 _ Try.underlying81 hi hz0 hz1 hz2 rfl w4.heap.size g hW.size ho47 A n cp fs hlen (by omega) (HRA4.out.below hW).at'
                refine ⟨v', W', ?_, ?_, hbl⟩
                · exact exec_appendU (.tmp 47) (.tmp 49) 81 rfl (by simp [fill, Act.put, Act.eval, e47]) (by simp [fill, Act.put, Act.eval]) hr
                · unfold FPut
                  rw [if_neg (by decide), if_pos rfl]
                  exact ho
              simp only [Act.put, List.setIfInBounds_toArray, List.set_cons_succ, List.set_cons_zero]
              refine wpF_load _ rfl (by rfl) (by rfl) (by rfl) L2 ?_
              simp only [Act.put, List.setIfInBounds_toArray, List.set_cons_succ, List.set_cons_zero]
              refine wpF_src 52 (by simp) rfl rfl rfl (fun W hW => ⟨.slice (some ⟨W.heap.size, 0, none⟩) 1 1, W.alloc (.cells f.cs 46), ?_, ?_, (Below.refl _ _).alloc (Nat.le_refl _) _⟩) ?_
              · simp [go_sem, Fr.cs, frC]
              · unfold FPut
                rw [if_neg (by decide), if_neg (by decide)]
                exact ⟨_, rfl, World.alloc_heap_new _ _⟩
              simp only [Act.put, List.setIfInBounds_toArray, List.set_cons_succ, List.set_cons_zero]
              intro xs5 w5 hb5 hx
              have h50 := hx 50 (by simp)
              have h52 := hx 52 (by simp)
              unfold FPut at h50 h52
              rw [if_neg (by decide), if_pos rfl] at h50
              rw [if_neg (by decide), if_neg (by decide)] at h52
              obtain ⟨g5, e52, hg5⟩ := h52
              simp only [fill, Act.put, List.setIfInBounds_toArray, List.set_cons_succ, List.set_cons_zero]
              rw [e52]
              generalize xs5 47 = x47
              generalize xs5 50 = x50 at *
              have hb5w := LX4.out w5 hb5
              have hs5 : w4.heap.size ≤ w5.heap.size := hb5.size
              have hs4 : w.heap.size + 3 ≤ w4.heap.size := by have := HB4.out.size; omega
              obtain ⟨hx1, hx2, hx3⟩ := HX.out w5 hb5w
              have HNW : Hid (∀ (q : Nat) (u : Value), [Value.int .i64 f.v, .int .i64 f.k, .int .u32 f.s, .int .i64 f.i, .int .i64 f.c, .slice f.a f.zs.length f.cp][q]? = some u → w5.cell? ((⟨g5, 0, none⟩ : Addr).add q) = some u) := Lib.hid fun q u hq => by
                rw [Addr.add_lit, Nat.zero_add]
                simp only [World.cell?, hg5]
                simpa [Fr.cs, frC] using hq
              have HR5 := Lib.hid h50
              have HX1 : Hid (n + 1 ≤ maxLen) := by show _ ≤ _; unfold maxLen; omega
              have HX2 : Hid ((n + 1) * 64 ≤ 140737488355328) := by show _ ≤ _; omega
              have HX5 : Hid (∀ q, q < w4.heap.size → x50.ownBlock ≠ some q) := Lib.hid fun q hq e => by
                have := (HR5.out.lt q e).1
                omega
              have HB5 := Lib.hid hb5w
              have HL1 := Lib.hid hx1
              have HL3 := Lib.hid hx3
              clear hx e52 hg5 h50 L1 L2 hb5 hb5w hx1 hx2 hx3
              refine wpList_append_lies _ rfl (.tmp 50) (.tmp 52) 81 rfl w4.heap.size 46 z0 _ 6 64 Try.underlying81 hi hz0 hz1 hz2 rfl (by decide) x50 n (flatF fs) rfl HR5.out ⟨g5, 0, none⟩ 1 1 [Value.int .i64 f.v, .int .i64 f.k, .int .u32 f.s, .int .i64 f.i, .int .i64 f.c, .slice f.a f.zs.length f.cp] rfl rfl HNW.out (by simp [Value.oneCell']) (by decide) HX1.out HX2.out hs5 _ rfl ?_
              intro g6 cp6 w6 hown hgr hat6 hlt6
              have hy1 := (hgr.block w.heap.size (by omega) (fun e => HX5.out _ (by omega) e.symm)).trans HL1.out
              have hy3 := (hgr.block (w.heap.size + 2) (by omega) (fun e => HX5.out _ (by omega) e.symm)).trans HL3.out
              have hb6 : Below w.heap.size w w6 := (HB1.out.trans (HB5.out.mono HB1.out.size)).grown hgr (by omega) (fun g hg => by
                have := (HR5.out.lt g hg).1
                omega)
              have hg6 : w4.heap.size ≤ g6 := by
                rcases hat6 with h | h
                · exact (HR5.out.lt _ h).1
                · omega
              obtain ⟨d0, d1, d2, d3, d4, d5⟩ := fr_block hy1
              have fS : w6.frozen? ⟨w.heap.size, 5, none⟩ = false := by simp [World.frozen?, hy1]
              have hz3 : (w6.setCell ⟨w.heap.size, 5, none⟩ (.slice (some ⟨g6, 0, none⟩) (n + 1) cp6)).heap[w.heap.size + 2]? = _ := (Below.heap_setCell w6 ⟨w.heap.size, 5, none⟩ _ (w.heap.size + 2) (by simp)).trans hy3
              have HFIN : Hid (let W8 := (w6.setCell ⟨w.heap.size, 5, none⟩ (.slice (some ⟨g6, 0, none⟩) (n + 1) cp6)).setRow (w.heap.size + 2) (frC v k s 0 c (.slice (some ⟨g6, 0, none⟩) (n + 1) cp6))
                  W8.heap[w.heap.size + 2]? = some (.cells (frC v k s 0 c (.slice (some ⟨g6, 0, none⟩) (n + 1) cp6)) 83 (0, 0)) ∧ G (.returned (.tuple #[.agg #[.int .i64 v, .int .i64 k, .int .u32 s, .int .i64 0, .int .i64 c, .slice (some ⟨g6, 0, none⟩) (n + 1) cp6], .int .i64 0])) W8) := by
                refine Lib.hid ?_
                intro W8
                have hb7 := hb6.setCell (p := ⟨w.heap.size, 5, none⟩) (Nat.le_refl _) (.slice (some ⟨g6, 0, none⟩) (n + 1) cp6)
                have hb8 : Below w.heap.size w W8 := hb7.trans ((Off.setRow (S := fun q => q = w.heap.size + 2) (Off.of_below (Below.refl _ _)) rfl _).below (fun q hq => by omega) hb7.size)
                have hrow : W8.ownsRow w4.heap.size 46 6 (.slice (some ⟨g6, 0, none⟩) (n + 1) cp6) (n + 1) (flatF (fs ++ [f])) := by
                  rw [flatF_push]
                  refine ⟨hown.1, hown.2.imp id fun ⟨g, cap, cur, hv, hge, hh, r'⟩ => ⟨g, cap, cur, hv, hge, ?_, r'⟩⟩
                  refine (setRow_other _ _ _ _ (by omega)).trans ?_
                  exact (Below.heap_setCell w6 ⟨w.heap.size, 5, none⟩ _ g (by simp only; omega)).trans hh
                have hats : ∀ f' ∈ fs ++ [f], f'.At W8 W8.heap.size := fun f' hf' => (HAF.out f' hf' |>.below hb8).mono hb8.size
                have hlen' : (fs ++ [f]).length = n + 1 := by rw [List.length_append, hlen]; rfl
                rw [← hlen'] at hrow
                obtain ⟨A', c', e', hc', hfrs⟩ := own_frs hrow hats
                injection e' with e1 e2 e3
                subst e1 e3
                refine ⟨setRow_heap _ _ _ _ _ _ hz3, HGood.out HSE.out _ _ W8 hb8 ⟨hfrs, hlen', by rw [← hlen']; exact hc', fun f' hf' => ?_, ?_, ?_, HRA.out.small, fun g off e => ?_⟩⟩
                · rcases List.mem_append.1 hf' with hf' | hf'
                  · exact HRA.out.few f' hf'
                  · obtain rfl := List.mem_singleton.1 hf'
                    exact ⟨by omega, by omega⟩
                · unfold Sl.Keys
                  rw [List.map_append, List.map_append, List.nodup_append]
                  refine ⟨HRA.out.keys, by simp, fun a ha b hb => ?_⟩
                  have hb' : b = j := by
                    have h1 : b = f.i.toNat := by simpa [Fr.ct] using hb
                    rw [h1, HJ.out]; rfl
                  subst hb'
                  intro e
                  subst e
                  have := Sl.has_iff.2 ha
                  rw [HNO.out] at this
                  cases this
                · rw [List.map_append]
                  show Sl.tot (fs.map Fr.ct ++ [f.ct]) ≤ 192
                  rw [Sl.tot_push]
                  show Sl.tot (fs.map Fr.ct) + f.zs.length ≤ 192
                  rw [HTT.out]
                  omega
                · rcases hrow.2 with ⟨e', _⟩ | ⟨g', cap, cur, e', _, hh, _⟩
                  · cases e'
                  · injection e with e
                    injection e with e
                    injection e' with e'
                    injection e' with e'
                    injection e' with e'
                    subst e e'
                    exact ⟨cur, hh⟩
              clear hown hgr hat6 hlt6 hy1 hy3 hb6 hg6 HR5 HNW HX1 HX2 HX5 HL1 HL3 hn0' hn250
              go_wp2_with (refine wpList_store_row rfl 83 (.tmp 4) (.tmp 55) rfl (w.heap.size + 2) (frC v k s 0 c (.slice (some ⟨g6, 0, none⟩) (n + 1) cp6)) rfl rfl 83 _ hz3 ssInfo rfl (fs_one _ _ _ _ _ _ _ _) ?_)
              obtain ⟨hh, HG9⟩ := HFIN.out
              obtain ⟨g0, g1, g2, g3, g4, g5'⟩ := fr_block hh
              refine bodyPost_ret (by simp [results, Try.results32, go_sem, g0, g1, g2, g3, g4, g5']; try rfl) rfl ?_
              exact HG9
          · rw [if_pos hyes] at HSE
            clear KH hb3'
            go_wp2_with (refine wpList_store_row rfl 83 (.tmp 4) (.tmp 38) rfl (w.heap.size + 2) (frC v k s 0 c (.slice A n cp)) rfl rfl 83 _ hx3b ssInfo rfl (fs_one _ _ _ _ _ _ _ _) ?_)
            obtain ⟨g0, g1, g2, g3, g4, g5, HFIN⟩ := HEND.out _ 16 hb3 HSE.out (by omega)
            refine bodyPost_ret (by simp [results, Try.results32, go_sem, g0, g1, g2, g3, g4, g5]; try rfl) rfl ?_
            exact HFIN
end Go.Proofs.Ytloncplpjdekoaa

namespace Go.Proofs.Ytloncplpjdekoaa
open Go.RowKit Go.Shelf
set_option maxRecDepth 100000

/-- what Frames leaves -/
def FramesR (w : World) (v k s : Int) (zs : List Int) (room : Int) (e : Ending) (w' : World) : Prop :=
  Below w.heap.size w w' ∧ ((Ct.fErr v k zs.length room ≠ 0 ∧ e = .returned (.tuple #[.slice none 0 0, .int .i64 (Ct.fErr v k zs.length room)])) ∨
    (Ct.fErr v k zs.length room = 0 ∧ ∃ A c fs, e = .returned (.tuple #[.slice A fs.length c, .int .i64 0]) ∧ fs.length ≤ c ∧ Ct.Cut v k s zs room.toNat fs ∧ FrsAt w' w'.heap.size A fs))
theorem FramesR.bad {w w' : World} {v k s room E : Int} {zs : List Int} {e : Ending} (h : Ct.fErr v k zs.length room = E) (h0 : E ≠ 0) (he : e = .returned (.tuple #[.slice none 0 0, .int .i64 E])) (hb : Below w.heap.size w w') : FramesR w v k s zs room e w' :=
  ⟨hb, .inl ⟨by rw [h]; exact h0, by rw [h]; exact he⟩⟩
/-- the frames that have been made -/
def CutGo (v k s : Int) (zs : List Int) (r m : Nat) (fs : List Fr) : Prop := ∀ (j : Nat) (f : Fr), fs[j]? = some f → f.v = v ∧ f.k = k ∧ f.s = s ∧ f.i = (j : Int) ∧ f.c = (m : Int) ∧ f.zs = Ct.part zs r j
theorem CutGo.push {v k s : Int} {zs : List Int} {r m : Nat} {fs : List Fr} (h : CutGo v k s zs r m fs) (a : Option Addr) (cp : Nat) : CutGo v k s zs r m (fs ++ [⟨v, k, s, (fs.length : Int), (m : Int), a, cp, Ct.part zs r fs.length⟩]) := fun j f hf => by
  rcases Nat.lt_or_ge j fs.length with h1 | h1
  · rw [List.getElem?_append_left h1] at hf
    exact h j f hf
  · rw [List.getElem?_append_right h1] at hf
    have h2 : j - fs.length = 0 := by
      have := (List.getElem?_eq_some_iff.1 hf).1
      simp at this; omega
    rw [h2] at hf
    have h3 : j = fs.length := by omega
    simp only [List.getElem?_cons_zero, Option.some.injEq] at hf
    subst hf h3
    exact ⟨rfl, rfl, rfl, rfl, rfl, rfl⟩
theorem chk_from {v k m : Int} {j : Nat} (h : chk v k 0 m = 0) (hj : (j : Int) < m) : chk v k (j : Int) m = 0 := by
  obtain ⟨h1, h2, h3, h4, h5, h6, h7⟩ := chk_zero h
  unfold chk
  rw [if_neg (by omega), if_neg (by omega), if_neg (by omega)]
theorem FramesR.good {w W : World} {v k s room : Int} {zs : List Int} {base t : TypeId} {u : Value} {fs : List Fr} {m : Nat} (hE : Ct.fErr v k zs.length room = 0) (hm : Ct.cnt zs.length room.toNat = m) (hl : fs.length = m) (hg : CutGo v k s zs room.toNat m fs)
    (hat : ∀ f ∈ fs, f.At W W.heap.size) (hrow : W.ownsRow base t 6 u fs.length (flatF fs)) (hb : Below w.heap.size w W) : FramesR w v k s zs room (.returned (.tuple #[u, .int .i64 0])) W := by
  obtain ⟨A, c, rfl, hc, hf⟩ := own_frs hrow hat
  exact ⟨hb, .inr ⟨hE, A, c, fs, rfl, hc, ⟨by rw [hm]; exact hl, by rw [hm]; exact hg⟩, hf⟩⟩
end Go.Proofs.Ytloncplpjdekoaa

namespace Go.Proofs.Ytloncplpjdekoaa
open Go.RowKit Go.Shelf
set_option maxRecDepth 100000
attribute [local go_sem] Oper.semAt_some

theorem frames_short (v k s i c : Int) (a : Option Addr) (cp : Nat) (room : Int) (w : World) :
    Calls Try.prog 22 #[hdV v k s i c, .slice a 0 cp, .int .i64 room] w (FramesR w v k s [] room) := by
  have HF := Lib.hid (fun e w' => FramesR.bad (w := w) (w' := w') (s := s) (e := e) (show Ct.fErr v k ([] : List Int).length room = 13 from rfl) (by decide))
  generalize FramesR w v k s [] room = G at *
  unfold hdV
  go_enter Try.func22, Try.ntmps22
  go_wp2
  try go_ret2
  exact HF.out _ _ rfl ((Below.refl _ w).alloc (Nat.le_refl _) _)
theorem frames_long (v k s i c : Int) (a : Option Addr) (n cp : Nat) (zs : List Int) (room : Int) (w : World) (hn : zs.length = n) (h1 : 192 < n) :
    Calls Try.prog 22 #[hdV v k s i c, .slice a n cp, .int .i64 room] w (FramesR w v k s zs room) := by
  have HF := Lib.hid (fun e w' => FramesR.bad (w := w) (w' := w') (s := s) (e := e) (show Ct.fErr v k zs.length room = 2 from by unfold Ct.fErr; rw [if_neg (by omega), if_pos (by omega)]) (by decide))
  have h2 : ¬ (n : Int) = 0 := by omega
  have h3 : 192 < (n : Int) := by omega
  clear hn h1
  generalize FramesR w v k s zs room = G at *
  unfold hdV
  go_enter Try.func22, Try.ntmps22
  go_wp2
  try go_ret2
  exact HF.out _ _ rfl ((Below.refl _ w).alloc (Nat.le_refl _) _)
theorem frames_range (v k s i c : Int) (a : Option Addr) (n cp : Nat) (zs : List Int) (room : Int) (w : World) (hn : zs.length = n) (h0 : 1 ≤ n) (h1 : n ≤ 192) (hr : room < 1 ∨ 242 < room) :
    Calls Try.prog 22 #[hdV v k s i c, .slice a n cp, .int .i64 room] w (FramesR w v k s zs room) := by
  have HF := Lib.hid (fun e w' => FramesR.bad (w := w) (w' := w') (s := s) (e := e) (show Ct.fErr v k zs.length room = 5 from by unfold Ct.fErr; rw [if_neg (by omega), if_neg (by omega), if_pos hr]) (by decide))
  have h2 : ¬ (n : Int) = 0 := by omega
  have h3 : ¬ 192 < (n : Int) := by omega
  clear hn h1 h0
  generalize FramesR w v k s zs room = G at *
  unfold hdV
  by_cases h4 : room < 1
  · clear hr
    go_enter Try.func22, Try.ntmps22
    go_wp2
    try go_ret2
    exact HF.out _ _ rfl ((Below.refl _ w).alloc (Nat.le_refl _) _)
  · have h5 : 242 < room := by omega
    clear hr
    go_enter Try.func22, Try.ntmps22
    go_wp2
    try go_ret2
    exact HF.out _ _ rfl ((Below.refl _ w).alloc (Nat.le_refl _) _)
theorem frames_chk (v k s i c : Int) (a : Option Addr) (n cp r : Nat) (zs : List Int) (w : World) (hn : zs.length = n) (h0 : 1 ≤ n) (hn2 : n ≤ 192) (hr1 : 1 ≤ r) (hr2 : r ≤ 242) (hE : chk v k 0 (Ct.cnt n r : Int) ≠ 0) :
    Calls Try.prog 22 #[hdV v k s i c, .slice a n cp, .int .i64 (r : Int)] w (FramesR w v k s zs (r : Int)) := by
  obtain ⟨m, hm⟩ : ∃ m, Ct.cnt n r = m := ⟨_, rfl⟩
  rw [hm] at hE
  have hfe : Ct.fErr v k zs.length (r : Int) = chk v k 0 (m : Int) := by unfold Ct.fErr; rw [if_neg (by omega), if_neg (by omega), if_neg (by omega), Int.toNat_natCast, hn, hm]
  have HF := Lib.hid (fun e w' => FramesR.bad (w := w) (w' := w') (s := s) (e := e) hfe hE)
  have KN : ∀ W, Calls Try.prog 47 #[.int .i64 (n : Int), .int .i64 (r : Int)] W fun e w' => e = .returned (.int .i64 (m : Int)) ∧ w' = W := fun W => by
    have h := ccount_any n (r : Int) (by omega) (by omega) W
    have e1 : cntZ n (r : Int) = (m : Int) := by unfold cntZ; rw [if_neg (by omega), if_neg (by omega), Int.toNat_natCast, hm]
    rwa [e1] at h
  have KC := fun W => check_any v k s 0 (m : Int) W
  unfold hdV at KC
  have h2 : ¬ (n : Int) = 0 := by omega
  have h3 : ¬ 192 < (n : Int) := by omega
  have h4 : ¬ (r : Int) < 1 := by omega
  have h5 : ¬ 242 < (r : Int) := by omega
  have hE2 : (chk v k 0 (m : Int) != 0) = true := by simpa using hE
  clear hn h0 hfe hm hE
  generalize FramesR w v k s zs (r : Int) = G at *
  generalize chk v k 0 (m : Int) = E at *
  unfold hdV
  go_enter Try.func22, Try.ntmps22
  go_wp2_with fail
  refine (KN _).mono ?_
  rintro e w1 ⟨rfl, rfl⟩
  go_wp2_with fail
  refine (KC _).mono ?_
  rintro e w2 ⟨rfl, hb⟩
  have HB := Lib.hid (((Below.refl _ w).alloc (Nat.le_refl _) _).trans (hb.mono (by simp)))
  clear hb
  go_wp2
  try go_ret2
  exact HF.out _ _ rfl HB.out
end Go.Proofs.Ytloncplpjdekoaa

namespace Go.Proofs.Ytloncplpjdekoaa
open Go.RowKit
set_option maxRecDepth 100000

theorem own_slD {W : World} {base e size n : Nat} {v : Value} {xs : List Value} (h : W.ownsRow base e size v n xs) : ∃ A c, v = .slice A n c ∧ n ≤ c := by
  rcases h.2 with ⟨rfl, rfl⟩ | ⟨g, cap, cur, rfl, _, _, hle, _⟩
  · exact ⟨none, 0, rfl, Nat.le_refl _⟩
  · exact ⟨_, cap, rfl, hle⟩
theorem cells_newD {W : World} {cs : List Value} (t : TypeId) (j : Nat) (u : Value) (h : cs[j]? = some u) : (W.alloc (.cells cs.toArray t)).cell? ((⟨W.heap.size, 0, none⟩ : Addr).add j) = some u := by
  rw [Addr.add_lit, Nat.zero_add, World.cell?_alloc_at _ _ _ _ rfl]
  simpa using h
theorem held_take (L : List Ds) (j : Nat) : Tb.held ((L.take j).map Ds.ms) ≤ Tb.held (L.map Ds.ms) := by
  have e : L.map Ds.ms = (L.take j).map Ds.ms ++ (L.drop j).map Ds.ms := by rw [← List.map_append, List.take_append_drop]
  rw [e]
  unfold Tb.held
  rw [List.map_append, List.sum_append]
  omega
theorem held_push (L : List Ds) (d : Ds) : Tb.held ((L ++ [d]).map Ds.ms) = Tb.held (L.map Ds.ms) + Sl.tot (d.gs.map Fr.ct) := by
  unfold Tb.held
  simp [Ds.ms]
theorem held_most {w : World} : ∀ {L : List Ds}, (∀ d ∈ L, d.At w) → Tb.held (L.map Ds.ms) ≤ 192 * L.length
  | [], _ => by simp [Tb.held]
  | d :: r, h => by
    have h1 := (h d (by simp)).ref.most
    have h2 := held_most fun x hx => h x (List.mem_cons_of_mem _ hx)
    unfold Tb.held at *
    simp only [List.map_cons, List.sum_cons, List.length_cons, Ds.ms] at *
    omega
section
variable {w : World} {A : Option Addr} {n cp : Nat} {L : List Ds}
theorem dheld_any (h : DocAt w A n cp L) (r : Nat) : Calls Try.prog 44 #[docV r A n cp] w fun e w' => e = .returned (.int .i64 (Tb.held (L.map Ds.ms) : Int)) ∧ Below w.heap.size w w' := by
  obtain ⟨w1, hw1⟩ : ∃ w1, w.alloc (.cells #[.int .i64 (r : Int), .slice A n cp] 30) = w1 := ⟨_, rfl⟩
  obtain ⟨hb1, hs1, hx1⟩ := doc_box hw1
  have HX : Hid (∀ W, Below w1.heap.size w1 W → W.cell? ⟨w.heap.size, 0, none⟩ = some (.int .i64 (r : Int)) ∧ W.cell? ⟨w.heap.size, 1, none⟩ = some (.slice A n cp)) := Lib.hid fun W hW => doc_cells ((hW.block _ (by omega)).trans hx1)
  have hnc : (n : Int) ≤ (cp : Int) := by have := h.room; omega
  have hn1 : n ≤ 1000 := h.few
  have hmost := held_most h.at'
  rw [h.len] at hmost
  have H1 := Lib.hid (h.below hb1)
  have HL := Lib.hid h.len
  have HW1 := Lib.hid hw1
  have HB1 := Lib.hid hb1
  clear h hw1 hb1 hx1
  unfold docV
  go_enter Try.func44, Try.ntmps44
  go_wp2_with fail
  rw [HW1.out]
  go_loopw [3, 4] (fun u iv wr => ∃ j T : Nat, j ≤ n ∧ iv = .int .i64 (j : Int) ∧ u = .int .i64 (T : Int) ∧ Hid (T = Tb.held ((L.take j).map Ds.ms)) ∧ Hid (Below w1.heap.size w1 wr)) (fun _ iv _ => n - (intOf iv).toNat)
  case atStart => exact ⟨0, 0, by omega, rfl, rfl, Lib.hid rfl, Lib.hid (Below.refl _ _)⟩
  case round =>
    obtain ⟨j, T, hj, rfl, rfl, HT, HB⟩ := hrel
    obtain ⟨d0, d1⟩ := HX.out wr HB.out
    by_cases hjn : j < n
    · have hjn' : (j : Int) < (n : Int) := by omega
      obtain ⟨d, hd⟩ : ∃ d, L[j]? = some d := ⟨_, List.getElem?_eq_getElem (by rw [HL.out]; exact hjn)⟩
      obtain ⟨b, off, rfl, hb, a0, a1, a2, a3, a4, a5⟩ := (H1.out.below HB.out).six hd
      have hdm := List.mem_of_getElem? hd
      have KS := rsize_any d.v d.k d.s 0 ((H1.out.below HB.out).at' d hdm).ref
      have hsum : Tb.held ((L.take (j + 1)).map Ds.ms) = T + Sl.tot (d.gs.map Fr.ct) := by
        rw [HT.out, List.take_add_one, hd]
        exact held_push _ d
      have hle := held_take L (j + 1)
      rw [hsum] at hle
      have HSUM := Lib.hid hsum
      unfold frV frC at KS
      clear hd hdm hsum
      generalize Sl.tot (d.gs.map Fr.ct) = U at *
      go_wp2_with fail
      refine KS.mono ?_
      rintro e W2 ⟨rfl, hb2⟩
      have HB2 := Lib.hid (HB.out.trans (hb2.mono HB.out.size))
      have hTU : T + U ≤ 192000 := by omega
      clear hb2 KS a0 a1 a2 a3 a4 a5 d0 d1 hle
      go_wp2
      go_roundw
      case rel => exact ⟨j + 1, T + U, by omega, by go_num, by go_num, Lib.hid HSUM.out.symm, HB2⟩
      case measure => simp [intOf]; omega
    · obtain rfl : j = n := by omega
      have hjn' : ¬ (j : Int) < (j : Int) := by omega
      have HT2 : Hid (T = Tb.held (L.map Ds.ms)) := by
        have h := HT.out
        rw [List.take_of_length_le (by rw [HL.out]; omega)] at h
        exact h
      have HFIN := Lib.hid (HB1.out.trans (HB.out.mono HB1.out.size))
      go_wp2
      go_ret
      exact ⟨by rw [← HT2.out]; rfl, HFIN.out⟩
theorem dseqs_any (h : DocAt w A n cp L) (r : Nat) : Calls Try.prog 29 #[docV r A n cp] w fun e w' => ∃ v, e = .returned v ∧ MadeK 31 .u32 w w' (L.map Ds.s) v := by
  obtain ⟨i0, hi, hz0, hz1, hz2⟩ := info_parts wu32Info
  obtain ⟨w1, hw1⟩ : ∃ w1, w.alloc (.cells #[.int .i64 (r : Int), .slice A n cp] 30) = w1 := ⟨_, rfl⟩
  obtain ⟨hb1, hs1, hx1⟩ := doc_box hw1
  have HX : Hid (∀ W, Below w1.heap.size w1 W → W.cell? ⟨w.heap.size, 0, none⟩ = some (.int .i64 (r : Int)) ∧ W.cell? ⟨w.heap.size, 1, none⟩ = some (.slice A n cp)) := Lib.hid fun W hW => doc_cells ((hW.block _ (by omega)).trans hx1)
  have hnc : (n : Int) ≤ (cp : Int) := by have := h.room; omega
  have hn1 : n ≤ 1000 := h.few
  have H1 := Lib.hid (h.below hb1)
  have HL := Lib.hid h.len
  have HW1 := Lib.hid hw1
  have HB1 := Lib.hid hb1
  clear h hw1 hb1 hx1 hs1
  unfold docV
  go_enter Try.func29, Try.ntmps29
  go_wp2_with fail
  rw [HW1.out]
  go_loopw [3, 4] (fun u iv wr => ∃ j : Nat, j ≤ n ∧ iv = .int .i64 (j : Int) ∧ Hid (wr.ownsRow w1.heap.size 31 1 u j ((L.map fun d => Value.int .u32 d.s).take j)) ∧ Hid (Below w1.heap.size w1 wr)) (fun _ iv _ => n - (intOf iv).toNat)
  case atStart => exact ⟨0, by omega, rfl, Lib.hid (World.ownsRow_nil _ _ _ _), Lib.hid (Below.refl _ _)⟩
  case round =>
    obtain ⟨j, hj, rfl, HO, HB⟩ := hrel
    obtain ⟨d0, d1⟩ := HX.out wr HB.out
    by_cases hjn : j < n
    · have hjn' : (j : Int) < (n : Int) := by omega
      obtain ⟨d, hd⟩ : ∃ d, L[j]? = some d := ⟨_, List.getElem?_eq_getElem (by rw [HL.out]; exact hjn)⟩
      obtain ⟨b, off, rfl, hb, a0, a1, a2, a3, a4, a5⟩ := (H1.out.below HB.out).six hd
      have HD := Lib.hid hd
      have HX1 : Hid (j + 1 ≤ maxLen) := by show _ ≤ _; unfold maxLen; omega
      have HX2 : Hid ((j + 1) * 4 ≤ 140737488355328) := by show _ ≤ _; omega
      have HX3 : Hid (w1.heap.size ≤ (wr.alloc (.cells #[.int .u32 d.s] 31)).heap.size) := by show _ ≤ _; rw [World.size_alloc]; have := HB.out.size; omega
      clear hd a0 a1 a3 a4 a5
      go_wp2_with (at_builtin; refine wpList_append_own_at _ rfl (.tmp 12) (.tmp 20) 59 rfl w1.heap.size 31 i0 (.int .u32 0) 1 4 Try.underlying59 hi hz0 hz1 hz2 rfl (by decide) _ _ _ rfl (HO.out.alloc _) ⟨wr.heap.size, 0, none⟩ 1 1 [.int .u32 d.s] rfl rfl (cell_one_new _ _ _) (by simp [Value.oneCell']) HX1.out HX2.out HX3.out ?_)
      intro u1 W1 hown hg _ _
      have HB2 := Lib.hid ((HB.out.alloc HB.out.size _).grown hg (by have := HX3.out; omega) (fun g hk => (HO.out.lt g hk).1))
      have HO2 : Hid (W1.ownsRow w1.heap.size 31 1 u1 (j + 1) ((L.map fun d => Value.int .u32 d.s).take (j + 1))) := by
        rw [List.take_add_one, List.getElem?_map, HD.out]
        exact hown
      clear hown hg HX1 HX2 HX3 HO HB d0 d1
      go_wp2
      go_roundw
      case rel => exact ⟨j + 1, by omega, by go_num, HO2, HB2⟩
      case measure => simp [intOf]; omega
    · obtain rfl : j = n := by omega
      have hjn' : ¬ (j : Int) < (j : Int) := by omega
      have HFIN : Hid (MadeK 31 .u32 w wr (L.map Ds.s) u3) := by
        have ho := HO.out
        rw [List.take_of_length_le (by rw [List.length_map, HL.out]; omega)] at ho
        refine ⟨?_, HB1.out.trans (HB.out.mono HB1.out.size)⟩
        rw [List.length_map, HL.out, List.map_map]
        exact ownsRow_lower ho HB1.out.size
      clear HO
      go_wp2
      go_ret
      exact ⟨_, rfl, HFIN.out⟩
/-- what Drop answers -/
def DDropR (w : World) (r : Nat) (L' : List Ds) (e : Ending) (w' : World) : Prop := Below w.heap.size w w' ∧ ∃ A cp, e = .returned (docV r A L'.length cp) ∧ DocAt w' A L'.length cp L'
theorem DDropR.of {r : Nat} {L' : List Ds} {u : Value} {base : Nat} {w' : World} (hb : Below w.heap.size w w') (ho : w'.ownsRow base 83 6 u L'.length (flatD L')) (hat : ∀ d ∈ L', d.At w') (hf : L'.length ≤ 1000) :
    DDropR w r L' (.returned (.agg #[.int .i64 (r : Int), u])) w' := by
  obtain ⟨A, c, rfl, _, hd⟩ := own_docs ho hat hf
  exact ⟨hb, A, c, rfl, hd⟩
theorem stInfo : (Try.prog.info? 30).map (·.size) = some 2 := by kernel_rfl
theorem dsInfo : (Try.prog.info? 83).map (fun i => (i.zero, i.size, i.bytes)) = some (some (.agg #[.int .i64 0, .int .i64 0, .int .u32 0, .int .i64 0, .int .i64 0, .slice none 0 0]), 6, 64) := by kernel_rfl
theorem filter_le (L : List Ds) (j : Nat) (z : Int) : ((L.take j).filter fun d => d.s != z).length ≤ j := by
  have := List.length_filter_le (fun d : Ds => d.s != z) (L.take j)
  rw [List.length_take] at this
  omega
theorem ddrop_any (h : DocAt w A n cp L) (r : Nat) (z : Int) : Calls Try.prog 14 #[docV r A n cp, .int .u32 z] w (DDropR w r (L.filter fun d => d.s != z)) := by
  obtain ⟨i0, hi, hz0, hz1, hz2⟩ := info_parts dsInfo
  obtain ⟨w1, hw1⟩ : ∃ w1, (w.alloc (.cells #[.int .i64 (r : Int), .slice A n cp] 30)).alloc (.cells #[.int .i64 0, .slice none 0 0] 30) = w1 := ⟨_, rfl⟩
  have hs1 : w1.heap.size = w.heap.size + 2 := by rw [← hw1]; simp
  have hb1 : Below w.heap.size w w1 := by rw [← hw1]; exact ((Below.refl _ w).alloc (Nat.le_refl _) _).alloc (by simp) _
  have hx1 : w1.heap[w.heap.size]? = some (.cells #[.int .i64 (r : Int), .slice A n cp] 30 (0, 0)) := by rw [← hw1]; exact (Below.heap_alloc _ _ _ (by simp)).trans (World.alloc_heap_new _ _)
  have hx2 : w1.heap[w.heap.size + 1]? = some (.cells #[.int .i64 0, .slice none 0 0] 30 (0, 0)) := by
    rw [← hw1]
    have h := World.alloc_heap_new (w.alloc (.cells #[.int .i64 (r : Int), .slice A n cp] 30)) (.cells #[.int .i64 0, .slice none 0 0] 30)
    rwa [World.size_alloc] at h
  have HX : Hid (∀ W, Below w1.heap.size w1 W → W.heap[w.heap.size]? = some (.cells #[.int .i64 (r : Int), .slice A n cp] 30 (0, 0)) ∧ W.heap[w.heap.size + 1]? = some (.cells #[.int .i64 0, .slice none 0 0] 30 (0, 0))) := Lib.hid fun W hW => ⟨(hW.block _ (by omega)).trans hx1, (hW.block _ (by omega)).trans hx2⟩
  have hnc : (n : Int) ≤ (cp : Int) := by have := h.room; omega
  have hn1 : n ≤ 1000 := h.few
  have H1 := Lib.hid (h.below hb1)
  have HL := Lib.hid h.len
  have HW1 := Lib.hid hw1
  have HB1 := Lib.hid hb1
  have HGood : Hid (∀ (u : Value) (W : World), Below w.heap.size w W → W.ownsRow w1.heap.size 83 6 u (L.filter fun d => d.s != z).length (flatD (L.filter fun d => d.s != z)) →
      DDropR w r (L.filter fun d => d.s != z) (.returned (.agg #[.int .i64 (r : Int), u])) W) := Lib.hid fun u W hb ho => .of hb ho (fun d hd => (h.at' d (List.mem_filter.1 hd).1).below hb) (by have := filter_le L n z; rw [← h.len, List.take_length] at this; have := h.len; omega)
  have HS1 := Lib.hid hs1
  clear h hw1 hb1 hx1 hx2 hs1
  generalize DDropR w r (L.filter fun d => d.s != z) = G at *
  unfold docV
  go_enter Try.func14, Try.ntmps14
  go_wp2_with fail
  rw [HW1.out]
  go_loopw [5, 6] (fun u iv wr => ∃ j : Nat, j ≤ n ∧ iv = .int .i64 (j : Int) ∧ Hid (wr.ownsRow w1.heap.size 83 6 u ((L.take j).filter fun d => d.s != z).length (flatD ((L.take j).filter fun d => d.s != z))) ∧ Hid (Below w1.heap.size w1 wr)) (fun _ iv _ => n - (intOf iv).toNat)
  case atStart => exact ⟨0, by omega, rfl, Lib.hid (World.ownsRow_nil _ _ _ _), Lib.hid (Below.refl _ _)⟩
  case round =>
    obtain ⟨j, hj, rfl, HO, HB⟩ := hrel
    obtain ⟨hx1, hx2⟩ := HX.out wr HB.out
    obtain ⟨d0, d1⟩ := doc_cells hx1
    by_cases hjn : j < n
    · have hjn' : (j : Int) < (n : Int) := by omega
      obtain ⟨d, hd⟩ : ∃ d, L[j]? = some d := ⟨_, List.getElem?_eq_getElem (by rw [HL.out]; exact hjn)⟩
      obtain ⟨b, off, rfl, hb, a0, a1, a2, a3, a4, a5⟩ := (H1.out.below HB.out).six hd
      have htk : L.take (j + 1) = L.take j ++ [d] := by rw [List.take_add_one, hd]; rfl
      have HTK := Lib.hid htk
      have hfl := filter_le L j z
      obtain ⟨M, hM⟩ : ∃ M, ((L.take j).filter fun d => d.s != z) = M := ⟨_, rfl⟩
      rw [hM] at HO hfl
      by_cases hs : d.s = z
      · have hs' : (d.s != z) = false := by simpa using hs
        have HO2 : Hid (wr.ownsRow w1.heap.size 83 6 u5 ((L.take (j + 1)).filter fun d => d.s != z).length (flatD ((L.take (j + 1)).filter fun d => d.s != z))) := by
          show _
          rw [htk, List.filter_append, hM, List.filter_cons_of_neg (by simpa using hs), List.filter_nil, List.append_nil]
          exact HO.out
        clear hd htk hM HO hs hx1 hx2
        go_wp2
        go_roundw
        case rel => exact ⟨j + 1, by omega, by go_num, HO2, HB⟩
        case measure => simp [intOf]; omega
      · have hs' : (d.s != z) = true := by simpa using hs
        have HM2 : Hid (((L.take (j + 1)).filter fun d => d.s != z) = M ++ [d]) := by
          show _ = _
          rw [htk, List.filter_append, hM, List.filter_cons_of_pos (by simpa using hs), List.filter_nil]
        have HX1 : Hid (M.length + 1 ≤ maxLen) := by show _ ≤ _; unfold maxLen; omega
        have HX2 : Hid ((M.length + 1) * 64 ≤ 140737488355328) := by show _ ≤ _; omega
        have HX3 : Hid (w1.heap.size ≤ (wr.alloc (.cells #[.int .i64 d.v, .int .i64 d.k, .int .u32 d.s, .int .i64 0, .int .i64 d.c, .slice d.A d.n d.cp] 83)).heap.size) := by show _ ≤ _; rw [World.size_alloc]; have := HB.out.size; omega
        have HNW : Hid (∀ (q : Nat) (x : Value), [Value.int .i64 d.v, .int .i64 d.k, .int .u32 d.s, .int .i64 0, .int .i64 d.c, .slice d.A d.n d.cp][q]? = some x → (wr.alloc (.cells #[.int .i64 d.v, .int .i64 d.k, .int .u32 d.s, .int .i64 0, .int .i64 d.c, .slice d.A d.n d.cp] 83)).cell? ((⟨wr.heap.size, 0, none⟩ : Addr).add q) = some x) := fun q x hq => cells_newD 83 q x hq
        clear hd htk hM hs hx1 hx2
        go_wp2_with (at_builtin; refine wpList_append_own_at _ rfl (.tmp 23) (.tmp 29) 28 rfl w1.heap.size 83 i0 _ 6 64 Try.underlying28 hi hz0 hz1 hz2 rfl (by decide) _ _ _ rfl (HO.out.alloc _) ⟨wr.heap.size, 0, none⟩ 1 1 [Value.int .i64 d.v, .int .i64 d.k, .int .u32 d.s, .int .i64 0, .int .i64 d.c, .slice d.A d.n d.cp] rfl rfl HNW.out (by simp [Value.oneCell']) HX1.out HX2.out HX3.out ?_)
        intro u1 W1 hown hg _ _
        have HB2 := Lib.hid ((HB.out.alloc HB.out.size _).grown hg (by have := HX3.out; omega) (fun g hk => (HO.out.lt g hk).1))
        have HO2 : Hid (W1.ownsRow w1.heap.size 83 6 u1 ((L.take (j + 1)).filter fun d => d.s != z).length (flatD ((L.take (j + 1)).filter fun d => d.s != z))) := by
          show _
          rw [HM2.out, flatD_push, List.length_append, List.length_singleton]
          exact hown
        clear hown hg HX1 HX2 HX3 HNW HO HB d0 d1 a0 a1 a2 a3 a4 a5
        go_wp2
        go_roundw
        case rel => exact ⟨j + 1, by omega, by go_num, HO2, HB2⟩
        case measure => simp [intOf]; omega
    · obtain rfl : j = n := by omega
      have hjn' : ¬ (j : Int) < (j : Int) := by omega
      have ho := HO.out
      rw [List.take_of_length_le (by rw [HL.out]; omega)] at ho
      obtain ⟨Au, cu, rfl, hcu⟩ := own_slD ho
      obtain ⟨q, hq⟩ : ∃ q, (L.filter fun d => d.s != z).length = q := ⟨_, rfl⟩
      rw [hq] at ho hcu ⊢
      have f1 : ∀ q, wr.frozen? ⟨w.heap.size, q, none⟩ = false := fun q => by simp [World.frozen?, hx1]
      obtain ⟨W2, hW2⟩ : ∃ W2, wr.setCell ⟨w.heap.size, 1, none⟩ (.slice Au q cu) = W2 := ⟨_, rfl⟩
      have hh1 := setCell_at (j := 1) (u := .slice Au q cu) hx1
      simp only [List.setIfInBounds_toArray, List.set_cons_succ, List.set_cons_zero] at hh1
      have hh2 : (wr.setCell ⟨w.heap.size, 1, none⟩ (.slice Au q cu)).heap[w.heap.size + 1]? = some (.cells #[.int .i64 0, .slice none 0 0] 30 (0, 0)) := (Below.heap_setCell wr ⟨w.heap.size, 1, none⟩ _ _ (by simp only; omega)).trans hx2
      obtain ⟨p0, p1⟩ := doc_cells hh1
      have hh3 := setRow_heap _ (w.heap.size + 1) _ #[.int .i64 (r : Int), .slice Au q cu] _ _ hh2
      obtain ⟨g0, g1⟩ := doc_cells hh3
      have hof : Off (fun p => p = w.heap.size ∨ p = w.heap.size + 1) wr ((wr.setCell ⟨w.heap.size, 1, none⟩ (.slice Au q cu)).setRow (w.heap.size + 1) #[.int .i64 (r : Int), .slice Au q cu]) :=
        Off.setRow (S := fun p => p = w.heap.size ∨ p = w.heap.size + 1) ((Off.refl (fun p => p = w.heap.size ∨ p = w.heap.size + 1) wr).setCell (p := ⟨w.heap.size, 1, none⟩) (.inl rfl) _) (.inr rfl) _
      have hbw := HB1.out.trans (HB.out.mono HB1.out.size)
      have hs1 := HS1.out
      have hbF := hbw.trans (hof.below (fun q hq => by omega) hbw.size)
      have HFIN := Lib.hid (HGood.out _ _ hbF (by rw [hq]; exact tord_off ho hof (fun g hg => by have := (ho.lt g hg).1; omega)))
      clear HO ho hq hW2 hh1 hh3 hof hbw hbF hx1 hx2 hs1
      go_wp2_with (refine wpList_store_row rfl 30 (.tmp 4) (.tmp 33) rfl (w.heap.size + 1) #[.int .i64 (r : Int), .slice Au q cu] rfl rfl 30 _ hh2 stInfo rfl (by simp [Value.oneCell']) ?_)
      refine bodyPost_ret (by simp [results, Try.results14, go_sem, g0, g1]; try rfl) rfl ?_
      exact HFIN.out
end
end Go.Proofs.Ytloncplpjdekoaa

namespace Go.Proofs.Ytloncplpjdekoaa
open Go.RowKit
set_option maxRecDepth 100000

/-- blocks that are small boxes: no row of bytes, of frames, of slots -/
def Sml (w : World) (S : Nat → Prop) : Prop := ∀ g cs t fz, w.heap[g]? = some (.cells cs t fz) → S g → cs.size < 6 ∧ (∀ (j : Nat) (z : Int), cs[j]? ≠ some (.int .u8 z)) ∧ t ≠ 46
section
variable {w w' : World} {c : Int} {A : Option Addr} {n cp : Nat} {fs : List Fr} {S : Nat → Prop}
theorem nums_sml {B : Nat} {zs : List Int} {a : Option Addr} (h : Nums .u8 w B a zs) (ho : Off S w w') (hB : B = w.heap.size) (hS : Sml w S) : Nums .u8 w' w'.heap.size a zs := by
  subst hB
  refine (h.off ho fun hn g hg hs => ?_).mono ho.size
  obtain ⟨z, hz⟩ : ∃ z, zs[0]? = some z := ⟨_, List.getElem?_eq_getElem (List.length_pos_iff.2 hn)⟩
  obtain ⟨g', off, e, hlt, hc⟩ := h.open hz
  obtain ⟨_, _, e'⟩ := hg
  rw [e] at e'
  injection e' with e'
  injection e' with e'
  subst e'
  obtain ⟨o, ho'⟩ : ∃ o, w.heap[g']? = some o := ⟨_, Array.getElem?_eq_getElem hlt⟩
  cases o with
  | cells cs t fz =>
    simp only [World.cell?, ho'] at hc
    exact (hS g' cs t fz ho' hs).2.1 _ _ hc
  | _ => simp [World.cell?, ho'] at hc
theorem Fr.At.sml {f : Fr} (h : f.At w w.heap.size) (ho : Off S w w') (hS : Sml w S) : f.At w' w'.heap.size :=
  ⟨h.s0, h.s1, h.room, h.few, h.byte, nums_sml h.nums ho rfl hS⟩
theorem RefAt.sml (h : RefAt w c A n cp fs) (ho : Off S w w') (hS : Sml w S) : RefAt w' c A n cp fs := by
  have hr : ∀ g off cs, A = some ⟨g, off, none⟩ → w.heap[g]? = some (.cells cs 46 (0, 0)) → ¬ S g := fun g off cs _ hg hs => (hS g cs _ _ hg hs).2.2 rfl
  refine ⟨⟨fun f hf => (h.at'.1 f hf).sml ho hS, fun j f hf => ?_⟩, h.len, h.room, h.few, h.keys, h.most, h.small, fun g off e => ?_⟩
  · obtain ⟨b, off, e, hb, hc⟩ := h.at'.2 j f hf
    obtain ⟨cs, h1⟩ := h.row b off e
    exact ⟨b, off, e, Nat.lt_of_lt_of_le hb ho.size, fun q u hq => ho.cell (hc q u hq) (hr b off cs e h1)⟩
  · obtain ⟨cs, h1⟩ := h.row g off e
    exact ⟨cs, (ho.block g (Array.getElem?_eq_some_iff.1 h1).1 (hr g off cs e h1)).trans h1⟩
theorem Ds.At.sml {d : Ds} (h : d.At w) (ho : Off S w w') (hS : Sml w S) : d.At w' := ⟨h.ref.sml ho hS, h.num, h.good⟩
theorem DocAt.sml {L : List Ds} (h : DocAt w A n cp L) (ho : Off S w w') (hS : Sml w S) : DocAt w' A n cp L := by
  have key : ∀ (j : Nat) (d : Ds), L[j]? = some d → ∀ b off, A = some ⟨b, off, none⟩ → ¬ S b := by
    intro j d hj b off e hs
    obtain ⟨b2, off2, e2, hB, hc⟩ := h.cells j d hj
    obtain ⟨rfl, rfl⟩ : b = b2 ∧ off = off2 := by
      rw [e] at e2
      injection e2 with e2
      injection e2 with e3 e4
      exact ⟨e3, e4⟩
    obtain ⟨o, ho'⟩ : ∃ o, w.heap[b]? = some o := ⟨_, Array.getElem?_eq_getElem hB⟩
    have h5 := hc 5 _ rfl
    cases o with
    | cells cs t fz =>
      simp only [World.cell?, ho'] at h5
      have := (hS b cs t fz ho' hs).1
      have := (Array.getElem?_eq_some_iff.1 h5).1
      omega
    | _ => simp [World.cell?, ho'] at h5
  refine ⟨fun d hd => (h.at' d hd).sml ho hS, h.len, h.room, h.few, fun j d hj => ?_, fun j d hj b off e => ?_⟩
  · obtain ⟨b, off, e, hB, hc⟩ := h.cells j d hj
    exact ⟨b, off, e, Nat.lt_of_lt_of_le hB ho.size, fun q u hq => ho.cell (hc q u hq) (key j d hj b off e)⟩
  · obtain ⟨cs, h1⟩ := h.row j d hj b off e
    exact ⟨cs, (ho.block b (Array.getElem?_eq_some_iff.1 h1).1 (key j d hj b off e)).trans h1⟩
/-- slots from anywhere, appended to an empty literal -/
theorem append_docs {P : Program} {W : World} (t ty e : TypeId) (i : TypeInfo) (z : Value) (ht : P.underlying t = some (.slice e)) (hi : P.info? e = some i) (hz : i.zero = some z) (hsize : i.size = 6) (hby : i.bytes = 64) (hzs : z.cells.size = 6)
    (H g : Nat) (hH : H ≤ W.heap.size) (hown : W.ownsRow H e 6 (.slice (some ⟨g, 0, none⟩) 0 0) 0 []) {L : List Ds} (hat : DocAt W A n cp L) :
    ∃ v' W', (Builtin.append_ #[t, t] ty #[.slice (some ⟨g, 0, none⟩) 0 0, .slice A n cp]).run P W = .ok v' W' ∧ W'.ownsRow H e 6 v' n (flatD L) ∧ Below W.heap.size W W' := by
  have hn := hat.len
  have hn2 := hat.few
  by_cases h0 : n = 0
  · subst h0
    obtain rfl : L = [] := List.eq_nil_of_length_eq_zero hn
    refine ⟨_, _, run_append_nothing W t t ty e i ht hi (some ⟨g, 0, none⟩) 0 0 (Nat.le_refl _) _ ?_, hown, ⟨rfl, rfl, rfl, Nat.le_refl _, fun _ _ => rfl⟩⟩
    cases A with
    | none => exact ⟨.inl ⟨e, ht⟩, fun _ => rfl, run_firstCells_none W i.size 0 0 cp, run_firstCells_none W.drew i.size 0 0 cp, by simp, fun _ h => by cases h⟩
    | some ad => exact Src.ofSlice W ht ad 0 cp [] (by simp) (by simp) (fun _ h => by cases h)
  · obtain ⟨f0, hf0⟩ : ∃ f, L[0]? = some f := ⟨_, List.getElem?_eq_getElem (by omega)⟩
    obtain ⟨b, off, rfl, _, _⟩ := hat.cells 0 f0 hf0
    obtain ⟨v', W', hr, h1, h2⟩ := run_append_arg_grows (P := P) W t ty e i z 6 64 ht hi hz hsize hby hzs (by omega) ⟨g, 0, none⟩ 0 0 [] rfl (fun j u hj => by simp at hj) ⟨b, off, none⟩ n cp (flatD L) (by rw [flatD_len, hn]) (fun j u hj => by
      obtain ⟨j', q, f, rfl, hf, hu⟩ := flatD_get hj
      obtain ⟨b', off', e', _, hc⟩ := hat.cells j' f hf
      injection e' with e'
      injection e' with e1 e2
      subst e1 e2
      rw [Addr.add_lit, ← Nat.add_assoc]
      exact hc q u hu) (by omega) (by unfold maxLen; omega) (by omega)
    rw [Nat.zero_add, List.nil_append] at h1
    exact ⟨v', W', hr, ownsRow_lower h1 hH, ⟨h2.os, h2.tape, h2.output, h2.size, fun k hk => h2.block k hk (by simp)⟩⟩
/-- one of a row's slots is set -/
theorem docs_set {L : List Ds} {base g cap j : Nat} {d : Ds} (h : w.ownsRow base 83 6 (.slice (some ⟨g, 0, none⟩) n cap) n (flatD L)) (hl : L.length = n) (hj : j < n) (hat : ∀ x ∈ L.set j d, x.At (w.setCells g (j * 6) d.cs.toList)) (hf : n ≤ 1000) :
    w.there g (j * 6) d.cs.size ∧ DocAt (w.setCells g (j * 6) d.cs.toList) (some ⟨g, 0, none⟩) n cap (L.set j d) := by
  rcases h.2 with ⟨h0, _⟩ | ⟨g2, cap2, cur, hv, hg, hh, hn, hm, hs, hcur⟩
  · cases h0
  · injection hv with hv1 hv2 hv3
    injection hv1 with hv1
    injection hv1 with hv1
    subst hv1 hv3
    have h6 : d.cs.toList.length = 6 := rfl
    have hle : (j + 1) * 6 ≤ cap * 6 := Nat.mul_le_mul_right 6 (by omega)
    have hth : w.there g (j * 6) d.cs.size := fun q hq => by
      have hq6 : q < 6 := hq
      have hlt : j * 6 + q < cur.size := by rw [hs]; omega
      refine ⟨?_, by simp [World.frozen?, hh]⟩
      simp only [World.cell?, hh]
      rw [Array.getElem?_eq_getElem hlt]
      rfl
    obtain ⟨cs', k1, k2, k3⟩ := setCells_row d.cs.toList (j * 6) w g cur 83 hh (by rw [hs, h6]; omega)
    refine ⟨hth, hat, by rw [List.length_set]; exact hl, hn, hf, fun i x hi => ⟨g, 0, rfl, (Array.getElem?_eq_some_iff.1 k1).1, fun q u hq => ?_⟩, fun i x hi b off e => by
      injection e with e
      injection e with e
      subst e
      exact ⟨_, k1⟩⟩
    have hq6 : q < 6 := (Array.getElem?_eq_some_iff.1 hq).1
    have hcell : (w.setCells g (j * 6) d.cs.toList).cell? ⟨g, 0 + i * 6 + q, none⟩ = cs'[i * 6 + q]? := by
      simp [World.cell?, k1]
    rw [hcell]
    have k4 := k3 (i * 6 + q)
    rw [h6] at k4
    rw [List.getElem?_set] at hi
    by_cases hij : j = i
    · subst hij
      rw [if_pos rfl, if_pos (show j < L.length by omega)] at hi
      have hi := Option.some.inj hi
      rw [if_pos ⟨by omega, by omega⟩, show j * 6 + q - j * 6 = q by omega, Array.getElem?_toList, hi, hq] at k4
      exact k4
    · rw [if_neg hij] at hi
      rw [if_neg (show ¬ (j * 6 ≤ i * 6 + q ∧ i * 6 + q < j * 6 + 6) by omega)] at k4
      have h1 := h.cells (g := g) rfl (i * 6 + q) u (flatD_at hi hq)
      rw [Addr.add_lit, Nat.zero_add] at h1
      rw [k4]
      simpa [World.cell?, hh] using h1
end
end Go.Proofs.Ytloncplpjdekoaa

namespace Go.Proofs.Ytloncplpjdekoaa
open Go.RowKit
set_option maxRecDepth 100000

set_option maxHeartbeats 8000000 in
theorem rcheck_any (v k s i c : Int) (w : World) :
    Calls Try.prog 26 #[hdV v k s i c] w fun e w' => e = .returned (.int .i64 (chk v k i c)) ∧ Below w.heap.size w w' := by
  unfold hdV
  rcases chk_cases v k i c with ⟨h, h1⟩ | ⟨h, h1, h2, h3⟩ | ⟨h, h1, h2, h3, h4, h5⟩ | ⟨h, h1, h2, h3, h4, h5, h6, h7⟩ | ⟨h, h1, h2, h3, h4, h5, h6, h7, h8⟩
  · rw [h]
    have a1 : (v != 1) = true := by simp; omega
    have a2 : (v != 2) = true := by simp; omega
    clear h h1
    go_enter Try.func26, Try.ntmps26
    go_wp2
    go_ret
    exact ⟨rfl, (Below.refl _ w).alloc (Nat.le_refl _) _⟩
  · rw [h]
    obtain rfl | rfl : v = 1 ∨ v = 2 := by omega
    all_goals
      rcases h3 with h3 | h3
      all_goals
        go_enter Try.func26, Try.ntmps26
        go_wp2
        all_goals
          go_ret
          exact ⟨rfl, (Below.refl _ w).alloc (Nat.le_refl _) _⟩
  · rw [h]
    obtain rfl | rfl : v = 1 ∨ v = 2 := by omega
    all_goals
      rcases h5 with h5 | h5
      all_goals
        go_enter Try.func26, Try.ntmps26
        go_wp2
        all_goals
          go_ret
          exact ⟨rfl, (Below.refl _ w).alloc (Nat.le_refl _) _⟩
  · rw [h]
    obtain rfl | rfl : v = 1 ∨ v = 2 := by omega
    all_goals
      rcases h7 with h7 | h7
      all_goals
        go_enter Try.func26, Try.ntmps26
        go_wp2
        all_goals
          go_ret
          exact ⟨rfl, (Below.refl _ w).alloc (Nat.le_refl _) _⟩
  · rw [h]
    obtain rfl | rfl : v = 1 ∨ v = 2 := by omega
    all_goals
      go_enter Try.func26, Try.ntmps26
      go_wp2
      all_goals
        go_ret
        exact ⟨rfl, (Below.refl _ w).alloc (Nat.le_refl _) _⟩
end Go.Proofs.Ytloncplpjdekoaa

namespace Go.Proofs.Ytloncplpjdekoaa
open Go.RowKit
set_option maxRecDepth 100000

theorem sadd_way (a : Int) : Sr.way a (Sr.add a 7) = 7 := by unfold Sr.way Sr.add; omega
theorem sadd_diff (a b : Int) (h : 0 ≤ a ∧ a < 4294967296) : Sr.add b (Sr.diff a b) = a := by
  have h1 : Sr.way b a = (a - b) % 4294967296 := rfl
  unfold Sr.add Sr.diff
  split <;> omega

/-- two numbers, as they lie to one another -/
theorem signs_cases (a b : Int) (ha : 0 ≤ a ∧ a < 4294967296) (hb : 0 ≤ b ∧ b < 4294967296) :
    (Sr.after a b = false ∧ Sr.after b a = false ∧ (a != b) = false ∧ (Sr.way a b == 2147483648) = false ∧ Sr.diff a b = 0 ∧ Sr.diff b a = 0) ∨
    (Sr.after a b = false ∧ Sr.after b a = true ∧ (a != b) = true ∧ (Sr.way a b == 2147483648) = false ∧ Sr.diff a b = -(Sr.way a b) ∧ Sr.diff b a = Sr.way a b) ∨
    (Sr.after a b = true ∧ Sr.after b a = false ∧ (a != b) = true ∧ (Sr.way a b == 2147483648) = false ∧ Sr.diff a b = Sr.way b a ∧ Sr.diff b a = -(Sr.way b a)) ∨
    (Sr.after a b = false ∧ Sr.after b a = false ∧ (a != b) = true ∧ (Sr.way a b == 2147483648) = true ∧ Sr.diff a b = -2147483648 ∧ Sr.diff b a = -2147483648) := by
  have h1 : Sr.way b a = (a - b) % 4294967296 := rfl
  have h2 : Sr.way a b = (b - a) % 4294967296 := rfl
  unfold Sr.after Sr.diff
  generalize Sr.way b a = u at *
  generalize Sr.way a b = v at *
  have hc : v = 0 ∨ (0 < v ∧ v < 2147483648) ∨ v = 2147483648 ∨ 2147483648 < v := by omega
  rcases hc with h | h | h | h
  · have hab : a = b := by omega
    have hu : u = 0 := by omega
    subst hab hu h
    left; simp
  · right; left
    have e1 : (a != b) = true := by rw [bne_iff_ne]; omega
    have e2 : (v == 2147483648) = false := by rw [beq_eq_false_iff_ne]; omega
    refine ⟨decide_eq_false (by omega), decide_eq_true (by omega), e1, e2, ?_, ?_⟩
    · rw [if_pos (by omega)]; omega
    · rw [if_neg (by omega)]
  · right; right; right
    have e1 : (a != b) = true := by rw [bne_iff_ne]; omega
    have e2 : (v == 2147483648) = true := by rw [beq_iff_eq]; omega
    refine ⟨decide_eq_false (by omega), decide_eq_false (by omega), e1, e2, ?_, ?_⟩
    · rw [if_pos (by omega)]; omega
    · rw [if_pos (by omega)]; omega
  · right; right; left
    have e1 : (a != b) = true := by rw [bne_iff_ne]; omega
    have e2 : (v == 2147483648) = false := by rw [beq_eq_false_iff_ne]; omega
    refine ⟨decide_eq_true (by omega), decide_eq_false (by omega), e1, e2, ?_, ?_⟩
    · rw [if_neg (by omega)]
    · rw [if_pos (by omega)]; omega
theorem after_self (a : Int) : Sr.after a a = false := by
  have h1 : Sr.way a a = (a - a) % 4294967296 := rfl
  unfold Sr.after
  exact decide_eq_false (by omega)
theorem way_along (a b n : Int) : Sr.way (Sr.add a n) (Sr.add b n) = Sr.way a b := by unfold Sr.way Sr.add; omega
theorem after_along (a b n : Int) : Sr.after (Sr.add a n) (Sr.add b n) = Sr.after a b := by unfold Sr.after; rw [way_along]
theorem diff_along (a b n : Int) : Sr.diff (Sr.add a n) (Sr.add b n) = Sr.diff a b := by unfold Sr.diff; rw [way_along]

end Go.Proofs.Ytloncplpjdekoaa

namespace Go.Proofs.Ytloncplpjdekoaa
open Go.RowKit
set_option maxRecDepth 100000

set_option maxHeartbeats 2000000 in
theorem rbest_any (f : Bool) (B m c : Nat) (A : Option Addr) (zs : List Int) (w : World) (hm : zs.length = m) (hl : m ≤ 1000000) (hz : Sr.U zs) (hN : Nums .u32 w B A zs) :
    Calls Try.prog 28 #[.slice A m c, .bool f] w fun e w' => e = .returned (.tuple #[.int .u32 (Sr.bst f zs), .bool (decide (0 < m))]) ∧ w' = w := by
  have HM := Lib.hid hm
  clear hm
  have HZ := Lib.hid hz
  clear hz
  rcases Nat.eq_zero_or_pos m with h0 | h0
  · subst h0
    have hzn : zs = [] := List.eq_nil_of_length_eq_zero HM.out
    subst hzn
    go_enter Try.func28, Try.ntmps28
    go_wp2
    go_ret2
    exact ⟨rfl, rfl⟩
  · obtain ⟨z0, hg0⟩ : ∃ z, zs[0]? = some z := ⟨_, List.getElem?_eq_getElem (by rw [HM.out]; exact h0)⟩
    have hU0 := HZ.out z0 (List.mem_of_getElem? hg0)
    obtain ⟨b0, o0, rfl, hb0, hc0⟩ := hN.open hg0
    rw [Nat.add_zero] at hc0
    have HB : Hid (Sr.bst f zs = Sr.best f z0 (zs.drop 1)) := by
      show _ = _
      cases zs with
      | nil => simp at hg0
      | cons y ys => simp at hg0; subst hg0; rfl
    have HD : Hid (decide (0 < m) = true) := decide_eq_true h0
    clear hg0
    have h0' : (0 : Int) < (m : Int) := by omega
    have h0'' : ((m : Int) == 0) = false := by rw [beq_eq_false_iff_ne]; omega
    go_enter Try.func28, Try.ntmps28
    go_wp2
    clear hc0
    go_loopw [6, 7] (fun u v wr => ∃ (k : Nat) (x : Int), 1 ≤ k ∧ k ≤ m ∧ (0 ≤ x ∧ x < 4294967296) ∧ u = .int .u32 x ∧ v = .int .i64 (k : Int) ∧ Hid (Sr.bst f zs = Sr.best f x (zs.drop k)) ∧ wr = w) (fun _ v _ => m - (intOf v).toNat)
    case atStart => exact ⟨1, z0, by omega, by omega, hU0, rfl, rfl, HB, rfl⟩
    case round =>
      obtain ⟨k, x, hk1, hkm, hx, rfl, rfl, HP, rfl⟩ := hrel
      clear hU0 HB
      rcases Nat.lt_or_ge k m with h4 | h4
      · obtain ⟨z, hg⟩ : ∃ z, zs[k]? = some z := ⟨_, List.getElem?_eq_getElem (by rw [HM.out]; exact h4)⟩
        have hzU : 0 ≤ z ∧ z < 4294967296 := HZ.out z (List.mem_of_getElem? hg)
        obtain ⟨b1, o1, he, hb1, hc1⟩ := hN.open hg
        injection he with he
        injection he with he1 he2
        subst he1 he2
        have h4' : (k : Int) < (m : Int) := by omega
        have hst := Sr.best_step f x hg
        clear hg
        cases f with
        | true =>
          have K := rafter_any z x wr hzU hx
          rw [show Sr.st true z x = Sr.after z x from rfl] at hst
          generalize Sr.after z x = r at *
          cases r with
          | true =>
            have HQ : Hid (Sr.bst true zs = Sr.best true z (zs.drop (k + 1))) := HP.out.trans hst
            clear hst
            go_wp2_with fail
            refine K.mono ?_
            rintro e w1 ⟨rfl, rfl⟩
            go_wp2
            go_roundw
            case rel => exact ⟨k + 1, z, by omega, by omega, hzU, rfl, by go_num, HQ, trivial⟩
            case measure => simp [intOf]; omega
          | false =>
            have HQ : Hid (Sr.bst true zs = Sr.best true x (zs.drop (k + 1))) := HP.out.trans hst
            clear hst
            go_wp2_with fail
            refine K.mono ?_
            rintro e w1 ⟨rfl, rfl⟩
            go_wp2
            go_roundw
            case rel => exact ⟨k + 1, x, by omega, by omega, hx, rfl, by go_num, HQ, trivial⟩
            case measure => simp [intOf]; omega
        | false =>
          have K := rafter_any x z wr hx hzU
          rw [show Sr.st false z x = Sr.after x z from rfl] at hst
          generalize Sr.after x z = r at *
          cases r with
          | true =>
            have HQ : Hid (Sr.bst false zs = Sr.best false z (zs.drop (k + 1))) := HP.out.trans hst
            clear hst
            go_wp2_with fail
            refine K.mono ?_
            rintro e w1 ⟨rfl, rfl⟩
            go_wp2
            go_roundw
            case rel => exact ⟨k + 1, z, by omega, by omega, hzU, rfl, by go_num, HQ, trivial⟩
            case measure => simp [intOf]; omega
          | false =>
            have HQ : Hid (Sr.bst false zs = Sr.best false x (zs.drop (k + 1))) := HP.out.trans hst
            clear hst
            go_wp2_with fail
            refine K.mono ?_
            rintro e w1 ⟨rfl, rfl⟩
            go_wp2
            go_roundw
            case rel => exact ⟨k + 1, x, by omega, by omega, hx, rfl, by go_num, HQ, trivial⟩
            case measure => simp [intOf]; omega
      · have hkm' : k = m := by omega
        have HQ : Hid (Sr.bst f zs = x) := by
          have := HP.out
          rwa [List.drop_eq_nil_of_le (by rw [HM.out]; exact h4)] at this
        subst hkm'
        go_wp2
        go_ret2
        exact ⟨by rw [HQ.out, HD.out]; rfl, rfl⟩
theorem u32_of {es : List Int} (h : ∀ n ∈ es, (Lit.int .u32 n).wf = true) : Sr.U es := fun z hz => by
  have := bounds_u32 (h z hz)
  omega

end Go.Proofs.Ytloncplpjdekoaa

namespace Go.Proofs.Ytloncplpjdekoaa
open Go.RowKit
section
variable {P : Program} {fs : List Tmp} {FS : Tmp → Value → World → Prop} {I : World → Prop}
/-- the walk in the text's order: operations ahead of the store (true: it may come behind it), the store, the rest -/
def wpFL (P : Program) (ops : Array Oper) (I : World → Prop) (fs : List Tmp) (FS : Tmp → Value → World → Prop) (St : (Tmp → Value) → World → World → Prop) (E : Act → Prop) : List Bool → List Oper → Act → Prop
  | _, [], a => E a
  | [], o :: r, a => StOb P ops I fs FS St o a ∧ wpFS P ops I fs FS St E none r a
  | false :: m, o :: r, a => ∃ v, Ob P ops I fs FS o v a ∧ wpFL P ops I fs FS St E m r (a.put o.dst v)
  | true :: m, o :: r, a => ∃ v, PureOb P ops fs o v a ∧ wpFL P ops I fs FS St E m r (a.put o.dst v)
theorem wpFL_vals {ops : Array Oper} {St : (Tmp → Value) → World → World → Prop} {E : Act → Prop} : ∀ (ms : List Bool) (l : List Oper) (a : Act), wpFL P ops I fs FS St E ms l a → ∃ vs : List Value, vs.length = l.length ∧
    (∀ (j : Nat) o v, l[j]? = some o → vs[j]? = some v → (j < ms.length → Ob P ops I fs FS o v (lex l vs a j)) ∧ (j = ms.length → StOb P ops I fs FS St o (lex l vs a j)) ∧ (ms.length < j ∨ ms.getD j false = true → PureOb P ops fs o v (lex l vs a j))) ∧ E (lex l vs a l.length)
  | _, [], a, h => ⟨[], rfl, by simp, by cases ‹List Bool› with | nil => exact h | cons b m => cases b <;> exact h⟩
  | [], o :: r, a, ⟨hob, hr⟩ => by
    obtain ⟨vs, h1, h2, h3⟩ := wpFS_vals0 r _ hr
    have hput : a.put o.dst undef = a := by rw [hob.1]; rfl
    refine ⟨undef :: vs, by simp [h1], fun j o' v' ho hv => ?_, ?_⟩
    · cases j with
      | zero =>
        simp only [List.getElem?_cons_zero, Option.some.injEq] at ho hv
        subst ho hv
        exact ⟨fun h => absurd h (Nat.not_lt_zero _), fun _ => hob, fun h => h.elim (fun h => absurd h (Nat.not_lt_zero _)) (fun h => by simp at h)⟩
      | succ j =>
        simp only [List.getElem?_cons_succ] at ho hv
        refine ⟨fun h => absurd h (Nat.not_lt_zero _), fun h => absurd h (Nat.succ_ne_zero j), fun _ => ?_⟩
        show PureOb P ops fs o' v' (lex r vs (a.put o.dst undef) j)
        rw [hput]
        exact h2 j o' v' ho hv
    · show E (lex r vs (a.put o.dst undef) r.length)
      rw [hput]
      exact h3
  | false :: m, o :: r, a, ⟨v, hob, hr⟩ => by
    obtain ⟨vs, h1, h2, h3⟩ := wpFL_vals m r _ hr
    refine ⟨v :: vs, by simp [h1], fun j o' v' ho hv => ?_, h3⟩
    cases j with
    | zero =>
      simp only [List.getElem?_cons_zero, Option.some.injEq] at ho hv
      subst ho hv
      exact ⟨fun _ => hob, fun h => by simp at h, fun h => by simp at h⟩
    | succ j =>
      simp only [List.getElem?_cons_succ] at ho hv
      obtain ⟨q1, q2, q3⟩ := h2 j o' v' ho hv
      exact ⟨fun h => q1 (by simp at h; omega), fun h => q2 (by simp at h; omega), fun h => q3 (by simp at h; exact h.imp (fun h => by omega) (fun h => by simpa using h))⟩
  | true :: m, o :: r, a, ⟨v, hob, hr⟩ => by
    obtain ⟨vs, h1, h2, h3⟩ := wpFL_vals m r _ hr
    refine ⟨v :: vs, by simp [h1], fun j o' v' ho hv => ?_, h3⟩
    cases j with
    | zero =>
      simp only [List.getElem?_cons_zero, Option.some.injEq] at ho hv
      subst ho hv
      exact ⟨fun _ => hob.ob, fun h => by simp at h, fun _ => hob⟩
    | succ j =>
      simp only [List.getElem?_cons_succ] at ho hv
      obtain ⟨q1, q2, q3⟩ := h2 j o' v' ho hv
      exact ⟨fun h => q1 (by simp at h; omega), fun h => q2 (by simp at h; omega), fun h => q3 (by simp at h; exact h.imp (fun h => by omega) (fun h => by simpa using h))⟩
/-- ONE WALK IN THE TEXT's ORDER SERVES EVERY ORDER, the store behind as many as ms has -/
theorem wp_region_FL {id : Nat} {Q : Exit → Act → World → Prop} {a : Act} {w : World} {l : List Oper} (N f : Nat) (ms : List Bool) (fs : List Tmp) (FS : Tmp → Value → World → Prop) (I : World → Prop) (St : (Tmp → Value) → World → World → Prop) (hm : P.follows .mixedOrders = true) (hB : rgB .any l.toArray N = true)
    (hk : decide (ms.length < l.length) = true) (hreach : ((List.range ms.length).all fun j => ms.getD j false || reachB .any l.toArray f ms.length j) = true) (hfs : (fs.all fun s => (List.range ms.length).any fun j => !ms.getD j false && ((l[j]?).bind (·.dst) == some s)) = true) (hN : N ≤ a.tmps.size) (hI : Closed I) (hF : ∀ s x w w', FS s x w → Below w.heap.size w w' → FS s x w') (hC : I w.drew)
    (h : wpFL P l.toArray I fs FS St (fun a' => ∀ xs W w', I W → (∀ s ∈ fs, FS s (xs s) W) → St xs W w' → Q .normal (fill fs xs a') w') ms l a) : (Code.region id l.toArray true).wp P Q a w := by
  have hR := rgB_spec hB
  have hk' : ms.length < l.length := by simpa using hk
  obtain ⟨vs, hlen, hob, hE⟩ := wpFL_vals ms l a h
  have hfs' : ∀ s ∈ fs, ∃ (j : Nat) (o : Oper), j < ms.length ∧ ms.getD j false = false ∧ l[j]? = some o ∧ o.dst = some s := fun s hs => by
    rw [List.all_eq_true] at hfs
    have h1 := hfs s hs
    rw [List.any_eq_true] at h1
    obtain ⟨j, hj, hd⟩ := h1
    rw [List.mem_range] at hj
    rw [Bool.and_eq_true] at hd
    obtain ⟨o, ho⟩ : ∃ o, l[j]? = some o := ⟨_, List.getElem?_eq_getElem (by omega)⟩
    rw [ho] at hd
    exact ⟨j, o, hj, by simpa using hd.1, ho, by simpa using hd.2⟩
  exact region_of_FS (late := fun j => ms.getD j false) hm hR hk' (fun j hj hl => by
    rw [List.all_eq_true] at hreach
    have h1 := hreach j (List.mem_range.2 hj)
    rw [hl, Bool.false_or] at h1
    exact h1) hfs' hN hI hF hC hlen hob hE
/-! ### its steps -/
variable {l : List Oper} {St : (Tmp → Value) → World → World → Prop} {E : Act → Prop} {o : Oper} {rest : List Oper} {a : Act} {ms : List Bool}
theorem wpFL_step (h : wpF P l.toArray I fs FS (fun a' => wpFL P l.toArray I fs FS St E ms rest a') [o] a) : wpFL P l.toArray I fs FS St E (false :: ms) (o :: rest) a := by
  obtain ⟨v, hob, hr⟩ := h
  exact ⟨v, hob, hr⟩
/-- one that may come behind the store -/
theorem wpFL_late (h : wpFS P l.toArray I fs FS St (fun a' => wpFL P l.toArray I fs FS St E ms rest a') none [o] a) : wpFL P l.toArray I fs FS St E (true :: ms) (o :: rest) a := by
  obtain ⟨v, hob, hr⟩ := h
  exact ⟨v, hob, hr⟩
theorem wpFL_store (h : wpFS P l.toArray I fs FS St E (some 0) (o :: rest) a) : wpFL P l.toArray I fs FS St E [] (o :: rest) a := h
end
end Go.Proofs.Ytloncplpjdekoaa

namespace Go.Proofs.Ytloncplpjdekoaa
open Go.RowKit
section
variable {P : Program} {l : List Oper} {vs : List Value} {fs : List Tmp} {FS : Tmp → Value → World → Prop} {I : World → Prop} {a0 : Act}
/-- an operation that looks at no memory, and at one source: of whatever is good for what the source promises it makes one value -/
def UseOb (P : Program) (ops : Array Oper) (I : World → Prop) (fs : List Tmp) (FS : Tmp → Value → World → Prop) (o : Oper) (v : Value) (a : Act) : Prop :=
  ∃ s, s ∈ fs ∧ (∃ j, (ops[j]?).bind (·.dst) = some s ∧ o.after.any (fun e => Region.binds .any e && e.on == j) = true) ∧ (∀ d ∈ o.looksAt ops, d ∈ fs → d = s) ∧ (∀ d, o.dst = some d → d ∉ fs) ∧
    ∀ x W, I W → FS s x W → Region.wanted o (yielded ops (a.put (some s) x).tmps) = true ∧ ∀ w, purUpon w v ((execOp (a.put (some s) x).eval o).run P w)
def LateOb (P : Program) (ops : Array Oper) (I : World → Prop) (fs : List Tmp) (FS : Tmp → Value → World → Prop) (o : Oper) (v : Value) (a : Act) : Prop := PureOb P ops fs o v a ∨ UseOb P ops I fs FS o v a
theorem LateOb.dst {ops : Array Oper} {o : Oper} {v : Value} {a : Act} (h : LateOb P ops I fs FS o v a) : ∀ d, o.dst = some d → d ∉ fs := by
  rcases h with h | ⟨_, _, _, _, h, _⟩
  · exact h.2.1
  · exact h
theorem LateOb.ob {ops : Array Oper} {o : Oper} {v : Value} {a : Act} (h : LateOb P ops I fs FS o v a) : Ob P ops I fs FS o v a := by
  rcases h with h | ⟨s, h1, h2, h3, h4, h5⟩
  · exact h.ob
  · refine .inr (.inr (.inl ⟨s, h1, h2, h3, h4, fun x w hI hx => ?_⟩))
    obtain ⟨q1, q2⟩ := h5 x w hI hx
    refine ⟨q1, ?_⟩
    have q3 := q2 w
    generalize (execOp (a.put (some s) x).eval o).run P w = r at q3
    cases r with
    | ok n w' =>
      cases n <;> simp only [purUpon] at q3
      case value u => exact q3
      case skip => exact q3
    | halt x w' => simp only [purUpon] at q3
theorem any_of_FG {N k f : Nat} {late : Nat → Bool} {Q' : Exit → Act → World → Prop} {St : (Tmp → Value) → World → World → Prop} (hR : RG .any l.toArray N) (hN : N ≤ a0.tmps.size) (hlen : vs.length = l.length) (hI : Closed I) (hF : ∀ s x w w', FS s x w → Below w.heap.size w w' → FS s x w')
    (hob : ∀ (j : Nat) o v, l[j]? = some o → vs[j]? = some v → (j < k → Ob P l.toArray I fs FS o v (lex l vs a0 j)) ∧ (j = k → StOb P l.toArray I fs FS St o (lex l vs a0 j)) ∧ (k < j ∨ late j = true → LateOb P l.toArray I fs FS o v (lex l vs a0 j)))
    (hk : k < l.length) (hreach : ∀ j, j < k → late j = false → reachB .any l.toArray f k j = true) (hfs : ∀ s ∈ fs, ∃ (j : Nat) (o : Oper), j < k ∧ late j = false ∧ l[j]? = some o ∧ o.dst = some s)
    (hQ : ∀ (listed : Array Bool) b W w xs, (∀ j, listed.getD j true = true) → Inv l vs fs FS I a0 listed b W → (∀ s ∈ fs, b.tmps[s]? = some (xs s) ∧ FS s (xs s) W) → St xs W w → Q' .normal b w) :
    ∀ (fuel : Nat) (listed : Array Bool) (b : Act) (W w : World), listed.toList.count false ≤ fuel → Inv l vs fs FS I a0 listed b W →
      ((listed.getD k true = false ∧ w = W) ∨ (listed.getD k true = true ∧ ∃ xs, (∀ s ∈ fs, b.tmps[s]? = some (xs s) ∧ FS s (xs s) W) ∧ St xs W w)) → wpAny P .any l.toArray Q' fuel listed b w
  | 0, listed, b, W, w, hc, h, hp => by
    have hall := count_zero (L := listed) (by omega)
    rcases hp with ⟨h0, _⟩ | ⟨_, xs, hx, hst⟩
    · rw [hall k] at h0; cases h0
    refine ⟨?_, hQ listed b W w xs hall h hx hst⟩
    rw [List.eq_nil_iff_forall_not_mem]
    intro i hi
    have := (mem_ready.1 hi).1
    rw [hall i] at this
    cases this
  | fuel + 1, listed, b, W, w, hc, h, hph => by
    refine ⟨fun h0 => ?_, fun i hi => ?_⟩
    · have hall := ready_all hR h.lsize h0
      rcases hph with ⟨h0, _⟩ | ⟨_, xs, hx, hst⟩
      · rw [hall k] at h0; cases h0
      · exact hQ listed b W w xs hall h hx hst
    obtain ⟨hun, o, ho, hall⟩ := mem_ready.1 hi
    have ho2 : l[i]? = some o := by simpa using ho
    have hp : ∀ e ∈ o.after, Region.binds .any e = true → listed.getD e.on true = true := fun e he hb => by
      have h1 := hall e he hb
      rw [Array.getD_eq_getD_getElem?] at h1 ⊢
      cases hx : listed[e.on]? with
      | none => rfl
      | some y => rw [hx] at h1; simpa using h1
    obtain ⟨v, hv⟩ : ∃ v, vs[i]? = some v := ⟨_, List.getElem?_eq_getElem (by rw [hlen]; exact (List.getElem?_eq_some_iff.1 ho2).1)⟩
    obtain ⟨q1, q2, q3⟩ := hob i o v ho2 hv
    have hcnt := count_set hun
    have hsel : ∀ cs c, o.op ≠ .select cs c := fun cs c => hR.sel i o cs c ho
    have ag : ∀ d ∈ o.looksAt l.toArray, d ∉ fs → (lex l vs a0 i).tmps[d]? = b.tmps[d]? := fun d hd hf => h.agree hR hN hlen ho2 hun hp hd hf
    rcases hph with ⟨hk0, rfl⟩ | ⟨hk1, xs, hx, hst⟩
    · by_cases hik : i = k
      · subst hik
        obtain ⟨hdst, hstore⟩ := q2 rfl
        have got : ∀ s ∈ fs, ∃ x, b.tmps[s]? = some x ∧ FS s x w ∧ s < (lex l vs a0 i).tmps.size := fun s hs => by
          obtain ⟨j, oj, hji, hlj, hoj, hdj⟩ := hfs s hs
          obtain ⟨vj, hvj⟩ : ∃ v, vs[j]? = some v := ⟨_, List.getElem?_eq_getElem (by rw [hlen]; exact (List.getElem?_eq_some_iff.1 hoj).1)⟩
          obtain ⟨x, hbx, hfx⟩ := (h.ins j oj s vj hoj (reach_ready h ho2 hp f j (hreach j hji hlj)) hdj hvj).1 hs
          exact ⟨x, hbx, hfx, by rw [(lex_size l vs a0 i).1]; exact Nat.lt_of_lt_of_le (hR.small j oj s (by simpa using hoj) hdj) hN⟩
        have hxs : ∀ s ∈ fs, b.tmps[s]? = some (b.tmps.getD s undef) ∧ FS s (b.tmps.getD s undef) w := fun s hs => by
          obtain ⟨x, hbx, hfx, _⟩ := got s hs
          simpa [hbx] using hfx
        have ag2 : ∀ d ∈ o.looksAt l.toArray, (fill fs (fun s => b.tmps.getD s undef) (lex l vs a0 i)).tmps[d]? = b.tmps[d]? := fun d hd => by
          by_cases hdf : d ∈ fs
          · obtain ⟨x, hbx, _, hlt⟩ := got d hdf
            rw [fill_in fs _ _ d hdf hlt, hbx]
            simp [hbx]
          · rw [fill_out fs _ _ d hdf]
            exact ag d hd hdf
        obtain ⟨hwt, h3⟩ := hstore (fun s => b.tmps.getD s undef) w h.cls fun s hs => (hxs s hs).2
        rw [wanted_agree (ops := l.toArray) ag2] at hwt
        rw [exec_agree (ops := l.toArray) hsel ag2] at h3
        have hin : ∀ u, Inv l vs fs FS I a0 (listed.setIfInBounds i true) (b.put o.dst u) w := fun u => h.next hR hN hI hF ho2 hp (Below.refl _ _) fun d hd => by rw [hdst] at hd; cases hd
        have hput : ∀ u, b.put o.dst u = b := fun u => by rw [hdst]; rfl
        have kk : ∀ u w', St (fun s => b.tmps.getD s undef) w w' → wpAny P .any l.toArray Q' fuel (listed.setIfInBounds i true) (b.put o.dst u) w' := fun u w' hs =>
          any_of_FG hR hN hlen hI hF hob hk hreach hfs hQ fuel _ _ w w' (by omega) (hin u) (.inr ⟨getD_set_same _ _, _, by rw [hput u]; exact hxs, hs⟩)
        unfold Go.wpOp
        simp only [ho]
        rw [if_pos hwt]
        left
        unfold Oper.wp
        generalize (execOp b.eval o).run P w = r at h3
        cases r with
        | ok n w' =>
          cases n <;> simp only [stUpon] at h3 <;> simp only [Oper.upon]
          case value u => exact kk _ _ h3
          case skip => exact kk _ _ h3
        | halt x w' => simp only [stUpon] at h3
      · have hob' : Ob P l.toArray I fs FS o v (lex l vs a0 i) := by
          rcases Nat.lt_or_gt_of_ne hik with hlt | hgt
          · exact q1 hlt
          · exact (q3 (.inl hgt)).ob
        exact op_of_F hR hN hlen h ho2 hun hp hv hob' fun u w' hb hu =>
          any_of_FG hR hN hlen hI hF hob hk hreach hfs hQ fuel _ _ w' w' (by omega) (h.next hR hN hI hF ho2 hp hb hu) (.inl ⟨by rw [getD_set_far _ hik]; exact hk0, rfl⟩)
    · have hki : k < i ∨ late i = true := by
        rcases Nat.lt_trichotomy i k with hlt | rfl | hgt
        · cases hla : late i with
          | true => exact .inr rfl
          | false => rw [reach_listed h f k i hk1 (hreach i hlt hla)] at hun; cases hun
        · rw [hk1] at hun; cases hun
        · exact .inl hgt
      have h2 := (q3 hki).dst
      have kv : wpAny P .any l.toArray Q' fuel (listed.setIfInBounds i true) (b.put o.dst v) w :=
        any_of_FG hR hN hlen hI hF hob hk hreach hfs hQ fuel _ _ W w (by omega) (h.next hR hN hI hF ho2 hp (Below.refl _ _) fun d hd => ⟨fun hf => absurd hf (h2 d hd), fun _ => hv⟩)
          (.inr ⟨getD_set_up _ hk1, xs, fun s hs => ⟨by rw [put_other v (fun e => h2 s e hs)]; exact (hx s hs).1, (hx s hs).2⟩, hst⟩)
      unfold Go.wpOp
      simp only [ho]
      rcases q3 hki with ⟨h1, _, h3⟩ | ⟨s, hs, _, h1, _, huse⟩
      · have he := exec_agree (ops := l.toArray) hsel fun d hd => ag d hd (h1 d hd)
        have hw := wanted_agree (ops := l.toArray) fun d hd => ag d hd (h1 d hd)
        rcases h3 with ⟨hwt, hval⟩ | ⟨hwf, rfl⟩
        · rw [hw] at hwt
          rw [if_pos hwt]
          left
          have h4 := hval w
          rw [he] at h4
          unfold Oper.wp
          generalize (execOp b.eval o).run P w = r at h4
          cases r with
          | ok n w' =>
            cases n <;> simp only [purUpon] at h4 <;> simp only [Oper.upon]
            case value u => obtain ⟨rfl, rfl⟩ := h4; exact kv
            case skip => obtain ⟨rfl, rfl⟩ := h4; exact kv
          | halt x w' => simp only [purUpon] at h4
        · rw [hw] at hwf
          rw [hwf, if_neg (by simp)]
          exact kv
      · obtain ⟨hbx, hfx⟩ := hx s hs
        have hslt : s < (lex l vs a0 i).tmps.size := by
          rw [(lex_size l vs a0 i).1, ← h.size]
          exact (Array.getElem?_eq_some_iff.1 hbx).1
        have ag2 : ∀ d ∈ o.looksAt l.toArray, ((lex l vs a0 i).put (some s) (xs s)).tmps[d]? = b.tmps[d]? := fun d hd => by
          by_cases hsd : s = d
          · subst hsd
            rw [put_same (xs s) hslt, hbx]
          · rw [put_other (xs s) (by simpa using hsd)]
            exact ag d hd fun hf => hsd (h1 d hd hf).symm
        obtain ⟨hwt, hval⟩ := huse (xs s) W h.cls hfx
        have he := exec_agree (ops := l.toArray) hsel ag2
        rw [wanted_agree (ops := l.toArray) ag2] at hwt
        rw [if_pos hwt]
        left
        have h4 := hval w
        rw [he] at h4
        unfold Oper.wp
        generalize (execOp b.eval o).run P w = r at h4
        cases r with
        | ok n w' =>
          cases n <;> simp only [purUpon] at h4 <;> simp only [Oper.upon]
          case value u => obtain ⟨rfl, rfl⟩ := h4; exact kv
          case skip => obtain ⟨rfl, rfl⟩ := h4; exact kv
        | halt x w' => simp only [purUpon] at h4

theorem region_of_FG {id : Nat} {Q : Exit → Act → World → Prop} {a : Act} {w : World} {l : List Oper} {vs : List Value} {N k f : Nat} {late : Nat → Bool} {fs : List Tmp} {FS : Tmp → Value → World → Prop} {I : World → Prop} {St : (Tmp → Value) → World → World → Prop} (hm : P.follows .mixedOrders = true) (hR : RG .any l.toArray N)
    (hk' : k < l.length) (hreach : ∀ j, j < k → late j = false → reachB .any l.toArray f k j = true) (hfs' : ∀ s ∈ fs, ∃ (j : Nat) (o : Oper), j < k ∧ late j = false ∧ l[j]? = some o ∧ o.dst = some s) (hN : N ≤ a.tmps.size) (hI : Closed I) (hF : ∀ s x w w', FS s x w → Below w.heap.size w w' → FS s x w') (hC : I w.drew)
    (hlen : vs.length = l.length) (hob : ∀ (j : Nat) o v, l[j]? = some o → vs[j]? = some v → (j < k → Ob P l.toArray I fs FS o v (lex l vs a j)) ∧ (j = k → StOb P l.toArray I fs FS St o (lex l vs a j)) ∧ (k < j ∨ late j = true → LateOb P l.toArray I fs FS o v (lex l vs a j)))
    (hE : ∀ xs W w', I W → (∀ s ∈ fs, FS s (xs s) W) → St xs W w' → Q .normal (fill fs xs (lex l vs a l.length)) w') : (Code.region id l.toArray true).wp P Q a w := by
  refine wp_region_any hm ?_
  refine any_of_FG (l := l) (vs := vs) (fs := fs) (FS := FS) (I := I) (a0 := a) (St := St) (k := k) (f := f) (late := late) hR hN hlen hI hF hob hk' hreach hfs' ?_ _ _ _ w.drew _ ?_ ?_ ?_
  · intro listed b W w' xs hall hinv hx hst
    have hb : b = fill fs xs (lex l vs a l.length) := by
      have ht : b.tmps = (fill fs xs (lex l vs a l.length)).tmps := by
        apply Array.ext_getElem?
        intro d
        by_cases hd : d ∈ fs
        · have hlt : d < (lex l vs a l.length).tmps.size := by
            rw [(lex_size l vs a l.length).1, ← hinv.size]
            exact (Array.getElem?_eq_some_iff.1 (hx d hd).1).1
          rw [fill_in fs _ _ d hd hlt, (hx d hd).1]
        · rw [fill_out fs _ _ d hd]
          by_cases hwr : ∃ (j : Nat) (oj : Oper), l[j]? = some oj ∧ oj.dst = some d
          · obtain ⟨j, oj, hj, hdj⟩ := hwr
            obtain ⟨v, hv⟩ : ∃ v, vs[j]? = some v := ⟨_, List.getElem?_eq_getElem (by rw [hlen]; exact (List.getElem?_eq_some_iff.1 hj).1)⟩
            have hj' : l.toArray[j]? = some oj := by simpa using hj
            rw [(hinv.ins j oj d v hj (hall j) hdj hv).2 hd]
            exact (lex_in l vs a l.length j oj d v hj (List.getElem?_eq_some_iff.1 hj).1 hv hdj (Nat.lt_of_lt_of_le (hR.small _ _ _ hj' hdj) hN) fun i oi hi _ hne => hR.once i j oi oj d (by simpa using hi) hj' hdj hne).symm
          · rw [lex_out l vs a l.length d fun i oi hi _ hdi => hwr ⟨i, oi, hi, hdi⟩]
            exact hinv.out d fun i oi hi _ hdi => hwr ⟨i, oi, hi, hdi⟩
      have hd : b.defers = (fill fs xs (lex l vs a l.length)).defers := by
        rw [(fill_size ..).2, (lex_size ..).2]
        exact hinv.defers
      cases b
      simp only at ht hd
      rw [Act.mk.injEq]
      exact ⟨ht, hd⟩
    rw [hb]
    exact hE xs W w' hinv.cls (fun s hs => (hx s hs).2) hst
  · simp
  · refine ⟨hC, rfl, rfl, fun _ _ => rfl, fun j o d v hj hlj => ?_, fun j o hj hlj => ?_, by simp⟩
    all_goals
      have hlt := (List.getElem?_eq_some_iff.1 hj).1
      rw [Array.getD_eq_getD_getElem?] at hlj
      simp [hlt] at hlj
  · refine .inl ⟨?_, rfl⟩
    rw [Array.getD_eq_getD_getElem?]
    simp [hk']

/-- the walk behind the store -/
def wpFGn (P : Program) (ops : Array Oper) (I : World → Prop) (fs : List Tmp) (FS : Tmp → Value → World → Prop) (E : Act → Prop) : List Oper → Act → Prop
  | [], a => E a
  | o :: r, a => ∃ v, LateOb P ops I fs FS o v a ∧ wpFGn P ops I fs FS E r (a.put o.dst v)
theorem wpFGn_vals {ops : Array Oper} {E : Act → Prop} : ∀ (l : List Oper) (a : Act), wpFGn P ops I fs FS E l a → ∃ vs : List Value, vs.length = l.length ∧
    (∀ (j : Nat) o v, l[j]? = some o → vs[j]? = some v → LateOb P ops I fs FS o v (lex l vs a j)) ∧ E (lex l vs a l.length)
  | [], a, h => ⟨[], rfl, by simp, h⟩
  | o :: r, a, ⟨v, hob, hr⟩ => by
    obtain ⟨vs, h1, h2, h3⟩ := wpFGn_vals r _ hr
    refine ⟨v :: vs, by simp [h1], fun j o' v' ho hv => ?_, h3⟩
    cases j with
    | zero =>
      simp only [List.getElem?_cons_zero, Option.some.injEq] at ho hv
      subst ho hv
      exact hob
    | succ j =>
      simp only [List.getElem?_cons_succ] at ho hv
      exact h2 j o' v' ho hv
/-- the walk in the text's order: operations ahead of the store (true: it may come behind it), the store, the rest -/
def wpFG (P : Program) (ops : Array Oper) (I : World → Prop) (fs : List Tmp) (FS : Tmp → Value → World → Prop) (St : (Tmp → Value) → World → World → Prop) (E : Act → Prop) : List Bool → List Oper → Act → Prop
  | _, [], a => E a
  | [], o :: r, a => StOb P ops I fs FS St o a ∧ wpFGn P ops I fs FS E r a
  | false :: m, o :: r, a => ∃ v, Ob P ops I fs FS o v a ∧ wpFG P ops I fs FS St E m r (a.put o.dst v)
  | true :: m, o :: r, a => ∃ v, LateOb P ops I fs FS o v a ∧ wpFG P ops I fs FS St E m r (a.put o.dst v)
theorem wpFG_vals {ops : Array Oper} {St : (Tmp → Value) → World → World → Prop} {E : Act → Prop} : ∀ (ms : List Bool) (l : List Oper) (a : Act), wpFG P ops I fs FS St E ms l a → ∃ vs : List Value, vs.length = l.length ∧
    (∀ (j : Nat) o v, l[j]? = some o → vs[j]? = some v → (j < ms.length → Ob P ops I fs FS o v (lex l vs a j)) ∧ (j = ms.length → StOb P ops I fs FS St o (lex l vs a j)) ∧ (ms.length < j ∨ ms.getD j false = true → LateOb P ops I fs FS o v (lex l vs a j))) ∧ E (lex l vs a l.length)
  | _, [], a, h => ⟨[], rfl, by simp, by cases ‹List Bool› with | nil => exact h | cons b m => cases b <;> exact h⟩
  | [], o :: r, a, ⟨hob, hr⟩ => by
    obtain ⟨vs, h1, h2, h3⟩ := wpFGn_vals r _ hr
    have hput : a.put o.dst undef = a := by rw [hob.1]; rfl
    refine ⟨undef :: vs, by simp [h1], fun j o' v' ho hv => ?_, ?_⟩
    · cases j with
      | zero =>
        simp only [List.getElem?_cons_zero, Option.some.injEq] at ho hv
        subst ho hv
        exact ⟨fun h => absurd h (Nat.not_lt_zero _), fun _ => hob, fun h => h.elim (fun h => absurd h (Nat.not_lt_zero _)) (fun h => by simp at h)⟩
      | succ j =>
        simp only [List.getElem?_cons_succ] at ho hv
        refine ⟨fun h => absurd h (Nat.not_lt_zero _), fun h => absurd h (Nat.succ_ne_zero j), fun _ => ?_⟩
        show LateOb P ops I fs FS o' v' (lex r vs (a.put o.dst undef) j)
        rw [hput]
        exact h2 j o' v' ho hv
    · show E (lex r vs (a.put o.dst undef) r.length)
      rw [hput]
      exact h3
  | false :: m, o :: r, a, ⟨v, hob, hr⟩ => by
    obtain ⟨vs, h1, h2, h3⟩ := wpFG_vals m r _ hr
    refine ⟨v :: vs, by simp [h1], fun j o' v' ho hv => ?_, h3⟩
    cases j with
    | zero =>
      simp only [List.getElem?_cons_zero, Option.some.injEq] at ho hv
      subst ho hv
      exact ⟨fun _ => hob, fun h => by simp at h, fun h => by simp at h⟩
    | succ j =>
      simp only [List.getElem?_cons_succ] at ho hv
      obtain ⟨q1, q2, q3⟩ := h2 j o' v' ho hv
      exact ⟨fun h => q1 (by simp at h; omega), fun h => q2 (by simp at h; omega), fun h => q3 (by simp at h; exact h.imp (fun h => by omega) (fun h => by simpa using h))⟩
  | true :: m, o :: r, a, ⟨v, hob, hr⟩ => by
    obtain ⟨vs, h1, h2, h3⟩ := wpFG_vals m r _ hr
    refine ⟨v :: vs, by simp [h1], fun j o' v' ho hv => ?_, h3⟩
    cases j with
    | zero =>
      simp only [List.getElem?_cons_zero, Option.some.injEq] at ho hv
      subst ho hv
      exact ⟨fun _ => hob.ob, fun h => by simp at h, fun _ => hob⟩
    | succ j =>
      simp only [List.getElem?_cons_succ] at ho hv
      obtain ⟨q1, q2, q3⟩ := h2 j o' v' ho hv
      exact ⟨fun h => q1 (by simp at h; omega), fun h => q2 (by simp at h; omega), fun h => q3 (by simp at h; exact h.imp (fun h => by omega) (fun h => by simpa using h))⟩
/-- ONE WALK IN THE TEXT's ORDER SERVES EVERY ORDER, the store behind as many as ms has -/
theorem wp_region_FG {id : Nat} {Q : Exit → Act → World → Prop} {a : Act} {w : World} {l : List Oper} (N f : Nat) (ms : List Bool) (fs : List Tmp) (FS : Tmp → Value → World → Prop) (I : World → Prop) (St : (Tmp → Value) → World → World → Prop) (hm : P.follows .mixedOrders = true) (hB : rgB .any l.toArray N = true)
    (hk : decide (ms.length < l.length) = true) (hreach : ((List.range ms.length).all fun j => ms.getD j false || reachB .any l.toArray f ms.length j) = true) (hfs : (fs.all fun s => (List.range ms.length).any fun j => !ms.getD j false && ((l[j]?).bind (·.dst) == some s)) = true) (hN : N ≤ a.tmps.size) (hI : Closed I) (hF : ∀ s x w w', FS s x w → Below w.heap.size w w' → FS s x w') (hC : I w.drew)
    (h : wpFG P l.toArray I fs FS St (fun a' => ∀ xs W w', I W → (∀ s ∈ fs, FS s (xs s) W) → St xs W w' → Q .normal (fill fs xs a') w') ms l a) : (Code.region id l.toArray true).wp P Q a w := by
  have hR := rgB_spec hB
  have hk' : ms.length < l.length := by simpa using hk
  obtain ⟨vs, hlen, hob, hE⟩ := wpFG_vals ms l a h
  have hfs' : ∀ s ∈ fs, ∃ (j : Nat) (o : Oper), j < ms.length ∧ ms.getD j false = false ∧ l[j]? = some o ∧ o.dst = some s := fun s hs => by
    rw [List.all_eq_true] at hfs
    have h1 := hfs s hs
    rw [List.any_eq_true] at h1
    obtain ⟨j, hj, hd⟩ := h1
    rw [List.mem_range] at hj
    rw [Bool.and_eq_true] at hd
    obtain ⟨o, ho⟩ : ∃ o, l[j]? = some o := ⟨_, List.getElem?_eq_getElem (by omega)⟩
    rw [ho] at hd
    exact ⟨j, o, hj, by simpa using hd.1, ho, by simpa using hd.2⟩
  exact region_of_FG (late := fun j => ms.getD j false) hm hR hk' (fun j hj hl => by
    rw [List.all_eq_true] at hreach
    have h1 := hreach j (List.mem_range.2 hj)
    rw [hl, Bool.false_or] at h1
    exact h1) hfs' hN hI hF hC hlen hob hE

/-! ### its steps -/
section
variable {l : List Oper} {St : (Tmp → Value) → World → World → Prop} {E : Act → Prop} {o : Oper} {rest : List Oper} {a : Act} {ms : List Bool}
theorem wpFG_step (h : wpF P l.toArray I fs FS (fun a' => wpFG P l.toArray I fs FS St E ms rest a') [o] a) : wpFG P l.toArray I fs FS St E (false :: ms) (o :: rest) a := by
  obtain ⟨v, hob, hr⟩ := h
  exact ⟨v, hob, hr⟩
theorem useOb_of (s : Tmp) (j : Nat) (v : Value) (hs : s ∈ fs) (hj : (l[j]?).bind (·.dst) = some s) (hje : (o.after.any fun e => Region.binds .any e && e.on == j) = true)
    (hn : ((o.looksAt l.toArray).all fun d => !fs.contains d || d == s) = true) (hdst : (match o.dst with | some d => !fs.contains d | none => true) = true) (hw : ∀ x, Region.wanted o (yielded l.toArray (a.put (some s) x).tmps) = true)
    (hrun : ∀ x W, FS s x W → ∀ w, (execOp (a.put (some s) x).eval o).run P w = .ok (.value v) w) : UseOb P l.toArray I fs FS o v a := by
  refine ⟨s, hs, ⟨j, by simpa using hj, hje⟩, fun d hd hf => ?_, fun d hd => ?_, fun x W _ hx => ⟨hw x, fun w => ?_⟩⟩
  · have h1 := (List.all_eq_true.1 hn) d hd
    rw [Bool.or_eq_true] at h1
    rcases h1 with h1 | h1
    · rw [List.contains_iff_mem.2 hf] at h1; cases h1
    · simpa using h1
  · rw [hd] at hdst
    intro hf
    simp only [List.contains_iff_mem.2 hf] at hdst
    cases hdst
  · rw [hrun x W hx w]
    exact ⟨rfl, rfl⟩
/-- an operation ahead of the store that may come behind it, of one source's value -/
theorem wpFG_use (s : Tmp) (j : Nat) (v : Value) (hs : s ∈ fs) (hj : (l[j]?).bind (·.dst) = some s) (hje : (o.after.any fun e => Region.binds .any e && e.on == j) = true)
    (hn : ((o.looksAt l.toArray).all fun d => !fs.contains d || d == s) = true) (hdst : (match o.dst with | some d => !fs.contains d | none => true) = true) (hw : ∀ x, Region.wanted o (yielded l.toArray (a.put (some s) x).tmps) = true)
    (hrun : ∀ x W, FS s x W → ∀ w, (execOp (a.put (some s) x).eval o).run P w = .ok (.value v) w) (h : wpFG P l.toArray I fs FS St E ms rest (a.put o.dst v)) : wpFG P l.toArray I fs FS St E (true :: ms) (o :: rest) a :=
  ⟨v, .inr (useOb_of s j v hs hj hje hn hdst hw hrun), h⟩
theorem wpFG_storeX {t : TypeId} {x y : Operand} (ho : o.op = .store t x y) (hd : o.dst = none) (hg : o.guard = none)
    (hrun : ∀ xs w, I w → (∀ s ∈ fs, FS s (xs s) w) → ∃ w', (Instr.storeAt t ((fill fs xs a).eval x) ((fill fs xs a).eval y)).run P w = .ok () w' ∧ St xs w w') (h : wpFGn P l.toArray I fs FS E rest a) : wpFG P l.toArray I fs FS St E [] (o :: rest) a := by
  refine ⟨⟨hd, fun xs w hI hs => ⟨by simp [Region.wanted, hg], ?_⟩⟩, h⟩
  obtain ⟨w', hr, hst⟩ := hrun xs w hI hs
  unfold execOp
  simp only [ho]
  rw [Sem.run_bind, hr]
  exact hst
/-- behind the store -/
theorem wpFGn_pure (h : wpFS P l.toArray I fs FS (fun _ _ _ => True) (fun a' => wpFGn P l.toArray I fs FS E rest a') none [o] a) : wpFGn P l.toArray I fs FS E (o :: rest) a := by
  obtain ⟨v, hob, hr⟩ := h
  exact ⟨v, .inl hob, hr⟩
end
end
end Go.Proofs.Ytloncplpjdekoaa

namespace Go.Proofs.Ytloncplpjdekoaa
section
variable {P : Program} {ops : Array Oper} {md : Region.Mode}

/-- 0: it looks at no memory and enters no function; 1: a load; 2: a store; 3: all others -/
def kind3 (o : Oper) : Nat :=
  if pureOp o then 0 else match o.op with
    | .load _ _ => 1
    | .store _ _ _ => 2
    | _ => 3
theorem kind3_pure {o : Oper} (h : kind3 o = 0) : kindOf o = 0 := by
  unfold kind3 at h
  unfold kindOf
  split at h
  · rename_i hp; rw [if_pos hp]
  · split at h <;> simp at h
theorem kind3_load {o : Oper} (h : kind3 o = 1) : ∃ t x, o.op = .load t x := by
  unfold kind3 at h
  split at h
  · simp at h
  · split at h
    · exact ⟨_, _, by assumption⟩
    · simp at h
    · simp at h
theorem load_no_enter {o : Oper} {t : TypeId} {x : Operand} (ho : o.op = .load t x) (ρ : Operand → Value) (w w' : World) (f : FuncId) (args : Array Value) : (execOp ρ o).run P w ≠ .ok (.enter f args) w' := by
  unfold execOp
  simp only [ho]
  exact run_value _ _ _ _ _
theorem yields_load {o : Oper} {v : Value} {a : Act} {C D : World → Prop} (hk : kind3 o = 1) (h : YieldsIn P ops C o v a) (hD : ∀ w, D w → C w) : YieldsIn P ops D o v a := by
  obtain ⟨t, x, ho⟩ := kind3_load hk
  rcases h with ⟨hw, h⟩ | h
  · refine .inl ⟨hw, fun w hwD => ?_⟩
    have h1 := h w (hD w hwD)
    have h2 := load_no_enter (P := P) ho a.eval w
    unfold Oper.quietAt at h1 ⊢
    generalize (execOp a.eval o).run P w = r at h1 h2
    cases r with
    | ok n w' =>
      cases n with
      | enter f args => exact absurd rfl (h2 w' f args)
      | _ => exact h1
    | halt x w' => exact h1
  · exact .inr h

def famUpon (P : Program) (V : Value → Prop) (C' : Value → World → Prop) : Result Next → Prop
  | .ok (.value u) w' => V u ∧ C' u w'
  | .ok (.enter f args) w' => Calls P f args w' fun e w'' => ∃ v, e = .returned v ∧ V v ∧ C' v w''
  | _ => False
/-- one operation, in a class of worlds -/
def Step3 (P : Program) (ops : Array Oper) (o : Oper) (a : Act) (C : World → Prop) (K : (World → Prop) → Act → Prop) : Prop :=
  (kind3 o = 0 ∧ ∃ v, YieldsIn P ops (fun _ => True) o v a ∧ K C (a.put o.dst v)) ∨
  (kind3 o = 1 ∧ ∃ v, YieldsIn P ops C o v a ∧ K C (a.put o.dst v)) ∨
  (kind3 o = 2 ∧ ∃ v C', StepsIn P ops C C' o v a ∧ K C' (a.put o.dst v)) ∨
  (kind3 o = 3 ∧ ((Region.wanted o (yielded ops a.tmps) = false ∧ K C (a.put o.dst undef)) ∨ (Region.wanted o (yielded ops a.tmps) = true ∧ ∃ (V : Value → Prop) (C' : Value → World → Prop), (∀ v w, C' v w → C w) ∧ (∀ w, C w → famUpon P V C' ((execOp a.eval o).run P w)) ∧ ∀ v, V v → K (C' v) (a.put o.dst v))))

def wpAny3 (P : Program) (md : Region.Mode) (ops : Array Oper) (Q : (World → Prop) → Act → Prop) : Nat → Array Bool → (World → Prop) → Act → Prop
  | 0, listed, C, a => Region.ready md ops listed = [] ∧ Q C a
  | fuel + 1, listed, C, a =>
    (Region.ready md ops listed = [] → Q C a) ∧
    ∀ i ∈ Region.ready md ops listed, ∀ o, ops[i]? = some o → Step3 P ops o a C (wpAny3 P md ops Q fuel (listed.setIfInBounds i true))
theorem Step3.wpOp {C : World → Prop} {i : Nat} {o : Oper} {a : Act} {K : (World → Prop) → Act → Prop} {K' : Act → World → Prop} {Q' : Exit → Act → World → Prop} {w : World} (hi : ops[i]? = some o) (h : Step3 P ops o a C K) (hC : C w) (hK : ∀ (C' : World → Prop) a' w', C' w' → K C' a' → K' a' w') : wpOp P ops Q' i K' a w := by
  rcases h with ⟨hk, v, hy, hn⟩ | ⟨hk, v, hy, hn⟩ | ⟨hk, v, C', hy, hn⟩ | ⟨hk, h⟩
  · exact OpR.wpOp (C := C) (C' := C) hi (.inl ⟨kind3_pure hk, rfl, hy⟩) hC fun w' hw' => hK C _ w' hw' hn
  · have hk1 : kindOf o = 1 := by
      obtain ⟨t, x, ho⟩ := kind3_load hk
      simp [kindOf, pureOp, ho]
    exact OpR.wpOp (C := C) (C' := C) hi (.inr (.inl ⟨hk1, rfl, hy⟩)) hC fun w' hw' => hK C _ w' hw' hn
  · have hk2 : kindOf o = 2 := by
      unfold kind3 at hk
      unfold kindOf
      split at hk
      · simp at hk
      · rename_i hp
        rw [if_neg hp]
        split at hk
        · simp at hk
        · rename_i heq; simp [heq]
        · simp at hk
    exact OpR.wpOp (C := C) (C' := C') hi (.inr (.inr ⟨hk2, hy⟩)) hC fun w' hw' => hK C' _ w' hw' hn
  · unfold Go.wpOp
    simp only [hi]
    rcases h with ⟨hw, hn⟩ | ⟨hw, V, C', _, hv, hn⟩
    · simp only [hw, Bool.false_eq_true, if_false]
      exact hK C _ w hC hn
    · simp only [hw, if_true]
      left
      have h1 := hv w hC
      unfold Oper.wp
      generalize (execOp a.eval o).run P w = r at h1
      cases r with
      | ok n w' =>
        cases n <;> simp only [famUpon] at h1 <;> simp only [Oper.upon]
        case value u => exact hK (C' u) _ w' h1.2 (hn u h1.1)
        case enter f args =>
          refine h1.mono fun e w'' ⟨v, he, hV, hc⟩ => ?_
          subst he
          exact hK (C' v) _ w'' hc (hn v hV)
      | halt x w' => simp only [famUpon] at h1
theorem wpAny_of_3 {Q : (World → Prop) → Act → Prop} {Q' : Exit → Act → World → Prop} (hQ : ∀ (C : World → Prop) a w, C w → Q C a → Q' .normal a w) : ∀ (fuel : Nat) (listed : Array Bool) (C : World → Prop) (a : Act) (w : World), C w →
    wpAny3 P md ops Q fuel listed C a → wpAny P md ops Q' fuel listed a w
  | 0, _, _, _, _, hw, h => ⟨h.1, hQ _ _ _ hw h.2⟩
  | fuel + 1, _, _, _, _, hw, h => ⟨fun h0 => hQ _ _ _ hw (h.1 h0), fun i hi => by
      obtain ⟨_, o, ho, _⟩ := mem_ready.1 hi
      exact (h.2 i hi o ho).wpOp ho hw fun C' a' w' hw' hn => wpAny_of_3 hQ fuel _ C' a' w' hw' hn⟩

/-- what waits for k, through others too -/
def blocked (md : Region.Mode) (ops : Array Oper) (k : Nat) : Array Bool :=
  (List.range ops.size).foldl (fun u j => u.push (j == k || (match ops[j]? with | some oj => oj.after.any (fun e => Region.binds md e && u.getD e.on false) | none => false))) #[]
def free3 (md : Region.Mode) (ops : Array Oper) (listed : Array Bool) (k : Nat) : Bool :=
  let U := blocked md ops k
  U.getD k false && U.size == ops.size &&
  match ops[k]? with
  | none => false
  | some ok => (List.range ops.size).all fun j =>
    match ops[j]? with
    | some oj =>
      if U.getD j false then !listed.getD j false && (j == k || oj.after.any (fun e => Region.binds md e && U.getD e.on false))
      else listed.getD j true || (ok.apart ops oj && (kind3 ok == 0 || (kind3 ok == 1 && kind3 oj != 2)))
    | none => true
structure Free3 (md : Region.Mode) (ops : Array Oper) (listed : Array Bool) (i : Nat) (oi : Oper) (U : Array Bool) : Prop where
  size : U.size = ops.size
  own : U.getD i false = true
  wait : ∀ j oj, ops[j]? = some oj → U.getD j false = true → j ≠ i → ∃ e ∈ oj.after, Region.binds md e = true ∧ U.getD e.on false = true
  un : ∀ j, U.getD j false = true → listed.getD j false = false
  free : ∀ j oj, ops[j]? = some oj → U.getD j false = false → listed.getD j true = false → oi.apart ops oj = true ∧ (kind3 oi = 0 ∨ (kind3 oi = 1 ∧ kind3 oj ≠ 2))
theorem free3_spec {i : Nat} {oi : Oper} {listed : Array Bool} (hi : ops[i]? = some oi) (h : free3 md ops listed i = true) : Free3 md ops listed i oi (blocked md ops i) := by
  simp only [free3, hi, List.all_eq_true, List.mem_range, Bool.and_eq_true, beq_iff_eq] at h
  obtain ⟨⟨hown, hsz⟩, h⟩ := h
  have at_ : ∀ j oj, ops[j]? = some oj → (if (blocked md ops i).getD j false = true then (!listed.getD j false && (j == i || oj.after.any (fun e => Region.binds md e && (blocked md ops i).getD e.on false))) = true
      else (listed.getD j true || (oi.apart ops oj && (kind3 oi == 0 || (kind3 oi == 1 && kind3 oj != 2)))) = true) := fun j oj hj => by
    have h1 := h j (Array.getElem?_eq_some_iff.1 hj).1
    simp only [hj] at h1
    split at h1 <;> rename_i hu
    · rw [if_pos hu]; exact h1
    · rw [if_neg hu]; exact h1
  refine ⟨hsz, hown, fun j oj hj hu hne => ?_, fun j hu => ?_, fun j oj hj hu hun => ?_⟩
  · have h1 := at_ j oj hj
    rw [if_pos hu] at h1
    simp only [Bool.and_eq_true, Bool.or_eq_true, beq_iff_eq, hne, false_or] at h1
    obtain ⟨e, he, hb⟩ := Array.any_eq_true'.1 h1.2
    simp only [Bool.and_eq_true] at hb
    exact ⟨e, he, hb.1, hb.2⟩
  · have hlt : j < ops.size := by
      rw [← hsz]
      rcases Nat.lt_or_ge j (blocked md ops i).size with h' | h'
      · exact h'
      · simp [Array.getElem?_eq_none h'] at hu
    have h1 := at_ j _ (Array.getElem?_eq_getElem hlt)
    rw [if_pos hu] at h1
    simp only [Bool.and_eq_true, Bool.not_eq_true'] at h1
    exact h1.1
  · have h1 := at_ j oj hj
    rw [if_neg (by rw [hu]; exact Bool.false_ne_true)] at h1
    simp only [hun, Bool.or_eq_true, Bool.false_eq_true, false_or, Bool.and_eq_true, beq_iff_eq, bne_iff_ne, ne_eq] at h1
    exact h1
theorem Free3.ready {i j : Nat} {oi oj : Oper} {listed U : Array Bool} (h : Free3 md ops listed i oi U) (hj : ops[j]? = some oj) (hji : j ≠ i) (hall : ∀ e ∈ oj.after, Region.binds md e = true → listed.getD e.on false = true) : U.getD j false = false := by
  cases hu : U.getD j false with
  | false => rfl
  | true =>
    obtain ⟨e, he, hb, hue⟩ := h.wait j oj hj hu hji
    have h1 := hall e he hb
    rw [h.un e.on hue] at h1
    cases h1
theorem Free3.set {i j : Nat} {oi : Oper} {listed U : Array Bool} (h : Free3 md ops listed i oi U) (hu : U.getD j false = false) : Free3 md ops (listed.setIfInBounds j true) i oi U := by
  refine ⟨h.size, h.own, h.wait, fun k hk => ?_, fun k ok hk hku hun => h.free k ok hk hku ?_⟩
  · have hne : j ≠ k := fun e => by subst e; rw [hu] at hk; cases hk
    rw [getD_set_ne false hne]; exact h.un k hk
  · by_cases hjk : j = k
    · subst hjk
      rcases Nat.lt_or_ge j listed.size with h' | h'
      · simp [h'] at hun
      · simp [Array.getElem?_eq_none (show (listed.setIfInBounds j true).size ≤ j by simpa using h')] at hun
    · rw [getD_set_ne true hjk] at hun; exact hun
/-- an operation apart: its step is the same whether another's value is in its slot or not -/
theorem Step3.put {oi oj : Oper} {v : Value} {a : Act} {C : World → Prop} {K1 K2 : (World → Prop) → Act → Prop} (hap : oi.apart ops oj = true) (hsj : ∀ cs b, oj.op ≠ .select cs b)
    (hK : ∀ (C' : World → Prop) u, (C' = C ∨ (kind3 oj = 3 ∧ ∀ w, C' w → C w) ∨ kind3 oj = 2) → K1 C' ((a.put oi.dst v).put oj.dst u) → K2 C' (a.put oj.dst u)) (h : Step3 P ops oj (a.put oi.dst v) C K1) : Step3 P ops oj a C K2 := by
  obtain ⟨p1, p2, p3⟩ := Oper.apart_spec hap
  have he := execOp_put oj hsj a oi.dst v p1
  have hw := wanted_put oj a oi.dst v p1
  rcases h with ⟨hk, u, hy, hn⟩ | ⟨hk, u, hy, hn⟩ | ⟨hk, u, C', hy, hn⟩ | ⟨hk, h⟩
  · exact .inl ⟨hk, u, hy.of_same he.symm hw.symm, hK C u (.inl rfl) hn⟩
  · exact .inr (.inl ⟨hk, u, hy.of_same he.symm hw.symm, hK C u (.inl rfl) hn⟩)
  · refine .inr (.inr (.inl ⟨hk, u, C', ?_, hK C' u (.inr (.inr hk)) hn⟩))
    unfold StepsIn at hy ⊢
    rwa [he, hw] at hy
  · refine .inr (.inr (.inr ⟨hk, ?_⟩))
    rcases h with ⟨hwf, hn⟩ | ⟨hwt, V, C', hsub, hv, hn⟩
    · exact .inl ⟨by rw [← hw]; exact hwf, hK C undef (.inl rfl) hn⟩
    · exact .inr ⟨by rw [← hw]; exact hwt, V, C', hsub, by rwa [he] at hv, fun u hu => hK (C' u) u (.inr (.inl ⟨hk, hsub u⟩)) (hn u hu)⟩
theorem wpAny3_first {Q : (World → Prop) → Act → Prop} {i : Nat} {oi : Oper} (hi : ops[i]? = some oi) (hsel : ∀ (j : Nat) (o : Oper) cs b, ops[j]? = some o → o.op ≠ .select cs b) :
    ∀ (fuel : Nat) (listed : Array Bool) (C : World → Prop) (a : Act) (U : Array Bool), Free3 md ops listed i oi U → i ∈ Region.ready md ops listed →
      Step3 P ops oi a C (wpAny3 P md ops Q fuel (listed.setIfInBounds i true)) → wpAny3 P md ops Q (fuel + 1) listed C a := by
  intro fuel
  induction fuel with
  | zero =>
    intro listed C a U hfree hr H
    refine ⟨fun h => (by rw [h] at hr; cases hr), fun j hj o ho => ?_⟩
    by_cases hji : j = i
    · subst hji
      have : o = oi := Option.some.inj (ho.symm.trans hi)
      subst this
      exact H
    · exfalso
      have hmono := ready_mono hj hji
      obtain ⟨hjun, oj', hoj', hall⟩ := mem_ready.1 hj
      have hju := hfree.ready hoj' hji hall
      obtain ⟨_, hkind⟩ := hfree.free j oj' hoj' hju hjun
      have nil : ∀ {C' : World → Prop} {a' : Act}, wpAny3 P md ops Q 0 (listed.setIfInBounds i true) C' a' → False := fun h => by
        rw [h.1] at hmono; cases hmono
      rcases H with ⟨_, _, _, hn⟩ | ⟨_, _, _, hn⟩ | ⟨hk, _⟩ | ⟨hk, _⟩
      · exact nil hn
      · exact nil hn
      · rcases hkind with h | ⟨h, _⟩ <;> rw [hk] at h <;> simp at h
      · rcases hkind with h | ⟨h, _⟩ <;> rw [hk] at h <;> simp at h
  | succ fuel ih =>
    intro listed C a U hfree hr H
    refine ⟨fun h => (by rw [h] at hr; cases hr), fun j hj oj hoj => ?_⟩
    by_cases hji : j = i
    · subst hji
      have : oj = oi := Option.some.inj (hoj.symm.trans hi)
      subst this
      exact H
    · obtain ⟨hjun, oj', hoj', hall⟩ := mem_ready.1 hj
      have : oj' = oj := Option.some.inj (hoj'.symm.trans hoj)
      subst this
      have hju := hfree.ready hoj' hji hall
      obtain ⟨hap, hkind⟩ := hfree.free j oj' hoj hju hjun
      obtain ⟨p1, p2, p3⟩ := Oper.apart_spec hap
      have hsi : ∀ cs b, oi.op ≠ .select cs b := fun cs b => hsel i oi cs b hi
      have hsj : ∀ cs b, oj'.op ≠ .select cs b := fun cs b => hsel j oj' cs b hoj
      have hfree' := hfree.set hju
      have hr' := ready_mono hr (Ne.symm hji)
      have next : ∀ v, (kind3 oi = 0 ∧ YieldsIn P ops (fun _ => True) oi v a ∨ kind3 oi = 1 ∧ YieldsIn P ops C oi v a) → wpAny3 P md ops Q (fuel + 1) (listed.setIfInBounds i true) C (a.put oi.dst v) → Step3 P ops oj' a C (wpAny3 P md ops Q (fuel + 1) (listed.setIfInBounds j true)) := by
        intro v hy hn
        refine Step3.put (v := v) hap hsj (fun C' u hC' h3 => ih _ C' _ U hfree' hr' ?_) (hn.2 j (ready_mono hj hji) oj' hoj)
        have h4 : wpAny3 P md ops Q fuel ((listed.setIfInBounds j true).setIfInBounds i true) C' ((a.put oj'.dst u).put oi.dst v) := by
          rw [Array.setIfInBounds_comm _ _ hji]
          rw [Act.put_comm a v u p2] at h3
          exact h3
        have hs1 := execOp_put oi hsi a oj'.dst u p3
        have hs2 := wanted_put oi a oj'.dst u p3
        rcases hy with ⟨hk, hy⟩ | ⟨hk, hy⟩
        · exact .inl ⟨hk, v, hy.of_same hs1 hs2, h4⟩
        · refine .inr (.inl ⟨hk, v, yields_load hk (hy.of_same hs1 hs2) ?_, h4⟩)
          rcases hC' with rfl | ⟨_, h⟩ | h
          · exact fun _ h => h
          · exact h
          · rcases hkind with h' | ⟨_, h'⟩
            · rw [hk] at h'; simp at h'
            · exact absurd h h'
      rcases H with ⟨hk, v, hy, hn⟩ | ⟨hk, v, hy, hn⟩ | ⟨hk, _⟩ | ⟨hk, _⟩
      · exact next v (.inl ⟨hk, hy⟩) hn
      · exact next v (.inr ⟨hk, hy⟩) hn
      · rcases hkind with h | ⟨h, _⟩ <;> rw [hk] at h <;> simp at h
      · rcases hkind with h | ⟨h, _⟩ <;> rw [hk] at h <;> simp at h

/-- may the operations be walked in this order? -/
def orderB (md : Region.Mode) (ops : Array Oper) : List Nat → Array Bool → Bool
  | [], listed => (Region.ready md ops listed).isEmpty
  | k :: r, listed => (Region.ready md ops listed).contains k && free3 md ops listed k && orderB md ops r (listed.setIfInBounds k true)
def order3 (md : Region.Mode) (ops : Array Oper) (ks : List Nat) : Bool := Region.noSelect ops && ks.length == ops.size && orderB md ops ks (Array.replicate ops.size false)
/-- the walk in that order -/
def wpO3 (P : Program) (ops : Array Oper) (Q : (World → Prop) → Act → Prop) : List Nat → (World → Prop) → Act → Prop
  | [], C, a => Q C a
  | k :: r, C, a => ∃ o, ops[k]? = some o ∧ Step3 P ops o a C (wpO3 P ops Q r)
theorem Step3.mono {o : Oper} {a : Act} {C : World → Prop} {K K' : (World → Prop) → Act → Prop} (h : Step3 P ops o a C K) (hK : ∀ C a, K C a → K' C a) : Step3 P ops o a C K' := by
  rcases h with ⟨hk, v, hy, hn⟩ | ⟨hk, v, hy, hn⟩ | ⟨hk, v, C', hy, hn⟩ | ⟨hk, h⟩
  · exact .inl ⟨hk, v, hy, hK _ _ hn⟩
  · exact .inr (.inl ⟨hk, v, hy, hK _ _ hn⟩)
  · exact .inr (.inr (.inl ⟨hk, v, C', hy, hK _ _ hn⟩))
  · refine .inr (.inr (.inr ⟨hk, ?_⟩))
    rcases h with ⟨hw, hn⟩ | ⟨hw, V, C', hs, hv, hn⟩
    · exact .inl ⟨hw, hK _ _ hn⟩
    · exact .inr ⟨hw, V, C', hs, hv, fun v hV => hK _ _ (hn v hV)⟩
theorem wpAny3_order {Q : (World → Prop) → Act → Prop} (hs : Region.noSelect ops = true) : ∀ (ks : List Nat) (listed : Array Bool) (C : World → Prop) (a : Act),
    orderB md ops ks listed = true → wpO3 P ops Q ks C a → wpAny3 P md ops Q ks.length listed C a
  | [], _, _, _, hB, h => ⟨by simpa [orderB] using hB, h⟩
  | k :: r, listed, C, a, hB, h => by
    obtain ⟨o, ho, h⟩ := h
    simp only [orderB, Bool.and_eq_true] at hB
    obtain ⟨⟨hr, hf⟩, hB'⟩ := hB
    exact wpAny3_first ho (Region.noSelect_spec hs) r.length listed C a _ (free3_spec ho hf) (by simpa using hr) (h.mono fun C' a' hn => wpAny3_order hs r _ C' a' hB' hn)
theorem wp_region_order {id : Nat} {Q : Exit → Act → World → Prop} {a : Act} {w : World} {l : List Oper} (ks : List Nat) {C : World → Prop} (hm : P.follows .mixedOrders = true) (hB : order3 .any l.toArray ks = true) (hC : C w.drew)
    (h : wpO3 P l.toArray (fun C a' => ∀ w', C w' → Q .normal a' w') ks C a) : (Code.region id l.toArray true).wp P Q a w := by
  simp only [order3, Bool.and_eq_true, beq_iff_eq] at hB
  refine wp_region_any hm (wpAny_of_3 (Q := fun C a' => ∀ w', C w' → Q .normal a' w') (fun C a w' hw' h => h w' hw') _ _ C _ _ hC ?_)
  have := wpAny3_order (md := .any) hB.1.1 ks (Array.replicate l.toArray.size false) C a hB.2 h
  rwa [hB.1.2] at this
/-! one operation of the walk -/
theorem yields_of_quiet {o : Oper} {C : World → Prop} {a : Act} {K : Act → Prop} (h : wpQuiet P ops C K [o] a) : ∃ v, YieldsIn P ops C o v a ∧ K (a.put o.dst v) := by
  unfold wpQuiet at h
  by_cases hw : Region.wanted o (yielded ops a.tmps) = true
  · simp only [hw, if_true] at h
    obtain ⟨v, h1, h2⟩ := h
    exact ⟨v, .inl ⟨hw, h1⟩, h2⟩
  · simp only [hw] at h
    exact ⟨undef, .inr ⟨by simpa using hw, rfl⟩, h⟩
theorem wpO3_pure {Q : (World → Prop) → Act → Prop} {o : Oper} {k : Nat} {r : List Nat} {C : World → Prop} {a : Act} (ho : ops[k]? = some o) (hk : kind3 o = 0) (h : wpQuiet P ops (fun _ => True) (fun a' => wpO3 P ops Q r C a') [o] a) : wpO3 P ops Q (k :: r) C a :=
  ⟨o, ho, .inl ⟨hk, yields_of_quiet h⟩⟩
theorem wpO3_load {Q : (World → Prop) → Act → Prop} {o : Oper} {k : Nat} {r : List Nat} {C : World → Prop} {a : Act} (ho : ops[k]? = some o) (hk : kind3 o = 1) (h : wpQuiet P ops C (fun a' => wpO3 P ops Q r C a') [o] a) : wpO3 P ops Q (k :: r) C a :=
  ⟨o, ho, .inr (.inl ⟨hk, yields_of_quiet h⟩)⟩
theorem wpO3_skip {Q : (World → Prop) → Act → Prop} {o : Oper} {k : Nat} {r : List Nat} {C : World → Prop} {a : Act} (ho : ops[k]? = some o) (hk : kind3 o = 3) (hw : Region.wanted o (yielded ops a.tmps) = false) (h : wpO3 P ops Q r C (a.put o.dst undef)) : wpO3 P ops Q (k :: r) C a :=
  ⟨o, ho, .inr (.inr (.inr ⟨hk, .inl ⟨hw, h⟩⟩))⟩
/-- a call: by its contract, in every world of the class -/
theorem wpO3_call {Q : (World → Prop) → Act → Prop} {o : Oper} {k : Nat} {r : List Nat} {C : World → Prop} {a : Act} (V : Value → Prop) (C' : Value → World → Prop) {f : FuncId} {args : Array Value} (ho : ops[k]? = some o) (hk : kind3 o = 3) (hw : Region.wanted o (yielded ops a.tmps) = true) (hsub : ∀ v w, C' v w → C w)
    (hrun : ∀ w, (execOp a.eval o).run P w = .ok (.enter f args) w) (hc : ∀ w, C w → Calls P f args w fun e w'' => ∃ v, e = .returned v ∧ V v ∧ C' v w'') (h : ∀ v, V v → wpO3 P ops Q r (C' v) (a.put o.dst v)) : wpO3 P ops Q (k :: r) C a :=
  ⟨o, ho, .inr (.inr (.inr ⟨hk, .inr ⟨hw, V, C', hsub, fun w hC => by rw [hrun w]; exact hc w hC, h⟩⟩))⟩
/-- a load, by what every world of the class holds there -/
theorem wpO3_load1 {Q : (World → Prop) → Act → Prop} {o : Oper} {k : Nat} {r : List Nat} {C : World → Prop} {a : Act} {t : TypeId} {x : Operand} {ad : Addr} (v : Value) (ho : ops[k]? = some o) (hop : o.op = .load t x) (hw : Region.wanted o (yielded ops a.tmps) = true) (hx : a.eval x = .pointer (some ad))
    (hrun : ∀ w, C w → (Instr.loadAt t (.pointer (some ad))).run P w = .ok v w) (h : wpO3 P ops Q r C (a.put o.dst v)) : wpO3 P ops Q (k :: r) C a := by
  refine ⟨o, ho, .inr (.inl ⟨by simp [kind3, pureOp, hop], v, .inl ⟨hw, fun w hC => ?_⟩, h⟩)⟩
  unfold Oper.quietAt execOp
  simp only [hop, hx]
  rw [Sem.run_bind, hrun w hC]
  exact ⟨rfl, rfl⟩
/-! the same, the region's operations as a list: so each operation comes written out -/
section
variable {l : List Oper} {Q : (World → Prop) → Act → Prop} {o : Oper} {k : Nat} {r : List Nat} {C : World → Prop} {a : Act}
theorem at_list (ho : l[k]? = some o) : l.toArray[k]? = some o := by simpa using ho
theorem wpO3_pureL (ho : l[k]? = some o) (hk : kind3 o = 0) (h : wpQuiet P l.toArray (fun _ => True) (fun a' => wpO3 P l.toArray Q r C a') [o] a) : wpO3 P l.toArray Q (k :: r) C a := wpO3_pure (at_list ho) hk h
theorem wpO3_skipL (ho : l[k]? = some o) (hk : kind3 o = 3) (hw : Region.wanted o (yielded l.toArray a.tmps) = false) (h : wpO3 P l.toArray Q r C (a.put o.dst undef)) : wpO3 P l.toArray Q (k :: r) C a := wpO3_skip (at_list ho) hk hw h
theorem wpO3_callL (V : Value → Prop) (C' : Value → World → Prop) {f : FuncId} {args : Array Value} (ho : l[k]? = some o) (hk : kind3 o = 3) (hw : Region.wanted o (yielded l.toArray a.tmps) = true) (hsub : ∀ v w, C' v w → C w)
    (hrun : ∀ w, (execOp a.eval o).run P w = .ok (.enter f args) w) (hc : ∀ w, C w → Calls P f args w fun e w'' => ∃ v, e = .returned v ∧ V v ∧ C' v w'') (h : ∀ v, V v → wpO3 P l.toArray Q r (C' v) (a.put o.dst v)) : wpO3 P l.toArray Q (k :: r) C a := wpO3_call V C' (at_list ho) hk hw hsub hrun hc h
theorem wpO3_loadL {t : TypeId} {x : Operand} {ad : Addr} (v : Value) (ho : l[k]? = some o) (hop : o.op = .load t x) (hw : Region.wanted o (yielded l.toArray a.tmps) = true) (hx : a.eval x = .pointer (some ad))
    (hrun : ∀ w, C w → (Instr.loadAt t (.pointer (some ad))).run P w = .ok v w) (h : wpO3 P l.toArray Q r C (a.put o.dst v)) : wpO3 P l.toArray Q (k :: r) C a := wpO3_load1 v (at_list ho) hop hw hx hrun h
end
end
end Go.Proofs.Ytloncplpjdekoaa
