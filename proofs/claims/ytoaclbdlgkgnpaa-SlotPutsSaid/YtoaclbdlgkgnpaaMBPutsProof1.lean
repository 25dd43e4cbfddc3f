/-
  A part of the texts of one proof, put together: SloR, FrV, SloQ, SloA, SloC, KpA, FrM, SloU, RhC, FrCt, OfF, Q12, Q14.
-/
import Derived.Maps.AppendAt
import Derived.Test.YtoaclbdlgkgnpaaRows
import Derived.WalkLawsBesides
import Derived.WalkMore
import Derived.Lib.Hide
import Derived.Lib.MinMax
import Derived.Deep.Slices
import Derived.Test.YtoaclbdlgkgnpaaMB3
namespace Go.Proofs.Ytoaclbdlgkgnpaa
open Go.RowKit
set_option maxRecDepth 100000

def Fr.ct (f : Fr) : Nat × List Int := (f.i.toNat, f.zs)
/-- a document's slot: its frames lie at A, their places are those of a count -/
structure RefAt (w : World) (c : Int) (A : Option Addr) (n cp : Nat) (fs : List Fr) : Prop where
  at' : FrsAt w w.heap.size A fs
  len : fs.length = n
  room : n ≤ cp
  few : ∀ f ∈ fs, 0 ≤ f.i ∧ f.i < c
  keys : Sl.Keys (fs.map Fr.ct)
  most : Sl.tot (fs.map Fr.ct) ≤ 192
  small : c ≤ 255
  row : ∀ g off, A = some ⟨g, off, none⟩ → ∃ cs, w.heap[g]? = some (.cells cs 45 (0, 0))
section
variable {w w' : World} {c : Int} {A : Option Addr} {n cp : Nat} {fs : List Fr}
theorem RefAt.below (h : RefAt w c A n cp fs) (hb : Below w.heap.size w w') : RefAt w' c A n cp fs := ⟨(h.at'.below hb).mono hb.size, h.len, h.room, h.few, h.keys, h.most, h.small, fun g off e => by
  obtain ⟨cs, h1⟩ := h.row g off e
  exact ⟨cs, (hb.block g (Array.getElem?_eq_some_iff.1 h1).1).trans h1⟩⟩
theorem Fr.At.offS {S : Nat → Prop} {f : Fr} (h : f.At w w.heap.size) (ho : Off S w w') (hS : ∀ g cs t fz, w.heap[g]? = some (.cells cs t fz) → S g → ∃ v k s i c n cp A, cs = frC v k s i c (.slice A n cp) ∧ t = 35) : f.At w' w'.heap.size := by
  refine ⟨h.s0, h.s1, h.room, h.few, h.byte, (h.nums.off ho fun hn g hg hs => ?_).mono ho.size⟩
  obtain ⟨z, hz⟩ : ∃ z, f.zs[0]? = some z := ⟨_, List.getElem?_eq_getElem (List.length_pos_iff.2 hn)⟩
  obtain ⟨g', off, e, hlt, hc⟩ := h.nums.open hz
  obtain ⟨_, _, e'⟩ := hg
  rw [e] at e'
  injection e' with e'
  injection e' with e'
  subst e'
  obtain ⟨o, ho'⟩ : ∃ o, w.heap[g']? = some o := ⟨_, Array.getElem?_eq_getElem hlt⟩
  cases o with
  | cells cs t fz =>
    obtain ⟨v, k, s, i, c, n, cp, A, rfl, _⟩ := hS g' cs t fz ho' hs
    simp only [World.cell?, ho'] at hc
    generalize off + 0 = q at hc
    rcases q with _ | _ | _ | _ | _ | _ | q <;> simp [frC] at hc
  | _ => simp [World.cell?, ho'] at hc
theorem RefAt.off {S : Nat → Prop} (h : RefAt w c A n cp fs) (ho : Off S w w') (hS : ∀ g cs t fz, w.heap[g]? = some (.cells cs t fz) → S g → ∃ v k s i c n cp A, cs = frC v k s i c (.slice A n cp) ∧ t = 35) : RefAt w' c A n cp fs := by
  have hr : ∀ g off cs, A = some ⟨g, off, none⟩ → w.heap[g]? = some (.cells cs 45 (0, 0)) → ¬ S g := fun g off cs _ hg hs => by
    obtain ⟨_, _, _, _, _, _, _, _, _, ht⟩ := hS g cs _ _ hg hs
    exact absurd ht (by decide)
  refine ⟨⟨fun f hf => (h.at'.1 f hf).offS ho hS, fun j f hf => ?_⟩, h.len, h.room, h.few, h.keys, h.most, h.small, fun g off e => ?_⟩
  · obtain ⟨b, off, e, hb, hc⟩ := h.at'.2 j f hf
    obtain ⟨cs, h1⟩ := h.row b off e
    exact ⟨b, off, e, Nat.lt_of_lt_of_le hb ho.size, fun q u hq => ho.cell (hc q u hq) (hr b off cs e h1)⟩
  · obtain ⟨cs, h1⟩ := h.row g off e
    exact ⟨cs, (ho.block g (Array.getElem?_eq_some_iff.1 h1).1 (hr g off cs e h1)).trans h1⟩
theorem RefAt.few_len (h : RefAt w c A n cp fs) : n ≤ 255 := by
  have := nodup_few 255 ((fs.map Fr.ct).map Prod.fst) h.keys fun x hx => by
    obtain ⟨p, hp, rfl⟩ := List.mem_map.1 hx
    obtain ⟨f, hf, rfl⟩ := List.mem_map.1 hp
    have := h.few f hf
    have := h.small
    show f.i.toNat < 255
    omega
  simpa [h.len] using this
theorem RefAt.mem (h : RefAt w c A n cp fs) {f : Fr} (hf : f ∈ fs) : Sl.at' (fs.map Fr.ct) f.i.toNat = f.zs := Sl.at_mem h.keys (List.mem_map.2 ⟨f, hf, rfl⟩)
end
/-- what Has answers -/
def HasR (w : World) (fs : List Fr) (p : Nat) (e : Ending) (w' : World) : Prop :=
  Below w.heap.size w w' ∧ ((Sl.has (fs.map Fr.ct) p = false ∧ e = .returned (.int .i64 (-1))) ∨ (Sl.has (fs.map Fr.ct) p = true ∧ ∃ (j : Nat) (f : Fr), fs[j]? = some f ∧ f.i = (p : Int) ∧ e = .returned (.int .i64 (j : Int))))
set_option maxHeartbeats 4000000 in
theorem rhas_any {w : World} (v k s i : Int) {c : Int} {A : Option Addr} {n cp : Nat} {fs : List Fr} (h : RefAt w c A n cp fs) (p : Nat) :
    Calls Try.prog 27 #[frV v k s i c (.slice A n cp), .int .i64 (p : Int)] w (HasR w fs p) := by
  have hnl := h.few_len
  have hnc := h.room
  have hlen := h.len
  obtain ⟨w1, hw1⟩ : ∃ w1, w.alloc (.cells (frC v k s i c (.slice A n cp)) 35) = w1 := ⟨_, rfl⟩
  have hb1 : Below w.heap.size w w1 := by rw [← hw1]; exact (Below.refl _ w).alloc (Nat.le_refl _) _
  have hbx : w1.heap[w.heap.size]? = some (.cells (frC v k s i c (.slice A n cp)) 35 (0, 0)) := by rw [← hw1]; exact World.alloc_heap_new _ _
  obtain ⟨_, _, _, _, _, d5⟩ := fr_block hbx
  have hat := h.at'.below hb1
  have HW1 : Hid (w.alloc (.cells #[.int .i64 v, .int .i64 k, .int .u32 s, .int .i64 i, .int .i64 c, .slice A n cp] 35) = w1) := Lib.hid hw1
  have hpos : ∀ f ∈ fs, 0 ≤ f.i := fun f hf => (h.few f hf).1
  have HG1 : Hid ((∀ (j : Nat) (f : Fr), fs[j]? = some f → f.i ≠ (p : Int)) → HasR w fs p (.returned (.int .i64 (-1))) w1) := Lib.hid fun hno => by
    refine ⟨hb1, .inl ⟨?_, rfl⟩⟩
    cases hh : Sl.has (fs.map Fr.ct) p with
    | false => rfl
    | true =>
      obtain ⟨q, hq, e⟩ := List.mem_map.1 (Sl.has_iff.1 hh)
      obtain ⟨f, hf, rfl⟩ := List.mem_map.1 hq
      obtain ⟨j, hj⟩ := List.mem_iff_getElem?.1 hf
      have h1 : f.i.toNat = p := e
      have := hpos f hf
      exact absurd (by omega) (hno j f hj)
  have HG2 : Hid (∀ (j : Nat) (f : Fr), fs[j]? = some f → f.i = (p : Int) → HasR w fs p (.returned (.int .i64 (j : Int))) w1) := Lib.hid fun j f hj hi => by
    refine ⟨hb1, .inr ⟨?_, j, f, hj, hi, rfl⟩⟩
    refine Sl.has_mem (x := f.zs) (List.mem_map.2 ⟨f, List.mem_of_getElem? hj, ?_⟩)
    show (f.i.toNat, f.zs) = _
    rw [hi]
    rfl
  have HAT := Lib.hid hat
  have HLEN := Lib.hid hlen
  clear h hw1 hb1 hbx hat hpos hlen
  generalize HasR w fs p = G at *
  unfold frV frC
  go_enter Try.func27, Try.ntmps27
  go_wp2_with fail
  rw [HW1.out]
  go_loopw [5] (fun x wr => ∃ j : Nat, j ≤ n ∧ x = .int .i64 (j : Int) ∧ Hid (∀ (i : Nat) (f : Fr), i < j → fs[i]? = some f → f.i ≠ (p : Int)) ∧ wr = w1) (fun x _ => n - (intOf x).toNat)
  case atStart => exact ⟨0, by omega, rfl, fun i f hi => by omega, rfl⟩
  case round =>
    obtain ⟨j, hj, rfl, HP, rfl⟩ := hrel
    by_cases hjn : j < n
    · have hjn' : (j : Int) < (n : Int) := by omega
      obtain ⟨f, hf⟩ : ∃ f, fs[j]? = some f := ⟨_, List.getElem?_eq_getElem (by rw [HLEN.out]; exact hjn)⟩
      obtain ⟨g, off, rfl, hg, a0, a1, a2, a3, a4, a5⟩ := HAT.out.six hf
      have HF := Lib.hid hf
      clear a0 a1 a2 a4 a5 hf
      by_cases he : f.i = (p : Int)
      · have HFIN := Lib.hid (HG2.out j f HF.out he)
        go_wp2
        exact HFIN.out
      · have HNE := Lib.hid he
        go_wp2
        go_roundw
        case rel => exact ⟨j + 1, by omega, by go_num, fun i' f' hi' hf' => by
            rcases Nat.lt_or_ge i' j with h1 | h1
            · exact HP.out i' f' h1 hf'
            · obtain rfl : i' = j := by omega
              rw [HF.out] at hf'
              injection hf' with hf'
              subst hf'
              exact HNE.out, trivial⟩
        case measure => simp [intOf]; omega
    · have hjn' : j = n := by omega
      subst hjn'
      have HFIN := Lib.hid (HG1.out fun i f hi => HP.out i f (by rw [← HLEN.out]; exact (List.getElem?_eq_some_iff.1 hi).1) hi)
      go_wp2
      exact HFIN.out
end Go.Proofs.Ytoaclbdlgkgnpaa

namespace Go.Proofs.Ytoaclbdlgkgnpaa
open Go.RowKit Go.Shelf
set_option maxRecDepth 100000

/-- the cells of frames, one behind the other -/
def flatF (fs : List Fr) : List Value := fs.flatMap fun f => f.cs.toList
theorem flatF_len (fs : List Fr) : (flatF fs).length = fs.length * 6 := by
  induction fs with
  | nil => rfl
  | cons f r ih => unfold flatF at *; rw [List.flatMap_cons, List.length_append, ih, List.length_cons]; have : f.cs.toList.length = 6 := rfl; omega
theorem flatF_push (fs : List Fr) (f : Fr) : flatF (fs ++ [f]) = flatF fs ++ f.cs.toList := by unfold flatF; simp
theorem flatF_at : ∀ {fs : List Fr} {j q : Nat} {f : Fr} {u : Value}, fs[j]? = some f → f.cs[q]? = some u → (flatF fs)[j * 6 + q]? = some u
  | [], _, _, _, _, h, _ => by simp at h
  | g :: r, 0, q, f, u, h, hq => by
    simp only [List.getElem?_cons_zero, Option.some.injEq] at h
    subst h
    have hlt : q < 6 := (Array.getElem?_eq_some_iff.1 hq).1
    unfold flatF
    rw [List.flatMap_cons, List.getElem?_append_left (by show 0 * 6 + q < 6; omega), Nat.zero_mul, Nat.zero_add, Array.getElem?_toList]
    exact hq
  | g :: r, j + 1, q, f, u, h, hq => by
    have ih := flatF_at (fs := r) (j := j) (q := q) (f := f) (u := u) (by simpa using h) hq
    unfold flatF at *
    have h6 : g.cs.toList.length = 6 := rfl
    rw [List.flatMap_cons, List.getElem?_append_right (by rw [h6]; omega), h6, show (j + 1) * 6 + q - 6 = j * 6 + q by omega]
    exact ih
/-- two rows of unlike types lie apart -/
theorem own_apart {W : World} {base e e2 size size2 n m : Nat} {v u : Value} {xs ys : List Value} (h : W.ownsRow base e size v n xs) (h2 : W.ownsRow base e2 size2 u m ys) (hne : e ≠ e2) : v.ownBlock = none ∨ v.ownBlock ≠ u.ownBlock := by
  rcases h.2 with ⟨rfl, _⟩ | ⟨g, cap, cur, rfl, _, hh, _⟩
  · exact .inl rfl
  · right
    rcases h2.2 with ⟨rfl, _⟩ | ⟨g2, cap2, cur2, rfl, _, hh2, _⟩
    · simp [Value.ownBlock]
    · intro e3
      simp only [Value.ownBlock, Option.some.injEq] at e3
      subst e3
      rw [hh] at hh2
      injection hh2 with hh2
      injection hh2 with _ ht
      exact hne ht
theorem own_below6 {W W' : World} {base e size n : Nat} {v : Value} {xs : List Value} (h : W.ownsRow base e size v n xs) (hb : Below W.heap.size W W') : W'.ownsRow base e size v n xs := by
  refine ⟨h.1, ?_⟩
  rcases h.2 with h | ⟨g, cap, cur, hv, hg, hh, r⟩
  · exact .inl h
  · exact .inr ⟨g, cap, cur, hv, hg, (hb.block g (Array.getElem?_eq_some_iff.1 hh).1).trans hh, r⟩
/-- frames that lie there, their payloads with them -/
def FrsIn (w : World) (B : Nat) (A : Option Addr) (fs : List Fr) : Prop :=
  ∀ (j : Nat) (f : Fr), fs[j]? = some f → ∃ b, A = some ⟨b, 0, none⟩ ∧ b < B ∧ (∀ (q : Nat) (u : Value), f.cs[q]? = some u → w.cell? ⟨b, j * 6 + q, none⟩ = some u) ∧ f.zs.length ≤ f.cp ∧ Nums .u8 w B f.a f.zs
theorem FrsIn.below {w w' : World} {B : Nat} {A : Option Addr} {fs : List Fr} (h : FrsIn w B A fs) (hb : Below B w w') : FrsIn w' B A fs := fun j f hj => by
  obtain ⟨b, e, hB, hc, hl, hn⟩ := h j f hj
  exact ⟨b, e, hB, fun q u hq => (hb.cell (p := ⟨b, j * 6 + q, none⟩) hB).trans (hc q u hq), hl, hn.below hb⟩
theorem FrsIn.mono {w : World} {B B' : Nat} {A : Option Addr} {fs : List Fr} (h : FrsIn w B A fs) (hB : B ≤ B') : FrsIn w B' A fs := fun j f hj => by
  obtain ⟨b, e, hb, hc, hl, hn⟩ := h j f hj
  exact ⟨b, e, by omega, hc, hl, hn.mono hB⟩

/-- a row of frames, a row of numbers; the payloads in neither -/
structure FL (tf ti : TypeId) (base : Nat) (W : World) (v u : Value) (fs : List Fr) (es : List Int) : Prop where
  out : W.ownsRow base tf 6 v fs.length (flatF fs)
  err : W.ownsRow base ti 1 u es.length (es.map (Value.int .i64))
  pay : ∀ f ∈ fs, f.zs.length ≤ f.cp ∧ NumsS .u8 W (fun b => b < W.heap.size ∧ v.ownBlock ≠ some b ∧ u.ownBlock ≠ some b) f.a f.zs
section
variable {tf ti : TypeId} {base : Nat} {W W3 W4 W6 : World} {v v' u u' : Value} {fs : List Fr} {es : List Int}
theorem FL.start (tf ti : TypeId) (base : Nat) (W : World) : FL tf ti base W (.slice none 0 0) (.slice none 0 0) [] [] := ⟨World.ownsRow_nil _ _ _ _, World.ownsRow_nil _ _ _ _, fun f hf => by cases hf⟩
theorem FL.below {W' : World} (h : FL tf ti base W v u fs es) (hb : Below W.heap.size W W') : FL tf ti base W' v u fs es :=
  ⟨own_below6 h.out hb, own_below6 h.err hb, fun f hf => ⟨(h.pay f hf).1, ((h.pay f hf).2.keeps (KeepS.of_below hb fun _ hk => hk.1)).more fun _ hk => ⟨Nat.lt_of_lt_of_le hk.1 hb.size, hk.2⟩⟩⟩
theorem FL.err4 (h : FL tf ti base W v u fs es) (hne : tf ≠ ti) (hg : W.grownBy W4 v.ownBlock) : W4.ownsRow base ti 1 u es.length (es.map (Value.int .i64)) := h.err.kept hg (own_apart h.err h.out (Ne.symm hne))
/-- a frame and a number more -/
theorem FL.push {f : Fr} {e : Int} {o : Obj} (h : FL tf ti base W v u fs es) (hne : tf ≠ ti) (hb : Below W.heap.size W W3) (hf : f.zs.length ≤ f.cp) (hn : NumsS .u8 W3 (fun b => W.heap.size ≤ b ∧ b < W3.heap.size) f.a f.zs)
    (hown : W4.ownsRow base tf 6 v' (fs.length + 1) (flatF fs ++ f.cs.toList)) (hg : W3.grownBy W4 v.ownBlock) (hat : v'.ownBlock = v.ownBlock ∨ v'.ownBlock = some W3.heap.size)
    (hown2 : W6.ownsRow base ti 1 u' (es.length + 1) (es.map (Value.int .i64) ++ [.int .i64 e])) (hg2 : (W4.alloc o).grownBy W6 u.ownBlock) (hat2 : u'.ownBlock = u.ownBlock ∨ u'.ownBlock = some (W4.alloc o).heap.size) :
    FL tf ti base W6 v' u' (fs ++ [f]) (es ++ [e]) := by
  have hs3 := hb.size
  have hs4 := hg.size
  have hs6 := hg2.size
  rw [World.size_alloc] at hs6 hat2
  have he4 := (h.below hb).err4 hne hg
  -- what lies below W3's end, in neither row
  have key : ∀ a zs, NumsS .u8 W3 (fun b => b < W3.heap.size ∧ v.ownBlock ≠ some b ∧ u.ownBlock ≠ some b) a zs → NumsS .u8 W6 (fun b => b < W6.heap.size ∧ v'.ownBlock ≠ some b ∧ u'.ownBlock ≠ some b) a zs := fun a zs hz => by
    have h4 : KeepS (fun b => b < W3.heap.size ∧ v.ownBlock ≠ some b ∧ u.ownBlock ≠ some b) W3 W6 :=
      ⟨by omega, fun k hk => (hg2.block k (by rw [World.size_alloc]; omega) (fun e => hk.2.2 e.symm)).trans ((Below.heap_alloc W4 o k (by omega)).trans (hg.block k hk.1 (fun e => hk.2.1 e.symm)))⟩
    refine (hz.keeps h4).more fun k hk => ⟨by omega, fun e3 => ?_, fun e3 => ?_⟩
    · rcases hat with h5 | h5
      · exact hk.2.1 (h5.symm.trans e3)
      · rw [h5] at e3; injection e3 with e3; omega
    · rcases hat2 with h5 | h5
      · exact hk.2.2 (h5.symm.trans e3)
      · rw [h5] at e3; injection e3 with e3; omega
  refine ⟨?_, ?_, fun g hg' => ?_⟩
  · rw [flatF_push, List.length_append, List.length_singleton]
    refine (hown.alloc o).kept hg2 ?_
    rcases own_apart hown he4 hne with h5 | h5
    · exact .inl h5
    · exact .inr h5
  · rw [List.length_append, List.length_singleton, List.map_append]
    exact hown2
  · rcases List.mem_append.1 hg' with hg' | hg'
    · have h5 := (h.below hb).pay g hg'
      exact ⟨h5.1, key _ _ h5.2⟩
    · obtain rfl : g = f := by simpa using hg'
      refine ⟨hf, key _ _ (hn.more fun k hk => ⟨hk.2, fun e => ?_, fun e => ?_⟩)⟩
      · have := (h.out.lt k e).2; omega
      · have := (h.err.lt k e).2; omega
theorem FL.lies (h : FL tf ti base W v u fs es) : ∃ A c, v = .slice A fs.length c ∧ fs.length ≤ c ∧ FrsIn W W.heap.size A fs := by
  rcases h.out.2 with ⟨rfl, h0⟩ | ⟨g, cap, cur, rfl, hbg, hh, hle, _⟩
  · rw [List.eq_nil_of_length_eq_zero h0]
    exact ⟨none, 0, rfl, Nat.le_refl _, fun i f hi => by simp at hi⟩
  · refine ⟨_, cap, rfl, hle, fun j f hj => ⟨g, rfl, (Array.getElem?_eq_some_iff.1 hh).1, fun q u hq => ?_, (h.pay f (List.mem_of_getElem? hj)).1, (h.pay f (List.mem_of_getElem? hj)).2.nums fun _ hk => hk.1⟩⟩
    have h1 := h.out.cells (g := g) rfl (j * 6 + q) u (flatF_at hj hq)
    rw [Addr.add_lit, Nat.zero_add] at h1
    exact h1
end
end Go.Proofs.Ytoaclbdlgkgnpaa

namespace Go.Proofs.Ytoaclbdlgkgnpaa
open Go.RowKit
set_option maxRecDepth 100000

theorem rnew_any13 (v k s i c : Int) (w : World) : Calls Try.prog 9 #[hdV v k s i c] w fun e w' => e = .returned (frV v k s 0 c (.slice none 0 0)) ∧ Below w.heap.size w w' := by
  unfold hdV frV frC
  go_enter Try.func9, Try.ntmps9
  go_wp2
  generalize hW1 : w.alloc (Obj.cells #[Value.int .i64 v, Value.int .i64 k, Value.int .u32 s, Value.int .i64 0, Value.int .i64 c] 31) = W1
  have hb1 : Below w.heap.size w W1 := by rw [← hW1]; exact (Below.refl _ w).alloc (Nat.le_refl _) _
  have hs1 : w.heap.size + 1 = W1.heap.size := by rw [← hW1]; simp
  generalize hW2 : W1.alloc (Obj.cells #[Value.int .i64 v, Value.int .i64 k, Value.int .u32 s, Value.int .i64 0, Value.int .i64 c, Value.slice none 0 0] 35) = W2
  have hb2 : Below w.heap.size w W2 := by rw [← hW2]; exact hb1.alloc hb1.size _
  have hh : W2.heap[W1.heap.size]? = some (.cells (frC v k s 0 c (.slice none 0 0)) 35 (0, 0)) := by rw [← hW2]; exact World.alloc_heap_new _ _
  rw [← hs1] at hh
  obtain ⟨d0, d1, d2, d3, d4, d5⟩ := fr_block hh
  refine bodyPost_ret (by simp [results, Try.results9, go_sem, d0, d1, d2, d3, d4, d5]; try rfl) rfl ?_
  exact ⟨rfl, hb2⟩
theorem made_below {e : TypeId} {k : IntKind} {w w1 w2 : World} {L : List Int} {v : Value} (h : MadeK e k w w1 L v) (hb : Below w1.heap.size w1 w2) : MadeK e k w w2 L v := ⟨own_below6 h.1 hb, h.2.trans (hb.mono h.2.size)⟩
theorem tot_app (C D : Sl.Ct) : Sl.tot (C ++ D) = Sl.tot C + Sl.tot D := by simp [Sl.tot]
theorem tot_take (fs : List Fr) (j : Nat) : Sl.tot ((fs.take j).map Fr.ct) ≤ Sl.tot (fs.map Fr.ct) := by
  have e : fs.map Fr.ct = (fs.take j).map Fr.ct ++ (fs.drop j).map Fr.ct := by rw [← List.map_append, List.take_append_drop]
  rw [e, tot_app]
  omega
set_option maxHeartbeats 4000000 in
theorem rsize_any {w : World} (v k s i : Int) {c : Int} {A : Option Addr} {n cp : Nat} {fs : List Fr} (h : RefAt w c A n cp fs) :
    Calls Try.prog 28 #[frV v k s i c (.slice A n cp)] w fun e w' => e = .returned (.int .i64 (Sl.tot (fs.map Fr.ct) : Int)) ∧ Below w.heap.size w w' := by
  have hnl := h.few_len
  have hnc := h.room
  have hlen := h.len
  have hmost := h.most
  obtain ⟨w1, hw1⟩ : ∃ w1, w.alloc (.cells (frC v k s i c (.slice A n cp)) 35) = w1 := ⟨_, rfl⟩
  have hb1 : Below w.heap.size w w1 := by rw [← hw1]; exact (Below.refl _ w).alloc (Nat.le_refl _) _
  have hbx : w1.heap[w.heap.size]? = some (.cells (frC v k s i c (.slice A n cp)) 35 (0, 0)) := by rw [← hw1]; exact World.alloc_heap_new _ _
  obtain ⟨_, _, _, _, _, d5⟩ := fr_block hbx
  have HAT := Lib.hid (h.at'.below hb1)
  have HW1 : Hid (w.alloc (.cells #[.int .i64 v, .int .i64 k, .int .u32 s, .int .i64 i, .int .i64 c, .slice A n cp] 35) = w1) := Lib.hid hw1
  have HB1 := Lib.hid hb1
  have HLEN := Lib.hid hlen
  have HMO := Lib.hid hmost
  clear h hw1 hb1 hbx hlen hmost
  unfold frV frC
  go_enter Try.func28, Try.ntmps28
  go_wp2_with fail
  rw [HW1.out]
  go_loopw [3, 4] (fun u x wr => ∃ j : Nat, j ≤ n ∧ x = .int .i64 (j : Int) ∧ u = .int .i64 (Sl.tot ((fs.take j).map Fr.ct) : Int) ∧ wr = w1) (fun _ x _ => n - (intOf x).toNat)
  case atStart => exact ⟨0, by omega, rfl, rfl, rfl⟩
  case round =>
    obtain ⟨j, hj, rfl, rfl, rfl⟩ := hrel
    by_cases hjn : j < n
    · have hjn' : (j : Int) < (n : Int) := by omega
      obtain ⟨f, hf⟩ : ∃ f, fs[j]? = some f := ⟨_, List.getElem?_eq_getElem (by rw [HLEN.out]; exact hjn)⟩
      obtain ⟨g, off, rfl, hg, a0, a1, a2, a3, a4, a5⟩ := HAT.out.six hf
      have hT := tot_take fs j
      have hT1 := tot_take fs (j + 1)
      have hmo := HMO.out
      have e1 : Sl.tot ((fs.take (j + 1)).map Fr.ct) = Sl.tot ((fs.take j).map Fr.ct) + f.zs.length := by
        rw [List.take_add_one, hf]
        show Sl.tot (List.map Fr.ct (fs.take j ++ [f])) = _
        rw [List.map_append]
        exact Sl.tot_push _ _
      have HE1 := Lib.hid e1
      have hle : Sl.tot ((fs.take j).map Fr.ct) + f.zs.length ≤ 192 := by omega
      clear a0 a1 a2 a3 a4 hf e1 hT1
      generalize Sl.tot ((fs.take j).map Fr.ct) = T at *
      go_wp2
      go_roundw
      case rel => exact ⟨j + 1, by omega, by go_num, by rw [HE1.out]; go_num, trivial⟩
      case measure => simp [intOf]; omega
    · have hjn' : j = n := by omega
      subst hjn'
      have HT : Hid (Sl.tot ((fs.take j).map Fr.ct) = Sl.tot (fs.map Fr.ct)) := by
        show _ = _
        rw [List.take_of_length_le (by rw [HLEN.out]; omega)]
      go_wp2
      go_ret
      exact ⟨by rw [← HT.out]; rfl, HB1.out⟩
theorem rfull_any {w : World} (v k s i : Int) {c : Int} {A : Option Addr} {n cp : Nat} (hc : 1 ≤ c) :
    Calls Try.prog 30 #[frV v k s i c (.slice A n cp)] w fun e w' => e = .returned (.bool ((n : Int) == c)) ∧ Below w.heap.size w w' := by
  have hc' : 0 < c := by omega
  unfold frV frC
  go_enter Try.func30, Try.ntmps30
  go_wp2
  go_ret
  exact ⟨rfl, (Below.refl _ w).alloc (Nat.le_refl _) _⟩
set_option maxHeartbeats 4000000 in
theorem rbytes_any {w : World} (v k s i : Int) {A : Option Addr} {n cp q : Nat} {fs : List Fr} (h : RefAt w (q : Int) A n cp fs) :
    Calls Try.prog 31 #[frV v k s i (q : Int) (.slice A n cp)] w fun e w' => ∃ u, e = .returned u ∧ MadeK 5 .u8 w w' (Sl.cat (fs.map Fr.ct) q) u := by
  obtain ⟨i0, hi, hz0, hz1, hz2⟩ := info_parts byteInfo
  have hq2 : q ≤ 255 := by have := h.small; omega
  have hnc := h.room
  have hlen := h.len
  have hmost := h.most
  obtain ⟨w1, hw1⟩ : ∃ w1, w.alloc (.cells (frC v k s i (q : Int) (.slice A n cp)) 35) = w1 := ⟨_, rfl⟩
  have hb1 : Below w.heap.size w w1 := by rw [← hw1]; exact (Below.refl _ w).alloc (Nat.le_refl _) _
  have hs1 : w.heap.size < w1.heap.size := by rw [← hw1]; simp
  have hbx : w1.heap[w.heap.size]? = some (.cells (frC v k s i (q : Int) (.slice A n cp)) 35 (0, 0)) := by rw [← hw1]; exact World.alloc_heap_new _ _
  have HX : Hid (∀ W, Below w1.heap.size w1 W → W.cell? ⟨w.heap.size, 0, none⟩ = some (.int .i64 v) ∧ W.cell? ⟨w.heap.size, 1, none⟩ = some (.int .i64 k) ∧ W.cell? ⟨w.heap.size, 2, none⟩ = some (.int .u32 s) ∧ W.cell? ⟨w.heap.size, 3, none⟩ = some (.int .i64 i) ∧ W.cell? ⟨w.heap.size, 4, none⟩ = some (.int .i64 (q : Int)) ∧ W.cell? ⟨w.heap.size, 5, none⟩ = some (.slice A n cp)) :=
    Lib.hid fun W hW => fr_block ((hW.block _ hs1).trans hbx)
  have HRA := Lib.hid (h.below hb1)
  have HW1 : Hid (w.alloc (.cells #[.int .i64 v, .int .i64 k, .int .u32 s, .int .i64 i, .int .i64 (q : Int), .slice A n cp] 35) = w1) := Lib.hid hw1
  have HB1 := Lib.hid hb1
  have HLEN := Lib.hid hlen
  clear h hw1 hb1 hbx hlen
  unfold frV frC
  go_enter Try.func31, Try.ntmps31
  go_wp2_with fail
  rw [HW1.out]
  go_loopw [3, 4] (fun u x wr => ∃ j : Nat, j ≤ q ∧ x = .int .i64 (j : Int) ∧ Hid (MadeK 5 .u8 w1 wr (Sl.cat (fs.map Fr.ct) j) u)) (fun _ x _ => q - (intOf x).toNat)
  case atStart => exact ⟨0, by omega, rfl, MadeK.nil _ _ (Below.refl _ _)⟩
  case round =>
    obtain ⟨j, hj, rfl, HM⟩ := hrel
    obtain ⟨d0, d1, d2, d3, d4, d5⟩ := HX.out wr HM.out.2
    by_cases hjq : j < q
    · have hjq' : (j : Int) < (q : Int) := by omega
      have hra := HRA.out.below HM.out.2
      have K := rhas_any v k s i hra j
      have HRA2 := Lib.hid hra
      unfold frV frC at K
      unfold HasR at K
      clear hra
      go_wp2_with fail
      refine K.mono ?_
      rintro e w2 ⟨hb2, ⟨hno, rfl⟩ | ⟨hyes, p, f, hf, hfi, rfl⟩⟩
      · have HM2 : Hid (MadeK 5 .u8 w1 w2 (Sl.cat (fs.map Fr.ct) (j + 1)) u3) := by
          rw [Sl.cat_succ, Sl.at_none hno, List.append_nil]
          exact made_below HM.out hb2
        clear K hb2 hno d0 d1 d2 d3 d4 d5
        go_wp2
        go_roundw
        case rel => exact ⟨j + 1, by omega, by go_num, HM2⟩
        case measure => simp [intOf]; omega
      · have hra2 := HRA2.out.below hb2
        obtain ⟨g, off, rfl, hg, _, _, _, _, _, a5⟩ := hra2.at'.six hf
        have hpn : p < n := by rw [← HLEN.out]; exact (List.getElem?_eq_some_iff.1 hf).1
        have hpn' : (p : Int) < (n : Int) := by omega
        have hfm := List.mem_of_getElem? hf
        have hnum := (hra2.at'.1 f hfm).nums
        have hat : Sl.at' (fs.map Fr.ct) j = f.zs := by
          have := hra2.mem hfm
          rw [hfi] at this
          simpa using this
        have hM2 := made_below HM.out hb2
        have hsz := hM2.2.size
        obtain ⟨_, _, _, _, _, d5⟩ := HX.out w2 hM2.2
        have hql := Sl.at_len (fs.map Fr.ct) j
        rw [hat] at hql
        have hcl := Sl.cat_len (fs.map Fr.ct) j
        have hcb : (Sl.cat (fs.map Fr.ct) j).length ≤ 48960 := by
          have : j * Sl.tot (fs.map Fr.ct) ≤ 255 * 192 := Nat.mul_le_mul (by omega) hmost
          omega
        have HX1 : Hid ((Sl.cat (fs.map Fr.ct) j).length + f.zs.length ≤ maxLen) := by show _ ≤ _; unfold maxLen; omega
        have HX2 : Hid (((Sl.cat (fs.map Fr.ct) j).length + f.zs.length) * 1 ≤ 140737488355328) := by show _ ≤ _; omega
        have HNM := Lib.hid hnum
        have HM3 := Lib.hid hM2
        have HAT := Lib.hid hat
        clear K hb2 hyes hra2 hf hfi hfm hnum hat hM2 hql hcl hcb
        go_wp2_with (at_builtin; refine wpList_append_any rfl (.tmp 18) (.tmp 24) 37 rfl w1.heap.size 5 i0 (.int .u8 0) 1 Try.underlying37 hi hz0 hz1 hz2 rfl .u8 (Sl.cat (fs.map Fr.ct) j) f.zs _ rfl HM3.out.1 _ _ _ _ rfl rfl HNM.out HX1.out HX2.out hsz ?_)
        intro v2 w3 hown hgr
        have HM4 : Hid (MadeK 5 .u8 w1 w3 (Sl.cat (fs.map Fr.ct) (j + 1)) v2) := by
          rw [Sl.cat_succ, HAT.out]
          exact HM3.out.more hown hgr
        clear hown hgr
        go_wp2
        go_roundw
        case rel => exact ⟨j + 1, by omega, by go_num, HM4⟩
        case measure => simp [intOf]; omega
    · have hjq' : j = q := by omega
      subst hjq'
      have HFIN := Lib.hid (HM.out.since HB1.out)
      go_wp2
      go_ret
      exact ⟨_, rfl, HFIN.out⟩
end Go.Proofs.Ytoaclbdlgkgnpaa

namespace Go.Proofs.Ytoaclbdlgkgnpaa
open Go.RowKit Go.Shelf
set_option maxRecDepth 100000
attribute [local go_sem] Oper.semAt_some

namespace Sl
theorem mis_mono (C : Ct) : ∀ {p q : Nat}, p ≤ q → (mis C p).length ≤ (mis C q).length
  | p, 0, h => by obtain rfl : p = 0 := by omega
                  exact Nat.le_refl _
  | p, q + 1, h => by
    by_cases hp : p = q + 1
    · subst hp; exact Nat.le_refl _
    · have := mis_mono C (p := p) (q := q) (by omega)
      rw [mis_succ, List.length_append]
      omega
/-- the next empty place behind p -/
theorem mis_next {C : Ct} {n p j q : Nat} (hj : (mis C n)[j]? = some q) (hp : (mis C p).length = j) : q < n ∧ has C q = false ∧ p ≤ q ∧ (mis C (q + 1)).length = j + 1 ∧ ∀ i, p ≤ i → i < q → has C i = true := by
  have hm := List.mem_of_getElem? hj
  unfold mis at hm
  rw [List.mem_filter, List.mem_range] at hm
  obtain ⟨hq, hh⟩ := hm
  have hh' : has C q = false := by simpa using hh
  have h1 := mis_at hh' n hq
  have hnd : (mis C n).Nodup := (List.filter_sublist).nodup List.nodup_range
  have b1 := (List.getElem?_eq_some_iff.1 h1).1
  have hlen : (mis C q).length = j := (List.getElem?_inj b1 hnd).1 (h1.trans hj.symm)
  have hs : (mis C (q + 1)).length = j + 1 := by rw [mis_step hh', List.length_append, hlen]; rfl
  refine ⟨hq, hh', ?_, hs, fun i hi hiq => ?_⟩
  · rcases Nat.lt_or_ge q p with h | h
    · have := mis_mono C (p := q + 1) (q := p) h
      omega
    · exact h
  · cases hc : has C i with
    | true => rfl
    | false =>
      have e1 : (mis C (i + 1)).length = (mis C i).length + 1 := by rw [mis_step hc, List.length_append]; rfl
      have e2 := mis_mono C hi
      have e3 := mis_mono C (p := i + 1) (q := q) hiq
      omega
/-- behind the last empty place none is empty -/
theorem mis_rest {C : Ct} {n p : Nat} (hp : (mis C p).length = (mis C n).length) {i : Nat} (h1 : p ≤ i) (h2 : i < n) : has C i = true := by
  cases hc : has C i with
  | true => rfl
  | false =>
    have e1 : (mis C (i + 1)).length = (mis C i).length + 1 := by rw [mis_step hc, List.length_append]; rfl
    have e2 := mis_mono C h1
    have e3 := mis_mono C (p := i + 1) (q := n) h2
    omega
end Sl
section
variable {P : Program} {l : List Oper} {fs : List Tmp} {FS : Tmp → Value → World → Prop} {I : World → Prop} {E : Act → Prop} {o : Oper} {rest : List Oper} {a : Act}
/-- an operation that its guard passes over -/
theorem wpF_skip (hn : noB l.toArray fs o = true) (hw : Region.wanted o (yielded l.toArray a.tmps) = false) (h : wpF P l.toArray I fs FS E rest (a.put o.dst undef)) : wpF P l.toArray I fs FS E (o :: rest) a := by
  obtain ⟨h1, h2⟩ := noB_spec hn
  exact ⟨undef, .inl ⟨h1, h2, .inr ⟨hw, rfl⟩⟩, h⟩
end
/-- the law's two variables that the loops' bodies turn: how far it is, in box bi; whether all is right, in box bi + 1 -/
structure LkS (w4 : World) (bi : Nat) (i : Nat) (V : World) : Prop where
  at' : Boxed V bi 3 (.int .i64 (i : Int))
  ok : Boxed V (bi + 1) 4 (.bool true)
  off : Off (fun k => k = bi ∨ k = bi + 1) w4 V
section
variable {w4 V V' : World} {bi i : Nat}
theorem LkS.below (h : LkS w4 bi i V) (hb : bi + 1 < w4.heap.size) (hB : Below w4.heap.size V V') : LkS w4 bi i V' :=
  ⟨(hB.block bi (by omega)).trans h.at', (hB.block (bi + 1) hb).trans h.ok, off_below h.off hB⟩
theorem LkS.next (h : LkS w4 bi i V) : LkS w4 bi (i + 1) (V.setCell ⟨bi, 0, none⟩ (.int .i64 ((i : Int) + 1))) :=
  ⟨by have := Boxed.set (.int .i64 ((i : Int) + 1)) h.at'; rw [Int.natCast_succ]; exact this, h.ok.other (by omega) _, h.off.setCell (p := ⟨bi, 0, none⟩) (.inl rfl) _⟩
theorem LkS.right (h : LkS w4 bi i V) : LkS w4 bi i (V.setCell ⟨bi + 1, 0, none⟩ (.bool true)) :=
  ⟨h.at'.other (by omega) _, h.ok.set _, h.off.setCell (p := ⟨bi + 1, 0, none⟩) (.inr rfl) _⟩
end
/-- the number in box b -/
def inBoxS (b : Nat) (W : World) : Nat := (intOf ((W.cell? ⟨b, 0, none⟩).getD undef)).toNat
theorem LkS.num {w4 V : World} {bi i : Nat} (h : LkS w4 bi i V) : inBoxS bi V = i := by
  unfold inBoxS
  rw [h.at'.cell]
  simp [intOf]
theorem keeps_below {V V1 : World} (hb : Below V.heap.size V V1) : KeepsOthers V V1 := ⟨hb.size, fun k _ ho _ => (hb.block k (Array.getElem?_eq_some_iff.1 ho).1).trans ho⟩
set_option maxHeartbeats 8000000 in
theorem salike_full {w : World} {b m : Nat} {v k s : Int} {q : Nat} {E : List Pl} (h : SlotAt w b m v k s (q : Int) E) {A : Option Addr} {n cp : Nat} {fs : List Fr} (hr : RefAt w (q : Int) A n cp fs) (hp : (E.map Pl.ct).Perm (fs.map Fr.ct)) (hfull : n = q) :
    Calls Try.prog 15 #[.pointer (some ⟨b, 0, none⟩), frV v k s 0 (q : Int) (.slice A n cp)] w fun e w' => e = .returned (.bool true) ∧ Below w.heap.size w w' := by
  obtain ⟨w1, hw1⟩ : ∃ w1, w.alloc (.cells (frC v k s 0 (q : Int) (.slice A n cp)) 35) = w1 := ⟨_, rfl⟩
  have hb1 : Below w.heap.size w w1 := by rw [← hw1]; exact (Below.refl _ w).alloc (Nat.le_refl _) _
  have hs1 : w1.heap.size = w.heap.size + 1 := by rw [← hw1]; simp
  have hx1 : w1.heap[w.heap.size]? = some (.cells (frC v k s 0 (q : Int) (.slice A n cp)) 35 (0, 0)) := by rw [← hw1]; exact World.alloc_heap_new _ _
  have HW1 : Hid (w.alloc (.cells #[.int .i64 v, .int .i64 k, .int .u32 s, .int .i64 0, .int .i64 (q : Int), .slice A n cp] 35) = w1) := Lib.hid hw1
  have HX : Hid (∀ W, Below w1.heap.size w1 W → SlotAt W b m v k s (q : Int) E ∧ RefAt W (q : Int) A n cp fs ∧ W.heap[w.heap.size]? = some (.cells (frC v k s 0 (q : Int) (.slice A n cp)) 35 (0, 0))) :=
    Lib.hid fun W hW => ⟨(h.below hb1).below hW, (hr.below hb1).below hW, (hW.block _ (by omega)).trans hx1⟩
  obtain ⟨q', hq', q1, q2, hEq, _⟩ := h.count
  obtain rfl : q' = q := by omega
  have hlE : E.length = n := by have := hp.length_eq; simp at this; rw [this, hr.len]
  have hcat := Sl.cat_perm hp h.keys E.length
  have htot := Sl.tot_perm hp
  have hmis := Sl.mis_perm hp q'
  have hHas := Lib.hid (Sl.has_perm hp)
  have KB := sbytes_any (HX.out w1 (Below.refl _ _)).1
  have HB1 := Lib.hid hb1
  have HS1 := Lib.hid hs1
  have HLE := Lib.hid hlE
  have HCAT := Lib.hid hcat
  have HTOT := Lib.hid htot
  have HMIS := Lib.hid hmis
  have hn0 : n ≤ 255 := hr.few_len
  have HFU := Lib.hid hfull
  clear hfull
  clear h hr hp hw1 hb1 hs1 hx1 hq' hlE hcat htot hmis hEq
  unfold frV frC at *
  unfold BytesR at KB
  rw [HCAT.out, HLE.out] at KB
  refine (callsIn_wide (n := 3)).1 ?_
  refine callsIn_of_wp_marks Try.func15 rfl trivial ?_ rfl
  simp only [Try.ntmps15, List.size_toArray, List.length_cons, List.length_nil, Nat.reduceAdd, Nat.reduceSub, Array.replicate_succ, Array.replicate_zero, List.push_toArray, List.append_toArray, List.nil_append, List.cons_append]
  gi_wp2_with fail
  refine ⟨trivial, ?_⟩
  rw [HW1.out]
  refine (callsIn_wide.2 KB).mono ?_
  rintro e w2 ⟨hb2, hor⟩
  have hFull : Calls Try.prog 30 #[.agg #[.int .i64 v, .int .i64 k, .int .u32 s, .int .i64 0, .int .i64 (q' : Int), .slice A n cp]] w2 fun e w' => e = .returned (.bool ((n : Int) == (q' : Int))) ∧ Below w2.heap.size w2 w' := rfull_any v k s 0 (by omega)
  obtain ⟨_, _, hx2⟩ := HX.out w2 hb2
  obtain ⟨d0, d1, d2, d3, d4, d5⟩ := fr_block hx2
  obtain ⟨heq, A2, c2, rfl, hc2, hnum2⟩ := (hor.resolve_left fun h => by
    have := h.1
    have := HFU.out
    omega)
  have e1 : ((n : Int) == (q' : Int)) = true := by rw [heq]; simp
  have HN2 := Lib.hid hnum2
  have HCL : Hid ((Sl.cat (fs.map Fr.ct) n).length ≤ 48960) := Lib.hid (by
    have h1 := Sl.cat_len (fs.map Fr.ct) n
    have h2 : n * Sl.tot (fs.map Fr.ct) ≤ 255 * 192 := Nat.mul_le_mul hn0 (HX.out w1 (Below.refl _ _)).2.1.most
    omega)
  have HC : Hid (Sl.cat (fs.map Fr.ct) q' = Sl.cat (fs.map Fr.ct) n) := Lib.hid (by have := HFU.out; congr 1; omega)
  generalize Sl.cat (fs.map Fr.ct) n = CAT at *
  clear hnum2 heq
  rw [e1] at hFull
  have HB2 := Lib.hid hb2
  have HEQ : Hid (((n : Int) == (q' : Int)) = true) := Lib.hid e1
  clear KB hb2 e1 hx2 hor
  gi_wp2_with fail
  refine ⟨trivial, ?_⟩
  refine (callsIn_wide.2 hFull).mono ?_
  rintro e w3 ⟨rfl, hb3⟩
  clear hFull d0 d1 d2 d3 d4 d5
  have hb13 := HB2.out.trans (hb3.mono HB2.out.size)
  have HI3 : Hid (∀ V, Below w3.heap.size w3 V → Below w1.heap.size w1 V) := Lib.hid fun V hV => hb13.trans (hV.mono hb13.size)
  have LH : ∀ V, Below w3.heap.size w3 V → (Instr.loadAt 31 (.pointer (some ⟨w.heap.size, 0, none⟩))).run Try.prog V = .ok (Value.agg #[.int .i64 v, .int .i64 k, .int .u32 s, .int .i64 0, .int .i64 (q' : Int)]) V := fun V hV => by
    obtain ⟨_, _, hx⟩ := HX.out V (HI3.out V hV)
    obtain ⟨d0, d1, d2, d3, d4, d5⟩ := fr_block hx
    simp [Instr.loadAt, go_sem, d0, d1, d2, d3, d4]
  have LL : ∀ V, Below w3.heap.size w3 V → (Instr.loadAt 33 (.pointer (some ⟨w.heap.size, 5, none⟩))).run Try.prog V = .ok (.slice A n cp) V := fun V hV => by
    obtain ⟨_, _, hx⟩ := HX.out V (HI3.out V hV)
    obtain ⟨d0, d1, d2, d3, d4, d5⟩ := fr_block hx
    simp [Instr.loadAt, go_sem, d5]
  have LS : ∀ V, Below w3.heap.size w3 V → (Instr.loadAt 35 (.pointer (some ⟨w.heap.size, 0, none⟩))).run Try.prog V = .ok (Value.agg #[.int .i64 v, .int .i64 k, .int .u32 s, .int .i64 0, .int .i64 (q' : Int), .slice A n cp]) V := fun V hV => by
    obtain ⟨_, _, hx⟩ := HX.out V (HI3.out V hV)
    obtain ⟨d0, d1, d2, d3, d4, d5⟩ := fr_block hx
    simp [Instr.loadAt, go_sem, d0, d1, d2, d3, d4, d5]
  have KH : Hid (∀ V, Below w3.heap.size w3 V → Calls Try.prog 22 #[.pointer (some ⟨b, 0, none⟩)] V fun e w' => e = .returned (Value.agg #[.int .i64 v, .int .i64 k, .int .u32 s, .int .i64 0, .int .i64 (q' : Int)]) ∧ Below V.heap.size V w') := Lib.hid fun V hV => shead_any (HX.out V (HI3.out V hV)).1
  have KV : Hid (∀ V, Below w3.heap.size w3 V → Calls Try.prog 18 #[.pointer (some ⟨b, 0, none⟩)] V fun e w' => e = .returned (.int .i64 (n : Int)) ∧ Below V.heap.size V w') := Lib.hid fun V hV => (shave_any (HX.out V (HI3.out V hV)).1).mono fun e w' ⟨he, hw⟩ => ⟨by rw [he, HLE.out], by rw [hw]; exact Below.refl _ _⟩
  obtain ⟨T, hT⟩ : ∃ T, Sl.tot (fs.map Fr.ct) = T := ⟨_, rfl⟩
  have KZ : Hid (∀ V, Below w3.heap.size w3 V → Calls Try.prog 23 #[.pointer (some ⟨b, 0, none⟩)] V fun e w' => e = .returned (.int .i64 (T : Int)) ∧ Below V.heap.size V w') := Lib.hid fun V hV => by
    have := ssize_any (HX.out V (HI3.out V hV)).1
    rwa [HTOT.out, hT] at this
  have KY : Hid (∀ V, Below w3.heap.size w3 V → Calls Try.prog 28 #[Value.agg #[.int .i64 v, .int .i64 k, .int .u32 s, .int .i64 0, .int .i64 (q' : Int), .slice A n cp]] V fun e w' => e = .returned (.int .i64 (T : Int)) ∧ Below V.heap.size V w') := Lib.hid fun V hV => by
    have := rsize_any v k s 0 (HX.out V (HI3.out V hV)).2.1
    rwa [hT] at this
  have KF : Hid (∀ V, Below w3.heap.size w3 V → Calls Try.prog 17 #[.pointer (some ⟨b, 0, none⟩)] V fun e w' => e = .returned (.bool true) ∧ Below V.heap.size V w') := Lib.hid fun V hV => (sfull_any (HX.out V (HI3.out V hV)).1).mono fun e w' ⟨he, d, hw⟩ => ⟨by rw [he, HLE.out, HEQ.out], by rw [hw]; exact below_drewN (Below.refl _ _) d⟩
  have KR : Hid (∀ V, Below w3.heap.size w3 V → Calls Try.prog 31 #[Value.agg #[.int .i64 v, .int .i64 k, .int .u32 s, .int .i64 0, .int .i64 (q' : Int), .slice A n cp]] V fun e w'' => ∃ u, e = .returned u ∧ (∃ A3 c3, u = .slice A3 CAT.length c3 ∧ Nums .u8 w'' w''.heap.size A3 CAT) ∧ Below V.heap.size V w'') := Lib.hid fun V hV => (rbytes_any v k s 0 (HX.out V (HI3.out V hV)).2.1).mono fun e w'' ⟨u, he, hm⟩ => by
    rw [HC.out] at hm
    obtain ⟨A3, c3, hu, _, hnn⟩ := hm.slice
    exact ⟨u, he, ⟨A3, c3, hu, hnn⟩, hm.2⟩
  have KS : Hid (∀ x V, Below w3.heap.size w3 V → (∃ A3 c3, x = .slice A3 CAT.length c3 ∧ Nums .u8 V V.heap.size A3 CAT) → Calls Try.prog 20 #[.slice A2 CAT.length c2, x] V fun e w'' => e = .returned (.bool true) ∧ Below V.heap.size V w'') := Lib.hid fun x V hV ⟨A3, c3, hx, hnn⟩ => by
    subst hx
    have := same_any V.heap.size A2 A3 CAT.length CAT.length c2 c3 CAT CAT V rfl rfl (by have := HCL.out; omega) ((HN2.out.below (hb3.trans (hV.mono hb3.size))).mono (hb3.trans (hV.mono hb3.size)).size) hnn
    rw [decide_eq_true rfl] at this
    exact this.mono fun e w' ⟨he, d, hw⟩ => ⟨he, by rw [hw]; exact below_drewN (Below.refl _ _) d⟩
  clear hT hb13
  gi_wp2_with fail
  refine wpIn_wide.2 ?_
  refine wp_region_F 69 [55] (fun _ x V => ∃ A3 c3, x = .slice A3 CAT.length c3 ∧ Nums .u8 V V.heap.size A3 CAT) (fun V => Below w3.heap.size w3 V) (by kernel_rfl) (by kernel_rfl) (by rfl) (by simp) (fun W W' h hb => h.trans (hb.mono h.size)) (fun _ x W W' ⟨A3, c3, h1, h2⟩ hb => ⟨A3, c3, h1, (h2.below hb).mono hb.size⟩) (Below.refl _ _).drew ?_
  repeat (refine wpF_pure rfl rfl ?_; go_big_quiet_step (fail); refine wpQuiet_nil ?_)
  refine wpF_call (f := 22) (args := #[.pointer (some ⟨b, 0, none⟩)]) (Value.agg #[.int .i64 v, .int .i64 k, .int .u32 s, .int .i64 0, .int .i64 (q' : Int)]) rfl rfl (fun x => by first | rfl | (simp [go_sem]; done)) KH.out ?_
  simp only [Act.put, List.setIfInBounds_toArray, List.set_cons_succ, List.set_cons_zero]
  repeat (refine wpF_pure rfl rfl ?_; go_big_quiet_step (fail); refine wpQuiet_nil ?_)
  refine wpF_load _ rfl (by rfl) (by rfl) (by rfl) LH ?_
  simp only [Act.put, List.setIfInBounds_toArray, List.set_cons_succ, List.set_cons_zero]
  repeat (refine wpF_pure rfl rfl ?_; go_big_quiet_step (fail); refine wpQuiet_nil ?_)
  refine wpF_call (f := 18) (args := #[.pointer (some ⟨b, 0, none⟩)]) (.int .i64 (n : Int)) rfl rfl (fun x => by first | rfl | (simp [go_sem]; done)) KV.out ?_
  simp only [Act.put, List.setIfInBounds_toArray, List.set_cons_succ, List.set_cons_zero]
  repeat (refine wpF_pure rfl rfl ?_; go_big_quiet_step (fail); refine wpQuiet_nil ?_)
  refine wpF_load _ rfl (by rfl) (by rfl) (by rfl) LL ?_
  simp only [Act.put, List.setIfInBounds_toArray, List.set_cons_succ, List.set_cons_zero]
  repeat (refine wpF_pure rfl rfl ?_; go_big_quiet_step (fail); refine wpQuiet_nil ?_)
  refine wpF_call (f := 23) (args := #[.pointer (some ⟨b, 0, none⟩)]) (.int .i64 (T : Int)) rfl rfl (fun x => by first | rfl | (simp [go_sem]; done)) KZ.out ?_
  simp only [Act.put, List.setIfInBounds_toArray, List.set_cons_succ, List.set_cons_zero]
  refine wpF_load _ rfl (by rfl) (by rfl) (by rfl) LS ?_
  simp only [Act.put, List.setIfInBounds_toArray, List.set_cons_succ, List.set_cons_zero]
  refine wpF_call (f := 28) (args := #[Value.agg #[.int .i64 v, .int .i64 k, .int .u32 s, .int .i64 0, .int .i64 (q' : Int), .slice A n cp]]) (.int .i64 (T : Int)) rfl rfl (fun x => by first | rfl | (simp [go_sem]; done)) KY.out ?_
  simp only [Act.put, List.setIfInBounds_toArray, List.set_cons_succ, List.set_cons_zero]
  repeat (refine wpF_pure rfl rfl ?_; go_big_quiet_step (fail); refine wpQuiet_nil ?_)
  refine wpF_call (f := 17) (args := #[.pointer (some ⟨b, 0, none⟩)]) (.bool true) rfl rfl (fun x => by first | rfl | (simp [go_sem]; done)) KF.out ?_
  simp only [Act.put, List.setIfInBounds_toArray, List.set_cons_succ, List.set_cons_zero]
  repeat (refine wpF_pure rfl rfl ?_; go_big_quiet_step (fail); refine wpQuiet_nil ?_)
  refine wpF_load _ rfl (by rfl) (by rfl) (by rfl) LS ?_
  simp only [Act.put, List.setIfInBounds_toArray, List.set_cons_succ, List.set_cons_zero]
  refine wpF_callsrc 55 (f := 31) (args := #[Value.agg #[.int .i64 v, .int .i64 k, .int .u32 s, .int .i64 0, .int .i64 (q' : Int), .slice A n cp]]) (by simp) rfl rfl rfl (fun x => by first | rfl | (simp [go_sem]; done)) KR.out ?_
  simp only [Act.put, List.setIfInBounds_toArray, List.set_cons_succ, List.set_cons_zero]
  refine wpF_use 55 36 (f := 20) (fun x => #[.slice A2 CAT.length c2, x]) (.bool true) (by simp) rfl (by kernel_rfl) (by kernel_rfl) (by kernel_rfl) (fun _ => rfl) (fun v x => by first | rfl | (simp [go_sem]; done)) KS.out ?_
  simp only [Act.put, List.setIfInBounds_toArray, List.set_cons_succ, List.set_cons_zero]
  repeat (refine wpF_pure rfl rfl ?_; go_big_quiet_step (fail); refine wpQuiet_nil ?_)
  intro xs4 w4 hb4' _
  simp only [fill, Act.put, List.setIfInBounds_toArray, List.set_cons_succ, List.set_cons_zero]
  generalize xs4 55 = x55
  have hb4 := HI3.out w4 hb4'
  have HB4 := Lib.hid hb4
  obtain ⟨w5, hw5⟩ : ∃ w5, (w4.alloc (.cells #[.int .i64 0] 3)).alloc (.cells #[.bool true] 4) = w5 := ⟨_, rfl⟩
  have hb45 : Below w4.heap.size w4 w5 := by rw [← hw5]; exact ((Below.refl _ w4).alloc (Nat.le_refl _) _).alloc (by simp) _
  have hs5 : w5.heap.size = w4.heap.size + 2 := by rw [← hw5]; simp
  have bI5 : Boxed w5 w4.heap.size 3 (.int .i64 0) := by rw [← hw5]; exact (Boxed.new w4 _ _).alloc _
  have bO5 : Boxed w5 (w4.heap.size + 1) 4 (.bool true) := by
    rw [← hw5]
    have := Boxed.new (w4.alloc (.cells #[.int .i64 0] 3)) 4 (.bool true)
    rwa [World.size_alloc] at this
  have hb5 : Below w1.heap.size w1 w5 := hb4.trans (hb45.mono hb4.size)
  have KM := smissing_any (HX.out w5 hb5).1
  have hmz : misZ (E.map Pl.ct) q' = misZ (fs.map Fr.ct) q' := by unfold misZ; rw [HMIS.out]
  rw [hmz] at KM
  have HW5 := Lib.hid hw5
  have hs4 : w1.heap.size ≤ w4.heap.size := hb4.size
  clear LH LL LS KH KV KZ KY KF hb4' hb4 hw5 hmz
  gi_wp2_with fail
  refine ⟨trivial, ?_⟩
  rw [HW5.out]
  refine (callsIn_wide.2 KM).mono ?_
  rintro e w6 ⟨Bv, AL, cpL, rfl, hb56, hBv, hbxL, hcpL, hnumL⟩
  obtain ⟨bi, hbi⟩ : ∃ bi, w4.heap.size = bi := ⟨_, rfl⟩
  rw [hbi] at hs5 bI5 bO5
  have hs6 : w5.heap.size ≤ w6.heap.size := hb56.size
  have hLk6 : LkS w6 bi 0 w6 := ⟨(hb56.block _ (by omega)).trans bI5, (hb56.block _ (by omega)).trans bO5, Off.refl _ _⟩
  have hb16 : Below w1.heap.size w1 w6 := hb5.trans (hb56.mono hb5.size)
  obtain ⟨_, hra6, hx6⟩ := HX.out w6 hb16
  have HHV : Hid (∀ V, Off (fun k => k = bi ∨ k = bi + 1) w6 V → (V.cell? ⟨w.heap.size, 0, none⟩ = some (.int .i64 v) ∧ V.cell? ⟨w.heap.size, 1, none⟩ = some (.int .i64 k) ∧ V.cell? ⟨w.heap.size, 2, none⟩ = some (.int .u32 s) ∧ V.cell? ⟨w.heap.size, 3, none⟩ = some (.int .i64 0) ∧ V.cell? ⟨w.heap.size, 4, none⟩ = some (.int .i64 (q' : Int)) ∧ V.cell? ⟨w.heap.size, 5, none⟩ = some (.slice A n cp)) ∧ RefAt V (q' : Int) A n cp fs) := Lib.hid fun V hV => by
    have hB : Below w1.heap.size w1 V := hb16.trans (hV.below (fun k hk => by omega) hb16.size)
    obtain ⟨_, h2, h3⟩ := HX.out V hB
    exact ⟨fr_block h3, h2⟩
  have HB6 := Lib.hid hb16
  have HL6 := Lib.hid hLk6
  have HBX := Lib.hid hbxL
  have HNL := Lib.hid hnumL
  obtain ⟨C, hC⟩ : ∃ C, fs.map Fr.ct = C := ⟨_, rfl⟩
  have HCC := Lib.hid hC
  have hmz : misZ (fs.map Fr.ct) q' = (Sl.mis C q').map fun (i : Nat) => (i : Int) := by rw [hC]; rfl
  have hLl : (Sl.mis C q').length ≤ 255 := by have := Sl.mis_few C q'; omega
  have hBvl := hbxL.lt
  have hnil := values_not_nil Bv w6
  have hbiw : bi + 1 < w6.heap.size := by omega
  have HS4 : Hid (w1.heap.size ≤ bi) := by show _ ≤ _; omega
  have HSBV : Hid (bi + 1 < Bv) := by show _ < _; omega
  have HS5 : Hid (bi + 1 < w5.heap.size) := by show _ < _; omega
  clear hb56 hs6 hLk6 hb16 hra6 hx6 hbxL hnumL hb45 hb5 hs5 bI5 bO5 hs4 HW5 KM
  gi_wp2_with fail
  refine range_stops rfl (by omega) (gf := 42) (lb := #[.pointer (some ⟨Bv, 0, none⟩)]) rfl trivial (enters_of Try.func42 (by kernel_rfl) rfl)
    (fun x : Int => #[Value.int .i64 x]) (fun _ => rfl)
    (fun j x V => (∃ p, p ≤ q' ∧ (Sl.mis C p).length = j ∧ LkS w6 bi p V) ∧ ((Sl.mis C q').map fun (i : Nat) => (i : Int))[j]? = some x)
    (fun j V => ∃ p, p ≤ q' ∧ (Sl.mis C p).length = j ∧ LkS w6 bi p V)
    (fun _ _ => False) (fun _ _ => True) (Sl.mis C q').length
    (fun j x V l o o' h hl ho hc' => by
      obtain ⟨⟨i, h1, h2, h3⟩, h4⟩ := h
      exact ⟨⟨i, h1, h2, h3.below hbiw (below_put V o' hl)⟩, h4⟩)
    (fun j V l o o' h hl ho hc' => by
      obtain ⟨i, h1, h2, h3⟩ := h
      exact ⟨i, h1, h2, h3.below hbiw (below_put V o' hl)⟩)
    (fun _ _ _ _ _ h _ _ _ => h)
    (fun _ _ _ _ _ => trivial) (fun _ _ _ _ _ _ _ => trivial)
    (fun o => ⟨0, by omega, rfl, HL6.out.below hbiw (((Below.refl w6.heap.size w6).alloc (Nat.le_refl _) _).alloc (by simp) _)⟩) ?a1 ?assign ?body ?iter ?done ?stop
  case assign =>
    intro l x V K hK
    gi_wp2
    exact hK
  case body =>
    rintro l j x V hl ⟨⟨p, hpq, hpj, hLk⟩, hx⟩ hj
    rw [List.getElem?_map] at hx
    obtain ⟨qq, hqq, rfl⟩ := Option.map_eq_some_iff.1 hx
    obtain ⟨hqn, hqh, hpqq, hnext, hbetw⟩ := Sl.mis_next hqq hpj
    have HNX0 := Lib.hid hnext
    have HBT := Lib.hid hbetw
    have HQH := Lib.hid hqh
    have HLK := Lib.hid hLk
    have hqn' : (qq : Int) < (q' : Int) := by omega
    clear hx hqq hqh hnext hbetw hLk hpj hj hnil
    gi_wp2_with fail
    gi_loopw [] (fun wr => ∃ d : Nat, p ≤ d ∧ d ≤ qq ∧ LkS w6 bi d wr ∧ KeepsOthers V wr) (fun wr => 256 - inBoxS bi wr)
    case atStart => exact ⟨p, Nat.le_refl _, hpqq, HLK.out, KeepsOthers.refl _⟩
    case round =>
      obtain ⟨d, hpd, hdq, hLd, hko⟩ := hrel
      have kI := hLd.at'.cell
      obtain ⟨⟨c0, c1, c2, c3, c4, c5⟩, hraV⟩ := HHV.out wr hLd.off
      have hdn : (d : Int) < (q' : Int) := by omega
      have KHs := rhas_any v k s 0 hraV d
      unfold HasR at KHs
      rw [HCC.out] at KHs
      unfold frV frC at KHs
      have HLD := Lib.hid hLd
      have HKO := Lib.hid hko
      have hsz := hLd.off.size
      clear hLd hko hraV
      rename World => wr
      gi_wp2_with fail
      refine ⟨trivial, ?_⟩
      refine (callsIn_wide.2 KHs).mono ?_
      rintro e W1 ⟨hbW1, hor⟩
      have hL1 : LkS w6 bi d W1 := HLD.out.below hbiw (hbW1.mono hsz)
      have hko1 := HKO.out.trans (keeps_below hbW1)
      have kI := hL1.at'.cell
      have fI := hL1.at'.frozen
      have kO := hL1.ok.cell
      have fO := hL1.ok.frozen
      obtain ⟨⟨c0, c1, c2, c3, c4, c5⟩, _⟩ := HHV.out W1 hL1.off
      rcases hor with ⟨hno, rfl⟩ | ⟨hyes, jj, f', _, _, rfl⟩
      · have hdq2 : d = qq := by
          rcases Nat.lt_or_ge d qq with h4 | h4
          · rw [HBT.out d hpd h4] at hno; cases hno
          · omega
        subst hdq2
        have hfin : LkS w6 bi (d + 1) ((W1.setCell ⟨bi + 1, 0, none⟩ (.bool true)).setCell ⟨bi, 0, none⟩ (.int .i64 ((d : Int) + 1))) := hL1.right.next
        have kI2 := hL1.right.at'.cell
        have fI2 := hL1.right.at'.frozen
        have HFIN := Lib.hid hfin
        have HKO1 := Lib.hid hko1
        clear KHs hbW1 hno hL1 hko1 hfin
        gi_wp2
        exact ⟨((HKO1.out.trans (KeepsOthers.setCell _ _ _)).trans (KeepsOthers.setCell _ _ _)).from _, ⟨d + 1, by omega, HNX0.out, HFIN.out⟩, trivial⟩
      · have h4 : d < qq := by
          rcases Nat.lt_or_ge d qq with h4 | h4
          · exact h4
          · obtain rfl : d = qq := by omega
            rw [HQH.out] at hyes; cases hyes
        have hnx := hL1.next
        have hinb := HLD.out.num
        have hnum := hnx.num
        have HNX := Lib.hid (And.intro hnx (And.intro hnum hinb))
        have HKO1 := Lib.hid hko1
        clear KHs hbW1 hyes hL1 hko1 hnx hinb hnum
        gi_wp2
        go_roundw
        case rel => exact ⟨d + 1, by omega, by omega, HNX.out.1, HKO1.out.trans (KeepsOthers.setCell _ _ _)⟩
        case measure => rw [HNX.out.2.1, HNX.out.2.2]; omega
  case iter =>
    intro Bk X l V hBk hBlt hX hlw hD hB hY
    have hbxV : Boxed V Bv 50 (.slice AL (misZ (fs.map Fr.ct) q').length cpL) := by
      obtain ⟨p, _, _, h1⟩ := hD
      have := HSBV.out
      exact (h1.off.block Bv hBvl (by omega)).trans HBX.out
    rw [hmz] at HBX HNL hbxV
    refine (values_in 2 (by omega) 1 l Bv AL _ cpL ((Sl.mis C q').map fun (i : Nat) => (i : Int)) rfl (by rw [List.length_map]; omega) (fun k V => (∃ p, p ≤ q' ∧ (Sl.mis C p).length = k ∧ LkS w6 bi p V) ∧ Bk V) X ?_ ?_ V hbxV.cell ⟨hD, hB⟩).mono ?_
    · rintro k W ⟨⟨p, _, _, h1⟩, _⟩
      refine ⟨Bv, (HNL.out.keeps (w' := W) ⟨h1.off.size, fun g hg => h1.off.block g (by omega) (by have := HS5.out; have := hg.1; omega)⟩).nums fun g hg => hg.2⟩
    · rintro k x W ⟨h1, h2⟩ hx
      refine (hY _ _ W ⟨h1, hx⟩ h2 (by have := (List.getElem?_eq_some_iff.1 hx).1; rwa [List.length_map] at this)).mono ?_
      rintro e V2 (⟨rfl, hd, _, _⟩ | ⟨rfl, hx, _⟩)
      · exact .inl ⟨rfl, hd⟩
      · exact .inr ⟨rfl, hx⟩
    · rw [List.length_map]
      exact fun _ _ h => h
  case done =>
    rintro D V hD ⟨p, hpq, hpj, hLk⟩ hK
    have hrest : ∀ d, p ≤ d → d < q' → Sl.has C d = true := fun d h1 h2 => Sl.mis_rest hpj h1 h2
    have HRS := Lib.hid hrest
    have HLK := Lib.hid hLk
    have HKD := Lib.hid hK
    clear hrest hpj hLk hK hnil
    gi_wp2_with fail
    gi_loopw [] (fun wr => ∃ d : Nat, p ≤ d ∧ d ≤ q' ∧ LkS w6 bi d wr ∧ wr.heap[D]? = some (.deferred (some []))) (fun wr => 256 - inBoxS bi wr)
    case atStart => exact ⟨p, Nat.le_refl _, hpq, HLK.out, HKD.out⟩
    case round =>
      obtain ⟨d, hpd, hdq, hLd, hKd⟩ := hrel
      have kI := hLd.at'.cell
      have fI := hLd.at'.frozen
      have kO := hLd.ok.cell
      have fO := hLd.ok.frozen
      obtain ⟨⟨c0, c1, c2, c3, c4, c5⟩, hraV⟩ := HHV.out wr hLd.off
      rcases Nat.lt_or_ge d q' with h4 | h4
      · have hdn : (d : Int) < (q' : Int) := by omega
        have KHs := rhas_any v k s 0 hraV d
        unfold HasR at KHs
        rw [HCC.out] at KHs
        unfold frV frC at KHs
        have HLD := Lib.hid hLd
        have hsz := hLd.off.size
        have hDlt := (Array.getElem?_eq_some_iff.1 hKd).1
        have HKd := Lib.hid hKd
        clear hLd hraV hKd
        rename World => wr
        gi_wp2_with fail
        refine ⟨trivial, ?_⟩
        refine (callsIn_wide.2 KHs).mono ?_
        rintro e W1 ⟨hbW1, hor⟩
        have hL1 : LkS w6 bi d W1 := HLD.out.below hbiw (hbW1.mono hsz)
        have hK1 := (hbW1.block D hDlt).trans HKd.out
        rcases hor with ⟨hno, _⟩ | ⟨hyes, jj, f', _, _, rfl⟩
        · rw [HRS.out d hpd h4] at hno; cases hno
        have kI := hL1.at'.cell
        have fI := hL1.at'.frozen
        have kO := hL1.ok.cell
        have fO := hL1.ok.frozen
        have kI2 := hL1.right.at'.cell
        have fI2 := hL1.right.at'.frozen
        have hnx := hL1.right.next
        have hnum := hnx.num
        have hinb := HLD.out.num
        have hKn : ((W1.setCell ⟨bi + 1, 0, none⟩ (.bool true)).setCell ⟨bi, 0, none⟩ (.int .i64 ((d : Int) + 1))).heap[D]? = some (.deferred (some [])) := (Below.heap_setCell _ ⟨bi, 0, none⟩ _ D (by simp; omega)).trans ((Below.heap_setCell W1 ⟨bi + 1, 0, none⟩ _ D (by simp; omega)).trans hK1)
        have HNX := Lib.hid (And.intro hnx (And.intro hnum (And.intro hinb hKn)))
        clear KHs hbW1 hyes hL1 hK1 hnx hnum hinb hKn
        gi_wp2
        go_roundw
        case rel => exact ⟨d + 1, by omega, by omega, HNX.out.1, HNX.out.2.2.2⟩
        case measure => rw [HNX.out.2.1, HNX.out.2.2.1]; omega
      · obtain rfl : d = q' := by omega
        have hbV := HB1.out.trans ((HB6.out.trans (hLd.off.below (fun k hk => by have := HS4.out; omega) HB6.out.size)).mono HB1.out.size)
        have HBV := Lib.hid hbV
        have hDw : w.heap.size ≤ D := by have := HB1.out.size; have := HB6.out.size; omega
        clear hLd hraV hbV
        gi_wp2
        refine ⟨by simp, .inl ⟨_, _, rfl, run_takeDeferred hKd, ?_⟩⟩
        refine ⟨_, results_tmp rfl _ _ _, rfl, ?_⟩
        exact HBV.out.trans (below_put (B := w.heap.size) _ (.deferred none) hDw)
  case stop =>
    rintro D cd V _ h _
    exact h.elim
set_option maxHeartbeats 8000000 in
theorem salike_part {w : World} {b m : Nat} {v k s : Int} {q : Nat} {E : List Pl} (h : SlotAt w b m v k s (q : Int) E) {A : Option Addr} {n cp : Nat} {fs : List Fr} (hr : RefAt w (q : Int) A n cp fs) (hp : (E.map Pl.ct).Perm (fs.map Fr.ct)) (hfull : n ≠ q) :
    Calls Try.prog 15 #[.pointer (some ⟨b, 0, none⟩), frV v k s 0 (q : Int) (.slice A n cp)] w fun e w' => e = .returned (.bool true) ∧ Below w.heap.size w w' := by
  obtain ⟨w1, hw1⟩ : ∃ w1, w.alloc (.cells (frC v k s 0 (q : Int) (.slice A n cp)) 35) = w1 := ⟨_, rfl⟩
  have hb1 : Below w.heap.size w w1 := by rw [← hw1]; exact (Below.refl _ w).alloc (Nat.le_refl _) _
  have hs1 : w1.heap.size = w.heap.size + 1 := by rw [← hw1]; simp
  have hx1 : w1.heap[w.heap.size]? = some (.cells (frC v k s 0 (q : Int) (.slice A n cp)) 35 (0, 0)) := by rw [← hw1]; exact World.alloc_heap_new _ _
  have HW1 : Hid (w.alloc (.cells #[.int .i64 v, .int .i64 k, .int .u32 s, .int .i64 0, .int .i64 (q : Int), .slice A n cp] 35) = w1) := Lib.hid hw1
  have HX : Hid (∀ W, Below w1.heap.size w1 W → SlotAt W b m v k s (q : Int) E ∧ RefAt W (q : Int) A n cp fs ∧ W.heap[w.heap.size]? = some (.cells (frC v k s 0 (q : Int) (.slice A n cp)) 35 (0, 0))) :=
    Lib.hid fun W hW => ⟨(h.below hb1).below hW, (hr.below hb1).below hW, (hW.block _ (by omega)).trans hx1⟩
  obtain ⟨q', hq', q1, q2, hEq, _⟩ := h.count
  obtain rfl : q' = q := by omega
  have hlE : E.length = n := by have := hp.length_eq; simp at this; rw [this, hr.len]
  have hcat := Sl.cat_perm hp h.keys E.length
  have htot := Sl.tot_perm hp
  have hmis := Sl.mis_perm hp q'
  have hHas := Lib.hid (Sl.has_perm hp)
  have KB := sbytes_any (HX.out w1 (Below.refl _ _)).1
  have HB1 := Lib.hid hb1
  have HS1 := Lib.hid hs1
  have HLE := Lib.hid hlE
  have HCAT := Lib.hid hcat
  have HTOT := Lib.hid htot
  have HMIS := Lib.hid hmis
  have hn0 : n ≤ 255 := hr.few_len
  have HFU := Lib.hid hfull
  clear hfull
  clear h hr hp hw1 hb1 hs1 hx1 hq' hlE hcat htot hmis hEq
  unfold frV frC at *
  unfold BytesR at KB
  rw [HCAT.out, HLE.out] at KB
  refine (callsIn_wide (n := 3)).1 ?_
  refine callsIn_of_wp_marks Try.func15 rfl trivial ?_ rfl
  simp only [Try.ntmps15, List.size_toArray, List.length_cons, List.length_nil, Nat.reduceAdd, Nat.reduceSub, Array.replicate_succ, Array.replicate_zero, List.push_toArray, List.append_toArray, List.nil_append, List.cons_append]
  gi_wp2_with fail
  refine ⟨trivial, ?_⟩
  rw [HW1.out]
  refine (callsIn_wide.2 KB).mono ?_
  rintro e w2 ⟨hb2, hor⟩
  have hFull : Calls Try.prog 30 #[.agg #[.int .i64 v, .int .i64 k, .int .u32 s, .int .i64 0, .int .i64 (q' : Int), .slice A n cp]] w2 fun e w' => e = .returned (.bool ((n : Int) == (q' : Int))) ∧ Below w2.heap.size w2 w' := rfull_any v k s 0 (by omega)
  obtain ⟨_, _, hx2⟩ := HX.out w2 hb2
  obtain ⟨d0, d1, d2, d3, d4, d5⟩ := fr_block hx2
  obtain ⟨hne, rfl⟩ := (hor.resolve_right fun h => by
    have := h.1
    have := HFU.out
    omega)
  have e1 : ((n : Int) == (q' : Int)) = false := by have := HFU.out; simp; omega
  clear hne
  rw [e1] at hFull
  have HB2 := Lib.hid hb2
  have HEQ : Hid (((n : Int) == (q' : Int)) = false) := Lib.hid e1
  clear KB hb2 e1 hx2 hor
  gi_wp2_with fail
  refine ⟨trivial, ?_⟩
  refine (callsIn_wide.2 hFull).mono ?_
  rintro e w3 ⟨rfl, hb3⟩
  clear hFull d0 d1 d2 d3 d4 d5
  have hb13 := HB2.out.trans (hb3.mono HB2.out.size)
  have HI3 : Hid (∀ V, Below w3.heap.size w3 V → Below w1.heap.size w1 V) := Lib.hid fun V hV => hb13.trans (hV.mono hb13.size)
  have LH : ∀ V, Below w3.heap.size w3 V → (Instr.loadAt 31 (.pointer (some ⟨w.heap.size, 0, none⟩))).run Try.prog V = .ok (Value.agg #[.int .i64 v, .int .i64 k, .int .u32 s, .int .i64 0, .int .i64 (q' : Int)]) V := fun V hV => by
    obtain ⟨_, _, hx⟩ := HX.out V (HI3.out V hV)
    obtain ⟨d0, d1, d2, d3, d4, d5⟩ := fr_block hx
    simp [Instr.loadAt, go_sem, d0, d1, d2, d3, d4]
  have LL : ∀ V, Below w3.heap.size w3 V → (Instr.loadAt 33 (.pointer (some ⟨w.heap.size, 5, none⟩))).run Try.prog V = .ok (.slice A n cp) V := fun V hV => by
    obtain ⟨_, _, hx⟩ := HX.out V (HI3.out V hV)
    obtain ⟨d0, d1, d2, d3, d4, d5⟩ := fr_block hx
    simp [Instr.loadAt, go_sem, d5]
  have LS : ∀ V, Below w3.heap.size w3 V → (Instr.loadAt 35 (.pointer (some ⟨w.heap.size, 0, none⟩))).run Try.prog V = .ok (Value.agg #[.int .i64 v, .int .i64 k, .int .u32 s, .int .i64 0, .int .i64 (q' : Int), .slice A n cp]) V := fun V hV => by
    obtain ⟨_, _, hx⟩ := HX.out V (HI3.out V hV)
    obtain ⟨d0, d1, d2, d3, d4, d5⟩ := fr_block hx
    simp [Instr.loadAt, go_sem, d0, d1, d2, d3, d4, d5]
  have KH : Hid (∀ V, Below w3.heap.size w3 V → Calls Try.prog 22 #[.pointer (some ⟨b, 0, none⟩)] V fun e w' => e = .returned (Value.agg #[.int .i64 v, .int .i64 k, .int .u32 s, .int .i64 0, .int .i64 (q' : Int)]) ∧ Below V.heap.size V w') := Lib.hid fun V hV => shead_any (HX.out V (HI3.out V hV)).1
  have KV : Hid (∀ V, Below w3.heap.size w3 V → Calls Try.prog 18 #[.pointer (some ⟨b, 0, none⟩)] V fun e w' => e = .returned (.int .i64 (n : Int)) ∧ Below V.heap.size V w') := Lib.hid fun V hV => (shave_any (HX.out V (HI3.out V hV)).1).mono fun e w' ⟨he, hw⟩ => ⟨by rw [he, HLE.out], by rw [hw]; exact Below.refl _ _⟩
  obtain ⟨T, hT⟩ : ∃ T, Sl.tot (fs.map Fr.ct) = T := ⟨_, rfl⟩
  have KZ : Hid (∀ V, Below w3.heap.size w3 V → Calls Try.prog 23 #[.pointer (some ⟨b, 0, none⟩)] V fun e w' => e = .returned (.int .i64 (T : Int)) ∧ Below V.heap.size V w') := Lib.hid fun V hV => by
    have := ssize_any (HX.out V (HI3.out V hV)).1
    rwa [HTOT.out, hT] at this
  have KY : Hid (∀ V, Below w3.heap.size w3 V → Calls Try.prog 28 #[Value.agg #[.int .i64 v, .int .i64 k, .int .u32 s, .int .i64 0, .int .i64 (q' : Int), .slice A n cp]] V fun e w' => e = .returned (.int .i64 (T : Int)) ∧ Below V.heap.size V w') := Lib.hid fun V hV => by
    have := rsize_any v k s 0 (HX.out V (HI3.out V hV)).2.1
    rwa [hT] at this
  have KF : Hid (∀ V, Below w3.heap.size w3 V → Calls Try.prog 17 #[.pointer (some ⟨b, 0, none⟩)] V fun e w' => e = .returned (.bool false) ∧ Below V.heap.size V w') := Lib.hid fun V hV => (sfull_any (HX.out V (HI3.out V hV)).1).mono fun e w' ⟨he, d, hw⟩ => ⟨by rw [he, HLE.out, HEQ.out], by rw [hw]; exact below_drewN (Below.refl _ _) d⟩
  clear hT hb13
  gi_wp2_with fail
  refine wpIn_wide.2 ?_
  refine wp_region_F 69 [] (fun _ _ _ => True) (fun V => Below w3.heap.size w3 V) (by kernel_rfl) (by kernel_rfl) (by rfl) (by simp) (fun W W' h hb => h.trans (hb.mono h.size)) (fun _ _ _ _ _ _ => trivial) (Below.refl _ _).drew ?_
  repeat (refine wpF_pure rfl rfl ?_; go_big_quiet_step (fail); refine wpQuiet_nil ?_)
  refine wpF_call (f := 22) (args := #[.pointer (some ⟨b, 0, none⟩)]) (Value.agg #[.int .i64 v, .int .i64 k, .int .u32 s, .int .i64 0, .int .i64 (q' : Int)]) rfl rfl (fun x => by first | rfl | (simp [go_sem]; done)) KH.out ?_
  simp only [Act.put, List.setIfInBounds_toArray, List.set_cons_succ, List.set_cons_zero]
  repeat (refine wpF_pure rfl rfl ?_; go_big_quiet_step (fail); refine wpQuiet_nil ?_)
  refine wpF_load _ rfl (by rfl) (by rfl) (by rfl) LH ?_
  simp only [Act.put, List.setIfInBounds_toArray, List.set_cons_succ, List.set_cons_zero]
  repeat (refine wpF_pure rfl rfl ?_; go_big_quiet_step (fail); refine wpQuiet_nil ?_)
  refine wpF_call (f := 18) (args := #[.pointer (some ⟨b, 0, none⟩)]) (.int .i64 (n : Int)) rfl rfl (fun x => by first | rfl | (simp [go_sem]; done)) KV.out ?_
  simp only [Act.put, List.setIfInBounds_toArray, List.set_cons_succ, List.set_cons_zero]
  repeat (refine wpF_pure rfl rfl ?_; go_big_quiet_step (fail); refine wpQuiet_nil ?_)
  refine wpF_load _ rfl (by rfl) (by rfl) (by rfl) LL ?_
  simp only [Act.put, List.setIfInBounds_toArray, List.set_cons_succ, List.set_cons_zero]
  repeat (refine wpF_pure rfl rfl ?_; go_big_quiet_step (fail); refine wpQuiet_nil ?_)
  refine wpF_call (f := 23) (args := #[.pointer (some ⟨b, 0, none⟩)]) (.int .i64 (T : Int)) rfl rfl (fun x => by first | rfl | (simp [go_sem]; done)) KZ.out ?_
  simp only [Act.put, List.setIfInBounds_toArray, List.set_cons_succ, List.set_cons_zero]
  refine wpF_load _ rfl (by rfl) (by rfl) (by rfl) LS ?_
  simp only [Act.put, List.setIfInBounds_toArray, List.set_cons_succ, List.set_cons_zero]
  refine wpF_call (f := 28) (args := #[Value.agg #[.int .i64 v, .int .i64 k, .int .u32 s, .int .i64 0, .int .i64 (q' : Int), .slice A n cp]]) (.int .i64 (T : Int)) rfl rfl (fun x => by first | rfl | (simp [go_sem]; done)) KY.out ?_
  simp only [Act.put, List.setIfInBounds_toArray, List.set_cons_succ, List.set_cons_zero]
  repeat (refine wpF_pure rfl rfl ?_; go_big_quiet_step (fail); refine wpQuiet_nil ?_)
  refine wpF_call (f := 17) (args := #[.pointer (some ⟨b, 0, none⟩)]) (.bool false) rfl rfl (fun x => by first | rfl | (simp [go_sem]; done)) KF.out ?_
  simp only [Act.put, List.setIfInBounds_toArray, List.set_cons_succ, List.set_cons_zero]
  repeat (refine wpF_pure rfl rfl ?_; go_big_quiet_step (fail); refine wpQuiet_nil ?_)
  refine wpF_skip rfl rfl ?_
  simp only [Act.put, List.setIfInBounds_toArray, List.set_cons_succ, List.set_cons_zero]
  refine wpF_skip rfl rfl ?_
  simp only [Act.put, List.setIfInBounds_toArray, List.set_cons_succ, List.set_cons_zero]
  refine wpF_skip rfl rfl ?_
  simp only [Act.put, List.setIfInBounds_toArray, List.set_cons_succ, List.set_cons_zero]
  repeat (refine wpF_pure rfl rfl ?_; go_big_quiet_step (fail); refine wpQuiet_nil ?_)
  intro xs4 w4 hb4' _
  simp only [fill]
  have hb4 := HI3.out w4 hb4'
  have HB4 := Lib.hid hb4
  obtain ⟨w5, hw5⟩ : ∃ w5, (w4.alloc (.cells #[.int .i64 0] 3)).alloc (.cells #[.bool true] 4) = w5 := ⟨_, rfl⟩
  have hb45 : Below w4.heap.size w4 w5 := by rw [← hw5]; exact ((Below.refl _ w4).alloc (Nat.le_refl _) _).alloc (by simp) _
  have hs5 : w5.heap.size = w4.heap.size + 2 := by rw [← hw5]; simp
  have bI5 : Boxed w5 w4.heap.size 3 (.int .i64 0) := by rw [← hw5]; exact (Boxed.new w4 _ _).alloc _
  have bO5 : Boxed w5 (w4.heap.size + 1) 4 (.bool true) := by
    rw [← hw5]
    have := Boxed.new (w4.alloc (.cells #[.int .i64 0] 3)) 4 (.bool true)
    rwa [World.size_alloc] at this
  have hb5 : Below w1.heap.size w1 w5 := hb4.trans (hb45.mono hb4.size)
  have KM := smissing_any (HX.out w5 hb5).1
  have hmz : misZ (E.map Pl.ct) q' = misZ (fs.map Fr.ct) q' := by unfold misZ; rw [HMIS.out]
  rw [hmz] at KM
  have HW5 := Lib.hid hw5
  have hs4 : w1.heap.size ≤ w4.heap.size := hb4.size
  clear LH LL LS KH KV KZ KY KF hb4' hb4 hw5 hmz
  gi_wp2_with fail
  refine ⟨trivial, ?_⟩
  rw [HW5.out]
  refine (callsIn_wide.2 KM).mono ?_
  rintro e w6 ⟨Bv, AL, cpL, rfl, hb56, hBv, hbxL, hcpL, hnumL⟩
  obtain ⟨bi, hbi⟩ : ∃ bi, w4.heap.size = bi := ⟨_, rfl⟩
  rw [hbi] at hs5 bI5 bO5
  have hs6 : w5.heap.size ≤ w6.heap.size := hb56.size
  have hLk6 : LkS w6 bi 0 w6 := ⟨(hb56.block _ (by omega)).trans bI5, (hb56.block _ (by omega)).trans bO5, Off.refl _ _⟩
  have hb16 : Below w1.heap.size w1 w6 := hb5.trans (hb56.mono hb5.size)
  obtain ⟨_, hra6, hx6⟩ := HX.out w6 hb16
  have HHV : Hid (∀ V, Off (fun k => k = bi ∨ k = bi + 1) w6 V → (V.cell? ⟨w.heap.size, 0, none⟩ = some (.int .i64 v) ∧ V.cell? ⟨w.heap.size, 1, none⟩ = some (.int .i64 k) ∧ V.cell? ⟨w.heap.size, 2, none⟩ = some (.int .u32 s) ∧ V.cell? ⟨w.heap.size, 3, none⟩ = some (.int .i64 0) ∧ V.cell? ⟨w.heap.size, 4, none⟩ = some (.int .i64 (q' : Int)) ∧ V.cell? ⟨w.heap.size, 5, none⟩ = some (.slice A n cp)) ∧ RefAt V (q' : Int) A n cp fs) := Lib.hid fun V hV => by
    have hB : Below w1.heap.size w1 V := hb16.trans (hV.below (fun k hk => by omega) hb16.size)
    obtain ⟨_, h2, h3⟩ := HX.out V hB
    exact ⟨fr_block h3, h2⟩
  have HB6 := Lib.hid hb16
  have HL6 := Lib.hid hLk6
  have HBX := Lib.hid hbxL
  have HNL := Lib.hid hnumL
  obtain ⟨C, hC⟩ : ∃ C, fs.map Fr.ct = C := ⟨_, rfl⟩
  have HCC := Lib.hid hC
  have hmz : misZ (fs.map Fr.ct) q' = (Sl.mis C q').map fun (i : Nat) => (i : Int) := by rw [hC]; rfl
  have hLl : (Sl.mis C q').length ≤ 255 := by have := Sl.mis_few C q'; omega
  have hBvl := hbxL.lt
  have hnil := values_not_nil Bv w6
  have hbiw : bi + 1 < w6.heap.size := by omega
  have HS4 : Hid (w1.heap.size ≤ bi) := by show _ ≤ _; omega
  have HSBV : Hid (bi + 1 < Bv) := by show _ < _; omega
  have HS5 : Hid (bi + 1 < w5.heap.size) := by show _ < _; omega
  clear hb56 hs6 hLk6 hb16 hra6 hx6 hbxL hnumL hb45 hb5 hs5 bI5 bO5 hs4 HW5 KM
  gi_wp2_with fail
  refine range_stops rfl (by omega) (gf := 42) (lb := #[.pointer (some ⟨Bv, 0, none⟩)]) rfl trivial (enters_of Try.func42 (by kernel_rfl) rfl)
    (fun x : Int => #[Value.int .i64 x]) (fun _ => rfl)
    (fun j x V => (∃ p, p ≤ q' ∧ (Sl.mis C p).length = j ∧ LkS w6 bi p V) ∧ ((Sl.mis C q').map fun (i : Nat) => (i : Int))[j]? = some x)
    (fun j V => ∃ p, p ≤ q' ∧ (Sl.mis C p).length = j ∧ LkS w6 bi p V)
    (fun _ _ => False) (fun _ _ => True) (Sl.mis C q').length
    (fun j x V l o o' h hl ho hc' => by
      obtain ⟨⟨i, h1, h2, h3⟩, h4⟩ := h
      exact ⟨⟨i, h1, h2, h3.below hbiw (below_put V o' hl)⟩, h4⟩)
    (fun j V l o o' h hl ho hc' => by
      obtain ⟨i, h1, h2, h3⟩ := h
      exact ⟨i, h1, h2, h3.below hbiw (below_put V o' hl)⟩)
    (fun _ _ _ _ _ h _ _ _ => h)
    (fun _ _ _ _ _ => trivial) (fun _ _ _ _ _ _ _ => trivial)
    (fun o => ⟨0, by omega, rfl, HL6.out.below hbiw (((Below.refl w6.heap.size w6).alloc (Nat.le_refl _) _).alloc (by simp) _)⟩) ?a1 ?assign ?body ?iter ?done ?stop
  case assign =>
    intro l x V K hK
    gi_wp2
    exact hK
  case body =>
    rintro l j x V hl ⟨⟨p, hpq, hpj, hLk⟩, hx⟩ hj
    rw [List.getElem?_map] at hx
    obtain ⟨qq, hqq, rfl⟩ := Option.map_eq_some_iff.1 hx
    obtain ⟨hqn, hqh, hpqq, hnext, hbetw⟩ := Sl.mis_next hqq hpj
    have HNX0 := Lib.hid hnext
    have HBT := Lib.hid hbetw
    have HQH := Lib.hid hqh
    have HLK := Lib.hid hLk
    have hqn' : (qq : Int) < (q' : Int) := by omega
    clear hx hqq hqh hnext hbetw hLk hpj hj hnil
    gi_wp2_with fail
    gi_loopw [] (fun wr => ∃ d : Nat, p ≤ d ∧ d ≤ qq ∧ LkS w6 bi d wr ∧ KeepsOthers V wr) (fun wr => 256 - inBoxS bi wr)
    case atStart => exact ⟨p, Nat.le_refl _, hpqq, HLK.out, KeepsOthers.refl _⟩
    case round =>
      obtain ⟨d, hpd, hdq, hLd, hko⟩ := hrel
      have kI := hLd.at'.cell
      obtain ⟨⟨c0, c1, c2, c3, c4, c5⟩, hraV⟩ := HHV.out wr hLd.off
      have hdn : (d : Int) < (q' : Int) := by omega
      have KHs := rhas_any v k s 0 hraV d
      unfold HasR at KHs
      rw [HCC.out] at KHs
      unfold frV frC at KHs
      have HLD := Lib.hid hLd
      have HKO := Lib.hid hko
      have hsz := hLd.off.size
      clear hLd hko hraV
      rename World => wr
      gi_wp2_with fail
      refine ⟨trivial, ?_⟩
      refine (callsIn_wide.2 KHs).mono ?_
      rintro e W1 ⟨hbW1, hor⟩
      have hL1 : LkS w6 bi d W1 := HLD.out.below hbiw (hbW1.mono hsz)
      have hko1 := HKO.out.trans (keeps_below hbW1)
      have kI := hL1.at'.cell
      have fI := hL1.at'.frozen
      have kO := hL1.ok.cell
      have fO := hL1.ok.frozen
      obtain ⟨⟨c0, c1, c2, c3, c4, c5⟩, _⟩ := HHV.out W1 hL1.off
      rcases hor with ⟨hno, rfl⟩ | ⟨hyes, jj, f', _, _, rfl⟩
      · have hdq2 : d = qq := by
          rcases Nat.lt_or_ge d qq with h4 | h4
          · rw [HBT.out d hpd h4] at hno; cases hno
          · omega
        subst hdq2
        have hfin : LkS w6 bi (d + 1) ((W1.setCell ⟨bi + 1, 0, none⟩ (.bool true)).setCell ⟨bi, 0, none⟩ (.int .i64 ((d : Int) + 1))) := hL1.right.next
        have kI2 := hL1.right.at'.cell
        have fI2 := hL1.right.at'.frozen
        have HFIN := Lib.hid hfin
        have HKO1 := Lib.hid hko1
        clear KHs hbW1 hno hL1 hko1 hfin
        gi_wp2
        exact ⟨((HKO1.out.trans (KeepsOthers.setCell _ _ _)).trans (KeepsOthers.setCell _ _ _)).from _, ⟨d + 1, by omega, HNX0.out, HFIN.out⟩, trivial⟩
      · have h4 : d < qq := by
          rcases Nat.lt_or_ge d qq with h4 | h4
          · exact h4
          · obtain rfl : d = qq := by omega
            rw [HQH.out] at hyes; cases hyes
        have hnx := hL1.next
        have hinb := HLD.out.num
        have hnum := hnx.num
        have HNX := Lib.hid (And.intro hnx (And.intro hnum hinb))
        have HKO1 := Lib.hid hko1
        clear KHs hbW1 hyes hL1 hko1 hnx hinb hnum
        gi_wp2
        go_roundw
        case rel => exact ⟨d + 1, by omega, by omega, HNX.out.1, HKO1.out.trans (KeepsOthers.setCell _ _ _)⟩
        case measure => rw [HNX.out.2.1, HNX.out.2.2]; omega
  case iter =>
    intro Bk X l V hBk hBlt hX hlw hD hB hY
    have hbxV : Boxed V Bv 50 (.slice AL (misZ (fs.map Fr.ct) q').length cpL) := by
      obtain ⟨p, _, _, h1⟩ := hD
      have := HSBV.out
      exact (h1.off.block Bv hBvl (by omega)).trans HBX.out
    rw [hmz] at HBX HNL hbxV
    refine (values_in 2 (by omega) 1 l Bv AL _ cpL ((Sl.mis C q').map fun (i : Nat) => (i : Int)) rfl (by rw [List.length_map]; omega) (fun k V => (∃ p, p ≤ q' ∧ (Sl.mis C p).length = k ∧ LkS w6 bi p V) ∧ Bk V) X ?_ ?_ V hbxV.cell ⟨hD, hB⟩).mono ?_
    · rintro k W ⟨⟨p, _, _, h1⟩, _⟩
      refine ⟨Bv, (HNL.out.keeps (w' := W) ⟨h1.off.size, fun g hg => h1.off.block g (by omega) (by have := HS5.out; have := hg.1; omega)⟩).nums fun g hg => hg.2⟩
    · rintro k x W ⟨h1, h2⟩ hx
      refine (hY _ _ W ⟨h1, hx⟩ h2 (by have := (List.getElem?_eq_some_iff.1 hx).1; rwa [List.length_map] at this)).mono ?_
      rintro e V2 (⟨rfl, hd, _, _⟩ | ⟨rfl, hx, _⟩)
      · exact .inl ⟨rfl, hd⟩
      · exact .inr ⟨rfl, hx⟩
    · rw [List.length_map]
      exact fun _ _ h => h
  case done =>
    rintro D V hD ⟨p, hpq, hpj, hLk⟩ hK
    have hrest : ∀ d, p ≤ d → d < q' → Sl.has C d = true := fun d h1 h2 => Sl.mis_rest hpj h1 h2
    have HRS := Lib.hid hrest
    have HLK := Lib.hid hLk
    have HKD := Lib.hid hK
    clear hrest hpj hLk hK hnil
    gi_wp2_with fail
    gi_loopw [] (fun wr => ∃ d : Nat, p ≤ d ∧ d ≤ q' ∧ LkS w6 bi d wr ∧ wr.heap[D]? = some (.deferred (some []))) (fun wr => 256 - inBoxS bi wr)
    case atStart => exact ⟨p, Nat.le_refl _, hpq, HLK.out, HKD.out⟩
    case round =>
      obtain ⟨d, hpd, hdq, hLd, hKd⟩ := hrel
      have kI := hLd.at'.cell
      have fI := hLd.at'.frozen
      have kO := hLd.ok.cell
      have fO := hLd.ok.frozen
      obtain ⟨⟨c0, c1, c2, c3, c4, c5⟩, hraV⟩ := HHV.out wr hLd.off
      rcases Nat.lt_or_ge d q' with h4 | h4
      · have hdn : (d : Int) < (q' : Int) := by omega
        have KHs := rhas_any v k s 0 hraV d
        unfold HasR at KHs
        rw [HCC.out] at KHs
        unfold frV frC at KHs
        have HLD := Lib.hid hLd
        have hsz := hLd.off.size
        have hDlt := (Array.getElem?_eq_some_iff.1 hKd).1
        have HKd := Lib.hid hKd
        clear hLd hraV hKd
        rename World => wr
        gi_wp2_with fail
        refine ⟨trivial, ?_⟩
        refine (callsIn_wide.2 KHs).mono ?_
        rintro e W1 ⟨hbW1, hor⟩
        have hL1 : LkS w6 bi d W1 := HLD.out.below hbiw (hbW1.mono hsz)
        have hK1 := (hbW1.block D hDlt).trans HKd.out
        rcases hor with ⟨hno, _⟩ | ⟨hyes, jj, f', _, _, rfl⟩
        · rw [HRS.out d hpd h4] at hno; cases hno
        have kI := hL1.at'.cell
        have fI := hL1.at'.frozen
        have kO := hL1.ok.cell
        have fO := hL1.ok.frozen
        have kI2 := hL1.right.at'.cell
        have fI2 := hL1.right.at'.frozen
        have hnx := hL1.right.next
        have hnum := hnx.num
        have hinb := HLD.out.num
        have hKn : ((W1.setCell ⟨bi + 1, 0, none⟩ (.bool true)).setCell ⟨bi, 0, none⟩ (.int .i64 ((d : Int) + 1))).heap[D]? = some (.deferred (some [])) := (Below.heap_setCell _ ⟨bi, 0, none⟩ _ D (by simp; omega)).trans ((Below.heap_setCell W1 ⟨bi + 1, 0, none⟩ _ D (by simp; omega)).trans hK1)
        have HNX := Lib.hid (And.intro hnx (And.intro hnum (And.intro hinb hKn)))
        clear KHs hbW1 hyes hL1 hK1 hnx hnum hinb hKn
        gi_wp2
        go_roundw
        case rel => exact ⟨d + 1, by omega, by omega, HNX.out.1, HNX.out.2.2.2⟩
        case measure => rw [HNX.out.2.1, HNX.out.2.2.1]; omega
      · obtain rfl : d = q' := by omega
        have hbV := HB1.out.trans ((HB6.out.trans (hLd.off.below (fun k hk => by have := HS4.out; omega) HB6.out.size)).mono HB1.out.size)
        have HBV := Lib.hid hbV
        have hDw : w.heap.size ≤ D := by have := HB1.out.size; have := HB6.out.size; omega
        clear hLd hraV hbV
        gi_wp2
        refine ⟨by simp, .inl ⟨_, _, rfl, run_takeDeferred hKd, ?_⟩⟩
        refine ⟨_, results_tmp rfl _ _ _, rfl, ?_⟩
        exact HBV.out.trans (below_put (B := w.heap.size) _ (.deferred none) hDw)
  case stop =>
    rintro D cd V _ h _
    exact h.elim
end Go.Proofs.Ytoaclbdlgkgnpaa

namespace Go.Proofs.Ytoaclbdlgkgnpaa
open Go.RowKit
set_option maxRecDepth 100000

theorem ct_perm {E E' : List Pl} (h : E.Perm E') : (E.map Pl.ct).Perm (E'.map Pl.ct) := h.map _
/-- what Copy leaves -/
def CopyR (w : World) (v k s c : Int) (E : List Pl) (e : Ending) (w' : World) : Prop :=
  ∃ b m E', e = .returned (.pointer (some ⟨b, 0, none⟩)) ∧ SlotAt w' b m v k s c E' ∧ (E'.map Pl.ct).Perm (E.map Pl.ct) ∧ Below w.heap.size w w' ∧ w.heap.size ≤ b ∧ w.heap.size ≤ m
set_option maxHeartbeats 8000000 in
theorem scopy_any {w : World} {b m : Nat} {v k s c : Int} {E : List Pl} (h : SlotAt w b m v k s c E) :
    Calls Try.prog 11 #[.pointer (some ⟨b, 0, none⟩)] w (CopyR w v k s c E) := by
  obtain ⟨c0, c1, c2, c3, c4, c5⟩ := h.cells
  have hlt := h.size
  have hmlt := h.map.lt
  have hmm := @run_makeMap Try.prog
  obtain ⟨w2, hw2⟩ : ∃ w2, (w.alloc (.map #[] 0)).alloc (.cells #[.int .i64 v, .int .i64 k, .int .u32 s, .int .i64 0, .int .i64 c, .map (some w.heap.size)] 68) = w2 := ⟨_, rfl⟩
  have hb2 : Below w.heap.size w w2 := by rw [← hw2]; exact ((Below.refl _ w).alloc (Nat.le_refl _) _).alloc (by simp) _
  have hs2 : w2.heap.size = w.heap.size + 2 := by rw [← hw2]; simp
  have hnew : SlotAt w2 (w.heap.size + 1) w.heap.size v k s c [] := by
    have hr := World.alloc_heap_new (w.alloc (.map #[] 0)) (Obj.cells #[.int .i64 v, .int .i64 k, .int .u32 s, .int .i64 0, .int .i64 c, .map (some w.heap.size)] 68)
    rw [World.size_alloc, hw2] at hr
    have hm := (MapAt.new w).below ((Below.refl _ _).alloc (Nat.le_refl _) (Obj.cells #[.int .i64 v, .int .i64 k, .int .u32 s, .int .i64 0, .int .i64 c, .map (some w.heap.size)] 68))
    rw [hw2] at hm
    exact ⟨hr, hm, fun p hp => (by cases hp), fun p hp => (by cases hp), h.good, by simp [Sl.tot], h.word⟩
  have hold := h.below hb2
  have hmap2 := hold.map
  have d5 := hold.cells.2.2.2.2.2
  have HOLD := Lib.hid h
  have HNEW := Lib.hid hnew
  have HB2 := Lib.hid hb2
  have HW2 := Lib.hid hw2
  clear hold hw2 hb2 hnew h
  generalize hG : CopyR w v k s c E = G
  have HG := Lib.hid hG
  clear hG
  go_enter Try.func11, Try.ntmps11
  go_wp2_with (at_range; rw [HW2.out]; refine wpList_range_map rfl (.tmp 18) 66 rfl 3 37 Try.underlying66 rfl hmap2 ?_; intro w3 hrg3 hb3 hs3)
  try go_frame
  rw [hs2] at hrg3 hs3 ⊢
  go_loopw [4] (fun _ wr => ∃ D E2 : List Pl, RangeAt wr m (w.heap.size + 2) E D ∧ SlotAt wr (w.heap.size + 1) w.heap.size v k s c E2 ∧ Below w.heap.size w wr ∧ E2.map Pl.ct = D.map Pl.ct) (fun _ wr => wr.rangeLeft m (w.heap.size + 2))
  case atStart => exact ⟨[], [], hrg3, HNEW.out.below hb3, HB2.out.trans (hb3.mono HB2.out.size), rfl⟩
  case round =>
    obtain ⟨D, E2, hrg, hsl, hbw, hct⟩ := hrel
    go_wp2_with (at_next; refine wpList_next_map rfl (.tmp 19) rfl rfl hrg ?_ ?_)
    · intro hd
      have HFIN := Lib.hid (show CopyR w v k s c E (.returned (.pointer (some ⟨w.heap.size + 1, 0, none⟩))) wr from ⟨_, _, E2, rfl, hsl, by rw [hct]; exact hd.map _, hbw, by omega, Nat.le_refl _⟩)
      rw [HG.out] at HFIN
      clear hrg hsl hd hct
      go_wp2
      exact HFIN.out
    · intro p w1 hp hrg1 ho1 hs1 hen
      have hd1 := hrg1.left
      have hd0 := hrg.left
      obtain ⟨R, hperm⟩ := hrg1.sub
      have hlen := hperm.length_eq
      have hbw1 : Below w.heap.size w w1 := hbw.trans (ho1.below (fun q hq => by subst hq; omega) hbw.size)
      have hrc : w.heap.size + 2 < wr.heap.size := hrg.lt
      have hsl1 : SlotAt w1 (w.heap.size + 1) w.heap.size v k s c E2 := hsl.off ho1 (by omega) (by omega) (fun g cs hg e => by
        obtain ⟨A, clock, since, seen, c0, R, hb, h2, hr', _⟩ := hrg
        rw [e, hr'] at hg
        injection hg with hg
        cases hg)
      have hp1 := (HOLD.out.below hbw1).pays p hp
      have hpc := (HOLD.out.below hbw1).few p hp
      have hkeys := hrg1.keys.1
      have hnone : Pl.at E2 p.i = none := by
        have h1 := Pl.has_ct E2 p.i
        cases h9 : Pl.at E2 p.i with
        | none => rfl
        | some q =>
          rw [h9, hct] at h1
          have h2 := Sl.has_iff.1 h1
          have h3 := hkeys.1
          rw [List.map_append, List.nodup_append] at h3
          rw [List.map_map] at h2
          exact absurd rfl (h3.2.2 p.i h2 p.i (by simp))
      have hpi : p.i ≤ 9223372036854775807 := hkeys.2 p (by simp)
      have L1 : ∀ V, Below w1.heap.size w1 V → (Instr.loadAt 66 (.pointer (some ⟨w.heap.size + 1, 5, none⟩))).run Try.prog V = .ok (.map (some w.heap.size)) V := fun V hV => by
        obtain ⟨d0, d1, d2, d3, d4, d5⟩ := (hsl1.below hV).cells
        simp [Instr.loadAt, go_sem, d5]
      have hzl : p.zs.length ≤ 192 := by
        have h1 := tot_le hperm
        have h2 : Sl.tot ((D ++ [p]).map Pl.ct) = Sl.tot (D.map Pl.ct) + p.zs.length := by rw [List.map_append]; exact Sl.tot_push _ _
        have := HOLD.out.most
        omega
      have htot : Sl.tot (E2.map Pl.ct) + p.zs.length ≤ 192 := by
        have h1 := tot_le hperm
        have h2 : Sl.tot ((D ++ [p]).map Pl.ct) = Sl.tot (D.map Pl.ct) + p.zs.length := by rw [List.map_append]; exact Sl.tot_push _ _
        have := HOLD.out.most
        rw [hct]
        omega
      have HP1 := Lib.hid hp1
      have HSL1 := Lib.hid hsl1
      have HRG1 := Lib.hid hrg1
      have HNO := Lib.hid hnone
      have HBW1 := Lib.hid hbw1
      have HCT := Lib.hid hct
      have HPI := Lib.hid hpi
      have HPC := Lib.hid hpc
      have HD1 := Lib.hid hd1
      have HD0 := Lib.hid hd0
      have HLEN := Lib.hid hlen
      have HTOT := Lib.hid htot
      have HRC : Hid (w.heap.size + 2 < w1.heap.size) := by show _ < _; omega
      clear hp1 hsl1 hrg1 hnone hbw1 hct hpi hpc hd1 hd0 hlen htot hkeys hperm hrg hsl hbw hp
      go_wp2_with fail
      refine wp_region_FS 33 7 4 [31] (fun _ x V => ∃ A c2, x = .slice A p.zs.length c2 ∧ PayAt V ⟨p.i, A, c2, p.zs⟩) (fun V => Below w1.heap.size w1 V) (fun xs V V' => ∃ A c2, xs 31 = .slice A p.zs.length c2 ∧ PayAt V ⟨p.i, A, c2, p.zs⟩ ∧ MapAt V' w.heap.size (E2 ++ [⟨p.i, A, c2, p.zs⟩]) ∧ Off (fun q => q = w.heap.size) V V') (by kernel_rfl) (by kernel_rfl) (by rfl) (by kernel_rfl) (by rfl) (by simp) (fun W W' h hb => h.trans (hb.mono h.size)) (fun q x W W' ⟨A, c2, h1, h2⟩ hb => ⟨A, c2, h1, h2.below hb⟩) (Below.refl _ _).drew ?_
      repeat (first | (refine wpFS_step (wpF_nil rfl rfl rfl rfl ?_); simp only [wpF, Act.put, List.setIfInBounds_toArray, List.set_cons_succ, List.set_cons_zero]) | (refine wpFS_step (wpF_pure rfl rfl ?_); go_big_quiet_step (fail); refine wpQuiet_nil ?_; simp only [wpF]))
      refine wpFS_step (wpF_load _ rfl (by rfl) (by rfl) (by rfl) L1 ?_)
      simp only [wpF, Act.put, List.setIfInBounds_toArray, List.set_cons_succ, List.set_cons_zero]
      repeat (refine wpFS_step (wpF_pure rfl rfl ?_); go_big_quiet_step (fail); refine wpQuiet_nil ?_; simp only [wpF])
      refine wpFS_step (wpF_callsrc 31 (f := 25) (args := #[.slice p.a p.zs.length p.cp]) (by simp) rfl rfl rfl (fun x => by first | rfl | (simp [go_sem]; done)) (fun V hV => (clone_any p.a p.zs.length p.cp p.zs V rfl (by omega) ((HP1.out.below hV).nums)).mono fun e V' ⟨x, he, hm⟩ => ?_) ?_)
      · obtain ⟨A, c2, rfl, hp⟩ := hm.pay HP1.out.ne HP1.out.byte p.i
        exact ⟨_, he, ⟨A, c2, rfl, hp⟩, hm.2⟩
      simp only [wpF, Act.put, List.setIfInBounds_toArray, List.set_cons_succ, List.set_cons_zero]
      refine wpFS_upd rfl rfl rfl (fun xs V hV hx => ?_) ?_
      · obtain ⟨A, c2, e31, hp⟩ := hx 31 (by simp)
        obtain ⟨V', hrun, hmap, hoff, _⟩ := (HSL1.out.below hV).map.run_upd (P := Try.prog) (t := 66) Try.underlying66 Try.underlying3 ⟨p.i, A, c2, p.zs⟩ HPI.out HNO.out
        refine ⟨V', ?_, A, c2, e31, hp, hmap, hoff⟩
        simp only [Pl.val] at hrun
        simp only [fill, Act.put, Act.eval, e31]
        exact hrun
      simp only [wpFS]
      rintro xs V V' hV hx ⟨A, c2, e31, hp, hmap, hoff⟩
      have hSV := HSL1.out.below hV
      have hbV := HBW1.out.trans (hV.mono HBW1.out.size)
      have hncell : ∀ g cs, V.heap[g]? = some (.cells cs 5 (0, 0)) → ¬ (g = w.heap.size) := fun g cs hg e => hSV.map.not_cells _ _ _ (by rw [← e]; exact hg)
      have hfin : SlotAt V' (w.heap.size + 1) w.heap.size v k s c (E2 ++ [⟨p.i, A, c2, p.zs⟩]) := by
        refine ⟨(hoff.block _ hSV.size (by omega)).trans hSV.row, hmap, fun q hq => ?_, fun q hq => ?_, hSV.good, ?_, hSV.word⟩
        · rcases List.mem_append.1 hq with hq | hq
          · exact (hSV.pays q hq).off hoff hncell
          · obtain rfl := List.mem_singleton.1 hq
            exact hp.off hoff hncell
        · rcases List.mem_append.1 hq with hq | hq
          · exact hSV.few q hq
          · obtain rfl := List.mem_singleton.1 hq
            exact HPC.out
        · rw [List.map_append, List.map_singleton, Sl.tot_push]
          exact HTOT.out
      have hrgV := HRG1.out.below hV
      have hrgF : RangeAt V' m (w.heap.size + 2) E (D ++ [p]) := hrgV.off hoff (by omega) (by omega)
      have hbF : Below w.heap.size w V' := hbV.trans (hoff.below (fun q hq => by omega) hbV.size)
      have HFIN := Lib.hid (And.intro hfin (And.intro hrgF hbF))
      have hleft := hrgF.left
      have HLEFT := Lib.hid hleft
      clear hp hmap hoff hSV hbV hncell hfin hV hx hrgV hrgF hbF hleft L1
      simp only [fill, Act.put, List.setIfInBounds_toArray, List.set_cons_succ, List.set_cons_zero]
      generalize xs 31 = x31
      go_wp2
      go_roundw
      case rel => exact ⟨D ++ [p], _, HFIN.out.2.1, HFIN.out.1, HFIN.out.2.2, by rw [List.map_append, List.map_append, HCT.out]; rfl⟩
      case measure =>
        have h1 := HLEFT.out
        have h2 := HD0.out
        have h3 := HLEN.out
        rw [h1, h2]
        simp at h3 ⊢
        omega
end Go.Proofs.Ytoaclbdlgkgnpaa

namespace Go.Proofs.Ytoaclbdlgkgnpaa
open Go.RowKit

theorem run_append_any_at {P : Program} {w : World} (t ty : TypeId) (base : Nat) (e : TypeId) (i : TypeInfo) (z : Value) (bytes : Nat) (ht : P.underlying t = some (.slice e)) (hi : P.info? e = some i) (hz : i.zero = some z) (hsize : i.size = 1) (hby : i.bytes = bytes) (hzs : z.cells.size = 1)
    (k : IntKind) (n : Nat) (xs : List Value) (zs : List Int) (v : Value) (hown : w.ownsRow base e 1 v n xs) (A : Option Addr) (m c B : Nat) (hm : zs.length = m) (hn : Nums k w B A zs)
    (h63 : n + m ≤ maxLen) (hbytes : (n + m) * bytes ≤ 140737488355328) (hbase : base ≤ w.heap.size) :
    ∃ v' w', (Builtin.append_ #[t, t] ty #[v, .slice A m c]).run P w = .ok v' w' ∧ w'.ownsRow base e 1 v' (n + m) (xs ++ zs.map (Value.int k)) ∧ w.grownBy w' v.ownBlock ∧ (v'.ownBlock = v.ownBlock ∨ v'.ownBlock = some w.heap.size) := by
  subst hm
  by_cases hz0 : zs = []
  · subst hz0
    have hv : ∃ b n cap, v = .slice b n cap ∧ n ≤ cap := by
      rcases hown.2 with ⟨rfl, _⟩ | ⟨g, cap, cur, rfl, _, _, hle, _⟩
      · exact ⟨_, _, _, rfl, Nat.le_refl _⟩
      · exact ⟨_, _, _, rfl, hle⟩
    obtain ⟨b, q, cap, rfl, hle⟩ := hv
    refine ⟨_, _, run_append_nothing w t t ty e i ht hi b q cap hle _ ?_, by simpa using hown, ⟨rfl, rfl, rfl, Nat.le_refl _, fun _ _ _ => rfl⟩, .inl rfl⟩
    cases A with
    | none => exact ⟨.inl ⟨e, ht⟩, fun _ => rfl, run_firstCells_none w i.size 0 0 c, run_firstCells_none w.drew i.size 0 0 c, by simp, fun _ h => by cases h⟩
    | some ad => exact Src.ofSlice w ht ad 0 c [] (by simp) (by simp) (fun _ h => by cases h)
  · obtain ⟨b1, o1, rfl, hb1, hc⟩ := hn hz0
    obtain ⟨v', w', h1, h2, h3, _, h5⟩ := run_append_own_at (P := P) (w := w) base t ty e i z 1 bytes ht hi hz hsize hby hzs (by decide) v n xs hown ⟨b1, o1, none⟩ zs.length c (zs.map (Value.int k)) (by simp) (fun j u hj => by
      rw [List.getElem?_map] at hj
      obtain ⟨y, hy, rfl⟩ := Option.map_eq_some_iff.1 hj
      rw [Addr.add_lit]
      exact hc j y hy) (fun u hu => by obtain ⟨y, _, rfl⟩ := List.mem_map.1 hu; rfl) h63 hbytes hbase
    exact ⟨v', w', h1, h2, h3, h5⟩

theorem wpListIn_append_any_at {F : Fence} {nF : Nat} {P : Program} {w : World} {ops : Array Oper} {rest : List Oper} {o : Oper} {a : Act} {Q : Exit → Act → World → Prop} (hg : o.guard = none) (s x : Operand) (t : TypeId)
    (hop : o.op = Op.call { callee := Callee.builtin Builtin.append, args := #[s, x], argTypes := #[t, t] })
    (base : Nat) (e : TypeId) (i : TypeInfo) (z : Value) (bytes : Nat) (ht : P.underlying t = some (.slice e)) (hi : P.info? e = some i) (hz : i.zero = some z) (hsize : i.size = 1) (hby : i.bytes = bytes) (hzs : z.cells.size = 1)
    (k : IntKind) (n : Nat) (xs : List Value) (zs : List Int) (v : Value) (hs : a.eval s = v) (hown : w.ownsRow base e 1 v n xs) (A : Option Addr) (m c B : Nat) (hx : a.eval x = .slice A m c) (hm : zs.length = m) (hn : Nums k w B A zs)
    (h63 : n + m ≤ maxLen) (hbytes : (n + m) * bytes ≤ 140737488355328) (hbase : base ≤ w.heap.size)
    (hK : ∀ v' w', w'.ownsRow base e 1 v' (n + m) (xs ++ zs.map (Value.int k)) → w.grownBy w' v.ownBlock → (v'.ownBlock = v.ownBlock ∨ v'.ownBlock = some w.heap.size) → wpListIn F nF P ops Q rest (a.put o.dst v') w') :
    wpListIn F nF P ops Q (o :: rest) a w := by
  refine wpListIn_plain hg fun K hK' => ?_
  obtain ⟨v', w', hrun, r1, r2, r3⟩ := run_append_any_at (P := P) (w := w) t o.type base e i z bytes ht hi hz hsize hby hzs k n xs zs v hown A m c B hm hn h63 hbytes hbase
  unfold Oper.wpIn
  refine ⟨?_, ?_⟩
  · simp [Oper.about, hop, resolve, Target.leads, Sem.run_pure]
  · rw [Oper.semAt_plain F _ _ (by rw [hop]; intro c hc'; cases hc')]
    simp [execOp, hop, resolve, invoke, builtin, hs, hx, hrun, Result.andThen]
    exact hK' _ _ (hK v' w' r1 r2 r3)

/-- the block of the row that the box holds -/
def ownA (b : Nat) (W : World) : Option Nat := (W.cell? ⟨b, 0, none⟩).bind Value.ownBlock
/-- whatever is cells, but the two boxes and the one's row, is as it was -/
structure KpA (bI bA : Nat) (W W' : World) : Prop where
  size : W.heap.size ≤ W'.heap.size
  same : ∀ (k : Nat) (o : Obj), k ≠ bI → k ≠ bA → ownA bA W ≠ some k → W.heap[k]? = some o → o.isCells = true → W'.heap[k]? = some o
  own : ownA bA W' = ownA bA W ∨ ∃ g, ownA bA W' = some g ∧ W.heap.size ≤ g
section
variable {bI bA : Nat} {A B C : World}
theorem KpA.refl (bI bA : Nat) (A : World) : KpA bI bA A A := ⟨Nat.le_refl _, fun _ _ _ _ _ h _ => h, .inl rfl⟩
theorem KpA.trans (h : KpA bI bA A B) (k : KpA bI bA B C) : KpA bI bA A C := by
  refine ⟨Nat.le_trans h.size k.size, fun i o hi ha hown ho hc => ?_, ?_⟩
  · refine k.same i o hi ha (fun e => ?_) (h.same i o hi ha hown ho hc) hc
    rcases h.own with h1 | ⟨g, h1, h2⟩
    · rw [h1] at e; exact hown e
    · rw [h1] at e; injection e with e
      have := (Array.getElem?_eq_some_iff.1 ho).1
      omega
  · rcases k.own with h1 | ⟨g, h1, h2⟩
    · rcases h.own with h3 | ⟨g, h3, h4⟩
      · exact .inl (h1.trans h3)
      · exact .inr ⟨g, h1.trans h3, h4⟩
    · exact .inr ⟨g, h1, Nat.le_trans h.size h2⟩
theorem KpA.putObj {l : Nat} {W : World} {o o' : Obj} (hbl : bA < l) (ho : W.heap[l]? = some o) (hc : o.isCells = false) : KpA bI bA W (W.putObj l o') := by
  refine ⟨by simp [World.putObj], fun k p _ _ _ hp hpc => (World.putObj_heap_other (fun e => ?_)).trans hp, .inl ?_⟩
  · subst e
    rw [hp] at ho
    injection ho with ho
    subst ho
    rw [hpc] at hc; cases hc
  · unfold ownA
    rw [World.cell?_of_block (World.putObj_heap_other (by simp only; omega))]
theorem KpA.of_below {b : Nat} (h : Below b A B) (hs : A.heap.size ≤ b) (hb : bA < A.heap.size) : KpA bI bA A B := ⟨h.size, fun k _ _ _ _ ho _ => (h.block k (by have := (Array.getElem?_eq_some_iff.1 ho).1; omega)).trans ho, .inl (by unfold ownA; rw [h.cell (p := ⟨bA, 0, none⟩) (by simp only; omega)])⟩
end

/-- the boxes behind j rounds: the count, and the row, whose numbers are zs -/
structure TwoB (w : World) (bI bA : Nat) (tI tA e : TypeId) (k : IntKind) (j : Nat) (zs : List Int) (V : World) : Prop where
  cnt : Boxed V bI tI (.int .i64 ((j : Nat) : Int))
  row : ∃ v, Boxed V bA tA v ∧ V.ownsRow w.heap.size e 1 v zs.length (zs.map (Value.int k)) ∧ (j = 0 → v = .slice none 0 0)
  off : Off (fun q => q = bI ∨ q = bA) w V
section
variable {w V V1 V2 : World} {bI bA : Nat} {tI tA e : TypeId} {k : IntKind} {j : Nat} {zs : List Int}
theorem TwoB.putObj {l : Nat} {o o' : Obj} (h : TwoB w bI bA tI tA e k j zs V) (hI : bI < w.heap.size) (hA : bA < w.heap.size) (hl : w.heap.size ≤ l) (ho : V.heap[l]? = some o) (hc : o.isCells = false) : TwoB w bI bA tI tA e k j zs (V.putObj l o') := by
  obtain ⟨v, h1, h2, h3⟩ := h.row
  exact ⟨(World.putObj_heap_other (by omega)).trans h.cnt, ⟨v, (World.putObj_heap_other (by omega)).trans h1, ownsRow_putObj h2 _ ho hc, h3⟩, off_below h.off (below_put V o' hl)⟩
theorem TwoB.start (h : TwoB w bI bA tI tA e k 0 [] V) (hI : bI < w.heap.size) (hA : bA < w.heap.size) (hb : Below w.heap.size V V1) : TwoB w bI bA tI tA e k 0 [] V1 := by
  obtain ⟨v, h1, h2, h3⟩ := h.row
  refine ⟨(hb.block bI hI).trans h.cnt, ⟨v, (hb.block bA hA).trans h1, ?_, h3⟩, off_below h.off hb⟩
  rw [h3 rfl]
  exact World.ownsRow_nil _ _ _ _
theorem TwoB.own0 (h : TwoB w bI bA tI tA e k 0 zs V) : ownA bA V = none := by
  obtain ⟨v, h1, _, h3⟩ := h.row
  unfold ownA
  rw [h1.cell, h3 rfl]; rfl
/-- a round: the row grows, the count goes up -/
theorem TwoB.next {v v' : Value} {ys : List Int} {m : Nat} (h : TwoB w bI bA tI tA e k j zs V) (hv : Boxed V bA tA v) (hrow : V.ownsRow w.heap.size e 1 v zs.length (zs.map (Value.int k))) (hne : bI ≠ bA) (hI : bI < w.heap.size) (hA : bA < w.heap.size)
    (h1 : Below V.heap.size V V1) (hm : (zs ++ ys).length = m) (hown' : V2.ownsRow w.heap.size e 1 v' m (zs.map (Value.int k) ++ ys.map (Value.int k))) (hg : V1.grownBy V2 v.ownBlock) (hat : v'.ownBlock = v.ownBlock ∨ v'.ownBlock = some V1.heap.size) :
    Boxed V2 bA tA v ∧ Boxed V2 bI tI (.int .i64 (j : Int)) ∧ Boxed (V2.setCell ⟨bA, 0, none⟩ v') bI tI (.int .i64 (j : Int)) ∧
    TwoB w bI bA tI tA e k (j + 1) (zs ++ ys) ((V2.setCell ⟨bA, 0, none⟩ v').setCell ⟨bI, 0, none⟩ (.int .i64 ((j : Int) + 1))) ∧
    KeepsFrom w.heap.size V ((V2.setCell ⟨bA, 0, none⟩ v').setCell ⟨bI, 0, none⟩ (.int .i64 ((j : Int) + 1))) ∧ KpA bI bA V ((V2.setCell ⟨bA, 0, none⟩ v').setCell ⟨bI, 0, none⟩ (.int .i64 ((j : Int) + 1))) := by
  have hsV := h.off.size
  have hs1 := h1.size
  have hs2 := hg.size
  have hlt := hrow.lt
  have hlt' := hown'.lt
  have hnr : ∀ b, b < w.heap.size → some b ≠ v.ownBlock := fun b hb e2 => by have := (hlt b e2.symm).1; omega
  have hA2 : Boxed V2 bA tA v := (hg.block bA (by omega) (hnr bA hA)).trans ((h1.block bA (by omega)).trans hv)
  have hI2 : Boxed V2 bI tI (.int .i64 (j : Int)) := (hg.block bI (by omega) (hnr bI hI)).trans ((h1.block bI (by omega)).trans h.cnt)
  have hI3 : Boxed (V2.setCell ⟨bA, 0, none⟩ v') bI tI (.int .i64 (j : Int)) := hI2.other hne v'
  have hA3 : Boxed (V2.setCell ⟨bA, 0, none⟩ v') bA tA v' := hA2.set v'
  have hnr' : ∀ b, b < w.heap.size → v'.ownBlock = none ∨ v'.ownBlock ≠ some b := fun b hb => .inr fun e2 => by have := (hlt' b e2).1; omega
  have hr3 := hown'.kept (grownBy_setCell' V2 bA v') (hnr' bA hA)
  have hr4 := hr3.kept (grownBy_setCell' _ bI (.int .i64 ((j : Int) + 1))) (hnr' bI hI)
  have hblk : ∀ q, q < V.heap.size → q ≠ bI → q ≠ bA → some q ≠ v.ownBlock → ((V2.setCell ⟨bA, 0, none⟩ v').setCell ⟨bI, 0, none⟩ (.int .i64 ((j : Int) + 1))).heap[q]? = V.heap[q]? := fun q hq h3 h4 h5 =>
    (Below.heap_setCell _ ⟨bI, 0, none⟩ _ q h3).trans ((Below.heap_setCell _ ⟨bA, 0, none⟩ _ q h4).trans ((hg.block q (by omega) h5).trans (h1.block q hq)))
  have hsz : V.heap.size ≤ ((V2.setCell ⟨bA, 0, none⟩ v').setCell ⟨bI, 0, none⟩ (.int .i64 ((j : Int) + 1))).heap.size := by simp only [World.setCell, Array.size_modify]; omega
  have hAf : Boxed ((V2.setCell ⟨bA, 0, none⟩ v').setCell ⟨bI, 0, none⟩ (.int .i64 ((j : Int) + 1))) bA tA v' := hA3.other (Ne.symm hne) _
  have hcellV : ∀ q o, v.ownBlock = some q → V.heap[q]? = some o → o.isCells = true := fun q o ej hj => by
    rcases hrow.2 with ⟨rfl, _⟩ | ⟨g, cap, cur, rfl, _, hgb, _⟩
    · simp [Value.ownBlock] at ej
    · obtain rfl : g = q := by simpa [Value.ownBlock] using ej
      rw [hgb] at hj; cases hj; rfl
  refine ⟨hA2, hI2, hI3, ⟨?_, ⟨v', hAf, ?_, fun h0 => by omega⟩, ?_⟩, ?_, ?_⟩
  · rw [Int.natCast_succ]; exact hI3.set _
  · rw [hm, List.map_append]; exact hr4
  · refine ⟨hg.os.trans (h1.os.trans h.off.os), hg.tape.trans (h1.tape.trans h.off.tape), hg.output.trans (h1.output.trans h.off.output), Nat.le_trans hsV hsz, fun q hq hn => ?_⟩
    exact (hblk q (by omega) (fun e2 => hn (.inl e2)) (fun e2 => hn (.inr e2)) (hnr q hq)).trans (h.off.block q hq hn)
  · refine ⟨hsz, fun q o hq ho hc => ?_⟩
    have hql := (Array.getElem?_eq_some_iff.1 ho).1
    refine (hblk q hql (by omega) (by omega) (fun e2 => ?_)).trans ho
    have := hcellV q o e2.symm ho
    rw [hc] at this; cases this
  · have hoV : ownA bA V = v.ownBlock := by unfold ownA; rw [hv.cell]; rfl
    have hoF : ownA bA ((V2.setCell ⟨bA, 0, none⟩ v').setCell ⟨bI, 0, none⟩ (.int .i64 ((j : Int) + 1))) = v'.ownBlock := by unfold ownA; rw [hAf.cell]; rfl
    refine ⟨hsz, fun q o h3 h4 h5 ho hc => ?_, ?_⟩
    · have hql := (Array.getElem?_eq_some_iff.1 ho).1
      exact (hblk q hql h3 h4 (fun e2 => h5 (by rw [hoV, e2]))).trans ho
    · rw [hoF, hoV]
      rcases hat with h6 | h6
      · exact .inl h6
      · exact .inr ⟨_, h6, hs1⟩
end
end Go.Proofs.Ytoaclbdlgkgnpaa

namespace Go.Proofs.Ytoaclbdlgkgnpaa
open Go.RowKit Go.Shelf
set_option maxRecDepth 100000

structure TwoF (w2 : World) (bs : Nat) (tf tr tb : TypeId) (g1 g2 : List Fr) (W : World) (u v : Value) : Prop where
  off : Off (fun b => b = bs) w2 W
  box : Boxed W bs tb u
  one : W.ownsRow w2.heap.size tf 6 u g1.length (flatF g1)
  two : W.ownsRow w2.heap.size tr 6 v g2.length (flatF g2)
theorem own_of_block {W W' : World} {base e size n : Nat} {v : Value} {xs : List Value} (h : W.ownsRow base e size v n xs) (hk : ∀ g, base ≤ g → W'.heap[g]? = W.heap[g]?) : W'.ownsRow base e size v n xs :=
  ⟨h.1, h.2.imp id fun ⟨g, cap, cur, hv, hg, hh, r⟩ => ⟨g, cap, cur, hv, hg, (hk g hg).trans hh, r⟩⟩
section
variable {w2 W W' W4 : World} {bs : Nat} {tf tr tb : TypeId} {g1 g2 : List Fr} {u v u' v' : Value} {f : Fr}
theorem TwoF.below (h : TwoF w2 bs tf tr tb g1 g2 W u v) (hb : Below W.heap.size W W') : TwoF w2 bs tf tr tb g1 g2 W' u v :=
  ⟨(h.off.trans (Off.of_below hb : Off (fun b => b = bs) W W') (fun _ _ hS => hS)), (hb.block _ h.box.lt).trans h.box, own_below6 h.one hb, own_below6 h.two hb⟩
theorem TwoF.push1 (h : TwoF w2 bs tf tr tb g1 g2 W u v) (hne : tf ≠ tr) (hbs : bs < w2.heap.size) (hown : W4.ownsRow w2.heap.size tf 6 u' (g1.length + 1) (flatF g1 ++ f.cs.toList)) (hg : W.grownBy W4 u.ownBlock) :
    TwoF w2 bs tf tr tb (g1 ++ [f]) g2 (W4.setCell ⟨bs, 0, none⟩ u') u' v := by
  have hlo : ∀ g, u.ownBlock = some g → w2.heap.size ≤ g := fun g hk => (h.one.lt g hk).1
  have ho : Off (fun b => b = bs) w2 W4 := ⟨hg.os.trans h.off.os, hg.tape.trans h.off.tape, hg.output.trans h.off.output, Nat.le_trans h.off.size hg.size, fun k hk hn => by
    rw [hg.block k (by have := h.off.size; omega) (fun e => by have := hlo k e.symm; omega)]
    exact h.off.block k hk hn⟩
  have hb4 : Boxed W4 bs tb u := h.box.kept hg (fun e => by have := hlo bs e.symm; omega)
  have hset : ∀ g, w2.heap.size ≤ g → (W4.setCell ⟨bs, 0, none⟩ u').heap[g]? = W4.heap[g]? := fun g hg' => Below.heap_setCell W4 ⟨bs, 0, none⟩ _ _ (by simp only; omega)
  refine ⟨ho.setCell (p := ⟨bs, 0, none⟩) rfl _, hb4.set _, ?_, ?_⟩
  · rw [List.length_append, List.length_singleton, flatF_push]
    exact own_of_block hown hset
  · exact own_of_block (h.two.kept hg (own_apart h.two h.one (Ne.symm hne))) hset
theorem TwoF.push2 (h : TwoF w2 bs tf tr tb g1 g2 W u v) (hne : tf ≠ tr) (hbs : bs < w2.heap.size) (hown : W4.ownsRow w2.heap.size tr 6 v' (g2.length + 1) (flatF g2 ++ f.cs.toList)) (hg : W.grownBy W4 v.ownBlock) :
    TwoF w2 bs tf tr tb g1 (g2 ++ [f]) W4 u v' := by
  have hlo : ∀ g, v.ownBlock = some g → w2.heap.size ≤ g := fun g hk => (h.two.lt g hk).1
  refine ⟨⟨hg.os.trans h.off.os, hg.tape.trans h.off.tape, hg.output.trans h.off.output, Nat.le_trans h.off.size hg.size, fun k hk hn => ?_⟩, h.box.kept hg (fun e => by have := hlo bs e.symm; omega), h.one.kept hg (own_apart h.one h.two hne), ?_⟩
  · rw [hg.block k (by have := h.off.size; omega) (fun e => by have := hlo k e.symm; omega)]
    exact h.off.block k hk hn
  · rw [List.length_append, List.length_singleton, flatF_push]
    exact hown
theorem own_frs {base e : Nat} (h : W.ownsRow base e 6 u g1.length (flatF g1)) (hat : ∀ f ∈ g1, f.At W W.heap.size) : ∃ A c, u = .slice A g1.length c ∧ g1.length ≤ c ∧ FrsAt W W.heap.size A g1 := by
  rcases h.2 with ⟨rfl, h0⟩ | ⟨g, cap, cur, rfl, hbg, hh, hle, _⟩
  · rw [List.eq_nil_of_length_eq_zero h0]
    exact ⟨none, 0, rfl, Nat.le_refl _, fun f hf => by simp at hf, fun i f hi => by simp at hi⟩
  · refine ⟨_, cap, rfl, hle, hat, fun j f hj => ⟨g, 0, rfl, (Array.getElem?_eq_some_iff.1 hh).1, fun q x hq => ?_⟩⟩
    have h1 := h.cells (g := g) rfl (j * 6 + q) x (flatF_at hj hq)
    rw [Addr.add_lit] at h1
    rw [Nat.add_assoc]
    exact h1
end
theorem firstBad_push : ∀ (gs : List Fr) (f : Fr), firstBad (gs ++ [f]) = if firstBad gs = 0 then f.chk else firstBad gs
  | [], f => by by_cases h : f.chk = 0 <;> simp [firstBad, h]
  | g :: r, f => by
    rw [List.cons_append, firstBad, firstBad, firstBad_push r f]
    by_cases h : g.chk = 0 <;> simp [h]
/-- a frame, cut -/
def Fr.cut (f : Fr) : Fr := ⟨f.v, f.k, f.s, f.i, f.c, f.a, f.cp, f.zs.take 250⟩
theorem Fr.cut_at {w : World} {B : Nat} {f : Fr} (h : f.At w B) : f.cut.At w B :=
  ⟨h.s0, h.s1, by unfold Fr.cut; simp only [List.length_take]; have := h.room; omega, by unfold Fr.cut; simp only [List.length_take]; have := h.few; omega, h.byte.take 250, h.nums.take 250⟩
end Go.Proofs.Ytoaclbdlgkgnpaa

namespace Go.Proofs.Ytoaclbdlgkgnpaa
open Go.RowKit
set_option maxRecDepth 100000

theorem sfInfo : (Try.prog.info? 45).map (fun i => (i.zero, i.size, i.bytes)) = some (some (.agg #[.int .i64 0, .int .i64 0, .int .u32 0, .int .i64 0, .int .i64 0, .slice none 0 0]), 6, 64) := by kernel_rfl
theorem ssInfo : (Try.prog.info? 35).map (·.size) = some 6 := by kernel_rfl
theorem fs_one (v k s i c : Int) (A : Option Addr) (n cp : Nat) : (frC v k s i c (.slice A n cp)).all (·.oneCell') = true := by simp [frC, Value.oneCell']
theorem flatF_get {fs : List Fr} {p : Nat} {u : Value} (h : (flatF fs)[p]? = some u) : ∃ (j q : Nat) (f : Fr), p = j * 6 + q ∧ fs[j]? = some f ∧ f.cs[q]? = some u := by
  have hlt := (List.getElem?_eq_some_iff.1 h).1
  rw [flatF_len] at hlt
  have hj : p / 6 < fs.length := by omega
  obtain ⟨f, hf⟩ : ∃ f, fs[p / 6]? = some f := ⟨_, List.getElem?_eq_getElem hj⟩
  have hq : p % 6 < f.cs.size := by show p % 6 < 6; omega
  refine ⟨p / 6, p % 6, f, by omega, hf, ?_⟩
  have h1 := flatF_at hf (Array.getElem?_eq_getElem hq)
  rw [show p / 6 * 6 + p % 6 = p by omega, h] at h1
  rw [Array.getElem?_eq_getElem hq, h1]
/-- a list of frames from anywhere, appended to an empty literal -/
theorem append_frames {P : Program} {W : World} (t ty e : TypeId) (i : TypeInfo) (z : Value) (ht : P.underlying t = some (.slice e)) (hi : P.info? e = some i) (hz : i.zero = some z) (hsize : i.size = 6) (hby : i.bytes = 64) (hzs : z.cells.size = 6)
    (H g : Nat) (hH : H ≤ W.heap.size) (hown : W.ownsRow H e 6 (.slice (some ⟨g, 0, none⟩) 0 0) 0 []) (A : Option Addr) (n cp : Nat) (fs : List Fr) (hn : fs.length = n) (hn2 : n ≤ 1000000) (hat : FrsAt W W.heap.size A fs) :
    ∃ v' W', (Builtin.append_ #[t, t] ty #[.slice (some ⟨g, 0, none⟩) 0 0, .slice A n cp]).run P W = .ok v' W' ∧ W'.ownsRow H e 6 v' n (flatF fs) ∧ Below W.heap.size W W' := by
  by_cases h0 : n = 0
  · subst h0
    obtain rfl : fs = [] := List.eq_nil_of_length_eq_zero hn
    refine ⟨_, _, run_append_nothing W t t ty e i ht hi (some ⟨g, 0, none⟩) 0 0 (Nat.le_refl _) _ ?_, hown, ⟨rfl, rfl, rfl, Nat.le_refl _, fun _ _ => rfl⟩⟩
    cases A with
    | none => exact ⟨.inl ⟨e, ht⟩, fun _ => rfl, run_firstCells_none W i.size 0 0 cp, run_firstCells_none W.drew i.size 0 0 cp, by simp, fun _ h => by cases h⟩
    | some ad => exact Src.ofSlice W ht ad 0 cp [] (by simp) (by simp) (fun _ h => by cases h)
  · obtain ⟨f0, hf0⟩ : ∃ f, fs[0]? = some f := ⟨_, List.getElem?_eq_getElem (by omega)⟩
    obtain ⟨b, off, rfl, _, _⟩ := hat.2 0 f0 hf0
    obtain ⟨v', W', hr, h1, h2⟩ := run_append_arg_grows (P := P) W t ty e i z 6 64 ht hi hz hsize hby hzs (by omega) ⟨g, 0, none⟩ 0 0 [] rfl (fun j u hj => by simp at hj) ⟨b, off, none⟩ n cp (flatF fs) (by rw [flatF_len, hn]) (fun j u hj => by
      obtain ⟨j', q, f, rfl, hf, hu⟩ := flatF_get hj
      obtain ⟨b', off', e', _, hc⟩ := hat.2 j' f hf
      injection e' with e'
      injection e' with e1 e2
      subst e1 e2
      rw [Addr.add_lit, ← Nat.add_assoc]
      exact hc q u hu) (by omega) (by unfold maxLen; omega) (by omega)
    rw [Nat.zero_add, List.nil_append] at h1
    exact ⟨v', W', hr, ownsRow_lower h1 hH, ⟨h2.os, h2.tape, h2.output, h2.size, fun k hk => h2.block k hk (by simp)⟩⟩
/-- what the document's Put answers -/
def RPutR (w : World) (v k s c : Int) (A : Option Addr) (n cp : Nat) (fs : List Fr) (f : Fr) (er : Int) (e : Ending) (w' : World) : Prop :=
  Below w.heap.size w w' ∧ ((er ≠ 0 ∧ e = .returned (.tuple #[frV v k s 0 c (.slice A n cp), .int .i64 er])) ∨ (er = 0 ∧ ∃ A' cp', e = .returned (.tuple #[frV v k s 0 c (.slice A' (n + 1) cp'), .int .i64 0]) ∧ RefAt w' c A' (n + 1) cp' (fs ++ [f])))
theorem three_boxes {w w1 : World} {cs1 cs2 cs3 : Array Value} {t1 t2 t3 : TypeId} (hw : ((w.alloc (.cells cs1 t1)).alloc (.cells cs2 t2)).alloc (.cells cs3 t3) = w1) :
    Below w.heap.size w w1 ∧ w1.heap.size = w.heap.size + 3 ∧ w1.heap[w.heap.size]? = some (.cells cs1 t1 (0, 0)) ∧ w1.heap[w.heap.size + 1]? = some (.cells cs2 t2 (0, 0)) ∧ w1.heap[w.heap.size + 2]? = some (.cells cs3 t3 (0, 0)) := by
  subst hw
  refine ⟨(((Below.refl _ w).alloc (Nat.le_refl _) _).alloc (by simp) _).alloc (by simp; omega) _, by simp, ?_, ?_, ?_⟩
  · exact (Below.heap_alloc _ _ _ (by simp; omega)).trans ((Below.heap_alloc _ _ _ (by simp)).trans (World.alloc_heap_new _ _))
  · have h := World.alloc_heap_new (w.alloc (.cells cs1 t1)) (.cells cs2 t2)
    rw [World.size_alloc] at h
    exact (Below.heap_alloc _ _ _ (by simp)).trans h
  · have h := World.alloc_heap_new ((w.alloc (.cells cs1 t1)).alloc (.cells cs2 t2)) (.cells cs3 t3)
    rw [World.size_alloc, World.size_alloc] at h
    exact h

theorem exec_appendU {P : Program} {w w' : World} {o : Oper} {b : Act} {v1 v2 v' : Value} (s x : Operand) (t : TypeId) (hop : o.op = Op.call { callee := Callee.builtin Builtin.append, args := #[s, x], argTypes := #[t, t] })
    (hs : b.eval s = v1) (hx : b.eval x = v2) (hrun : (Builtin.append_ #[t, t] o.type #[v1, v2]).run P w = .ok v' w') : (execOp b.eval o).run P w = .ok (.value v') w' := by
  simp [execOp, hop, resolve, invoke, builtin, hs, hx, hrun, Result.andThen]
/-- what the operations of 'append(append([]F{}, s.L...), f)' hand on -/
def FPut (H n : Nat) (fs : List Fr) (f : Fr) (q : Tmp) (x : Value) (W : World) : Prop :=
  if q = 47 then ∃ g, x = .slice (some ⟨g, 0, none⟩) 0 0 ∧ W.ownsRow H 45 6 (.slice (some ⟨g, 0, none⟩) 0 0) 0 []
  else if q = 50 then W.ownsRow H 45 6 x n (flatF fs)
  else ∃ g, x = .slice (some ⟨g, 0, none⟩) 1 1 ∧ W.heap[g]? = some (.cells f.cs 45 (0, 0))
theorem FPut.later {H n : Nat} {fs : List Fr} {f : Fr} {q : Tmp} {x : Value} {W W' : World} (h : FPut H n fs f q x W) (hb : Below W.heap.size W W') : FPut H n fs f q x W' := by
  unfold FPut at h ⊢
  split at h
  · rename_i hq
    rw [if_pos hq]
    obtain ⟨g, e, h1⟩ := h
    exact ⟨g, e, own_below6 h1 hb⟩
  · rename_i hq
    rw [if_neg hq]
    split at h
    · rename_i hq2
      rw [if_pos hq2]
      exact own_below6 h hb
    · rename_i hq2
      rw [if_neg hq2]
      obtain ⟨g, e, h1⟩ := h
      exact ⟨g, e, (hb.block g (Array.getElem?_eq_some_iff.1 h1).1).trans h1⟩
set_option maxHeartbeats 8000000 in
theorem rput_any {w : World} (v k s : Int) {c : Int} {A : Option Addr} {n cp : Nat} {fs : List Fr} (h : RefAt w c A n cp fs) (f : Fr) (hf : f.At w w.heap.size) (hfl : f.zs.length ≤ 250) :
    Calls Try.prog 12 #[frV v k s 0 c (.slice A n cp), frV f.v f.k f.s f.i f.c (.slice f.a f.zs.length f.cp)] w (RPutR w v k s c A n cp fs f (sErr v k s c f.v f.k f.s f.i f.c (fs.map Fr.ct) f.zs)) := by
  obtain ⟨w1, hw1⟩ : ∃ w1, ((w.alloc (.cells (frC v k s 0 c (.slice A n cp)) 35)).alloc (.cells (frC f.v f.k f.s f.i f.c (.slice f.a f.zs.length f.cp)) 45)).alloc (.cells (frC 0 0 0 0 0 (.slice none 0 0)) 35) = w1 := ⟨_, rfl⟩
  obtain ⟨hb1, hs1, hx1, hx2, hx3⟩ := three_boxes hw1
  have HX : Hid (∀ W, Below w1.heap.size w1 W → W.heap[w.heap.size]? = some (.cells (frC v k s 0 c (.slice A n cp)) 35 (0, 0)) ∧ W.heap[w.heap.size + 1]? = some (.cells (frC f.v f.k f.s f.i f.c (.slice f.a f.zs.length f.cp)) 45 (0, 0)) ∧ W.heap[w.heap.size + 2]? = some (.cells (frC 0 0 0 0 0 (.slice none 0 0)) 35 (0, 0))) :=
    Lib.hid fun W hW => ⟨(hW.block _ (by omega)).trans hx1, (hW.block _ (by omega)).trans hx2, (hW.block _ (by omega)).trans hx3⟩
  have HBad : Hid (∀ (er : Int) (W : World), sErr v k s c f.v f.k f.s f.i f.c (fs.map Fr.ct) f.zs = er → er ≠ 0 → Below w.heap.size w W → RPutR w v k s c A n cp fs f (sErr v k s c f.v f.k f.s f.i f.c (fs.map Fr.ct) f.zs) (.returned (.tuple #[frV v k s 0 c (.slice A n cp), .int .i64 er])) W) :=
    Lib.hid fun er W he h0 hb => by rw [he]; exact ⟨hb, .inl ⟨h0, rfl⟩⟩
  obtain ⟨d0, d1, d2, d3, d4, d5⟩ := fr_block hx1
  obtain ⟨e0, e1, e2, e3, e4, e5⟩ := fr_block hx2
  have KM := rmates_any f.v f.k f.s f.i f.c v k s 0 c w1
  have HAF : Hid (∀ f' ∈ fs ++ [f], f'.At w w.heap.size) := Lib.hid fun f' hf' => by
    rcases List.mem_append.1 hf' with hf' | hf'
    · exact h.at'.1 f' hf'
    · obtain rfl := List.mem_singleton.1 hf'
      exact hf
  have HB1 := Lib.hid hb1
  have HS1 := Lib.hid hs1
  have HRA := Lib.hid (h.below hb1)
  have HSE := Lib.hid (show sErr v k s c f.v f.k f.s f.i f.c (fs.map Fr.ct) f.zs = if mateZ v k s c f.v f.k f.s f.c = false then 17 else if f.i < 0 ∨ c ≤ f.i then 3 else if f.zs.length = 0 then 13 else if Sl.has (fs.map Fr.ct) f.i.toNat then 16 else if 192 < Sl.tot (fs.map Fr.ct) + f.zs.length then 6 else 0 from rfl)
  have HW1 : Hid (((w.alloc (.cells #[.int .i64 v, .int .i64 k, .int .u32 s, .int .i64 0, .int .i64 c, .slice A n cp] 35)).alloc (.cells #[.int .i64 f.v, .int .i64 f.k, .int .u32 f.s, .int .i64 f.i, .int .i64 f.c, .slice f.a f.zs.length f.cp] 45)).alloc (.cells #[.int .i64 0, .int .i64 0, .int .u32 0, .int .i64 0, .int .i64 0, .slice none 0 0] 35) = w1) := Lib.hid hw1
  rw [show mateZ f.v f.k f.s f.c v k s c = mateZ v k s c f.v f.k f.s f.c from by unfold mateZ; congr 1; simp [eq_comm]] at KM
  have HGood : Hid ((sErr v k s c f.v f.k f.s f.i f.c (fs.map Fr.ct) f.zs) = 0 → ∀ (A' : Option Addr) (cp' : Nat) (W : World), Below w.heap.size w W → RefAt W c A' (n + 1) cp' (fs ++ [f]) → RPutR w v k s c A n cp fs f (sErr v k s c f.v f.k f.s f.i f.c (fs.map Fr.ct) f.zs) (.returned (.tuple #[frV v k s 0 c (.slice A' (n + 1) cp'), .int .i64 0])) W) :=
    Lib.hid fun he A' cp' W hb hr => ⟨hb, .inr ⟨he, A', cp', rfl, hr⟩⟩
  generalize RPutR w v k s c A n cp fs f (sErr v k s c f.v f.k f.s f.i f.c (fs.map Fr.ct) f.zs) = G at *
  generalize sErr v k s c f.v f.k f.s f.i f.c (fs.map Fr.ct) f.zs = SE at *
  generalize mateZ v k s c f.v f.k f.s f.c = M at *
  clear h hf hw1 hx1 hx2 hx3 hb1
  unfold frV frC hdV at *
  go_enter Try.func12, Try.ntmps12
  go_wp2_with fail
  rw [HW1.out]
  refine KM.mono ?_
  rintro e w2 ⟨rfl, hb2⟩
  obtain ⟨hx1, hx2, hx3⟩ := HX.out w2 hb2
  obtain ⟨d0, d1, d2, d3, d4, d5⟩ := fr_block hx1
  obtain ⟨e0, e1, e2, e3, e4, e5⟩ := fr_block hx2
  have HB2 := Lib.hid (HB1.out.trans (hb2.mono HB1.out.size))
  have HEND : Hid (∀ (W : World) (er : Int), Below w1.heap.size w1 W → SE = er → er ≠ 0 →
      (W.setRow (w.heap.size + 2) (frC v k s 0 c (.slice A n cp))).cell? ⟨w.heap.size + 2, 0, none⟩ = some (.int .i64 v) ∧ (W.setRow (w.heap.size + 2) (frC v k s 0 c (.slice A n cp))).cell? ⟨w.heap.size + 2, 1, none⟩ = some (.int .i64 k) ∧
      (W.setRow (w.heap.size + 2) (frC v k s 0 c (.slice A n cp))).cell? ⟨w.heap.size + 2, 2, none⟩ = some (.int .u32 s) ∧ (W.setRow (w.heap.size + 2) (frC v k s 0 c (.slice A n cp))).cell? ⟨w.heap.size + 2, 3, none⟩ = some (.int .i64 0) ∧
      (W.setRow (w.heap.size + 2) (frC v k s 0 c (.slice A n cp))).cell? ⟨w.heap.size + 2, 4, none⟩ = some (.int .i64 c) ∧ (W.setRow (w.heap.size + 2) (frC v k s 0 c (.slice A n cp))).cell? ⟨w.heap.size + 2, 5, none⟩ = some (.slice A n cp) ∧
      G (.returned (.tuple #[.agg #[.int .i64 v, .int .i64 k, .int .u32 s, .int .i64 0, .int .i64 c, .slice A n cp], .int .i64 er])) (W.setRow (w.heap.size + 2) (frC v k s 0 c (.slice A n cp)))) := Lib.hid fun W er hW he h0 => by
    obtain ⟨_, _, hx⟩ := HX.out W hW
    have hh := setRow_heap W (w.heap.size + 2) _ (frC v k s 0 c (.slice A n cp)) _ _ hx
    have hbw := HB1.out.trans (hW.mono HB1.out.size)
    have hbF : Below w.heap.size w (W.setRow (w.heap.size + 2) (frC v k s 0 c (.slice A n cp))) := hbw.trans ((Off.setRow (S := fun q => q = w.heap.size + 2) (Off.of_below (Below.refl _ _)) rfl _).below (fun q hq => by omega) hbw.size)
    obtain ⟨g0, g1, g2, g3, g4, g5⟩ := fr_block hh
    exact ⟨g0, g1, g2, g3, g4, g5, HBad.out er _ he h0 hbF⟩
  cases M with
  | false =>
    rw [if_pos rfl] at HSE
    go_wp2_with (refine wpList_store_row rfl 35 (.tmp 4) (.tmp 12) rfl (w.heap.size + 2) (frC v k s 0 c (.slice A n cp)) rfl rfl 35 _ hx3 ssInfo rfl (fs_one _ _ _ _ _ _ _ _) ?_)
    obtain ⟨g0, g1, g2, g3, g4, g5, HFIN⟩ := HEND.out _ 17 hb2 HSE.out (by omega)
    refine bodyPost_ret (by simp [results, Try.results12, go_sem, g0, g1, g2, g3, g4, g5]; try rfl) rfl ?_
    exact HFIN
  | true =>
    rw [if_neg (by simp)] at HSE
    by_cases hi0 : f.i < 0
    · rw [if_pos (.inl hi0)] at HSE
      go_wp2_with (refine wpList_store_row rfl 35 (.tmp 4) (.tmp 26) rfl (w.heap.size + 2) (frC v k s 0 c (.slice A n cp)) rfl rfl 35 _ hx3 ssInfo rfl (fs_one _ _ _ _ _ _ _ _) ?_)
      obtain ⟨g0, g1, g2, g3, g4, g5, HFIN⟩ := HEND.out _ 3 hb2 HSE.out (by omega)
      refine bodyPost_ret (by simp [results, Try.results12, go_sem, g0, g1, g2, g3, g4, g5]; try rfl) rfl ?_
      exact HFIN
    · by_cases hi1 : c ≤ f.i
      · rw [if_pos (.inr hi1)] at HSE
        go_wp2_with (refine wpList_store_row rfl 35 (.tmp 4) (.tmp 26) rfl (w.heap.size + 2) (frC v k s 0 c (.slice A n cp)) rfl rfl 35 _ hx3 ssInfo rfl (fs_one _ _ _ _ _ _ _ _) ?_)
        obtain ⟨g0, g1, g2, g3, g4, g5, HFIN⟩ := HEND.out _ 3 hb2 HSE.out (by omega)
        refine bodyPost_ret (by simp [results, Try.results12, go_sem, g0, g1, g2, g3, g4, g5]; try rfl) rfl ?_
        exact HFIN
      · rw [if_neg (by omega)] at HSE
        by_cases hn0 : f.zs.length = 0
        · rw [if_pos hn0] at HSE
          have hn0' : (f.zs.length : Int) = 0 := by omega
          go_wp2_with (refine wpList_store_row rfl 35 (.tmp 4) (.tmp 31) rfl (w.heap.size + 2) (frC v k s 0 c (.slice A n cp)) rfl rfl 35 _ hx3 ssInfo rfl (fs_one _ _ _ _ _ _ _ _) ?_)
          obtain ⟨g0, g1, g2, g3, g4, g5, HFIN⟩ := HEND.out _ 13 hb2 HSE.out (by omega)
          refine bodyPost_ret (by simp [results, Try.results12, go_sem, g0, g1, g2, g3, g4, g5]; try rfl) rfl ?_
          exact HFIN
        · rw [if_neg hn0] at HSE
          have hn0' : ¬ (f.zs.length : Int) = 0 := by omega
          obtain ⟨j, hj⟩ := Int.eq_ofNat_of_zero_le (a := f.i) (by omega)
          rw [hj, Int.toNat_natCast] at HSE
          have KH := rhas_any v k s 0 (HRA.out.below hb2) j
          unfold HasR at KH
          rw [← hj] at KH
          unfold frV frC at KH
          have HJ := Lib.hid hj
          have HHB2 := Lib.hid hb2
          clear hj hx1 hx2 hx3 hb2
          go_wp2_with fail
          refine KH.mono ?_
          rintro e w3 ⟨hb3', hor⟩
          have hb3 := HHB2.out.trans (hb3'.mono HHB2.out.size)
          obtain ⟨hx1, hx2, hx3b⟩ := HX.out w3 hb3
          obtain ⟨d0, d1, d2, d3, d4, d5⟩ := fr_block hx1
          obtain ⟨e0, e1, e2, e3, e4, e5⟩ := fr_block hx2
          rcases hor with ⟨hno, rfl⟩ | ⟨hyes, p, f', _, _, rfl⟩
          · rw [if_neg (by rw [hno]; simp)] at HSE
            have HNO := Lib.hid hno
            have HB3 := Lib.hid hb3
            have HRA3 := Lib.hid (HRA.out.below hb3)
            have KS := Lib.hid (fun (V : World) (hV : Below w3.heap.size w3 V) => rsize_any v k s 0 (HRA3.out.below hV))
            have LX : Hid (∀ V, Below w3.heap.size w3 V → Below w1.heap.size w1 V) := Lib.hid fun V hV => HB3.out.trans (hV.mono HB3.out.size)
            have L1 : ∀ V, Below w3.heap.size w3 V → (Instr.loadAt 35 (.pointer (some ⟨w.heap.size, 0, none⟩))).run Try.prog V = .ok (.agg #[.int .i64 v, .int .i64 k, .int .u32 s, .int .i64 0, .int .i64 c, .slice A n cp]) V := fun V hV => by
              obtain ⟨hy, _, _⟩ := HX.out V (LX.out V hV)
              obtain ⟨d0, d1, d2, d3, d4, d5⟩ := fr_block hy
              simp [Instr.loadAt, go_sem, d0, d1, d2, d3, d4, d5]
            have L2 : ∀ V, Below w3.heap.size w3 V → (Instr.loadAt 37 (.pointer (some ⟨w.heap.size + 1, 5, none⟩))).run Try.prog V = .ok (.slice f.a f.zs.length f.cp) V := fun V hV => by
              obtain ⟨_, hy, _⟩ := HX.out V (LX.out V hV)
              obtain ⟨d0, d1, d2, d3, d4, d5⟩ := fr_block hy
              simp [Instr.loadAt, go_sem, d5]
            obtain ⟨T, hT⟩ : ∃ T, Sl.tot (fs.map Fr.ct) = T := ⟨_, rfl⟩
            have hTm := HRA.out.most
            rw [hT] at HSE KS hTm
            have HTT := Lib.hid hT
            unfold frV frC at KS
            clear KH hb3' hno hT d0 d1 d2 d3 d4 d5 e0 e1 e2 e3 e4 e5 hx1 hx2 hx3b hb3
            go_wp2_with fail
            refine wp_region_F 56 [] (fun _ _ _ => True) (fun V => Below w3.heap.size w3 V) (by kernel_rfl) (by kernel_rfl) (by rfl) (by simp) (fun W W' h hb => h.trans (hb.mono h.size)) (fun _ _ _ _ _ _ => trivial) (Below.refl _ _).drew ?_
            refine wpF_load _ rfl (by rfl) (by rfl) (by rfl) L1 ?_
            simp only [Act.put, List.setIfInBounds_toArray, List.set_cons_succ, List.set_cons_zero]
            refine wpF_call (f := 28) (args := #[.agg #[.int .i64 v, .int .i64 k, .int .u32 s, .int .i64 0, .int .i64 c, .slice A n cp]]) (.int .i64 (T : Int)) rfl rfl (fun x => by first | rfl | (simp [go_sem]; done)) KS.out ?_
            simp only [Act.put, List.setIfInBounds_toArray, List.set_cons_succ, List.set_cons_zero]
            repeat (first | (refine wpF_nil rfl rfl rfl rfl ?_; simp only [Act.put, List.setIfInBounds_toArray, List.set_cons_succ, List.set_cons_zero]) | (refine wpF_pure rfl rfl ?_; go_big_quiet_step (fail); refine wpQuiet_nil ?_))
            refine wpF_load _ rfl (by rfl) (by rfl) (by rfl) L2 ?_
            simp only [Act.put, List.setIfInBounds_toArray, List.set_cons_succ, List.set_cons_zero]
            repeat (first | (refine wpF_nil rfl rfl rfl rfl ?_; simp only [Act.put, List.setIfInBounds_toArray, List.set_cons_succ, List.set_cons_zero]) | (refine wpF_pure rfl rfl ?_; go_big_quiet_step (fail); refine wpQuiet_nil ?_))
            intro xs4 w4 hb4' _
            simp only [fill]
            have hb4 := LX.out w4 hb4'
            obtain ⟨hx1, hx2, hx3c⟩ := HX.out w4 hb4
            obtain ⟨d0, d1, d2, d3, d4, d5⟩ := fr_block hx1
            obtain ⟨e0, e1, e2, e3, e4, e5⟩ := fr_block hx2
            clear L1 L2 hb4'
            by_cases ht : 192 < T + f.zs.length
            · rw [if_pos ht] at HSE
              have ht2 : (192 : Int) < (T : Int) + (f.zs.length : Int) := by omega
              go_wp2_with (refine wpList_store_row rfl 35 (.tmp 4) (.tmp 46) rfl (w.heap.size + 2) (frC v k s 0 c (.slice A n cp)) rfl rfl 35 _ hx3c ssInfo rfl (fs_one _ _ _ _ _ _ _ _) ?_)
              obtain ⟨g0, g1, g2, g3, g4, g5, HFIN⟩ := HEND.out _ 6 hb4 HSE.out (by omega)
              refine bodyPost_ret (by simp [results, Try.results12, go_sem, g0, g1, g2, g3, g4, g5]; try rfl) rfl ?_
              exact HFIN
            · rw [if_neg ht] at HSE
              have ht2 : ¬ (192 : Int) < (T : Int) + (f.zs.length : Int) := by omega
              have LX4 : Hid (∀ V, Below w4.heap.size w4 V → Below w1.heap.size w1 V) := Lib.hid fun V hV => hb4.trans (hV.mono hb4.size)
              have L1 : ∀ V, Below w4.heap.size w4 V → (Instr.loadAt 33 (.pointer (some ⟨w.heap.size, 5, none⟩))).run Try.prog V = .ok (.slice A n cp) V := fun V hV => by
                obtain ⟨hy, _, _⟩ := HX.out V (LX4.out V hV)
                obtain ⟨d0, d1, d2, d3, d4, d5⟩ := fr_block hy
                simp [Instr.loadAt, go_sem, d5]
              have L2 : ∀ V, Below w4.heap.size w4 V → (Instr.loadAt 45 (.pointer (some ⟨w.heap.size + 1, 0, none⟩))).run Try.prog V = .ok (.agg #[.int .i64 f.v, .int .i64 f.k, .int .u32 f.s, .int .i64 f.i, .int .i64 f.c, .slice f.a f.zs.length f.cp]) V := fun V hV => by
                obtain ⟨_, hy, _⟩ := HX.out V (LX4.out V hV)
                obtain ⟨d0, d1, d2, d3, d4, d5⟩ := fr_block hy
                simp [Instr.loadAt, go_sem, d0, d1, d2, d3, d4, d5]
              have HRA4 := Lib.hid (HRA.out.below hb4)
              have HB4 := Lib.hid hb4
              have hn250 := HRA.out.few_len
              have hlen := HRA.out.len
              obtain ⟨z0, hi, hz0, hz1, hz2⟩ := info_parts sfInfo
              clear d0 d1 d2 d3 d4 d5 e0 e1 e2 e3 e4 e5 hx1 hx2 hx3c hb4 KS
              go_wp2_with fail
              refine wp_region_FT 56 6 [47, 50, 52] (FPut w4.heap.size n fs f) (fun V => Below w4.heap.size w4 V) (by kernel_rfl) (by kernel_rfl) (by rfl) (by kernel_rfl) (by kernel_rfl) (by kernel_rfl) (by rfl) (by simp) (fun W W' h hb => h.trans (hb.mono h.size)) (fun q x W W' h hb => h.later hb) (Below.refl _ _).drew ?_
              simp only [List.take_succ_cons, List.take_zero, List.drop_succ_cons, List.drop_zero]
              refine wpF_src 47 (by simp) rfl rfl rfl (fun W hW => ⟨.slice (some ⟨W.heap.size, 0, none⟩) 0 0, W.alloc (.cells #[] 45), ?_, ?_, (Below.refl _ _).alloc (Nat.le_refl _) _⟩) ?_
              · simp [go_sem]
              · unfold FPut
                rw [if_pos rfl]
                exact ⟨_, rfl, World.ownsRow_made W #[] 0 hW.size (by unfold maxLen; omega) rfl⟩
              simp only [Act.put, List.setIfInBounds_toArray, List.set_cons_succ, List.set_cons_zero]
              repeat (refine wpF_pure rfl rfl ?_; go_big_quiet_step (fail); refine wpQuiet_nil ?_)
              refine wpF_load _ rfl (by rfl) (by rfl) (by rfl) L1 ?_
              simp only [Act.put, List.setIfInBounds_toArray, List.set_cons_succ, List.set_cons_zero]
              refine wpF_mix 50 [47] (by simp) rfl (by kernel_rfl) (by kernel_rfl) (fun xs => by rfl) (fun xs W hW hx => ?_) ?_
              · have h47 := hx 47 (by simp)
                unfold FPut at h47
                rw [if_pos rfl] at h47
                obtain ⟨g, e47, ho47⟩ := h47
                obtain ⟨v', W', hr, ho, hbl⟩ := append_frames (P := Try.prog) 33 33 45 z0 _ Try.underlying33 hi hz0 hz1 hz2 rfl w4.heap.size g hW.size ho47 A n cp fs hlen (by omega) (HRA4.out.below hW).at'
                refine ⟨v', W', ?_, ?_, hbl⟩
                · exact exec_appendU (.tmp 47) (.tmp 49) 33 rfl (by simp [fill, Act.put, Act.eval, e47]) (by simp [fill, Act.put, Act.eval]) hr
                · unfold FPut
                  rw [if_neg (by decide), if_pos rfl]
                  exact ho
              simp only [Act.put, List.setIfInBounds_toArray, List.set_cons_succ, List.set_cons_zero]
              refine wpF_load _ rfl (by rfl) (by rfl) (by rfl) L2 ?_
              simp only [Act.put, List.setIfInBounds_toArray, List.set_cons_succ, List.set_cons_zero]
              refine wpF_src 52 (by simp) rfl rfl rfl (fun W hW => ⟨.slice (some ⟨W.heap.size, 0, none⟩) 1 1, W.alloc (.cells f.cs 45), ?_, ?_, (Below.refl _ _).alloc (Nat.le_refl _) _⟩) ?_
              · simp [go_sem, Fr.cs, frC]
              · unfold FPut
                rw [if_neg (by decide), if_neg (by decide)]
                exact ⟨_, rfl, World.alloc_heap_new _ _⟩
              simp only [Act.put, List.setIfInBounds_toArray, List.set_cons_succ, List.set_cons_zero]
              intro xs5 w5 hb5 hx
              have h50 := hx 50 (by simp)
              have h52 := hx 52 (by simp)
              unfold FPut at h50 h52
              rw [if_neg (by decide), if_pos rfl] at h50
              rw [if_neg (by decide), if_neg (by decide)] at h52
              obtain ⟨g5, e52, hg5⟩ := h52
              simp only [fill, Act.put, List.setIfInBounds_toArray, List.set_cons_succ, List.set_cons_zero]
              rw [e52]
              generalize xs5 47 = x47
              generalize xs5 50 = x50 at *
              have hb5w := LX4.out w5 hb5
              have hs5 : w4.heap.size ≤ w5.heap.size := hb5.size
              have hs4 : w.heap.size + 3 ≤ w4.heap.size := by have := HB4.out.size; omega
              obtain ⟨hx1, hx2, hx3⟩ := HX.out w5 hb5w
              have HNW : Hid (∀ (q : Nat) (u : Value), [Value.int .i64 f.v, .int .i64 f.k, .int .u32 f.s, .int .i64 f.i, .int .i64 f.c, .slice f.a f.zs.length f.cp][q]? = some u → w5.cell? ((⟨g5, 0, none⟩ : Addr).add q) = some u) := Lib.hid fun q u hq => by
                rw [Addr.add_lit, Nat.zero_add]
                simp only [World.cell?, hg5]
                simpa [Fr.cs, frC] using hq
              have HR5 := Lib.hid h50
              have HX1 : Hid (n + 1 ≤ maxLen) := by show _ ≤ _; unfold maxLen; omega
              have HX2 : Hid ((n + 1) * 64 ≤ 140737488355328) := by show _ ≤ _; omega
              have HX5 : Hid (∀ q, q < w4.heap.size → x50.ownBlock ≠ some q) := Lib.hid fun q hq e => by
                have := (HR5.out.lt q e).1
                omega
              have HB5 := Lib.hid hb5w
              have HL1 := Lib.hid hx1
              have HL3 := Lib.hid hx3
              clear hx e52 hg5 h50 L1 L2 hb5 hb5w hx1 hx2 hx3
              refine wpList_append_lies _ rfl (.tmp 50) (.tmp 52) 33 rfl w4.heap.size 45 z0 _ 6 64 Try.underlying33 hi hz0 hz1 hz2 rfl (by decide) x50 n (flatF fs) rfl HR5.out ⟨g5, 0, none⟩ 1 1 [Value.int .i64 f.v, .int .i64 f.k, .int .u32 f.s, .int .i64 f.i, .int .i64 f.c, .slice f.a f.zs.length f.cp] rfl rfl HNW.out (by simp [Value.oneCell']) (by decide) HX1.out HX2.out hs5 _ rfl ?_
              intro g6 cp6 w6 hown hgr hat6 hlt6
              have hy1 := (hgr.block w.heap.size (by omega) (fun e => HX5.out _ (by omega) e.symm)).trans HL1.out
              have hy3 := (hgr.block (w.heap.size + 2) (by omega) (fun e => HX5.out _ (by omega) e.symm)).trans HL3.out
              have hb6 : Below w.heap.size w w6 := (HB1.out.trans (HB5.out.mono HB1.out.size)).grown hgr (by omega) (fun g hg => by
                have := (HR5.out.lt g hg).1
                omega)
              have hg6 : w4.heap.size ≤ g6 := by
                rcases hat6 with h | h
                · exact (HR5.out.lt _ h).1
                · omega
              obtain ⟨d0, d1, d2, d3, d4, d5⟩ := fr_block hy1
              have fS : w6.frozen? ⟨w.heap.size, 5, none⟩ = false := by simp [World.frozen?, hy1]
              have hz3 : (w6.setCell ⟨w.heap.size, 5, none⟩ (.slice (some ⟨g6, 0, none⟩) (n + 1) cp6)).heap[w.heap.size + 2]? = _ := (Below.heap_setCell w6 ⟨w.heap.size, 5, none⟩ _ (w.heap.size + 2) (by simp)).trans hy3
              have HFIN : Hid (let W8 := (w6.setCell ⟨w.heap.size, 5, none⟩ (.slice (some ⟨g6, 0, none⟩) (n + 1) cp6)).setRow (w.heap.size + 2) (frC v k s 0 c (.slice (some ⟨g6, 0, none⟩) (n + 1) cp6))
                  W8.heap[w.heap.size + 2]? = some (.cells (frC v k s 0 c (.slice (some ⟨g6, 0, none⟩) (n + 1) cp6)) 35 (0, 0)) ∧ G (.returned (.tuple #[.agg #[.int .i64 v, .int .i64 k, .int .u32 s, .int .i64 0, .int .i64 c, .slice (some ⟨g6, 0, none⟩) (n + 1) cp6], .int .i64 0])) W8) := by
                refine Lib.hid ?_
                intro W8
                have hb7 := hb6.setCell (p := ⟨w.heap.size, 5, none⟩) (Nat.le_refl _) (.slice (some ⟨g6, 0, none⟩) (n + 1) cp6)
                have hb8 : Below w.heap.size w W8 := hb7.trans ((Off.setRow (S := fun q => q = w.heap.size + 2) (Off.of_below (Below.refl _ _)) rfl _).below (fun q hq => by omega) hb7.size)
                have hrow : W8.ownsRow w4.heap.size 45 6 (.slice (some ⟨g6, 0, none⟩) (n + 1) cp6) (n + 1) (flatF (fs ++ [f])) := by
                  rw [flatF_push]
                  refine ⟨hown.1, hown.2.imp id fun ⟨g, cap, cur, hv, hge, hh, r'⟩ => ⟨g, cap, cur, hv, hge, ?_, r'⟩⟩
                  refine (setRow_other _ _ _ _ (by omega)).trans ?_
                  exact (Below.heap_setCell w6 ⟨w.heap.size, 5, none⟩ _ g (by simp only; omega)).trans hh
                have hats : ∀ f' ∈ fs ++ [f], f'.At W8 W8.heap.size := fun f' hf' => (HAF.out f' hf' |>.below hb8).mono hb8.size
                have hlen' : (fs ++ [f]).length = n + 1 := by rw [List.length_append, hlen]; rfl
                rw [← hlen'] at hrow
                obtain ⟨A', c', e', hc', hfrs⟩ := own_frs hrow hats
                injection e' with e1 e2 e3
                subst e1 e3
                refine ⟨setRow_heap _ _ _ _ _ _ hz3, HGood.out HSE.out _ _ W8 hb8 ⟨hfrs, hlen', by rw [← hlen']; exact hc', fun f' hf' => ?_, ?_, ?_, HRA.out.small, fun g off e => ?_⟩⟩
                · rcases List.mem_append.1 hf' with hf' | hf'
                  · exact HRA.out.few f' hf'
                  · obtain rfl := List.mem_singleton.1 hf'
                    exact ⟨by omega, by omega⟩
                · unfold Sl.Keys
                  rw [List.map_append, List.map_append, List.nodup_append]
                  refine ⟨HRA.out.keys, by simp, fun a ha b hb => ?_⟩
                  have hb' : b = j := by
                    have h1 : b = f.i.toNat := by simpa [Fr.ct] using hb
                    rw [h1, HJ.out]; rfl
                  subst hb'
                  intro e
                  subst e
                  have := Sl.has_iff.2 ha
                  rw [HNO.out] at this
                  cases this
                · rw [List.map_append]
                  show Sl.tot (fs.map Fr.ct ++ [f.ct]) ≤ 192
                  rw [Sl.tot_push]
                  show Sl.tot (fs.map Fr.ct) + f.zs.length ≤ 192
                  rw [HTT.out]
                  omega
                · rcases hrow.2 with ⟨e', _⟩ | ⟨g', cap, cur, e', _, hh, _⟩
                  · cases e'
                  · injection e with e
                    injection e with e
                    injection e' with e'
                    injection e' with e'
                    injection e' with e'
                    subst e e'
                    exact ⟨cur, hh⟩
              clear hown hgr hat6 hlt6 hy1 hy3 hb6 hg6 HR5 HNW HX1 HX2 HX5 HL1 HL3 hn0' hn250
              go_wp2_with (refine wpList_store_row rfl 35 (.tmp 4) (.tmp 55) rfl (w.heap.size + 2) (frC v k s 0 c (.slice (some ⟨g6, 0, none⟩) (n + 1) cp6)) rfl rfl 35 _ hz3 ssInfo rfl (fs_one _ _ _ _ _ _ _ _) ?_)
              obtain ⟨hh, HG9⟩ := HFIN.out
              obtain ⟨g0, g1, g2, g3, g4, g5'⟩ := fr_block hh
              refine bodyPost_ret (by simp [results, Try.results12, go_sem, g0, g1, g2, g3, g4, g5']; try rfl) rfl ?_
              exact HG9
          · rw [if_pos hyes] at HSE
            clear KH hb3'
            go_wp2_with (refine wpList_store_row rfl 35 (.tmp 4) (.tmp 38) rfl (w.heap.size + 2) (frC v k s 0 c (.slice A n cp)) rfl rfl 35 _ hx3b ssInfo rfl (fs_one _ _ _ _ _ _ _ _) ?_)
            obtain ⟨g0, g1, g2, g3, g4, g5, HFIN⟩ := HEND.out _ 16 hb3 HSE.out (by omega)
            refine bodyPost_ret (by simp [results, Try.results12, go_sem, g0, g1, g2, g3, g4, g5]; try rfl) rfl ?_
            exact HFIN
end Go.Proofs.Ytoaclbdlgkgnpaa

namespace Go.Proofs.Ytoaclbdlgkgnpaa
open Go.RowKit
set_option maxRecDepth 100000

set_option maxHeartbeats 8000000 in
theorem rcheck_any (v k s i c : Int) (w : World) :
    Calls Try.prog 7 #[hdV v k s i c] w fun e w' => e = .returned (.int .i64 (chk v k i c)) ∧ Below w.heap.size w w' := by
  unfold hdV
  rcases chk_cases v k i c with ⟨h, h1⟩ | ⟨h, h1, h2, h3⟩ | ⟨h, h1, h2, h3, h4, h5⟩ | ⟨h, h1, h2, h3, h4, h5, h6, h7⟩ | ⟨h, h1, h2, h3, h4, h5, h6, h7, h8⟩
  · rw [h]
    have a1 : (v != 1) = true := by simp; omega
    have a2 : (v != 2) = true := by simp; omega
    clear h h1
    go_enter Try.func7, Try.ntmps7
    go_wp2
    go_ret
    exact ⟨rfl, (Below.refl _ w).alloc (Nat.le_refl _) _⟩
  · rw [h]
    obtain rfl | rfl : v = 1 ∨ v = 2 := by omega
    all_goals
      rcases h3 with h3 | h3
      all_goals
        go_enter Try.func7, Try.ntmps7
        go_wp2
        all_goals
          go_ret
          exact ⟨rfl, (Below.refl _ w).alloc (Nat.le_refl _) _⟩
  · rw [h]
    obtain rfl | rfl : v = 1 ∨ v = 2 := by omega
    all_goals
      rcases h5 with h5 | h5
      all_goals
        go_enter Try.func7, Try.ntmps7
        go_wp2
        all_goals
          go_ret
          exact ⟨rfl, (Below.refl _ w).alloc (Nat.le_refl _) _⟩
  · rw [h]
    obtain rfl | rfl : v = 1 ∨ v = 2 := by omega
    all_goals
      rcases h7 with h7 | h7
      all_goals
        go_enter Try.func7, Try.ntmps7
        go_wp2
        all_goals
          go_ret
          exact ⟨rfl, (Below.refl _ w).alloc (Nat.le_refl _) _⟩
  · rw [h]
    obtain rfl | rfl : v = 1 ∨ v = 2 := by omega
    all_goals
      go_enter Try.func7, Try.ntmps7
      go_wp2
      all_goals
        go_ret
        exact ⟨rfl, (Below.refl _ w).alloc (Nat.le_refl _) _⟩
end Go.Proofs.Ytoaclbdlgkgnpaa

namespace Go.Proofs.Ytoaclbdlgkgnpaa
open Go.RowKit Go.Shelf
set_option maxRecDepth 100000
attribute [local go_sem] Oper.semAt_some

/-- a frame, cut -/
theorem cut_any (v k s i c : Int) (A : Option Addr) (n m cp : Nat) (w : World) (hm : min (n : Int) 250 = (m : Int)) (hmn : m ≤ n) (hn : n ≤ cp) :
    Calls Try.prog 10 #[frV v k s i c (.slice A n cp)] w fun e w' => e = .returned (frV v k s i c (.slice A m cp)) ∧ Below w.heap.size w w' := by
  have hmc : (m : Int) ≤ (cp : Int) := by omega
  unfold frV
  have HF : Hid (frC v k s i c (.slice A n cp) = #[.int .i64 v, .int .i64 k, .int .u32 s, .int .i64 i, .int .i64 c, .slice A n cp]) := rfl
  have HG : Hid (frC v k s i c (.slice A m cp) = #[.int .i64 v, .int .i64 k, .int .u32 s, .int .i64 i, .int .i64 c, .slice A m cp]) := rfl
  rw [HF.out, HG.out]
  go_enter Try.func10, Try.ntmps10
  go_wp2
  refine bodyPost_ret (v := .agg #[.int .i64 v, .int .i64 k, .int .u32 s, .int .i64 i, .int .i64 c, .slice A m cp]) (by simp [results, Try.results10, go_sem]) rfl ?_
  exact ⟨rfl, ((Below.refl _ w).alloc (Nat.le_refl _) _).alloc (by simp) _⟩
end Go.Proofs.Ytoaclbdlgkgnpaa

namespace Go.Proofs.Ytoaclbdlgkgnpaa
open Go.RowKit Go.Shelf
set_option maxRecDepth 100000
attribute [local go_sem] Oper.semAt_some

theorem of_frame (v k s i c : Int) (A : Option Addr) (n cp : Nat) (w : World) : Calls Try.prog 13 #[frV v k s i c (.slice A n cp)] w fun e w' => e = .returned (frV v k s i c (.slice A n cp)) ∧ Below w.heap.size w w' := by
  have hb : Below w.heap.size w ((w.alloc (.cells (frC v k s i c (.slice A n cp)) 39)).alloc (.cells (frC v k s i c (.slice A n cp)) 45)) := ((Below.refl _ w).alloc (Nat.le_refl _) _).alloc (by simp) _
  have HB := Lib.hid hb
  unfold frV
  have HF : Hid (frC v k s i c (.slice A n cp) = #[.int .i64 v, .int .i64 k, .int .u32 s, .int .i64 i, .int .i64 c, .slice A n cp]) := rfl
  rw [HF.out] at HB ⊢
  clear hb
  go_enter Try.func13, Try.ntmps13
  go_wp2
  refine bodyPost_ret (v := .agg #[.int .i64 v, .int .i64 k, .int .u32 s, .int .i64 i, .int .i64 c, .slice A n cp]) (by simp [results, Try.results13, go_sem]) rfl ?_
  exact ⟨rfl, HB.out⟩
end Go.Proofs.Ytoaclbdlgkgnpaa

namespace Go.Proofs.Ytoaclbdlgkgnpaa
open Go.RowKit
section
variable {P : Program} {fs : List Tmp} {FS : Tmp → Value → World → Prop} {I : World → Prop}
/-- the walk in the text's order: operations ahead of the store (true: it may come behind it), the store, the rest -/
def wpFL (P : Program) (ops : Array Oper) (I : World → Prop) (fs : List Tmp) (FS : Tmp → Value → World → Prop) (St : (Tmp → Value) → World → World → Prop) (E : Act → Prop) : List Bool → List Oper → Act → Prop
  | _, [], a => E a
  | [], o :: r, a => StOb P ops I fs FS St o a ∧ wpFS P ops I fs FS St E none r a
  | false :: m, o :: r, a => ∃ v, Ob P ops I fs FS o v a ∧ wpFL P ops I fs FS St E m r (a.put o.dst v)
  | true :: m, o :: r, a => ∃ v, PureOb P ops fs o v a ∧ wpFL P ops I fs FS St E m r (a.put o.dst v)
theorem wpFL_vals {ops : Array Oper} {St : (Tmp → Value) → World → World → Prop} {E : Act → Prop} : ∀ (ms : List Bool) (l : List Oper) (a : Act), wpFL P ops I fs FS St E ms l a → ∃ vs : List Value, vs.length = l.length ∧
    (∀ (j : Nat) o v, l[j]? = some o → vs[j]? = some v → (j < ms.length → Ob P ops I fs FS o v (lex l vs a j)) ∧ (j = ms.length → StOb P ops I fs FS St o (lex l vs a j)) ∧ (ms.length < j ∨ ms.getD j false = true → PureOb P ops fs o v (lex l vs a j))) ∧ E (lex l vs a l.length)
  | _, [], a, h => ⟨[], rfl, by simp, by cases ‹List Bool› with | nil => exact h | cons b m => cases b <;> exact h⟩
  | [], o :: r, a, ⟨hob, hr⟩ => by
    obtain ⟨vs, h1, h2, h3⟩ := wpFS_vals0 r _ hr
    have hput : a.put o.dst undef = a := by rw [hob.1]; rfl
    refine ⟨undef :: vs, by simp [h1], fun j o' v' ho hv => ?_, ?_⟩
    · cases j with
      | zero =>
        simp only [List.getElem?_cons_zero, Option.some.injEq] at ho hv
        subst ho hv
        exact ⟨fun h => absurd h (Nat.not_lt_zero _), fun _ => hob, fun h => h.elim (fun h => absurd h (Nat.not_lt_zero _)) (fun h => by simp at h)⟩
      | succ j =>
        simp only [List.getElem?_cons_succ] at ho hv
        refine ⟨fun h => absurd h (Nat.not_lt_zero _), fun h => absurd h (Nat.succ_ne_zero j), fun _ => ?_⟩
        show PureOb P ops fs o' v' (lex r vs (a.put o.dst undef) j)
        rw [hput]
        exact h2 j o' v' ho hv
    · show E (lex r vs (a.put o.dst undef) r.length)
      rw [hput]
      exact h3
  | false :: m, o :: r, a, ⟨v, hob, hr⟩ => by
    obtain ⟨vs, h1, h2, h3⟩ := wpFL_vals m r _ hr
    refine ⟨v :: vs, by simp [h1], fun j o' v' ho hv => ?_, h3⟩
    cases j with
    | zero =>
      simp only [List.getElem?_cons_zero, Option.some.injEq] at ho hv
      subst ho hv
      exact ⟨fun _ => hob, fun h => by simp at h, fun h => by simp at h⟩
    | succ j =>
      simp only [List.getElem?_cons_succ] at ho hv
      obtain ⟨q1, q2, q3⟩ := h2 j o' v' ho hv
      exact ⟨fun h => q1 (by simp at h; omega), fun h => q2 (by simp at h; omega), fun h => q3 (by simp at h; exact h.imp (fun h => by omega) (fun h => by simpa using h))⟩
  | true :: m, o :: r, a, ⟨v, hob, hr⟩ => by
    obtain ⟨vs, h1, h2, h3⟩ := wpFL_vals m r _ hr
    refine ⟨v :: vs, by simp [h1], fun j o' v' ho hv => ?_, h3⟩
    cases j with
    | zero =>
      simp only [List.getElem?_cons_zero, Option.some.injEq] at ho hv
      subst ho hv
      exact ⟨fun _ => hob.ob, fun h => by simp at h, fun _ => hob⟩
    | succ j =>
      simp only [List.getElem?_cons_succ] at ho hv
      obtain ⟨q1, q2, q3⟩ := h2 j o' v' ho hv
      exact ⟨fun h => q1 (by simp at h; omega), fun h => q2 (by simp at h; omega), fun h => q3 (by simp at h; exact h.imp (fun h => by omega) (fun h => by simpa using h))⟩
/-- ONE WALK IN THE TEXT's ORDER SERVES EVERY ORDER, the store behind as many as ms has -/
theorem wp_region_FL {id : Nat} {Q : Exit → Act → World → Prop} {a : Act} {w : World} {l : List Oper} (N f : Nat) (ms : List Bool) (fs : List Tmp) (FS : Tmp → Value → World → Prop) (I : World → Prop) (St : (Tmp → Value) → World → World → Prop) (hm : P.follows .mixedOrders = true) (hB : rgB .any l.toArray N = true)
    (hk : decide (ms.length < l.length) = true) (hreach : ((List.range ms.length).all fun j => ms.getD j false || reachB .any l.toArray f ms.length j) = true) (hfs : (fs.all fun s => (List.range ms.length).any fun j => !ms.getD j false && ((l[j]?).bind (·.dst) == some s)) = true) (hN : N ≤ a.tmps.size) (hI : Closed I) (hF : ∀ s x w w', FS s x w → Below w.heap.size w w' → FS s x w') (hC : I w.drew)
    (h : wpFL P l.toArray I fs FS St (fun a' => ∀ xs W w', I W → (∀ s ∈ fs, FS s (xs s) W) → St xs W w' → Q .normal (fill fs xs a') w') ms l a) : (Code.region id l.toArray true).wp P Q a w := by
  have hR := rgB_spec hB
  have hk' : ms.length < l.length := by simpa using hk
  obtain ⟨vs, hlen, hob, hE⟩ := wpFL_vals ms l a h
  have hfs' : ∀ s ∈ fs, ∃ (j : Nat) (o : Oper), j < ms.length ∧ ms.getD j false = false ∧ l[j]? = some o ∧ o.dst = some s := fun s hs => by
    rw [List.all_eq_true] at hfs
    have h1 := hfs s hs
    rw [List.any_eq_true] at h1
    obtain ⟨j, hj, hd⟩ := h1
    rw [List.mem_range] at hj
    rw [Bool.and_eq_true] at hd
    obtain ⟨o, ho⟩ : ∃ o, l[j]? = some o := ⟨_, List.getElem?_eq_getElem (by omega)⟩
    rw [ho] at hd
    exact ⟨j, o, hj, by simpa using hd.1, ho, by simpa using hd.2⟩
  exact region_of_FS (late := fun j => ms.getD j false) hm hR hk' (fun j hj hl => by
    rw [List.all_eq_true] at hreach
    have h1 := hreach j (List.mem_range.2 hj)
    rw [hl, Bool.false_or] at h1
    exact h1) hfs' hN hI hF hC hlen hob hE
/-! ### its steps -/
variable {l : List Oper} {St : (Tmp → Value) → World → World → Prop} {E : Act → Prop} {o : Oper} {rest : List Oper} {a : Act} {ms : List Bool}
theorem wpFL_step (h : wpF P l.toArray I fs FS (fun a' => wpFL P l.toArray I fs FS St E ms rest a') [o] a) : wpFL P l.toArray I fs FS St E (false :: ms) (o :: rest) a := by
  obtain ⟨v, hob, hr⟩ := h
  exact ⟨v, hob, hr⟩
/-- one that may come behind the store -/
theorem wpFL_late (h : wpFS P l.toArray I fs FS St (fun a' => wpFL P l.toArray I fs FS St E ms rest a') none [o] a) : wpFL P l.toArray I fs FS St E (true :: ms) (o :: rest) a := by
  obtain ⟨v, hob, hr⟩ := h
  exact ⟨v, hob, hr⟩
theorem wpFL_store (h : wpFS P l.toArray I fs FS St E (some 0) (o :: rest) a) : wpFL P l.toArray I fs FS St E [] (o :: rest) a := h
end
end Go.Proofs.Ytoaclbdlgkgnpaa

namespace Go.Proofs.Ytoaclbdlgkgnpaa
open Go.RowKit
section
variable {P : Program} {l : List Oper} {vs : List Value} {fs : List Tmp} {FS : Tmp → Value → World → Prop} {I : World → Prop} {a0 : Act}
/-- an operation that looks at no memory, and at one source: of whatever is good for what the source promises it makes one value -/
def UseOb (P : Program) (ops : Array Oper) (I : World → Prop) (fs : List Tmp) (FS : Tmp → Value → World → Prop) (o : Oper) (v : Value) (a : Act) : Prop :=
  ∃ s, s ∈ fs ∧ (∃ j, (ops[j]?).bind (·.dst) = some s ∧ o.after.any (fun e => Region.binds .any e && e.on == j) = true) ∧ (∀ d ∈ o.looksAt ops, d ∈ fs → d = s) ∧ (∀ d, o.dst = some d → d ∉ fs) ∧
    ∀ x W, I W → FS s x W → Region.wanted o (yielded ops (a.put (some s) x).tmps) = true ∧ ∀ w, purUpon w v ((execOp (a.put (some s) x).eval o).run P w)
def LateOb (P : Program) (ops : Array Oper) (I : World → Prop) (fs : List Tmp) (FS : Tmp → Value → World → Prop) (o : Oper) (v : Value) (a : Act) : Prop := PureOb P ops fs o v a ∨ UseOb P ops I fs FS o v a
theorem LateOb.dst {ops : Array Oper} {o : Oper} {v : Value} {a : Act} (h : LateOb P ops I fs FS o v a) : ∀ d, o.dst = some d → d ∉ fs := by
  rcases h with h | ⟨_, _, _, _, h, _⟩
  · exact h.2.1
  · exact h
theorem LateOb.ob {ops : Array Oper} {o : Oper} {v : Value} {a : Act} (h : LateOb P ops I fs FS o v a) : Ob P ops I fs FS o v a := by
  rcases h with h | ⟨s, h1, h2, h3, h4, h5⟩
  · exact h.ob
  · refine .inr (.inr (.inl ⟨s, h1, h2, h3, h4, fun x w hI hx => ?_⟩))
    obtain ⟨q1, q2⟩ := h5 x w hI hx
    refine ⟨q1, ?_⟩
    have q3 := q2 w
    generalize (execOp (a.put (some s) x).eval o).run P w = r at q3
    cases r with
    | ok n w' =>
      cases n <;> simp only [purUpon] at q3
      case value u => exact q3
      case skip => exact q3
    | halt x w' => simp only [purUpon] at q3
theorem any_of_FG {N k f : Nat} {late : Nat → Bool} {Q' : Exit → Act → World → Prop} {St : (Tmp → Value) → World → World → Prop} (hR : RG .any l.toArray N) (hN : N ≤ a0.tmps.size) (hlen : vs.length = l.length) (hI : Closed I) (hF : ∀ s x w w', FS s x w → Below w.heap.size w w' → FS s x w')
    (hob : ∀ (j : Nat) o v, l[j]? = some o → vs[j]? = some v → (j < k → Ob P l.toArray I fs FS o v (lex l vs a0 j)) ∧ (j = k → StOb P l.toArray I fs FS St o (lex l vs a0 j)) ∧ (k < j ∨ late j = true → LateOb P l.toArray I fs FS o v (lex l vs a0 j)))
    (hk : k < l.length) (hreach : ∀ j, j < k → late j = false → reachB .any l.toArray f k j = true) (hfs : ∀ s ∈ fs, ∃ (j : Nat) (o : Oper), j < k ∧ late j = false ∧ l[j]? = some o ∧ o.dst = some s)
    (hQ : ∀ (listed : Array Bool) b W w xs, (∀ j, listed.getD j true = true) → Inv l vs fs FS I a0 listed b W → (∀ s ∈ fs, b.tmps[s]? = some (xs s) ∧ FS s (xs s) W) → St xs W w → Q' .normal b w) :
    ∀ (fuel : Nat) (listed : Array Bool) (b : Act) (W w : World), listed.toList.count false ≤ fuel → Inv l vs fs FS I a0 listed b W →
      ((listed.getD k true = false ∧ w = W) ∨ (listed.getD k true = true ∧ ∃ xs, (∀ s ∈ fs, b.tmps[s]? = some (xs s) ∧ FS s (xs s) W) ∧ St xs W w)) → wpAny P .any l.toArray Q' fuel listed b w
  | 0, listed, b, W, w, hc, h, hp => by
    have hall := count_zero (L := listed) (by omega)
    rcases hp with ⟨h0, _⟩ | ⟨_, xs, hx, hst⟩
    · rw [hall k] at h0; cases h0
    refine ⟨?_, hQ listed b W w xs hall h hx hst⟩
    rw [List.eq_nil_iff_forall_not_mem]
    intro i hi
    have := (mem_ready.1 hi).1
    rw [hall i] at this
    cases this
  | fuel + 1, listed, b, W, w, hc, h, hph => by
    refine ⟨fun h0 => ?_, fun i hi => ?_⟩
    · have hall := ready_all hR h.lsize h0
      rcases hph with ⟨h0, _⟩ | ⟨_, xs, hx, hst⟩
      · rw [hall k] at h0; cases h0
      · exact hQ listed b W w xs hall h hx hst
    obtain ⟨hun, o, ho, hall⟩ := mem_ready.1 hi
    have ho2 : l[i]? = some o := by simpa using ho
    have hp : ∀ e ∈ o.after, Region.binds .any e = true → listed.getD e.on true = true := fun e he hb => by
      have h1 := hall e he hb
      rw [Array.getD_eq_getD_getElem?] at h1 ⊢
      cases hx : listed[e.on]? with
      | none => rfl
      | some y => rw [hx] at h1; simpa using h1
    obtain ⟨v, hv⟩ : ∃ v, vs[i]? = some v := ⟨_, List.getElem?_eq_getElem (by rw [hlen]; exact (List.getElem?_eq_some_iff.1 ho2).1)⟩
    obtain ⟨q1, q2, q3⟩ := hob i o v ho2 hv
    have hcnt := count_set hun
    have hsel : ∀ cs c, o.op ≠ .select cs c := fun cs c => hR.sel i o cs c ho
    have ag : ∀ d ∈ o.looksAt l.toArray, d ∉ fs → (lex l vs a0 i).tmps[d]? = b.tmps[d]? := fun d hd hf => h.agree hR hN hlen ho2 hun hp hd hf
    rcases hph with ⟨hk0, rfl⟩ | ⟨hk1, xs, hx, hst⟩
    · by_cases hik : i = k
      · subst hik
        obtain ⟨hdst, hstore⟩ := q2 rfl
        have got : ∀ s ∈ fs, ∃ x, b.tmps[s]? = some x ∧ FS s x w ∧ s < (lex l vs a0 i).tmps.size := fun s hs => by
          obtain ⟨j, oj, hji, hlj, hoj, hdj⟩ := hfs s hs
          obtain ⟨vj, hvj⟩ : ∃ v, vs[j]? = some v := ⟨_, List.getElem?_eq_getElem (by rw [hlen]; exact (List.getElem?_eq_some_iff.1 hoj).1)⟩
          obtain ⟨x, hbx, hfx⟩ := (h.ins j oj s vj hoj (reach_ready h ho2 hp f j (hreach j hji hlj)) hdj hvj).1 hs
          exact ⟨x, hbx, hfx, by rw [(lex_size l vs a0 i).1]; exact Nat.lt_of_lt_of_le (hR.small j oj s (by simpa using hoj) hdj) hN⟩
        have hxs : ∀ s ∈ fs, b.tmps[s]? = some (b.tmps.getD s undef) ∧ FS s (b.tmps.getD s undef) w := fun s hs => by
          obtain ⟨x, hbx, hfx, _⟩ := got s hs
          simpa [hbx] using hfx
        have ag2 : ∀ d ∈ o.looksAt l.toArray, (fill fs (fun s => b.tmps.getD s undef) (lex l vs a0 i)).tmps[d]? = b.tmps[d]? := fun d hd => by
          by_cases hdf : d ∈ fs
          · obtain ⟨x, hbx, _, hlt⟩ := got d hdf
            rw [fill_in fs _ _ d hdf hlt, hbx]
            simp [hbx]
          · rw [fill_out fs _ _ d hdf]
            exact ag d hd hdf
        obtain ⟨hwt, h3⟩ := hstore (fun s => b.tmps.getD s undef) w h.cls fun s hs => (hxs s hs).2
        rw [wanted_agree (ops := l.toArray) ag2] at hwt
        rw [exec_agree (ops := l.toArray) hsel ag2] at h3
        have hin : ∀ u, Inv l vs fs FS I a0 (listed.setIfInBounds i true) (b.put o.dst u) w := fun u => h.next hR hN hI hF ho2 hp (Below.refl _ _) fun d hd => by rw [hdst] at hd; cases hd
        have hput : ∀ u, b.put o.dst u = b := fun u => by rw [hdst]; rfl
        have kk : ∀ u w', St (fun s => b.tmps.getD s undef) w w' → wpAny P .any l.toArray Q' fuel (listed.setIfInBounds i true) (b.put o.dst u) w' := fun u w' hs =>
          any_of_FG hR hN hlen hI hF hob hk hreach hfs hQ fuel _ _ w w' (by omega) (hin u) (.inr ⟨getD_set_same _ _, _, by rw [hput u]; exact hxs, hs⟩)
        unfold Go.wpOp
        simp only [ho]
        rw [if_pos hwt]
        left
        unfold Oper.wp
        generalize (execOp b.eval o).run P w = r at h3
        cases r with
        | ok n w' =>
          cases n <;> simp only [stUpon] at h3 <;> simp only [Oper.upon]
          case value u => exact kk _ _ h3
          case skip => exact kk _ _ h3
        | halt x w' => simp only [stUpon] at h3
      · have hob' : Ob P l.toArray I fs FS o v (lex l vs a0 i) := by
          rcases Nat.lt_or_gt_of_ne hik with hlt | hgt
          · exact q1 hlt
          · exact (q3 (.inl hgt)).ob
        exact op_of_F hR hN hlen h ho2 hun hp hv hob' fun u w' hb hu =>
          any_of_FG hR hN hlen hI hF hob hk hreach hfs hQ fuel _ _ w' w' (by omega) (h.next hR hN hI hF ho2 hp hb hu) (.inl ⟨by rw [getD_set_far _ hik]; exact hk0, rfl⟩)
    · have hki : k < i ∨ late i = true := by
        rcases Nat.lt_trichotomy i k with hlt | rfl | hgt
        · cases hla : late i with
          | true => exact .inr rfl
          | false => rw [reach_listed h f k i hk1 (hreach i hlt hla)] at hun; cases hun
        · rw [hk1] at hun; cases hun
        · exact .inl hgt
      have h2 := (q3 hki).dst
      have kv : wpAny P .any l.toArray Q' fuel (listed.setIfInBounds i true) (b.put o.dst v) w :=
        any_of_FG hR hN hlen hI hF hob hk hreach hfs hQ fuel _ _ W w (by omega) (h.next hR hN hI hF ho2 hp (Below.refl _ _) fun d hd => ⟨fun hf => absurd hf (h2 d hd), fun _ => hv⟩)
          (.inr ⟨getD_set_up _ hk1, xs, fun s hs => ⟨by rw [put_other v (fun e => h2 s e hs)]; exact (hx s hs).1, (hx s hs).2⟩, hst⟩)
      unfold Go.wpOp
      simp only [ho]
      rcases q3 hki with ⟨h1, _, h3⟩ | ⟨s, hs, _, h1, _, huse⟩
      · have he := exec_agree (ops := l.toArray) hsel fun d hd => ag d hd (h1 d hd)
        have hw := wanted_agree (ops := l.toArray) fun d hd => ag d hd (h1 d hd)
        rcases h3 with ⟨hwt, hval⟩ | ⟨hwf, rfl⟩
        · rw [hw] at hwt
          rw [if_pos hwt]
          left
          have h4 := hval w
          rw [he] at h4
          unfold Oper.wp
          generalize (execOp b.eval o).run P w = r at h4
          cases r with
          | ok n w' =>
            cases n <;> simp only [purUpon] at h4 <;> simp only [Oper.upon]
            case value u => obtain ⟨rfl, rfl⟩ := h4; exact kv
            case skip => obtain ⟨rfl, rfl⟩ := h4; exact kv
          | halt x w' => simp only [purUpon] at h4
        · rw [hw] at hwf
          rw [hwf, if_neg (by simp)]
          exact kv
      · obtain ⟨hbx, hfx⟩ := hx s hs
        have hslt : s < (lex l vs a0 i).tmps.size := by
          rw [(lex_size l vs a0 i).1, ← h.size]
          exact (Array.getElem?_eq_some_iff.1 hbx).1
        have ag2 : ∀ d ∈ o.looksAt l.toArray, ((lex l vs a0 i).put (some s) (xs s)).tmps[d]? = b.tmps[d]? := fun d hd => by
          by_cases hsd : s = d
          · subst hsd
            rw [put_same (xs s) hslt, hbx]
          · rw [put_other (xs s) (by simpa using hsd)]
            exact ag d hd fun hf => hsd (h1 d hd hf).symm
        obtain ⟨hwt, hval⟩ := huse (xs s) W h.cls hfx
        have he := exec_agree (ops := l.toArray) hsel ag2
        rw [wanted_agree (ops := l.toArray) ag2] at hwt
        rw [if_pos hwt]
        left
        have h4 := hval w
        rw [he] at h4
        unfold Oper.wp
        generalize (execOp b.eval o).run P w = r at h4
        cases r with
        | ok n w' =>
          cases n <;> simp only [purUpon] at h4 <;> simp only [Oper.upon]
          case value u => obtain ⟨rfl, rfl⟩ := h4; exact kv
          case skip => obtain ⟨rfl, rfl⟩ := h4; exact kv
        | halt x w' => simp only [purUpon] at h4

theorem region_of_FG {id : Nat} {Q : Exit → Act → World → Prop} {a : Act} {w : World} {l : List Oper} {vs : List Value} {N k f : Nat} {late : Nat → Bool} {fs : List Tmp} {FS : Tmp → Value → World → Prop} {I : World → Prop} {St : (Tmp → Value) → World → World → Prop} (hm : P.follows .mixedOrders = true) (hR : RG .any l.toArray N)
    (hk' : k < l.length) (hreach : ∀ j, j < k → late j = false → reachB .any l.toArray f k j = true) (hfs' : ∀ s ∈ fs, ∃ (j : Nat) (o : Oper), j < k ∧ late j = false ∧ l[j]? = some o ∧ o.dst = some s) (hN : N ≤ a.tmps.size) (hI : Closed I) (hF : ∀ s x w w', FS s x w → Below w.heap.size w w' → FS s x w') (hC : I w.drew)
    (hlen : vs.length = l.length) (hob : ∀ (j : Nat) o v, l[j]? = some o → vs[j]? = some v → (j < k → Ob P l.toArray I fs FS o v (lex l vs a j)) ∧ (j = k → StOb P l.toArray I fs FS St o (lex l vs a j)) ∧ (k < j ∨ late j = true → LateOb P l.toArray I fs FS o v (lex l vs a j)))
    (hE : ∀ xs W w', I W → (∀ s ∈ fs, FS s (xs s) W) → St xs W w' → Q .normal (fill fs xs (lex l vs a l.length)) w') : (Code.region id l.toArray true).wp P Q a w := by
  refine wp_region_any hm ?_
  refine any_of_FG (l := l) (vs := vs) (fs := fs) (FS := FS) (I := I) (a0 := a) (St := St) (k := k) (f := f) (late := late) hR hN hlen hI hF hob hk' hreach hfs' ?_ _ _ _ w.drew _ ?_ ?_ ?_
  · intro listed b W w' xs hall hinv hx hst
    have hb : b = fill fs xs (lex l vs a l.length) := by
      have ht : b.tmps = (fill fs xs (lex l vs a l.length)).tmps := by
        apply Array.ext_getElem?
        intro d
        by_cases hd : d ∈ fs
        · have hlt : d < (lex l vs a l.length).tmps.size := by
            rw [(lex_size l vs a l.length).1, ← hinv.size]
            exact (Array.getElem?_eq_some_iff.1 (hx d hd).1).1
          rw [fill_in fs _ _ d hd hlt, (hx d hd).1]
        · rw [fill_out fs _ _ d hd]
          by_cases hwr : ∃ (j : Nat) (oj : Oper), l[j]? = some oj ∧ oj.dst = some d
          · obtain ⟨j, oj, hj, hdj⟩ := hwr
            obtain ⟨v, hv⟩ : ∃ v, vs[j]? = some v := ⟨_, List.getElem?_eq_getElem (by rw [hlen]; exact (List.getElem?_eq_some_iff.1 hj).1)⟩
            have hj' : l.toArray[j]? = some oj := by simpa using hj
            rw [(hinv.ins j oj d v hj (hall j) hdj hv).2 hd]
            exact (lex_in l vs a l.length j oj d v hj (List.getElem?_eq_some_iff.1 hj).1 hv hdj (Nat.lt_of_lt_of_le (hR.small _ _ _ hj' hdj) hN) fun i oi hi _ hne => hR.once i j oi oj d (by simpa using hi) hj' hdj hne).symm
          · rw [lex_out l vs a l.length d fun i oi hi _ hdi => hwr ⟨i, oi, hi, hdi⟩]
            exact hinv.out d fun i oi hi _ hdi => hwr ⟨i, oi, hi, hdi⟩
      have hd : b.defers = (fill fs xs (lex l vs a l.length)).defers := by
        rw [(fill_size ..).2, (lex_size ..).2]
        exact hinv.defers
      cases b
      simp only at ht hd
      rw [Act.mk.injEq]
      exact ⟨ht, hd⟩
    rw [hb]
    exact hE xs W w' hinv.cls (fun s hs => (hx s hs).2) hst
  · simp
  · refine ⟨hC, rfl, rfl, fun _ _ => rfl, fun j o d v hj hlj => ?_, fun j o hj hlj => ?_, by simp⟩
    all_goals
      have hlt := (List.getElem?_eq_some_iff.1 hj).1
      rw [Array.getD_eq_getD_getElem?] at hlj
      simp [hlt] at hlj
  · refine .inl ⟨?_, rfl⟩
    rw [Array.getD_eq_getD_getElem?]
    simp [hk']

/-- the walk behind the store -/
def wpFGn (P : Program) (ops : Array Oper) (I : World → Prop) (fs : List Tmp) (FS : Tmp → Value → World → Prop) (E : Act → Prop) : List Oper → Act → Prop
  | [], a => E a
  | o :: r, a => ∃ v, LateOb P ops I fs FS o v a ∧ wpFGn P ops I fs FS E r (a.put o.dst v)
theorem wpFGn_vals {ops : Array Oper} {E : Act → Prop} : ∀ (l : List Oper) (a : Act), wpFGn P ops I fs FS E l a → ∃ vs : List Value, vs.length = l.length ∧
    (∀ (j : Nat) o v, l[j]? = some o → vs[j]? = some v → LateOb P ops I fs FS o v (lex l vs a j)) ∧ E (lex l vs a l.length)
  | [], a, h => ⟨[], rfl, by simp, h⟩
  | o :: r, a, ⟨v, hob, hr⟩ => by
    obtain ⟨vs, h1, h2, h3⟩ := wpFGn_vals r _ hr
    refine ⟨v :: vs, by simp [h1], fun j o' v' ho hv => ?_, h3⟩
    cases j with
    | zero =>
      simp only [List.getElem?_cons_zero, Option.some.injEq] at ho hv
      subst ho hv
      exact hob
    | succ j =>
      simp only [List.getElem?_cons_succ] at ho hv
      exact h2 j o' v' ho hv
/-- the walk in the text's order: operations ahead of the store (true: it may come behind it), the store, the rest -/
def wpFG (P : Program) (ops : Array Oper) (I : World → Prop) (fs : List Tmp) (FS : Tmp → Value → World → Prop) (St : (Tmp → Value) → World → World → Prop) (E : Act → Prop) : List Bool → List Oper → Act → Prop
  | _, [], a => E a
  | [], o :: r, a => StOb P ops I fs FS St o a ∧ wpFGn P ops I fs FS E r a
  | false :: m, o :: r, a => ∃ v, Ob P ops I fs FS o v a ∧ wpFG P ops I fs FS St E m r (a.put o.dst v)
  | true :: m, o :: r, a => ∃ v, LateOb P ops I fs FS o v a ∧ wpFG P ops I fs FS St E m r (a.put o.dst v)
theorem wpFG_vals {ops : Array Oper} {St : (Tmp → Value) → World → World → Prop} {E : Act → Prop} : ∀ (ms : List Bool) (l : List Oper) (a : Act), wpFG P ops I fs FS St E ms l a → ∃ vs : List Value, vs.length = l.length ∧
    (∀ (j : Nat) o v, l[j]? = some o → vs[j]? = some v → (j < ms.length → Ob P ops I fs FS o v (lex l vs a j)) ∧ (j = ms.length → StOb P ops I fs FS St o (lex l vs a j)) ∧ (ms.length < j ∨ ms.getD j false = true → LateOb P ops I fs FS o v (lex l vs a j))) ∧ E (lex l vs a l.length)
  | _, [], a, h => ⟨[], rfl, by simp, by cases ‹List Bool› with | nil => exact h | cons b m => cases b <;> exact h⟩
  | [], o :: r, a, ⟨hob, hr⟩ => by
    obtain ⟨vs, h1, h2, h3⟩ := wpFGn_vals r _ hr
    have hput : a.put o.dst undef = a := by rw [hob.1]; rfl
    refine ⟨undef :: vs, by simp [h1], fun j o' v' ho hv => ?_, ?_⟩
    · cases j with
      | zero =>
        simp only [List.getElem?_cons_zero, Option.some.injEq] at ho hv
        subst ho hv
        exact ⟨fun h => absurd h (Nat.not_lt_zero _), fun _ => hob, fun h => h.elim (fun h => absurd h (Nat.not_lt_zero _)) (fun h => by simp at h)⟩
      | succ j =>
        simp only [List.getElem?_cons_succ] at ho hv
        refine ⟨fun h => absurd h (Nat.not_lt_zero _), fun h => absurd h (Nat.succ_ne_zero j), fun _ => ?_⟩
        show LateOb P ops I fs FS o' v' (lex r vs (a.put o.dst undef) j)
        rw [hput]
        exact h2 j o' v' ho hv
    · show E (lex r vs (a.put o.dst undef) r.length)
      rw [hput]
      exact h3
  | false :: m, o :: r, a, ⟨v, hob, hr⟩ => by
    obtain ⟨vs, h1, h2, h3⟩ := wpFG_vals m r _ hr
    refine ⟨v :: vs, by simp [h1], fun j o' v' ho hv => ?_, h3⟩
    cases j with
    | zero =>
      simp only [List.getElem?_cons_zero, Option.some.injEq] at ho hv
      subst ho hv
      exact ⟨fun _ => hob, fun h => by simp at h, fun h => by simp at h⟩
    | succ j =>
      simp only [List.getElem?_cons_succ] at ho hv
      obtain ⟨q1, q2, q3⟩ := h2 j o' v' ho hv
      exact ⟨fun h => q1 (by simp at h; omega), fun h => q2 (by simp at h; omega), fun h => q3 (by simp at h; exact h.imp (fun h => by omega) (fun h => by simpa using h))⟩
  | true :: m, o :: r, a, ⟨v, hob, hr⟩ => by
    obtain ⟨vs, h1, h2, h3⟩ := wpFG_vals m r _ hr
    refine ⟨v :: vs, by simp [h1], fun j o' v' ho hv => ?_, h3⟩
    cases j with
    | zero =>
      simp only [List.getElem?_cons_zero, Option.some.injEq] at ho hv
      subst ho hv
      exact ⟨fun _ => hob.ob, fun h => by simp at h, fun _ => hob⟩
    | succ j =>
      simp only [List.getElem?_cons_succ] at ho hv
      obtain ⟨q1, q2, q3⟩ := h2 j o' v' ho hv
      exact ⟨fun h => q1 (by simp at h; omega), fun h => q2 (by simp at h; omega), fun h => q3 (by simp at h; exact h.imp (fun h => by omega) (fun h => by simpa using h))⟩
/-- ONE WALK IN THE TEXT's ORDER SERVES EVERY ORDER, the store behind as many as ms has -/
theorem wp_region_FG {id : Nat} {Q : Exit → Act → World → Prop} {a : Act} {w : World} {l : List Oper} (N f : Nat) (ms : List Bool) (fs : List Tmp) (FS : Tmp → Value → World → Prop) (I : World → Prop) (St : (Tmp → Value) → World → World → Prop) (hm : P.follows .mixedOrders = true) (hB : rgB .any l.toArray N = true)
    (hk : decide (ms.length < l.length) = true) (hreach : ((List.range ms.length).all fun j => ms.getD j false || reachB .any l.toArray f ms.length j) = true) (hfs : (fs.all fun s => (List.range ms.length).any fun j => !ms.getD j false && ((l[j]?).bind (·.dst) == some s)) = true) (hN : N ≤ a.tmps.size) (hI : Closed I) (hF : ∀ s x w w', FS s x w → Below w.heap.size w w' → FS s x w') (hC : I w.drew)
    (h : wpFG P l.toArray I fs FS St (fun a' => ∀ xs W w', I W → (∀ s ∈ fs, FS s (xs s) W) → St xs W w' → Q .normal (fill fs xs a') w') ms l a) : (Code.region id l.toArray true).wp P Q a w := by
  have hR := rgB_spec hB
  have hk' : ms.length < l.length := by simpa using hk
  obtain ⟨vs, hlen, hob, hE⟩ := wpFG_vals ms l a h
  have hfs' : ∀ s ∈ fs, ∃ (j : Nat) (o : Oper), j < ms.length ∧ ms.getD j false = false ∧ l[j]? = some o ∧ o.dst = some s := fun s hs => by
    rw [List.all_eq_true] at hfs
    have h1 := hfs s hs
    rw [List.any_eq_true] at h1
    obtain ⟨j, hj, hd⟩ := h1
    rw [List.mem_range] at hj
    rw [Bool.and_eq_true] at hd
    obtain ⟨o, ho⟩ : ∃ o, l[j]? = some o := ⟨_, List.getElem?_eq_getElem (by omega)⟩
    rw [ho] at hd
    exact ⟨j, o, hj, by simpa using hd.1, ho, by simpa using hd.2⟩
  exact region_of_FG (late := fun j => ms.getD j false) hm hR hk' (fun j hj hl => by
    rw [List.all_eq_true] at hreach
    have h1 := hreach j (List.mem_range.2 hj)
    rw [hl, Bool.false_or] at h1
    exact h1) hfs' hN hI hF hC hlen hob hE

/-! ### its steps -/
section
variable {l : List Oper} {St : (Tmp → Value) → World → World → Prop} {E : Act → Prop} {o : Oper} {rest : List Oper} {a : Act} {ms : List Bool}
theorem wpFG_step (h : wpF P l.toArray I fs FS (fun a' => wpFG P l.toArray I fs FS St E ms rest a') [o] a) : wpFG P l.toArray I fs FS St E (false :: ms) (o :: rest) a := by
  obtain ⟨v, hob, hr⟩ := h
  exact ⟨v, hob, hr⟩
theorem useOb_of (s : Tmp) (j : Nat) (v : Value) (hs : s ∈ fs) (hj : (l[j]?).bind (·.dst) = some s) (hje : (o.after.any fun e => Region.binds .any e && e.on == j) = true)
    (hn : ((o.looksAt l.toArray).all fun d => !fs.contains d || d == s) = true) (hdst : (match o.dst with | some d => !fs.contains d | none => true) = true) (hw : ∀ x, Region.wanted o (yielded l.toArray (a.put (some s) x).tmps) = true)
    (hrun : ∀ x W, FS s x W → ∀ w, (execOp (a.put (some s) x).eval o).run P w = .ok (.value v) w) : UseOb P l.toArray I fs FS o v a := by
  refine ⟨s, hs, ⟨j, by simpa using hj, hje⟩, fun d hd hf => ?_, fun d hd => ?_, fun x W _ hx => ⟨hw x, fun w => ?_⟩⟩
  · have h1 := (List.all_eq_true.1 hn) d hd
    rw [Bool.or_eq_true] at h1
    rcases h1 with h1 | h1
    · rw [List.contains_iff_mem.2 hf] at h1; cases h1
    · simpa using h1
  · rw [hd] at hdst
    intro hf
    simp only [List.contains_iff_mem.2 hf] at hdst
    cases hdst
  · rw [hrun x W hx w]
    exact ⟨rfl, rfl⟩
/-- an operation ahead of the store that may come behind it, of one source's value -/
theorem wpFG_use (s : Tmp) (j : Nat) (v : Value) (hs : s ∈ fs) (hj : (l[j]?).bind (·.dst) = some s) (hje : (o.after.any fun e => Region.binds .any e && e.on == j) = true)
    (hn : ((o.looksAt l.toArray).all fun d => !fs.contains d || d == s) = true) (hdst : (match o.dst with | some d => !fs.contains d | none => true) = true) (hw : ∀ x, Region.wanted o (yielded l.toArray (a.put (some s) x).tmps) = true)
    (hrun : ∀ x W, FS s x W → ∀ w, (execOp (a.put (some s) x).eval o).run P w = .ok (.value v) w) (h : wpFG P l.toArray I fs FS St E ms rest (a.put o.dst v)) : wpFG P l.toArray I fs FS St E (true :: ms) (o :: rest) a :=
  ⟨v, .inr (useOb_of s j v hs hj hje hn hdst hw hrun), h⟩
theorem wpFG_storeX {t : TypeId} {x y : Operand} (ho : o.op = .store t x y) (hd : o.dst = none) (hg : o.guard = none)
    (hrun : ∀ xs w, I w → (∀ s ∈ fs, FS s (xs s) w) → ∃ w', (Instr.storeAt t ((fill fs xs a).eval x) ((fill fs xs a).eval y)).run P w = .ok () w' ∧ St xs w w') (h : wpFGn P l.toArray I fs FS E rest a) : wpFG P l.toArray I fs FS St E [] (o :: rest) a := by
  refine ⟨⟨hd, fun xs w hI hs => ⟨by simp [Region.wanted, hg], ?_⟩⟩, h⟩
  obtain ⟨w', hr, hst⟩ := hrun xs w hI hs
  unfold execOp
  simp only [ho]
  rw [Sem.run_bind, hr]
  exact hst
/-- behind the store -/
theorem wpFGn_pure (h : wpFS P l.toArray I fs FS (fun _ _ _ => True) (fun a' => wpFGn P l.toArray I fs FS E rest a') none [o] a) : wpFGn P l.toArray I fs FS E (o :: rest) a := by
  obtain ⟨v, hob, hr⟩ := h
  exact ⟨v, .inl hob, hr⟩
end
end
end Go.Proofs.Ytoaclbdlgkgnpaa
