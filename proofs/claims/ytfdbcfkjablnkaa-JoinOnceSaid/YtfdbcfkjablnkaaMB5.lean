/-
  A part of the texts of one proof, put together: TabC, TabG, JoiM, TabSh, Q12, Q3, Q11, Q19, JoiT, JoiK, StopN, JoiW, TabX, HdO.
-/
import Derived.RangeFuncNested
import Derived.Test.YtfdbcfkjablnkaaRows
import Derived.WalkKit
import Derived.ProofKit
import Derived.OpenShut
import Derived.Deep.Fields
import Derived.Test.YtfdbcfkjablnkaaMB4
namespace Go.Proofs.Ytfdbcfkjablnkaa
open Go.RowKit Go.Shelf
set_option maxRecDepth 100000
attribute [local go_sem] Oper.semAt_some
namespace Tb
/-- the same message, whatever the order in which its frames came -/
def Like (x y : Ms) : Prop := y.v = x.v ∧ y.k = x.k ∧ y.s = x.s ∧ y.c = x.c ∧ x.C.Perm y.C
def Likes : List Ms → List Ms → Prop
  | [], [] => True
  | x :: r, y :: s => Like x y ∧ Likes r s
  | _, _ => False
theorem Likes.push : ∀ {T T' : List Ms} {x y : Ms}, Likes T T' → Like x y → Likes (T ++ [x]) (T' ++ [y])
  | [], [], _, _, _, h => ⟨h, trivial⟩
  | _ :: _, _ :: _, _, _, h, h2 => ⟨h.1, Likes.push h.2 h2⟩
  | [], _ :: _, _, _, h, _ => h.elim
  | _ :: _, [], _, _, h, _ => h.elim
theorem Likes.nums : ∀ {T T' : List Ms}, Likes T T' → nums T' = nums T
  | [], [], _ => rfl
  | x :: r, y :: s, h => by
    have := Likes.nums h.2
    unfold Tb.nums at *
    rw [List.map_cons, List.map_cons, this, h.1.2.2.1]
  | [], _ :: _, h => h.elim
  | _ :: _, [], h => h.elim
end Tb
theorem nodup_at {α : Type} : ∀ {l : List α} {i j : Nat} {a : α}, l.Nodup → l[i]? = some a → l[j]? = some a → i = j
  | [], i, _, a, _, h, _ => by simp at h
  | x :: r, 0, 0, a, _, _, _ => rfl
  | x :: r, 0, j + 1, a, hn, h1, h2 => by
    simp only [List.getElem?_cons_zero, Option.some.injEq] at h1
    rw [List.getElem?_cons_succ] at h2
    exact absurd (List.mem_of_getElem? h2) (by rw [← h1]; exact (List.nodup_cons.1 hn).1)
  | x :: r, i + 1, 0, a, hn, h1, h2 => by
    simp only [List.getElem?_cons_zero, Option.some.injEq] at h2
    rw [List.getElem?_cons_succ] at h1
    exact absurd (List.mem_of_getElem? h1) (by rw [← h2]; exact (List.nodup_cons.1 hn).1)
  | x :: r, i + 1, j + 1, a, hn, h1, h2 => by
    rw [List.getElem?_cons_succ] at h1 h2
    rw [nodup_at (List.nodup_cons.1 hn).2 h1 h2]
/-- what the slots hold whose values are known by what they are good for -/
def FCp (H n r : Nat) (L : List Int) (q : Tmp) (x : Value) (W : World) : Prop :=
  if q = 16 then ∃ A cp, x = .slice A n cp ∧ W.ownsRow H 22 1 (.slice A n cp) n (L.map (Value.int .u32))
  else if q = 17 then ∃ m, x = .map (some m) ∧ H ≤ m ∧ TMapAt W m []
  else if q = 18 then ∃ A cp m, x = .agg #[.int .i64 (r : Int), .slice A n cp, .map (some m)] ∧ W.ownsRow H 22 1 (.slice A n cp) n (L.map (Value.int .u32)) ∧ H ≤ m ∧ TMapAt W m []
  else if q = 19 then ∃ c A cp m, x = .pointer (some ⟨c, 0, none⟩) ∧ H ≤ c ∧ W.heap[c]? = some (.cells #[.int .i64 (r : Int), .slice A n cp, .map (some m)] 75 (0, 0)) ∧ W.ownsRow H 22 1 (.slice A n cp) n (L.map (Value.int .u32)) ∧ H ≤ m ∧ TMapAt W m []
  else ∃ p, x = .pointer (some ⟨p, 0, none⟩) ∧ H ≤ p ∧ Boxed W p 53 (.pointer none)
theorem tord_below {w w' : World} {base size n : Nat} {e : TypeId} {v : Value} {xs : List Value} (h : w.ownsRow base e size v n xs) (hb : Below w.heap.size w w') : w'.ownsRow base e size v n xs := tord_off h (Off.of_below (S := fun _ => False) hb) fun _ _ h => h
theorem row_below {w w' : World} {q : Nat} {o : Obj} (h : w.heap[q]? = some o) (hb : Below w.heap.size w w') : w'.heap[q]? = some o := (hb.block q (Array.getElem?_eq_some_iff.1 h).1).trans h
theorem FCp.later {H n r : Nat} {L : List Int} {q : Tmp} {x : Value} {W W' : World} (h : FCp H n r L q x W) (hb : Below W.heap.size W W') : FCp H n r L q x W' := by
  unfold FCp at *
  split
  · rename_i e; rw [if_pos e] at h
    obtain ⟨A, cp, h1, h2⟩ := h
    exact ⟨A, cp, h1, tord_below h2 hb⟩
  · rename_i e; rw [if_neg e] at h
    split
    · rename_i e; rw [if_pos e] at h
      obtain ⟨m, h1, h2, h3⟩ := h
      exact ⟨m, h1, h2, h3.below hb⟩
    · rename_i e; rw [if_neg e] at h
      split
      · rename_i e; rw [if_pos e] at h
        obtain ⟨A, cp, m, h1, h2, h3, h4⟩ := h
        exact ⟨A, cp, m, h1, tord_below h2 hb, h3, h4.below hb⟩
      · rename_i e; rw [if_neg e] at h
        split
        · rename_i e; rw [if_pos e] at h
          obtain ⟨c, A, cp, m, h1, h2, h3, h4, h5, h6⟩ := h
          exact ⟨c, A, cp, m, h1, h2, row_below h3 hb, tord_below h4 hb, h5, h6.below hb⟩
        · rename_i e; rw [if_neg e] at h
          obtain ⟨p, h1, h2, h3⟩ := h
          exact ⟨p, h1, h2, row_below h3 hb⟩
/-- a copy under way: box p holds the table in block c, its map in block m; X' has come -/
structure CpS (w : World) (p c m r n cp : Nat) (A : Option Addr) (L : List Int) (X X' : List Sx) (V : World) : Prop where
  box : Boxed V p 53 (.pointer (some ⟨c, 0, none⟩))
  row : V.heap[c]? = some (.cells #[.int .i64 (r : Int), .slice A n cp, .map (some m)] 75 (0, 0))
  ord : V.ownsRow w.heap.size 22 1 (.slice A n cp) n (L.map (Value.int .u32))
  map : TMapAt V m (X'.map Sx.key)
  slots : ∀ x ∈ X', x.At V
  maps : (m :: X'.map Sx.m).Nodup
  like : Tb.Likes (X.map Sx.ms) (X'.map Sx.ms)
  new : w.heap.size ≤ p ∧ w.heap.size ≤ c ∧ w.heap.size ≤ m ∧ ∀ x ∈ X', w.heap.size ≤ x.m
  below : Below w.heap.size w V
section
variable {w V V' W W' : World} {p c m r n cp : Nat} {A : Option Addr} {L : List Int} {X X' : List Sx}
theorem CpS.below' (h : CpS w p c m r n cp A L X X' V) (hb : Below V.heap.size V V') : CpS w p c m r n cp A L X X' V' :=
  ⟨(hb.block _ h.box.lt).trans h.box, row_below h.row hb, tord_below h.ord hb, h.map.below hb, fun x hx => (h.slots x hx).below hb, h.maps, h.like, h.new, h.below.trans (hb.mono h.below.size)⟩
/-- a record that is no row and no map is turned -/
theorem CpS.loop {l : Nat} {o : Obj} (h : CpS w p c m r n cp A L X X' V) (ho : V.heap[l]? = some o) (o1 : ∀ cs t x, o ≠ .cells cs t x) (o2 : ∀ A k, o ≠ .map A k) (hl : w.heap.size ≤ l) (o' : Obj) : CpS w p c m r n cp A L X X' (V.putObj l o') := by
  have hof : Off (fun q => q = l) V (V.putObj l o') := ⟨rfl, rfl, rfl, by simp, fun k _ hk => World.putObj_heap_other hk⟩
  have hc : ∀ (q : Nat) (cs : Array Value) (t : TypeId) (x : Nat × Nat), V.heap[q]? = some (.cells cs t x) → ¬ q = l := fun q cs t x h1 e => by
    rw [e, ho] at h1; injection h1 with h1; exact o1 _ _ _ h1
  have hm : ∀ (q : Nat) (A : Array MapEntry) (k : Nat), V.heap[q]? = some (.map A k) → ¬ q = l := fun q A k h1 e => by
    rw [e, ho] at h1; injection h1 with h1; exact o2 _ _ h1
  refine ⟨(hof.block _ h.box.lt (hc _ _ _ _ h.box)).trans h.box, (hof.block _ (Array.getElem?_eq_some_iff.1 h.row).1 (hc _ _ _ _ h.row)).trans h.row, tord_off h.ord hof fun g hg => ?_, h.map.off hof ?_, fun x hx => (h.slots x hx).off hof (fun cs h1 => hc _ _ _ _ h1) ?_ (fun g cs h1 => hc _ _ _ _ h1), h.maps, h.like, h.new, h.below.trans (below_put V o' hl)⟩
  · obtain ⟨cs, h1⟩ := tord_row h.ord hg
    exact hc _ _ _ _ h1
  · obtain ⟨A, k, h1, _⟩ := h.map
    exact hm _ _ _ h1
  · obtain ⟨A, k, h1, _⟩ := SlotAt.map (h.slots x hx)
    exact hm _ _ _ h1
theorem CpS.keys (h : CpS w p c m r n cp A L X X' V) : X'.map Sx.s = X.map Sx.s := by
  have := h.like.nums
  rw [nums_ms, nums_ms] at this
  exact this
/-- one more copy has come -/
theorem CpS.push {x y : Sx} (h : CpS w p c m r n cp A L X X' V) (hW : Below V.heap.size V W) (hx : Tb.Like x.ms y.ms) (hy : y.At W) (hym : V.heap.size ≤ y.m) (hmap : TMapAt W' m ((X' ++ [y]).map Sx.key)) (hoff : Off (fun q => q = m) W W') :
    CpS w p c m r n cp A L (X ++ [x]) (X' ++ [y]) W' := by
  have hw := h.below' hW
  have hmlt := h.map.lt
  have hcell : ∀ (q : Nat) (cs : Array Value) (t : TypeId) (z : Nat × Nat), W.heap[q]? = some (.cells cs t z) → ¬ q = m := fun q cs t z h1 e => hw.map.not_cells cs t z (by rw [← e]; exact h1)
  have hXm : ∀ z ∈ X', z.m < V.heap.size := fun z hz => (SlotAt.map (h.slots z hz)).lt
  refine ⟨(hoff.block _ hw.box.lt (hcell _ _ _ _ hw.box)).trans hw.box, (hoff.block _ (Array.getElem?_eq_some_iff.1 hw.row).1 (hcell _ _ _ _ hw.row)).trans hw.row, tord_off hw.ord hoff fun g hg => ?_, hmap, fun z hz => ?_, ?_, ?_, ⟨h.new.1, h.new.2.1, h.new.2.2.1, fun z hz => ?_⟩, hw.below.trans (hoff.below (fun q hq => by rw [hq]; exact h.new.2.2.1) hw.below.size)⟩
  · obtain ⟨cs, h1⟩ := tord_row hw.ord hg
    exact hcell _ _ _ _ h1
  · rcases List.mem_append.1 hz with hz | hz
    · exact (hw.slots z hz).off hoff (fun cs h1 => hcell _ _ _ _ h1) (fun e => (List.nodup_cons.1 h.maps).1 (List.mem_map.2 ⟨z, hz, e⟩)) (fun g cs h1 => hcell _ _ _ _ h1)
    · obtain rfl := List.mem_singleton.1 hz
      exact hy.off hoff (fun cs h1 => hcell _ _ _ _ h1) (by omega) (fun g cs h1 => hcell _ _ _ _ h1)
  · rw [List.map_append, ← List.cons_append, List.nodup_append]
    refine ⟨h.maps, by simp, fun a ha q hq => ?_⟩
    have hq' : q = y.m := by simpa using hq
    subst hq'
    rcases List.mem_cons.1 ha with rfl | ha
    · omega
    · obtain ⟨z, hz, rfl⟩ := List.mem_map.1 ha
      have := hXm z hz
      omega
  · rw [List.map_append, List.map_append]
    exact h.like.push hx
  · rcases List.mem_append.1 hz with hz | hz
    · exact h.new.2.2.2 z hz
    · obtain rfl := List.mem_singleton.1 hz
      have := h.below.size
      omega
theorem CpS.done (h : CpS w p c m r n cp A (X.map Sx.s) X X' V) (hl : X.length = n) (hr : 1 ≤ r ∧ r ≤ 16) (hn : n ≤ r) : TblAt V (fun q => w.heap.size ≤ q) c r m A n cp X' := by
  have hk := h.keys
  have hl' : X'.length = n := by
    have := congrArg List.length hk
    rw [List.length_map, List.length_map] at this
    omega
  refine ⟨h.row, hl', ?_, h.map, h.slots, h.maps, hr, hn, h.new.2.1, h.new.2.2.1, fun g hg => (h.ord.lt g hg).1, h.new.2.2.2⟩
  rw [hk]
  exact ⟨h.ord.1, h.ord.2.imp id fun ⟨g, cap, cur, h1, h2, h3⟩ => ⟨g, cap, cur, h1, Nat.zero_le _, h3⟩⟩
end
section
variable {w : World} {S : Nat → Prop} {b r m n cp : Nat} {A : Option Addr} {X : List Sx}
set_option maxHeartbeats 8000000 in
theorem tcopy_any (h : TblAt w S b r m A n cp X) :
    Calls Try.prog 29 #[.pointer (some ⟨b, 0, none⟩)] w fun e w' => ∃ c m' A' cp' X', e = .returned (.pointer (some ⟨c, 0, none⟩)) ∧ TblAt w' (fun q => w.heap.size ≤ q) c r m' A' n cp' X' ∧ Tb.Likes (X.map Sx.ms) (X'.map Sx.ms) ∧ Below w.heap.size w w' := by
  have hlen := h.len
  have hn16 : n ≤ 16 := by have := h.few; have := h.room; omega
  have hmm := @run_makeMap Try.prog
  have HT := Lib.hid h
  have L1 : ∀ W, Below w.heap.size w W → (Instr.loadAt 3 (.pointer (some ⟨b, 0, none⟩))).run Try.prog W = .ok (.int .i64 (r : Int)) W := fun W hW => by
    obtain ⟨c0, c1, c2⟩ := (HT.out.below hW).cells
    simp [Instr.loadAt, go_sem, c0]
  have L2 : ∀ W, Below w.heap.size w W → (Instr.loadAt 30 (.pointer (some ⟨b, 1, none⟩))).run Try.prog W = .ok (.slice A n cp) W := fun W hW => by
    obtain ⟨c0, c1, c2⟩ := (HT.out.below hW).cells
    simp [Instr.loadAt, go_sem, c1]
  have KC : ∀ W, Below w.heap.size w W → Calls Try.prog 45 #[.slice A n cp] W fun e w' => ∃ v, e = .returned v ∧ MadeK 22 .u32 W w' (X.map Sx.s) v := fun W hW => clone_u32 A n cp (X.map Sx.s) W (by rw [List.length_map]; exact hlen) (by omega) ((HT.out.nums.below hW).mono hW.size)
  clear h
  refine (callsIn_wide (n := 3)).1 ?_
  refine callsIn_of_wp_marks Try.func29 rfl trivial ?_ rfl
  simp only [Try.ntmps29, List.size_toArray, List.length_cons, List.length_nil, Nat.reduceAdd, Nat.reduceSub, Array.replicate_succ, Array.replicate_zero, List.push_toArray, List.append_toArray, List.nil_append, List.cons_append]
  gi_wp2_with fail
  refine wpIn_wide.2 ?_
  refine wp_region_FS 32 13 6 [16, 17, 18, 19, 3] (FCp w.heap.size n r (X.map Sx.s)) (fun W => Below w.heap.size w W) (fun xs W W' => ∃ c p, xs 19 = .pointer (some ⟨c, 0, none⟩) ∧ xs 3 = .pointer (some ⟨p, 0, none⟩) ∧ ∃ m' A' cp', CpS w p c m' r n cp' A' (X.map Sx.s) [] [] W') (by kernel_rfl) (by kernel_rfl) (by rfl) (by kernel_rfl) (by rfl) (by simp) (fun W W' h hb => h.trans (hb.mono h.size)) (fun q x W W' h hb => h.later hb) (Below.refl _ _).drew ?_
  repeat (first | (refine wpFS_step (wpF_nil rfl rfl rfl rfl ?_); simp only [wpF, Act.put, List.setIfInBounds_toArray, List.set_cons_succ, List.set_cons_zero]) | (refine wpFS_step (wpF_pure rfl rfl ?_); go_big_quiet_step (fail); refine wpQuiet_nil ?_; simp only [wpF]))
  refine wpFS_step (wpF_load _ rfl (by rfl) (by rfl) (by rfl) L1 ?_)
  simp only [wpF, Act.put, List.setIfInBounds_toArray, List.set_cons_succ, List.set_cons_zero]
  repeat (first | (refine wpFS_step (wpF_nil rfl rfl rfl rfl ?_); simp only [wpF, Act.put, List.setIfInBounds_toArray, List.set_cons_succ, List.set_cons_zero]) | (refine wpFS_step (wpF_pure rfl rfl ?_); go_big_quiet_step (fail); refine wpQuiet_nil ?_; simp only [wpF]))
  refine wpFS_step (wpF_load _ rfl (by rfl) (by rfl) (by rfl) L2 ?_)
  simp only [wpF, Act.put, List.setIfInBounds_toArray, List.set_cons_succ, List.set_cons_zero]
  refine wpFS_step (wpF_callsrc 16 (f := 45) (args := #[.slice A n cp]) (by simp) rfl rfl rfl (fun x => by first | rfl | (simp [go_sem]; done)) (fun V hV => (KC V hV).mono fun e V' ⟨x, he, hm⟩ => ?_) ?_)
  · obtain ⟨A', c', rfl, _, _⟩ := hm.slice
    have h1 := hm.1
    rw [List.length_map, hlen] at h1 he
    refine ⟨_, he, ?_, hm.2⟩
    unfold FCp
    rw [if_pos rfl]
    refine ⟨_, _, rfl, h1.1, h1.2.imp id fun ⟨g, cap, cur, h2, h3, h4⟩ => ⟨g, cap, cur, h2, Nat.le_trans hV.size h3, h4⟩⟩
  simp only [wpF, Act.put, List.setIfInBounds_toArray, List.set_cons_succ, List.set_cons_zero]
  refine wpFS_step (wpF_src 17 (by simp) rfl rfl rfl (fun W hW => ⟨.map (some W.heap.size), W.alloc (.map #[] 0), ?_, ?_, (Below.refl _ _).alloc (Nat.le_refl _) _⟩) ?_)
  · simp [execOp, hmm, go_sem]
  · unfold FCp
    rw [if_neg (by decide), if_pos rfl]
    exact ⟨_, rfl, hW.size, TMapAt.new W⟩
  simp only [wpF, Act.put, List.setIfInBounds_toArray, List.set_cons_succ, List.set_cons_zero]
  refine wpFS_step (wpF_mix 18 [16, 17] (by simp) rfl (by kernel_rfl) (by kernel_rfl) (fun xs => by rfl) (fun xs W hW hx => ?_) ?_)
  · have h16 := hx 16 (by simp)
    have h17 := hx 17 (by simp)
    unfold FCp at h16 h17
    rw [if_pos rfl] at h16
    rw [if_neg (by decide), if_pos rfl] at h17
    obtain ⟨A', cp', e16, ho⟩ := h16
    obtain ⟨m', e17, hm, hmap⟩ := h17
    refine ⟨.agg #[.int .i64 (r : Int), .slice A' n cp', .map (some m')], W, ?_, ?_, Below.refl _ _⟩
    · simp [execOp, fill, Act.put, Act.eval, e16, e17, go_sem]
    · unfold FCp
      rw [if_neg (by decide), if_neg (by decide), if_pos rfl]
      exact ⟨_, _, _, rfl, ho, hm, hmap⟩
  simp only [wpF, Act.put, List.setIfInBounds_toArray, List.set_cons_succ, List.set_cons_zero]
  refine wpFS_step (wpF_mix 19 [18] (by simp) rfl (by kernel_rfl) (by kernel_rfl) (fun xs => by rfl) (fun xs W hW hx => ?_) ?_)
  · have h18 := hx 18 (by simp)
    unfold FCp at h18
    rw [if_neg (by decide), if_neg (by decide), if_pos rfl] at h18
    obtain ⟨A', cp', m', e18, ho, hm, hmap⟩ := h18
    have hal := (Below.refl W.heap.size W).alloc (Nat.le_refl _) (.cells #[.int .i64 (r : Int), .slice A' n cp', .map (some m')] 75)
    refine ⟨.pointer (some ⟨W.heap.size, 0, none⟩), W.alloc (.cells #[.int .i64 (r : Int), .slice A' n cp', .map (some m')] 75), ?_, ?_, hal⟩
    · simp [execOp, fill, Act.put, Act.eval, e18, go_sem]
    · unfold FCp
      rw [if_neg (by decide), if_neg (by decide), if_neg (by decide), if_pos rfl]
      exact ⟨_, A', cp', m', rfl, hW.size, World.alloc_heap_new _ _, tord_below ho hal, hm, hmap.below hal⟩
  simp only [wpF, Act.put, List.setIfInBounds_toArray, List.set_cons_succ, List.set_cons_zero]
  refine wpFS_step (wpF_src 3 (by simp) rfl rfl rfl (fun W hW => ⟨.pointer (some ⟨W.heap.size, 0, none⟩), W.alloc (.cells #[.pointer none] 53), ?_, ?_, (Below.refl _ _).alloc (Nat.le_refl _) _⟩) ?_)
  · simp [go_sem]
  · unfold FCp
    rw [if_neg (by decide), if_neg (by decide), if_neg (by decide), if_neg (by decide)]
    exact ⟨_, rfl, hW.size, World.alloc_heap_new _ _⟩
  simp only [wpF, Act.put, List.setIfInBounds_toArray, List.set_cons_succ, List.set_cons_zero]
  refine wpFS_storeX rfl rfl rfl (fun xs W hW hx => ?_) ?_
  · have h19 := hx 19 (by simp)
    have h3 := hx 3 (by simp)
    unfold FCp at h19 h3
    rw [if_neg (by decide), if_neg (by decide), if_neg (by decide), if_pos rfl] at h19
    rw [if_neg (by decide), if_neg (by decide), if_neg (by decide), if_neg (by decide)] at h3
    obtain ⟨c, A', cp', m', e19, hc, hrow, ho, hm, hmap⟩ := h19
    obtain ⟨p, e3, hp, hbx⟩ := h3
    have k1 := hbx.cell
    have k2 := hbx.frozen
    refine ⟨W.setCell ⟨p, 0, none⟩ (.pointer (some ⟨c, 0, none⟩)), ?_, c, p, e19, e3, m', A', cp', ?_⟩
    · simp [fill, Act.put, Act.eval, e19, e3, Instr.storeAt, go_sem, k1, k2]
    · have hof : Off (fun q => q = p) W (W.setCell ⟨p, 0, none⟩ (.pointer (some ⟨c, 0, none⟩))) := (Off.refl (fun q => q = p) W).setCell (p := ⟨p, 0, none⟩) rfl _
      have hne : ∀ (q : Nat) (cs : Array Value) (t : TypeId), W.heap[q]? = some (.cells cs t (0, 0)) → t ≠ 53 → q ≠ p := fun q cs t h1 h2 e => by
        rw [e, show W.heap[p]? = _ from hbx] at h1
        injection h1 with h1
        injection h1 with _ h1
        exact h2 h1.symm
      refine ⟨hbx.set _, (hof.block c (Array.getElem?_eq_some_iff.1 hrow).1 (hne c _ _ hrow (by decide))).trans hrow, tord_off ho hof fun g hg => ?_, hmap.off hof fun e => hmap.not_cells _ _ _ (by rw [e]; exact hbx), fun x hx => (by cases hx), by simp, trivial, ⟨hp, hc, hm, fun x hx => (by cases hx)⟩, hW.setCell (p := ⟨p, 0, none⟩) hp _⟩
      obtain ⟨cs, hcs⟩ := tord_row ho hg
      exact hne g _ _ hcs (by decide)
  simp only [wpFS]
  rintro xs W W3 hW hx ⟨c, p, e19, e3, m', A', cp', hS⟩
  simp only [fill, Act.put, List.setIfInBounds_toArray, List.set_cons_succ, List.set_cons_zero]
  rw [e3]
  generalize xs 16 = x16
  generalize xs 17 = x17
  generalize xs 18 = x18
  generalize xs 19 = x19
  have HS3 := Lib.hid hS
  have K := teach_any (some ⟨b, 0, none⟩) W3
  clear hx hW e19 e3 L1 L2 KC hS
  gi_wp2_with fail
  refine ⟨trivial, ?_⟩
  refine (callsIn_wide.2 K).mono ?_
  rintro e W4 ⟨rfl, hW4⟩
  clear K
  have hb34 : Below W3.heap.size W3 W4 := by rw [hW4]; exact (Below.refl _ W3).alloc (Nat.le_refl _) _
  have hs4 : W4.heap.size = W3.heap.size + 1 := by rw [hW4]; simp
  have bT : Boxed W4 W3.heap.size 53 (.pointer (some ⟨b, 0, none⟩)) := by rw [hW4]; exact Boxed.new W3 _ _
  have hS4 := HS3.out.below' hb34
  clear hW4 HS3 hb34
  obtain ⟨t0, ht0⟩ : ∃ t0, W3.heap.size = t0 := ⟨_, rfl⟩
  rw [ht0] at hs4 bT ⊢
  clear ht0
  have ht4 : t0 < W4.heap.size := by omega
  clear hs4
  gi_wp2_with fail
  refine range_stopsL rfl (by omega) (gf := 56) (lb := #[.pointer (some ⟨t0, 0, none⟩)]) rfl trivial (enters_of Try.func56 (by kernel_rfl) rfl)
    (fun x : Sx => #[Value.int .u32 x.s, .pointer (some ⟨x.b, 0, none⟩)]) (fun _ => rfl)
    (fun j x V => (∃ X', CpS w p c m' r n cp' A' (X.map Sx.s) (X.take j) X' V ∧ Boxed V t0 53 (.pointer (some ⟨b, 0, none⟩)) ∧ W4.heap.size ≤ V.heap.size) ∧ X[j]? = some x)
    (fun j V => ∃ X', CpS w p c m' r n cp' A' (X.map Sx.s) (X.take j) X' V ∧ Boxed V t0 53 (.pointer (some ⟨b, 0, none⟩)) ∧ W4.heap.size ≤ V.heap.size)
    (fun _ _ => False) (fun _ _ => True) n
    (fun j x V l o o' h hl ho => ⟨by
      obtain ⟨⟨X', h1, h2, h3⟩, _⟩ := h
      exact ⟨X', h1.loop ho (fun _ _ _ h => by cases h) (fun _ _ h => by cases h) (by have := hS4.below.size; omega) o', (World.putObj_heap_other (by omega)).trans h2, by simpa using h3⟩, h.2⟩)
    (fun j V l o o' h hl ho => by
      obtain ⟨X', h1, h2, h3⟩ := h
      exact ⟨X', h1.loop ho (fun _ _ _ h => by cases h) (fun _ _ h => by cases h) (by have := hS4.below.size; omega) o', (World.putObj_heap_other (by omega)).trans h2, by simpa using h3⟩)
    (fun _ _ _ _ _ h _ _ _ => h)
    (fun _ _ _ _ _ => trivial) (fun _ _ _ _ _ _ _ => trivial)
    (fun o => ⟨[], (hS4.below' ((Below.refl _ W4).alloc (Nat.le_refl _) _)).below' ((Below.refl _ _).alloc (Nat.le_refl _) _), (bT.alloc _).alloc _, by simp; omega⟩) ?a1 ?assign ?body ?iter ?done ?stop
  case assign =>
    intro l x V K hK
    gi_wp2
    exact hK
  case body =>
    rintro l j x V hl ⟨⟨X', hC, hbx, hsz⟩, hxj⟩ hj
    have hx : x ∈ X := List.mem_of_getElem? hxj
    have hxat : x.At V := (HT.out.below hC.below).slots x hx
    have hm4 : m' < W4.heap.size := hS4.map.lt
    have hwx := HT.out.keys.2 x hx
    have hno : teAt (X'.map Sx.key) x.s = none := te_none fun y hy e => by
      have h1 : y.s ∈ X'.map Sx.s := List.mem_map.2 ⟨y, hy, rfl⟩
      rw [hC.keys] at h1
      obtain ⟨z, hz, hzs⟩ := List.mem_map.1 h1
      obtain ⟨i, hi, hzi⟩ := List.getElem_of_mem hz
      rw [List.length_take] at hi
      rw [List.getElem_take] at hzi
      have hnd := HT.out.keys.1
      have h2 : X[i]? = some z := by rw [← hzi]; exact List.getElem?_eq_getElem (by omega)
      have h5 := nodup_at (i := i) (j := j) hnd (by rw [List.getElem?_map, h2]; rfl) (by rw [List.getElem?_map, hxj]; simp [hzs, e])
      omega
    have L1 : ∀ W, Below V.heap.size V W → (Instr.loadAt 53 (.pointer (some ⟨p, 0, none⟩))).run Try.prog W = .ok (.pointer (some ⟨c, 0, none⟩)) W := fun W hW => by
      have k1 := (show Boxed W p 53 _ from (hW.block _ hC.box.lt).trans hC.box).cell
      simp [Instr.loadAt, go_sem, k1]
    have L2 : ∀ W, Below V.heap.size V W → (Instr.loadAt 73 (.pointer (some ⟨c, 2, none⟩))).run Try.prog W = .ok (.map (some m')) W := fun W hW => by
      have k1 := row_below hC.row hW
      have k2 : W.cell? ⟨c, 2, none⟩ = some (.map (some m')) := by simp [World.cell?, k1]
      simp [Instr.loadAt, go_sem, k2]
    have KY : ∀ W, Below V.heap.size V W → Calls Try.prog 40 #[.pointer (some ⟨x.b, 0, none⟩)] W (CopyR W x.v x.k x.s x.c x.E) := fun W hW => scopy_any (SlotAt.below hxat hW)
    have hnx : X.take (j + 1) = X.take j ++ [x] := by rw [List.take_add_one, hxj]; rfl
    have HC := Lib.hid hC
    have HBX := Lib.hid hbx
    have HNO := Lib.hid hno
    have HNX := Lib.hid hnx
    clear hC hbx hno hnx hS4 bT hxat
    gi_wp2_with fail
    refine wpIn_region_FS 32 7 5 [30] (fun _ z W => ∃ y : Sx, z = .pointer (some ⟨y.b, 0, none⟩) ∧ y.At W ∧ Tb.Like x.ms y.ms ∧ V.heap.size ≤ y.m) (fun W => Below V.heap.size V W) (fun xs W W' => ∃ y : Sx, xs 30 = .pointer (some ⟨y.b, 0, none⟩) ∧ CpS w p c m' r n cp' A' (X.map Sx.s) (X.take (j + 1)) (X' ++ [y]) W' ∧ Off (fun q => q = m') W W') (by kernel_rfl) (fun ⟨_, _, h⟩ => h) (by kernel_rfl) (by rfl) (by kernel_rfl) (by rfl) (by simp) (fun W W' h hb => h.trans (hb.mono h.size)) (fun q z W W' h hb => by
      obtain ⟨y, h1, h2, h3, h4⟩ := h
      exact ⟨y, h1, h2.below hb, h3, h4⟩) (Below.refl _ _).drew (by rfl) ?_
    refine wpFS_step (wpF_load _ rfl (by rfl) (by rfl) (by rfl) L1 ?_)
    simp only [wpF, Act.put, List.setIfInBounds_toArray, List.set_cons_succ, List.set_cons_zero]
    repeat (first | (refine wpFS_step (wpF_nil rfl rfl rfl rfl ?_); simp only [wpF, Act.put, List.setIfInBounds_toArray, List.set_cons_succ, List.set_cons_zero]) | (refine wpFS_step (wpF_pure rfl rfl ?_); go_big_quiet_step (fail); refine wpQuiet_nil ?_; simp only [wpF]))
    refine wpFS_step (wpF_load _ rfl (by rfl) (by rfl) (by rfl) L2 ?_)
    simp only [wpF, Act.put, List.setIfInBounds_toArray, List.set_cons_succ, List.set_cons_zero]
    repeat (refine wpFS_step (wpF_pure rfl rfl ?_); go_big_quiet_step (fail); refine wpQuiet_nil ?_; simp only [wpF])
    refine wpFS_step (wpF_callsrc 30 (f := 40) (args := #[.pointer (some ⟨x.b, 0, none⟩)]) (by simp) rfl rfl rfl (fun x => by first | rfl | (simp [go_sem]; done)) (fun W hW => (KY W hW).mono fun e W' ⟨yb, ym, E', he, hat, hp, hb, _, hym⟩ => ⟨_, he, ⟨⟨yb, ym, x.v, x.k, x.s, x.c, E'⟩, rfl, hat, ⟨rfl, rfl, rfl, rfl, hp.symm⟩, Nat.le_trans hW.size hym⟩, hb⟩) ?_)
    simp only [wpF, Act.put, List.setIfInBounds_toArray, List.set_cons_succ, List.set_cons_zero]
    refine wpFS_upd rfl rfl rfl (fun xs W hW hx => ?_) ?_
    · obtain ⟨y, e30, hy, hlike, hym⟩ := hx 30 (by simp)
      obtain ⟨W', hrun, hmap, hoff, _⟩ := (HC.out.below' hW).map.run_upd (P := Try.prog) (t := 73) Try.underlying73 Try.underlying22 hwx y.b HNO.out
      refine ⟨W', ?_, y, e30, ?_, hoff⟩
      · simp only [fill, Act.put, Act.eval, e30]
        exact hrun
      · rw [HNX.out]
        refine HC.out.push hW hlike hy hym ?_ hoff
        rw [List.map_append]
        have hys : y.s = x.s := hlike.2.2.1
        simp only [List.map_cons, List.map_nil, Sx.key, hys] at hmap ⊢
        exact hmap
    simp only [wpFS]
    rintro xs W W' hW _ ⟨y, e30, hC', hoff⟩
    refine (show KeepsFrom W4.heap.size V W' ∧ (∃ X', CpS w p c m' r n cp' A' (X.map Sx.s) (X.take (j + 1)) X' W' ∧ Boxed W' t0 53 (.pointer (some ⟨b, 0, none⟩)) ∧ W4.heap.size ≤ W'.heap.size) ∧ True from ⟨⟨Nat.le_trans hW.size hoff.size, fun k o hk ho hc => ?_⟩, ⟨X' ++ [y], hC', ?_, ?_⟩, trivial⟩)
    · exact (hoff.block k (Nat.lt_of_lt_of_le (Array.getElem?_eq_some_iff.1 ho).1 hW.size) (by omega)).trans ((hW.block k (Array.getElem?_eq_some_iff.1 ho).1).trans ho)
    · have h1 : Boxed W t0 53 (.pointer (some ⟨b, 0, none⟩)) := (hW.block _ HBX.out.lt).trans HBX.out
      exact (hoff.block _ h1.lt fun e => (HC.out.below' hW).map.not_cells _ _ _ (by rw [← e]; exact h1)).trans h1
    · have := hW.size
      have := hoff.size
      omega
  case iter =>
    intro Bk Xp l V hBk hBlt hX hlw hD hB hY
    have hln := hlen
    refine (teach_in 2 (by omega) 1 l t0 b r m A n cp X (fun j V => (∃ X', CpS w p c m' r n cp' A' (X.map Sx.s) (X.take j) X' V ∧ Boxed V t0 53 (.pointer (some ⟨b, 0, none⟩)) ∧ W4.heap.size ≤ V.heap.size) ∧ Bk V) Xp ?_ ?_ V ⟨hD, hB⟩).mono ?_
    · rintro k W ⟨⟨X', h1, h2, h3⟩, _⟩
      exact ⟨h2.cell, S, HT.out.below h1.below⟩
    · rintro k x W ⟨h1, h2⟩ hx
      refine (hY _ _ W ⟨h1, hx⟩ h2 (by rw [← hlen]; exact (List.getElem?_eq_some_iff.1 hx).1)).mono ?_
      rintro e V2 (⟨rfl, hd, _, _⟩ | ⟨rfl, hx, _⟩)
      · exact .inl ⟨rfl, hd⟩
      · exact .inr ⟨rfl, hx⟩
    · exact fun _ _ h => h
  case done =>
    rintro D V hD ⟨X', hC, hbx, hsz⟩ hK
    have kP := hC.box.cell
    rw [show X.take n = X by rw [← hlen]; exact List.take_length] at hC
    have hwD : w.heap.size ≤ D := by have := hS4.below.size; omega
    have hr := HT.out.room
    have hf := HT.out.few
    have HFIN : Hid (TblAt (V.putObj D (.deferred none)) (fun q => w.heap.size ≤ q) c r m' A' n cp' X' ∧ Tb.Likes (X.map Sx.ms) (X'.map Sx.ms) ∧ Below w.heap.size w (V.putObj D (.deferred none))) := by
      have hC2 := hC.loop hK (fun _ _ _ h => by cases h) (fun _ _ h => by cases h) hwD (.deferred none)
      exact ⟨hC2.done hlen hr hf, hC2.like, hC2.below⟩
    clear hC hbx hS4 bT HT
    gi_wp2
    refine ⟨by simp, .inl ⟨_, _, rfl, run_takeDeferred hK, ?_⟩⟩
    refine ⟨_, results_tmp rfl _ _ _, ?_⟩
    exact ⟨c, m', A', cp', X', rfl, HFIN.out.1, HFIN.out.2.1, HFIN.out.2.2⟩
  case stop =>
    rintro D cd W' _ h _
    exact h.elim
end
end Go.Proofs.Ytfdbcfkjablnkaa

namespace Go.Proofs.Ytfdbcfkjablnkaa
open Go.RowKit Go.Shelf
set_option maxRecDepth 100000
attribute [local go_sem] Oper.semAt_some

theorem tcopy_nil (w : World) : Calls Try.prog 29 #[.pointer none] w fun e w' => e = .returned (.pointer none) ∧ w' = w := by
  go_enter Try.func29, Try.ntmps29
  go_wp2
  go_ret
  exact ⟨rfl, rfl⟩
theorem tall_func (p : Nat) (w : World) : (Instr.makeFunc (.func 38) #[] #[.pointer (some ⟨p, 0, none⟩)]).run Try.prog w = .ok (.func (.func 38) #[] #[.pointer (some ⟨p, 0, none⟩)]) w := by kernel_rfl
theorem tall_not_nil (p : Nat) (w : World) : (binOp .eql 66 (.func (.func 38) #[] #[.pointer (some ⟨p, 0, none⟩)]) .nilFunc).run Try.prog w = .ok (.bool false) w := by kernel_rfl
/-- what All answers of nil -/
theorem tall_nil (w : World) : Calls Try.prog 23 #[.pointer none] w fun e w' => e = .returned (.func (.func 38) #[] #[.pointer (some ⟨w.heap.size, 0, none⟩)]) ∧ Boxed w' w.heap.size 53 (.pointer none) ∧ Below w.heap.size w w' := by
  have K := tcopy_nil w
  have hmf := tall_func
  go_enter Try.func23, Try.ntmps23
  go_wp2_with fail
  refine K.mono ?_
  rintro e w1 ⟨rfl, rfl⟩
  rename World => w1
  clear K
  go_wp2
  go_ret
  exact ⟨rfl, Boxed.new w1 _ _, (Below.refl _ w1).alloc (Nat.le_refl _) _⟩
theorem tall_any {w : World} {S : Nat → Prop} {b r m n cp : Nat} {A : Option Addr} {X : List Sx} (h : TblAt w S b r m A n cp X) :
    Calls Try.prog 23 #[.pointer (some ⟨b, 0, none⟩)] w fun e w' => ∃ p c m' A' cp' X', e = .returned (.func (.func 38) #[] #[.pointer (some ⟨p, 0, none⟩)]) ∧ Boxed w' p 53 (.pointer (some ⟨c, 0, none⟩)) ∧ w.heap.size ≤ p ∧
      TblAt w' (fun q => w.heap.size ≤ q) c r m' A' n cp' X' ∧ Tb.Likes (X.map Sx.ms) (X'.map Sx.ms) ∧ Below w.heap.size w w' := by
  have HK := Lib.hid (tcopy_any h)
  have hmf := tall_func
  clear h
  go_enter Try.func23, Try.ntmps23
  go_wp2_with fail
  refine HK.out.mono ?_
  rintro e w1 ⟨c, m', A', cp', X', rfl, hT, hL, hb⟩
  have HT := Lib.hid hT
  have HL := Lib.hid hL
  have HB := Lib.hid hb
  clear HK hT hL hb
  go_wp2
  go_ret
  have hal := (Below.refl w1.heap.size w1).alloc (Nat.le_refl _) (.cells #[.pointer (some ⟨c, 0, none⟩)] 53)
  exact ⟨w1.heap.size, c, m', A', cp', X', rfl, Boxed.new w1 _ _, HB.out.size, HT.out.below hal, HL.out, HB.out.trans (hal.mono HB.out.size)⟩
/-- one in the stead of another one -/
theorem Tb.Likes.at : ∀ {T T' : List Tb.Ms} {j : Nat} {x : Tb.Ms}, Tb.Likes T T' → T[j]? = some x → ∃ y, T'[j]? = some y ∧ Tb.Like x y
  | [], _, _, _, _, h => by simp at h
  | _ :: _, [], _, _, h, _ => h.elim
  | x :: r, y :: s, 0, z, h, h2 => by
    simp only [List.getElem?_cons_zero, Option.some.injEq] at h2
    subst h2
    exact ⟨y, rfl, h.1⟩
  | x :: r, y :: s, j + 1, z, h, h2 => by
    rw [List.getElem?_cons_succ] at h2
    obtain ⟨y', h3, h4⟩ := Tb.Likes.at h.2 h2
    exact ⟨y', by rw [List.getElem?_cons_succ]; exact h3, h4⟩
set_option maxHeartbeats 8000000 in
/-- the iterator: v is what the table's box holds, X its slots -/
theorem tall_in (n : Nat) (hn5 : 5 ≤ n) (m' l Bs s0 : Nat) (v : Option Addr) (X : List Sx) (Dn : Nat → World → Prop) (Bk Xp : World → Prop) (Kp : World → World → Prop) (hls : l < s0 + 2)
    (hDb : ∀ j A B, Dn j A → Below s0 A B → Dn j B) (hDx : ∀ j V, Dn j V → ∀ x ∈ X, x.At V)
    (hBk : ∀ A B, Bk A → A.heap.size ≤ B.heap.size → (∀ k, s0 ≤ k → k < s0 + 2 → B.heap[k]? = A.heap[k]?) → Bk B) (hBlt : ∀ A, Bk A → s0 + 2 ≤ A.heap.size)
    (hX : ∀ A l' o o', Xp A → s0 + 2 ≤ l' → A.heap[l']? = some o → o.isCells = false → Xp (A.putObj l' o'))
    (hKp : ∀ V V' k cs t, Kp V V' → s0 + 2 ≤ k → V.heap[k]? = some (.cells cs t (0, 0)) → V'.heap[k]? = some (.cells cs t (0, 0)))
    (hI : ∀ (l2 Bs2 : Nat) (J : Nat → World → Prop) (Jx : World → Prop), (∀ j V, J j V → V.cell? ⟨Bs2, 0, none⟩ = some (.pointer v) ∧ ∃ k, Dn k V) →
      (∀ (j : Nat) (x : Sx) (V : World), J j V → X[j]? = some x → YieldAt Fence.wide (n - 1 - 1) Try.prog l2 #[.int .u32 x.s, .pointer (some ⟨x.b, 0, none⟩)] V fun e W' => (e = .returned (.bool true) ∧ J (j + 1) W') ∨ (e = .returned (.bool false) ∧ Jx W')) →
      ∀ V, J 0 V → CallsIn Fence.wide (n - 1) Try.prog 56 #[.func (.yield l2) #[] #[], .pointer (some ⟨Bs2, 0, none⟩)] V fun e W' => (∃ v, e = .returned v) ∧ (J X.length W' ∨ Jx W'))
    (hY : ∀ (j : Nat) (x y : Sx) (V : World), Dn j V → X[j]? = some x → y.At V → Tb.Like x.ms y.ms → Bk V →
      YieldAt Fence.wide m' Try.prog l #[.int .u32 x.s, .pointer (some ⟨y.b, 0, none⟩)] V (YPost s0 l Kp (fun W2 => Dn (j + 1) W2 ∧ Bk W2) Xp V))
    (W : World) (hBs : W.cell? ⟨Bs, 0, none⟩ = some (.pointer v)) (hD0 : Dn 0 W) (hB0 : Bk W) :
    CallsIn Fence.wide n Try.prog 38 #[.func (.yield l) #[] #[], .pointer (some ⟨Bs, 0, none⟩)] W fun e W' => (∃ v, e = .returned v) ∧ ((Dn X.length W' ∧ Bk W') ∨ Xp W') := by
  have hn1 : 1 ≤ n := by omega
  have hsW := hBlt W hB0
  have hBsl := block_of_cell hBs
  simp only at hBsl
  refine callsIn_of_wp_marks Try.func38 rfl trivial ?_ rfl
  simp only [Try.ntmps38, List.size_toArray, List.length_cons, List.length_nil, Nat.reduceAdd, Nat.reduceSub, Array.replicate_succ, Array.replicate_zero, List.push_toArray, List.append_toArray, List.nil_append, List.cons_append]
  have hBs1 : (W.alloc (.cells #[.func (.yield l) #[] #[]] 88)).cell? ⟨Bs, 0, none⟩ = some (.pointer v) := (((Below.refl W.heap.size W).alloc (Nat.le_refl _) (.cells #[.func (.yield l) #[] #[]] 88)).cell (p := ⟨Bs, 0, none⟩) hBsl).trans hBs
  have K := teach_any v (W.alloc (.cells #[.func (.yield l) #[] #[]] 88))
  gi_wp2_with fail
  refine ⟨trivial, ?_⟩
  refine (callsIn_wide.2 K).mono ?_
  rintro e W2 ⟨rfl, hW2⟩
  clear K
  have hb1 := (Below.refl W.heap.size W).alloc (Nat.le_refl _) (.cells #[.func (.yield l) #[] #[]] 88)
  have hyb1 : Boxed (W.alloc (.cells #[.func (.yield l) #[] #[]] 88)) W.heap.size 88 (.func (.yield l) #[] #[]) := Boxed.new W _ _
  have hb12 : Below W.heap.size W W2 := by rw [hW2]; exact hb1.alloc (by simp) _
  have hyb2 : Boxed W2 W.heap.size 88 (.func (.yield l) #[] #[]) := by rw [hW2]; exact hyb1.alloc _
  have htb2 : Boxed W2 (W.heap.size + 1) 53 (.pointer v) := by
    have := Boxed.new (W.alloc (.cells #[.func (.yield l) #[] #[]] 88)) 53 (.pointer v)
    rw [World.size_alloc] at this
    rw [hW2]; exact this
  have hs2 : W2.heap.size = W.heap.size + 2 := by rw [hW2]; simp
  simp only [World.size_alloc]
  clear hW2 hb1 hyb1
  have hD2 := hDb 0 _ _ hD0 (hb12.mono (by omega : s0 ≤ W.heap.size))
  have hB2 : Bk W2 := hBk _ _ hB0 hb12.size (fun k _ h2 => hb12.block k (by omega))
  obtain ⟨BX, hBX⟩ : ∃ BX : World → Prop, BX = fun V => W2.heap.size ≤ V.heap.size ∧ Boxed V W.heap.size 88 (.func (.yield l) #[] #[]) ∧ Boxed V (W.heap.size + 1) 53 (.pointer v) := ⟨_, rfl⟩
  have hBX0 : ∀ V, BX V → W2.heap.size ≤ V.heap.size ∧ V.cell? ⟨W.heap.size, 0, none⟩ = some (.func (.yield l) #[] #[]) ∧ V.cell? ⟨W.heap.size + 1, 0, none⟩ = some (.pointer v) := fun V hV => by
    rw [hBX] at hV
    exact ⟨hV.1, hV.2.1.cell, hV.2.2.cell⟩
  have hBXb : ∀ V V', BX V → Below W2.heap.size V V' → BX V' := fun V V' h hb => by
    rw [hBX] at h ⊢
    exact ⟨Nat.le_trans h.1 hb.size, (hb.block _ (by omega)).trans h.2.1, (hb.block _ (by omega)).trans h.2.2⟩
  have hBXk : ∀ V V', BX V → Kp V V' → V.heap.size ≤ V'.heap.size → BX V' := fun V V' h hk hsz => by
    rw [hBX] at h ⊢
    exact ⟨Nat.le_trans h.1 hsz, hKp _ _ _ _ _ hk (by omega) h.2.1, hKp _ _ _ _ _ hk (by omega) h.2.2⟩
  have hBX2 : BX W2 := by rw [hBX]; exact ⟨Nat.le_refl _, hyb2, htb2⟩
  have hW1b : ∀ j V, Dn j V ∧ Bk V ∧ BX V → ∀ V', Below W2.heap.size V V' → Dn j V' ∧ Bk V' ∧ BX V' := fun j V h V' hb =>
    ⟨hDb _ _ _ h.1 (hb.mono (by omega)), hBk _ _ h.2.1 hb.size (fun k _ h2 => hb.block k (by omega)), hBXb _ _ h.2.2 hb⟩
  clear hyb2 htb2 hBX hb12 hBs hBs1 hD0 hB0
  gi_wp2_with fail
  refine range_stops rfl hn1 (gf := 56) (lb := #[.pointer (some ⟨W.heap.size + 1, 0, none⟩)]) rfl trivial (enters_of Try.func56 (by kernel_rfl) rfl)
    (fun x : Sx => #[Value.int .u32 x.s, .pointer (some ⟨x.b, 0, none⟩)]) (fun _ => rfl)
    (fun j x V => (Dn j V ∧ Bk V ∧ BX V) ∧ X[j]? = some x)
    (fun j V => Dn j V ∧ Bk V ∧ BX V) (fun cd V => cd = .ret ∧ Xp V) (fun _ _ => True) X.length
    (fun j x V l' o o' h hl' ho hc' => ⟨hW1b j V h.1 _ (below_put V o' hl'), h.2⟩)
    (fun j V l' o o' h hl' ho hc' => hW1b j V h _ (below_put V o' hl'))
    (fun cd V l' o o' h hl' ho hc' => ⟨h.1, hX V l' o o' h.2 (by omega) ho hc'⟩)
    (fun _ _ _ _ _ => trivial) (fun _ _ _ _ _ _ _ => trivial)
    (fun o => hW1b 0 W2 ⟨hD2, hB2, hBX2⟩ _ (((Below.refl W2.heap.size W2).alloc (Nat.le_refl _) _).alloc (by simp) _)) ?a1 ?assign ?body ?iter ?done ?stop
  case assign =>
    intro l' x V K hK
    gi_wp2
    exact hK
  case body =>
    rintro l' j x V hl' ⟨hV, hxj⟩ hj
    have hxat := hDx j V hV.1 x (List.mem_of_getElem? hxj)
    obtain ⟨hsV, kY, _⟩ := hBX0 V hV.2.2
    have L1 : ∀ V', Below V.heap.size V V' → (Instr.loadAt 88 (.pointer (some ⟨W.heap.size, 0, none⟩))).run Try.prog V' = .ok (.func (.yield l) #[] #[]) V' := fun V' hb => by
      have k1 := (hBX0 V' (hBXb V V' hV.2.2 (hb.mono hsV))).2.1
      simp [Instr.loadAt, go_sem, k1]
    have KY : ∀ V', Below V.heap.size V V' → Calls Try.prog 40 #[.pointer (some ⟨x.b, 0, none⟩)] V' (CopyR V' x.v x.k x.s x.c x.E) := fun V' hb => scopy_any (SlotAt.below hxat hb)
    have HV := Lib.hid hV
    have HXJ := Lib.hid hxj
    clear hV hxj hxat kY hD2 hB2 hBX2
    gi_wp2_with fail
    refine wpIn_region_FT 15 4 [12] (fun _ z V' => ∃ y : Sx, z = .pointer (some ⟨y.b, 0, none⟩) ∧ y.At V' ∧ Tb.Like x.ms y.ms) (fun V' => Below V.heap.size V V') (by kernel_rfl) (by kernel_rfl) (by rfl) (by kernel_rfl) (by kernel_rfl) (by kernel_rfl) (by rfl) (by simp) (fun W W' h hb => h.trans (hb.mono h.size)) (fun q z W W' h hb => by
      obtain ⟨y, h1, h2, h3⟩ := h
      exact ⟨y, h1, h2.below hb, h3⟩) (Below.refl _ _).drew (by rfl) ?_
    simp only [List.take_succ_cons, List.take_zero, List.drop_succ_cons, List.drop_zero]
    refine wpF_load _ rfl (by rfl) (by rfl) (by rfl) L1 ?_
    simp only [Act.put, List.setIfInBounds_toArray, List.set_cons_succ, List.set_cons_zero]
    repeat (refine wpF_pure rfl rfl ?_; go_big_quiet_step (fail); refine wpQuiet_nil ?_)
    refine wpF_callsrc 12 (f := 40) (args := #[.pointer (some ⟨x.b, 0, none⟩)]) (by simp) rfl rfl rfl (fun x => by first | rfl | (simp [go_sem]; done)) (fun V' hb => (KY V' hb).mono fun e W' ⟨yb, ym, E', he, hat, hp, hb, _, hym⟩ => ⟨_, he, ⟨⟨yb, ym, x.v, x.k, x.s, x.c, E'⟩, rfl, hat, ⟨rfl, rfl, rfl, rfl, hp.symm⟩⟩, hb⟩) ?_
    simp only [Act.put, List.setIfInBounds_toArray, List.set_cons_succ, List.set_cons_zero]
    intro xs V2 hb2 hx
    obtain ⟨y, e12, hy, hlike⟩ := hx 12 (by simp)
    simp only [fill, Act.put, List.setIfInBounds_toArray, List.set_cons_succ, List.set_cons_zero]
    rw [e12]
    obtain ⟨hDV2, hBV2, hXV2⟩ := hW1b j V HV.out V2 (hb2.mono hsV)
    have hyld := hY j x y V2 hDV2 HXJ.out hy hlike hBV2
    obtain ⟨fn, tmps, assign, body, hyr, hR⟩ := yield_any (n - 1 - 1 - 1) hyld
    have HR := Lib.hid hR
    have HB2 := Lib.hid hb2
    have HX2 := Lib.hid hXV2
    clear hR hyld hDV2 hBV2 hXV2 hx e12 hy hlike hb2 L1 KY
    gi_wp2_with fail
    refine ⟨fun _ => by omega, ?_⟩
    refine RoundIn.mono (F := Fence.wide.inRound l') HR.out ?_
    rintro e V3 (⟨rfl, ⟨hd, hb⟩, hk, hkb⟩ | ⟨rfl, hx, hkb⟩)
    · have hX3 := hBXk _ _ HX2.out hk hkb.size
      have hfin := Lib.hid (show KeepsFrom W2.heap.size V V3 ∧ (Dn (j + 1) V3 ∧ Bk V3 ∧ BX V3) ∧ True from
        ⟨⟨Nat.le_trans HB2.out.size hkb.size, fun q o h1 h2 h3 => hkb.same q o (by omega) (by omega) ((HB2.out.block q (Array.getElem?_eq_some_iff.1 h2).1).trans h2) h3⟩, ⟨hd, hb, hX3⟩, trivial⟩)
      clear hd hb hk hkb hX3 HR
      gi_wp2
      exact hfin.out
    · have hfin := Lib.hid (show KeepsFrom W2.heap.size V V3 ∧ Xp V3 from
        ⟨⟨Nat.le_trans HB2.out.size hkb.size, fun q o h1 h2 h3 => hkb.same q o (by omega) (by omega) ((HB2.out.block q (Array.getElem?_eq_some_iff.1 h2).1).trans h2) h3⟩, hx⟩)
      clear hx hkb HR
      gi_wp2
      exact ⟨hfin.out.1, rfl, hfin.out.2⟩
  case iter =>
    intro Bk2 X2 l2 V hBk2 hBlt2 hX2 hl2 hDV hBV hYV
    refine (hI l2 (W.heap.size + 1) (fun k V => (Dn k V ∧ Bk V ∧ BX V) ∧ Bk2 V) X2 ?_ ?_ V ⟨hDV, hBV⟩).mono ?_
    · rintro k V ⟨⟨h1, h2, h3⟩, _⟩
      exact ⟨(hBX0 V h3).2.2, k, h1⟩
    · rintro k x V ⟨h1, h2⟩ hx
      refine (hYV _ _ V ⟨h1, hx⟩ h2 (List.getElem?_eq_some_iff.1 hx).1).mono ?_
      rintro e V2 (⟨rfl, hd, _, _⟩ | ⟨rfl, hx, _⟩)
      · exact .inl ⟨rfl, hd⟩
      · exact .inr ⟨rfl, hx⟩
    · exact fun _ _ h => h
  case done =>
    rintro D V hD ⟨hDV, hBV, _⟩ hK
    have hfin := Lib.hid (And.intro (hDb _ _ _ hDV (below_put V (.deferred none) (by omega : s0 ≤ D))) (hBk _ _ hBV (by simp [World.putObj]) (fun k _ h2 => World.putObj_heap_other (by omega)) : Bk (V.putObj D (.deferred none))))
    clear hDV hBV hD2 hB2
    gi_wp2
    refine ⟨by simp, .inl ⟨_, _, rfl, run_takeDeferred hK, ?_⟩⟩
    refine ⟨_, results_none rfl _ _ _, ?_⟩
    exact ⟨⟨_, rfl⟩, .inl hfin.out⟩
  case stop =>
    rintro D cd V hD ⟨rfl, hx⟩ hK
    have hfin := Lib.hid (hX V D _ (.deferred none) hx (by omega) hK rfl)
    clear hx
    gi_wp2
    refine ⟨by simp, .inl ⟨_, _, rfl, run_takeDeferred hK, ?_⟩⟩
    refine ⟨_, results_none rfl _ _ _, ?_⟩
    exact ⟨⟨_, rfl⟩, .inr hfin.out⟩
end Go.Proofs.Ytfdbcfkjablnkaa

namespace Go.Proofs.Ytfdbcfkjablnkaa
open Go.RowKit Go.Shelf
set_option maxRecDepth 100000

/-- block bj is a joiner: its window in block bw, its table in block b; what its table's calls may turn lies in S -/
structure JAt (w : World) (S : Nat → Prop) (bj bw b r : Nat) (t : Int) (q : Nat) (T : List Tb.Ms) : Prop where
  row : w.heap[bj]? = some (.cells #[.pointer (some ⟨bw, 0, none⟩), .pointer (some ⟨b, 0, none⟩)] 62 (0, 0))
  win : WinAt w bw t q
  top : 0 ≤ t ∧ t < 4294967296
  bits : q < 18446744073709551616
  tbl : TblOf w S b r T
  tys : Tys w S
  lt : ∀ p, S p → p < w.heap.size
section
variable {w w' : World} {S S' : Nat → Prop} {bj bw b r : Nat} {t : Int} {q : Nat} {T : List Tb.Ms}
theorem JAt.size (h : JAt w S bj bw b r t q T) : bj < w.heap.size := (Array.getElem?_eq_some_iff.1 h.row).1
theorem JAt.nj (h : JAt w S bj bw b r t q T) : ¬ S bj := h.tys.not h.row (by decide) (by decide)
theorem JAt.nw (h : JAt w S bj bw b r t q T) : ¬ S bw := h.tys.not (show w.heap[bw]? = _ from h.win) (by decide) (by decide)
theorem JAt.ne (h : JAt w S bj bw b r t q T) : bw ≠ bj := fun e => by
  have h1 : w.heap[bw]? = _ := h.win
  rw [e, h.row] at h1
  injection h1 with h1
  injection h1 with _ h1 _
  exact absurd h1 (by decide)
theorem JAt.cells (h : JAt w S bj bw b r t q T) : w.cell? ⟨bj, 0, none⟩ = some (.pointer (some ⟨bw, 0, none⟩)) ∧ w.cell? ⟨bj, 1, none⟩ = some (.pointer (some ⟨b, 0, none⟩)) := by
  constructor <;> simp [World.cell?, h.row]
theorem JAt.below (h : JAt w S bj bw b r t q T) (hb : Below w.heap.size w w') : JAt w' S bj bw b r t q T :=
  ⟨(hb.block bj h.size).trans h.row, h.win.below hb, h.top, h.bits, h.tbl.below hb, tys_below h.tys hb h.lt, fun p hp => by have := h.lt p hp; have := hb.size; omega⟩
/-- beside what another table's calls turn -/
theorem JAt.toff (h : JAt w S bj bw b r t q T) (ho : TOff S' w w') (hS : ∀ p, S p → ¬ S' p) (h1 : ¬ S' bj) (h2 : ¬ S' bw) : JAt w' S bj bw b r t q T := by
  obtain ⟨m, A, n, cp, X, hT, e⟩ := h.tbl
  refine ⟨(TOff.keep ho h.size h1).trans h.row, (TOff.keep ho h.win.size h2).trans h.win, h.top, h.bits, ⟨m, A, n, cp, X, hT.toff ho hS, e⟩, fun g cs tt fz hg hs hf => h.tys g cs tt fz ((TOff.keep ho (h.lt g hs) (hS g hs)).symm.trans hg) hs hf, fun p hp => by have := h.lt p hp; have := ho.size; omega⟩
/-- beside a row of another type that is turned -/
theorem JAt.other {p : Nat} {cs : Array Value} {tt : TypeId} (h : JAt w S bj bw b r t q T) (hp : w.heap[p]? = some (.cells cs tt (0, 0))) (ht : tt ≠ 75 ∧ tt ≠ 22 ∧ tt ≠ 5 ∧ tt ≠ 98) (ht2 : tt ≠ 62 ∧ tt ≠ 80) (hf : Off (fun k => k = p) w w') : JAt w' S bj bw b r t q T := by
  have key : ∀ (g : Nat) (cs' : Array Value) (t' : TypeId), w.heap[g]? = some (.cells cs' t' (0, 0)) → tt ≠ t' → ¬ g = p := fun g cs' t' h1 h2 e => by
    rw [e, hp] at h1
    injection h1 with h1
    injection h1 with _ h1
    exact h2 h1
  have hn := h.tys.not hp ht.1 ht.2.1
  obtain ⟨m, A, n, cp, X, hT, e⟩ := h.tbl
  exact ⟨(hf.block bj h.size (key _ _ _ h.row ht2.1)).trans h.row, h.win.off hf (key _ _ _ (show w.heap[bw]? = _ from h.win) ht2.2), h.top, h.bits, ⟨m, A, n, cp, X, hT.other hp ht hf, e⟩,
    fun g cs' tt' fz hg hs hfz => h.tys g cs' tt' fz ((hf.block g (h.lt g hs) fun e => hn (by rw [← e]; exact hs)).symm.trans hg) hs hfz, fun g hg => Nat.lt_of_lt_of_le (h.lt g hg) hf.size⟩
/-- its table behind a call of it -/
theorem JAt.table (h : JAt w S bj bw b r t q T) {S2 : Nat → Prop} {T' : List Tb.Ms} (ho : TOff S w w') (ht : TblOf w' S2 b r T') : ∃ S', JAt w' S' bj bw b r t q T' ∧ ∀ p, S' p → S2 p := by
  obtain ⟨m, A, n, cp, X, hT, e, hs⟩ := ht.exact
  exact ⟨_, ⟨(TOff.keep ho h.size h.nj).trans h.row, (TOff.keep ho h.win.size h.nw).trans h.win, h.top, h.bits, ⟨m, A, n, cp, X, hT, e⟩, hT.tys, hT.own_lt⟩, hs⟩
end
theorem jInfo : (Try.prog.info? 62).map (·.size) = some 2 := by kernel_rfl
/-- what New answers -/
def JNewR (w : World) (s z : Int) (e : Ending) (w' : World) : Prop :=
  (¬ (1 ≤ z ∧ z ≤ 16) ∧ e = .returned (.tuple #[.pointer none, .int .i64 5]) ∧ w' = w) ∨
  (∃ r : Nat, z = (r : Int) ∧ ∃ S bj bw b, e = .returned (.tuple #[.pointer (some ⟨bj, 0, none⟩), .int .i64 0]) ∧ JAt w' S bj bw b r (Sr.add s (-1)) 18446744073709551615 [] ∧ (∀ p, S p → w.heap.size ≤ p) ∧ w.heap.size ≤ bw ∧ w.heap.size ≤ bj ∧ Below w.heap.size w w')
theorem jnew_any (s z : Int) (hs : 0 ≤ s ∧ s < 4294967296) (w : World) : Calls Try.prog 5 #[.int .u32 s, .int .i64 z] w (JNewR w s z) := by
  have HT := Lib.hid (tnew_any z w)
  have HW := Lib.hid (fun W => wnew_any s hs W)
  generalize hG : JNewR w s z = G
  have HG := Lib.hid hG
  have HS := Lib.hid hs
  clear hG hs
  go_enter Try.func5, Try.ntmps5
  go_wp2_with fail
  refine HT.out.mono ?_
  rintro e w1 (⟨hx, rfl, rfl⟩ | ⟨r, rfl, b, m, rfl, hT, hb1⟩)
  · have HFIN : Hid (G (.returned (.tuple #[.pointer none, .int .i64 5])) w1) := by
      rw [← HG.out]
      exact Lib.hid (.inl ⟨hx, rfl, rfl⟩)
    clear HT HW HG hx
    go_wp2
    exact HFIN.out
  · have HT1 := Lib.hid hT
    have HB1 := Lib.hid hb1
    clear HT hT hb1
    go_wp2_with fail
    refine (HW.out w1).mono ?_
    rintro e w2 ⟨rfl, hw2, hb2, hs2⟩
    have hal := (Below.refl w2.heap.size w2).alloc (Nat.le_refl _) (.cells #[.pointer (some ⟨w1.heap.size, 0, none⟩), .pointer (some ⟨b, 0, none⟩)] 62)
    have hx := World.alloc_heap_new w2 (.cells #[.pointer (some ⟨w1.heap.size, 0, none⟩), .pointer (some ⟨b, 0, none⟩)] 62)
    have hT2 := (HT1.out.exact.below hb2).below hal
    have HFIN : Hid (G (.returned (.tuple #[.pointer (some ⟨w2.heap.size, 0, none⟩), .int .i64 0])) (w2.alloc (.cells #[.pointer (some ⟨w1.heap.size, 0, none⟩), .pointer (some ⟨b, 0, none⟩)] 62))) := by
      rw [← HG.out]
      exact Lib.hid (.inr ⟨r, rfl, _, _, _, _, rfl, ⟨hx, hw2.below hal, Sr.add_lt _ _, by omega, ⟨_, _, _, _, _, hT2, rfl⟩, hT2.tys, hT2.own_lt⟩, HT1.out.own_sub, HB1.out.size, Nat.le_trans HB1.out.size hb2.size, HB1.out.trans ((hb2.trans (hal.mono hb2.size)).mono HB1.out.size)⟩)
    clear HW HG HT1 HB1 hw2 hb2 hs2 hal hx hT2
    go_wp2
    exact HFIN.out
section
variable {w w' : World} {S S' : Nat → Prop} {bj bw b r : Nat} {t : Int} {q : Nat} {T : List Tb.Ms}
theorem jdrop_any (h : JAt w S bj bw b r t q T) {z : Int} (hz : 0 ≤ z ∧ z ≤ 4294967295) : Calls Try.prog 12 #[.pointer (some ⟨bj, 0, none⟩), .int .u32 z] w fun e w' => e = .returned (.bool (Tb.find T z).isSome) ∧ TOff S w w' ∧ ∃ S', JAt w' S' bj bw b r t q (Tb.drop T z) ∧ ∀ p, S' p → S p := by
  have K : Calls Try.prog 27 #[.pointer (some ⟨b, 0, none⟩), .int .u32 z] w fun e w' => e = .returned (.bool (Tb.find T z).isSome) ∧ TOff S w w' ∧ ∃ S', JAt w' S' bj bw b r t q (Tb.drop T z) ∧ ∀ p, S' p → S p := by
    obtain ⟨m, A, n, cp, X, hT, hX⟩ := h.tbl
    subst hX
    refine (tdrop_any hT hz).mono ?_
    rintro e w' (⟨hno, rfl, rfl⟩ | ⟨⟨x, hx, hxz⟩, rfl, hto, ht'⟩)
    · have hf : Tb.find (X.map Sx.ms) z = none := find_none_ms.2 hno
      rw [hf, Tb.drop_none hf]
      exact ⟨rfl, TOff.refl _ _, S, h, fun _ h => h⟩
    · have hf : (Tb.find (X.map Sx.ms) z).isSome = true := by
        rw [← hxz, hT.find hx]
        rfl
      have hto' : TOff S w w' := hto.mono fun p _ hp => by
        rcases hp with rfl | rfl | hp
        · exact hT.inS.1
        · exact hT.inS.2.1
        · exact hT.inS.2.2.1 p hp
      rw [hf]
      exact ⟨rfl, hto', h.table hto' ⟨_, _, _, _, _, ht', (filter_ms X z).symm⟩⟩
  obtain ⟨c0, c1⟩ := h.cells
  obtain ⟨v, hv⟩ : ∃ v, (Tb.find T z).isSome = v := ⟨_, rfl⟩
  rw [hv] at K ⊢
  clear h
  go_enter Try.func12, Try.ntmps12
  go_wp2_with fail
  refine K.mono ?_
  rintro e w1 ⟨rfl, h2⟩
  go_wp2
  go_ret
  exact ⟨rfl, h2⟩
theorem jwindow_any (h : JAt w S bj bw b r t q T) : Calls Try.prog 13 #[.pointer (some ⟨bj, 0, none⟩)] w fun e w' => e = .returned (.pointer (some ⟨w.heap.size, 0, none⟩)) ∧ WinAt w' w.heap.size t q ∧ Below w.heap.size w w' := by
  have K := wcopy_any h.win
  obtain ⟨c0, c1⟩ := h.cells
  clear h
  go_enter Try.func13, Try.ntmps13
  go_wp2_with fail
  refine K.mono ?_
  rintro e w1 ⟨rfl, h2, h3, _⟩
  go_wp2
  go_ret
  exact ⟨rfl, h2, h3⟩
theorem jtable_any (h : JAt w S bj bw b r t q T) : Calls Try.prog 14 #[.pointer (some ⟨bj, 0, none⟩)] w fun e w' => ∃ c m A n cp X, e = .returned (.pointer (some ⟨c, 0, none⟩)) ∧ TblAt w' (fun q => w.heap.size ≤ q) c r m A n cp X ∧ Tb.Likes T (X.map Sx.ms) ∧ Below w.heap.size w w' := by
  obtain ⟨m, A, n, cp, X, hT, hX⟩ := h.tbl
  subst hX
  have K := tcopy_any hT
  obtain ⟨c0, c1⟩ := h.cells
  clear h hT
  go_enter Try.func14, Try.ntmps14
  go_wp2_with fail
  refine K.mono ?_
  rintro e w1 ⟨c, m', A', cp', X', rfl, h2, h3, h4⟩
  have H2 := Lib.hid h2
  have H3 := Lib.hid h3
  clear h2 h3 K
  go_wp2
  go_ret
  exact ⟨c, m', A', n, cp', X', rfl, H2.out, H3.out, h4⟩
theorem jheld_any (h : JAt w S bj bw b r t q T) : Calls Try.prog 15 #[.pointer (some ⟨bj, 0, none⟩)] w fun e w' => e = .returned (.int .i64 (Tb.held T : Int)) ∧ Below w.heap.size w w' := by
  obtain ⟨m, A, n, cp, X, hT, hX⟩ := h.tbl
  subst hX
  have K := theld_any hT
  obtain ⟨c0, c1⟩ := h.cells
  clear h hT
  go_enter Try.func15, Try.ntmps15
  go_wp2_with fail
  refine K.mono ?_
  rintro e w1 ⟨rfl, h2⟩
  go_wp2
  go_ret
  exact ⟨rfl, h2⟩
theorem jcopy_any (h : JAt w S bj bw b r t q T) : Calls Try.prog 16 #[.pointer (some ⟨bj, 0, none⟩)] w fun e w' => ∃ S' bj' bw' b' T', e = .returned (.pointer (some ⟨bj', 0, none⟩)) ∧ JAt w' S' bj' bw' b' r t q T' ∧ Tb.Likes T T' ∧ (∀ p, S' p → w.heap.size ≤ p) ∧ w.heap.size ≤ bw' ∧ w.heap.size ≤ bj' ∧ Below w.heap.size w w' := by
  have K1 := jwindow_any h
  have HJ := Lib.hid h
  clear h
  go_enter Try.func16, Try.ntmps16
  go_wp2_with fail
  refine K1.mono ?_
  rintro e w1 ⟨rfl, hw, hb1⟩
  have K2 := jtable_any (HJ.out.below hb1)
  have HW := Lib.hid hw
  have HB1 := Lib.hid hb1
  clear hw hb1 K1
  go_wp2_with fail
  refine K2.mono ?_
  rintro e w2 ⟨c, m, A, n, cp, X, rfl, hT, hl, hb2⟩
  have hal := (Below.refl w2.heap.size w2).alloc (Nat.le_refl _) (.cells #[.pointer (some ⟨w.heap.size, 0, none⟩), .pointer (some ⟨c, 0, none⟩)] 62)
  have hx := World.alloc_heap_new w2 (.cells #[.pointer (some ⟨w.heap.size, 0, none⟩), .pointer (some ⟨c, 0, none⟩)] 62)
  have hT2 := hT.exact.below hal
  have HX := Lib.hid hx
  have HT2 := Lib.hid hT2
  have HL := Lib.hid hl
  have HSUB := Lib.hid hT.own_sub
  have HB12 := Lib.hid (HB1.out.trans (hb2.mono HB1.out.size))
  have HB3 := Lib.hid (HB1.out.trans ((hb2.trans (hal.mono hb2.size)).mono HB1.out.size))
  have HW2 := Lib.hid ((HW.out.below hb2).below hal)
  have hs := Nat.le_trans HB1.out.size hb2.size
  have hs1 := HB1.out.size
  clear hT hl hb2 hal hx hT2 K2 HW
  go_wp2
  go_ret
  exact ⟨_, _, _, _, _, rfl, ⟨HX.out, HW2.out, HJ.out.top, HJ.out.bits, ⟨_, _, _, _, _, HT2.out, rfl⟩, HT2.out.tys, HT2.out.own_lt⟩, HL.out, fun p hp => Nat.le_trans hs1 (HSUB.out p hp), Nat.le_refl _, hs, HB3.out⟩
end
theorem jdrop_nil (z : Int) (w : World) : Calls Try.prog 12 #[.pointer none, .int .u32 z] w fun e w' => e = .returned (.bool false) ∧ w' = w := by
  go_enter Try.func12, Try.ntmps12
  go_wp2
  go_ret
  exact ⟨rfl, rfl⟩
theorem jdone_nil (z : Int) (w : World) : Calls Try.prog 8 #[.pointer none, .int .u32 z] w fun e w' => e = .returned (.int .i64 1) ∧ w' = w := by
  go_enter Try.func8, Try.ntmps8
  go_wp2
  go_ret
  exact ⟨rfl, rfl⟩
theorem jwindow_nil (w : World) : Calls Try.prog 13 #[.pointer none] w fun e w' => e = .returned (.pointer none) ∧ w' = w := by
  go_enter Try.func13, Try.ntmps13
  go_wp2
  go_ret
  exact ⟨rfl, rfl⟩
theorem jtable_nil (w : World) : Calls Try.prog 14 #[.pointer none] w fun e w' => e = .returned (.pointer none) ∧ w' = w := by
  go_enter Try.func14, Try.ntmps14
  go_wp2
  go_ret
  exact ⟨rfl, rfl⟩
theorem jheld_nil (w : World) : Calls Try.prog 15 #[.pointer none] w fun e w' => e = .returned (.int .i64 0) ∧ w' = w := by
  go_enter Try.func15, Try.ntmps15
  go_wp2
  go_ret
  exact ⟨rfl, rfl⟩
theorem jcopy_nil (w : World) : Calls Try.prog 16 #[.pointer none] w fun e w' => e = .returned (.pointer none) ∧ w' = w := by
  go_enter Try.func16, Try.ntmps16
  go_wp2
  go_ret
  exact ⟨rfl, rfl⟩
end Go.Proofs.Ytfdbcfkjablnkaa

namespace Go.Proofs.Ytfdbcfkjablnkaa
open Go.RowKit Go.Shelf
set_option maxRecDepth 100000

set_option maxHeartbeats 8000000 in
theorem tput_short (b : Nat) (f : Fr) (hf : 0 ≤ f.s ∧ f.s ≤ 4294967295) (hz : f.zs = []) (w : World) :
    Calls Try.prog 20 #[.pointer (some ⟨b, 0, none⟩), frV f.v f.k f.s f.i f.c (.slice f.a f.zs.length f.cp)] w fun e w' => e = .returned (.tuple #[outV none 0 0 false false 0, .int .i64 (if chk f.v f.k f.i f.c ≠ 0 then chk f.v f.k f.i f.c else 13)]) ∧ Below w.heap.size w w' := by
  obtain ⟨w0, hw0⟩ : ∃ w0, (w.alloc (.cells f.cs 35)).alloc (.cells (outC none 0 0 false false 0) 39) = w0 := ⟨_, rfl⟩
  obtain ⟨hb0, hs0, hF0, hR0⟩ := put_boxes hw0
  obtain ⟨d0, d1, d2, d3, d4, d5⟩ := fr_block (v := f.v) (k := f.k) (s := f.s) (i := f.i) (c := f.c) hF0
  have KN := snew_any13 f.v f.k f.s f.i f.c hf w0
  have HB0 := Lib.hid hb0
  have HF0 := Lib.hid hF0
  have HR0 := Lib.hid hR0
  have HS0 := Lib.hid hs0
  have HKN := Lib.hid KN
  have HZ := Lib.hid hz
  clear KN hb0 hF0 hR0 hf hs0 hz
  obtain ⟨E, hE⟩ : ∃ E, (if chk f.v f.k f.i f.c ≠ 0 then chk f.v f.k f.i f.c else 13) = E := ⟨_, rfl⟩
  rw [hE]
  have HE := Lib.hid hE
  clear hE
  subst hw0
  unfold frV outV
  simp only [outC, Fr.cs, frC, hdV] at HKN d0 d1 d2 d3 d4 d5 ⊢
  go_enter Try.func20, Try.ntmps20
  go_wp2_with fail
  refine HKN.out.mono ?_
  rintro e W1 hor
  have hb1' : Below ((w.alloc (.cells f.cs 35)).alloc (.cells (outC none 0 0 false false 0) 39)).heap.size ((w.alloc (.cells f.cs 35)).alloc (.cells (outC none 0 0 false false 0) 39)) W1 := by
    rcases hor with ⟨_, _, hb1⟩ | ⟨_, yb, ym, _, _, hb1, _⟩
    · exact hb1
    · exact hb1
  have hb01 : Below w.heap.size w W1 := HB0.out.trans (hb1'.mono HB0.out.size)
  have hR1 : W1.heap[w.heap.size + 1]? = some (.cells (outC none 0 0 false false 0) 39 (0, 0)) := (hb1'.block _ (by have := HS0.out; omega)).trans HR0.out
  have hF1 : W1.heap[w.heap.size]? = some (.cells f.cs 35 (0, 0)) := (hb1'.block _ (by have := HS0.out; omega)).trans HF0.out
  have HR1 := Lib.hid hR1
  have HF1 := Lib.hid hF1
  have HFIN : Hid (Below w.heap.size w (W1.setRow (w.heap.size + 1) (outC none 0 0 false false 0))) := Lib.hid (setRow_new hb01 (by omega) _)
  clear hb01 hb1' hR1 hF1 HB0 HR0 HF0 HKN d0 d1 d2 d3 d4 d5
  rcases hor with ⟨hne, rfl, _⟩ | ⟨hok, yb, ym, rfl, _⟩
  · have he : chk f.v f.k f.i f.c = E := by rw [← HE.out, if_pos hne]
    clear HE
    rw [he] at hne ⊢
    clear he
    go_wp2_with (refine wpList_store_row rfl 39 (.tmp 4) (.tmp 23) rfl (w.heap.size + 1) (outC none 0 0 false false 0) rfl rfl 39 _ HR1.out outInfo rfl (out_one ..) ?_)
    refine bodyPost_ret (results_row_tmp (P := Try.prog) (fn := Try.f20) rfl _ _ (w.heap.size + 1) 39 (outC none 0 0 false false 0) _ (by rfl) (setRow_heap _ _ _ _ _ _ HR1.out) Try.underlying39 (by rfl) outInfo) rfl ?_
    exact ⟨rfl, HFIN.out⟩
  · have hE : E = 13 := by rw [← HE.out, if_neg (by simp [hok])]
    subst hE
    clear HE hok
    obtain ⟨d0, d1, d2, d3, d4, d5⟩ := fr_block (v := f.v) (k := f.k) (s := f.s) (i := f.i) (c := f.c) HF1.out
    have hl : (f.zs.length : Int) = 0 := by rw [HZ.out]; rfl
    clear HZ
    generalize f.zs.length = q at *
    go_wp2_with (refine wpList_store_row rfl 39 (.tmp 4) (.tmp 30) rfl (w.heap.size + 1) (outC none 0 0 false false 0) rfl rfl 39 _ HR1.out outInfo rfl (out_one ..) ?_)
    refine bodyPost_ret (results_row_tmp (P := Try.prog) (fn := Try.f20) rfl _ _ (w.heap.size + 1) 39 (outC none 0 0 false false 0) _ (by rfl) (setRow_heap _ _ _ _ _ _ HR1.out) Try.underlying39 (by rfl) outInfo) rfl ?_
    exact ⟨rfl, HFIN.out⟩
end Go.Proofs.Ytfdbcfkjablnkaa

namespace Go.Proofs.Ytfdbcfkjablnkaa
open Go.RowKit
section
variable {P : Program} {fs : List Tmp} {FS : Tmp → Value → World → Prop} {I : World → Prop}
/-- the walk in the text's order: operations ahead of the store (true: it may come behind it), the store, the rest -/
def wpFL (P : Program) (ops : Array Oper) (I : World → Prop) (fs : List Tmp) (FS : Tmp → Value → World → Prop) (St : (Tmp → Value) → World → World → Prop) (E : Act → Prop) : List Bool → List Oper → Act → Prop
  | _, [], a => E a
  | [], o :: r, a => StOb P ops I fs FS St o a ∧ wpFS P ops I fs FS St E none r a
  | false :: m, o :: r, a => ∃ v, Ob P ops I fs FS o v a ∧ wpFL P ops I fs FS St E m r (a.put o.dst v)
  | true :: m, o :: r, a => ∃ v, PureOb P ops fs o v a ∧ wpFL P ops I fs FS St E m r (a.put o.dst v)
theorem wpFL_vals {ops : Array Oper} {St : (Tmp → Value) → World → World → Prop} {E : Act → Prop} : ∀ (ms : List Bool) (l : List Oper) (a : Act), wpFL P ops I fs FS St E ms l a → ∃ vs : List Value, vs.length = l.length ∧
    (∀ (j : Nat) o v, l[j]? = some o → vs[j]? = some v → (j < ms.length → Ob P ops I fs FS o v (lex l vs a j)) ∧ (j = ms.length → StOb P ops I fs FS St o (lex l vs a j)) ∧ (ms.length < j ∨ ms.getD j false = true → PureOb P ops fs o v (lex l vs a j))) ∧ E (lex l vs a l.length)
  | _, [], a, h => ⟨[], rfl, by simp, by cases ‹List Bool› with | nil => exact h | cons b m => cases b <;> exact h⟩
  | [], o :: r, a, ⟨hob, hr⟩ => by
    obtain ⟨vs, h1, h2, h3⟩ := wpFS_vals0 r _ hr
    have hput : a.put o.dst undef = a := by rw [hob.1]; rfl
    refine ⟨undef :: vs, by simp [h1], fun j o' v' ho hv => ?_, ?_⟩
    · cases j with
      | zero =>
        simp only [List.getElem?_cons_zero, Option.some.injEq] at ho hv
        subst ho hv
        exact ⟨fun h => absurd h (Nat.not_lt_zero _), fun _ => hob, fun h => h.elim (fun h => absurd h (Nat.not_lt_zero _)) (fun h => by simp at h)⟩
      | succ j =>
        simp only [List.getElem?_cons_succ] at ho hv
        refine ⟨fun h => absurd h (Nat.not_lt_zero _), fun h => absurd h (Nat.succ_ne_zero j), fun _ => ?_⟩
        show PureOb P ops fs o' v' (lex r vs (a.put o.dst undef) j)
        rw [hput]
        exact h2 j o' v' ho hv
    · show E (lex r vs (a.put o.dst undef) r.length)
      rw [hput]
      exact h3
  | false :: m, o :: r, a, ⟨v, hob, hr⟩ => by
    obtain ⟨vs, h1, h2, h3⟩ := wpFL_vals m r _ hr
    refine ⟨v :: vs, by simp [h1], fun j o' v' ho hv => ?_, h3⟩
    cases j with
    | zero =>
      simp only [List.getElem?_cons_zero, Option.some.injEq] at ho hv
      subst ho hv
      exact ⟨fun _ => hob, fun h => by simp at h, fun h => by simp at h⟩
    | succ j =>
      simp only [List.getElem?_cons_succ] at ho hv
      obtain ⟨q1, q2, q3⟩ := h2 j o' v' ho hv
      exact ⟨fun h => q1 (by simp at h; omega), fun h => q2 (by simp at h; omega), fun h => q3 (by simp at h; exact h.imp (fun h => by omega) (fun h => by simpa using h))⟩
  | true :: m, o :: r, a, ⟨v, hob, hr⟩ => by
    obtain ⟨vs, h1, h2, h3⟩ := wpFL_vals m r _ hr
    refine ⟨v :: vs, by simp [h1], fun j o' v' ho hv => ?_, h3⟩
    cases j with
    | zero =>
      simp only [List.getElem?_cons_zero, Option.some.injEq] at ho hv
      subst ho hv
      exact ⟨fun _ => hob.ob, fun h => by simp at h, fun _ => hob⟩
    | succ j =>
      simp only [List.getElem?_cons_succ] at ho hv
      obtain ⟨q1, q2, q3⟩ := h2 j o' v' ho hv
      exact ⟨fun h => q1 (by simp at h; omega), fun h => q2 (by simp at h; omega), fun h => q3 (by simp at h; exact h.imp (fun h => by omega) (fun h => by simpa using h))⟩
/-- ONE WALK IN THE TEXT's ORDER SERVES EVERY ORDER, the store behind as many as ms has -/
theorem wp_region_FL {id : Nat} {Q : Exit → Act → World → Prop} {a : Act} {w : World} {l : List Oper} (N f : Nat) (ms : List Bool) (fs : List Tmp) (FS : Tmp → Value → World → Prop) (I : World → Prop) (St : (Tmp → Value) → World → World → Prop) (hm : P.follows .mixedOrders = true) (hB : rgB .any l.toArray N = true)
    (hk : decide (ms.length < l.length) = true) (hreach : ((List.range ms.length).all fun j => ms.getD j false || reachB .any l.toArray f ms.length j) = true) (hfs : (fs.all fun s => (List.range ms.length).any fun j => !ms.getD j false && ((l[j]?).bind (·.dst) == some s)) = true) (hN : N ≤ a.tmps.size) (hI : Closed I) (hF : ∀ s x w w', FS s x w → Below w.heap.size w w' → FS s x w') (hC : I w.drew)
    (h : wpFL P l.toArray I fs FS St (fun a' => ∀ xs W w', I W → (∀ s ∈ fs, FS s (xs s) W) → St xs W w' → Q .normal (fill fs xs a') w') ms l a) : (Code.region id l.toArray true).wp P Q a w := by
  have hR := rgB_spec hB
  have hk' : ms.length < l.length := by simpa using hk
  obtain ⟨vs, hlen, hob, hE⟩ := wpFL_vals ms l a h
  have hfs' : ∀ s ∈ fs, ∃ (j : Nat) (o : Oper), j < ms.length ∧ ms.getD j false = false ∧ l[j]? = some o ∧ o.dst = some s := fun s hs => by
    rw [List.all_eq_true] at hfs
    have h1 := hfs s hs
    rw [List.any_eq_true] at h1
    obtain ⟨j, hj, hd⟩ := h1
    rw [List.mem_range] at hj
    rw [Bool.and_eq_true] at hd
    obtain ⟨o, ho⟩ : ∃ o, l[j]? = some o := ⟨_, List.getElem?_eq_getElem (by omega)⟩
    rw [ho] at hd
    exact ⟨j, o, hj, by simpa using hd.1, ho, by simpa using hd.2⟩
  exact region_of_FS (late := fun j => ms.getD j false) hm hR hk' (fun j hj hl => by
    rw [List.all_eq_true] at hreach
    have h1 := hreach j (List.mem_range.2 hj)
    rw [hl, Bool.false_or] at h1
    exact h1) hfs' hN hI hF hC hlen hob hE
/-! ### its steps -/
variable {l : List Oper} {St : (Tmp → Value) → World → World → Prop} {E : Act → Prop} {o : Oper} {rest : List Oper} {a : Act} {ms : List Bool}
theorem wpFL_step (h : wpF P l.toArray I fs FS (fun a' => wpFL P l.toArray I fs FS St E ms rest a') [o] a) : wpFL P l.toArray I fs FS St E (false :: ms) (o :: rest) a := by
  obtain ⟨v, hob, hr⟩ := h
  exact ⟨v, hob, hr⟩
/-- one that may come behind the store -/
theorem wpFL_late (h : wpFS P l.toArray I fs FS St (fun a' => wpFL P l.toArray I fs FS St E ms rest a') none [o] a) : wpFL P l.toArray I fs FS St E (true :: ms) (o :: rest) a := by
  obtain ⟨v, hob, hr⟩ := h
  exact ⟨v, hob, hr⟩
theorem wpFL_store (h : wpFS P l.toArray I fs FS St E (some 0) (o :: rest) a) : wpFL P l.toArray I fs FS St E [] (o :: rest) a := h
end
end Go.Proofs.Ytfdbcfkjablnkaa

namespace Go.Proofs.Ytfdbcfkjablnkaa
section
variable {P : Program} {ops : Array Oper} {md : Region.Mode}

/-- 0: it looks at no memory and enters no function; 1: a load; 2: a store; 3: all others -/
def kind3 (o : Oper) : Nat :=
  if pureOp o then 0 else match o.op with
    | .load _ _ => 1
    | .store _ _ _ => 2
    | _ => 3
theorem kind3_pure {o : Oper} (h : kind3 o = 0) : kindOf o = 0 := by
  unfold kind3 at h
  unfold kindOf
  split at h
  · rename_i hp; rw [if_pos hp]
  · split at h <;> simp at h
theorem kind3_load {o : Oper} (h : kind3 o = 1) : ∃ t x, o.op = .load t x := by
  unfold kind3 at h
  split at h
  · simp at h
  · split at h
    · exact ⟨_, _, by assumption⟩
    · simp at h
    · simp at h
theorem load_no_enter {o : Oper} {t : TypeId} {x : Operand} (ho : o.op = .load t x) (ρ : Operand → Value) (w w' : World) (f : FuncId) (args : Array Value) : (execOp ρ o).run P w ≠ .ok (.enter f args) w' := by
  unfold execOp
  simp only [ho]
  exact run_value _ _ _ _ _
theorem yields_load {o : Oper} {v : Value} {a : Act} {C D : World → Prop} (hk : kind3 o = 1) (h : YieldsIn P ops C o v a) (hD : ∀ w, D w → C w) : YieldsIn P ops D o v a := by
  obtain ⟨t, x, ho⟩ := kind3_load hk
  rcases h with ⟨hw, h⟩ | h
  · refine .inl ⟨hw, fun w hwD => ?_⟩
    have h1 := h w (hD w hwD)
    have h2 := load_no_enter (P := P) ho a.eval w
    unfold Oper.quietAt at h1 ⊢
    generalize (execOp a.eval o).run P w = r at h1 h2
    cases r with
    | ok n w' =>
      cases n with
      | enter f args => exact absurd rfl (h2 w' f args)
      | _ => exact h1
    | halt x w' => exact h1
  · exact .inr h

def famUpon (P : Program) (V : Value → Prop) (C' : Value → World → Prop) : Result Next → Prop
  | .ok (.value u) w' => V u ∧ C' u w'
  | .ok (.enter f args) w' => Calls P f args w' fun e w'' => ∃ v, e = .returned v ∧ V v ∧ C' v w''
  | _ => False
/-- one operation, in a class of worlds -/
def Step3 (P : Program) (ops : Array Oper) (o : Oper) (a : Act) (C : World → Prop) (K : (World → Prop) → Act → Prop) : Prop :=
  (kind3 o = 0 ∧ ∃ v, YieldsIn P ops (fun _ => True) o v a ∧ K C (a.put o.dst v)) ∨
  (kind3 o = 1 ∧ ∃ v, YieldsIn P ops C o v a ∧ K C (a.put o.dst v)) ∨
  (kind3 o = 2 ∧ ∃ v C', StepsIn P ops C C' o v a ∧ K C' (a.put o.dst v)) ∨
  (kind3 o = 3 ∧ ((Region.wanted o (yielded ops a.tmps) = false ∧ K C (a.put o.dst undef)) ∨ (Region.wanted o (yielded ops a.tmps) = true ∧ ∃ (V : Value → Prop) (C' : Value → World → Prop), (∀ v w, C' v w → C w) ∧ (∀ w, C w → famUpon P V C' ((execOp a.eval o).run P w)) ∧ ∀ v, V v → K (C' v) (a.put o.dst v))))

def wpAny3 (P : Program) (md : Region.Mode) (ops : Array Oper) (Q : (World → Prop) → Act → Prop) : Nat → Array Bool → (World → Prop) → Act → Prop
  | 0, listed, C, a => Region.ready md ops listed = [] ∧ Q C a
  | fuel + 1, listed, C, a =>
    (Region.ready md ops listed = [] → Q C a) ∧
    ∀ i ∈ Region.ready md ops listed, ∀ o, ops[i]? = some o → Step3 P ops o a C (wpAny3 P md ops Q fuel (listed.setIfInBounds i true))
theorem Step3.wpOp {C : World → Prop} {i : Nat} {o : Oper} {a : Act} {K : (World → Prop) → Act → Prop} {K' : Act → World → Prop} {Q' : Exit → Act → World → Prop} {w : World} (hi : ops[i]? = some o) (h : Step3 P ops o a C K) (hC : C w) (hK : ∀ (C' : World → Prop) a' w', C' w' → K C' a' → K' a' w') : wpOp P ops Q' i K' a w := by
  rcases h with ⟨hk, v, hy, hn⟩ | ⟨hk, v, hy, hn⟩ | ⟨hk, v, C', hy, hn⟩ | ⟨hk, h⟩
  · exact OpR.wpOp (C := C) (C' := C) hi (.inl ⟨kind3_pure hk, rfl, hy⟩) hC fun w' hw' => hK C _ w' hw' hn
  · have hk1 : kindOf o = 1 := by
      obtain ⟨t, x, ho⟩ := kind3_load hk
      simp [kindOf, pureOp, ho]
    exact OpR.wpOp (C := C) (C' := C) hi (.inr (.inl ⟨hk1, rfl, hy⟩)) hC fun w' hw' => hK C _ w' hw' hn
  · have hk2 : kindOf o = 2 := by
      unfold kind3 at hk
      unfold kindOf
      split at hk
      · simp at hk
      · rename_i hp
        rw [if_neg hp]
        split at hk
        · simp at hk
        · rename_i heq; simp [heq]
        · simp at hk
    exact OpR.wpOp (C := C) (C' := C') hi (.inr (.inr ⟨hk2, hy⟩)) hC fun w' hw' => hK C' _ w' hw' hn
  · unfold Go.wpOp
    simp only [hi]
    rcases h with ⟨hw, hn⟩ | ⟨hw, V, C', _, hv, hn⟩
    · simp only [hw, Bool.false_eq_true, if_false]
      exact hK C _ w hC hn
    · simp only [hw, if_true]
      left
      have h1 := hv w hC
      unfold Oper.wp
      generalize (execOp a.eval o).run P w = r at h1
      cases r with
      | ok n w' =>
        cases n <;> simp only [famUpon] at h1 <;> simp only [Oper.upon]
        case value u => exact hK (C' u) _ w' h1.2 (hn u h1.1)
        case enter f args =>
          refine h1.mono fun e w'' ⟨v, he, hV, hc⟩ => ?_
          subst he
          exact hK (C' v) _ w'' hc (hn v hV)
      | halt x w' => simp only [famUpon] at h1
theorem wpAny_of_3 {Q : (World → Prop) → Act → Prop} {Q' : Exit → Act → World → Prop} (hQ : ∀ (C : World → Prop) a w, C w → Q C a → Q' .normal a w) : ∀ (fuel : Nat) (listed : Array Bool) (C : World → Prop) (a : Act) (w : World), C w →
    wpAny3 P md ops Q fuel listed C a → wpAny P md ops Q' fuel listed a w
  | 0, _, _, _, _, hw, h => ⟨h.1, hQ _ _ _ hw h.2⟩
  | fuel + 1, _, _, _, _, hw, h => ⟨fun h0 => hQ _ _ _ hw (h.1 h0), fun i hi => by
      obtain ⟨_, o, ho, _⟩ := mem_ready.1 hi
      exact (h.2 i hi o ho).wpOp ho hw fun C' a' w' hw' hn => wpAny_of_3 hQ fuel _ C' a' w' hw' hn⟩

/-- what waits for k, through others too -/
def blocked (md : Region.Mode) (ops : Array Oper) (k : Nat) : Array Bool :=
  (List.range ops.size).foldl (fun u j => u.push (j == k || (match ops[j]? with | some oj => oj.after.any (fun e => Region.binds md e && u.getD e.on false) | none => false))) #[]
def free3 (md : Region.Mode) (ops : Array Oper) (listed : Array Bool) (k : Nat) : Bool :=
  let U := blocked md ops k
  U.getD k false && U.size == ops.size &&
  match ops[k]? with
  | none => false
  | some ok => (List.range ops.size).all fun j =>
    match ops[j]? with
    | some oj =>
      if U.getD j false then !listed.getD j false && (j == k || oj.after.any (fun e => Region.binds md e && U.getD e.on false))
      else listed.getD j true || (ok.apart ops oj && (kind3 ok == 0 || (kind3 ok == 1 && kind3 oj != 2)))
    | none => true
structure Free3 (md : Region.Mode) (ops : Array Oper) (listed : Array Bool) (i : Nat) (oi : Oper) (U : Array Bool) : Prop where
  size : U.size = ops.size
  own : U.getD i false = true
  wait : ∀ j oj, ops[j]? = some oj → U.getD j false = true → j ≠ i → ∃ e ∈ oj.after, Region.binds md e = true ∧ U.getD e.on false = true
  un : ∀ j, U.getD j false = true → listed.getD j false = false
  free : ∀ j oj, ops[j]? = some oj → U.getD j false = false → listed.getD j true = false → oi.apart ops oj = true ∧ (kind3 oi = 0 ∨ (kind3 oi = 1 ∧ kind3 oj ≠ 2))
theorem free3_spec {i : Nat} {oi : Oper} {listed : Array Bool} (hi : ops[i]? = some oi) (h : free3 md ops listed i = true) : Free3 md ops listed i oi (blocked md ops i) := by
  simp only [free3, hi, List.all_eq_true, List.mem_range, Bool.and_eq_true, beq_iff_eq] at h
  obtain ⟨⟨hown, hsz⟩, h⟩ := h
  have at_ : ∀ j oj, ops[j]? = some oj → (if (blocked md ops i).getD j false = true then (!listed.getD j false && (j == i || oj.after.any (fun e => Region.binds md e && (blocked md ops i).getD e.on false))) = true
      else (listed.getD j true || (oi.apart ops oj && (kind3 oi == 0 || (kind3 oi == 1 && kind3 oj != 2)))) = true) := fun j oj hj => by
    have h1 := h j (Array.getElem?_eq_some_iff.1 hj).1
    simp only [hj] at h1
    split at h1 <;> rename_i hu
    · rw [if_pos hu]; exact h1
    · rw [if_neg hu]; exact h1
  refine ⟨hsz, hown, fun j oj hj hu hne => ?_, fun j hu => ?_, fun j oj hj hu hun => ?_⟩
  · have h1 := at_ j oj hj
    rw [if_pos hu] at h1
    simp only [Bool.and_eq_true, Bool.or_eq_true, beq_iff_eq, hne, false_or] at h1
    obtain ⟨e, he, hb⟩ := Array.any_eq_true'.1 h1.2
    simp only [Bool.and_eq_true] at hb
    exact ⟨e, he, hb.1, hb.2⟩
  · have hlt : j < ops.size := by
      rw [← hsz]
      rcases Nat.lt_or_ge j (blocked md ops i).size with h' | h'
      · exact h'
      · simp [Array.getElem?_eq_none h'] at hu
    have h1 := at_ j _ (Array.getElem?_eq_getElem hlt)
    rw [if_pos hu] at h1
    simp only [Bool.and_eq_true, Bool.not_eq_true'] at h1
    exact h1.1
  · have h1 := at_ j oj hj
    rw [if_neg (by rw [hu]; exact Bool.false_ne_true)] at h1
    simp only [hun, Bool.or_eq_true, Bool.false_eq_true, false_or, Bool.and_eq_true, beq_iff_eq, bne_iff_ne, ne_eq] at h1
    exact h1
theorem Free3.ready {i j : Nat} {oi oj : Oper} {listed U : Array Bool} (h : Free3 md ops listed i oi U) (hj : ops[j]? = some oj) (hji : j ≠ i) (hall : ∀ e ∈ oj.after, Region.binds md e = true → listed.getD e.on false = true) : U.getD j false = false := by
  cases hu : U.getD j false with
  | false => rfl
  | true =>
    obtain ⟨e, he, hb, hue⟩ := h.wait j oj hj hu hji
    have h1 := hall e he hb
    rw [h.un e.on hue] at h1
    cases h1
theorem Free3.set {i j : Nat} {oi : Oper} {listed U : Array Bool} (h : Free3 md ops listed i oi U) (hu : U.getD j false = false) : Free3 md ops (listed.setIfInBounds j true) i oi U := by
  refine ⟨h.size, h.own, h.wait, fun k hk => ?_, fun k ok hk hku hun => h.free k ok hk hku ?_⟩
  · have hne : j ≠ k := fun e => by subst e; rw [hu] at hk; cases hk
    rw [getD_set_ne false hne]; exact h.un k hk
  · by_cases hjk : j = k
    · subst hjk
      rcases Nat.lt_or_ge j listed.size with h' | h'
      · simp [h'] at hun
      · simp [Array.getElem?_eq_none (show (listed.setIfInBounds j true).size ≤ j by simpa using h')] at hun
    · rw [getD_set_ne true hjk] at hun; exact hun
/-- an operation apart: its step is the same whether another's value is in its slot or not -/
theorem Step3.put {oi oj : Oper} {v : Value} {a : Act} {C : World → Prop} {K1 K2 : (World → Prop) → Act → Prop} (hap : oi.apart ops oj = true) (hsj : ∀ cs b, oj.op ≠ .select cs b)
    (hK : ∀ (C' : World → Prop) u, (C' = C ∨ (kind3 oj = 3 ∧ ∀ w, C' w → C w) ∨ kind3 oj = 2) → K1 C' ((a.put oi.dst v).put oj.dst u) → K2 C' (a.put oj.dst u)) (h : Step3 P ops oj (a.put oi.dst v) C K1) : Step3 P ops oj a C K2 := by
  obtain ⟨p1, p2, p3⟩ := Oper.apart_spec hap
  have he := execOp_put oj hsj a oi.dst v p1
  have hw := wanted_put oj a oi.dst v p1
  rcases h with ⟨hk, u, hy, hn⟩ | ⟨hk, u, hy, hn⟩ | ⟨hk, u, C', hy, hn⟩ | ⟨hk, h⟩
  · exact .inl ⟨hk, u, hy.of_same he.symm hw.symm, hK C u (.inl rfl) hn⟩
  · exact .inr (.inl ⟨hk, u, hy.of_same he.symm hw.symm, hK C u (.inl rfl) hn⟩)
  · refine .inr (.inr (.inl ⟨hk, u, C', ?_, hK C' u (.inr (.inr hk)) hn⟩))
    unfold StepsIn at hy ⊢
    rwa [he, hw] at hy
  · refine .inr (.inr (.inr ⟨hk, ?_⟩))
    rcases h with ⟨hwf, hn⟩ | ⟨hwt, V, C', hsub, hv, hn⟩
    · exact .inl ⟨by rw [← hw]; exact hwf, hK C undef (.inl rfl) hn⟩
    · exact .inr ⟨by rw [← hw]; exact hwt, V, C', hsub, by rwa [he] at hv, fun u hu => hK (C' u) u (.inr (.inl ⟨hk, hsub u⟩)) (hn u hu)⟩
theorem wpAny3_first {Q : (World → Prop) → Act → Prop} {i : Nat} {oi : Oper} (hi : ops[i]? = some oi) (hsel : ∀ (j : Nat) (o : Oper) cs b, ops[j]? = some o → o.op ≠ .select cs b) :
    ∀ (fuel : Nat) (listed : Array Bool) (C : World → Prop) (a : Act) (U : Array Bool), Free3 md ops listed i oi U → i ∈ Region.ready md ops listed →
      Step3 P ops oi a C (wpAny3 P md ops Q fuel (listed.setIfInBounds i true)) → wpAny3 P md ops Q (fuel + 1) listed C a := by
  intro fuel
  induction fuel with
  | zero =>
    intro listed C a U hfree hr H
    refine ⟨fun h => (by rw [h] at hr; cases hr), fun j hj o ho => ?_⟩
    by_cases hji : j = i
    · subst hji
      have : o = oi := Option.some.inj (ho.symm.trans hi)
      subst this
      exact H
    · exfalso
      have hmono := ready_mono hj hji
      obtain ⟨hjun, oj', hoj', hall⟩ := mem_ready.1 hj
      have hju := hfree.ready hoj' hji hall
      obtain ⟨_, hkind⟩ := hfree.free j oj' hoj' hju hjun
      have nil : ∀ {C' : World → Prop} {a' : Act}, wpAny3 P md ops Q 0 (listed.setIfInBounds i true) C' a' → False := fun h => by
        rw [h.1] at hmono; cases hmono
      rcases H with ⟨_, _, _, hn⟩ | ⟨_, _, _, hn⟩ | ⟨hk, _⟩ | ⟨hk, _⟩
      · exact nil hn
      · exact nil hn
      · rcases hkind with h | ⟨h, _⟩ <;> rw [hk] at h <;> simp at h
      · rcases hkind with h | ⟨h, _⟩ <;> rw [hk] at h <;> simp at h
  | succ fuel ih =>
    intro listed C a U hfree hr H
    refine ⟨fun h => (by rw [h] at hr; cases hr), fun j hj oj hoj => ?_⟩
    by_cases hji : j = i
    · subst hji
      have : oj = oi := Option.some.inj (hoj.symm.trans hi)
      subst this
      exact H
    · obtain ⟨hjun, oj', hoj', hall⟩ := mem_ready.1 hj
      have : oj' = oj := Option.some.inj (hoj'.symm.trans hoj)
      subst this
      have hju := hfree.ready hoj' hji hall
      obtain ⟨hap, hkind⟩ := hfree.free j oj' hoj hju hjun
      obtain ⟨p1, p2, p3⟩ := Oper.apart_spec hap
      have hsi : ∀ cs b, oi.op ≠ .select cs b := fun cs b => hsel i oi cs b hi
      have hsj : ∀ cs b, oj'.op ≠ .select cs b := fun cs b => hsel j oj' cs b hoj
      have hfree' := hfree.set hju
      have hr' := ready_mono hr (Ne.symm hji)
      have next : ∀ v, (kind3 oi = 0 ∧ YieldsIn P ops (fun _ => True) oi v a ∨ kind3 oi = 1 ∧ YieldsIn P ops C oi v a) → wpAny3 P md ops Q (fuel + 1) (listed.setIfInBounds i true) C (a.put oi.dst v) → Step3 P ops oj' a C (wpAny3 P md ops Q (fuel + 1) (listed.setIfInBounds j true)) := by
        intro v hy hn
        refine Step3.put (v := v) hap hsj (fun C' u hC' h3 => ih _ C' _ U hfree' hr' ?_) (hn.2 j (ready_mono hj hji) oj' hoj)
        have h4 : wpAny3 P md ops Q fuel ((listed.setIfInBounds j true).setIfInBounds i true) C' ((a.put oj'.dst u).put oi.dst v) := by
          rw [Array.setIfInBounds_comm _ _ hji]
          rw [Act.put_comm a v u p2] at h3
          exact h3
        have hs1 := execOp_put oi hsi a oj'.dst u p3
        have hs2 := wanted_put oi a oj'.dst u p3
        rcases hy with ⟨hk, hy⟩ | ⟨hk, hy⟩
        · exact .inl ⟨hk, v, hy.of_same hs1 hs2, h4⟩
        · refine .inr (.inl ⟨hk, v, yields_load hk (hy.of_same hs1 hs2) ?_, h4⟩)
          rcases hC' with rfl | ⟨_, h⟩ | h
          · exact fun _ h => h
          · exact h
          · rcases hkind with h' | ⟨_, h'⟩
            · rw [hk] at h'; simp at h'
            · exact absurd h h'
      rcases H with ⟨hk, v, hy, hn⟩ | ⟨hk, v, hy, hn⟩ | ⟨hk, _⟩ | ⟨hk, _⟩
      · exact next v (.inl ⟨hk, hy⟩) hn
      · exact next v (.inr ⟨hk, hy⟩) hn
      · rcases hkind with h | ⟨h, _⟩ <;> rw [hk] at h <;> simp at h
      · rcases hkind with h | ⟨h, _⟩ <;> rw [hk] at h <;> simp at h

/-- may the operations be walked in this order? -/
def orderB (md : Region.Mode) (ops : Array Oper) : List Nat → Array Bool → Bool
  | [], listed => (Region.ready md ops listed).isEmpty
  | k :: r, listed => (Region.ready md ops listed).contains k && free3 md ops listed k && orderB md ops r (listed.setIfInBounds k true)
def order3 (md : Region.Mode) (ops : Array Oper) (ks : List Nat) : Bool := Region.noSelect ops && ks.length == ops.size && orderB md ops ks (Array.replicate ops.size false)
/-- the walk in that order -/
def wpO3 (P : Program) (ops : Array Oper) (Q : (World → Prop) → Act → Prop) : List Nat → (World → Prop) → Act → Prop
  | [], C, a => Q C a
  | k :: r, C, a => ∃ o, ops[k]? = some o ∧ Step3 P ops o a C (wpO3 P ops Q r)
theorem Step3.mono {o : Oper} {a : Act} {C : World → Prop} {K K' : (World → Prop) → Act → Prop} (h : Step3 P ops o a C K) (hK : ∀ C a, K C a → K' C a) : Step3 P ops o a C K' := by
  rcases h with ⟨hk, v, hy, hn⟩ | ⟨hk, v, hy, hn⟩ | ⟨hk, v, C', hy, hn⟩ | ⟨hk, h⟩
  · exact .inl ⟨hk, v, hy, hK _ _ hn⟩
  · exact .inr (.inl ⟨hk, v, hy, hK _ _ hn⟩)
  · exact .inr (.inr (.inl ⟨hk, v, C', hy, hK _ _ hn⟩))
  · refine .inr (.inr (.inr ⟨hk, ?_⟩))
    rcases h with ⟨hw, hn⟩ | ⟨hw, V, C', hs, hv, hn⟩
    · exact .inl ⟨hw, hK _ _ hn⟩
    · exact .inr ⟨hw, V, C', hs, hv, fun v hV => hK _ _ (hn v hV)⟩
theorem wpAny3_order {Q : (World → Prop) → Act → Prop} (hs : Region.noSelect ops = true) : ∀ (ks : List Nat) (listed : Array Bool) (C : World → Prop) (a : Act),
    orderB md ops ks listed = true → wpO3 P ops Q ks C a → wpAny3 P md ops Q ks.length listed C a
  | [], _, _, _, hB, h => ⟨by simpa [orderB] using hB, h⟩
  | k :: r, listed, C, a, hB, h => by
    obtain ⟨o, ho, h⟩ := h
    simp only [orderB, Bool.and_eq_true] at hB
    obtain ⟨⟨hr, hf⟩, hB'⟩ := hB
    exact wpAny3_first ho (Region.noSelect_spec hs) r.length listed C a _ (free3_spec ho hf) (by simpa using hr) (h.mono fun C' a' hn => wpAny3_order hs r _ C' a' hB' hn)
theorem wp_region_order {id : Nat} {Q : Exit → Act → World → Prop} {a : Act} {w : World} {l : List Oper} (ks : List Nat) {C : World → Prop} (hm : P.follows .mixedOrders = true) (hB : order3 .any l.toArray ks = true) (hC : C w.drew)
    (h : wpO3 P l.toArray (fun C a' => ∀ w', C w' → Q .normal a' w') ks C a) : (Code.region id l.toArray true).wp P Q a w := by
  simp only [order3, Bool.and_eq_true, beq_iff_eq] at hB
  refine wp_region_any hm (wpAny_of_3 (Q := fun C a' => ∀ w', C w' → Q .normal a' w') (fun C a w' hw' h => h w' hw') _ _ C _ _ hC ?_)
  have := wpAny3_order (md := .any) hB.1.1 ks (Array.replicate l.toArray.size false) C a hB.2 h
  rwa [hB.1.2] at this
/-! one operation of the walk -/
theorem yields_of_quiet {o : Oper} {C : World → Prop} {a : Act} {K : Act → Prop} (h : wpQuiet P ops C K [o] a) : ∃ v, YieldsIn P ops C o v a ∧ K (a.put o.dst v) := by
  unfold wpQuiet at h
  by_cases hw : Region.wanted o (yielded ops a.tmps) = true
  · simp only [hw, if_true] at h
    obtain ⟨v, h1, h2⟩ := h
    exact ⟨v, .inl ⟨hw, h1⟩, h2⟩
  · simp only [hw] at h
    exact ⟨undef, .inr ⟨by simpa using hw, rfl⟩, h⟩
theorem wpO3_pure {Q : (World → Prop) → Act → Prop} {o : Oper} {k : Nat} {r : List Nat} {C : World → Prop} {a : Act} (ho : ops[k]? = some o) (hk : kind3 o = 0) (h : wpQuiet P ops (fun _ => True) (fun a' => wpO3 P ops Q r C a') [o] a) : wpO3 P ops Q (k :: r) C a :=
  ⟨o, ho, .inl ⟨hk, yields_of_quiet h⟩⟩
theorem wpO3_load {Q : (World → Prop) → Act → Prop} {o : Oper} {k : Nat} {r : List Nat} {C : World → Prop} {a : Act} (ho : ops[k]? = some o) (hk : kind3 o = 1) (h : wpQuiet P ops C (fun a' => wpO3 P ops Q r C a') [o] a) : wpO3 P ops Q (k :: r) C a :=
  ⟨o, ho, .inr (.inl ⟨hk, yields_of_quiet h⟩)⟩
theorem wpO3_skip {Q : (World → Prop) → Act → Prop} {o : Oper} {k : Nat} {r : List Nat} {C : World → Prop} {a : Act} (ho : ops[k]? = some o) (hk : kind3 o = 3) (hw : Region.wanted o (yielded ops a.tmps) = false) (h : wpO3 P ops Q r C (a.put o.dst undef)) : wpO3 P ops Q (k :: r) C a :=
  ⟨o, ho, .inr (.inr (.inr ⟨hk, .inl ⟨hw, h⟩⟩))⟩
/-- a call: by its contract, in every world of the class -/
theorem wpO3_call {Q : (World → Prop) → Act → Prop} {o : Oper} {k : Nat} {r : List Nat} {C : World → Prop} {a : Act} (V : Value → Prop) (C' : Value → World → Prop) {f : FuncId} {args : Array Value} (ho : ops[k]? = some o) (hk : kind3 o = 3) (hw : Region.wanted o (yielded ops a.tmps) = true) (hsub : ∀ v w, C' v w → C w)
    (hrun : ∀ w, (execOp a.eval o).run P w = .ok (.enter f args) w) (hc : ∀ w, C w → Calls P f args w fun e w'' => ∃ v, e = .returned v ∧ V v ∧ C' v w'') (h : ∀ v, V v → wpO3 P ops Q r (C' v) (a.put o.dst v)) : wpO3 P ops Q (k :: r) C a :=
  ⟨o, ho, .inr (.inr (.inr ⟨hk, .inr ⟨hw, V, C', hsub, fun w hC => by rw [hrun w]; exact hc w hC, h⟩⟩))⟩
/-- a load, by what every world of the class holds there -/
theorem wpO3_load1 {Q : (World → Prop) → Act → Prop} {o : Oper} {k : Nat} {r : List Nat} {C : World → Prop} {a : Act} {t : TypeId} {x : Operand} {ad : Addr} (v : Value) (ho : ops[k]? = some o) (hop : o.op = .load t x) (hw : Region.wanted o (yielded ops a.tmps) = true) (hx : a.eval x = .pointer (some ad))
    (hrun : ∀ w, C w → (Instr.loadAt t (.pointer (some ad))).run P w = .ok v w) (h : wpO3 P ops Q r C (a.put o.dst v)) : wpO3 P ops Q (k :: r) C a := by
  refine ⟨o, ho, .inr (.inl ⟨by simp [kind3, pureOp, hop], v, .inl ⟨hw, fun w hC => ?_⟩, h⟩)⟩
  unfold Oper.quietAt execOp
  simp only [hop, hx]
  rw [Sem.run_bind, hrun w hC]
  exact ⟨rfl, rfl⟩
/-! the same, the region's operations as a list: so each operation comes written out -/
section
variable {l : List Oper} {Q : (World → Prop) → Act → Prop} {o : Oper} {k : Nat} {r : List Nat} {C : World → Prop} {a : Act}
theorem at_list (ho : l[k]? = some o) : l.toArray[k]? = some o := by simpa using ho
theorem wpO3_pureL (ho : l[k]? = some o) (hk : kind3 o = 0) (h : wpQuiet P l.toArray (fun _ => True) (fun a' => wpO3 P l.toArray Q r C a') [o] a) : wpO3 P l.toArray Q (k :: r) C a := wpO3_pure (at_list ho) hk h
theorem wpO3_skipL (ho : l[k]? = some o) (hk : kind3 o = 3) (hw : Region.wanted o (yielded l.toArray a.tmps) = false) (h : wpO3 P l.toArray Q r C (a.put o.dst undef)) : wpO3 P l.toArray Q (k :: r) C a := wpO3_skip (at_list ho) hk hw h
theorem wpO3_callL (V : Value → Prop) (C' : Value → World → Prop) {f : FuncId} {args : Array Value} (ho : l[k]? = some o) (hk : kind3 o = 3) (hw : Region.wanted o (yielded l.toArray a.tmps) = true) (hsub : ∀ v w, C' v w → C w)
    (hrun : ∀ w, (execOp a.eval o).run P w = .ok (.enter f args) w) (hc : ∀ w, C w → Calls P f args w fun e w'' => ∃ v, e = .returned v ∧ V v ∧ C' v w'') (h : ∀ v, V v → wpO3 P l.toArray Q r (C' v) (a.put o.dst v)) : wpO3 P l.toArray Q (k :: r) C a := wpO3_call V C' (at_list ho) hk hw hsub hrun hc h
theorem wpO3_loadL {t : TypeId} {x : Operand} {ad : Addr} (v : Value) (ho : l[k]? = some o) (hop : o.op = .load t x) (hw : Region.wanted o (yielded l.toArray a.tmps) = true) (hx : a.eval x = .pointer (some ad))
    (hrun : ∀ w, C w → (Instr.loadAt t (.pointer (some ad))).run P w = .ok v w) (h : wpO3 P l.toArray Q r C (a.put o.dst v)) : wpO3 P l.toArray Q (k :: r) C a := wpO3_load1 v (at_list ho) hop hw hx hrun h
end
end
end Go.Proofs.Ytfdbcfkjablnkaa

namespace Go.Proofs.Ytfdbcfkjablnkaa
section
variable {P : Program} {ops : Array Oper} {md : Region.Mode} {I : World → Prop}

/-- one operation, in a class of worlds -/
def Step4 (P : Program) (ops : Array Oper) (I : World → Prop) (o : Oper) (a : Act) (C : World → Prop) (K : (World → Prop) → Act → Prop) : Prop :=
  (kind3 o = 0 ∧ ∃ v, YieldsIn P ops (fun _ => True) o v a ∧ K C (a.put o.dst v)) ∨
  (kind3 o = 1 ∧ ∃ v, YieldsIn P ops I o v a ∧ K C (a.put o.dst v)) ∨
  (kind3 o = 2 ∧ ∃ v C', (∀ w, C' w → I w) ∧ StepsIn P ops C C' o v a ∧ K C' (a.put o.dst v)) ∨
  (kind3 o = 3 ∧ ((Region.wanted o (yielded ops a.tmps) = false ∧ K C (a.put o.dst undef)) ∨ (Region.wanted o (yielded ops a.tmps) = true ∧ ∃ (V : Value → Prop) (C' : Value → World → Prop), (∀ v w, C' v w → I w) ∧ (∀ w, C w → famUpon P V C' ((execOp a.eval o).run P w)) ∧ ∀ v, V v → K (C' v) (a.put o.dst v))))

def wpAny4 (P : Program) (md : Region.Mode) (ops : Array Oper) (I : World → Prop) (Q : (World → Prop) → Act → Prop) : Nat → Array Bool → (World → Prop) → Act → Prop
  | 0, listed, C, a => Region.ready md ops listed = [] ∧ Q C a
  | fuel + 1, listed, C, a =>
    (Region.ready md ops listed = [] → Q C a) ∧
    ∀ i ∈ Region.ready md ops listed, ∀ o, ops[i]? = some o → Step4 P ops I o a C (wpAny4 P md ops I Q fuel (listed.setIfInBounds i true))
theorem Step4.wpOp {C : World → Prop} {i : Nat} {o : Oper} {a : Act} {K : (World → Prop) → Act → Prop} {K' : Act → World → Prop} {Q' : Exit → Act → World → Prop} {w : World} (hi : ops[i]? = some o) (h : Step4 P ops I o a C K) (hC : C w) (hCI : ∀ w, C w → I w) (hK : ∀ (C' : World → Prop) a' w', C' w' → (∀ w, C' w → I w) → K C' a' → K' a' w') : wpOp P ops Q' i K' a w := by
  rcases h with ⟨hk, v, hy, hn⟩ | ⟨hk, v, hy, hn⟩ | ⟨hk, v, C', hI, hy, hn⟩ | ⟨hk, h⟩
  · exact OpR.wpOp (C := C) (C' := C) hi (.inl ⟨kind3_pure hk, rfl, hy⟩) hC fun w' hw' => hK C _ w' hw' hCI hn
  · have hk1 : kindOf o = 1 := by
      obtain ⟨t, x, ho⟩ := kind3_load hk
      simp [kindOf, pureOp, ho]
    exact OpR.wpOp (C := C) (C' := C) hi (.inr (.inl ⟨hk1, rfl, yields_load hk hy hCI⟩)) hC fun w' hw' => hK C _ w' hw' hCI hn
  · have hk2 : kindOf o = 2 := by
      unfold kind3 at hk
      unfold kindOf
      split at hk
      · simp at hk
      · rename_i hp
        rw [if_neg hp]
        split at hk
        · simp at hk
        · rename_i heq; simp [heq]
        · simp at hk
    exact OpR.wpOp (C := C) (C' := C') hi (.inr (.inr ⟨hk2, hy⟩)) hC fun w' hw' => hK C' _ w' hw' hI hn
  · unfold Go.wpOp
    simp only [hi]
    rcases h with ⟨hw, hn⟩ | ⟨hw, V, C', hI, hv, hn⟩
    · simp only [hw, Bool.false_eq_true, if_false]
      exact hK C _ w hC hCI hn
    · simp only [hw, if_true]
      left
      have h1 := hv w hC
      unfold Oper.wp
      generalize (execOp a.eval o).run P w = r at h1
      cases r with
      | ok n w' =>
        cases n <;> simp only [famUpon] at h1 <;> simp only [Oper.upon]
        case value u => exact hK (C' u) _ w' h1.2 (hI u) (hn u h1.1)
        case enter f args =>
          refine h1.mono fun e w'' ⟨v, he, hV, hc⟩ => ?_
          subst he
          exact hK (C' v) _ w'' hc (hI v) (hn v hV)
      | halt x w' => simp only [famUpon] at h1
theorem wpAny_of_4 {Q : (World → Prop) → Act → Prop} {Q' : Exit → Act → World → Prop} (hQ : ∀ (C : World → Prop) a w, C w → Q C a → Q' .normal a w) : ∀ (fuel : Nat) (listed : Array Bool) (C : World → Prop) (a : Act) (w : World), C w → (∀ w, C w → I w) →
    wpAny4 P md ops I Q fuel listed C a → wpAny P md ops Q' fuel listed a w
  | 0, _, _, _, _, hw, _, h => ⟨h.1, hQ _ _ _ hw h.2⟩
  | fuel + 1, _, _, _, _, hw, hI, h => ⟨fun h0 => hQ _ _ _ hw (h.1 h0), fun i hi => by
      obtain ⟨_, o, ho, _⟩ := mem_ready.1 hi
      exact (h.2 i hi o ho).wpOp ho hw hI fun C' a' w' hw' hI' hn => wpAny_of_4 hQ fuel _ C' a' w' hw' hI' hn⟩
/-- an operation apart: its step is the same whether another's value is in its slot or not -/
theorem Step4.put {oi oj : Oper} {v : Value} {a : Act} {C : World → Prop} {K1 K2 : (World → Prop) → Act → Prop} (hap : oi.apart ops oj = true) (hsj : ∀ cs b, oj.op ≠ .select cs b)
    (hK : ∀ (C' : World → Prop) u, K1 C' ((a.put oi.dst v).put oj.dst u) → K2 C' (a.put oj.dst u)) (h : Step4 P ops I oj (a.put oi.dst v) C K1) : Step4 P ops I oj a C K2 := by
  obtain ⟨p1, p2, p3⟩ := Oper.apart_spec hap
  have he := execOp_put oj hsj a oi.dst v p1
  have hw := wanted_put oj a oi.dst v p1
  rcases h with ⟨hk, u, hy, hn⟩ | ⟨hk, u, hy, hn⟩ | ⟨hk, u, C', hI, hy, hn⟩ | ⟨hk, h⟩
  · exact .inl ⟨hk, u, hy.of_same he.symm hw.symm, hK C u hn⟩
  · exact .inr (.inl ⟨hk, u, hy.of_same he.symm hw.symm, hK C u hn⟩)
  · refine .inr (.inr (.inl ⟨hk, u, C', hI, ?_, hK C' u hn⟩))
    unfold StepsIn at hy ⊢
    rwa [he, hw] at hy
  · refine .inr (.inr (.inr ⟨hk, ?_⟩))
    rcases h with ⟨hwf, hn⟩ | ⟨hwt, V, C', hsub, hv, hn⟩
    · exact .inl ⟨by rw [← hw]; exact hwf, hK C undef hn⟩
    · exact .inr ⟨by rw [← hw]; exact hwt, V, C', hsub, by rwa [he] at hv, fun u hu => hK (C' u) u (hn u hu)⟩
/-! as XQ3's, but a load is free of stores too: they stay in I -/
def free4 (md : Region.Mode) (ops : Array Oper) (listed : Array Bool) (k : Nat) : Bool :=
  let U := blocked md ops k
  U.getD k false && U.size == ops.size &&
  match ops[k]? with
  | none => false
  | some ok => (List.range ops.size).all fun j =>
    match ops[j]? with
    | some oj =>
      if U.getD j false then !listed.getD j false && (j == k || oj.after.any (fun e => Region.binds md e && U.getD e.on false))
      else listed.getD j true || (ok.apart ops oj && (kind3 ok == 0 || kind3 ok == 1))
    | none => true
structure Free4 (md : Region.Mode) (ops : Array Oper) (listed : Array Bool) (i : Nat) (oi : Oper) (U : Array Bool) : Prop where
  size : U.size = ops.size
  own : U.getD i false = true
  wait : ∀ j oj, ops[j]? = some oj → U.getD j false = true → j ≠ i → ∃ e ∈ oj.after, Region.binds md e = true ∧ U.getD e.on false = true
  un : ∀ j, U.getD j false = true → listed.getD j false = false
  free : ∀ j oj, ops[j]? = some oj → U.getD j false = false → listed.getD j true = false → oi.apart ops oj = true ∧ (kind3 oi = 0 ∨ kind3 oi = 1)
theorem free4_spec {i : Nat} {oi : Oper} {listed : Array Bool} (hi : ops[i]? = some oi) (h : free4 md ops listed i = true) : Free4 md ops listed i oi (blocked md ops i) := by
  simp only [free4, hi, List.all_eq_true, List.mem_range, Bool.and_eq_true, beq_iff_eq] at h
  obtain ⟨⟨hown, hsz⟩, h⟩ := h
  have at_ : ∀ j oj, ops[j]? = some oj → (if (blocked md ops i).getD j false = true then (!listed.getD j false && (j == i || oj.after.any (fun e => Region.binds md e && (blocked md ops i).getD e.on false))) = true
      else (listed.getD j true || (oi.apart ops oj && (kind3 oi == 0 || kind3 oi == 1))) = true) := fun j oj hj => by
    have h1 := h j (Array.getElem?_eq_some_iff.1 hj).1
    simp only [hj] at h1
    split at h1 <;> rename_i hu
    · rw [if_pos hu]; exact h1
    · rw [if_neg hu]; exact h1
  refine ⟨hsz, hown, fun j oj hj hu hne => ?_, fun j hu => ?_, fun j oj hj hu hun => ?_⟩
  · have h1 := at_ j oj hj
    rw [if_pos hu] at h1
    simp only [Bool.and_eq_true, Bool.or_eq_true, beq_iff_eq, hne, false_or] at h1
    obtain ⟨e, he, hb⟩ := Array.any_eq_true'.1 h1.2
    simp only [Bool.and_eq_true] at hb
    exact ⟨e, he, hb.1, hb.2⟩
  · have hlt : j < ops.size := by
      rw [← hsz]
      rcases Nat.lt_or_ge j (blocked md ops i).size with h' | h'
      · exact h'
      · simp [Array.getElem?_eq_none h'] at hu
    have h1 := at_ j _ (Array.getElem?_eq_getElem hlt)
    rw [if_pos hu] at h1
    simp only [Bool.and_eq_true, Bool.not_eq_true'] at h1
    exact h1.1
  · have h1 := at_ j oj hj
    rw [if_neg (by rw [hu]; exact Bool.false_ne_true)] at h1
    simp only [hun, Bool.or_eq_true, Bool.false_eq_true, false_or, Bool.and_eq_true, beq_iff_eq] at h1
    exact h1
theorem Free4.ready {i j : Nat} {oi oj : Oper} {listed U : Array Bool} (h : Free4 md ops listed i oi U) (hj : ops[j]? = some oj) (hji : j ≠ i) (hall : ∀ e ∈ oj.after, Region.binds md e = true → listed.getD e.on false = true) : U.getD j false = false := by
  cases hu : U.getD j false with
  | false => rfl
  | true =>
    obtain ⟨e, he, hb, hue⟩ := h.wait j oj hj hu hji
    have h1 := hall e he hb
    rw [h.un e.on hue] at h1
    cases h1
theorem Free4.set {i j : Nat} {oi : Oper} {listed U : Array Bool} (h : Free4 md ops listed i oi U) (hu : U.getD j false = false) : Free4 md ops (listed.setIfInBounds j true) i oi U := by
  refine ⟨h.size, h.own, h.wait, fun k hk => ?_, fun k ok hk hku hun => h.free k ok hk hku ?_⟩
  · have hne : j ≠ k := fun e => by subst e; rw [hu] at hk; cases hk
    rw [getD_set_ne false hne]; exact h.un k hk
  · by_cases hjk : j = k
    · subst hjk
      rcases Nat.lt_or_ge j listed.size with h' | h'
      · simp [h'] at hun
      · simp [Array.getElem?_eq_none (show (listed.setIfInBounds j true).size ≤ j by simpa using h')] at hun
    · rw [getD_set_ne true hjk] at hun; exact hun
/-- may the operations be walked in this order? -/
def orderB4 (md : Region.Mode) (ops : Array Oper) : List Nat → Array Bool → Bool
  | [], listed => (Region.ready md ops listed).isEmpty
  | k :: r, listed => (Region.ready md ops listed).contains k && free4 md ops listed k && orderB4 md ops r (listed.setIfInBounds k true)
def order4 (md : Region.Mode) (ops : Array Oper) (ks : List Nat) : Bool := Region.noSelect ops && ks.length == ops.size && orderB4 md ops ks (Array.replicate ops.size false)
theorem wpAny4_first {Q : (World → Prop) → Act → Prop} {i : Nat} {oi : Oper} (hi : ops[i]? = some oi) (hsel : ∀ (j : Nat) (o : Oper) cs b, ops[j]? = some o → o.op ≠ .select cs b) :
    ∀ (fuel : Nat) (listed : Array Bool) (C : World → Prop) (a : Act) (U : Array Bool), Free4 md ops listed i oi U → i ∈ Region.ready md ops listed →
      Step4 P ops I oi a C (wpAny4 P md ops I Q fuel (listed.setIfInBounds i true)) → wpAny4 P md ops I Q (fuel + 1) listed C a := by
  intro fuel
  induction fuel with
  | zero =>
    intro listed C a U hfree hr H
    refine ⟨fun h => (by rw [h] at hr; cases hr), fun j hj o ho => ?_⟩
    by_cases hji : j = i
    · subst hji
      have : o = oi := Option.some.inj (ho.symm.trans hi)
      subst this
      exact H
    · exfalso
      have hmono := ready_mono hj hji
      obtain ⟨hjun, oj', hoj', hall⟩ := mem_ready.1 hj
      have hju := hfree.ready hoj' hji hall
      obtain ⟨_, hkind⟩ := hfree.free j oj' hoj' hju hjun
      have nil : ∀ {C' : World → Prop} {a' : Act}, wpAny4 P md ops I Q 0 (listed.setIfInBounds i true) C' a' → False := fun h => by
        rw [h.1] at hmono; cases hmono
      rcases H with ⟨_, _, _, hn⟩ | ⟨_, _, _, hn⟩ | ⟨hk, _⟩ | ⟨hk, _⟩
      · exact nil hn
      · exact nil hn
      · rcases hkind with h | h <;> rw [hk] at h <;> simp at h
      · rcases hkind with h | h <;> rw [hk] at h <;> simp at h
  | succ fuel ih =>
    intro listed C a U hfree hr H
    refine ⟨fun h => (by rw [h] at hr; cases hr), fun j hj oj hoj => ?_⟩
    by_cases hji : j = i
    · subst hji
      have : oj = oi := Option.some.inj (hoj.symm.trans hi)
      subst this
      exact H
    · obtain ⟨hjun, oj', hoj', hall⟩ := mem_ready.1 hj
      have : oj' = oj := Option.some.inj (hoj'.symm.trans hoj)
      subst this
      have hju := hfree.ready hoj' hji hall
      obtain ⟨hap, hkind⟩ := hfree.free j oj' hoj hju hjun
      obtain ⟨p1, p2, p3⟩ := Oper.apart_spec hap
      have hsi : ∀ cs b, oi.op ≠ .select cs b := fun cs b => hsel i oi cs b hi
      have hsj : ∀ cs b, oj'.op ≠ .select cs b := fun cs b => hsel j oj' cs b hoj
      have hfree' := hfree.set hju
      have hr' := ready_mono hr (Ne.symm hji)
      have next : ∀ v, (kind3 oi = 0 ∧ YieldsIn P ops (fun _ => True) oi v a ∨ kind3 oi = 1 ∧ YieldsIn P ops I oi v a) → wpAny4 P md ops I Q (fuel + 1) (listed.setIfInBounds i true) C (a.put oi.dst v) → Step4 P ops I oj' a C (wpAny4 P md ops I Q (fuel + 1) (listed.setIfInBounds j true)) := by
        intro v hy hn
        refine Step4.put (v := v) hap hsj (fun C' u h3 => ih _ C' _ U hfree' hr' ?_) (hn.2 j (ready_mono hj hji) oj' hoj)
        have h4 : wpAny4 P md ops I Q fuel ((listed.setIfInBounds j true).setIfInBounds i true) C' ((a.put oj'.dst u).put oi.dst v) := by
          rw [Array.setIfInBounds_comm _ _ hji]
          rw [Act.put_comm a v u p2] at h3
          exact h3
        have hs1 := execOp_put oi hsi a oj'.dst u p3
        have hs2 := wanted_put oi a oj'.dst u p3
        rcases hy with ⟨hk, hy⟩ | ⟨hk, hy⟩
        · exact .inl ⟨hk, v, hy.of_same hs1 hs2, h4⟩
        · exact .inr (.inl ⟨hk, v, hy.of_same hs1 hs2, h4⟩)
      rcases H with ⟨hk, v, hy, hn⟩ | ⟨hk, v, hy, hn⟩ | ⟨hk, _⟩ | ⟨hk, _⟩
      · exact next v (.inl ⟨hk, hy⟩) hn
      · exact next v (.inr ⟨hk, hy⟩) hn
      · rcases hkind with h | h <;> rw [hk] at h <;> simp at h
      · rcases hkind with h | h <;> rw [hk] at h <;> simp at h

/-- the walk in that order -/
def wpO4 (P : Program) (ops : Array Oper) (I : World → Prop) (Q : (World → Prop) → Act → Prop) : List Nat → (World → Prop) → Act → Prop
  | [], C, a => Q C a
  | k :: r, C, a => ∃ o, ops[k]? = some o ∧ Step4 P ops I o a C (wpO4 P ops I Q r)
theorem Step4.mono {o : Oper} {a : Act} {C : World → Prop} {K K' : (World → Prop) → Act → Prop} (h : Step4 P ops I o a C K) (hK : ∀ C a, K C a → K' C a) : Step4 P ops I o a C K' := by
  rcases h with ⟨hk, v, hy, hn⟩ | ⟨hk, v, hy, hn⟩ | ⟨hk, v, C', hI, hy, hn⟩ | ⟨hk, h⟩
  · exact .inl ⟨hk, v, hy, hK _ _ hn⟩
  · exact .inr (.inl ⟨hk, v, hy, hK _ _ hn⟩)
  · exact .inr (.inr (.inl ⟨hk, v, C', hI, hy, hK _ _ hn⟩))
  · refine .inr (.inr (.inr ⟨hk, ?_⟩))
    rcases h with ⟨hw, hn⟩ | ⟨hw, V, C', hs, hv, hn⟩
    · exact .inl ⟨hw, hK _ _ hn⟩
    · exact .inr ⟨hw, V, C', hs, hv, fun v hV => hK _ _ (hn v hV)⟩
theorem wpAny4_order {Q : (World → Prop) → Act → Prop} (hs : Region.noSelect ops = true) : ∀ (ks : List Nat) (listed : Array Bool) (C : World → Prop) (a : Act),
    orderB4 md ops ks listed = true → wpO4 P ops I Q ks C a → wpAny4 P md ops I Q ks.length listed C a
  | [], _, _, _, hB, h => ⟨by simpa [orderB4] using hB, h⟩
  | k :: r, listed, C, a, hB, h => by
    obtain ⟨o, ho, h⟩ := h
    simp only [orderB4, Bool.and_eq_true] at hB
    obtain ⟨⟨hr, hf⟩, hB'⟩ := hB
    exact wpAny4_first ho (Region.noSelect_spec hs) r.length listed C a _ (free4_spec ho hf) (by simpa using hr) (h.mono fun C' a' hn => wpAny4_order hs r _ C' a' hB' hn)
theorem wp_region_order4 {id : Nat} {Q : Exit → Act → World → Prop} {a : Act} {w : World} {l : List Oper} (ks : List Nat) (I : World → Prop) {C : World → Prop} (hm : P.follows .mixedOrders = true) (hB : order4 .any l.toArray ks = true) (hC : C w.drew) (hI : ∀ w, C w → I w)
    (h : wpO4 P l.toArray I (fun C a' => ∀ w', C w' → Q .normal a' w') ks C a) : (Code.region id l.toArray true).wp P Q a w := by
  simp only [order4, Bool.and_eq_true, beq_iff_eq] at hB
  refine wp_region_any hm (wpAny_of_4 (I := I) (Q := fun C a' => ∀ w', C w' → Q .normal a' w') (fun C a w' hw' h => h w' hw') _ _ C _ _ hC hI ?_)
  have := wpAny4_order (md := .any) hB.1.1 ks (Array.replicate l.toArray.size false) C a hB.2 h
  rwa [hB.1.2] at this
end
/-! one operation of the walk -/
section
variable {P : Program} {I : World → Prop} {l : List Oper} {Q : (World → Prop) → Act → Prop} {o : Oper} {k : Nat} {r : List Nat} {C : World → Prop} {a : Act}
theorem wpO4_pure (ho : l[k]? = some o) (hk : kind3 o = 0) (h : wpQuiet P l.toArray (fun _ => True) (fun a' => wpO4 P l.toArray I Q r C a') [o] a) : wpO4 P l.toArray I Q (k :: r) C a :=
  ⟨o, at_list ho, .inl ⟨hk, yields_of_quiet h⟩⟩
theorem wpO4_load {t : TypeId} {x : Operand} {ad : Addr} (v : Value) (ho : l[k]? = some o) (hop : o.op = .load t x) (hw : Region.wanted o (yielded l.toArray a.tmps) = true) (hx : a.eval x = .pointer (some ad))
    (hrun : ∀ w, I w → (Instr.loadAt t (.pointer (some ad))).run P w = .ok v w) (h : wpO4 P l.toArray I Q r C (a.put o.dst v)) : wpO4 P l.toArray I Q (k :: r) C a := by
  refine ⟨o, at_list ho, .inr (.inl ⟨by simp [kind3, pureOp, hop], v, .inl ⟨hw, fun w hC => ?_⟩, h⟩)⟩
  unfold Oper.quietAt execOp
  simp only [hop, hx]
  rw [Sem.run_bind, hrun w hC]
  exact ⟨rfl, rfl⟩
theorem wpO4_call (V : Value → Prop) (C' : Value → World → Prop) {f : FuncId} {args : Array Value} (ho : l[k]? = some o) (hk : kind3 o = 3) (hw : Region.wanted o (yielded l.toArray a.tmps) = true) (hsub : ∀ v w, C' v w → I w)
    (hrun : ∀ w, (execOp a.eval o).run P w = .ok (.enter f args) w) (hc : ∀ w, C w → Calls P f args w fun e w'' => ∃ v, e = .returned v ∧ V v ∧ C' v w'') (h : ∀ v, V v → wpO4 P l.toArray I Q r (C' v) (a.put o.dst v)) : wpO4 P l.toArray I Q (k :: r) C a :=
  ⟨o, at_list ho, .inr (.inr (.inr ⟨hk, .inr ⟨hw, V, C', hsub, fun w hC => by rw [hrun w]; exact hc w hC, h⟩⟩))⟩
theorem wpO4_skip (ho : l[k]? = some o) (hk : kind3 o = 3) (hw : Region.wanted o (yielded l.toArray a.tmps) = false) (h : wpO4 P l.toArray I Q r C (a.put o.dst undef)) : wpO4 P l.toArray I Q (k :: r) C a :=
  ⟨o, at_list ho, .inr (.inr (.inr ⟨hk, .inl ⟨hw, h⟩⟩))⟩
theorem wpO4_store (C' : World → Prop) {t : TypeId} {x y : Operand} (ho : l[k]? = some o) (hop : o.op = .store t x y) (hd : o.dst = none) (hg : o.guard = none) (ad : Addr) (v : Value) (hx : a.eval x = .pointer (some ad)) (hy : a.eval y = v) (hsub : ∀ w, C' w → I w)
    (hrun : ∀ w, C w → ∃ w', (Instr.storeAt t (.pointer (some ad)) v).run P w = .ok () w' ∧ C' w') (h : wpO4 P l.toArray I Q r C' a) : wpO4 P l.toArray I Q (k :: r) C a := by
  refine ⟨o, at_list ho, .inr (.inr (.inl ⟨by simp [kind3, pureOp, hop], undef, C', hsub, .inl ⟨by simp [Region.wanted, hg], fun w hw => ?_⟩, ?_⟩))⟩
  · obtain ⟨w', hr, hc⟩ := hrun w hw
    unfold execOp
    simp only [hop, hx, hy]
    rw [Sem.run_bind, hr]
    exact ⟨rfl, hc⟩
  · rw [hd]; exact h
end
end Go.Proofs.Ytfdbcfkjablnkaa

namespace Go.Proofs.Ytfdbcfkjablnkaa
section
variable {P : Program} {I : World → Prop} {l : List Oper} {Q : (World → Prop) → Act → Prop} {o : Oper} {k : Nat} {r : List Nat} {C : World → Prop} {a : Act}
/-- an operation that yields a value and leaves the world -/
theorem wpO4_val (v : Value) (ho : l[k]? = some o) (hk : kind3 o = 3) (hw : Region.wanted o (yielded l.toArray a.tmps) = true) (hsub : ∀ w, C w → I w)
    (hrun : ∀ w, (execOp a.eval o).run P w = .ok (.value v) w) (h : wpO4 P l.toArray I Q r C (a.put o.dst v)) : wpO4 P l.toArray I Q (k :: r) C a :=
  ⟨o, at_list ho, .inr (.inr (.inr ⟨hk, .inr ⟨hw, fun u => u = v, fun _ w => C w, fun _ w h => hsub w h, fun w hC => by rw [hrun w]; exact ⟨rfl, hC⟩, fun u hu => by subst hu; exact h⟩⟩))⟩
theorem wpO4_nil {x : Operand} {ad : Addr} (ho : l[k]? = some o) (hop : o.op = .nilCheck x) (hw : Region.wanted o (yielded l.toArray a.tmps) = true) (hx : a.eval x = .pointer (some ad)) (hsub : ∀ w, C w → I w)
    (h : wpO4 P l.toArray I Q r C (a.put o.dst (.pointer (some ad)))) : wpO4 P l.toArray I Q (k :: r) C a :=
  wpO4_val _ ho (by simp [kind3, pureOp, hop]) hw hsub (fun w => by simp only [execOp, hop, hx]; rfl) h
end
end Go.Proofs.Ytfdbcfkjablnkaa

namespace Go.Proofs.Ytfdbcfkjablnkaa
open Go.RowKit Go.Shelf
set_option maxRecDepth 100000

theorem out_store (W : World) (g : Nat) (old cs : Array Value) (h : W.heap[g]? = some (.cells old 39 (0, 0))) (ho : old.size = 4) (hc : cs.size = 4) (h1 : cs.all (·.oneCell') = true) :
    (Instr.storeAt 39 (.pointer (some ⟨g, 0, none⟩)) (.agg cs)).run Try.prog W = .ok () (W.setRow g cs) := by
  simp only [Instr.storeAt, Instr.sureAddr, Sem.run_bind, Sem.run_pure, Result.andThen]
  exact run_storeVar_row W g 39 39 old cs h (by rw [hc]; exact outInfo) (by omega) h1
/-- why a frame isn't for the table -/
def jwhy (t : Int) (q : Nat) (f : Fr) : Int := if chk f.v f.k f.i f.c ≠ 0 then chk f.v f.k f.i f.c else Wn.look t q f.s
/-- what a joiner's Take does -/
def jtake (r : Nat) (t : Int) (q : Nat) (T : List Tb.Ms) (f : Fr) : Tb.Res := if jwhy t q f ≠ 0 then ⟨jwhy t q f, T, .no⟩ else Tb.put r T f
/-- a new variable's box -/
def FOut (H : Nat) (p : Tmp) (x : Value) (W : World) : Prop := p = 5 ∧ ∃ g, x = .pointer (some ⟨g, 0, none⟩) ∧ H ≤ g ∧ W.heap[g]? = some (.cells (outC none 0 0 false false 0) 39 (0, 0))
theorem FOut.later {H : Nat} {p : Tmp} {x : Value} {W W' : World} (h : FOut H p x W) (hb : Below W.heap.size W W') : FOut H p x W' := by
  obtain ⟨h, g, e, hg, hc⟩ := h
  exact ⟨h, g, e, hg, (hb.block g (Array.getElem?_eq_some_iff.1 hc).1).trans hc⟩
section
variable {w w' : World} {S S' : Nat → Prop} {bj bw b r : Nat} {t : Int} {q : Nat} {T : List Tb.Ms}
set_option maxHeartbeats 8000000 in
theorem jcheck_any (h : JAt w S bj bw b r t q T) (f : Fr) (hf : 0 ≤ f.s ∧ f.s ≤ 4294967295) :
    Calls Try.prog 19 #[.pointer (some ⟨bj, 0, none⟩), frV f.v f.k f.s f.i f.c (.slice f.a f.zs.length f.cp)] w fun e w' => e = .returned (.int .i64 (jwhy t q f)) ∧ Below w.heap.size w w' := by
  obtain ⟨w1, hw1⟩ : ∃ w1, w.alloc (.cells (frC f.v f.k f.s f.i f.c (.slice none 0 0)) 35) = w1 := ⟨_, rfl⟩
  have hb1 : Below w.heap.size w w1 := by rw [← hw1]; exact (Below.refl _ w).alloc (Nat.le_refl _) _
  have hx1 : w1.heap[w.heap.size]? = some (.cells (frC f.v f.k f.s f.i f.c (.slice none 0 0)) 35 (0, 0)) := by rw [← hw1]; exact World.alloc_heap_new _ _
  have HW1 := Lib.hid hw1
  have HJ1 := Lib.hid (h.below hb1)
  clear hw1
  obtain ⟨R, hR⟩ : ∃ R, jwhy t q f = R := ⟨_, rfl⟩
  rw [hR]
  have HR := Lib.hid hR
  clear hR
  unfold frV
  simp only [frC] at *
  go_enter Try.func19, Try.ntmps19
  go_wp2_with fail
  obtain ⟨c0, c1⟩ := HJ1.out.cells
  have hbj := HJ1.out.size
  have hfr : w.heap.size < w1.heap.size := (Array.getElem?_eq_some_iff.1 hx1).1
  have LT : ∀ V, Below w1.heap.size w1 V → (Instr.loadAt 53 (.pointer (some ⟨bj, 1, none⟩))).run Try.prog V = .ok (.pointer (some ⟨b, 0, none⟩)) V := fun V hV => by
    obtain ⟨_, d1⟩ := (HJ1.out.below hV).cells
    simp [Instr.loadAt, go_sem, d1]
  have LF : ∀ V, Below w1.heap.size w1 V → (Instr.loadAt 35 (.pointer (some ⟨w.heap.size, 0, none⟩))).run Try.prog V = .ok (.agg #[.int .i64 f.v, .int .i64 f.k, .int .u32 f.s, .int .i64 f.i, .int .i64 f.c, .slice none 0 0]) V := fun V hV => by
    obtain ⟨d0, d1, d2, d3, d4, d5⟩ := fr_block (v := f.v) (k := f.k) (s := f.s) (i := f.i) (c := f.c) (row_stays hx1 hV)
    simp [Instr.loadAt, go_sem, d0, d1, d2, d3, d4, d5]
  have KP := Lib.hid (fun V => tput_short b ⟨f.v, f.k, f.s, f.i, f.c, none, 0, []⟩ hf rfl V)
  obtain ⟨E, hE⟩ : ∃ E, (if chk f.v f.k f.i f.c ≠ 0 then chk f.v f.k f.i f.c else 13) = E := ⟨_, rfl⟩
  unfold frV outV at KP
  simp only [frC, outC, List.length_nil, hE] at KP
  rw [HW1.out]
  refine wp_region_FL 30 6 [false, false, false, false, false, false, false, false, true, false] [5] (FOut w1.heap.size) (fun V => Below w1.heap.size w1 V) (fun xs V V' => ∃ g, xs 5 = .pointer (some ⟨g, 0, none⟩) ∧ V' = V.setRow g (outC none 0 0 false false 0)) (by kernel_rfl) (by kernel_rfl) (by rfl) (by kernel_rfl) (by rfl) (by simp) (fun W W' h hb => h.trans (hb.mono h.size)) (fun q x W W' h hb => h.later hb) (Below.refl _ _).drew ?_
  repeat (refine wpFL_step (wpF_pure rfl rfl ?_); go_big_quiet_step (fail); refine wpQuiet_nil ?_; simp only [wpF])
  refine wpFL_step (wpF_nil (ad := ⟨bj, 0, none⟩) rfl (by rfl) (by rfl) (by rfl) ?_)
  simp only [wpF, Act.put, List.setIfInBounds_toArray, List.set_cons_succ, List.set_cons_zero]
  repeat (refine wpFL_step (wpF_pure rfl rfl ?_); go_big_quiet_step (fail); refine wpQuiet_nil ?_; simp only [wpF])
  refine wpFL_step (wpF_load (.pointer (some ⟨b, 0, none⟩)) rfl (by rfl) (by rfl) (by rfl) LT ?_)
  simp only [wpF, Act.put, List.setIfInBounds_toArray, List.set_cons_succ, List.set_cons_zero]
  refine wpFL_step (wpF_load (.agg #[.int .i64 f.v, .int .i64 f.k, .int .u32 f.s, .int .i64 f.i, .int .i64 f.c, .slice none 0 0]) rfl (by rfl) (by rfl) (by rfl) LF ?_)
  simp only [wpF, Act.put, List.setIfInBounds_toArray, List.set_cons_succ, List.set_cons_zero]
  refine wpFL_step (wpF_call (f := 20) (args := #[.pointer (some ⟨b, 0, none⟩), .agg #[.int .i64 f.v, .int .i64 f.k, .int .u32 f.s, .int .i64 f.i, .int .i64 f.c, .slice none 0 0]]) (.tuple #[.agg #[.slice none 0 0, .bool false, .bool false, .int .u32 0], .int .i64 E]) rfl rfl (fun x => by first | rfl | (simp [go_sem]; done)) (fun V _ => KP.out V) ?_)
  simp only [wpF, Act.put, List.setIfInBounds_toArray, List.set_cons_succ, List.set_cons_zero]
  repeat (refine wpFL_step (wpF_pure rfl rfl ?_); go_big_quiet_step (fail); refine wpQuiet_nil ?_; simp only [wpF])
  refine wpFL_late (wpFS_pure rfl rfl ?_)
  go_big_quiet_step (fail)
  refine wpQuiet_nil ?_
  simp only [wpFS]
  refine wpFL_step (wpF_src 5 (by simp) rfl (by kernel_rfl) (by kernel_rfl) (fun V hV => ⟨.pointer (some ⟨V.heap.size, 0, none⟩), V.alloc (.cells (outC none 0 0 false false 0) 39), ?_, ⟨rfl, _, rfl, hV.size, World.alloc_heap_new _ _⟩, (Below.refl _ _).alloc (Nat.le_refl _) _⟩) ?_)
  · have hzz : (zeroValue 39).run Try.prog V = .ok (.agg (outC none 0 0 false false 0)) V := by kernel_rfl
    simp [execOp, go_sem, hzz]
    try rfl
  simp only [wpF, Act.put, List.setIfInBounds_toArray, List.set_cons_succ, List.set_cons_zero]
  refine wpFL_store (wpFS_storeX rfl rfl rfl (fun xs V hV hx => ?_) ?_)
  · obtain ⟨_, g, e4, hg, hcg⟩ := hx 5 (by simp)
    refine ⟨_, ?_, g, e4, rfl⟩
    simp only [fill, Act.put, List.setIfInBounds_toArray, List.set_cons_succ, List.set_cons_zero, e4]
    exact out_store V g _ (outC none 0 0 false false 0) hcg rfl rfl (out_one ..)
  refine wpFS_pure rfl rfl ?_
  go_big_quiet_step (fail)
  refine wpQuiet_nil ?_
  simp only [wpFS]
  rintro xs V V' hV hx ⟨g, e4, rfl⟩
  obtain ⟨_, g', e4', hg, hcg⟩ := hx 5 (by simp)
  obtain rfl : g = g' := by rw [e4] at e4'; injection e4' with e4'; injection e4' with e4'; injection e4'
  simp only [fill, Act.put, List.setIfInBounds_toArray, List.set_cons_succ, List.set_cons_zero, e4]
  have hoF : Off (fun k => k = g) V (V.setRow g (outC none 0 0 false false 0)) := Off.setRow (S := fun k => k = g) (Off.refl _ V) rfl _
  have hbF : Below w1.heap.size w1 (V.setRow g (outC none 0 0 false false 0)) := hV.trans (hoF.below (fun k hk => by omega) hV.size)
  generalize V.setRow g (outC none 0 0 false false 0) = Wf at *
  clear hx e4 e4' LT LF hV hcg hoF KP
  have HJF := Lib.hid (HJ1.out.below hbF)
  have hxF := row_stays hx1 hbF
  have hbw := hb1.trans (hbF.mono hb1.size)
  have HBW := Lib.hid hbw
  have hfr2 : w.heap.size < Wf.heap.size := (Array.getElem?_eq_some_iff.1 hxF).1
  clear HJ1 hx1 hbF hb1 hbw HW1 c0 c1 hbj hfr hg
  by_cases hc : chk f.v f.k f.i f.c = 0
  · have hw : jwhy t q f = Wn.look t q f.s := if_neg (by simp [hc])
    have he : E = 13 := by rw [← hE, if_neg (by simp [hc])]
    have hRL : Wn.look t q f.s = R := by rw [← HR.out, hw]
    subst he
    clear HR hw
    have KL' := fun (V : World) (hV : Below Wf.heap.size Wf V) => wLook_any (HJF.out.below hV).win f.s HJF.out.top ⟨hf.1, by omega⟩ HJF.out.bits
    rw [hRL] at KL'
    have KL := Lib.hid KL'
    clear KL' hRL
    have LW : ∀ V, Below Wf.heap.size Wf V → (Instr.loadAt 51 (.pointer (some ⟨bj, 0, none⟩))).run Try.prog V = .ok (.pointer (some ⟨bw, 0, none⟩)) V := fun V hV => by
      obtain ⟨d0, _⟩ := (HJF.out.below hV).cells
      simp [Instr.loadAt, go_sem, d0]
    have LS : ∀ V, Below Wf.heap.size Wf V → (Instr.loadAt 22 (.pointer (some ⟨w.heap.size, 2, none⟩))).run Try.prog V = .ok (.int .u32 f.s) V := fun V hV => by
      obtain ⟨d0, d1, d2, d3, d4, d5⟩ := fr_block (v := f.v) (k := f.k) (s := f.s) (i := f.i) (c := f.c) (row_stays hxF hV)
      simp [Instr.loadAt, go_sem, d2]
    clear hc hE
    go_wp2_with fail
    refine wp_region_F 30 [] (fun _ _ _ => True) (fun V => Below Wf.heap.size Wf V) (by kernel_rfl) (by kernel_rfl) (by rfl) (by simp) (fun W W' h hb => h.trans (hb.mono h.size)) (fun q x W W' h hb => trivial) (Below.refl _ _).drew ?_
    repeat (refine wpF_pure rfl rfl ?_; go_big_quiet_step (fail); refine wpQuiet_nil ?_)
    refine wpF_nil (ad := ⟨bj, 0, none⟩) rfl (by rfl) (by rfl) (by rfl) ?_
    simp only [Act.put, List.setIfInBounds_toArray, List.set_cons_succ, List.set_cons_zero]
    repeat (refine wpF_pure rfl rfl ?_; go_big_quiet_step (fail); refine wpQuiet_nil ?_)
    refine wpF_load (.pointer (some ⟨bw, 0, none⟩)) rfl (by rfl) (by rfl) (by rfl) LW ?_
    simp only [Act.put, List.setIfInBounds_toArray, List.set_cons_succ, List.set_cons_zero]
    repeat (refine wpF_pure rfl rfl ?_; go_big_quiet_step (fail); refine wpQuiet_nil ?_)
    refine wpF_load (.int .u32 f.s) rfl (by rfl) (by rfl) (by rfl) LS ?_
    simp only [Act.put, List.setIfInBounds_toArray, List.set_cons_succ, List.set_cons_zero]
    refine wpF_call (f := 32) (args := #[.pointer (some ⟨bw, 0, none⟩), .int .u32 f.s]) (.int .i64 R) rfl rfl (fun x => by first | rfl | (simp [go_sem]; done)) (fun V hV => KL.out V hV) ?_
    simp only [Act.put, List.setIfInBounds_toArray, List.set_cons_succ, List.set_cons_zero]
    repeat (refine wpF_pure rfl rfl ?_; go_big_quiet_step (fail); refine wpQuiet_nil ?_)
    intro xs V hV _
    have hbV := HBW.out.trans (hV.mono HBW.out.size)
    simp only [fill]
    clear LW LS KL
    go_wp2
    go_ret
    exact ⟨rfl, hbV⟩
  · have hw : jwhy t q f = E := by rw [← hE]; exact if_pos hc |>.trans (if_pos hc).symm
    have he : (E != 13) = true := by
      rw [← hE, if_pos hc, bne_iff_ne]
      have := chk_cases f.v f.k f.i f.c
      omega
    have hRE : E = R := by rw [← HR.out, hw]
    subst hRE
    clear hw hc hE HR
    go_wp2
    go_ret
    exact ⟨rfl, HBW.out⟩
/-- what Take leaves -/
def JTakeR (w : World) (S : Nat → Prop) (bj bw b r : Nat) (t : Int) (q : Nat) (T : List Tb.Ms) (f : Fr) (e : Ending) (w' : World) : Prop :=
  ∃ A2 c2, e = .returned (.tuple #[outV A2 (jtake r t q T f).o.zs.length c2 (jtake r t q T f).o.wh (jtake r t q T f).o.ev (jtake r t q T f).o.old, .int .i64 (jtake r t q T f).e]) ∧ (jtake r t q T f).o.zs.length ≤ c2 ∧
    NumsS .u8 w' (fun g => w.heap.size ≤ g ∧ g < w'.heap.size) A2 (jtake r t q T f).o.zs ∧ TOff S w w' ∧ ∃ S', JAt w' S' bj bw b r t q (jtake r t q T f).T ∧ ∀ p, S' p → S p ∨ w.heap.size ≤ p
theorem JTakeR.of {f : Fr} {e : Ending} {R : Tb.Res} (h : JTakeR w S bj bw b r t q T f e w') (hp : jtake r t q T f = R) : ∃ A2 c2, e = .returned (.tuple #[outV A2 R.o.zs.length c2 R.o.wh R.o.ev R.o.old, .int .i64 R.e]) ∧ R.o.zs.length ≤ c2 ∧
    NumsS .u8 w' (fun g => w.heap.size ≤ g ∧ g < w'.heap.size) A2 R.o.zs ∧ TOff S w w' ∧ ∃ S', JAt w' S' bj bw b r t q R.T ∧ ∀ p, S' p → S p ∨ w.heap.size ≤ p := by
  subst hp
  exact h
/-- what Put hands Take: in a world V in which box g is still to be written -/
def JMid (w : World) (S : Nat → Prop) (bj bw b r : Nat) (t : Int) (q : Nat) (R : Tb.Res) (g : Nat) (v : Value) (V : World) : Prop :=
  ∃ A2 c2, v = .tuple #[outV A2 R.o.zs.length c2 R.o.wh R.o.ev R.o.old, .int .i64 R.e] ∧ R.o.zs.length ≤ c2 ∧ NumsS .u8 V (fun k => g < k ∧ k < V.heap.size) A2 R.o.zs ∧ TOff S w V ∧ (∃ S', JAt V S' bj bw b r t q R.T ∧ ∀ p, S' p → S p ∨ w.heap.size ≤ p) ∧
    V.heap[g]? = some (.cells (outC none 0 0 false false 0) 39 (0, 0))
theorem JMid.put {R : Tb.Res} {g : Nat} {A2 : Option Addr} {c2 n : Nat} {wh ev : Bool} {old er : Int} {V : World} (h : JMid w S bj bw b r t q R g (.tuple #[outV A2 n c2 wh ev old, .int .i64 er]) V) (hg : w.heap.size ≤ g) :
    n = R.o.zs.length ∧ wh = R.o.wh ∧ ev = R.o.ev ∧ old = R.o.old ∧ er = R.e ∧ R.o.zs.length ≤ c2 ∧ NumsS .u8 (V.setRow g (outC A2 n c2 wh ev old)) (fun k => w.heap.size ≤ k ∧ k < (V.setRow g (outC A2 n c2 wh ev old)).heap.size) A2 R.o.zs ∧ TOff S w (V.setRow g (outC A2 n c2 wh ev old)) ∧
      (∃ S', JAt (V.setRow g (outC A2 n c2 wh ev old)) S' bj bw b r t q R.T ∧ ∀ p, S' p → S p ∨ w.heap.size ≤ p) := by
  obtain ⟨A2', c2', e, hc, hn, ho, ⟨S', hJ, hS'⟩, hx⟩ := h
  unfold outV at e
  simp only [outC, Value.tuple.injEq, Array.mk.injEq, List.cons.injEq, Value.agg.injEq, Value.slice.injEq, Value.bool.injEq, Value.int.injEq, and_true, true_and] at e
  obtain ⟨⟨⟨rfl, rfl, rfl⟩, rfl, rfl, rfl⟩, rfl⟩ := e
  have hof : Off (fun k => k = g) V (V.setRow g (outC A2 R.o.zs.length c2 R.o.wh R.o.ev R.o.old)) := (Off.refl (fun k => k = g) V).setRow rfl _
  refine ⟨rfl, rfl, rfl, rfl, rfl, hc, ?_, tset_new ho hg _, S', hJ.other hx ⟨by decide, by decide, by decide, by decide⟩ ⟨by decide, by decide⟩ hof, hS'⟩
  refine (hn.keeps (w' := V.setRow g (outC A2 R.o.zs.length c2 R.o.wh R.o.ev R.o.old)) ?_).more fun k hk => ⟨by omega, by have := hof.size; omega⟩
  exact ⟨hof.size, fun k (hk : g < k ∧ k < V.heap.size) => hof.block k hk.2 (by omega)⟩
set_option maxHeartbeats 8000000 in
theorem jtake_any (h : JAt w S bj bw b r t q T) (f : Fr) (hf : f.At w w.heap.size) :
    Calls Try.prog 7 #[.pointer (some ⟨bj, 0, none⟩), frV f.v f.k f.s f.i f.c (.slice f.a f.zs.length f.cp)] w (JTakeR w S bj bw b r t q T f) := by
  obtain ⟨w0, hw0⟩ : ∃ w0, (w.alloc (.cells f.cs 35)).alloc (.cells (outC none 0 0 false false 0) 39) = w0 := ⟨_, rfl⟩
  obtain ⟨hb0, hs0, hF0, hR0⟩ := put_boxes hw0
  obtain ⟨d0, d1, d2, d3, d4, d5⟩ := fr_block (v := f.v) (k := f.k) (s := f.s) (i := f.i) (c := f.c) hF0
  have KC := jcheck_any (h.below hb0) f ⟨hf.s0, hf.s1⟩
  obtain ⟨E, hE⟩ : ∃ E, jwhy t q f = E := ⟨_, rfl⟩
  rw [hE] at KC
  obtain ⟨R, hR⟩ : ∃ R, jtake r t q T f = R := ⟨_, rfl⟩
  have HEND : Hid (∀ e w', (∃ A2 c2, e = .returned (.tuple #[outV A2 R.o.zs.length c2 R.o.wh R.o.ev R.o.old, .int .i64 R.e]) ∧ R.o.zs.length ≤ c2 ∧
    NumsS .u8 w' (fun g => w.heap.size ≤ g ∧ g < w'.heap.size) A2 R.o.zs ∧ TOff S w w' ∧ ∃ S', JAt w' S' bj bw b r t q R.T ∧ ∀ p, S' p → S p ∨ w.heap.size ≤ p) → JTakeR w S bj bw b r t q T f e w') := Lib.hid fun e w' h => by subst hR; exact h
  generalize JTakeR w S bj bw b r t q T f = G at *
  have HJ := Lib.hid h
  have HF := Lib.hid hf
  have HE := Lib.hid hE
  have HR := Lib.hid hR
  have HW0 := Lib.hid hw0
  have HS0 := Lib.hid hs0
  clear h hf hE hR hw0 hs0
  unfold frV at *
  simp only [Fr.cs, frC, outC] at HW0 KC ⊢
  go_enter Try.func7, Try.ntmps7
  go_wp2_with fail
  rw [HW0.out]
  refine KC.mono ?_
  rintro e W1 ⟨rfl, hb1⟩
  have hb01 := hb0.trans (hb1.mono hb0.size)
  have hF1 := row_stays hF0 hb1
  have hR1 := row_stays hR0 hb1
  have hJ1 := HJ.out.below hb01
  have hs1 : w.heap.size + 2 ≤ W1.heap.size := Nat.le_trans HS0.out hb1.size
  have HB1 := Lib.hid hb01
  have HF1 := Lib.hid hF1
  have HR1 := Lib.hid hR1
  have HJ1 := Lib.hid hJ1
  clear hb0 hF0 hR0 d0 d1 d2 d3 d4 d5 KC hb1 hb01 hF1 hR1 hJ1 HW0 HS0
  by_cases he : E = 0
  · have hRP : Tb.put r T f = R := by rw [← HR.out]; exact (if_neg (by rw [HE.out]; simp [he])).symm
    subst he
    have KP : Hid (∀ V, Below W1.heap.size W1 V → Calls Try.prog 20 #[.pointer (some ⟨b, 0, none⟩), .agg #[.int .i64 f.v, .int .i64 f.k, .int .u32 f.s, .int .i64 f.i, .int .i64 f.c, .slice f.a f.zs.length f.cp]] V fun e V' => ∃ v, e = .returned v ∧ (∃ A2 c2, v = .tuple #[outV A2 R.o.zs.length c2 R.o.wh R.o.ev R.o.old, .int .i64 R.e]) ∧ JMid w S bj bw b r t q R (w.heap.size + 1) v V' ∧ V'.heap[w.heap.size]? = some (.cells f.cs 35 (0, 0))) := Lib.hid fun V hV => by
      have hJV := HJ1.out.below hV
      refine (tput_of hJV.tbl f ((HF.out.below (HB1.out.trans (hV.mono HB1.out.size))).mono (HB1.out.trans (hV.mono HB1.out.size)).size)).mono ?_
      rintro e V' hP
      obtain ⟨A2, c2, rfl, hc2, hn, ho, ht⟩ := hP.of hRP
      obtain ⟨S', hJ', hS'⟩ := hJV.table ho ht
      have hsV := hV.size
      have hlt := HJ.out.lt
      refine ⟨_, rfl, ⟨_, _, rfl⟩, ⟨A2, c2, rfl, hc2, hn.more fun k hk => ⟨by omega, hk.2⟩, TOff.trans (TOff.of_below HB1.out) (TOff.trans (TOff.of_below hV) ho fun _ _ h => h) fun _ _ h => h, ⟨S', hJ', fun p hp => ?_⟩, (TOff.keep ho ?_ fun hs => ?_).trans (row_stays HR1.out hV)⟩, (TOff.keep ho ?_ fun hs => ?_).trans (row_stays HF1.out hV)⟩
      · rcases hS' p hp with h | h
        · exact .inl h
        · exact .inr (by omega)
      · omega
      · have := hlt _ hs; omega
      · omega
      · have := hlt _ hs; omega
    obtain ⟨c0, c1⟩ := HJ1.out.cells
    obtain ⟨wh, hwh⟩ : ∃ wh, R.o.wh = wh := ⟨_, rfl⟩
    obtain ⟨ev, hev⟩ : ∃ ev, R.o.ev = ev := ⟨_, rfl⟩
    obtain ⟨old, hold⟩ : ∃ old, R.o.old = old := ⟨_, rfl⟩
    obtain ⟨er, her⟩ : ∃ er, R.e = er := ⟨_, rfl⟩
    obtain ⟨n, hn⟩ : ∃ n, R.o.zs.length = n := ⟨_, rfl⟩
    rw [hwh, hev, hold, her, hn] at KP
    clear hRP HE HR hwh hev hold her hn
    go_wp2_with fail
    refine wp_region_order4 (0 :: 4 :: 1 :: 2 :: 3 :: 5 :: 6 :: 7 :: 8 :: 9 :: []) (fun V => V.heap[bj]? = some (.cells #[.pointer (some ⟨bw, 0, none⟩), .pointer (some ⟨b, 0, none⟩)] 62 (0, 0)) ∧ V.heap[w.heap.size]? = some (.cells f.cs 35 (0, 0))) (C := fun V => Below W1.heap.size W1 V) (by kernel_rfl) (by kernel_rfl) (Below.refl _ _).drew (fun V hV => ⟨row_stays HJ1.out.row hV, row_stays HF1.out hV⟩) ?_
    repeat (refine wpO4_pure rfl rfl ?_; go_big_quiet_step (fail); refine wpQuiet_nil ?_)
    refine wpO4_load (ad := ⟨w.heap.size, 0, none⟩) (.agg #[.int .i64 f.v, .int .i64 f.k, .int .u32 f.s, .int .i64 f.i, .int .i64 f.c, .slice f.a f.zs.length f.cp]) rfl rfl rfl (by rfl) (fun V hV => by
      obtain ⟨d0, d1, d2, d3, d4, d5⟩ := fr_block (v := f.v) (k := f.k) (s := f.s) (i := f.i) (c := f.c) hV.2
      simp [Instr.loadAt, go_sem, d0, d1, d2, d3, d4, d5]) ?_
    simp only [Act.put, List.setIfInBounds_toArray, List.set_cons_succ, List.set_cons_zero]
    refine wpO4_nil (ad := ⟨bj, 0, none⟩) rfl rfl rfl (by rfl) (fun V hV => ⟨row_stays HJ1.out.row hV, row_stays HF1.out hV⟩) ?_
    simp only [Act.put, List.setIfInBounds_toArray, List.set_cons_succ, List.set_cons_zero]
    repeat (refine wpO4_pure rfl rfl ?_; go_big_quiet_step (fail); refine wpQuiet_nil ?_)
    refine wpO4_load (ad := ⟨bj, 1, none⟩) (.pointer (some ⟨b, 0, none⟩)) rfl rfl rfl (by rfl) (fun V hV => by
      have d1 : V.cell? ⟨bj, 1, none⟩ = some (.pointer (some ⟨b, 0, none⟩)) := by simp [World.cell?, hV.1]
      simp [Instr.loadAt, go_sem, d1]) ?_
    simp only [Act.put, List.setIfInBounds_toArray, List.set_cons_succ, List.set_cons_zero]
    refine wpO4_call (fun v => ∃ A2 c2, v = .tuple #[outV A2 n c2 wh ev old, .int .i64 er]) (fun v V => JMid w S bj bw b r t q R (w.heap.size + 1) v V ∧ V.heap[w.heap.size]? = some (.cells f.cs 35 (0, 0))) (f := 20) (args := #[.pointer (some ⟨b, 0, none⟩), .agg #[.int .i64 f.v, .int .i64 f.k, .int .u32 f.s, .int .i64 f.i, .int .i64 f.c, .slice f.a f.zs.length f.cp]]) rfl rfl rfl (fun _ V hV => ?_) (fun x => by first | rfl | (simp [go_sem]; done)) (fun V hV => KP.out V hV) ?_
    · obtain ⟨⟨_, _, _, _, _, _, ⟨_, hJ, _⟩, _⟩, h2⟩ := hV
      exact ⟨hJ.row, h2⟩
    rintro v ⟨A2, c2, rfl⟩
    unfold outV
    simp only [Act.put, List.setIfInBounds_toArray, List.set_cons_succ, List.set_cons_zero]
    repeat (refine wpO4_pure rfl rfl ?_; go_big_quiet_step (fail); refine wpQuiet_nil ?_)
    have hbj := HJ.out.size
    refine wpO4_store (fun V' => ∃ V, (JMid w S bj bw b r t q R (w.heap.size + 1) (.tuple #[.agg #[.slice A2 n c2, .bool wh, .bool ev, .int .u32 old], .int .i64 er]) V ∧ V.heap[w.heap.size]? = some (.cells f.cs 35 (0, 0))) ∧ V' = V.setRow (w.heap.size + 1) (outC A2 n c2 wh ev old)) rfl rfl rfl rfl ⟨w.heap.size + 1, 0, none⟩ (.agg #[.slice A2 n c2, .bool wh, .bool ev, .int .u32 old]) rfl rfl ?_ ?_ ?_
    · rintro V' ⟨V, ⟨⟨_, _, _, _, _, _, ⟨_, hJ, _⟩, _⟩, h2⟩, rfl⟩
      exact ⟨(setRow_other _ _ _ _ (by omega)).trans hJ.row, (setRow_other _ _ _ _ (by omega)).trans h2⟩
    · rintro V hV
      have hx := hV.1
      obtain ⟨_, _, _, _, _, _, _, hx⟩ := hx
      exact ⟨_, out_store V (w.heap.size + 1) _ (outC A2 n c2 wh ev old) hx rfl rfl (out_one ..), V, hV, rfl⟩
    repeat (refine wpO4_pure rfl rfl ?_; go_big_quiet_step (fail); refine wpQuiet_nil ?_)
    rintro V' ⟨V, ⟨hM, _⟩, rfl⟩
    have hx : (V.setRow (w.heap.size + 1) (outC A2 n c2 wh ev old)).heap[w.heap.size + 1]? = some (.cells (outC A2 n c2 wh ev old) 39 (0, 0)) := by
      obtain ⟨_, _, _, _, _, _, _, hx⟩ := hM
      exact setRow_heap _ _ _ _ _ _ hx
    obtain ⟨e1, e2, e3, e4, e5, hc2, hnum, hto, hJ'⟩ := JMid.put hM (by omega)
    have HFIN : Hid (G (.returned (.tuple #[.agg (outC A2 n c2 wh ev old), .int .i64 er])) (V.setRow (w.heap.size + 1) (outC A2 n c2 wh ev old))) := Lib.hid (HEND.out _ _ (by
      subst e1 e2 e3 e4 e5
      exact ⟨A2, c2, rfl, hc2, hnum, hto, hJ'⟩))
    have HX := Lib.hid hx
    clear hx e1 e2 e3 e4 e5 hc2 hnum hto hJ' hM HJ1 HF1 HB1 HR1 HJ HF HEND KP c0 c1
    generalize V.setRow (w.heap.size + 1) (outC A2 n c2 wh ev old) = Wf at *
    go_wp2
    refine bodyPost_ret (results_row_tmp (P := Try.prog) (fn := Try.f7) rfl _ _ (w.heap.size + 1) 39 (outC A2 n c2 wh ev old) _ (by rfl) HX.out Try.underlying39 (by rfl) outInfo) rfl ?_
    exact HFIN.out
  · have hRP : R = ⟨E, T, .no⟩ := by rw [← HR.out, ← HE.out]; exact if_pos (by rw [HE.out]; exact he)
    have HFIN : Hid (G (.returned (.tuple #[.agg (outC none 0 0 false false 0), .int .i64 E])) (W1.setRow (w.heap.size + 1) (outC none 0 0 false false 0))) := Lib.hid (HEND.out _ _ (by
      rw [hRP]
      exact ⟨none, 0, rfl, Nat.le_refl _, NumsS.nil, tset_new (TOff.of_below HB1.out) (by omega) _, S, HJ1.out.other HR1.out ⟨by decide, by decide, by decide, by decide⟩ ⟨by decide, by decide⟩ ((Off.refl (fun p => p = w.heap.size + 1) W1).setRow rfl _), fun p hp => .inl hp⟩))
    have he' : (E != 0) = true := by simpa using he
    clear hRP HE HR he HJ1 HF1 HB1 HJ HF HEND
    go_wp2_with (refine wpList_store_row rfl 39 (.tmp 4) (.tmp 12) rfl (w.heap.size + 1) (outC none 0 0 false false 0) rfl rfl 39 _ HR1.out outInfo rfl (out_one ..) ?_)
    refine bodyPost_ret (results_row_tmp (P := Try.prog) (fn := Try.f7) rfl _ _ (w.heap.size + 1) 39 (outC none 0 0 false false 0) _ (by rfl) (setRow_heap _ _ _ _ _ _ HR1.out) Try.underlying39 (by rfl) outInfo) rfl ?_
    exact HFIN.out
theorem jtake_nil (f : Fr) (w : World) : Calls Try.prog 7 #[.pointer none, frV f.v f.k f.s f.i f.c (.slice f.a f.zs.length f.cp)] w fun e w' => e = .returned (.tuple #[outV none 0 0 false false 0, .int .i64 1]) ∧ Below w.heap.size w w' := by
  have KC : ∀ V, Calls Try.prog 19 #[.pointer none, frV f.v f.k f.s f.i f.c (.slice f.a f.zs.length f.cp)] V fun e V' => e = .returned (.int .i64 1) ∧ Below V.heap.size V V' := fun V => by
    have hal := (Below.refl V.heap.size V).alloc (Nat.le_refl _) (.cells #[.int .i64 f.v, .int .i64 f.k, .int .u32 f.s, .int .i64 f.i, .int .i64 f.c, .slice f.a f.zs.length f.cp] 35)
    unfold frV
    simp only [frC]
    go_enter Try.func19, Try.ntmps19
    go_wp2
    go_ret
    exact ⟨rfl, hal⟩
  have HKC := Lib.hid KC
  obtain ⟨w0, hw0⟩ : ∃ w0, (w.alloc (.cells f.cs 35)).alloc (.cells (outC none 0 0 false false 0) 39) = w0 := ⟨_, rfl⟩
  obtain ⟨hb0, hs0, hF0, hR0⟩ := put_boxes hw0
  obtain ⟨d0, d1, d2, d3, d4, d5⟩ := fr_block (v := f.v) (k := f.k) (s := f.s) (i := f.i) (c := f.c) hF0
  have HW0 := Lib.hid hw0
  clear hw0 KC
  unfold frV outV at *
  simp only [Fr.cs, frC, outC] at HW0 HKC ⊢
  go_enter Try.func7, Try.ntmps7
  go_wp2_with fail
  rw [HW0.out]
  refine (HKC.out w0).mono ?_
  rintro e W1 ⟨rfl, hb1⟩
  have hR1 := row_stays hR0 hb1
  have hs1 := hb1.size
  have HFIN := Lib.hid (setRow_new (hb0.trans (hb1.mono hb0.size)) (by omega : w.heap.size ≤ w.heap.size + 1) (outC none 0 0 false false 0))
  have HR1 := Lib.hid hR1
  clear hb0 hF0 hR0 d0 d1 d2 d3 d4 d5 hb1 hR1 HW0 HKC
  go_wp2_with (refine wpList_store_row rfl 39 (.tmp 4) (.tmp 12) rfl (w.heap.size + 1) (outC none 0 0 false false 0) rfl rfl 39 _ HR1.out outInfo rfl (out_one ..) ?_)
  refine bodyPost_ret (results_row_tmp (P := Try.prog) (fn := Try.f7) rfl _ _ (w.heap.size + 1) 39 (outC none 0 0 false false 0) _ (by rfl) (setRow_heap _ _ _ _ _ _ HR1.out) Try.underlying39 (by rfl) outInfo) rfl ?_
  exact ⟨rfl, HFIN.out⟩
/-- the window behind Mark -/
theorem JAt.mark (h : JAt w S bj bw b r t q T) {t' : Int} {q' : Nat} (hw : WinAt w' bw t' q') (ht : 0 ≤ t' ∧ t' < 4294967296) (hq : q' < 18446744073709551616) (ho : Off (fun k => k = bw) w w') : JAt w' S bj bw b r t' q' T := by
  have key : ∀ (g : Nat) (cs' : Array Value) (t' : TypeId), w.heap[g]? = some (.cells cs' t' (0, 0)) → 80 ≠ t' → ¬ g = bw := fun g cs' t' h1 h2 e => by
    have h3 : w.heap[bw]? = _ := h.win
    rw [e, h3] at h1
    injection h1 with h1
    injection h1 with _ h1
    exact h2 h1
  have hn := h.nw
  obtain ⟨m, A, n, cp, X, hT, e⟩ := h.tbl
  exact ⟨(ho.block bj h.size (key _ _ _ h.row (by decide))).trans h.row, hw, ht, hq, ⟨m, A, n, cp, X, hT.other (show w.heap[bw]? = _ from h.win) ⟨by decide, by decide, by decide, by decide⟩ ho, e⟩,
    fun g cs' tt' fz hg hs hfz => h.tys g cs' tt' fz ((ho.block g (h.lt g hs) fun e => hn (by rw [← e]; exact hs)).symm.trans hg) hs hfz, fun g hg => Nat.lt_of_lt_of_le (h.lt g hg) ho.size⟩
/-- what Done leaves -/
def JDoneR (w : World) (S : Nat → Prop) (bj bw b r : Nat) (t : Int) (q : Nat) (T : List Tb.Ms) (z : Int) (e : Ending) (w' : World) : Prop :=
  e = .returned (.int .i64 (Wn.look t q z)) ∧ TOff (fun p => S p ∨ p = bw) w w' ∧ ∃ S', JAt w' S' bj bw b r (if Wn.look t q z = 0 then Wn.nt t z else t) (if Wn.look t q z = 0 then Wn.nq t q z else q) (if Wn.look t q z = 0 then Tb.drop T z else T) ∧ ∀ p, S' p → S p
theorem jdone_any (h : JAt w S bj bw b r t q T) {z : Int} (hz : 0 ≤ z ∧ z ≤ 4294967295) : Calls Try.prog 8 #[.pointer (some ⟨bj, 0, none⟩), .int .u32 z] w (JDoneR w S bj bw b r t q T z) := by
  have KM := wMark_any h.win z h.top ⟨hz.1, by omega⟩ h.bits
  have hwx : w.heap[bw]? = _ := h.win
  have hone : ∀ w', Off (fun k => k = bw) w w' → TOff (fun p => S p ∨ p = bw) w w' := fun w' ho => TOff.one (S := fun p => S p ∨ p = bw) ho (.inr rfl) (fun cs e => by rw [hwx] at e; injection e with e; injection e with _ e _; exact absurd e (by decide)) (fun cs e => by rw [hwx] at e; injection e with e; injection e with _ e _; exact absurd e (by decide))
  have HONE := Lib.hid hone
  obtain ⟨c0, c1⟩ := h.cells
  have HJ := Lib.hid h
  have HZ := Lib.hid hz
  have HG : Hid (∀ e w', (e = .returned (.int .i64 (Wn.look t q z)) ∧ TOff (fun p => S p ∨ p = bw) w w' ∧ ∃ S', JAt w' S' bj bw b r (if Wn.look t q z = 0 then Wn.nt t z else t) (if Wn.look t q z = 0 then Wn.nq t q z else q) (if Wn.look t q z = 0 then Tb.drop T z else T) ∧ ∀ p, S' p → S p) → JDoneR w S bj bw b r t q T z e w') := Lib.hid fun e w' h => h
  generalize JDoneR w S bj bw b r t q T z = G at *
  obtain ⟨L, hL⟩ : ∃ L, Wn.look t q z = L := ⟨_, rfl⟩
  rw [hL] at KM HG
  have HL := Lib.hid hL
  clear h hz hone hwx hL
  go_enter Try.func8, Try.ntmps8
  go_wp2_with fail
  refine KM.mono ?_
  rintro e w1 ⟨rfl, hw1, ho1⟩
  by_cases h0 : L = 0
  · subst h0
    rw [if_pos rfl, if_pos rfl] at hw1
    simp only [if_true] at HG
    have hJ1 := HJ.out.mark hw1 (Wn.nt_lt HJ.out.top ⟨HZ.out.1, by have := HZ.out.2; omega⟩) (Wn.nq_lt HJ.out.bits HL.out) ho1
    have KD := jdrop_any hJ1 HZ.out
    have HO1 := Lib.hid ho1
    clear hw1 hJ1 KM c0 c1 ho1
    go_wp2_with fail
    refine KD.mono ?_
    rintro e w2 ⟨rfl, ho2, S', hJ2, hS2⟩
    have HFIN : Hid (G (.returned (.int .i64 0)) w2) := Lib.hid (HG.out _ _ ⟨rfl, TOff.trans (HONE.out _ HO1.out) ho2 fun _ _ h => .inl h, S', hJ2, hS2⟩)
    clear KD ho2 hJ2 HG HONE HJ HO1
    go_wp2
    exact HFIN.out
  · rw [if_neg h0, if_neg h0] at hw1
    have HFIN : Hid (G (.returned (.int .i64 L)) w1) := Lib.hid (HG.out _ _ ⟨rfl, HONE.out _ ho1, S, by rw [if_neg h0, if_neg h0, if_neg h0]; exact HJ.out.mark hw1 HJ.out.top HJ.out.bits ho1, fun _ h => h⟩)
    have h0' : (L == 0) = false := by simpa using h0
    clear hw1 KM c0 c1 HG HONE HJ ho1 h0
    go_wp2
    exact HFIN.out
end
end Go.Proofs.Ytfdbcfkjablnkaa

namespace Go.Proofs.Ytfdbcfkjablnkaa
open Go.RowKit Go.Shelf
set_option maxRecDepth 100000

/-- the example's frame, its payload in block p -/
def knJ (p : Nat) : Fr := ⟨1, 1, 5, 0, 1, some ⟨p, 0, none⟩, 1, [1]⟩
theorem knj1 (p : Nat) : jtake 2 (Sr.add 5 (-1)) 18446744073709551615 [] (knJ p) = ⟨0, [], ⟨[1], true, false, 0⟩⟩ := by rfl
theorem knj2 : Wn.look (Sr.add 5 (-1)) 18446744073709551615 5 = 0 := by rfl
theorem knj3 (p : Nat) : jtake 2 (Wn.nt (Sr.add 5 (-1)) 5) (Wn.nq (Sr.add 5 (-1)) 18446744073709551615 5) [] (knJ p) = ⟨14, [], .no⟩ := by
  have h : jwhy (Wn.nt (Sr.add 5 (-1)) 5) (Wn.nq (Sr.add 5 (-1)) 18446744073709551615 5) (knJ p) = 14 := (if_neg (show ¬ chk 1 1 0 1 ≠ 0 by decide)).trans (Wn.look_again knj2)
  unfold jtake
  rw [h]
  rfl
/-- the example's memory: a payload, and the frame's box behind it -/
structure KnjAt (p : Nat) (V : World) : Prop where
  pay : V.heap[p]? = some (.cells #[.int .u8 1] 5 (0, 0))
  f : V.heap[p + 1]? = some (.cells (knJ p).cs 35 (0, 0))
section
variable {p : Nat} {V V' : World}
theorem KnjAt.lt (h : KnjAt p V) : p + 1 < V.heap.size := (Array.getElem?_eq_some_iff.1 h.f).1
theorem KnjAt.toff {S : Nat → Prop} (h : KnjAt p V) (ho : TOff S V V') (h1 : ¬ S p) (h2 : ¬ S (p + 1)) : KnjAt p V' := by
  have := h.lt
  exact ⟨(TOff.keep ho (by omega) h1).trans h.pay, (TOff.keep ho (by omega) h2).trans h.f⟩
theorem KnjAt.below (h : KnjAt p V) (hb : Below V.heap.size V V') : KnjAt p V' := ⟨row_stays h.pay hb, row_stays h.f hb⟩
theorem KnjAt.at (h : KnjAt p V) : (knJ p).At V V.heap.size :=
  ⟨by simp [knJ], by simp [knJ], Nat.le_refl _, by simp [knJ], fun z hz => by simp [knJ] at hz; omega, fun _ => ⟨p, 0, rfl, by have := h.lt; omega, fun j c hj => by
    cases j with
    | zero => simp [knJ] at hj; subst hj; simp [World.cell?, h.pay]
    | succ j => simp [knJ] at hj⟩⟩
end
theorem knj_boxes {W1 W2 : World} (hw : (W1.alloc (.cells #[.int .u8 1] 5)).alloc (.cells (knJ W1.heap.size).cs 35) = W2) : KnjAt W1.heap.size W2 ∧ Below W1.heap.size W1 W2 := by
  obtain ⟨V1, hV1⟩ : ∃ V1, W1.alloc (.cells #[.int .u8 1] 5) = V1 := ⟨_, rfl⟩
  rw [hV1] at hw
  have s1 : V1.heap.size = W1.heap.size + 1 := by rw [← hV1]; simp
  have b1 : Below W1.heap.size W1 V1 := by rw [← hV1]; exact (Below.refl _ _).alloc (Nat.le_refl _) _
  have b2 : Below V1.heap.size V1 W2 := by rw [← hw]; exact (Below.refl _ _).alloc (Nat.le_refl _) _
  have h1 : V1.heap[W1.heap.size]? = some (.cells #[.int .u8 1] 5 (0, 0)) := by rw [← hV1]; exact World.alloc_heap_new _ _
  have h2 : W2.heap[W1.heap.size + 1]? = some (.cells (knJ W1.heap.size).cs 35 (0, 0)) := by rw [← s1, ← hw]; exact World.alloc_heap_new _ _
  exact ⟨⟨row_stays h1 b2, h2⟩, b1.trans (b2.mono b1.size)⟩
set_option maxHeartbeats 8000000 in
theorem jknown_any (w : World) : Calls Try.prog 9 #[] w fun e w' => e = .returned (.bool true) ∧ Below w.heap.size w w' := by
  have KN := jnew_any 5 2 (by omega) w
  go_enter Try.func9, Try.ntmps9
  go_wp2_with fail
  refine KN.mono ?_
  rintro e W1 (⟨h, _⟩ | ⟨r, hr, S, bj, bw, b, rfl, hJ, hS, hbw, hbj, hb1⟩)
  · exact absurd ⟨by omega, by omega⟩ h
  obtain rfl : r = 2 := by omega
  have HJ := Lib.hid hJ
  have HB1 := Lib.hid hb1
  have HS := Lib.hid hS
  clear KN hr hJ hb1 hS
  go_wp2_with fail
  obtain ⟨W2, hW2⟩ : ∃ W2, (W1.alloc (.cells #[.int .u8 1] 5)).alloc (.cells (knJ W1.heap.size).cs 35) = W2 := ⟨_, rfl⟩
  obtain ⟨hk2, hb2⟩ := knj_boxes hW2
  have hJ2 := HJ.out.below hb2
  have KT : Calls Try.prog 7 #[.pointer (some ⟨bj, 0, none⟩), .agg #[.int .i64 1, .int .i64 1, .int .u32 5, .int .i64 0, .int .i64 1, .slice (some ⟨W1.heap.size, 0, none⟩) 1 1]] W2 (JTakeR W2 S bj bw b 2 (Sr.add 5 (-1)) 18446744073709551615 [] (knJ W1.heap.size)) := jtake_any hJ2 (knJ W1.heap.size) hk2.at
  have hs2 := hk2.lt
  have hlt := HJ.out.lt
  have hbwl := HJ.out.win.size
  have hb02 := HB1.out.trans (hb2.mono HB1.out.size)
  rw [show (W1.alloc (.cells #[.int .u8 1] 5)).alloc (.cells #[.int .i64 1, .int .i64 1, .int .u32 5, .int .i64 0, .int .i64 1, .slice (some ⟨W1.heap.size, 0, none⟩) 1 1] 35) = W2 from hW2]
  have HLT := Lib.hid hlt
  clear hW2 hb2 hJ2 hlt
  refine KT.mono ?_
  rintro e W3 hp1
  obtain ⟨A3, c3, rfl, _, _, ho3, S3, hJ3, hS3⟩ := hp1.of (knj1 _)
  have hk3 := hk2.toff ho3 (fun h => by have := HLT.out _ h; omega) (fun h => by have := HLT.out _ h; omega)
  have hb03 := hb02.trans (ho3.below HS.out hb02.size)
  have hws2 := hb02.size
  have hal := (Below.refl W3.heap.size W3).alloc (Nat.le_refl _) (.cells (outC A3 1 c3 true false 0) 39)
  have hO3 := World.alloc_heap_new W3 (.cells (outC A3 1 c3 true false 0) 39)
  have hJ3' := hJ3.below hal
  have hk3' := hk3.below hal
  have hb03' := hb03.trans (hal.mono hb03.size)
  have hsub3 : ∀ q, S3 q → w.heap.size ≤ q ∧ ¬ q = W1.heap.size ∧ ¬ q = W1.heap.size + 1 ∧ q < W3.heap.size := fun q hq => by
    have h9 := hJ3.lt q hq
    rcases hS3 q hq with h | h
    · have := HLT.out q h
      exact ⟨HS.out q h, by omega, by omega, h9⟩
    · exact ⟨by omega, by omega, by omega, h9⟩
  have KD := jdone_any hJ3' (z := 5) (by omega)
  have hsz3 := hb03'.size
  have hs3 := ho3.size
  have HSUB := Lib.hid hsub3
  have HK := Lib.hid hk3'
  have HB3 := Lib.hid hb03'
  have HO3 := Lib.hid hO3
  clear KT hp1 ho3 hJ3 hk3 hk2 hal hO3 hJ3' hk3' hb03' hb02 hb03 hS3 hsub3 HJ HB1
  unfold outV
  simp only [outC, List.length_cons, List.length_nil, Nat.zero_add] at HK HB3 HO3 KD hsz3 ⊢
  go_wp2_with fail
  refine KD.mono ?_
  rintro e W4 ⟨rfl, ho4, S4, hJ4, hS4⟩
  rw [knj2] at hJ4
  simp only [if_true] at hJ4
  have hO4 := (TOff.keep ho4 (Array.getElem?_eq_some_iff.1 HO3.out).1 (fun h => by
    rcases h with h | h
    · have := (HSUB.out _ h).2.2.2; omega
    · omega)).trans HO3.out
  have hk4 := HK.out.toff ho4 (fun h => by
    rcases h with h | h
    · exact (HSUB.out _ h).2.1 rfl
    · omega) (fun h => by
    rcases h with h | h
    · exact (HSUB.out _ h).2.2.1 rfl
    · omega)
  have hb04 := HB3.out.trans (ho4.below (B := w.heap.size) (fun q h => by
    rcases h with h | h
    · exact (HSUB.out q h).1
    · omega) HB3.out.size)
  have KT4 := jtake_any hJ4 (knJ W1.heap.size) hk4.at
  obtain ⟨e0, e1, e2, e3, e4, e5⟩ := fr_block (v := 1) (k := 1) (s := 5) (i := 0) (c := 1) hk4.f
  have HB4 := Lib.hid hb04
  have HO4 := Lib.hid hO4
  have HJ4 := Lib.hid hJ4
  have HS4 := Lib.hid hS4
  rw [knj2]
  unfold frV at KT4
  simp only [knJ, frC, List.length_cons, List.length_nil, Nat.zero_add] at KT4 e0 e1 e2 e3 e4 e5
  have HKT := Lib.hid KT4
  clear ho4 hJ4 hO4 hk4 hb04 KT4 KD HK HO3 HB3 hS4
  go_wp2_with fail
  refine (HKT.out.mono fun _ _ h => h.of (knj3 W1.heap.size)).mono ?_
  rintro e W5 ⟨A5, c5, rfl, _, _, ho5, _⟩
  have hO5 := (TOff.keep ho5 (Array.getElem?_eq_some_iff.1 HO4.out).1 (fun h => by have := (HSUB.out _ (HS4.out _ h)).2.2.2; omega)).trans HO4.out
  have hb05 := HB4.out.trans (ho5.below (B := w.heap.size) (fun q h => (HSUB.out q (HS4.out q h)).1) HB4.out.size)
  have hO6 := row_stays hO5 ((Below.refl W5.heap.size W5).alloc (Nat.le_refl _) (.cells (outC A5 0 c5 false false 0) 39))
  have hb06 := Lib.hid (hb05.alloc hb05.size (.cells (outC A5 0 c5 false false 0) 39))
  obtain ⟨k0, k1, k2, k3⟩ := out_block hO6
  clear ho5 hO5 hO6 hb05 HB4 HO4 HJ4 HS4 HSUB HKT e0 e1 e2 e3 e4 e5
  unfold outV Tb.Out.no
  simp only [outC, List.length_nil] at hb06 k0 k1 k2 k3 ⊢
  go_wp2
  go_ret
  exact ⟨rfl, hb06.out⟩
end Go.Proofs.Ytfdbcfkjablnkaa

namespace Go.Proofs.Ytfdbcfkjablnkaa
open Go.RowKit

section
variable {F : Fence} {n : Nat} {P : Program} {g : Operand} {ps : Array Tmp} {assign body : Code} {Q : Exit → Act → World → Prop} {a : Act} {w : World}
/-- range_stopsL, the body told of its own loop's record (a loop within it wants that) -/
theorem range_stopsR {α : Type} (hro : F.round = none) (h1 : 1 ≤ n) {gf : Nat} {lb : Array Value} (hg : a.eval g = .func (.func gf) #[] lb) (hFg : F.fn gf) (eg : ∀ args w, (callFunc gf args).run P w = .ok (.enter gf args) w)
    (enc : α → Array Value) (hps : ∀ x, (enc x).size = ps.size) (Rd : Nat → α → World → Prop) (Dn : Nat → World → Prop) (Sx : Code → World → Prop) (Kp : World → World → Prop) (N : Nat)
    (hRp : ∀ j x W l (o : Loop) o', Rd j x W → w.heap.size ≤ l → W.heap[l]? = some (.loop o) → Rd j x (W.putObj l o'))
    (hDp : ∀ j W l (o : Loop) o', Dn j W → w.heap.size ≤ l → W.heap[l]? = some (.loop o) → Dn j (W.putObj l o'))
    (hSp : ∀ c W l o o', Sx c W → w.heap.size ≤ l → W.heap[l]? = some o → o.isCells = false → Sx c (W.putObj l o'))
    (hKt : ∀ A B C, Kp A B → Kp B C → Kp A C)
    (hKp : ∀ W l o o', w.heap.size ≤ l → W.heap[l]? = some o → o.isCells = false → Kp W (W.putObj l o'))
    (hD0 : ∀ o, Dn 0 ((w.alloc (.deferred (some []))).alloc o)) (a₁ : α → Act)
    (hassign : ∀ (l : Nat) (x : α) (W : World) (K : Act → World → Prop), K (a₁ x) W → assign.wpIn (F.inRound l) (n - 1 - 1) P (Exit.then K (fun _ _ _ => False)) { tmps := (ps.zip (enc x)).foldl (fun t (p, v) => t.setIfInBounds p v) a.tmps, defers := [] } W)
    (hbody : ∀ (l j : Nat) (x : α) (W : World), w.heap.size ≤ l → (∃ r, W.heap[l]? = some (.loop r)) → Rd j x W → j < N → body.wpIn (F.inRound l) (n - 1 - 1) P (stopPost w.heap.size Kp (Dn (j + 1)) Sx W) (a₁ x) W)
    (hiter : ∀ (Bk : World → Prop) (X : World → Prop) (l : Nat) (W : World), (∀ A B, Bk A → A.heap.size ≤ B.heap.size → (∀ k, w.heap.size ≤ k → k < w.heap.size + 2 → B.heap[k]? = A.heap[k]?) → Bk B) → (∀ A, Bk A → w.heap.size + 2 ≤ A.heap.size) →
      (∀ A l' o o', X A → w.heap.size + 2 ≤ l' → A.heap[l']? = some o → o.isCells = false → X (A.putObj l' o')) → l < w.heap.size + 2 → Dn 0 W → Bk W →
      (∀ j x W1, Rd j x W1 → Bk W1 → j < N → YieldAt F (n - 1 - 1) P l (enc x) W1 (YPost w.heap.size l Kp (fun W2 => Dn (j + 1) W2 ∧ Bk W2) X W1)) →
      CallsIn F (n - 1) P gf (#[.func (.yield l) #[] #[]] ++ lb) W fun e W' => (∃ v, e = .returned v) ∧ ((Dn N W' ∧ Bk W') ∨ X W'))
    (hdone : ∀ (D : Nat) (W : World), w.heap.size ≤ D → Dn N W → W.heap[D]? = some (.deferred (some [])) → Q .normal { a with defers := { target := .collected D, args := #[] } :: a.defers } W)
    (hstop : ∀ (D : Nat) (c : Code) (W : World), w.heap.size ≤ D → Sx c W → W.heap[D]? = some (.deferred (some [])) → c.wpIn F n P Q { a with defers := { target := .collected D, args := #[] } :: a.defers } W) :
    (Code.rangeFunc g ps assign body).wpIn F n P Q a w := by
  apply wpIn_rangeFunc
  intro fn hfn
  rw [hro]
  have hent := run_enterLoop_outer (P := P) (w := w) fn a.tmps ps assign body
  obtain ⟨lp, hlp⟩ : ∃ lp : LoopState → Option Code → Loop, lp = fun st pe => { state := st, pending := pe, fn := fn, tmps := a.tmps, params := ps, assign := assign, body := body, defers := w.heap.size } := ⟨_, rfl⟩
  have hlp0 : ({ state := .ready, pending := none, fn, tmps := a.tmps, params := ps, assign, body, defers := w.heap.size } : Loop) = lp .ready none := by rw [hlp]
  rw [hlp0] at hent
  have hD0' := hD0 (.loop (lp .ready none))
  have hl0 : ((w.alloc (.deferred (some []))).alloc (.loop (lp .ready none))).heap[w.heap.size + 1]? = some (.loop (lp .ready none)) := by
    have h := World.alloc_heap_new (w.alloc (.deferred (some []))) (.loop (lp .ready none))
    rwa [World.size_alloc] at h
  have hd0 : ((w.alloc (.deferred (some []))).alloc (.loop (lp .ready none))).heap[w.heap.size]? = some (.deferred (some [])) := (Below.heap_alloc _ _ _ (by simp)).trans (World.alloc_heap_new w _)
  generalize (w.alloc (.deferred (some []))).alloc (.loop (lp .ready none)) = W0 at *
  refine ⟨_, _, _, { target := .fn (.func gf) lb, args := #[.func (.yield (w.heap.size + 1)) #[] #[]] }, W0, gf, #[.func (.yield (w.heap.size + 1)) #[] #[]] ++ lb, W0, hent, ?_, ?_, ?_, fun _ => h1, ?_⟩
  · simp only [resolve, hg]
    simp [go_sem]
  · intro f' hf'
    simp [Target.leads] at hf'
    subst hf'
    exact hFg
  · simp [invoke, go_sem, eg]
  let Bk : World → Prop := fun W => W.heap[w.heap.size + 1]? = some (.loop (lp .ready none)) ∧ W.heap[w.heap.size]? = some (.deferred (some []))
  let X : World → Prop := fun W => ∃ c, Sx c W ∧ W.heap[w.heap.size + 1]? = some (.loop (lp .done (some c))) ∧ W.heap[w.heap.size]? = some (.deferred (some []))
  have hBlt : ∀ A, Bk A → w.heap.size + 2 ≤ A.heap.size := fun A h => (Array.getElem?_eq_some_iff.1 h.1).1
  refine (hiter Bk X (w.heap.size + 1) W0 (fun A B hA _ hAB => ⟨(hAB _ (by omega) (by omega)).trans hA.1, (hAB _ (by omega) (by omega)).trans hA.2⟩) hBlt
    (fun A l' o o' hA hl' ho hc => by
      obtain ⟨c, h1, h2, h3⟩ := hA
      exact ⟨c, hSp c A l' o o' h1 (by omega) ho hc, (World.putObj_heap_other (by omega)).trans h2, (World.putObj_heap_other (by omega)).trans h3⟩) (by omega) hD0' ⟨hl0, hd0⟩ ?_).mono ?_
  · rintro j x W1 hR hB hj
    have hsz := hBlt W1 hB
    have hy := run_yield (P := P) (args := enc x) hB.1 (by rw [hlp]; exact hps x)
    have hbeg := run_beginRound (P := P) hB.1 (by rw [hlp])
    rw [hlp] at hy hbeg
    refine ⟨fn, _, assign, body, hy, roundIn_of_wpIn hfn (hassign _ x W1 _ ⟨_, hbeg, ?_⟩)⟩
    have b1 : (W1.putObj (w.heap.size + 1) (.loop { lp .ready none with state := .busy })).heap[w.heap.size + 1]? = some (.loop { lp .ready none with state := .busy }) := World.putObj_heap_same (by omega)
    have b1r : ∃ r, (W1.putObj (w.heap.size + 1) (.loop { lp .ready none with state := .busy })).heap[w.heap.size + 1]? = some (.loop r) := ⟨_, b1⟩
    rw [hlp] at b1r
    refine wpIn_mono (hbody _ j x _ (by omega) b1r (hRp j x W1 _ _ _ hR (by omega) hB.1) hj) ?_
    have b2 : (W1.putObj (w.heap.size + 1) (.loop { lp .ready none with state := .busy })).heap[w.heap.size]? = some (.deferred (some [])) := (World.putObj_heap_other (by omega)).trans hB.2
    have hK1 := hKp W1 (w.heap.size + 1) _ (.loop { lp .ready none with state := .busy }) (by omega) hB.1 rfl
    rw [hlp] at b1 b2 hK1
    have fin : ∀ (jump : Option Code) (W3 : World), KeepsFrom w.heap.size (W1.putObj (w.heap.size + 1) (.loop { lp .ready none with state := .busy })) W3 →
        (Instr.endRound (w.heap.size + 1) jump).run P W3 = .ok (.bool jump.isNone) (W3.putObj (w.heap.size + 1) (.loop (lp (if jump.isNone then .ready else .done) jump))) ∧
        W3.heap[w.heap.size + 1]? = some (.loop { lp .ready none with state := .busy }) ∧
        (W3.putObj (w.heap.size + 1) (.loop (lp (if jump.isNone then .ready else .done) jump))).heap[w.heap.size + 1]? = some (.loop (lp (if jump.isNone then .ready else .done) jump)) ∧
        (W3.putObj (w.heap.size + 1) (.loop (lp (if jump.isNone then .ready else .done) jump))).heap[w.heap.size]? = some (.deferred (some [])) ∧
        KeepsBut w.heap.size (w.heap.size + 1) W1 (W3.putObj (w.heap.size + 1) (.loop (lp (if jump.isNone then .ready else .done) jump))) := fun jump W3 hk => by
      rw [hlp] at hk ⊢
      have c1 := hk.same _ _ (by omega) b1 rfl
      have c2 := hk.same _ _ (Nat.le_refl _) b2 rfl
      have hend := run_endRound (P := P) jump c1
      refine ⟨hend, c1, World.putObj_heap_same (Array.getElem?_eq_some_iff.1 c1).1, (World.putObj_heap_other (by omega)).trans c2, ?_, ?_⟩
      · have h1 := hk.size
        simp only [World.putObj, Array.size_setIfInBounds] at h1 ⊢
        exact h1
      · intro k o hkl hk2 ho hc
        exact (World.putObj_heap_other (by omega)).trans (hk.same k o hk2 ((World.putObj_heap_other (by omega)).trans ho) hc)
    rintro e a3 W3 hp
    rw [hlp] at fin
    cases e with
    | normal =>
      obtain ⟨hk, hDn, hKp3⟩ := hp
      obtain ⟨hend, c1, d1, d2, hkb⟩ := fin none W3 hk
      exact ⟨_, _, hend, .inl ⟨rfl, ⟨hDp _ _ _ _ _ hDn (by omega) c1, by rw [hlp]; exact d1, d2⟩, hKt _ _ _ hK1 (hKt _ _ _ hKp3 (hKp W3 _ _ _ (by omega) c1 rfl)), hkb⟩⟩
    | ret =>
      obtain ⟨hk, hx⟩ := hp
      obtain ⟨hend, c1, d1, d2, hkb⟩ := fin (some .ret) W3 hk
      exact ⟨_, _, hend, .inr ⟨rfl, ⟨.ret, hSp _ _ _ _ _ hx (by omega) c1 rfl, by rw [hlp]; exact d1, d2⟩, hkb⟩⟩
    | exit id =>
      obtain ⟨hk, hx⟩ := hp
      obtain ⟨hend, c1, d1, d2, hkb⟩ := fin (some (.exit id)) W3 hk
      exact ⟨_, _, hend, .inr ⟨rfl, ⟨.exit id, hSp _ _ _ _ _ hx (by omega) c1 rfl, by rw [hlp]; exact d1, d2⟩, hkb⟩⟩
    | goto t => exact hp.elim
    | panic ch => exact hp.elim
    | outgrown => exact hp.elim
  · rintro e W2 ⟨⟨v, rfl⟩, ⟨hDN, hB⟩ | ⟨c, hc, hl, hd⟩⟩
    · have hend := run_endLoop (P := P) hB.1 (by rw [hlp]; simp)
      rw [hlp] at hend
      exact ⟨none, _, hend, hdone _ _ (Nat.le_refl _) (hDp _ _ _ _ _ hDN (by omega) hB.1) ((World.putObj_heap_other (by omega)).trans hB.2)⟩
    · have hend := run_endLoop (P := P) hl (by rw [hlp]; simp)
      rw [hlp] at hend
      exact ⟨some c, _, hend, hstop _ c _ (Nat.le_refl _) (hSp _ _ _ _ _ hc (by omega) hl rfl) ((World.putObj_heap_other (by omega)).trans hd)⟩
/-- the same within a round of loop l₀: one block is laid (the record), no mark -/
theorem range_stopsN {α : Type} {l₀ : Nat} {r₀ : Loop} (hro : F.round = some l₀) (hl₀ : w.heap[l₀]? = some (.loop r₀)) (h1 : 1 ≤ n) {gf : Nat} {lb : Array Value} (hg : a.eval g = .func (.func gf) #[] lb) (hFg : F.fn gf) (eg : ∀ args w, (callFunc gf args).run P w = .ok (.enter gf args) w)
    (enc : α → Array Value) (hps : ∀ x, (enc x).size = ps.size) (Rd : Nat → α → World → Prop) (Dn : Nat → World → Prop) (Sx : Code → World → Prop) (Kp : World → World → Prop) (N : Nat)
    (hRp : ∀ j x W l (o : Loop) o', Rd j x W → w.heap.size ≤ l → W.heap[l]? = some (.loop o) → Rd j x (W.putObj l o'))
    (hDp : ∀ j W l (o : Loop) o', Dn j W → w.heap.size ≤ l → W.heap[l]? = some (.loop o) → Dn j (W.putObj l o'))
    (hSp : ∀ c W l o o', Sx c W → w.heap.size ≤ l → W.heap[l]? = some o → o.isCells = false → Sx c (W.putObj l o'))
    (hKt : ∀ A B C, Kp A B → Kp B C → Kp A C)
    (hKp : ∀ W l o o', w.heap.size ≤ l → W.heap[l]? = some o → o.isCells = false → Kp W (W.putObj l o'))
    (hD0 : ∀ o, Dn 0 (w.alloc o)) (a₁ : α → Act)
    (hassign : ∀ (l : Nat) (x : α) (W : World) (K : Act → World → Prop), K (a₁ x) W → assign.wpIn (F.inRound l) (n - 1 - 1) P (Exit.then K (fun _ _ _ => False)) { tmps := (ps.zip (enc x)).foldl (fun t (p, v) => t.setIfInBounds p v) a.tmps, defers := [] } W)
    (hbody : ∀ (l j : Nat) (x : α) (W : World), w.heap.size ≤ l → (∃ r, W.heap[l]? = some (.loop r)) → Rd j x W → j < N → body.wpIn (F.inRound l) (n - 1 - 1) P (stopPost w.heap.size Kp (Dn (j + 1)) Sx W) (a₁ x) W)
    (hiter : ∀ (Bk : World → Prop) (X : World → Prop) (l : Nat) (W : World), (∀ A B, Bk A → A.heap.size ≤ B.heap.size → (∀ k, w.heap.size ≤ k → k < w.heap.size + 1 → B.heap[k]? = A.heap[k]?) → Bk B) → (∀ A, Bk A → w.heap.size + 1 ≤ A.heap.size) →
      (∀ A l' o o', X A → w.heap.size + 1 ≤ l' → A.heap[l']? = some o → o.isCells = false → X (A.putObj l' o')) → l < w.heap.size + 1 → Dn 0 W → Bk W →
      (∀ j x W1, Rd j x W1 → Bk W1 → j < N → YieldAt F (n - 1 - 1) P l (enc x) W1 (YPost w.heap.size l Kp (fun W2 => Dn (j + 1) W2 ∧ Bk W2) X W1)) →
      CallsIn F (n - 1) P gf (#[.func (.yield l) #[] #[]] ++ lb) W fun e W' => (∃ v, e = .returned v) ∧ ((Dn N W' ∧ Bk W') ∨ X W'))
    (hdone : ∀ (W : World), Dn N W → Q .normal a W)
    (hstop : ∀ (c : Code) (W : World), Sx c W → c.wpIn F n P Q a W) :
    (Code.rangeFunc g ps assign body).wpIn F n P Q a w := by
  apply wpIn_rangeFunc
  intro fn hfn
  rw [hro]
  have hent := run_enterLoop_inner (P := P) (w := w) hl₀ fn a.tmps ps assign body
  obtain ⟨lp, hlp⟩ : ∃ lp : LoopState → Option Code → Loop, lp = fun st pe => { state := st, pending := pe, fn := fn, tmps := a.tmps, params := ps, assign := assign, body := body, defers := r₀.defers } := ⟨_, rfl⟩
  have hlp0 : ({ state := .ready, pending := none, fn, tmps := a.tmps, params := ps, assign, body, defers := r₀.defers } : Loop) = lp .ready none := by rw [hlp]
  rw [hlp0] at hent
  have hD0' := hD0 (.loop (lp .ready none))
  have hl0 : (w.alloc (.loop (lp .ready none))).heap[w.heap.size]? = some (.loop (lp .ready none)) := World.alloc_heap_new w _
  generalize w.alloc (.loop (lp .ready none)) = W0 at *
  refine ⟨_, _, _, { target := .fn (.func gf) lb, args := #[.func (.yield w.heap.size) #[] #[]] }, W0, gf, #[.func (.yield w.heap.size) #[] #[]] ++ lb, W0, hent, ?_, ?_, ?_, fun _ => h1, ?_⟩
  · simp only [resolve, hg]
    simp [go_sem]
  · intro f' hf'
    simp [Target.leads] at hf'
    subst hf'
    exact hFg
  · simp [invoke, go_sem, eg]
  let Bk : World → Prop := fun W => W.heap[w.heap.size]? = some (.loop (lp .ready none))
  let X : World → Prop := fun W => ∃ c, Sx c W ∧ W.heap[w.heap.size]? = some (.loop (lp .done (some c)))
  have hBlt : ∀ A, Bk A → w.heap.size + 1 ≤ A.heap.size := fun A h => (Array.getElem?_eq_some_iff.1 h).1
  refine (hiter Bk X w.heap.size W0 (fun A B hA _ hAB => (hAB _ (by omega) (by omega)).trans hA) hBlt
    (fun A l' o o' hA hl' ho hc => by
      obtain ⟨c, h1, h2⟩ := hA
      exact ⟨c, hSp c A l' o o' h1 (by omega) ho hc, (World.putObj_heap_other (by omega)).trans h2⟩) (by omega) hD0' hl0 ?_).mono ?_
  · rintro j x W1 hR hB hj
    have hsz := hBlt W1 hB
    have hy := run_yield (P := P) (args := enc x) hB (by rw [hlp]; exact hps x)
    have hbeg := run_beginRound (P := P) hB (by rw [hlp])
    rw [hlp] at hy hbeg
    refine ⟨fn, _, assign, body, hy, roundIn_of_wpIn hfn (hassign _ x W1 _ ⟨_, hbeg, ?_⟩)⟩
    have b1 : (W1.putObj w.heap.size (.loop { lp .ready none with state := .busy })).heap[w.heap.size]? = some (.loop { lp .ready none with state := .busy }) := World.putObj_heap_same (by omega)
    have b1r : ∃ r, (W1.putObj w.heap.size (.loop { lp .ready none with state := .busy })).heap[w.heap.size]? = some (.loop r) := ⟨_, b1⟩
    rw [hlp] at b1r
    refine wpIn_mono (hbody _ j x _ (by omega) b1r (hRp j x W1 _ _ _ hR (by omega) hB) hj) ?_
    have hK1 := hKp W1 w.heap.size _ (.loop { lp .ready none with state := .busy }) (by omega) hB rfl
    rw [hlp] at b1 hK1
    have fin : ∀ (jump : Option Code) (W3 : World), KeepsFrom w.heap.size (W1.putObj w.heap.size (.loop { lp .ready none with state := .busy })) W3 →
        (Instr.endRound w.heap.size jump).run P W3 = .ok (.bool jump.isNone) (W3.putObj w.heap.size (.loop (lp (if jump.isNone then .ready else .done) jump))) ∧
        W3.heap[w.heap.size]? = some (.loop { lp .ready none with state := .busy }) ∧
        (W3.putObj w.heap.size (.loop (lp (if jump.isNone then .ready else .done) jump))).heap[w.heap.size]? = some (.loop (lp (if jump.isNone then .ready else .done) jump)) ∧
        KeepsBut w.heap.size w.heap.size W1 (W3.putObj w.heap.size (.loop (lp (if jump.isNone then .ready else .done) jump))) := fun jump W3 hk => by
      rw [hlp] at hk ⊢
      have c1 := hk.same _ _ (by omega) b1 rfl
      have hend := run_endRound (P := P) jump c1
      refine ⟨hend, c1, World.putObj_heap_same (Array.getElem?_eq_some_iff.1 c1).1, ?_, ?_⟩
      · have h1 := hk.size
        simp only [World.putObj, Array.size_setIfInBounds] at h1 ⊢
        exact h1
      · intro k o hkl hk2 ho hc
        exact (World.putObj_heap_other (by omega)).trans (hk.same k o hk2 ((World.putObj_heap_other (by omega)).trans ho) hc)
    rintro e a3 W3 hp
    rw [hlp] at fin
    cases e with
    | normal =>
      obtain ⟨hk, hDn, hKp3⟩ := hp
      obtain ⟨hend, c1, d1, hkb⟩ := fin none W3 hk
      exact ⟨_, _, hend, .inl ⟨rfl, ⟨hDp _ _ _ _ _ hDn (by omega) c1, by show _ = _; rw [hlp]; exact d1⟩, hKt _ _ _ hK1 (hKt _ _ _ hKp3 (hKp W3 _ _ _ (by omega) c1 rfl)), hkb⟩⟩
    | ret =>
      obtain ⟨hk, hx⟩ := hp
      obtain ⟨hend, c1, d1, hkb⟩ := fin (some .ret) W3 hk
      exact ⟨_, _, hend, .inr ⟨rfl, ⟨.ret, hSp _ _ _ _ _ hx (by omega) c1 rfl, by rw [hlp]; exact d1⟩, hkb⟩⟩
    | exit id =>
      obtain ⟨hk, hx⟩ := hp
      obtain ⟨hend, c1, d1, hkb⟩ := fin (some (.exit id)) W3 hk
      exact ⟨_, _, hend, .inr ⟨rfl, ⟨.exit id, hSp _ _ _ _ _ hx (by omega) c1 rfl, by rw [hlp]; exact d1⟩, hkb⟩⟩
    | goto t => exact hp.elim
    | panic ch => exact hp.elim
    | outgrown => exact hp.elim
  · rintro e W2 ⟨⟨v, rfl⟩, ⟨hDN, hB⟩ | ⟨c, hc, hl⟩⟩
    · have hend := run_endLoop (P := P) hB (by rw [hlp]; simp)
      rw [hlp] at hend
      exact ⟨none, _, hend, hdone _ (hDp _ _ _ _ _ hDN (by omega) hB)⟩
    · have hend := run_endLoop (P := P) hl (by rw [hlp]; simp)
      rw [hlp] at hend
      exact ⟨some c, _, hend, hstop c _ (hSp _ _ _ _ _ hc (by omega) hl rfl)⟩
end
end Go.Proofs.Ytfdbcfkjablnkaa

namespace Go.Proofs.Ytfdbcfkjablnkaa
open Go.RowKit Go.Shelf
set_option maxRecDepth 100000
attribute [local go_sem] Oper.semAt_some

namespace Sl
theorem one_at (n : Nat) : ∀ (C : Ct), Keys C → C.countP (fun p => p.1 == n) = if has C n then 1 else 0
  | [], _ => rfl
  | p :: r, h => by
    have h' : (∀ x ∈ r, x.1 ≠ p.1) ∧ Keys r := by
      unfold Keys at h ⊢
      rw [List.map_cons, List.nodup_cons] at h
      exact ⟨fun x hx e => h.1 (List.mem_map.2 ⟨x, hx, e⟩), h.2⟩
    rw [List.countP_cons, one_at n r h'.2]
    by_cases e : p.1 = n
    · have hr : has r n = false := by
        simp only [has, List.any_eq_false]
        intro x hx
        have := h'.1 x hx
        simp only [beq_iff_eq]
        omega
      rw [if_neg (by rw [hr]; decide)]
      have e2 : has (p :: r) n = true := by simp [has, e]
      rw [if_pos e2]
      simp [e]
    · have e2 : (p.1 == n) = false := by simpa using e
      have e3 : has (p :: r) n = has r n := by simp only [has, List.any_cons, e2, Bool.false_or]
      rw [e3, e2]
      simp
theorem mis_upto (C : Ct) (h : Keys C) : ∀ n : Nat, (mis C n).length + C.countP (fun p => decide (p.1 < n)) = n
  | 0 => by simp [mis]
  | n + 1 => by
    have ih := mis_upto C h n
    have e : C.countP (fun p => decide (p.1 < n + 1)) = C.countP (fun p => decide (p.1 < n)) + C.countP (fun p => p.1 == n) := by
      clear ih h
      induction C with
      | nil => rfl
      | cons p r ih =>
        rw [List.countP_cons, List.countP_cons, List.countP_cons, ih]
        rcases Nat.lt_trichotomy p.1 n with h | h | h
        · have h1 : p.1 < n + 1 := by omega
          have h2 : (p.1 == n) = false := by simp; omega
          simp [h, h1, h2]; omega
        · simp [h]; omega
        · have h1 : ¬ p.1 < n + 1 := by omega
          have h2 : (p.1 == n) = false := by simp; omega
          have h3 : ¬ p.1 < n := by omega
          simp [h1, h2, h3]
    rw [mis_succ, List.length_append, e, one_at n C h]
    by_cases hh : has C n = true <;> simp [hh] <;> omega
theorem mis_count {C : Ct} (h : Keys C) {n : Nat} (hn : ∀ p ∈ C, p.1 < n) : (mis C n).length + C.length = n := by
  have h1 := mis_upto C h n
  rwa [List.countP_eq_length.2 (fun p hp => by simpa using hn p hp)] at h1
end Sl
theorem store_funcJ (W : World) (t : TypeId) (f : FuncId) (lb : Array Value) : (store ⟨W.heap.size, 0, none⟩ (.func (.func f) #[] lb)).run Try.prog (W.alloc (.cells #[.nilFunc] t)) = .ok () (W.alloc (.cells #[.func (.func f) #[] lb] t)) := by
  have hg := heap_alloc_new W (.cells #[.nilFunc] t)
  rw [run_store Try.prog _ _ _ _ (by rfl), cell_of_row _ _ 0 _ _ _ hg, frozen_of_row _ _ 0 _ _ hg, setCell_eq_setRow _ _ 0 _ t (0, 0) _ hg, World.setRow_alloc_new]
  rfl
theorem jwait_func (p : Nat) (w : World) : (Instr.makeFunc (.func 24) #[] #[.pointer (some ⟨p, 0, none⟩)]).run Try.prog w = .ok (.func (.func 24) #[] #[.pointer (some ⟨p, 0, none⟩)]) w := by kernel_rfl
theorem jwait_not_nil (p : Nat) (w : World) : (binOp .eql 46 (.func (.func 24) #[] #[.pointer (some ⟨p, 0, none⟩)]) .nilFunc).run Try.prog w = .ok (.bool false) w := by kernel_rfl
theorem jwait1_not_nil (w : World) : (binOp .eql 46 (.func (.func 22) #[] #[]) .nilFunc).run Try.prog w = .ok (.bool false) w := by kernel_rfl
theorem jwait_nil (w : World) : Calls Try.prog 10 #[.pointer none] w fun e w' => e = .returned (.func (.func 22) #[] #[]) ∧ w' = w := by
  go_enter Try.func10, Try.ntmps10
  go_wp2
  go_ret
  exact ⟨rfl, rfl⟩
theorem jwait1_in (n l : Nat) (W : World) :
    CallsIn Fence.wide n Try.prog 22 #[.func (.yield l) #[] #[]] W fun e W' => (∃ v, e = .returned v) ∧ W' = W := by
  refine callsIn_of_wp Try.func22 rfl trivial ?_ rfl
  simp only [Try.ntmps22, List.size_toArray, List.length_cons, List.length_nil, Nat.reduceAdd, Nat.reduceSub, Array.replicate_succ, Array.replicate_zero, List.push_toArray, List.append_toArray, List.nil_append, List.cons_append]
  gi_wp2
  first | go_end0 | (rw [Exit.noGoto_normal]; go_end0) | (refine bodyPost_ret (results_none rfl _ _ _) rfl ?_)
  exact ⟨⟨_, rfl⟩, rfl⟩
theorem jwait_any {w : World} {S : Nat → Prop} {bj bw b r : Nat} {t : Int} {q : Nat} {T : List Tb.Ms} (h : JAt w S bj bw b r t q T) :
    Calls Try.prog 10 #[.pointer (some ⟨bj, 0, none⟩)] w fun e w' => ∃ Bs p c m A n cp X, e = .returned (.func (.func 24) #[] #[.pointer (some ⟨Bs, 0, none⟩)]) ∧
      Boxed w' Bs 66 (.func (.func 38) #[] #[.pointer (some ⟨p, 0, none⟩)]) ∧ Boxed w' p 53 (.pointer (some ⟨c, 0, none⟩)) ∧ w.heap.size ≤ Bs ∧ w.heap.size ≤ p ∧
      TblAt w' (fun q => w.heap.size ≤ q) c r m A n cp X ∧ Tb.Likes T (X.map Sx.ms) ∧ Below w.heap.size w w' := by
  obtain ⟨m, A, n, cp, X, hT, hX⟩ := h.tbl
  subst hX
  have K := tall_any hT
  have hmf := jwait_func
  obtain ⟨c0, c1⟩ := h.cells
  clear h hT
  go_enter Try.func10, Try.ntmps10
  go_wp2_with fail
  refine K.mono ?_
  rintro e w1 ⟨p, c, m', A', cp', X', rfl, hbx, hp, hT, hL, hb⟩
  have HT := Lib.hid hT
  have HL := Lib.hid hL
  have HB := Lib.hid hb
  have HBX := Lib.hid hbx
  have hst := store_funcJ w1 66 38 #[.pointer (some ⟨p, 0, none⟩)]
  clear K hT hL hb hbx
  go_wp2
  go_ret
  have hal := (Below.refl w1.heap.size w1).alloc (Nat.le_refl _) (.cells #[.func (.func 38) #[] #[.pointer (some ⟨p, 0, none⟩)]] 66)
  exact ⟨w1.heap.size, p, c, m', A', n, cp', X', rfl, Boxed.new w1 _ _, HBX.out.alloc _, HB.out.size, hp, HT.out.below hal, HL.out, HB.out.trans (hal.mono HB.out.size)⟩
/-- how many a slot lacks -/
theorem lacks_of {w : World} {x y : Sx} (hy : y.At w) (hl : Tb.Like x.ms y.ms) : ∃ n : Nat, y.c = (n : Int) ∧ ((misZ (y.E.map Pl.ct) n).length : Int) = x.c - (x.E.length : Int) := by
  obtain ⟨n, hn, _, _, _, hlt⟩ := SlotAt.count hy
  refine ⟨n, hn, ?_⟩
  have h1 := Sl.mis_count (SlotAt.keys hy) (n := n) fun p hp => by
    obtain ⟨z, hz, rfl⟩ := List.mem_map.1 hp
    exact hlt z hz
  have h2 := hl.2.2.2.2.length_eq
  have h3 : y.c = x.c := hl.2.2.2.1
  simp only [Sx.ms, List.length_map] at h1 h2
  rw [misZ_len]
  omega
set_option maxHeartbeats 8000000 in
/-- the iterator: v is what the table's box holds, X its slots -/
theorem jwait_in (n : Nat) (hn : 8 ≤ n) (m' l Bs s0 p : Nat) (v : Option Addr) (X : List Sx) (Dn : Nat → World → Prop) (Bk Xp : World → Prop) (Kp : World → World → Prop) (hls : l < s0 + 2)
    (hDb : ∀ j A B, Dn j A → Below s0 A B → Dn j B) (hDx : ∀ j V, Dn j V → V.cell? ⟨p, 0, none⟩ = some (.pointer v) ∧ ∀ x ∈ X, x.At V)
    (hBk : ∀ A B, Bk A → A.heap.size ≤ B.heap.size → (∀ k, s0 ≤ k → k < s0 + 2 → B.heap[k]? = A.heap[k]?) → Bk B) (hBlt : ∀ A, Bk A → s0 + 2 ≤ A.heap.size)
    (hX : ∀ A l' o o', Xp A → s0 + 2 ≤ l' → A.heap[l']? = some o → o.isCells = false → Xp (A.putObj l' o'))
    (hKp : ∀ V V' k cs t, Kp V V' → s0 + 2 ≤ k → V.heap[k]? = some (.cells cs t (0, 0)) → V'.heap[k]? = some (.cells cs t (0, 0)))
    (hI : ∀ (l2 Bs2 : Nat) (J : Nat → World → Prop) (Jx : World → Prop), (∀ j V, J j V → V.cell? ⟨Bs2, 0, none⟩ = some (.pointer v) ∧ ∃ k, Dn k V) →
      (∀ (j : Nat) (x : Sx) (V : World), J j V → X[j]? = some x → YieldAt Fence.wide (n - 1 - 1 - 1) Try.prog l2 #[.int .u32 x.s, .pointer (some ⟨x.b, 0, none⟩)] V fun e W' => (e = .returned (.bool true) ∧ J (j + 1) W') ∨ (e = .returned (.bool false) ∧ Jx W')) →
      ∀ V, J 0 V → CallsIn Fence.wide (n - 1 - 1) Try.prog 56 #[.func (.yield l2) #[] #[], .pointer (some ⟨Bs2, 0, none⟩)] V fun e W' => (∃ v, e = .returned v) ∧ (J X.length W' ∨ Jx W'))
    (hY : ∀ (j : Nat) (x : Sx) (V : World), Dn j V → X[j]? = some x → Bk V →
      YieldAt Fence.wide m' Try.prog l #[.int .u32 x.s, .int .i64 (x.c - (x.E.length : Int))] V (YPost s0 l Kp (fun W2 => Dn (j + 1) W2 ∧ Bk W2) Xp V))
    (W : World) (hBs : W.cell? ⟨Bs, 0, none⟩ = some (.func (.func 38) #[] #[.pointer (some ⟨p, 0, none⟩)])) (hD0 : Dn 0 W) (hB0 : Bk W) :
    CallsIn Fence.wide n Try.prog 24 #[.func (.yield l) #[] #[], .pointer (some ⟨Bs, 0, none⟩)] W fun e W' => (∃ v, e = .returned v) ∧ ((Dn X.length W' ∧ Bk W') ∨ Xp W') := by
  have hsW := hBlt W hB0
  have hBsl := block_of_cell hBs
  simp only at hBsl
  obtain ⟨W2, hW2⟩ : ∃ W2, W.alloc (.cells #[.func (.yield l) #[] #[]] 64) = W2 := ⟨_, rfl⟩
  have hb2 : Below W.heap.size W W2 := by rw [← hW2]; exact (Below.refl _ W).alloc (Nat.le_refl _) _
  have hyb2 : Boxed W2 W.heap.size 64 (.func (.yield l) #[] #[]) := by rw [← hW2]; exact Boxed.new W _ _
  have hs2 : W2.heap.size = W.heap.size + 1 := by rw [← hW2]; simp
  have hBs2 := (hb2.cell (p := ⟨Bs, 0, none⟩) hBsl).trans hBs
  have hD2 := hDb 0 _ _ hD0 (hb2.mono (by omega : s0 ≤ W.heap.size))
  have hB2 : Bk W2 := hBk _ _ hB0 hb2.size (fun k _ h2 => hb2.block k (by omega))
  have HW2 := Lib.hid hW2
  clear hW2 hBs hD0 hB0 hb2
  refine callsIn_of_wp_marks Try.func24 rfl trivial ?_ rfl
  simp only [Try.ntmps24, List.size_toArray, List.length_cons, List.length_nil, Nat.reduceAdd, Nat.reduceSub, Array.replicate_succ, Array.replicate_zero, List.push_toArray, List.append_toArray, List.nil_append, List.cons_append]
  gi_wp2_with fail
  refine wpIn_wide.2 (wp_scope_straight ((wpIn_wide (n := n)).1 ?_))
  gi_wp2_with fail
  apply wpIn_label
  rw [HW2.out]
  obtain ⟨BX, hBX⟩ : ∃ BX : World → Prop, BX = fun V => W2.heap.size ≤ V.heap.size ∧ Boxed V W.heap.size 64 (.func (.yield l) #[] #[]) := ⟨_, rfl⟩
  have hBX0 : ∀ V, BX V → W2.heap.size ≤ V.heap.size ∧ V.cell? ⟨W.heap.size, 0, none⟩ = some (.func (.yield l) #[] #[]) := fun V hV => by
    rw [hBX] at hV
    exact ⟨hV.1, hV.2.cell⟩
  have hBXb : ∀ V V', BX V → Below W2.heap.size V V' → BX V' := fun V V' h hb => by
    rw [hBX] at h ⊢
    exact ⟨Nat.le_trans h.1 hb.size, (hb.block _ (by omega)).trans h.2⟩
  have hBXk : ∀ V V', BX V → Kp V V' → V.heap.size ≤ V'.heap.size → BX V' := fun V V' h hk hsz => by
    rw [hBX] at h ⊢
    exact ⟨Nat.le_trans h.1 hsz, hKp _ _ _ _ _ hk (by omega) h.2⟩
  have hBX2 : BX W2 := by rw [hBX]; exact ⟨Nat.le_refl _, hyb2⟩
  have hW1b : ∀ j V, Dn j V ∧ Bk V ∧ BX V → ∀ V', Below W2.heap.size V V' → Dn j V' ∧ Bk V' ∧ BX V' := fun j V h V' hb =>
    ⟨hDb _ _ _ h.1 (hb.mono (by omega)), hBk _ _ h.2.1 hb.size (fun k _ h2 => hb.block k (by omega)), hBXb _ _ h.2.2 hb⟩
  clear hyb2 hBX HW2
  gi_wp2_with fail
  refine range_stopsR rfl (by omega) (gf := 38) (lb := #[.pointer (some ⟨p, 0, none⟩)]) rfl trivial (enters_of Try.func38 (by kernel_rfl) rfl)
    (fun x : Sx × Sx => #[Value.int .u32 x.1.s, .pointer (some ⟨x.2.b, 0, none⟩)]) (fun _ => rfl)
    (fun j x V => (Dn j V ∧ Bk V ∧ BX V) ∧ X[j]? = some x.1 ∧ x.2.At V ∧ Tb.Like x.1.ms x.2.ms)
    (fun j V => Dn j V ∧ Bk V ∧ BX V) (fun cd V => cd = .exit 0 ∧ Xp V)
    (fun V V' => ∀ k cs t, W2.heap.size + 2 ≤ k → V.heap[k]? = some (.cells cs t (0, 0)) → V'.heap[k]? = some (.cells cs t (0, 0))) X.length
    (fun j x V l o o' h hl ho => ⟨hW1b j V h.1 _ (below_put V o' hl), h.2.1, by
      have hof : Off (fun q => q = l) V (V.putObj l o') := ⟨rfl, rfl, rfl, by simp, fun k _ hk => World.putObj_heap_other hk⟩
      refine ⟨h.2.2.1.off hof (fun cs h1 e => ?_) (fun e => ?_) (fun g cs h1 e => ?_), h.2.2.2⟩
      · rw [e, ho] at h1; injection h1 with h1; cases h1
      · obtain ⟨_, _, h1, _⟩ := SlotAt.map h.2.2.1
        rw [e, ho] at h1; injection h1 with h1; cases h1
      · rw [e, ho] at h1; injection h1 with h1; cases h1⟩)
    (fun j V l o o' h hl ho => hW1b j V h _ (below_put V o' hl))
    (fun cd V l o o' h hl ho hc => ⟨h.1, hX V l o o' h.2 (by omega) ho hc⟩)
    (fun _ _ _ h k q cs t h1 h2 => k q cs t h1 (h q cs t h1 h2))
    (fun V l o o' hl ho hc q cs t h1 h2 => (World.putObj_heap_other (fun e => by
      rw [e, ho] at h2; injection h2 with h2; rw [h2] at hc; cases hc)).trans h2)
    (fun o => hW1b 0 W2 ⟨hD2, hB2, hBX2⟩ _ (((Below.refl W2.heap.size W2).alloc (Nat.le_refl _) _).alloc (by simp) _)) ?a1 ?assign ?body ?iter ?done ?stop
  case assign =>
    intro l x V K hK
    gi_wp2
    exact hK
  case body =>
    rintro l' j ⟨x, y⟩ V hl' ⟨rc, hrc⟩ ⟨hV, hxj, hyat, hlike⟩ hj
    simp only at hxj hyat hlike
    obtain ⟨N, hyc, hlack⟩ := lacks_of hyat hlike
    obtain ⟨LM, hLM⟩ : ∃ LM, misZ (y.E.map Pl.ct) N = LM := ⟨_, rfl⟩
    have hLM5 : LM.length ≤ 255 := by
      have h1 := Sl.mis_few (y.E.map Pl.ct) N
      obtain ⟨N', hN', _, h2, _⟩ := SlotAt.count hyat
      rw [← hLM, misZ_len]
      omega
    obtain ⟨V1, hV1⟩ : ∃ V1, V.alloc (.cells #[.int .i64 0] 3) = V1 := ⟨_, rfl⟩
    have hb1 : Below V.heap.size V V1 := by rw [← hV1]; exact (Below.refl _ V).alloc (Nat.le_refl _) _
    have bI1 : Boxed V1 V.heap.size 3 (.int .i64 ((0 : Nat) : Int)) := by rw [← hV1]; exact Boxed.new V _ _
    have hs1 : V1.heap.size = V.heap.size + 1 := by rw [← hV1]; simp
    have hy1 := SlotAt.below hyat hb1
    rw [hyc] at hy1
    have KM := smissing_any hy1
    rw [hLM] at KM
    rw [hLM] at hlack
    have HV1 := Lib.hid hV1
    have HV := Lib.hid hV
    have HXJ := Lib.hid hxj
    have HLK := Lib.hid hlack
    have HB1 := Lib.hid hb1
    clear hV1 hV hxj hyat hlike hyc hlack hy1 hb1 hLM hD2 hB2 hBX2
    gi_wp2_with fail
    refine ⟨trivial, fun _ => by omega, ?_⟩
    rw [HV1.out]
    refine (callsIn_wide.2 KM).mono ?_
    rintro e V2 ⟨Bv, A, cp, rfl, hb2, hBv, hbx, hcp, hnum⟩
    have hb12 := HB1.out.trans (hb2.mono HB1.out.size)
    have hrc2 : V2.heap[l']? = some (.loop rc) := (hb12.block l' (Array.getElem?_eq_some_iff.1 hrc).1).trans hrc
    have bI2 : Boxed V2 V.heap.size 3 (.int .i64 ((0 : Nat) : Int)) := (hb2.block _ (by omega)).trans bI1
    have hbl : V.heap.size < V2.heap.size := bI2.lt
    have hs2' := hb2.size
    have HB2 := Lib.hid hb12
    have HBX := Lib.hid hbx
    have HNM := Lib.hid hnum
    have hBvl := hbx.lt
    have HRC := Lib.hid hrc2
    have HI2 := Lib.hid bI2
    clear HV1 HB1 hb2 hb12 hrc hrc2 bI1 bI2 hbx hnum KM
    gi_wp2_with fail
    refine range_stopsN (F := Fence.wide.inRound l') rfl HRC.out (by omega) (gf := 59) (lb := #[.pointer (some ⟨Bv, 0, none⟩)]) rfl trivial (enters_of Try.func59 (by kernel_rfl) rfl)
      (fun z : Int => #[Value.int .i64 z]) (fun _ => rfl)
      (fun j z U => Ld V2 V.heap.size 3 j U ∧ LM[j]? = some z)
      (fun j U => Ld V2 V.heap.size 3 j U) (fun _ _ => False) (fun _ _ => True) LM.length
      (fun j z U l o o' h hl ho => ⟨h.1.below hbl (below_put U o' hl), h.2⟩)
      (fun j U l o o' h hl ho => h.below hbl (below_put U o' hl))
      (fun _ _ _ _ _ h _ _ _ => h) (fun _ _ _ _ _ => trivial) (fun _ _ _ _ _ _ _ => trivial)
      (fun o => Ld.below ⟨HI2.out, Off.refl _ _⟩ hbl ((Below.refl V2.heap.size V2).alloc (Nat.le_refl _) _)) ?b1 ?assign2 ?body2 ?iter2 ?done2 ?stop2
    case assign2 =>
      intro l2 z U K hK
      gi_wp2
      exact hK
    case body2 =>
      rintro l2 i z U hl2 _ ⟨hLd, _⟩ hi
      have kI := hLd.1.cell
      have fI := hLd.1.frozen
      have hi2 : (i : Int) ≤ 255 := by omega
      have hlu := Lib.hid hLd
      clear hLd
      gi_wp2
      exact ⟨(KeepsOthers.setCell U ⟨V.heap.size, 0, none⟩ (.int .i64 ((i : Int) + 1))).from V2.heap.size, hlu.out.next hbl (Below.refl _ U), trivial⟩
    case iter2 =>
      intro Bk2 X2 l2 U hBk2 hBlt2 hX2 hl2 hD2 hBU hYU
      refine (values_in (n - 1 - 1 - 1) (by omega) (n - 1 - 1 - 1 - 1) l2 Bv A LM.length cp LM rfl (by omega) (fun j U => Ld V2 V.heap.size 3 j U ∧ Bk2 U) X2 (fun i U' h => ⟨V2.heap.size, ?_⟩) (fun i z U' h hz => ?_) U ?_ ⟨hD2, hBU⟩).mono fun _ _ h => h
      · exact (HNM.out.keeps ⟨h.1.2.size, fun k (hk : V1.heap.size ≤ k ∧ k < Bv) => h.1.2.block k (by omega) (by omega)⟩).nums fun k (hk : V1.heap.size ≤ k ∧ k < Bv) => by omega
      · refine (hYU i z U' ⟨h.1, hz⟩ h.2 (List.getElem?_eq_some_iff.1 hz).1).mono ?_
        rintro e V3 (⟨rfl, hd, _, _⟩ | ⟨rfl, hx, _⟩)
        · exact .inl ⟨rfl, hd⟩
        · exact .inr ⟨rfl, hx⟩
      · exact (show Boxed U Bv 90 (.slice A LM.length cp) from (hD2.2.block Bv hBvl (by omega)).trans HBX.out).cell
    case done2 =>
      rintro U hLd
      have kI := hLd.1.cell
      have hVU : Below V.heap.size V U := HB2.out.trans (hLd.2.below (fun k hk => by omega) HB2.out.size)
      obtain ⟨hDU, hBU, hXU⟩ := hW1b j V HV.out U (hVU.mono (hBX0 V HV.out.2.2).1)
      have hsV := (hBX0 V HV.out.2.2).1
      obtain ⟨hsU, kY⟩ := hBX0 U hXU
      have hyld := hY j x U hDU HXJ.out hBU
      rw [← HLK.out] at hyld
      obtain ⟨fn, tmps, assign, body, hyr, hR⟩ := yield_any (n - 1 - 1 - 1) hyld
      have HR := Lib.hid hR
      have HVU := Lib.hid hVU
      have HXU := Lib.hid hXU
      have HLd := Lib.hid hLd
      clear hR hyld hDU hBU hXU hVU hLd HBX HNM HRC HI2 HB2
      gi_wp2_with fail
      refine ⟨fun _ => by omega, ?_⟩
      refine RoundIn.mono (F := Fence.wide.inRound l') HR.out ?_
      rintro e V3 (⟨rfl, ⟨hd, hb⟩, hk, hkb⟩ | ⟨rfl, hx, hkb⟩)
      · have hX3 := hBXk _ _ HXU.out hk hkb.size
        have hfin := Lib.hid (show KeepsFrom W2.heap.size V V3 ∧ (Dn (j + 1) V3 ∧ Bk V3 ∧ BX V3) ∧ ∀ k cs t, W2.heap.size + 2 ≤ k → V.heap[k]? = some (.cells cs t (0, 0)) → V3.heap[k]? = some (.cells cs t (0, 0)) from
          ⟨⟨Nat.le_trans HVU.out.size hkb.size, fun q o h1 h2 h3 => hkb.same q o (by omega) (by omega) ((HVU.out.block q (Array.getElem?_eq_some_iff.1 h2).1).trans h2) h3⟩, ⟨hd, hb, hX3⟩, fun k cs t h1 h2 => hKp _ _ _ _ _ hk (by omega) ((HVU.out.block k (Array.getElem?_eq_some_iff.1 h2).1).trans h2)⟩)
        clear hd hb hk hkb hX3 HR
        gi_wp2
        exact hfin.out
      · have hfin := Lib.hid (show KeepsFrom W2.heap.size V V3 ∧ Xp V3 from
          ⟨⟨Nat.le_trans HVU.out.size hkb.size, fun q o h1 h2 h3 => hkb.same q o (by omega) (by omega) ((HVU.out.block q (Array.getElem?_eq_some_iff.1 h2).1).trans h2) h3⟩, hx⟩)
        clear hx hkb HR
        gi_wp2
        exact ⟨hfin.out.1, rfl, hfin.out.2⟩
    case stop2 =>
      rintro cd U h
      exact h.elim
  case iter =>
    intro Bk2 X2 l2 V hBk2 hBlt2 hX2 hl2 hDV hBV hYV
    refine tall_in (n - 1) (by omega) (n - 1 - 1) l2 p W2.heap.size v X (fun j V => Dn j V ∧ Bk V ∧ BX V) Bk2 X2 (fun V V' => ∀ k cs t, W2.heap.size + 2 ≤ k → V.heap[k]? = some (.cells cs t (0, 0)) → V'.heap[k]? = some (.cells cs t (0, 0))) hl2 (fun j A B h hb => hW1b j A h B hb) (fun j V h x hx => (hDx j V h.1).2 x hx) hBk2 hBlt2 hX2 (fun V V' k cs t h h1 h2 => h k cs t h1 h2) (fun l3 Bs3 J Jx hJ hYY V h0 => ?_) (fun j x y V h hx hy hlk hb => hYV j (x, y) V ⟨h, hx, hy, hlk⟩ hb (List.getElem?_eq_some_iff.1 hx).1) V (hDx 0 V hDV.1).1 hDV hBV
    refine hI l3 Bs3 J Jx (fun j V h => ?_) hYY V h0
    obtain ⟨h1, k, h2, _⟩ := hJ j V h
    exact ⟨h1, k, h2⟩
  case done =>
    rintro D V hD ⟨hDV, hBV, _⟩ hK
    have hfin := Lib.hid (And.intro (hDb _ _ _ hDV (below_put V (.deferred none) (by omega : s0 ≤ D))) (hBk _ _ hBV (by simp [World.putObj]) (fun k _ h2 => World.putObj_heap_other (by omega)) : Bk (V.putObj D (.deferred none))))
    clear hDV hBV hD2 hB2
    gi_wp2
    refine ⟨by simp, .inl ⟨_, _, rfl, run_takeDeferred hK, ?_⟩⟩
    refine ⟨_, results_none rfl _ _ _, ?_⟩
    exact ⟨⟨_, rfl⟩, .inl hfin.out⟩
  case stop =>
    rintro D cd V hD ⟨rfl, hx⟩ hK
    have hfin := Lib.hid (hX V D _ (.deferred none) hx (by omega) hK rfl)
    clear hx
    gi_wp2
    refine ⟨by simp, .inl ⟨_, _, rfl, run_takeDeferred hK, ?_⟩⟩
    refine ⟨_, results_none rfl _ _ _, ?_⟩
    exact ⟨⟨_, rfl⟩, .inr hfin.out⟩
end Go.Proofs.Ytfdbcfkjablnkaa

namespace Go.Proofs.Ytfdbcfkjablnkaa
open Go.RowKit Go.Shelf
set_option maxRecDepth 100000

theorem touts_any (A A' : Option Addr) (n cp cp' : Nat) (wh ev : Bool) (old : Int) (zs : List Int) (w : World) (hn : zs.length = n) (hl : n ≤ 1000000) (h1 : Nums .u8 w w.heap.size A zs) (h2 : Nums .u8 w w.heap.size A' zs) :
    Calls Try.prog 11 #[outV A n cp wh ev old, outV A' n cp' wh ev old] w fun e w' => e = .returned (.bool true) ∧ Below w.heap.size w w' := by
  obtain ⟨w0, hw0⟩ : ∃ w0, (w.alloc (.cells (outC A n cp wh ev old) 39)).alloc (.cells (outC A' n cp' wh ev old) 49) = w0 := ⟨_, rfl⟩
  have hb0 : Below w.heap.size w w0 := by rw [← hw0]; exact ((Below.refl _ w).alloc (Nat.le_refl _) _).alloc (by simp) _
  have KS := same_any w0.heap.size A A' n n cp cp' zs zs w0 hn hn (by omega) ((h1.below hb0).mono hb0.size) ((h2.below hb0).mono hb0.size)
  rw [decide_eq_true rfl] at KS
  have HKS := Lib.hid KS
  have HB := Lib.hid hb0
  clear KS hb0 h1 h2 hn
  subst hw0
  unfold outV
  simp only [outC] at HKS HB ⊢
  go_enter Try.func11, Try.ntmps11
  go_wp2_with fail
  refine HKS.out.mono ?_
  rintro e w1 ⟨rfl, nd, rfl⟩
  have HB1 := Lib.hid (below_drewN HB.out nd)
  clear HKS HB
  cases wh <;> cases ev
  all_goals (
    go_wp2
    go_ret
    exact ⟨rfl, HB1.out⟩)
end Go.Proofs.Ytfdbcfkjablnkaa

namespace Go.Proofs.Ytfdbcfkjablnkaa
open Go.ChangeShapes Go.WideShapes Go.RowKit
set_option maxRecDepth 100000

section
variable {H : Type} {enc : TypeId × Value → H} {w : World} {base : Nat} {spare : Nat → Bool} {held : Bool}
theorem open_head {r : Reach} {b0 : Nat} {x : Value} {d : DataW H} {p : List MemPlace} (hv : Value.okWide Try.prog w r b0 32 x) (h : DataW.Trod enc Try.prog w base spare held 32 x d p) :
    ∃ v k s i c : Int, x = hdV v k s i c ∧ (Lit.int .i64 v).wf = true ∧ (Lit.int .i64 k).wf = true ∧ (Lit.int .u32 s).wf = true ∧ (Lit.int .i64 i).wf = true ∧ (Lit.int .i64 c).wf = true := by
  obtain ⟨⟨cs⟩, rfl, hsz⟩ := okWide_struct Try.underlying32 hv
  have h5 : Try.prog.cellsOf 32 = 5 := by kernel_rfl
  rw [h5] at hsz
  obtain ⟨fuel, hf⟩ := h
  obtain ⟨xs, n, _, _, _, hlen, hg⟩ := DataW.trod_struct Try.underlying32 hf
  have one : ∀ (t : TypeId) (q : Nat) (kd : IntKind), Try.prog.underlying t = some (.int kd) → q < xs.length → DataW.trod enc Try.prog w base spare held n t ((cs.drop q).take 1) = xs[q]? → ∃ z, cs[q]? = some (.int kd z) ∧ (Lit.int kd z).wf = true := fun t q kd ht hq e => by
    rw [List.getElem?_eq_getElem hq] at e
    obtain ⟨z, e1, _, hz⟩ := DataW.trod_int ht e
    refine ⟨z, ?_, hz⟩
    have := congrArg (·[0]?) e1
    simpa [List.getElem?_take, List.getElem?_drop] using this
  have hl : xs.length = 5 := hlen
  have g0 := hg 0 _ rfl
  have g1 := hg 1 _ rfl
  have g2 := hg 2 _ rfl
  have g3 := hg 3 _ rfl
  have g4 := hg 4 _ rfl
  simp only [Value.cells] at g0 g1 g2 g3 g4
  obtain ⟨v, a0, r0⟩ := one 3 0 .i64 Try.underlying3 (by omega) g0
  obtain ⟨k, a1, r1⟩ := one 3 1 .i64 Try.underlying3 (by omega) g1
  obtain ⟨s, a2, r2⟩ := one 22 2 .u32 Try.underlying22 (by omega) g2
  obtain ⟨i, a3, r3⟩ := one 3 3 .i64 Try.underlying3 (by omega) g3
  obtain ⟨c, a4, r4⟩ := one 3 4 .i64 Try.underlying3 (by omega) g4
  refine ⟨v, k, s, i, c, ?_, r0, r1, r2, r3, r4⟩
  match cs, hsz, a0, a1, a2, a3, a4 with
  | [y0, y1, y2, y3, y4], _, a0, a1, a2, a3, a4 =>
    simp at a0 a1 a2 a3 a4
    subst a0 a1 a2 a3 a4
    rfl
end
end Go.Proofs.Ytfdbcfkjablnkaa
