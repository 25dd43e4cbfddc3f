/-
  A part of the texts of one proof, put together: BdyJ, In, Lens, RdA, RdB, RdW, Back, Clos, WordC, Meth, Meths, Q23, BdyR, BdyQ, BdyJt, BdyJu, BdyJv, Q24, BdyS.
-/
import Derived.WalkSpells
import Derived.Lib.SliceRun
import Derived.Deep.OwnRows
import Derived.Deep.RegionWith
import Derived.Test.YtmjbimmbphofjaaRows
import Derived.WalkLawsBesides
import Derived.WalkMore
import Derived.Lib.Hide
import Derived.Deep.LoopGhost
import Derived.RangeFuncNested
import Derived.RangeFuncBound
import Derived.RangeFuncCalls
import Derived.RangeFuncLeaves
import Derived.Shelf.Abstract
import Derived.Shelf.RegionOpen
import Derived.OwnWalkIn
import Derived.TacticsInMore
import Derived.LoopNIn
import Derived.LoopIn
import Derived.RangeFuncBox
import Derived.IntWalk
import Derived.RangeFuncWrites
import Derived.BigRegion
import Derived.Lib.Strings
import Derived.Lib.Slices
import Derived.Lib.Walk
import Derived.Lib.Bytes
import Derived.Test.YtmjbimmbphofjaaMDecDecodesProof4
namespace Go.Proofs.Ytmjbimmbphofjaa
open Go.RowKit Go.Shelf
set_option maxRecDepth 100000
attribute [local go_sem] Oper.semAt_some

/-- what came back is stored into a box in which its lists do not lie -/
theorem back_store {S S' : Nat → Prop} {W : World} {b8 : Nat} {M : Mg} {P C : Value} {old : Array Value} (hr : W.heap[b8]? = some (.cells old 36 (0, 0))) (ho : old.size = 11) (hm : MAt W W.heap.size M P C) (hs : Shun S' W M P C) (hb : S' b8) (hS : ∀ x, S x → S' x) :
    ∃ W', (Instr.storeAt 36 (.pointer (some ⟨b8, 0, none⟩)) (.agg (mC M P C))).run Try.prog W = .ok () W' ∧ W'.heap[b8]? = some (.cells (mC M P C) 36 (0, 0)) ∧ MAt W' W'.heap.size M P C ∧ Off (fun q => q = b8 ∨ q = b8) W W' ∧ Shun S W' M P C := by
  obtain ⟨⟨a, c, rfl, h2, h3⟩, ⟨a', c', rfl, h5, h6⟩⟩ := hm
  have hst := rm_store W b8 _ (mC M (.slice a M.p.length c) (.slice a' M.c.length c')) hr ho rfl (by simp [mC, Value.oneCell'])
  have hoff := Off.setRow (S := fun q => q = b8 ∨ q = b8) (Off.refl _ W) (.inr rfl) (mC M (.slice a M.p.length c) (.slice a' M.c.length c'))
  obtain ⟨k1, k2⟩ := hs.1 b8 hb
  have k1 := k1 _ _ _ rfl
  have k2 := k2 _ _ _ rfl
  refine ⟨_, hst, setRow_heap W b8 _ _ _ _ hr, ⟨⟨a, c, rfl, h2, (k1.keep hoff).nums⟩, ⟨a', c', rfl, h5, (k2.keep hoff).nums⟩⟩, hoff, fun x hx => ?_, fun a2 n2 c2 e => (by injection e with e; subst e; exact (hs.2.1 _ _ _ rfl).aside k1 hoff), fun a2 n2 c2 e => (by injection e with e; subst e; exact (hs.2.2 _ _ _ rfl).aside k2 hoff)⟩
  obtain ⟨j1, j2⟩ := hs.1 x (hS x hx)
  exact ⟨fun a2 n2 c2 e => by injection e with e; subst e; exact (j1 _ _ _ rfl).aside k1 hoff, fun a2 n2 c2 e => by injection e with e; subst e; exact (j2 _ _ _ rfl).aside k2 hoff⟩
set_option maxHeartbeats 8000000 in
theorem rfield_cells (S : Nat → Prop) (M : Mg) (f : Fd) (P C : Value) (A : Option Addr) (len cap : Nat) (l : List Int) (at' : Nat) (w : World) (hf : FdX f) (hso : f.so = 4) (hml : M.c.length ≤ 40) (hS : ∀ x, S x → x < w.heap.size) (hlen : l.length = len) (hll : len ≤ 1000000) (hby : Bys l) (hA : Nums .u8 w w.heap.size A l) (hat : at' ≤ len) (h1 : MAt w w.heap.size M P C) (hsh : Shun S w M P C) :
    Calls Try.prog 41 #[mV M P C, f.v, .slice A len cap, .int .i64 (at' : Int)] w fun e w' => RdS S w (rdF M f (l.drop at')) at' e w' := by
  obtain ⟨w2, hw2⟩ : ∃ w2, ((w.alloc (.cells (mC M P C) 36)).alloc (.cells f.cs 46)).alloc (.cells #[.int .i64 0, .int .i64 0, .int .i64 0, .int .i64 0, .int .i64 0, .int .i64 0, .int .i64 0, .slice none 0 0, .slice none 0 0, .string ⟨#[]⟩, .string ⟨#[]⟩] 36) = w2 := ⟨_, rfl⟩
  have hT : FldM w M f w2 P C := by rw [← hw2]; exact FldM.start h1
  have K := rget_len w.heap.size A len cap l (at' : Int) w2 hlen (by omega) (by omega) (by omega) hby (hA.below hT.t.b)
  rw [Int.toNat_natCast] at K
  have hle := Vi.get_le (l.drop at')
  obtain ⟨rx, hrx⟩ : ∃ rx, rdF M f (l.drop at') = rx := ⟨_, rfl⟩
  rw [hrx]
  unfold rdF at hrx
  rw [if_neg (show ¬ f.so = 1 by omega), if_neg (show ¬ f.so = 2 by omega), if_neg (show ¬ f.so = 3 by omega), if_pos hso] at hrx
  obtain ⟨⟨z, kk, er⟩, hg⟩ : ∃ g, Vi.get (l.drop at') = g := ⟨_, rfl⟩
  rw [hg] at K hle hrx
  simp only at hle hrx
  unfold RGetR at K
  simp only at K
  rw [List.length_drop, hlen] at hle
  obtain ⟨d0, d1, d2, d3, d4, -, -⟩ := fd_block hT.f
  rw [hso] at d1
  have hle1 := hf.lst (by omega)
  have hmo1 := hf.mo.2.1 hso
  rw [hle1] at d3
  rw [hmo1] at d4
  rw [hle1, hmo1] at hrx
  have KP : Hid (z ≤ 32 → at' + kk ≤ len → Calls Try.prog 75 #[mV M P C, .int .i64 (z : Int), .slice A len cap, .int .i64 ((at' + kk : Nat) : Int)] w2 fun e w' => RdS (fun q => S q ∨ q = w.heap.size + 2) w2 ((rdC z (-1) (l.drop (at' + kk))).1, (rdC z (-1) (l.drop (at' + kk))).2.1, { M with c := M.c ++ (rdC z (-1) (l.drop (at' + kk))).2.2 }) (at' + kk) e w') := Lib.hid fun h9 h8 => by
    have hb := hT.t.b
    have h2 := (Array.getElem?_eq_some_iff.1 hT.t.r).1
    obtain ⟨⟨pa, pc, p1, p2, p3⟩, ⟨ca, cc, c1, c2, c3⟩⟩ := And.intro hT.t.p hT.t.c
    refine rcells18_any _ M P C z A len cap l (at' + kk) w2 hlen hll hby ((hA.below hb).mono hb.size) h8 (by omega) hml ⟨⟨pa, pc, p1, p2, p3.nums⟩, ⟨ca, cc, c1, c2, c3.nums⟩⟩ (fun x hx => ?_) ⟨fun x hx => ?_, (hsh.later hb).2⟩
    · rcases hx with hx | rfl
      · have := hS x hx
        omega
      · exact h2
    · rcases hx with hx | rfl
      · obtain ⟨k1, k2⟩ := hsh.1 x hx
        exact ⟨fun a n c e => (k1 a n c e).keep (Off.of_below hb), fun a n c e => (k2 a n c e).keep (Off.of_below hb)⟩
      · refine ⟨fun a n c e => ?_, fun a n c e => ?_⟩
        · rw [p1] at e
          injection e with e
          subst e
          intro hne
          obtain ⟨b, off, e, -, h5, hc⟩ := p3 hne
          exact ⟨b, off, e, h5, h5, hc⟩
        · rw [c1] at e
          injection e with e
          subst e
          intro hne
          obtain ⟨b, off, e, -, h5, hc⟩ := c3 hne
          exact ⟨b, off, e, h5, h5, hc⟩
  have HW2 := Lib.hid hw2
  have HT := Lib.hid hT
  have HSB : Hid (Shun S w2 M P C) := Lib.hid (hsh.later hT.t.b)
  clear hsh
  have HRX := Lib.hid hrx
  have HD := Lib.hid (And.intro d1 (And.intro d2 (And.intro d3 d4)))
  have K := Lib.hid K
  obtain ⟨X0, hX0⟩ : ∃ X0, f.cs = X0 := ⟨_, rfl⟩
  rw [hX0] at HW2
  unfold mV Fd.v
  rw [hX0]
  clear hX0 hw2 hT hg hrx hA hby hlen h1 d0 d1 d2 d3 d4
  go_enter Try.func41, Try.ntmps41
  go_wp2_with fail
  rw [HW2.out]
  refine K.out.mono ?_
  rintro e w3 ⟨rfl, rfl⟩
  clear K
  by_cases her : er = 0
  · subst her
    have hrd := HRX.out
    simp only [ne_eq, not_true_eq_false, if_false] at hrd
    obtain ⟨d1, d2, d3, d4⟩ := HD.out
    clear HRX
    by_cases hz : z = 0
    · subst hz
      rw [if_pos (by decide)] at hrd
      have HR5 := Lib.hid hrd
      clear hrd
      obtain ⟨W', hst, hres, hmat, hbel, hshu⟩ := HT.out.t.retS HSB.out
      have HLD := Lib.hid (mr_look HT.out.t.m)
      have HST := Lib.hid hst
      have HFI := Lib.hid (And.intro hmat (And.intro hbel hshu))
      have HRS := Lib.hid hres
      clear hst hres hmat hbel hshu
      go_wp2_with (first | refine wpList_load_run rfl 36 (.tmp 4) rfl (some ⟨w.heap.size, 0, none⟩) rfl (.agg (mC M P C)) HLD.out ?_ | refine wpList_store_run rfl 36 (.tmp 8) (.tmp 76) rfl (some ⟨w.heap.size + 2, 0, none⟩) rfl (.agg (mC M P C)) rfl HST.out ?_)
      obtain ⟨y0, y1, y2, y3, y4, y5, y6, y7, y8, y9, y10⟩ := mg_block HRS.out
      refine bodyPost_ret (v := .tuple #[.agg (mC M P C), .int .i64 ((at' : Int)), .int .i64 (13)]) (by simp [results, Try.results41, go_sem, y0, y1, y2, y3, y4, y5, y6, y7, y8, y9, y10, mC]) rfl ?_
      rw [← HR5.out]
      exact ⟨_, P, C, _, rfl, HFI.out.1, HFI.out.2.1, HFI.out.2.2, fun h => by simp at h⟩
    · have hz0 : ¬ (z : Int) = 0 := by omega
      rw [if_neg (by omega)] at hrd
      by_cases hmz : 32 < (z : Int)
      · rw [if_pos hmz] at hrd
        have HR5 := Lib.hid hrd
        clear hrd
        obtain ⟨W', hst, hres, hmat, hbel, hshu⟩ := HT.out.t.retS HSB.out
        have HLD := Lib.hid (mr_look HT.out.t.m)
        have HST := Lib.hid hst
        have HFI := Lib.hid (And.intro hmat (And.intro hbel hshu))
        have HRS := Lib.hid hres
        clear hst hres hmat hbel hshu
        go_wp2_with (first | refine wpList_load_run rfl 36 (.tmp 4) rfl (some ⟨w.heap.size, 0, none⟩) rfl (.agg (mC M P C)) HLD.out ?_ | refine wpList_store_run rfl 36 (.tmp 8) (.tmp 83) rfl (some ⟨w.heap.size + 2, 0, none⟩) rfl (.agg (mC M P C)) rfl HST.out ?_)
        obtain ⟨y0, y1, y2, y3, y4, y5, y6, y7, y8, y9, y10⟩ := mg_block HRS.out
        refine bodyPost_ret (v := .tuple #[.agg (mC M P C), .int .i64 ((at' : Int)), .int .i64 (6)]) (by simp [results, Try.results41, go_sem, y0, y1, y2, y3, y4, y5, y6, y7, y8, y9, y10, mC]) rfl ?_
        rw [← HR5.out]
        exact ⟨_, P, C, _, rfl, HFI.out.1, HFI.out.2.1, HFI.out.2.2, fun h => by simp at h⟩
      · rw [if_neg hmz] at hrd
        have hmz2 : (z : Int) ≤ 32 := by omega
        have k3 := KP.out (by omega) (by omega)
        rw [List.drop_drop] at hrd
        obtain ⟨⟨r1, r2, r3⟩, hrr⟩ : ∃ r, rdC z (-1) (l.drop (at' + kk)) = r := ⟨_, rfl⟩
        rw [hrr] at k3 hrd
        simp only at hrd
        have HR6 := Lib.hid hrd
        clear hrd hrr KP
        have e9 : ((at' + kk : Nat) : Int) = (at' : Int) + (kk : Int) := by simp
        rw [e9] at k3
        have K3 := Lib.hid k3
        clear k3 e9
        have HLD := Lib.hid (mr_look HT.out.t.m)
        go_wp2_with (first | refine wpList_load_run rfl 36 (.tmp 4) rfl (some ⟨w.heap.size, 0, none⟩) rfl (.agg (mC M P C)) HLD.out ?_)
        refine K3.out.mono ?_
        rintro e w4 ⟨M4, P4, C4, a4, rfl, hm4, hb4, hs4, hr4⟩
        have hb2 := HT.out.t.b
        have hrow := (hb4.block (w.heap.size + 2) (Array.getElem?_eq_some_iff.1 HT.out.t.r).1).trans HT.out.t.r
        obtain ⟨W', hst, hres, hmat, hoff, hshu⟩ := back_store (S := S) hrow rfl hm4 hs4 (.inr rfl) (fun x hx => .inl hx)
        have hbel : Below w.heap.size w W' := (hb2.trans (hb4.mono hb2.size)).trans (hoff.below (B := w.heap.size) (fun q hq => by omega) (by have := hb2.size; have := hb4.size; omega))
        have HST := Lib.hid hst
        have HFI := Lib.hid (And.intro hmat (And.intro hbel hshu))
        have HRS := Lib.hid hres
        have HR4 := Lib.hid hr4
        clear hst hres hmat hbel hshu hr4 hrow hoff hm4 hs4 K3 hb2 hb4
        unfold mV
        go_wp2_with (first | refine wpList_store_run rfl 36 (.tmp 8) (.tmp 106) rfl (some ⟨w.heap.size + 2, 0, none⟩) rfl (.agg (mC M4 P4 C4)) rfl HST.out ?_)
        obtain ⟨y0, y1, y2, y3, y4, y5, y6, y7, y8, y9, y10⟩ := mg_block HRS.out
        refine bodyPost_ret (v := .tuple #[.agg (mC M4 P4 C4), .int .i64 a4, .int .i64 (r1 : Int)]) (by simp [results, Try.results41, go_sem, y0, y1, y2, y3, y4, y5, y6, y7, y8, y9, y10, mC]) rfl ?_
        rw [← HR6.out]
        by_cases h0 : r1 = 0
        · subst h0
          obtain ⟨rfl, rfl⟩ := HR4.out rfl
          exact ⟨_, P4, C4, _, rfl, HFI.out.1, HFI.out.2.1, HFI.out.2.2, fun _ => ⟨rfl, by simp; omega⟩⟩
        · rw [if_pos h0]
          exact ⟨_, P4, C4, _, rfl, HFI.out.1, HFI.out.2.1, HFI.out.2.2, fun h => absurd h h0⟩
  · have her' : ((er : Nat) : Int) ≠ 0 := by omega
    have hrd := HRX.out
    rw [if_pos her] at hrd
    have HR5 := Lib.hid hrd
    clear hrd
    obtain ⟨W', hst, hres, hmat, hbel, hshu⟩ := HT.out.t.retS HSB.out
    have HLD := Lib.hid (mr_look HT.out.t.m)
    have HST := Lib.hid hst
    have HFI := Lib.hid (And.intro hmat (And.intro hbel hshu))
    have HRS := Lib.hid hres
    clear hst hres hmat hbel hshu
    go_wp2_with (first | refine wpList_load_run rfl 36 (.tmp 4) rfl (some ⟨w.heap.size, 0, none⟩) rfl (.agg (mC M P C)) HLD.out ?_ | refine wpList_store_run rfl 36 (.tmp 8) (.tmp 25) rfl (some ⟨w.heap.size + 2, 0, none⟩) rfl (.agg (mC M P C)) rfl HST.out ?_)
    obtain ⟨y0, y1, y2, y3, y4, y5, y6, y7, y8, y9, y10⟩ := mg_block HRS.out
    refine bodyPost_ret (v := .tuple #[.agg (mC M P C), .int .i64 ((at' : Int)), .int .i64 ((er : Int))]) (by simp [results, Try.results41, go_sem, y0, y1, y2, y3, y4, y5, y6, y7, y8, y9, y10, mC]) rfl ?_
    rw [← HR5.out]
    exact ⟨_, P, C, _, rfl, HFI.out.1, HFI.out.2.1, HFI.out.2.2, fun h => absurd h her⟩
set_option maxHeartbeats 8000000 in
theorem rfield_path (S : Nat → Prop) (M : Mg) (f : Fd) (P C : Value) (A : Option Addr) (len cap : Nat) (l : List Int) (at' : Nat) (w : World) (hf : FdX f) (hso : f.so = 3) (hml : M.p.length ≤ 40) (hS : ∀ x, S x → x < w.heap.size) (hlen : l.length = len) (hll : len ≤ 1000000) (hby : Bys l) (hA : Nums .u8 w w.heap.size A l) (hat : at' ≤ len) (h1 : MAt w w.heap.size M P C) (hsh : Shun S w M P C) :
    Calls Try.prog 41 #[mV M P C, f.v, .slice A len cap, .int .i64 (at' : Int)] w fun e w' => RdS S w (rdF M f (l.drop at')) at' e w' := by
  obtain ⟨w2, hw2⟩ : ∃ w2, ((w.alloc (.cells (mC M P C) 36)).alloc (.cells f.cs 46)).alloc (.cells #[.int .i64 0, .int .i64 0, .int .i64 0, .int .i64 0, .int .i64 0, .int .i64 0, .int .i64 0, .slice none 0 0, .slice none 0 0, .string ⟨#[]⟩, .string ⟨#[]⟩] 36) = w2 := ⟨_, rfl⟩
  have hT : FldM w M f w2 P C := by rw [← hw2]; exact FldM.start h1
  have K := rget_len w.heap.size A len cap l (at' : Int) w2 hlen (by omega) (by omega) (by omega) hby (hA.below hT.t.b)
  rw [Int.toNat_natCast] at K
  have hle := Vi.get_le (l.drop at')
  obtain ⟨rx, hrx⟩ : ∃ rx, rdF M f (l.drop at') = rx := ⟨_, rfl⟩
  rw [hrx]
  unfold rdF at hrx
  rw [if_neg (show ¬ f.so = 1 by omega), if_neg (show ¬ f.so = 2 by omega), if_pos hso] at hrx
  obtain ⟨⟨z, kk, er⟩, hg⟩ : ∃ g, Vi.get (l.drop at') = g := ⟨_, rfl⟩
  rw [hg] at K hle hrx
  simp only at hle hrx
  unfold RGetR at K
  simp only at K
  rw [List.length_drop, hlen] at hle
  obtain ⟨d0, d1, d2, d3, d4, -, -⟩ := fd_block hT.f
  rw [hso] at d1
  have hle1 := hf.lst (by omega)
  have hmo1 := hf.mo.1 hso
  rw [hle1] at d3
  rw [hmo1] at d4
  rw [hle1, hmo1] at hrx
  have KP : Hid (z ≤ 16 → at' + kk ≤ len → Calls Try.prog 74 #[mV M P C, .int .i64 (z : Int), .slice A len cap, .int .i64 ((at' + kk : Nat) : Int)] w2 fun e w' => RdS (fun q => S q ∨ q = w.heap.size + 2) w2 ((rdP z (0, 0) (l.drop (at' + kk))).1, (rdP z (0, 0) (l.drop (at' + kk))).2.1, { M with p := M.p ++ (rdP z (0, 0) (l.drop (at' + kk))).2.2 }) (at' + kk) e w') := Lib.hid fun h9 h8 => by
    have hb := hT.t.b
    have h2 := (Array.getElem?_eq_some_iff.1 hT.t.r).1
    obtain ⟨⟨pa, pc, p1, p2, p3⟩, ⟨ca, cc, c1, c2, c3⟩⟩ := And.intro hT.t.p hT.t.c
    refine rpath18_any _ M P C z A len cap l (at' + kk) w2 hlen hll hby ((hA.below hb).mono hb.size) h8 (by omega) hml ⟨⟨pa, pc, p1, p2, p3.nums⟩, ⟨ca, cc, c1, c2, c3.nums⟩⟩ (fun x hx => ?_) ⟨fun x hx => ?_, (hsh.later hb).2⟩
    · rcases hx with hx | rfl
      · have := hS x hx
        omega
      · exact h2
    · rcases hx with hx | rfl
      · obtain ⟨k1, k2⟩ := hsh.1 x hx
        exact ⟨fun a n c e => (k1 a n c e).keep (Off.of_below hb), fun a n c e => (k2 a n c e).keep (Off.of_below hb)⟩
      · refine ⟨fun a n c e => ?_, fun a n c e => ?_⟩
        · rw [p1] at e
          injection e with e
          subst e
          intro hne
          obtain ⟨b, off, e, -, h5, hc⟩ := p3 hne
          exact ⟨b, off, e, h5, h5, hc⟩
        · rw [c1] at e
          injection e with e
          subst e
          intro hne
          obtain ⟨b, off, e, -, h5, hc⟩ := c3 hne
          exact ⟨b, off, e, h5, h5, hc⟩
  have HW2 := Lib.hid hw2
  have HT := Lib.hid hT
  have HSB : Hid (Shun S w2 M P C) := Lib.hid (hsh.later hT.t.b)
  clear hsh
  have HRX := Lib.hid hrx
  have HD := Lib.hid (And.intro d1 (And.intro d2 (And.intro d3 d4)))
  have K := Lib.hid K
  obtain ⟨X0, hX0⟩ : ∃ X0, f.cs = X0 := ⟨_, rfl⟩
  rw [hX0] at HW2
  unfold mV Fd.v
  rw [hX0]
  clear hX0 hw2 hT hg hrx hA hby hlen h1 d0 d1 d2 d3 d4
  go_enter Try.func41, Try.ntmps41
  go_wp2_with fail
  rw [HW2.out]
  refine K.out.mono ?_
  rintro e w3 ⟨rfl, rfl⟩
  clear K
  by_cases her : er = 0
  · subst her
    have hrd := HRX.out
    simp only [ne_eq, not_true_eq_false, if_false] at hrd
    obtain ⟨d1, d2, d3, d4⟩ := HD.out
    clear HRX
    by_cases hz : z = 0
    · subst hz
      rw [if_pos (by decide)] at hrd
      have HR5 := Lib.hid hrd
      clear hrd
      obtain ⟨W', hst, hres, hmat, hbel, hshu⟩ := HT.out.t.retS HSB.out
      have HLD := Lib.hid (mr_look HT.out.t.m)
      have HST := Lib.hid hst
      have HFI := Lib.hid (And.intro hmat (And.intro hbel hshu))
      have HRS := Lib.hid hres
      clear hst hres hmat hbel hshu
      go_wp2_with (first | refine wpList_load_run rfl 36 (.tmp 4) rfl (some ⟨w.heap.size, 0, none⟩) rfl (.agg (mC M P C)) HLD.out ?_ | refine wpList_store_run rfl 36 (.tmp 8) (.tmp 76) rfl (some ⟨w.heap.size + 2, 0, none⟩) rfl (.agg (mC M P C)) rfl HST.out ?_)
      obtain ⟨y0, y1, y2, y3, y4, y5, y6, y7, y8, y9, y10⟩ := mg_block HRS.out
      refine bodyPost_ret (v := .tuple #[.agg (mC M P C), .int .i64 ((at' : Int)), .int .i64 (13)]) (by simp [results, Try.results41, go_sem, y0, y1, y2, y3, y4, y5, y6, y7, y8, y9, y10, mC]) rfl ?_
      rw [← HR5.out]
      exact ⟨_, P, C, _, rfl, HFI.out.1, HFI.out.2.1, HFI.out.2.2, fun h => by simp at h⟩
    · have hz0 : ¬ (z : Int) = 0 := by omega
      rw [if_neg (by omega)] at hrd
      by_cases hmz : 16 < (z : Int)
      · rw [if_pos hmz] at hrd
        have HR5 := Lib.hid hrd
        clear hrd
        obtain ⟨W', hst, hres, hmat, hbel, hshu⟩ := HT.out.t.retS HSB.out
        have HLD := Lib.hid (mr_look HT.out.t.m)
        have HST := Lib.hid hst
        have HFI := Lib.hid (And.intro hmat (And.intro hbel hshu))
        have HRS := Lib.hid hres
        clear hst hres hmat hbel hshu
        go_wp2_with (first | refine wpList_load_run rfl 36 (.tmp 4) rfl (some ⟨w.heap.size, 0, none⟩) rfl (.agg (mC M P C)) HLD.out ?_ | refine wpList_store_run rfl 36 (.tmp 8) (.tmp 83) rfl (some ⟨w.heap.size + 2, 0, none⟩) rfl (.agg (mC M P C)) rfl HST.out ?_)
        obtain ⟨y0, y1, y2, y3, y4, y5, y6, y7, y8, y9, y10⟩ := mg_block HRS.out
        refine bodyPost_ret (v := .tuple #[.agg (mC M P C), .int .i64 ((at' : Int)), .int .i64 (6)]) (by simp [results, Try.results41, go_sem, y0, y1, y2, y3, y4, y5, y6, y7, y8, y9, y10, mC]) rfl ?_
        rw [← HR5.out]
        exact ⟨_, P, C, _, rfl, HFI.out.1, HFI.out.2.1, HFI.out.2.2, fun h => by simp at h⟩
      · rw [if_neg hmz] at hrd
        have hmz2 : (z : Int) ≤ 16 := by omega
        have k3 := KP.out (by omega) (by omega)
        rw [List.drop_drop] at hrd
        obtain ⟨⟨r1, r2, r3⟩, hrr⟩ : ∃ r, rdP z (0, 0) (l.drop (at' + kk)) = r := ⟨_, rfl⟩
        rw [hrr] at k3 hrd
        simp only at hrd
        have HR6 := Lib.hid hrd
        clear hrd hrr KP
        have e9 : ((at' + kk : Nat) : Int) = (at' : Int) + (kk : Int) := by simp
        rw [e9] at k3
        have K3 := Lib.hid k3
        clear k3 e9
        have HLD := Lib.hid (mr_look HT.out.t.m)
        go_wp2_with (first | refine wpList_load_run rfl 36 (.tmp 4) rfl (some ⟨w.heap.size, 0, none⟩) rfl (.agg (mC M P C)) HLD.out ?_)
        refine K3.out.mono ?_
        rintro e w4 ⟨M4, P4, C4, a4, rfl, hm4, hb4, hs4, hr4⟩
        have hb2 := HT.out.t.b
        have hrow := (hb4.block (w.heap.size + 2) (Array.getElem?_eq_some_iff.1 HT.out.t.r).1).trans HT.out.t.r
        obtain ⟨W', hst, hres, hmat, hoff, hshu⟩ := back_store (S := S) hrow rfl hm4 hs4 (.inr rfl) (fun x hx => .inl hx)
        have hbel : Below w.heap.size w W' := (hb2.trans (hb4.mono hb2.size)).trans (hoff.below (B := w.heap.size) (fun q hq => by omega) (by have := hb2.size; have := hb4.size; omega))
        have HST := Lib.hid hst
        have HFI := Lib.hid (And.intro hmat (And.intro hbel hshu))
        have HRS := Lib.hid hres
        have HR4 := Lib.hid hr4
        clear hst hres hmat hbel hshu hr4 hrow hoff hm4 hs4 K3 hb2 hb4
        unfold mV
        go_wp2_with (first | refine wpList_store_run rfl 36 (.tmp 8) (.tmp 95) rfl (some ⟨w.heap.size + 2, 0, none⟩) rfl (.agg (mC M4 P4 C4)) rfl HST.out ?_)
        obtain ⟨y0, y1, y2, y3, y4, y5, y6, y7, y8, y9, y10⟩ := mg_block HRS.out
        refine bodyPost_ret (v := .tuple #[.agg (mC M4 P4 C4), .int .i64 a4, .int .i64 (r1 : Int)]) (by simp [results, Try.results41, go_sem, y0, y1, y2, y3, y4, y5, y6, y7, y8, y9, y10, mC]) rfl ?_
        rw [← HR6.out]
        by_cases h0 : r1 = 0
        · subst h0
          obtain ⟨rfl, rfl⟩ := HR4.out rfl
          exact ⟨_, P4, C4, _, rfl, HFI.out.1, HFI.out.2.1, HFI.out.2.2, fun _ => ⟨rfl, by simp; omega⟩⟩
        · rw [if_pos h0]
          exact ⟨_, P4, C4, _, rfl, HFI.out.1, HFI.out.2.1, HFI.out.2.2, fun h => absurd h h0⟩
  · have her' : ((er : Nat) : Int) ≠ 0 := by omega
    have hrd := HRX.out
    rw [if_pos her] at hrd
    have HR5 := Lib.hid hrd
    clear hrd
    obtain ⟨W', hst, hres, hmat, hbel, hshu⟩ := HT.out.t.retS HSB.out
    have HLD := Lib.hid (mr_look HT.out.t.m)
    have HST := Lib.hid hst
    have HFI := Lib.hid (And.intro hmat (And.intro hbel hshu))
    have HRS := Lib.hid hres
    clear hst hres hmat hbel hshu
    go_wp2_with (first | refine wpList_load_run rfl 36 (.tmp 4) rfl (some ⟨w.heap.size, 0, none⟩) rfl (.agg (mC M P C)) HLD.out ?_ | refine wpList_store_run rfl 36 (.tmp 8) (.tmp 25) rfl (some ⟨w.heap.size + 2, 0, none⟩) rfl (.agg (mC M P C)) rfl HST.out ?_)
    obtain ⟨y0, y1, y2, y3, y4, y5, y6, y7, y8, y9, y10⟩ := mg_block HRS.out
    refine bodyPost_ret (v := .tuple #[.agg (mC M P C), .int .i64 ((at' : Int)), .int .i64 ((er : Int))]) (by simp [results, Try.results41, go_sem, y0, y1, y2, y3, y4, y5, y6, y7, y8, y9, y10, mC]) rfl ?_
    rw [← HR5.out]
    exact ⟨_, P, C, _, rfl, HFI.out.1, HFI.out.2.1, HFI.out.2.2, fun h => absurd h her⟩
end Go.Proofs.Ytmjbimmbphofjaa

namespace Go.Proofs.Ytmjbimmbphofjaa
open Go.RowKit

/-- the numbers zs lie at a, in a block from lo on, below hi -/
def NumsIn (k : IntKind) (w : World) (lo hi : Nat) (a : Option Addr) (zs : List Int) : Prop :=
  zs ≠ [] → ∃ b off, a = some ⟨b, off, none⟩ ∧ lo ≤ b ∧ b < hi ∧ ∀ j c, zs[j]? = some c → w.cell? ⟨b, off + j, none⟩ = some (.int k c)
/-- the blocks from lo on, below hi, are as they were -/
def Keeps (lo hi : Nat) (W W' : World) : Prop := W.heap.size ≤ W'.heap.size ∧ ∀ k, lo ≤ k → k < hi → W'.heap[k]? = W.heap[k]?
theorem Keeps.refl (lo hi : Nat) (W : World) : Keeps lo hi W W := ⟨Nat.le_refl _, fun _ _ _ => rfl⟩
theorem Keeps.trans {lo hi : Nat} {A B C : World} (h : Keeps lo hi A B) (k : Keeps lo hi B C) : Keeps lo hi A C := ⟨Nat.le_trans h.1 k.1, fun i h1 h2 => (k.2 i h1 h2).trans (h.2 i h1 h2)⟩
theorem Keeps.of_below {lo hi : Nat} {A B : World} (h : Below hi A B) : Keeps lo hi A B := ⟨h.size, fun k _ h2 => h.block k h2⟩
theorem Keeps.cell {lo hi : Nat} {A B : World} (h : Keeps lo hi A B) {p : Addr} (h1 : lo ≤ p.block) (h2 : p.block < hi) : B.cell? p = A.cell? p := World.cell?_of_block (h.2 p.block h1 h2)
section
variable {k : IntKind} {lo lo' hi hi' : Nat} {A B : World} {a : Option Addr} {zs : List Int}
theorem NumsIn.keeps (h : NumsIn k A lo hi a zs) (hk : Keeps lo hi A B) : NumsIn k B lo hi a zs := fun hn => by
  obtain ⟨b, off, e, h1, h2, hc⟩ := h hn
  exact ⟨b, off, e, h1, h2, fun j c hj => (hk.cell (p := ⟨b, off + j, none⟩) h1 h2).trans (hc j c hj)⟩
theorem NumsIn.nums (h : NumsIn k A lo hi a zs) : Nums k A hi a zs := fun hn => by
  obtain ⟨b, off, e, _, h2, hc⟩ := h hn
  exact ⟨b, off, e, h2, hc⟩
theorem NumsIn.mono (h : NumsIn k A lo hi a zs) (hh : hi ≤ hi') : NumsIn k A lo hi' a zs := fun hn => by
  obtain ⟨b, off, e, h1, h2, hc⟩ := h hn
  exact ⟨b, off, e, h1, by omega, hc⟩
theorem NumsIn.lower (h : NumsIn k A lo hi a zs) (hh : lo' ≤ lo) : NumsIn k A lo' hi a zs := fun hn => by
  obtain ⟨b, off, e, h1, h2, hc⟩ := h hn
  exact ⟨b, off, e, by omega, h2, hc⟩
end
theorem MadeK.numsIn {e : TypeId} {k : IntKind} {w w1 : World} {L : List Int} {A : Option Addr} {c : Nat} (h : MadeK e k w w1 L (.slice A L.length c)) : NumsIn k w1 w.heap.size w1.heap.size A L := fun hn => by
  obtain ⟨b, off, rfl, hb, hc⟩ := Nums.of_own h.1 hn
  exact ⟨b, off, rfl, (h.own_ge (g := b) rfl).1, hb, hc⟩
theorem MadeK.less {T : TypeId} {k : IntKind} {w w1 w2 : World} {L : List Int} {v : Value} (h : MadeK T k w1 w2 L v) (hb : Below w.heap.size w w1) : MadeK T k w w2 L v := by
  obtain ⟨⟨e, h2⟩, hb2⟩ := h
  refine ⟨⟨e, ?_⟩, hb.trans (hb2.mono hb.size)⟩
  rcases h2 with h0 | ⟨g, cap, cur, q1, q2, q3⟩
  · exact .inl h0
  · exact .inr ⟨g, cap, cur, q1, Nat.le_trans hb.size q2, q3⟩
end Go.Proofs.Ytmjbimmbphofjaa

namespace Go.Proofs.Ytmjbimmbphofjaa
open Go.RowKit Go.Deep
set_option maxRecDepth 100000

/-- block b is a lens of the bytes zs, at place p, with error e; its bytes lie in a block from lo on, below b -/
def LensAt (w : World) (lo b : Nat) (zs : List Int) (p e : Nat) : Prop :=
  ∃ A cap, w.heap[b]? = some (.cells #[.slice A zs.length cap, .int .i64 p, .int .i64 e] 116 (0, 0)) ∧ NumsIn .u8 w lo b A zs ∧ zs.length ≤ cap ∧ p ≤ zs.length ∧ lo ≤ b
section
variable {w w' : World} {lo b : Nat} {zs : List Int} {p e p' e' : Nat}
theorem LensAt.lt (h : LensAt w lo b zs p e) : b < w.heap.size := by
  obtain ⟨A, cap, hb, _⟩ := h
  exact (Array.getElem?_eq_some_iff.1 hb).1
theorem LensAt.lo_le (h : LensAt w lo b zs p e) : lo ≤ b := by
  obtain ⟨A, cap, _, _, _, _, h⟩ := h
  exact h
theorem LensAt.place (h : LensAt w lo b zs p e) : p ≤ zs.length := by
  obtain ⟨A, cap, _, _, _, h, _⟩ := h
  exact h
theorem LensAt.keeps (h : LensAt w lo b zs p e) (hk : Keeps lo (b + 1) w w') : LensAt w' lo b zs p e := by
  obtain ⟨A, cap, hb, hn, h1, h2, h3⟩ := h
  exact ⟨A, cap, (hk.2 b h3 (Nat.lt_succ_self b)).trans hb, hn.keeps ⟨hk.1, fun k h4 h5 => hk.2 k h4 (by omega)⟩, h1, h2, h3⟩
theorem LensAt.below (h : LensAt w lo b zs p e) (hb : Below w.heap.size w w') : LensAt w' lo b zs p e := by
  have hl := h.lt
  exact h.keeps ⟨hb.size, fun k _ h2 => hb.block k (by omega)⟩
theorem LensAt.off {S : Nat → Prop} (h : LensAt w lo b zs p e) (hf : Off S w w') (hS : ∀ k, lo ≤ k → k ≤ b → ¬ S k) : LensAt w' lo b zs p e := by
  have hl := h.lt
  exact h.keeps ⟨hf.size, fun k h1 h2 => hf.block k (by omega) (hS k h1 (by omega))⟩
theorem LensAt.open (h : LensAt w lo b zs p e) : ∃ A cap, w.heap[b]? = some (.cells #[.slice A zs.length cap, .int .i64 p, .int .i64 e] 116 (0, 0)) ∧ w.cell? ⟨b, 0, none⟩ = some (.slice A zs.length cap) ∧ w.cell? ⟨b, 1, none⟩ = some (.int .i64 p) ∧ w.cell? ⟨b, 2, none⟩ = some (.int .i64 e) ∧
    w.frozen? ⟨b, 1, none⟩ = false ∧ w.frozen? ⟨b, 2, none⟩ = false ∧ NumsIn .u8 w lo b A zs ∧ zs.length ≤ cap ∧ p ≤ zs.length ∧ lo ≤ b := by
  obtain ⟨A, cap, hb, hn, h1, h2, h3⟩ := h
  exact ⟨A, cap, hb, by simp [World.cell?, hb], by simp [World.cell?, hb], by simp [World.cell?, hb], by simp [World.frozen?, hb], by simp [World.frozen?, hb], hn, h1, h2, h3⟩
/-- its place moves -/
theorem LensAt.move (h : LensAt w lo b zs p e) (hp : p' ≤ zs.length) : LensAt (w.setCell ⟨b, 1, none⟩ (.int .i64 p')) lo b zs p' e := by
  obtain ⟨A, cap, hb, hn, h1, h2, h3⟩ := h
  refine ⟨A, cap, by rw [setCell_at hb]; simp, hn.keeps ⟨by simp [World.setCell], fun k h4 h5 => Below.heap_setCell _ _ _ _ (by simp; omega)⟩, h1, hp, h3⟩
/-- it has an error -/
theorem LensAt.fail (h : LensAt w lo b zs p e) (e' : Nat) : LensAt (w.setCell ⟨b, 2, none⟩ (.int .i64 e')) lo b zs p e' := by
  obtain ⟨A, cap, hb, hn, h1, h2, h3⟩ := h
  refine ⟨A, cap, by rw [setCell_at hb]; simp, hn.keeps ⟨by simp [World.setCell], fun k h4 h5 => Below.heap_setCell _ _ _ _ (by simp; omega)⟩, h1, h2, h3⟩
end

/-- slices.Clone of bytes -/
theorem cloneK_any (a : Option Addr) (n cap : Nat) (zs : List Int) (w : World) (hn : zs.length = n) (hl : n ≤ 1000000000) (h1 : Nums .u8 w w.heap.size a zs) :
    Calls Try.prog 55 #[.slice a n cap] w fun e w' => ∃ v, e = .returned v ∧ MadeK 5 .u8 w w' zs v := by
  subst hn
  obtain ⟨i0, hi, hz0, hz1, hz2⟩ := info_parts byteInfo
  cases a with
  | none =>
    have : zs = [] := by
      apply Classical.byContradiction
      intro hn
      obtain ⟨b, off, e, _⟩ := h1 hn
      cases e
    subst this
    have hq := fun w => Lib.run_eql_slice_nil (P := Try.prog) w 28 5 none 0 cap 0 0 Try.underlying28
    go_enter Try.func55, Try.ntmps55
    go_wp2
    go_ret
    exact ⟨_, rfl, MadeK.nil _ _ (Below.refl _ _)⟩
  | some x =>
    have hq := fun w => Lib.run_eql_slice_nil (P := Try.prog) w 28 5 (some x) zs.length cap 0 0 Try.underlying28
    have hnews : ∀ j u, (zs.map (Value.int .u8))[j]? = some u → (w.alloc (.cells #[] 5)).cell? (x.add j) = some u := by
      intro j u hj
      rw [List.getElem?_map] at hj
      cases hc : zs[j]? with
      | none => rw [hc] at hj; simp at hj
      | some c =>
        rw [hc] at hj
        simp only [Option.map_some, Option.some.injEq] at hj
        subst hj
        obtain ⟨b, off, e, hb, hcell⟩ := h1.open hc
        injection e with e
        subst e
        have := (World.cell?_alloc_lt w (.cells #[] 5) ⟨b, off + j, none⟩ hb).trans hcell
        by_cases h0 : j = 0
        · subst h0; simpa [Addr.add] using this
        · simpa [Addr.add, h0] using this
    have hown : (w.alloc (.cells #[] 5)).ownsRow w.heap.size 5 1 (.slice (some ⟨w.heap.size, 0, none⟩) 0 0) 0 [] :=
      ⟨rfl, .inr ⟨w.heap.size, 0, #[], rfl, Nat.le_refl _, heap_alloc_new w _, Nat.le_refl _, by simp, rfl, rfl⟩⟩
    go_enter Try.func55, Try.ntmps55
    go_wp2_with (at_builtin; refine wpList_append_own _ rfl (.tmp 5) (.tmp 6) 28 rfl w.heap.size 5 i0 (.int .u8 0) 1 1 Try.underlying28 hi hz0 hz1 hz2 rfl (by decide) _ _ _ rfl hown x zs.length cap (zs.map (Value.int .u8)) rfl (by simp) hnews ?_ ?_ ?_ ?_ ?_; (intro u hu; simp at hu; obtain ⟨c, _, rfl⟩ := hu; rfl); (unfold maxLen; omega); omega; (simp); intro v' w1 hown1 hgrow1 _)
    go_ret
    refine ⟨_, rfl, by simpa using hown1, ?_⟩
    exact ((Below.refl w.heap.size w).alloc (Nat.le_refl _) _).grown hgrow1 (by simp) (fun g hk => by have hk : some w.heap.size = some g := hk; injection hk with hk; omega)

theorem lens_new (w w1 : World) (zs : List Int) (A : Option Addr) (c : Nat) (h : MadeK 5 .u8 w w1 zs (.slice A zs.length c)) (hc : zs.length ≤ c) :
    LensAt (w1.alloc (.cells #[.slice A zs.length c, .int .i64 0, .int .i64 0] 116)) w.heap.size w1.heap.size zs 0 0 :=
  ⟨A, c, heap_alloc_new w1 _, h.numsIn.keeps (Keeps.of_below ((Below.refl _ w1).alloc (Nat.le_refl _) _)), hc, Nat.zero_le _, h.2.size⟩
theorem lnew_any (a : Option Addr) (n cap : Nat) (zs : List Int) (w : World) (hn : zs.length = n) (hl : n ≤ 1000000000) (h1 : Nums .u8 w w.heap.size a zs) :
    Calls Try.prog 37 #[.slice a n cap] w fun e w' => ∃ b, e = .returned (.pointer (some ⟨b, 0, none⟩)) ∧ LensAt w' w.heap.size b zs 0 0 ∧ Below w.heap.size w w' := by
  subst hn
  have HC := cloneK_any a _ cap zs w rfl hl h1
  clear h1
  go_enter Try.func37, Try.ntmps37
  go_wp2_with (go_at_call 55; refine HC.mono ?_; rintro e w1 ⟨v, rfl, hm⟩; obtain ⟨A, c, rfl, hc, _⟩ := hm.slice; have HM := Lib.hid hm; clear hm)
  go_ret
  exact ⟨_, rfl, lens_new w w1 zs A c HM.out hc, HM.out.2.alloc HM.out.2.size _⟩

section
variable (lo b : Nat) (zs : List Int) (p e : Nat) (w : World)
theorem lerr_any (h : LensAt w lo b zs p e) : Calls Try.prog 69 #[.pointer (some ⟨b, 0, none⟩)] w fun r w' => r = .returned (.int .i64 e) ∧ w = w' := by
  obtain ⟨A, cap, _, c0, c1, c2, _⟩ := h.open
  clear h
  go_enter Try.func69, Try.ntmps69
  go_wp2
  go_ret
  exact ⟨rfl, rfl⟩
theorem lleft_any (h : LensAt w lo b zs p e) (hl : zs.length ≤ 1000000000) : Calls Try.prog 70 #[.pointer (some ⟨b, 0, none⟩)] w fun r w' => r = .returned (.int .i64 ((zs.length : Int) - p)) ∧ ∃ n, w' = w.drewN n := by
  obtain ⟨A, cap, _, c0, c1, c2, _, _, _, _, hp, _⟩ := h.open
  clear h
  go_enter Try.func70, Try.ntmps70
  go_wp2
  go_quiet (fail)
  go_wp2
  go_ret
  exact ⟨rfl, _, rfl⟩
theorem lend_err (h : LensAt w lo b zs p e) (he : e ≠ 0) : Calls Try.prog 39 #[.pointer (some ⟨b, 0, none⟩)] w fun r w' => r = .returned (.int .i64 e) ∧ ∃ n, w' = w.drewN n := by
  have HC := lerr_any lo b zs p e w h
  have h3 : ¬ (e : Int) = 0 := by omega
  have h4 : ((e : Int) != 0) = true := by simp; omega
  clear h
  go_enter Try.func39, Try.ntmps39
  go_wp2_with (go_at_call 69; refine HC.mono ?_; rintro r w2 ⟨rfl, rfl⟩)
  go_ret
  exact ⟨rfl, 0, rfl⟩
theorem lend_left (h : LensAt w lo b zs p 0) (hl : zs.length ≤ 1000000000) (hp : p < zs.length) : Calls Try.prog 39 #[.pointer (some ⟨b, 0, none⟩)] w fun r w' => r = .returned (.int .i64 3) ∧ ∃ n, w' = w.drewN n := by
  have HC := lerr_any lo b zs p 0 w h
  have HL := lleft_any lo b zs p 0 w h hl
  have h3 : 0 < (zs.length : Int) - (p : Int) := by omega
  clear h
  go_enter Try.func39, Try.ntmps39
  go_wp2_with (first
    | (go_at_call 69; refine HC.mono ?_; rintro r w2 ⟨rfl, rfl⟩)
    | (go_at_call 70; refine HL.mono ?_; rintro r w2 ⟨rfl, n, rfl⟩))
  go_ret
  exact ⟨rfl, n, rfl⟩
theorem lend_ok (h : LensAt w lo b zs p 0) (hl : zs.length ≤ 1000000000) (hp : p = zs.length) : Calls Try.prog 39 #[.pointer (some ⟨b, 0, none⟩)] w fun r w' => r = .returned (.int .i64 0) ∧ ∃ n, w' = w.drewN n := by
  have HC := lerr_any lo b zs p 0 w h
  have HL := lleft_any lo b zs p 0 w h hl
  have h3 : ¬ 0 < (zs.length : Int) - (p : Int) := by omega
  clear h
  go_enter Try.func39, Try.ntmps39
  go_wp2_with (first
    | (go_at_call 69; refine HC.mono ?_; rintro r w2 ⟨rfl, rfl⟩)
    | (go_at_call 70; refine HL.mono ?_; rintro r w2 ⟨rfl, n, rfl⟩))
  go_ret
  exact ⟨rfl, n, rfl⟩
/-- what End tells -/
def endOf (zs : List Int) (p e : Nat) : Nat := if e ≠ 0 then e else if p < zs.length then 3 else 0
theorem lend_any (h : LensAt w lo b zs p e) (hl : zs.length ≤ 1000000000) : Calls Try.prog 39 #[.pointer (some ⟨b, 0, none⟩)] w fun r w' => r = .returned (.int .i64 (endOf zs p e : Nat)) ∧ ∃ n, w' = w.drewN n := by
  have hp := h.place
  by_cases he : e = 0
  · subst he
    by_cases hp1 : p < zs.length
    · rw [show endOf zs p 0 = 3 by simp [endOf, hp1]]; exact lend_left lo b zs p w h hl hp1
    · rw [show endOf zs p 0 = 0 by simp [endOf, hp1]]; exact lend_ok lo b zs p w h hl (by omega)
  · rw [show endOf zs p e = e by simp [endOf, he]]; exact lend_err lo b zs p e w h he
end

/-- the first n bytes -/
theorem part_ok (a : Option Addr) (len cap : Nat) (n : Int) (w : World) (h0 : 0 ≤ n) (h1 : n ≤ len) (hc : len ≤ cap) :
    Calls Try.prog 107 #[.slice a len cap, .int .i64 n] w fun e w' => e = .returned (.tuple #[.slice a n.toNat n.toNat, .int .i64 0]) ∧ w = w' := by
  have h2 : ¬ (len : Int) < n := by omega
  have h3 : ¬ n < 0 := by omega
  have h4 : n ≤ (cap : Int) := by omega
  go_enter Try.func107, Try.ntmps107
  go_wp2
  go_ret2
  exact ⟨by simp, rfl⟩
theorem part_more (a : Option Addr) (len cap : Nat) (n : Int) (w : World) (h1 : (len : Int) < n) :
    Calls Try.prog 107 #[.slice a len cap, .int .i64 n] w fun e w' => e = .returned (.tuple #[.slice none 0 0, .int .i64 4]) ∧ w = w' := by
  have h3 : ¬ n < 0 := by omega
  go_enter Try.func107, Try.ntmps107
  go_wp2
  go_ret2
  exact ⟨rfl, rfl⟩
end Go.Proofs.Ytmjbimmbphofjaa

namespace Go.Proofs.Ytmjbimmbphofjaa
open Go.RowKit
set_option maxRecDepth 100000
section
variable (lo b : Nat) (zs : List Int) (p e : Nat) (w : World)
theorem rdN_err (fv : Value) (h : LensAt w lo b zs p e) (he : e ≠ 0) :
    Calls Try.prog 103 #[.pointer (some ⟨b, 0, none⟩), fv] w fun r w' => r = .returned (.int .u64 0) ∧ w = w' := by
  have HE := lerr_any lo b zs p e w h
  have h3 : ¬ (e : Int) = 0 := by omega
  have h4 : ((e : Int) != 0) = true := by simp; omega
  clear h he
  go_enter Try.func103, Try.ntmps103
  go_wp2_with (go_at_call 69; refine HE.mono ?_; rintro r w2 ⟨rfl, rfl⟩)
  go_ret
  exact ⟨rfl, rfl⟩
theorem rdS_err (fv : Value) (h : LensAt w lo b zs p e) (he : e ≠ 0) :
    Calls Try.prog 99 #[.pointer (some ⟨b, 0, none⟩), fv] w fun r w' => r = .returned (.int .i64 0) ∧ w = w' := by
  have HE := lerr_any lo b zs p e w h
  have h3 : ¬ (e : Int) = 0 := by omega
  have h4 : ((e : Int) != 0) = true := by simp; omega
  clear h he
  go_enter Try.func99, Try.ntmps99
  go_wp2_with (go_at_call 69; refine HE.mono ?_; rintro r w2 ⟨rfl, rfl⟩)
  go_ret
  exact ⟨rfl, rfl⟩
set_option maxHeartbeats 2000000 in
theorem rdN_ok (c0 : Nat) (h : LensAt w lo b zs p 0) (hl : zs.length ≤ 1000000000) (size : Nat) (hs : p + size ≤ zs.length) (K : Value → World → Prop)
    (HC : ∀ n A cap, Nums .u8 (w.drewN n) b A (zs.drop p) → zs.length - p ≤ cap → Calls Try.prog 104 #[.slice A (zs.length - p) cap, .pointer (some ⟨c0, 0, none⟩)] (w.drewN n) fun r w' => ∃ v, r = .returned (.tuple #[v, .int .i64 size, .int .i64 0]) ∧ Below w.heap.size w w' ∧ K v w') :
    Calls Try.prog 103 #[.pointer (some ⟨b, 0, none⟩), .func (.func 104) #[] #[.pointer (some ⟨c0, 0, none⟩)]] w fun r w' => ∃ v w1, r = .returned v ∧ K v w1 ∧ Below w.heap.size w w1 ∧ w' = w1.setCell ⟨b, 1, none⟩ (.int .i64 (p + size)) := by
  have HE := lerr_any lo b zs p 0 w h
  have HW := Lib.hid h
  obtain ⟨A, cap, hb, c0, c1, c2, f1, f2, hn, hlc, hp, hlo⟩ := h.open
  have hnd := hn.nums.drop (i := p) hlc
  have hsz := h.lt
  have HB : Hid (∀ w1, Below w.heap.size w w1 → w1.cell? ⟨b, 1, none⟩ = some (.int .i64 p) ∧ w1.frozen? ⟨b, 1, none⟩ = false) := fun w1 hb1 => by
    obtain ⟨_, _, _, _, c1, c2, f1, f2, _⟩ := (HW.out.below hb1).open
    exact ⟨c1, f1⟩
  have hp1 : (p : Int) ≤ (zs.length : Int) := by omega
  have hp2 : (zs.length : Int) ≤ (cap : Int) := by omega
  obtain ⟨A', hA'⟩ : ∃ A', (if cap = p then A else Option.map (fun x => x.add p) A) = A' := ⟨_, rfl⟩
  rw [hA'] at hnd
  have HC1 := HC 1 A' (cap - p) (hnd.kept fun _ _ => rfl) (by omega)
  clear h hn HC
  go_enter Try.func103, Try.ntmps103
  go_wp2_with (go_at_call 69; refine HE.mono ?_; rintro r w2 ⟨rfl, rfl⟩)
  go_region_with (go_at_call 104; refine HC1.mono ?_; rintro r w3 ⟨v, rfl, hb3, hK⟩; obtain ⟨d1, g1⟩ := HB.out _ hb3)
  all_goals go_wp2
  all_goals go_ret
  all_goals exact ⟨_, _, rfl, hK, hb3, rfl⟩
set_option maxHeartbeats 2000000 in
theorem rdN_bad (c0 : Nat) (h : LensAt w lo b zs p 0) (_hl : zs.length ≤ 1000000000) (err : Nat) (he : err ≠ 0) (K : Value → World → Prop)
    (HC : ∀ n A cap, Nums .u8 (w.drewN n) b A (zs.drop p) → zs.length - p ≤ cap → Calls Try.prog 104 #[.slice A (zs.length - p) cap, .pointer (some ⟨c0, 0, none⟩)] (w.drewN n) fun r w' => ∃ v s, r = .returned (.tuple #[v, .int .i64 s, .int .i64 err]) ∧ Below w.heap.size w w' ∧ K v w') :
    Calls Try.prog 103 #[.pointer (some ⟨b, 0, none⟩), .func (.func 104) #[] #[.pointer (some ⟨c0, 0, none⟩)]] w fun r w' => r = .returned (.int .u64 0) ∧ ∃ v w1, K v w1 ∧ Below w.heap.size w w1 ∧ w' = w1.setCell ⟨b, 2, none⟩ (.int .i64 err) := by
  have HE := lerr_any lo b zs p 0 w h
  have HW := Lib.hid h
  obtain ⟨A, cap, hb, c0, c1, c2, f1, f2, hn, hlc, hp, hlo⟩ := h.open
  have hnd := hn.nums.drop (i := p) hlc
  have hsz := h.lt
  have HB : Hid (∀ w1, Below w.heap.size w w1 → w1.cell? ⟨b, 2, none⟩ = some (.int .i64 (0 : Nat)) ∧ w1.frozen? ⟨b, 2, none⟩ = false) := fun w1 hb1 => by
    obtain ⟨_, _, _, _, c1, c2, f1, f2, _⟩ := (HW.out.below hb1).open
    exact ⟨c2, f2⟩
  have hp1 : (p : Int) ≤ (zs.length : Int) := by omega
  have hp2 : (zs.length : Int) ≤ (cap : Int) := by omega
  obtain ⟨A', hA'⟩ : ∃ A', (if cap = p then A else Option.map (fun x => x.add p) A) = A' := ⟨_, rfl⟩
  rw [hA'] at hnd
  have HC1 := HC 1 A' (cap - p) (hnd.kept fun _ _ => rfl) (by omega)
  have h3 : ¬ (err : Int) = 0 := by omega
  have h4 : ((err : Int) != 0) = true := by simp; omega
  clear h hn HC he
  go_enter Try.func103, Try.ntmps103
  go_wp2_with (go_at_call 69; refine HE.mono ?_; rintro r w2 ⟨rfl, rfl⟩)
  go_region_with (go_at_call 104; refine HC1.mono ?_; rintro r w3 ⟨v, s, rfl, hb3, hK⟩; obtain ⟨d1, g1⟩ := HB.out _ hb3)
  all_goals go_wp2
  all_goals go_ret
  all_goals exact ⟨rfl, _, _, hK, hb3, rfl⟩
set_option maxHeartbeats 2000000 in
theorem rdS_ok (c0 c1 : Nat) (h : LensAt w lo b zs p 0) (hl : zs.length ≤ 1000000000) (size : Nat) (hs : p + size ≤ zs.length) (K : Value → World → Prop)
    (HC : ∀ n A cap, Nums .u8 (w.drewN n) b A (zs.drop p) → zs.length - p ≤ cap → Calls Try.prog 100 #[.slice A (zs.length - p) cap, .pointer (some ⟨c0, 0, none⟩), .pointer (some ⟨c1, 0, none⟩)] (w.drewN n) fun r w' => ∃ v, r = .returned (.tuple #[v, .int .i64 size, .int .i64 0]) ∧ Below w.heap.size w w' ∧ K v w') :
    Calls Try.prog 99 #[.pointer (some ⟨b, 0, none⟩), .func (.func 100) #[] #[.pointer (some ⟨c0, 0, none⟩), .pointer (some ⟨c1, 0, none⟩)]] w fun r w' => ∃ v w1, r = .returned v ∧ K v w1 ∧ Below w.heap.size w w1 ∧ w' = w1.setCell ⟨b, 1, none⟩ (.int .i64 (p + size)) := by
  have HE := lerr_any lo b zs p 0 w h
  have HW := Lib.hid h
  obtain ⟨A, cap, hb, c0, c1, c2, f1, f2, hn, hlc, hp, hlo⟩ := h.open
  have hnd := hn.nums.drop (i := p) hlc
  have hsz := h.lt
  have HB : Hid (∀ w1, Below w.heap.size w w1 → w1.cell? ⟨b, 1, none⟩ = some (.int .i64 p) ∧ w1.frozen? ⟨b, 1, none⟩ = false) := fun w1 hb1 => by
    obtain ⟨_, _, _, _, c1, c2, f1, f2, _⟩ := (HW.out.below hb1).open
    exact ⟨c1, f1⟩
  have hp1 : (p : Int) ≤ (zs.length : Int) := by omega
  have hp2 : (zs.length : Int) ≤ (cap : Int) := by omega
  obtain ⟨A', hA'⟩ : ∃ A', (if cap = p then A else Option.map (fun x => x.add p) A) = A' := ⟨_, rfl⟩
  rw [hA'] at hnd
  have HC1 := HC 1 A' (cap - p) (hnd.kept fun _ _ => rfl) (by omega)
  clear h hn HC
  go_enter Try.func99, Try.ntmps99
  go_wp2_with (go_at_call 69; refine HE.mono ?_; rintro r w2 ⟨rfl, rfl⟩)
  go_region_with (go_at_call 100; refine HC1.mono ?_; rintro r w3 ⟨v, rfl, hb3, hK⟩; obtain ⟨d1, g1⟩ := HB.out _ hb3)
  all_goals go_wp2
  all_goals go_ret
  all_goals exact ⟨_, _, rfl, hK, hb3, rfl⟩
set_option maxHeartbeats 2000000 in
theorem rdS_bad (c0 c1 : Nat) (h : LensAt w lo b zs p 0) (_hl : zs.length ≤ 1000000000) (err : Nat) (he : err ≠ 0) (K : Value → World → Prop)
    (HC : ∀ n A cap, Nums .u8 (w.drewN n) b A (zs.drop p) → zs.length - p ≤ cap → Calls Try.prog 100 #[.slice A (zs.length - p) cap, .pointer (some ⟨c0, 0, none⟩), .pointer (some ⟨c1, 0, none⟩)] (w.drewN n) fun r w' => ∃ v s, r = .returned (.tuple #[v, .int .i64 s, .int .i64 err]) ∧ Below w.heap.size w w' ∧ K v w') :
    Calls Try.prog 99 #[.pointer (some ⟨b, 0, none⟩), .func (.func 100) #[] #[.pointer (some ⟨c0, 0, none⟩), .pointer (some ⟨c1, 0, none⟩)]] w fun r w' => r = .returned (.int .i64 0) ∧ ∃ v w1, K v w1 ∧ Below w.heap.size w w1 ∧ w' = w1.setCell ⟨b, 2, none⟩ (.int .i64 err) := by
  have HE := lerr_any lo b zs p 0 w h
  have HW := Lib.hid h
  obtain ⟨A, cap, hb, c0, c1, c2, f1, f2, hn, hlc, hp, hlo⟩ := h.open
  have hnd := hn.nums.drop (i := p) hlc
  have hsz := h.lt
  have HB : Hid (∀ w1, Below w.heap.size w w1 → w1.cell? ⟨b, 2, none⟩ = some (.int .i64 (0 : Nat)) ∧ w1.frozen? ⟨b, 2, none⟩ = false) := fun w1 hb1 => by
    obtain ⟨_, _, _, _, c1, c2, f1, f2, _⟩ := (HW.out.below hb1).open
    exact ⟨c2, f2⟩
  have hp1 : (p : Int) ≤ (zs.length : Int) := by omega
  have hp2 : (zs.length : Int) ≤ (cap : Int) := by omega
  obtain ⟨A', hA'⟩ : ∃ A', (if cap = p then A else Option.map (fun x => x.add p) A) = A' := ⟨_, rfl⟩
  rw [hA'] at hnd
  have HC1 := HC 1 A' (cap - p) (hnd.kept fun _ _ => rfl) (by omega)
  have h3 : ¬ (err : Int) = 0 := by omega
  have h4 : ((err : Int) != 0) = true := by simp; omega
  clear h hn HC he
  go_enter Try.func99, Try.ntmps99
  go_wp2_with (go_at_call 69; refine HE.mono ?_; rintro r w2 ⟨rfl, rfl⟩)
  go_region_with (go_at_call 100; refine HC1.mono ?_; rintro r w3 ⟨v, s, rfl, hb3, hK⟩; obtain ⟨d1, g1⟩ := HB.out _ hb3)
  all_goals go_wp2
  all_goals go_ret
  all_goals exact ⟨rfl, _, _, hK, hb3, rfl⟩
end
end Go.Proofs.Ytmjbimmbphofjaa

namespace Go.Proofs.Ytmjbimmbphofjaa
open Go.RowKit
set_option maxRecDepth 100000
section
variable (lo b : Nat) (zs : List Int) (p e : Nat) (w : World)
theorem rdR_err (fv : Value) (h : LensAt w lo b zs p e) (he : e ≠ 0) :
    Calls Try.prog 105 #[.pointer (some ⟨b, 0, none⟩), fv] w fun r w' => r = .returned (.slice none 0 0) ∧ w = w' := by
  have HE := lerr_any lo b zs p e w h
  have h3 : ¬ (e : Int) = 0 := by omega
  have h4 : ((e : Int) != 0) = true := by simp; omega
  clear h he
  go_enter Try.func105, Try.ntmps105
  go_wp2_with (go_at_call 69; refine HE.mono ?_; rintro r w2 ⟨rfl, rfl⟩)
  go_ret
  exact ⟨rfl, rfl⟩
set_option maxHeartbeats 2000000 in
theorem rdF_ok (c0 : Nat) (h : LensAt w lo b zs p 0) (hl : zs.length ≤ 1000000000) (size : Nat) (hs : p + size ≤ zs.length) (K : Value → World → Prop)
    (HC : ∀ n A cap, Nums .u8 (w.drewN n) b A (zs.drop p) → zs.length - p ≤ cap → Calls Try.prog 106 #[.slice A (zs.length - p) cap, .pointer (some ⟨c0, 0, none⟩)] (w.drewN n) fun r w' => ∃ v, r = .returned (.tuple #[v, .int .i64 size, .int .i64 0]) ∧ Below w.heap.size w w' ∧ K v w') :
    Calls Try.prog 105 #[.pointer (some ⟨b, 0, none⟩), .func (.func 106) #[] #[.pointer (some ⟨c0, 0, none⟩)]] w fun r w' => ∃ v w1, r = .returned v ∧ K v w1 ∧ Below w.heap.size w w1 ∧ w' = w1.setCell ⟨b, 1, none⟩ (.int .i64 (p + size)) := by
  have HE := lerr_any lo b zs p 0 w h
  have HW := Lib.hid h
  obtain ⟨A, cap, hb, c0, c1, c2, f1, f2, hn, hlc, hp, hlo⟩ := h.open
  have hnd := hn.nums.drop (i := p) hlc
  have hsz := h.lt
  have HB : Hid (∀ w1, Below w.heap.size w w1 → w1.cell? ⟨b, 1, none⟩ = some (.int .i64 p) ∧ w1.frozen? ⟨b, 1, none⟩ = false) := fun w1 hb1 => by
    obtain ⟨_, _, _, _, c1, c2, f1, f2, _⟩ := (HW.out.below hb1).open
    exact ⟨c1, f1⟩
  have hp1 : (p : Int) ≤ (zs.length : Int) := by omega
  have hp2 : (zs.length : Int) ≤ (cap : Int) := by omega
  obtain ⟨A', hA'⟩ : ∃ A', (if cap = p then A else Option.map (fun x => x.add p) A) = A' := ⟨_, rfl⟩
  rw [hA'] at hnd
  have HC1 := HC 1 A' (cap - p) (hnd.kept fun _ _ => rfl) (by omega)
  clear h hn HC
  go_enter Try.func105, Try.ntmps105
  go_wp2_with (go_at_call 69; refine HE.mono ?_; rintro r w2 ⟨rfl, rfl⟩)
  go_region_with (go_at_call 106; refine HC1.mono ?_; rintro r w3 ⟨v, rfl, hb3, hK⟩; obtain ⟨d1, g1⟩ := HB.out _ hb3)
  all_goals go_wp2
  all_goals go_ret
  all_goals exact ⟨_, _, rfl, hK, hb3, rfl⟩
set_option maxHeartbeats 2000000 in
theorem rdF_bad (c0 : Nat) (h : LensAt w lo b zs p 0) (_hl : zs.length ≤ 1000000000) (err : Nat) (he : err ≠ 0) (K : Value → World → Prop)
    (HC : ∀ n A cap, Nums .u8 (w.drewN n) b A (zs.drop p) → zs.length - p ≤ cap → Calls Try.prog 106 #[.slice A (zs.length - p) cap, .pointer (some ⟨c0, 0, none⟩)] (w.drewN n) fun r w' => ∃ v s, r = .returned (.tuple #[v, .int .i64 s, .int .i64 err]) ∧ Below w.heap.size w w' ∧ K v w') :
    Calls Try.prog 105 #[.pointer (some ⟨b, 0, none⟩), .func (.func 106) #[] #[.pointer (some ⟨c0, 0, none⟩)]] w fun r w' => r = .returned (.slice none 0 0) ∧ ∃ v w1, K v w1 ∧ Below w.heap.size w w1 ∧ w' = w1.setCell ⟨b, 2, none⟩ (.int .i64 err) := by
  have HE := lerr_any lo b zs p 0 w h
  have HW := Lib.hid h
  obtain ⟨A, cap, hb, c0, c1, c2, f1, f2, hn, hlc, hp, hlo⟩ := h.open
  have hnd := hn.nums.drop (i := p) hlc
  have hsz := h.lt
  have HB : Hid (∀ w1, Below w.heap.size w w1 → w1.cell? ⟨b, 2, none⟩ = some (.int .i64 (0 : Nat)) ∧ w1.frozen? ⟨b, 2, none⟩ = false) := fun w1 hb1 => by
    obtain ⟨_, _, _, _, c1, c2, f1, f2, _⟩ := (HW.out.below hb1).open
    exact ⟨c2, f2⟩
  have hp1 : (p : Int) ≤ (zs.length : Int) := by omega
  have hp2 : (zs.length : Int) ≤ (cap : Int) := by omega
  obtain ⟨A', hA'⟩ : ∃ A', (if cap = p then A else Option.map (fun x => x.add p) A) = A' := ⟨_, rfl⟩
  rw [hA'] at hnd
  have HC1 := HC 1 A' (cap - p) (hnd.kept fun _ _ => rfl) (by omega)
  have h3 : ¬ (err : Int) = 0 := by omega
  have h4 : ((err : Int) != 0) = true := by simp; omega
  clear h hn HC he
  go_enter Try.func105, Try.ntmps105
  go_wp2_with (go_at_call 69; refine HE.mono ?_; rintro r w2 ⟨rfl, rfl⟩)
  go_region_with (go_at_call 106; refine HC1.mono ?_; rintro r w3 ⟨v, s, rfl, hb3, hK⟩; obtain ⟨d1, g1⟩ := HB.out _ hb3)
  all_goals go_wp2
  all_goals go_ret
  all_goals exact ⟨rfl, _, _, hK, hb3, rfl⟩
end
end Go.Proofs.Ytmjbimmbphofjaa

namespace Go.Proofs.Ytmjbimmbphofjaa
open Go.RowKit
set_option maxRecDepth 100000
section
variable (lo b : Nat) (zs : List Int) (p e : Nat) (w : World)
end
end Go.Proofs.Ytmjbimmbphofjaa

namespace Go.Proofs.Ytmjbimmbphofjaa
open Go.RowKit Go.Shelf
set_option maxRecDepth 100000
attribute [local go_sem] Oper.semAt_some

theorem NumsS.kept {k : IntKind} {S : Nat → Prop} {A B : World} {a : Option Addr} {zs : List Int} (h : NumsS k A S a zs) (hk : KeepS S A B) : NumsS k B S a zs := fun hn => by
  obtain ⟨b, off, e, h1, hc⟩ := h hn
  exact ⟨b, off, e, h1, fun j c hj => (hk.cell (p := ⟨b, off + j, none⟩) h1).trans (hc j c hj)⟩
theorem NumsS.open {k : IntKind} {S : Nat → Prop} {w : World} {a : Option Addr} {zs : List Int} (h : NumsS k w S a zs) {j : Nat} {c : Int} (hj : zs[j]? = some c) : ∃ b off, a = some ⟨b, off, none⟩ ∧ S b ∧ w.cell? ⟨b, off + j, none⟩ = some (.int k c) := by
  obtain ⟨b, off, e, hb, hc⟩ := h (by intro e; subst e; simp at hj)
  exact ⟨b, off, e, hb, hc j c hj⟩
end Go.Proofs.Ytmjbimmbphofjaa

namespace Go.Proofs.Ytmjbimmbphofjaa
open Go.RowKit
set_option maxRecDepth 100000

/-- what a read's closure hands on: where nothing is wrong, the value and its bytes' number -/
def ClosI (k : IntKind) (x : Int × Nat × Nat) (r : Ending) : Prop :=
  ∃ (v s : Int), r = .returned (.tuple #[.int k v, .int .i64 s, .int .i64 x.2.2]) ∧ (x.2.2 = 0 → v = x.1 ∧ s = x.2.1)
theorem ClosI.bad {k : IntKind} {x : Int × Nat × Nat} {v s : Int} {e : Int} (h : x.2.2 ≠ 0) (he : e = x.2.2) : ClosI k x (.returned (.tuple #[.int k v, .int .i64 s, .int .i64 e])) := by
  subst he; exact ⟨v, s, rfl, fun h0 => absurd h0 h⟩
theorem ClosI.ok {k : IntKind} {x : Int × Nat × Nat} {v s : Int} {e : Int} (hv : v = x.1) (hs : s = x.2.1) (he : e = x.2.2) : ClosI k x (.returned (.tuple #[.int k v, .int .i64 s, .int .i64 e])) := by
  subst he; exact ⟨v, s, rfl, fun _ => ⟨hv, hs⟩⟩

section
variable (B : Nat) (a : Option Addr) (n cap c : Nat) (l : List Int) (w : World)
theorem numc_any (most : Int) (hn : l.length = n) (hl : n ≤ 1000000000) (hz : ∀ x ∈ l, 0 ≤ x ∧ x ≤ 255) (h1 : Nums .u8 w B a l) (hc : w.cell? ⟨c, 0, none⟩ = some (.int .u64 most)) :
    Calls Try.prog 104 #[.slice a n cap, .pointer (some ⟨c, 0, none⟩)] w fun r w' => ClosI .u64 (numR l most) r ∧ w = w' := by
  have HG := get_len B a n cap l w hn (by omega) hz h1
  have hle := Vi.get_le l
  clear h1 hz
  by_cases he : (Vi.get l).2.2 = 0
  · have h0 : (((Vi.get l).2.2 : Nat) : Int) = 0 := by omega
    by_cases hm : most < ((Vi.get l).1 : Int)
    · have HR : Hid (numR l most = (0, 0, 5)) := by show _ = _; unfold numR; rw [if_neg (by simp [he]), if_pos hm]
      have h4 : (((Vi.get l).2.2 : Nat) : Int) = 0 := h0
      generalize hr : Vi.get l = r at *
      obtain ⟨r1, r2, r3⟩ := r
      simp only at he hm h0 HG h4 hle
      subst he
      clear hr h0 h4 hle
      go_enter Try.func104, Try.ntmps104
      go_wp2_with (go_at_call 101; refine HG.mono ?_; rintro e w1 ⟨rfl, rfl⟩)
      go_ret3
      exact ⟨ClosI.bad (by rw [HR.out]; decide) (by rw [HR.out]; rfl), rfl⟩
    · have HR : Hid (numR l most = (((Vi.get l).1 : Int), (Vi.get l).2.1, 0)) := by show _ = _; unfold numR; rw [if_neg (by simp [he]), if_neg hm]
      generalize hr : Vi.get l = r at *
      obtain ⟨r1, r2, r3⟩ := r
      simp only at he hm h0 HG hle HR
      subst he
      clear hr h0 hle
      go_enter Try.func104, Try.ntmps104
      go_wp2_with (go_at_call 101; refine HG.mono ?_; rintro e w1 ⟨rfl, rfl⟩)
      go_ret3
      exact ⟨by rw [HR.out]; exact ClosI.ok rfl rfl rfl, rfl⟩
  · have HR : Hid (numR l most = (0, 0, (Vi.get l).2.2)) := by show _ = _; unfold numR; rw [if_pos he]
    have h3 : ¬ (((Vi.get l).2.2 : Nat) : Int) = 0 := by omega
    have h4 : ((((Vi.get l).2.2 : Nat) : Int) == 0) = false := by simp; omega
    have HE := Lib.hid he
    clear he hle
    go_enter Try.func104, Try.ntmps104
    go_wp2_with (go_at_call 101; refine HG.mono ?_; rintro e w1 ⟨rfl, rfl⟩)
    go_ret3
    exact ⟨ClosI.bad (by rw [HR.out]; exact HE.out) (by rw [HR.out]), rfl⟩

theorem sigc_any (c2 : Nat) (least most : Int) (hn : l.length = n) (hl : n ≤ 1000000000) (hz : ∀ x ∈ l, 0 ≤ x ∧ x ≤ 255) (h1 : Nums .u8 w B a l) (hc : w.cell? ⟨c, 0, none⟩ = some (.int .i64 least)) (hc2 : w.cell? ⟨c2, 0, none⟩ = some (.int .i64 most)) :
    Calls Try.prog 100 #[.slice a n cap, .pointer (some ⟨c, 0, none⟩), .pointer (some ⟨c2, 0, none⟩)] w fun r w' => ClosI .i64 (sigR l least most) r ∧ w = w' := by
  have HG := get_len B a n cap l w hn (by omega) hz h1
  have hle := Vi.get_le l
  have HZ := zag_any ((Vi.get l).1 : Int) w (by omega) (by omega)
  clear h1 hz
  by_cases he : (Vi.get l).2.2 = 0
  · by_cases hm1 : zagZ ((Vi.get l).1 : Int) < least
    · have HR : Hid (sigR l least most = (0, 0, 5)) := by show _ = _; unfold sigR; rw [if_neg (by simp [he]), if_pos (.inl hm1)]
      generalize hr : Vi.get l = r at *
      obtain ⟨r1, r2, r3⟩ := r
      simp only at he hm1 HG HZ hle
      subst he
      clear hr hle
      generalize zagZ (r1 : Int) = z at *
      go_enter Try.func100, Try.ntmps100
      go_wp2_with (first
        | (go_at_call 101; refine HG.mono ?_; rintro e w1 ⟨rfl, rfl⟩)
        | (go_at_call 102; refine HZ.mono ?_; rintro e w1 ⟨rfl, rfl⟩))
      go_ret3
      exact ⟨ClosI.bad (by rw [HR.out]; decide) (by rw [HR.out]; rfl), rfl⟩
    · by_cases hm2 : most < zagZ ((Vi.get l).1 : Int)
      · have HR : Hid (sigR l least most = (0, 0, 5)) := by show _ = _; unfold sigR; rw [if_neg (by simp [he]), if_pos (.inr hm2)]
        generalize hr : Vi.get l = r at *
        obtain ⟨r1, r2, r3⟩ := r
        simp only at he hm1 hm2 HG HZ hle
        subst he
        clear hr hle
        generalize zagZ (r1 : Int) = z at *
        go_enter Try.func100, Try.ntmps100
        go_wp2_with (first
          | (go_at_call 101; refine HG.mono ?_; rintro e w1 ⟨rfl, rfl⟩)
          | (go_at_call 102; refine HZ.mono ?_; rintro e w1 ⟨rfl, rfl⟩))
        go_ret3
        exact ⟨ClosI.bad (by rw [HR.out]; decide) (by rw [HR.out]; rfl), rfl⟩
      · have HR : Hid (sigR l least most = (zagZ ((Vi.get l).1 : Int), (Vi.get l).2.1, 0)) := by show _ = _; unfold sigR; rw [if_neg (by simp [he]), if_neg (by rintro (h | h) <;> omega)]
        generalize hr : Vi.get l = r at *
        obtain ⟨r1, r2, r3⟩ := r
        simp only at he hm1 hm2 HG HZ hle HR
        subst he
        clear hr hle
        generalize zagZ (r1 : Int) = z at *
        go_enter Try.func100, Try.ntmps100
        go_wp2_with (first
          | (go_at_call 101; refine HG.mono ?_; rintro e w1 ⟨rfl, rfl⟩)
          | (go_at_call 102; refine HZ.mono ?_; rintro e w1 ⟨rfl, rfl⟩))
        go_ret3
        exact ⟨by rw [HR.out]; exact ClosI.ok rfl rfl rfl, rfl⟩
  · have HR : Hid (sigR l least most = (0, 0, (Vi.get l).2.2)) := by show _ = _; unfold sigR; rw [if_pos he]
    have h3 : ¬ (((Vi.get l).2.2 : Nat) : Int) = 0 := by omega
    have h4 : ((((Vi.get l).2.2 : Nat) : Int) == 0) = false := by simp; omega
    have HE := Lib.hid he
    clear he hle
    go_enter Try.func100, Try.ntmps100
    go_wp2_with (first
      | (go_at_call 101; refine HG.mono ?_; rintro e w1 ⟨rfl, rfl⟩)
      | (go_at_call 102; refine HZ.mono ?_; rintro e w1 ⟨rfl, rfl⟩))
    go_ret3
    exact ⟨ClosI.bad (by rw [HR.out]; exact HE.out) (by rw [HR.out]), rfl⟩

/-- what a closure that makes bytes hands on -/
def ClosB (x : List Int × Nat × Nat) (w : World) (r : Ending) (w' : World) : Prop :=
  ∃ (v : Value) (s : Int), r = .returned (.tuple #[v, .int .i64 s, .int .i64 x.2.2]) ∧ MadeK 5 .u8 w w' x.1 v ∧ (x.2.2 = 0 → s = x.2.1)
theorem ClosB.mk {x : List Int × Nat × Nat} {w w' : World} {v : Value} {s e : Int} (hm : MadeK 5 .u8 w w' x.1 v) (he : e = x.2.2) (hs : x.2.2 = 0 → s = x.2.1) : ClosB x w (.returned (.tuple #[v, .int .i64 s, .int .i64 e])) w' := by
  subst he; exact ⟨v, s, rfl, hm, hs⟩
theorem fldc_any (m : Int) (hn : l.length = n) (hnc : n ≤ cap) (hl : n ≤ 1000000000) (hz : ∀ x ∈ l, 0 ≤ x ∧ x ≤ 255) (hm0 : -9223372036854775808 ≤ m) (hm1 : m ≤ 9223372036854775807) (h1 : Nums .u8 w w.heap.size a l) (hc : w.cell? ⟨c, 0, none⟩ = some (.int .i64 m)) :
    Calls Try.prog 106 #[.slice a n cap, .pointer (some ⟨c, 0, none⟩)] w fun r w' => ClosB (fldR l m) w r w' := by
  have HG := get_len _ a n cap l w hn (by omega) hz h1
  have hle := Vi.get_le l
  have HC0 := cloneK_any none 0 0 [] w rfl (by decide) Nums.nil
  by_cases he : (Vi.get l).2.2 = 0
  · obtain ⟨M, hq⟩ : ∃ M : Int, (if m < 0 then (0 : Int) else m) = M := ⟨_, rfl⟩
    have hM : max m 0 = M := by rw [← hq]; split <;> omega
    have hM0 : 0 ≤ M := by omega
    have hM1 : M ≤ 9223372036854775807 := by omega
    by_cases hmany : M < ((Vi.get l).1 : Int)
    · have HR : Hid (fldR l m = ([], 0, 6)) := by show _ = _; unfold fldR; rw [if_neg (by simp [he]), if_pos (by rw [hM]; exact hmany)]
      generalize hr : Vi.get l = r at *
      obtain ⟨r1, r2, r3⟩ := r
      simp only at he hmany HG hle
      subst he
      clear hr h1 hz HC0
      clear hM
      go_enter Try.func106, Try.ntmps106
      go_wp2_with (go_at_call 101; refine HG.mono ?_; rintro e w1 ⟨rfl, rfl⟩)
      go_ret3
      exact ClosB.mk (by rw [HR.out]; exact MadeK.nil _ _ (Below.refl _ _)) (by rw [HR.out]; rfl) (by rw [HR.out]; simp)
    · have hd := h1.drop (i := (Vi.get l).2.1) (cap := cap) (by omega)
      obtain ⟨A', hA'⟩ : ∃ A', (if cap = (Vi.get l).2.1 then a else Option.map (fun x => x.add (Vi.get l).2.1) a) = A' := ⟨_, rfl⟩
      rw [hA'] at hd
      have hdl : (l.drop (Vi.get l).2.1).length = n - (Vi.get l).2.1 := by rw [List.length_drop, hn]
      by_cases hmore : n - (Vi.get l).2.1 < (Vi.get l).1
      · have HR : Hid (fldR l m = ([], 0, 4)) := by show _ = _; unfold fldR; rw [if_neg (by simp [he]), if_neg (by rw [hM]; exact hmany), if_pos (by rw [hn]; exact hmore)]
        have HP := part_more A' (n - (Vi.get l).2.1) (cap - (Vi.get l).2.1) ((Vi.get l).1 : Int) w (by omega)
        generalize hr : Vi.get l = r at *
        obtain ⟨r1, r2, r3⟩ := r
        simp only at he hmany HG hle hd hA' hdl hmore HP
        subst he
        have h2n : r2 ≤ n := by omega
        clear hr h1 hz hd hdl
        clear hM
        go_enter Try.func106, Try.ntmps106
        go_wp2_with (first
          | (go_at_call 101; refine HG.mono ?_; rintro e w1 ⟨rfl, rfl⟩)
          | (go_at_call 107; refine HP.mono ?_; rintro e w1 ⟨rfl, rfl⟩)
          | (go_at_call 55; refine HC0.mono ?_; rintro e w1 ⟨v, rfl, hm⟩; have HM := Lib.hid hm; clear hm))
        go_ret3
        exact ClosB.mk (by rw [HR.out]; exact HM.out) (by rw [HR.out]; rfl) (by rw [HR.out]; simp)
      · have HR : Hid (fldR l m = ((l.drop (Vi.get l).2.1).take (Vi.get l).1, (Vi.get l).2.1 + (Vi.get l).1, 0)) := by
          show _ = _; unfold fldR; rw [if_neg (by simp [he]), if_neg (by rw [hM]; exact hmany), if_neg (by rw [hn]; exact hmore)]
        have HP := part_ok A' (n - (Vi.get l).2.1) (cap - (Vi.get l).2.1) ((Vi.get l).1 : Int) w (by omega) (by omega) (by omega)
        rw [Int.toNat_natCast] at HP
        have HC := cloneK_any A' (Vi.get l).1 (Vi.get l).1 ((l.drop (Vi.get l).2.1).take (Vi.get l).1) w (by rw [List.length_take]; omega) (by omega) (hd.take _)
        generalize hr : Vi.get l = r at *
        obtain ⟨r1, r2, r3⟩ := r
        simp only at he hmany HG hle hd hA' hdl hmore HP HC HR
        subst he
        have h2n : r2 ≤ n := by omega
        have h3n : r1 ≤ n := by omega
        clear hr h1 hz hd hdl HC0
        clear hM
        go_enter Try.func106, Try.ntmps106
        go_wp2_with (first
          | (go_at_call 101; refine HG.mono ?_; rintro e w1 ⟨rfl, rfl⟩)
          | (go_at_call 107; refine HP.mono ?_; rintro e w1 ⟨rfl, rfl⟩)
          | (go_at_call 55; refine HC.mono ?_; rintro e w1 ⟨v, rfl, hm⟩; have HM := Lib.hid hm; clear hm))
        go_ret3
        exact ClosB.mk (by rw [HR.out]; exact HM.out) (by rw [HR.out]; rfl) (by rw [HR.out]; intro _; simp)
  · have HR : Hid (fldR l m = ([], 0, (Vi.get l).2.2)) := by show _ = _; unfold fldR; rw [if_pos he]
    have h3 : ¬ (((Vi.get l).2.2 : Nat) : Int) = 0 := by omega
    have h4 : ((((Vi.get l).2.2 : Nat) : Int) != 0) = true := by simp; omega
    have HE := Lib.hid he
    clear he hle h1 HC0
    go_enter Try.func106, Try.ntmps106
    go_wp2_with (go_at_call 101; refine HG.mono ?_; rintro e w1 ⟨rfl, rfl⟩)
    go_ret3
    exact ClosB.mk (by rw [HR.out]; exact MadeK.nil _ _ (Below.refl _ _)) (by rw [HR.out]) (fun h => by rw [HR.out] at h ⊢; exact absurd h HE.out)
end
end Go.Proofs.Ytmjbimmbphofjaa

namespace Go.Proofs.Ytmjbimmbphofjaa
open Go.RowKit Go.Shelf
set_option maxRecDepth 100000
attribute [local go_sem] Oper.semAt_some

end Go.Proofs.Ytmjbimmbphofjaa

namespace Go.Proofs.Ytmjbimmbphofjaa
open Go.RowKit
set_option maxRecDepth 100000

/-- place and error behind a read -/
def placeOf (p e : Nat) (size : Nat) : Nat := if e = 0 then p + size else p
def errOf (e err : Nat) : Nat := if e = 0 then err else e
def ansI (e : Nat) (x : Int) : Int := if e = 0 then x else 0
def ansB (e : Nat) (L : List Int) : List Int := if e = 0 then L else []
/-- what a read that answers a number leaves -/
def ReadI (k : IntKind) (lo b : Nat) (zs : List Int) (p e : Nat) (x : Int × Nat × Nat) (w : World) (r : Ending) (w' : World) : Prop :=
  r = .returned (.int k (ansI e x.1)) ∧ LensAt w' lo b zs (placeOf p e x.2.1) (errOf e x.2.2) ∧ Off (fun j => j = b) w w'
/-- what a read that answers bytes leaves -/
def ReadB (lo b : Nat) (zs : List Int) (p e : Nat) (x : List Int × Nat × Nat) (w : World) (r : Ending) (w' : World) : Prop :=
  (∃ A c, r = .returned (.slice A (ansB e x.1).length c) ∧ (ansB e x.1).length ≤ c ∧ NumsIn .u8 w' w.heap.size w'.heap.size A (ansB e x.1)) ∧ LensAt w' lo b zs (placeOf p e x.2.1) (errOf e x.2.2) ∧ Off (fun j => j = b) w w'

section
variable {k : IntKind} {lo b : Nat} {zs : List Int} {p e : Nat} {x : Int × Nat × Nat} {y : List Int × Nat × Nat} {w w0 w' : World} {r : Ending}
theorem ReadI.later (h : ReadI k lo b zs p e x w r w') (hb : Below w0.heap.size w0 w) : ReadI k lo b zs p e x w0 r w' :=
  ⟨h.1, h.2.1, (Off.of_below hb).trans h.2.2 fun _ _ h => h⟩
theorem ReadB.later (h : ReadB lo b zs p e y w r w') (hb : Below w0.heap.size w0 w) : ReadB lo b zs p e y w0 r w' := by
  obtain ⟨⟨A, c, h1, h2, h3⟩, h4, h5⟩ := h
  exact ⟨⟨A, c, h1, h2, h3.lower hb.size⟩, h4, (Off.of_below hb).trans h5 fun _ _ h => h⟩
theorem ReadI.err (h : LensAt w lo b zs p e) (he : e ≠ 0) : ReadI k lo b zs p e x w (.returned (.int k 0)) w :=
  ⟨by simp [ansI, he], by simpa [placeOf, errOf, he] using h, Off.refl _ _⟩
theorem ReadB.err (h : LensAt w lo b zs p e) (he : e ≠ 0) : ReadB lo b zs p e y w (.returned (.slice none 0 0)) w :=
  ⟨⟨none, 0, by simp [ansB, he], by simp [ansB, he], fun hn => absurd (by simp [ansB, he]) hn⟩, by simpa [placeOf, errOf, he] using h, Off.refl _ _⟩
theorem ReadI.ok {w1 : World} (h : LensAt w lo b zs p 0) (h0 : x.2.2 = 0) (hs : p + x.2.1 ≤ zs.length) (hb : Below w.heap.size w w1) : ReadI k lo b zs p 0 x w (.returned (.int k x.1)) (w1.setCell ⟨b, 1, none⟩ (.int .i64 (p + x.2.1))) := by
  refine ⟨by simp [ansI], ?_, (Off.of_below (S := fun j => j = b) hb).setCell (p := ⟨b, 1, none⟩) rfl _⟩
  have := (h.below hb).move hs
  rw [Int.natCast_add] at this
  simpa [placeOf, errOf, h0] using this
theorem ReadI.bad {w1 : World} (h : LensAt w lo b zs p 0) (h0 : x.1 = 0) (h1 : x.2.1 = 0) (hb : Below w.heap.size w w1) : ReadI k lo b zs p 0 x w (.returned (.int k 0)) (w1.setCell ⟨b, 2, none⟩ (.int .i64 x.2.2)) := by
  refine ⟨by simp [ansI, h0], ?_, (Off.of_below (S := fun j => j = b) hb).setCell (p := ⟨b, 2, none⟩) rfl _⟩
  have := (h.below hb).fail x.2.2
  simpa [placeOf, errOf, h1] using this
theorem NumsIn.set {w1 : World} {A : Option Addr} {L : List Int} {s : Nat} (h : NumsIn .u8 w1 s w1.heap.size A L) (hb : b < s) (o : Nat) (v : Value) : NumsIn .u8 (w1.setCell ⟨b, o, none⟩ v) s (w1.setCell ⟨b, o, none⟩ v).heap.size A L := by
  have h2 := h.keeps (B := w1.setCell ⟨b, o, none⟩ v) ⟨by simp [World.setCell], fun k h4 h5 => Below.heap_setCell _ _ _ _ (by simp; omega)⟩
  exact h2.mono (by simp [World.setCell])
theorem ReadB.ok {w1 : World} {v : Value} (h : LensAt w lo b zs p 0) (h0 : y.2.2 = 0) (hs : p + y.2.1 ≤ zs.length) (hm : MadeK 5 .u8 w w1 y.1 v) : ReadB lo b zs p 0 y w (.returned v) (w1.setCell ⟨b, 1, none⟩ (.int .i64 (p + y.2.1))) := by
  refine ⟨?_, ?_, (Off.of_below (S := fun j => j = b) hm.2).setCell (p := ⟨b, 1, none⟩) rfl _⟩
  · obtain ⟨A, c, rfl, hc, _⟩ := hm.slice
    exact ⟨A, c, by simp [ansB], by simpa [ansB] using hc, by simpa [ansB] using hm.numsIn.set h.lt 1 _⟩
  · have := (h.below hm.2).move hs
    rw [Int.natCast_add] at this
    simpa [placeOf, errOf, h0] using this
theorem ReadB.bad {w1 : World} (h : LensAt w lo b zs p 0) (h0 : y.1 = []) (h1 : y.2.1 = 0) (hb : Below w.heap.size w w1) : ReadB lo b zs p 0 y w (.returned (.slice none 0 0)) (w1.setCell ⟨b, 2, none⟩ (.int .i64 y.2.2)) := by
  refine ⟨⟨none, 0, by simp [ansB, h0], by simp [ansB, h0], fun hn => absurd (by simp [ansB, h0]) hn⟩, ?_, (Off.of_below (S := fun j => j = b) hb).setCell (p := ⟨b, 2, none⟩) rfl _⟩
  have := (h.below hb).fail y.2.2
  simpa [placeOf, errOf, h1] using this
end
theorem numR_err {l : List Int} {m : Int} (h : (numR l m).2.2 ≠ 0) : (numR l m).1 = 0 ∧ (numR l m).2.1 = 0 := by
  revert h; unfold numR; split; (intro _; exact ⟨rfl, rfl⟩); split; (intro _; exact ⟨rfl, rfl⟩); intro h; exact absurd rfl h
theorem sigR_err {l : List Int} {m1 m : Int} (h : (sigR l m1 m).2.2 ≠ 0) : (sigR l m1 m).1 = 0 ∧ (sigR l m1 m).2.1 = 0 := by
  revert h; unfold sigR; split; (intro _; exact ⟨rfl, rfl⟩); split; (intro _; exact ⟨rfl, rfl⟩); intro h; exact absurd rfl h
theorem fldR_err {l : List Int} {m : Int} (h : (fldR l m).2.2 ≠ 0) : (fldR l m).1 = [] ∧ (fldR l m).2.1 = 0 := by
  revert h; unfold fldR; split; (intro _; exact ⟨rfl, rfl⟩); split; (intro _; exact ⟨rfl, rfl⟩); split; (intro _; exact ⟨rfl, rfl⟩); intro h; exact absurd rfl h
theorem drop_fit {zs : List Int} {p s : Nat} (h : s ≤ (zs.drop p).length) (hp : p ≤ zs.length) : p + s ≤ zs.length := by rw [List.length_drop] at h; omega
theorem drop_bytes {zs : List Int} (hz : ∀ x ∈ zs, 0 ≤ x ∧ x ≤ 255) (p : Nat) : ∀ x ∈ zs.drop p, 0 ≤ x ∧ x ≤ 255 := fun x hx => hz x (List.mem_of_mem_drop hx)

section
variable (lo b : Nat) (zs : List Int) (p e : Nat) (w : World)
theorem rdN_any (c : Nat) (most : Int) (h : LensAt w lo b zs p e) (hl : zs.length ≤ 1000000000) (hz : ∀ x ∈ zs, 0 ≤ x ∧ x ≤ 255) (hc : w.cell? ⟨c, 0, none⟩ = some (.int .u64 most)) :
    Calls Try.prog 103 #[.pointer (some ⟨b, 0, none⟩), .func (.func 104) #[] #[.pointer (some ⟨c, 0, none⟩)]] w fun r w' => ReadI .u64 lo b zs p e (numR (zs.drop p) most) w r w' := by
  by_cases he : e = 0
  · subst he
    have HC : ∀ n A cap, Nums .u8 (w.drewN n) b A (zs.drop p) → zs.length - p ≤ cap → Calls Try.prog 104 #[.slice A (zs.length - p) cap, .pointer (some ⟨c, 0, none⟩)] (w.drewN n) fun r w' => ClosI .u64 (numR (zs.drop p) most) r ∧ w.drewN n = w' := fun n A cap hn _ =>
      numc_any b A (zs.length - p) cap c (zs.drop p) (w.drewN n) most (by simp) (by omega) (drop_bytes hz p) hn hc
    by_cases h0 : (numR (zs.drop p) most).2.2 = 0
    · refine (rdN_ok lo b zs p w c h hl (numR (zs.drop p) most).2.1 (drop_fit (numR_le most) h.place) (fun v _ => v = .int .u64 (numR (zs.drop p) most).1) (fun n A cap hn hc2 => (HC n A cap hn hc2).mono ?_)).mono ?_
      · rintro r w' ⟨⟨v, s, rfl, hv⟩, rfl⟩
        obtain ⟨rfl, rfl⟩ := hv h0
        exact ⟨_, by rw [h0]; rfl, below_drewN (Below.refl _ _) n, rfl⟩
      · rintro r w' ⟨v, w1, rfl, rfl, hb, rfl⟩
        exact ReadI.ok h h0 (drop_fit (numR_le most) h.place) hb
    · refine (rdN_bad lo b zs p w c h hl (numR (zs.drop p) most).2.2 h0 (fun _ _ => True) (fun n A cap hn hc2 => (HC n A cap hn hc2).mono ?_)).mono ?_
      · rintro r w' ⟨⟨v, s, rfl, _⟩, rfl⟩
        exact ⟨_, _, rfl, below_drewN (Below.refl _ _) n, trivial⟩
      · rintro r w' ⟨rfl, v, w1, _, hb, rfl⟩
        exact ReadI.bad h (numR_err h0).1 (numR_err h0).2 hb
  · refine (rdN_err lo b zs p e w _ h he).mono ?_
    rintro r w' ⟨rfl, rfl⟩
    exact ReadI.err h he
theorem rdS_any (c c2 : Nat) (least most : Int) (h : LensAt w lo b zs p e) (hl : zs.length ≤ 1000000000) (hz : ∀ x ∈ zs, 0 ≤ x ∧ x ≤ 255) (hc : w.cell? ⟨c, 0, none⟩ = some (.int .i64 least)) (hd : w.cell? ⟨c2, 0, none⟩ = some (.int .i64 most)) :
    Calls Try.prog 99 #[.pointer (some ⟨b, 0, none⟩), .func (.func 100) #[] #[.pointer (some ⟨c, 0, none⟩), .pointer (some ⟨c2, 0, none⟩)]] w fun r w' => ReadI .i64 lo b zs p e (sigR (zs.drop p) least most) w r w' := by
  by_cases he : e = 0
  · subst he
    have HC : ∀ n A cap, Nums .u8 (w.drewN n) b A (zs.drop p) → zs.length - p ≤ cap → Calls Try.prog 100 #[.slice A (zs.length - p) cap, .pointer (some ⟨c, 0, none⟩), .pointer (some ⟨c2, 0, none⟩)] (w.drewN n) fun r w' => ClosI .i64 (sigR (zs.drop p) least most) r ∧ w.drewN n = w' := fun n A cap hn _ =>
      sigc_any b A (zs.length - p) cap c (zs.drop p) (w.drewN n) c2 least most (by simp) (by omega) (drop_bytes hz p) hn hc hd
    by_cases h0 : (sigR (zs.drop p) least most).2.2 = 0
    · refine (rdS_ok lo b zs p w c c2 h hl (sigR (zs.drop p) least most).2.1 (drop_fit (sigR_le least most) h.place) (fun v _ => v = .int .i64 (sigR (zs.drop p) least most).1) (fun n A cap hn hc2 => (HC n A cap hn hc2).mono ?_)).mono ?_
      · rintro r w' ⟨⟨v, s, rfl, hv⟩, rfl⟩
        obtain ⟨rfl, rfl⟩ := hv h0
        exact ⟨_, by rw [h0]; rfl, below_drewN (Below.refl _ _) n, rfl⟩
      · rintro r w' ⟨v, w1, rfl, rfl, hb, rfl⟩
        exact ReadI.ok h h0 (drop_fit (sigR_le least most) h.place) hb
    · refine (rdS_bad lo b zs p w c c2 h hl (sigR (zs.drop p) least most).2.2 h0 (fun _ _ => True) (fun n A cap hn hc2 => (HC n A cap hn hc2).mono ?_)).mono ?_
      · rintro r w' ⟨⟨v, s, rfl, _⟩, rfl⟩
        exact ⟨_, _, rfl, below_drewN (Below.refl _ _) n, trivial⟩
      · rintro r w' ⟨rfl, v, w1, _, hb, rfl⟩
        exact ReadI.bad h (sigR_err h0).1 (sigR_err h0).2 hb
  · refine (rdS_err lo b zs p e w _ h he).mono ?_
    rintro r w' ⟨rfl, rfl⟩
    exact ReadI.err h he
theorem rdF_any (c : Nat) (m : Int) (hm0 : -9223372036854775808 ≤ m) (hm1 : m ≤ 9223372036854775807) (h : LensAt w lo b zs p e) (hl : zs.length ≤ 1000000000) (hz : ∀ x ∈ zs, 0 ≤ x ∧ x ≤ 255) (hc : w.cell? ⟨c, 0, none⟩ = some (.int .i64 m)) :
    Calls Try.prog 105 #[.pointer (some ⟨b, 0, none⟩), .func (.func 106) #[] #[.pointer (some ⟨c, 0, none⟩)]] w fun r w' => ReadB lo b zs p e (fldR (zs.drop p) m) w r w' := by
  by_cases he : e = 0
  · subst he
    have HC : ∀ n A cap, Nums .u8 (w.drewN n) b A (zs.drop p) → zs.length - p ≤ cap → Calls Try.prog 106 #[.slice A (zs.length - p) cap, .pointer (some ⟨c, 0, none⟩)] (w.drewN n) fun r w' => ClosB (fldR (zs.drop p) m) (w.drewN n) r w' := fun n A cap hn hcp =>
      fldc_any A (zs.length - p) cap c (zs.drop p) (w.drewN n) m (by simp) hcp (by omega) (drop_bytes hz p) hm0 hm1 (hn.mono (Nat.le_of_lt h.lt)) hc
    by_cases h0 : (fldR (zs.drop p) m).2.2 = 0
    · refine (rdF_ok lo b zs p w c h hl (fldR (zs.drop p) m).2.1 (drop_fit (fldR_le m) h.place) (fun v w1 => MadeK 5 .u8 w w1 (fldR (zs.drop p) m).1 v) (fun n A cap hn hc2 => (HC n A cap hn hc2).mono ?_)).mono ?_
      · rintro r w' ⟨v, s, rfl, hmk, hv⟩
        obtain rfl := hv h0
        have hm2 := hmk.less (below_drewN (Below.refl w.heap.size w) n)
        exact ⟨_, by rw [h0]; rfl, hm2.2, hm2⟩
      · rintro r w' ⟨v, w1, rfl, hmk, hb, rfl⟩
        exact ReadB.ok h h0 (drop_fit (fldR_le m) h.place) hmk
    · refine (rdF_bad lo b zs p w c h hl (fldR (zs.drop p) m).2.2 h0 (fun _ _ => True) (fun n A cap hn hc2 => (HC n A cap hn hc2).mono ?_)).mono ?_
      · rintro r w' ⟨v, s, rfl, hmk, _⟩
        exact ⟨_, _, rfl, (hmk.less (below_drewN (Below.refl w.heap.size w) n)).2, trivial⟩
      · rintro r w' ⟨rfl, v, w1, _, hb, rfl⟩
        exact ReadB.bad h (fldR_err h0).1 (fldR_err h0).2 hb
  · refine (rdR_err lo b zs p e w _ h he).mono ?_
    rintro r w' ⟨rfl, rfl⟩
    exact ReadB.err h he
end
end Go.Proofs.Ytmjbimmbphofjaa

namespace Go.Proofs.Ytmjbimmbphofjaa
open Go.RowKit
set_option maxRecDepth 100000
section
variable (lo b : Nat) (zs : List Int) (p e : Nat) (w : World)
theorem lnum_any (most : Int) (h : LensAt w lo b zs p e) (hl : zs.length ≤ 1000000000) (hz : ∀ x ∈ zs, 0 ≤ x ∧ x ≤ 255) :
    Calls Try.prog 86 #[.pointer (some ⟨b, 0, none⟩), .int .u64 most] w fun r w' => ReadI .u64 lo b zs p e (numR (zs.drop p) most) w r w' := by
  have hb : Below w.heap.size w (w.alloc (.cells #[.int .u64 most] 101)) := (Below.refl _ w).alloc (Nat.le_refl _) _
  have HC := (rdN_any lo b zs p e (w.alloc (.cells #[.int .u64 most] 101)) w.heap.size most (h.below hb) hl hz (by simp)).mono fun r w' hr => hr.later hb
  clear h hb hz
  go_enter Try.func86, Try.ntmps86
  go_wp2_with (go_at_call 103; refine HC.mono ?_; rintro r w2 ⟨rfl, hr1, hr2⟩)
  go_ret
  exact ⟨rfl, hr1, hr2⟩
theorem lsig_any (least most : Int) (h : LensAt w lo b zs p e) (hl : zs.length ≤ 1000000000) (hz : ∀ x ∈ zs, 0 ≤ x ∧ x ≤ 255) :
    Calls Try.prog 84 #[.pointer (some ⟨b, 0, none⟩), .int .i64 least, .int .i64 most] w fun r w' => ReadI .i64 lo b zs p e (sigR (zs.drop p) least most) w r w' := by
  have hb : Below w.heap.size w ((w.alloc (.cells #[.int .i64 least] 2)).alloc (.cells #[.int .i64 most] 2)) := ((Below.refl _ w).alloc (Nat.le_refl _) _).alloc (by simp) _
  have HC := (rdS_any lo b zs p e ((w.alloc (.cells #[.int .i64 least] 2)).alloc (.cells #[.int .i64 most] 2)) w.heap.size (w.heap.size + 1) least most (h.below hb) hl hz (by simp) (by simp)).mono fun r w' hr => hr.later hb
  clear h hb hz
  go_enter Try.func84, Try.ntmps84
  go_wp2_with (go_at_call 99; refine HC.mono ?_; rintro r w2 ⟨rfl, hr1, hr2⟩)
  go_ret
  exact ⟨rfl, hr1, hr2⟩
theorem lfld_any (m : Int) (hm0 : -9223372036854775808 ≤ m) (hm1 : m ≤ 9223372036854775807) (h : LensAt w lo b zs p e) (hl : zs.length ≤ 1000000000) (hz : ∀ x ∈ zs, 0 ≤ x ∧ x ≤ 255) :
    Calls Try.prog 92 #[.pointer (some ⟨b, 0, none⟩), .int .i64 m] w fun r w' => ReadB lo b zs p e (fldR (zs.drop p) m) w r w' := by
  have hb : Below w.heap.size w (w.alloc (.cells #[.int .i64 m] 3)) := (Below.refl _ w).alloc (Nat.le_refl _) _
  have HC := (rdF_any lo b zs p e (w.alloc (.cells #[.int .i64 m] 3)) w.heap.size m hm0 hm1 (h.below hb) hl hz (by simp)).mono fun r w' hr => hr.later hb
  clear h hb hz
  go_enter Try.func92, Try.ntmps92
  go_wp2_with (go_at_call 105; refine HC.mono ?_; rintro r w2 ⟨⟨A, c, rfl, hr0, hr3⟩, hr1, hr2⟩)
  go_ret
  exact ⟨⟨A, c, rfl, hr0, hr3⟩, hr1, hr2⟩
end
end Go.Proofs.Ytmjbimmbphofjaa

namespace Go.Proofs.Ytmjbimmbphofjaa
section
variable {P : Program} {ops : Array Oper} {md : Region.Mode} {I : World → Prop} {n : Nat} {tgt : Array Bool}
def wpAny8 (P : Program) (md : Region.Mode) (ops : Array Oper) (tgt : Array Bool) (I : World → Prop) (Q : (World → Prop) → Act → Prop) : Nat → Array Bool → (World → Prop) → Act → Prop
  | 0, listed, C, a => listed = tgt ∧ Q C a
  | fuel + 1, listed, C, a =>
    Region.ready md ops listed ≠ [] ∧
    ∀ i ∈ Region.ready md ops listed, ∀ o, ops[i]? = some o → Step4 P ops I o a C (wpAny8 P md ops tgt I Q fuel (listed.setIfInBounds i true))
theorem wpAny_of_8 {m : Nat} {Q : (World → Prop) → Act → Prop} {Q' : Exit → Act → World → Prop} (hQ : ∀ (C : World → Prop) a w, C w → Q C a → wpAny P md ops Q' m tgt a w) : ∀ (fuel : Nat) (listed : Array Bool) (C : World → Prop) (a : Act) (w : World), C w → (∀ w, C w → I w) →
    wpAny8 P md ops tgt I Q fuel listed C a → wpAny P md ops Q' (fuel + m) listed a w
  | 0, _, C, a, w, hw, _, h => by
    rw [Nat.zero_add, h.1]
    exact hQ C a w hw h.2
  | fuel + 1, listed, C, a, w, hw, hI, h => by
    rw [show fuel + 1 + m = (fuel + m) + 1 by omega]
    refine ⟨fun h0 => absurd h0 h.1, fun i hi => ?_⟩
    obtain ⟨_, o, ho, _⟩ := mem_ready.1 hi
    exact (h.2 i hi o ho).wpOp ho hw hI fun C' a' w' hw' hI' hn => wpAny_of_8 hQ fuel _ C' a' w' hw' hI' hn
def orderB8 (md : Region.Mode) (ops : Array Oper) (n : Nat) (tgt : Array Bool) : List Nat → Array Bool → Bool
  | [], listed => listed == tgt
  | k :: r, listed => (Region.ready md ops listed).contains k && free4 md ops listed k && ((List.range ops.size).all fun j => decide (j < n) || (blocked md ops k).getD j false) && orderB8 md ops n tgt r (listed.setIfInBounds k true)
def tgtB (n m : Nat) : Array Bool := (List.replicate n true ++ List.replicate m false).toArray
def order8 (md : Region.Mode) (ops : Array Oper) (n : Nat) (ks : List Nat) : Bool := Region.noSelect ops && ks.length == n && decide (n ≤ ops.size) && orderB8 md ops n (tgtB n (ops.size - n)) ks (Array.replicate ops.size false)
theorem wpAny8_first {Q : (World → Prop) → Act → Prop} {i : Nat} {oi : Oper} (htg : ∀ j, j < n → tgt.getD j false = true) (hi : ops[i]? = some oi) (hsel : ∀ (j : Nat) (o : Oper) cs b, ops[j]? = some o → o.op ≠ .select cs b) :
    ∀ (fuel : Nat) (listed : Array Bool) (C : World → Prop) (a : Act) (U : Array Bool), (∀ j, j < ops.size → U.getD j false = false → j < n) → Free4 md ops listed i oi U → i ∈ Region.ready md ops listed →
      Step4 P ops I oi a C (wpAny8 P md ops tgt I Q fuel (listed.setIfInBounds i true)) → wpAny8 P md ops tgt I Q (fuel + 1) listed C a := by
  intro fuel
  induction fuel with
  | zero =>
    intro listed C a U hsk hfree hr H
    refine ⟨fun h => (by rw [h] at hr; cases hr), fun j hj o ho => ?_⟩
    by_cases hji : j = i
    · subst hji
      have : o = oi := Option.some.inj (ho.symm.trans hi)
      subst this
      exact H
    · exfalso
      obtain ⟨hjun, oj', hoj', hall⟩ := mem_ready.1 hj
      have hju := hfree.ready hoj' hji hall
      obtain ⟨_, hkind⟩ := hfree.free j oj' hoj' hju hjun
      have hjn := hsk j (Array.getElem?_eq_some_iff.1 hoj').1 hju
      have nil : ∀ {C' : World → Prop} {a' : Act}, wpAny8 P md ops tgt I Q 0 (listed.setIfInBounds i true) C' a' → False := fun h => by
        have h1 := htg j hjn
        rw [← h.1, getD_set_ne false (Ne.symm hji)] at h1
        rw [Array.getD_eq_getD_getElem?] at h1 hjun
        cases hx : listed[j]? with
        | none => rw [hx] at h1; simp at h1
        | some y => rw [hx] at h1 hjun; simp at h1 hjun; rw [h1] at hjun; cases hjun
      rcases H with ⟨_, _, _, hn⟩ | ⟨_, _, _, hn⟩ | ⟨hk, _⟩ | ⟨hk, _⟩
      · exact nil hn
      · exact nil hn
      · rcases hkind with h | h <;> rw [hk] at h <;> simp at h
      · rcases hkind with h | h <;> rw [hk] at h <;> simp at h
  | succ fuel ih =>
    intro listed C a U hsk hfree hr H
    refine ⟨fun h => (by rw [h] at hr; cases hr), fun j hj oj hoj => ?_⟩
    by_cases hji : j = i
    · subst hji
      have : oj = oi := Option.some.inj (hoj.symm.trans hi)
      subst this
      exact H
    · obtain ⟨hjun, oj', hoj', hall⟩ := mem_ready.1 hj
      have : oj' = oj := Option.some.inj (hoj'.symm.trans hoj)
      subst this
      have hju := hfree.ready hoj' hji hall
      obtain ⟨hap, hkind⟩ := hfree.free j oj' hoj hju hjun
      obtain ⟨p1, p2, p3⟩ := Oper.apart_spec hap
      have hsi : ∀ cs b, oi.op ≠ .select cs b := fun cs b => hsel i oi cs b hi
      have hsj : ∀ cs b, oj'.op ≠ .select cs b := fun cs b => hsel j oj' cs b hoj
      have hfree' := hfree.set hju
      have hr' := ready_mono hr (Ne.symm hji)
      have next : ∀ v, (kind3 oi = 0 ∧ YieldsIn P ops (fun _ => True) oi v a ∨ kind3 oi = 1 ∧ YieldsIn P ops I oi v a) → wpAny8 P md ops tgt I Q (fuel + 1) (listed.setIfInBounds i true) C (a.put oi.dst v) → Step4 P ops I oj' a C (wpAny8 P md ops tgt I Q (fuel + 1) (listed.setIfInBounds j true)) := by
        intro v hy hn
        refine Step4.put (v := v) hap hsj (fun C' u h3 => ih _ C' _ U hsk hfree' hr' ?_) (hn.2 j (ready_mono hj hji) oj' hoj)
        have h4 : wpAny8 P md ops tgt I Q fuel ((listed.setIfInBounds j true).setIfInBounds i true) C' ((a.put oj'.dst u).put oi.dst v) := by
          rw [Array.setIfInBounds_comm _ _ hji]
          rw [Act.put_comm a v u p2] at h3
          exact h3
        have hs1 := execOp_put oi hsi a oj'.dst u p3
        have hs2 := wanted_put oi a oj'.dst u p3
        rcases hy with ⟨hk, hy⟩ | ⟨hk, hy⟩
        · exact .inl ⟨hk, v, hy.of_same hs1 hs2, h4⟩
        · exact .inr (.inl ⟨hk, v, hy.of_same hs1 hs2, h4⟩)
      rcases H with ⟨hk, v, hy, hn⟩ | ⟨hk, v, hy, hn⟩ | ⟨hk, _⟩ | ⟨hk, _⟩
      · exact next v (.inl ⟨hk, hy⟩) hn
      · exact next v (.inr ⟨hk, hy⟩) hn
      · rcases hkind with h | h <;> rw [hk] at h <;> simp at h
      · rcases hkind with h | h <;> rw [hk] at h <;> simp at h
theorem wpAny8_order {Q : (World → Prop) → Act → Prop} (htg : ∀ j, j < n → tgt.getD j false = true) (hs : Region.noSelect ops = true) : ∀ (ks : List Nat) (listed : Array Bool) (C : World → Prop) (a : Act),
    orderB8 md ops n tgt ks listed = true → wpO4 P ops I Q ks C a → wpAny8 P md ops tgt I Q ks.length listed C a
  | [], _, _, _, hB, h => ⟨by simpa [orderB8] using hB, h⟩
  | k :: r, listed, C, a, hB, h => by
    obtain ⟨o, ho, h⟩ := h
    simp only [orderB8, Bool.and_eq_true] at hB
    obtain ⟨⟨⟨hr, hf⟩, hsk⟩, hB'⟩ := hB
    refine wpAny8_first htg ho (Region.noSelect_spec hs) r.length listed C a _ (fun j hj hu => ?_) (free4_spec ho hf) (by simpa using hr) (h.mono fun C' a' hn => wpAny8_order htg hs r _ C' a' hB' hn)
    rw [List.all_eq_true] at hsk
    have := hsk j (List.mem_range.2 hj)
    rw [hu] at this
    simpa using this
theorem tgtB_get {n m j : Nat} (h : j < n) : (tgtB n m).getD j false = true := by
  unfold tgtB
  rw [Array.getD_eq_getD_getElem?]
  simp [List.getElem?_append_left, h]
theorem wp_region_order8 {id : Nat} {Q : Exit → Act → World → Prop} {a : Act} {w : World} {l : List Oper} (n : Nat) (ks : List Nat) (I : World → Prop) {C : World → Prop} (hm : P.follows .mixedOrders = true) (hB : order8 .any l.toArray n ks = true)
    (hq : Region.seqB .any l.toArray (l.length - n) n (tgtB n (l.length - n)) = true) (hC : C w.drew) (hI : ∀ w, C w → I w)
    (h : wpO4 P l.toArray I (fun C a' => ∀ w', C w' → wpList P l.toArray Q (l.drop n) a' w') ks C a) : (Code.region id l.toArray true).wp P Q a w := by
  simp only [order8, Bool.and_eq_true, beq_iff_eq, decide_eq_true_eq] at hB
  obtain ⟨⟨⟨hs, hl⟩, hn⟩, hB⟩ := hB
  have hn' : n ≤ l.length := by simpa using hn
  refine wp_region_any hm ?_
  have key := wpAny_of_8 (md := .any) (Q' := Q) (m := l.length - n) (tgt := tgtB n (l.length - n)) (I := I) (Q := fun C a' => ∀ w', C w' → wpList P l.toArray Q (l.drop n) a' w') (fun C a w' hw' h => ?_) ks.length (Array.replicate l.toArray.size false) C a w.drew hC hI (wpAny8_order (fun j hj => tgtB_get hj) hs ks _ C a (by simpa using hB) h)
  · rw [hl, show n + (l.length - n) = l.toArray.size by simp; omega] at key
    exact key
  · have := wpAny_of_seq (md := .any) (Q' := Q) (l.drop n) n (tgtB n (l.length - n)) a w' (fun j => by simp [List.getElem?_drop]) (by rw [List.length_drop]; exact hq) (h w' hw')
    rwa [List.length_drop] at this
end
end Go.Proofs.Ytmjbimmbphofjaa

namespace Go.Proofs.Ytmjbimmbphofjaa
open Go.RowKit Go.Shelf
set_option maxRecDepth 100000
attribute [local go_sem] Oper.semAt_some

theorem row_ne {W : World} {a b : Nat} {c1 c2 : Array Value} {t1 t2 : TypeId} {m1 m2 : Nat × Nat} (h1 : W.heap[a]? = some (.cells c1 t1 m1)) (h2 : W.heap[b]? = some (.cells c2 t2 m2)) (ht : t1 ≠ t2) : a ≠ b := fun e => by
  subst e
  rw [h1] at h2
  injection h2 with h2
  injection h2 with _ h2
  exact ht h2
structure RdAt (lo : Nat) (W : World) (mb lb : Nat) (zs : List Int) (N : Mg) (P C : Value) (p e : Nat) : Prop where
  m : W.heap[mb]? = some (.cells (mC N P C) 26 (0, 0))
  l : LensAt W lo lb zs p e
  a : lb < mb
  p : ∃ a c, P = .slice a N.p.length c ∧ N.p.length ≤ c ∧ NuX W mb lb a (fl2 N.p)
  c : ∃ a c, C = .slice a N.c.length c ∧ N.c.length ≤ c ∧ NuX W mb lb a N.c
  pz : N.p = [] → P = .slice none 0 0
  cz : N.c = [] → C = .slice none 0 0
/-- what reading a field answers and leaves -/
def RdO (lo mb lb : Nat) (zs : List Int) (p : Nat) (x : Nat × Nat × Mg) (w : World) (r : Ending) (w' : World) : Prop :=
  r = .returned (.int .i64 (x.1 : Int)) ∧ Off (fun q => q = mb ∨ q = lb) w w' ∧ (x.1 = 0 → ∃ P C, RdAt lo w' mb lb zs x.2.2 P C (p + x.2.1) 0)
section
variable {lo mb lb : Nat} {w W W' : World} {zs : List Int} {N N' : Mg} {P C P' C' : Value} {p e p' e' : Nat}
theorem RdAt.later (h : RdAt lo W mb lb zs N P C p e) (hb : Below W.heap.size W W') : RdAt lo W' mb lb zs N P C p e := by
  obtain ⟨⟨a, c, h1, h2, h3⟩, ⟨a', c', h4, h5, h6⟩⟩ := And.intro h.p h.c
  exact ⟨(hb.block _ (Array.getElem?_eq_some_iff.1 h.m).1).trans h.m, h.l.below hb, h.a, ⟨a, c, h1, h2, h3.keep (Off.of_below hb)⟩, ⟨a', c', h4, h5, h6.keep (Off.of_below hb)⟩, h.pz, h.cz⟩
/-- the lens is turned -/
theorem RdAt.turn (h : RdAt lo W mb lb zs N P C p e) (hl : LensAt W' lo lb zs p' e') (ho : Off (fun q => q = lb) W W') : RdAt lo W' mb lb zs N P C p' e' := by
  obtain ⟨⟨a, c, h1, h2, h3⟩, ⟨a', c', h4, h5, h6⟩⟩ := And.intro h.p h.c
  have ha := h.a
  have ho2 : Off (fun q => q = mb ∨ q = lb) W W' := ho.mono (fun j _ e => .inr e)
  exact ⟨(ho.block _ (Array.getElem?_eq_some_iff.1 h.m).1 (by omega)).trans h.m, hl, ha, ⟨a, c, h1, h2, h3.keep ho2⟩, ⟨a', c', h4, h5, h6.keep ho2⟩, h.pz, h.cz⟩
theorem NuX.set {a : Option Addr} {l : List Int} (h : NuX W mb lb a l) (j : Nat) (u : Value) : NuX (W.setCell ⟨mb, j, none⟩ u) mb lb a l :=
  h.keep (Off.setCell (S := fun q => q = mb ∨ q = lb) (p := ⟨mb, j, none⟩) (Off.refl _ W) (.inl rfl) u)
/-- a cell of the message is turned -/
theorem RdAt.set (h : RdAt lo W mb lb zs N P C p e) (j : Nat) (u : Value) (hc : (mC N P C).setIfInBounds j u = mC N' P' C')
    (hp : ∃ a c, P' = .slice a N'.p.length c ∧ N'.p.length ≤ c ∧ NuX W mb lb a (fl2 N'.p)) (hcc : ∃ a c, C' = .slice a N'.c.length c ∧ N'.c.length ≤ c ∧ NuX W mb lb a N'.c) (hpz : N'.p = [] → P' = .slice none 0 0) (hcz : N'.c = [] → C' = .slice none 0 0) :
    RdAt lo (W.setCell ⟨mb, j, none⟩ u) mb lb zs N' P' C' p e := by
  obtain ⟨⟨a, c, h1, h2, h3⟩, ⟨a', c', h4, h5, h6⟩⟩ := And.intro hp hcc
  have ha := h.a
  refine ⟨by rw [setCell_at h.m, hc], h.l.off (S := fun q => q = mb) (Off.setCell (S := fun q => q = mb) (p := ⟨mb, j, none⟩) (Off.refl _ W) rfl u) (fun k _ h2 => by omega), ha, ⟨a, c, h1, h2, h3.set j u⟩, ⟨a', c', h4, h5, h6.set j u⟩, hpz, hcz⟩
theorem RdAt.num (h : RdAt lo W mb lb zs N P C p e) {jj : Nat} (hj : jj < 6) (v : Int) : RdAt lo (W.setCell ⟨mb, 1 + jj, none⟩ (.int .i64 v)) mb lb zs (N.put jj v) P C p e := by
  refine h.set (1 + jj) (.int .i64 v) (mC_put hj N P C v) ?_ ?_ ?_ ?_
  · rw [Mg.put_p]; exact h.p
  · rw [Mg.put_c]; exact h.c
  · rw [Mg.put_p]; exact h.pz
  · rw [Mg.put_c]; exact h.cz
theorem RdAt.tx (h : RdAt lo W mb lb zs N P C p e) (s : ByteArray) : RdAt lo (W.setCell ⟨mb, 9, none⟩ (.string s)) mb lb zs { N with tx := s } P C p e :=
  h.set 9 (.string s) rfl h.p h.c h.pz h.cz
theorem RdAt.tg (h : RdAt lo W mb lb zs N P C p e) (s : ByteArray) : RdAt lo (W.setCell ⟨mb, 10, none⟩ (.string s)) mb lb zs { N with tg := s } P C p e :=
  h.set 10 (.string s) rfl h.p h.c h.pz h.cz
end
/-- the lens's error; if it has none, another one where something is amiss -/
def oth (e : Nat) (am : Bool) (E : Int) : Int := if e ≠ 0 then (e : Int) else if am then E else 0
theorem otherwise_any {lo lb : Nat} {zs : List Int} {p e : Nat} {w : World} (h : LensAt w lo lb zs p e) (am : Bool) (E : Int) : Calls Try.prog 90 #[.pointer (some ⟨lb, 0, none⟩), .bool am, .int .i64 E] w fun r w' => r = .returned (.int .i64 (oth e am E)) ∧ w = w' := by
  have K := Lib.hid (lerr_any _ _ _ _ _ _ h)
  clear h
  by_cases he : e = 0
  · subst he
    cases am
    · have hr : oth 0 false E = 0 := by simp [oth]
      rw [hr]
      go_enter Try.func90, Try.ntmps90
      go_wp2_with fail
      refine K.out.mono ?_
      rintro r w2 ⟨rfl, rfl⟩
      go_wp2
      go_ret
      exact ⟨rfl, rfl⟩
    · have hr : oth 0 true E = E := by simp [oth]
      rw [hr]
      go_enter Try.func90, Try.ntmps90
      go_wp2_with fail
      refine K.out.mono ?_
      rintro r w2 ⟨rfl, rfl⟩
      go_wp2
      go_ret
      exact ⟨rfl, rfl⟩
  · have hr : oth e am E = (e : Int) := by simp [oth, he]
    rw [hr]
    have e1 : ((e : Int) != 0) = true := by simpa using he
    go_enter Try.func90, Try.ntmps90
    go_wp2_with fail
    refine K.out.mono ?_
    rintro r w2 ⟨rfl, rfl⟩
    go_wp2
    go_ret
    exact ⟨rfl, rfl⟩
end Go.Proofs.Ytmjbimmbphofjaa

namespace Go.Proofs.Ytmjbimmbphofjaa
open Go.RowKit Go.Shelf
set_option maxRecDepth 100000
attribute [local go_sem] Oper.semAt_some

theorem unfit_any (x : Int) (w : World) : Calls Try.prog 94 #[.int .u8 x] w fun e w' => e = .returned (.bool (decide (¬ byI x))) ∧ w' = w := by
  by_cases h1 : x < 32
  · rw [decide_eq_true (by unfold byI; omega)]
    go_enter Try.func94, Try.ntmps94
    go_wp2
    go_ret
    exact ⟨rfl, rfl⟩
  · by_cases h2 : 126 < x
    · rw [decide_eq_true (by unfold byI; omega)]
      go_enter Try.func94, Try.ntmps94
      go_wp2
      go_ret
      exact ⟨rfl, rfl⟩
    · rw [decide_eq_false (by unfold byI; omega)]
      go_enter Try.func94, Try.ntmps94
      go_wp2
      go_ret
      exact ⟨rfl, rfl⟩
set_option maxHeartbeats 1000000 in
theorem indexu_any (B : Nat) (a : Option Addr) (n c : Nat) (zs : List Int) (w : World) (hn : zs.length = n) (hl : n ≤ 1000000) (h1 : Nums .u8 w B a zs) :
    Calls Try.prog 108 #[.slice a n c, .func (.func 94) #[] #[]] w fun e w' => (∃ r : Int, e = .returned (.int .i64 r) ∧ ((0 ≤ r ∧ ∃ s ∈ zs, ¬ byI s) ∨ (r = -1 ∧ ∀ s ∈ zs, byI s))) ∧ w' = w := by
  have HL := Lib.hid hn
  clear hn
  go_enter Try.func108, Try.ntmps108
  go_wp2
  go_loopw [5, 8] (fun _ v wr => ∃ k : Nat, k ≤ n ∧ v = .int .i64 (k : Int) ∧ Hid (∀ s ∈ zs.take k, byI s) ∧ wr = w) (fun _ v _ => n - (intOf v).toNat)
  case atStart => exact ⟨0, by omega, rfl, fun s hs => by simp at hs, rfl⟩
  case round =>
    obtain ⟨k, hk, rfl, HN, rfl⟩ := hrel
    by_cases hlt : k < n
    · obtain ⟨z, hz⟩ : ∃ z, zs[k]? = some z := ⟨_, List.getElem?_eq_getElem (by rw [HL.out]; exact hlt)⟩
      obtain ⟨b1, o1, rfl, hb1, hc1⟩ := h1.open hz
      have hlt' : (k : Int) < (n : Int) := by omega
      have K := unfit_any z wr
      by_cases hz0 : byI z
      · have HF : Hid (∀ s ∈ zs.take (k + 1), byI s) := by
          show ∀ s ∈ _, _
          rw [List.take_add_one, hz]
          intro s hs
          rcases List.mem_append.1 hs with h | h
          · exact HN.out s h
          · simp at h; subst h; exact hz0
        rw [decide_eq_false (by simpa using hz0)] at K
        clear hz h1
        go_wp2_with fail
        refine K.mono ?_
        rintro e w' ⟨rfl, rfl⟩
        go_wp2
        go_roundw
        case rel => exact ⟨k + 1, by omega, by go_num, HF, trivial⟩
        case measure => simp [intOf]; omega
      · have HF := Lib.hid (show ∃ s ∈ zs, ¬ byI s from ⟨z, List.mem_of_getElem? hz, hz0⟩)
        rw [decide_eq_true hz0] at K
        clear hz h1
        go_wp2_with fail
        refine K.mono ?_
        rintro e w' ⟨rfl, rfl⟩
        go_wp2
        go_ret
        exact ⟨⟨_, rfl, .inl ⟨by omega, HF.out⟩⟩, rfl⟩
    · have hkn : k = n := by omega
      have HF : Hid (∀ s ∈ zs, byI s) := by
        have := HN.out
        rwa [List.take_of_length_le (by rw [HL.out]; omega)] at this
      go_wp2
      go_ret
      exact ⟨⟨_, rfl, .inr ⟨rfl, HF.out⟩⟩, rfl⟩
theorem cunfit_any (B : Nat) (a : Option Addr) (n c : Nat) (zs : List Int) (w : World) (hn : zs.length = n) (hl : n ≤ 1000000) (h1 : Nums .u8 w B a zs) :
    Calls Try.prog 93 #[.slice a n c, .func (.func 94) #[] #[]] w fun e w' => e = .returned (.bool (decide (¬ ∀ s ∈ zs, byI s))) ∧ w' = w := by
  have K := indexu_any B a n c zs w hn hl h1
  clear h1
  obtain ⟨r0, hr0⟩ : ∃ r0, decide (¬ ∀ s ∈ zs, byI s) = r0 := ⟨_, rfl⟩
  rw [hr0]
  go_enter Try.func93, Try.ntmps93
  go_wp2_with fail
  refine K.mono ?_
  rintro e w' ⟨⟨r, rfl, h⟩, rfl⟩
  rcases h with ⟨h0, s, hs1, hs2⟩ | ⟨rfl, h⟩
  · have hr : r0 = true := by rw [← hr0]; exact decide_eq_true fun h => hs2 (h s hs1)
    subst hr
    clear K hr0
    go_wp2
    go_ret
    exact ⟨rfl, rfl⟩
  · have hr : r0 = false := by rw [← hr0]; exact decide_eq_false fun h2 => h2 h
    subst hr
    clear h K hr0
    go_wp2
    go_ret
    exact ⟨rfl, rfl⟩
theorem puttx_any (mb bm : Nat) (N : Mg) (P C : Value) (s : ByteArray) (w : World) (hm : w.heap[mb]? = some (.cells (mC N P C) 26 (0, 0))) (hbm : w.heap[bm]? = some (.cells #[.pointer (some ⟨mb, 0, none⟩)] 83 (0, 0))) :
    Calls Try.prog 66 #[.string s, .pointer (some ⟨bm, 0, none⟩)] w fun e w' => (∃ x, e = .returned x) ∧ w' = w.setCell ⟨mb, 9, none⟩ (.string s) := by
  have k := row_cell hbm 0 _ rfl
  have c := row_cell hm 9 (.string N.tx) rfl
  have z := frozen_of_row w mb 9 _ _ hm
  clear hm hbm
  go_enter Try.func66, Try.ntmps66
  go_wp2
  go_end0
  exact ⟨⟨_, rfl⟩, rfl⟩
theorem puttg_any (mb bm : Nat) (N : Mg) (P C : Value) (s : ByteArray) (w : World) (hm : w.heap[mb]? = some (.cells (mC N P C) 26 (0, 0))) (hbm : w.heap[bm]? = some (.cells #[.pointer (some ⟨mb, 0, none⟩)] 83 (0, 0))) :
    Calls Try.prog 67 #[.string s, .pointer (some ⟨bm, 0, none⟩)] w fun e w' => (∃ x, e = .returned x) ∧ w' = w.setCell ⟨mb, 10, none⟩ (.string s) := by
  have k := row_cell hbm 0 _ rfl
  have c := row_cell hm 10 (.string N.tg) rfl
  have z := frozen_of_row w mb 10 _ _ hm
  clear hm hbm
  go_enter Try.func67, Try.ntmps67
  go_wp2
  go_end0
  exact ⟨⟨_, rfl⟩, rfl⟩
/-- 'string(b)' of bytes that lie somewhere -/
theorem conv_txt (B : Nat) (a : Option Addr) (n c : Nat) (zs : List Int) (w : World) (hn : zs.length = n) (h1 : Nums .u8 w B a zs) :
    (convert 28 9 (.slice a n c)).run Try.prog w = .ok (.string (txt zs)) w := by
  subst hn
  by_cases hz : zs = []
  · subst hz
    rw [run_convert_bytes_string w _ _ _ _ _ _ Try.underlying28 Try.underlying5 Try.underlying9]
    cases a <;> simp [Conv.bytesToString, loadCells] <;> rfl
  · obtain ⟨b, o, rfl, _, hc⟩ := h1 hz
    exact run_convert_bytes_arg (P := Try.prog) w _ _ Try.underlying28 Try.underlying5 b o _ c zs rfl (fun i hi => by
      rw [hc i zs[i] (List.getElem?_eq_getElem hi)]
      simp [List.getElem?_eq_getElem hi]) _ Try.underlying9
theorem NumsIn.nums18 {k : IntKind} {w : World} {lo hi : Nat} {a : Option Addr} {zs : List Int} (h : NumsIn k w lo hi a zs) : Nums k w hi a zs := fun hn => by
  obtain ⟨b, off, e, _, h2, hc⟩ := h hn
  exact ⟨b, off, e, h2, hc⟩
theorem fldR_ways (l : List Int) (mo : Int) (h0 : 0 ≤ mo) (h1 : mo ≤ 64) : ∃ (B : List Int) (u er : Nat), fldR l mo = (B, u, er) ∧ B.length ≤ 64 ∧
    (((Vi.get l).2.2 ≠ 0 ∧ er = (Vi.get l).2.2) ∨ ((Vi.get l).2.2 = 0 ∧ mo < ((Vi.get l).1 : Int) ∧ er = 6) ∨
      ((Vi.get l).2.2 = 0 ∧ ((Vi.get l).1 : Int) ≤ mo ∧ (l.drop (Vi.get l).2.1).length < (Vi.get l).1 ∧ er = 4) ∨
      ((Vi.get l).2.2 = 0 ∧ ((Vi.get l).1 : Int) ≤ mo ∧ ¬ (l.drop (Vi.get l).2.1).length < (Vi.get l).1 ∧ er = 0 ∧ B = (l.drop (Vi.get l).2.1).take (Vi.get l).1 ∧ u = (Vi.get l).2.1 + (Vi.get l).1)) := by
  unfold fldR
  rw [show max mo 0 = mo by omega]
  by_cases g1 : (Vi.get l).2.2 ≠ 0
  · rw [if_pos g1]
    exact ⟨[], 0, _, rfl, by simp, .inl ⟨g1, rfl⟩⟩
  · rw [if_neg g1]
    have g1' : (Vi.get l).2.2 = 0 := by simpa using g1
    by_cases g2 : mo < ((Vi.get l).1 : Int)
    · rw [if_pos g2]
      exact ⟨[], 0, _, rfl, by simp, .inr (.inl ⟨g1', g2, rfl⟩)⟩
    · rw [if_neg g2]
      by_cases g3 : l.length - (Vi.get l).2.1 < (Vi.get l).1
      · rw [if_pos g3]
        exact ⟨[], 0, _, rfl, by simp, .inr (.inr (.inl ⟨g1', by omega, by rw [List.length_drop]; exact g3, rfl⟩))⟩
      · rw [if_neg g3]
        exact ⟨_, _, _, rfl, by rw [List.length_take]; omega, .inr (.inr (.inr ⟨g1', by omega, by rw [List.length_drop]; exact g3, rfl, rfl, rfl⟩))⟩
set_option maxHeartbeats 4000000 in
theorem textr_any (lo mb lb bo bp bm : Nat) (zs : List Int) (N : Mg) (P C : Value) (p : Nat) (f : Fd) (w : World) (h : RdAt lo w mb lb zs N P C p 0) (hf : FdX f) (hso : f.so = 5) (hl : zs.length ≤ 1000000) (hz : Bys zs)
    (hbo : w.heap[bo]? = some (.cells #[.int .i64 f.mo] 3 (0, 0))) (hbp : w.heap[bp]? = some (.cells #[.func (.func 66) #[] #[.pointer (some ⟨bm, 0, none⟩)]] 120 (0, 0))) (hbm : w.heap[bm]? = some (.cells #[.pointer (some ⟨mb, 0, none⟩)] 83 (0, 0))) :
    Calls Try.prog 91 #[.pointer (some ⟨lb, 0, none⟩), .pointer (some ⟨bo, 0, none⟩), .pointer (some ⟨bp, 0, none⟩)] w fun r w' => RdO lo mb lb zs p (rdF N f (zs.drop p)) w r w' := by
  have hmo : 0 ≤ f.mo ∧ f.mo ≤ 64 := by have := hf.mo; omega
  have hle0 := hf.tex (by omega)
  obtain ⟨Bs, u, er, hX, hBl, hw⟩ := fldR_ways (zs.drop p) f.mo hmo.1 hmo.2
  have K := lfld_any lo lb zs p 0 w f.mo (by omega) (by omega) h.l (by omega) hz
  rw [hX] at K
  unfold ReadB at K
  simp only [ansB, placeOf, errOf, if_true] at K
  obtain ⟨R, hR⟩ : ∃ R, rdF N f (zs.drop p) = R := ⟨_, rfl⟩
  rw [hR]
  unfold rdF at hR
  rw [if_neg (show ¬ f.so = 1 by omega), if_neg (show ¬ f.so = 2 by omega), if_neg (show ¬ (((Vi.get (zs.drop p)).1 = 0) ∧ 0 < f.le) by omega), if_neg (show ¬ f.so = 3 by omega), if_neg (show ¬ f.so = 4 by omega)] at hR
  have hlm := h.a
  obtain ⟨_, _, hbl, -⟩ := h.l.open
  have n1 := row_ne hbo h.m (by decide)
  have n2 := row_ne hbo hbl (by decide)
  have n3 := row_ne hbm h.m (by decide)
  have n4 := row_ne hbm hbl (by decide)
  have n6 := row_ne hbp hbl (by decide)
  have kb := row_cell hbo 0 _ rfl
  have K := Lib.hid K
  have HH := Lib.hid h
  have HBP := Lib.hid hbp
  have HBM := Lib.hid hbm
  have HR := Lib.hid hR
  have HW := Lib.hid hw
  obtain ⟨q, hq⟩ : ∃ q, Bs.length = q := ⟨_, rfl⟩
  rw [hq] at K hBl
  have HQ := Lib.hid hq
  clear hR hw hX h hbl hbo hbp hbm hq
  go_enter Try.func91, Try.ntmps91
  go_wp2_with fail
  refine K.out.mono ?_
  rintro r w1 ⟨⟨A, c, rfl, hcc, hn⟩, hl1, ho1⟩
  have h1 := HH.out.turn hl1 ho1
  have hn1 := hn.nums18
  have hbm1 := (ho1.block _ (Array.getElem?_eq_some_iff.1 HBM.out).1 n4).trans HBM.out
  have hbp1 := (ho1.block _ (Array.getElem?_eq_some_iff.1 HBP.out).1 n6).trans HBP.out
  have kp := row_cell hbp1 0 _ rfl
  have hcv := conv_txt _ A q c Bs w1 HQ.out hn1
  have KP := Lib.hid (puttx_any mb bm N P C (txt Bs) w1 h1.m hbm1)
  obtain ⟨w2, hw2⟩ : ∃ w2, w1.setCell ⟨mb, 9, none⟩ (.string (txt Bs)) = w2 := ⟨_, rfl⟩
  have hN := h1.tx (txt Bs)
  have hof : Off (fun q => q = mb) w1 (w1.setCell ⟨mb, 9, none⟩ (.string (txt Bs))) := Off.setCell (S := fun q => q = mb) (p := ⟨mb, 9, none⟩) (Off.refl _ w1) rfl _
  rw [hw2] at hN KP hof
  have hmlt := (Array.getElem?_eq_some_iff.1 HH.out.m).1
  have HN2 : Hid (Nums .u8 w2 w2.heap.size A Bs) := Lib.hid fun hne => by
    obtain ⟨b, off, e, k1, k2, kc⟩ := hn hne
    exact ⟨b, off, e, Nat.lt_of_lt_of_le k2 hof.size, fun j c hj => hof.cell (kc j c hj) (by show ¬ b = mb; omega)⟩
  have HN := Lib.hid hN
  have HOF : Hid (Off (fun q => q = mb ∨ q = lb) w w2) := Lib.hid ((ho1.mono (S' := fun q => q = mb ∨ q = lb) (fun _ _ e => .inr e)).trans hof (fun _ _ e => .inl e))
  clear K hl1 ho1 h1 hn hn1 hbm1 hbp1 hof hN hw2
  go_wp2_with fail
  refine KP.out.mono ?_
  rintro r w3 ⟨⟨x, rfl⟩, rfl⟩
  clear hcv kp KP
  go_wp2_with fail
  refine (cunfit_any _ A q c Bs _ HQ.out (by omega) HN2.out).mono ?_
  rintro r w4 ⟨rfl, rfl⟩
  obtain ⟨am, ham⟩ : ∃ am, decide (¬ ∀ s ∈ Bs, byI s) = am := ⟨_, rfl⟩
  rw [ham]
  go_wp2_with fail
  refine (otherwise_any HN.out.l am 19).mono ?_
  rintro r w5 ⟨rfl, rfl⟩
  have HAM := Lib.hid ham
  clear ham
  go_wp2
  go_ret
  have hR := HR.out
  have ham := HAM.out
  rcases HW.out with ⟨g1, rfl⟩ | ⟨g1, g2, rfl⟩ | ⟨g1, g2, g3, rfl⟩ | ⟨g1, g2, g3, rfl, g4, rfl⟩
  · rw [if_pos g1] at hR
    subst hR
    exact ⟨by simp [oth, g1], HOF.out, fun h => absurd h g1⟩
  · rw [if_neg (by simpa using g1), if_pos g2] at hR
    subst hR
    exact ⟨by simp [oth], HOF.out, fun h => by simp at h⟩
  · rw [if_neg (by simpa using g1), if_neg (by omega)] at hR
    unfold rdT at hR
    rw [if_pos g3] at hR
    simp only [ne_eq, Nat.reduceEqDiff, not_false_eq_true, if_true] at hR
    subst hR
    exact ⟨by simp [oth], HOF.out, fun h => by simp at h⟩
  · rw [if_neg (by simpa using g1), if_neg (by omega)] at hR
    unfold rdT at hR
    rw [if_neg g3, ← g4] at hR
    by_cases hb : ∀ s ∈ Bs, byI s
    · have : am = false := by rw [← ham]; exact decide_eq_false fun h => h hb
      subst this
      rw [if_pos hb] at hR
      simp only [ne_eq, not_true_eq_false, if_false, if_pos hso] at hR
      subst hR
      exact ⟨by simp [oth], HOF.out, fun _ => ⟨P, C, HN.out⟩⟩
    · have : am = true := by rw [← ham]; exact decide_eq_true hb
      subst this
      rw [if_neg hb] at hR
      simp only [ne_eq, Nat.reduceEqDiff, not_false_eq_true, if_true] at hR
      subst hR
      exact ⟨by simp [oth], HOF.out, fun h => by simp at h⟩
set_option maxHeartbeats 4000000 in
theorem tagr_any (lo mb lb bo bp bm : Nat) (zs : List Int) (N : Mg) (P C : Value) (p : Nat) (f : Fd) (w : World) (h : RdAt lo w mb lb zs N P C p 0) (hf : FdX f) (hso : f.so = 6) (hl : zs.length ≤ 1000000) (hz : Bys zs)
    (hbo : w.heap[bo]? = some (.cells #[.int .i64 f.mo] 3 (0, 0))) (hbp : w.heap[bp]? = some (.cells #[.func (.func 67) #[] #[.pointer (some ⟨bm, 0, none⟩)]] 120 (0, 0))) (hbm : w.heap[bm]? = some (.cells #[.pointer (some ⟨mb, 0, none⟩)] 83 (0, 0))) :
    Calls Try.prog 91 #[.pointer (some ⟨lb, 0, none⟩), .pointer (some ⟨bo, 0, none⟩), .pointer (some ⟨bp, 0, none⟩)] w fun r w' => RdO lo mb lb zs p (rdF N f (zs.drop p)) w r w' := by
  have hmo : 0 ≤ f.mo ∧ f.mo ≤ 64 := by have := hf.mo; omega
  have hle0 := hf.tex (by omega)
  obtain ⟨Bs, u, er, hX, hBl, hw⟩ := fldR_ways (zs.drop p) f.mo hmo.1 hmo.2
  have K := lfld_any lo lb zs p 0 w f.mo (by omega) (by omega) h.l (by omega) hz
  rw [hX] at K
  unfold ReadB at K
  simp only [ansB, placeOf, errOf, if_true] at K
  obtain ⟨R, hR⟩ : ∃ R, rdF N f (zs.drop p) = R := ⟨_, rfl⟩
  rw [hR]
  unfold rdF at hR
  rw [if_neg (show ¬ f.so = 1 by omega), if_neg (show ¬ f.so = 2 by omega), if_neg (show ¬ (((Vi.get (zs.drop p)).1 = 0) ∧ 0 < f.le) by omega), if_neg (show ¬ f.so = 3 by omega), if_neg (show ¬ f.so = 4 by omega)] at hR
  have hlm := h.a
  obtain ⟨_, _, hbl, -⟩ := h.l.open
  have n1 := row_ne hbo h.m (by decide)
  have n2 := row_ne hbo hbl (by decide)
  have n3 := row_ne hbm h.m (by decide)
  have n4 := row_ne hbm hbl (by decide)
  have n6 := row_ne hbp hbl (by decide)
  have kb := row_cell hbo 0 _ rfl
  have K := Lib.hid K
  have HH := Lib.hid h
  have HBP := Lib.hid hbp
  have HBM := Lib.hid hbm
  have HR := Lib.hid hR
  have HW := Lib.hid hw
  obtain ⟨q, hq⟩ : ∃ q, Bs.length = q := ⟨_, rfl⟩
  rw [hq] at K hBl
  have HQ := Lib.hid hq
  clear hR hw hX h hbl hbo hbp hbm hq
  go_enter Try.func91, Try.ntmps91
  go_wp2_with fail
  refine K.out.mono ?_
  rintro r w1 ⟨⟨A, c, rfl, hcc, hn⟩, hl1, ho1⟩
  have h1 := HH.out.turn hl1 ho1
  have hn1 := hn.nums18
  have hbm1 := (ho1.block _ (Array.getElem?_eq_some_iff.1 HBM.out).1 n4).trans HBM.out
  have hbp1 := (ho1.block _ (Array.getElem?_eq_some_iff.1 HBP.out).1 n6).trans HBP.out
  have kp := row_cell hbp1 0 _ rfl
  have hcv := conv_txt _ A q c Bs w1 HQ.out hn1
  have KP := Lib.hid (puttg_any mb bm N P C (txt Bs) w1 h1.m hbm1)
  obtain ⟨w2, hw2⟩ : ∃ w2, w1.setCell ⟨mb, 10, none⟩ (.string (txt Bs)) = w2 := ⟨_, rfl⟩
  have hN := h1.tg (txt Bs)
  have hof : Off (fun q => q = mb) w1 (w1.setCell ⟨mb, 10, none⟩ (.string (txt Bs))) := Off.setCell (S := fun q => q = mb) (p := ⟨mb, 10, none⟩) (Off.refl _ w1) rfl _
  rw [hw2] at hN KP hof
  have hmlt := (Array.getElem?_eq_some_iff.1 HH.out.m).1
  have HN2 : Hid (Nums .u8 w2 w2.heap.size A Bs) := Lib.hid fun hne => by
    obtain ⟨b, off, e, k1, k2, kc⟩ := hn hne
    exact ⟨b, off, e, Nat.lt_of_lt_of_le k2 hof.size, fun j c hj => hof.cell (kc j c hj) (by show ¬ b = mb; omega)⟩
  have HN := Lib.hid hN
  have HOF : Hid (Off (fun q => q = mb ∨ q = lb) w w2) := Lib.hid ((ho1.mono (S' := fun q => q = mb ∨ q = lb) (fun _ _ e => .inr e)).trans hof (fun _ _ e => .inl e))
  clear K hl1 ho1 h1 hn hn1 hbm1 hbp1 hof hN hw2
  go_wp2_with fail
  refine KP.out.mono ?_
  rintro r w3 ⟨⟨x, rfl⟩, rfl⟩
  clear hcv kp KP
  go_wp2_with fail
  refine (cunfit_any _ A q c Bs _ HQ.out (by omega) HN2.out).mono ?_
  rintro r w4 ⟨rfl, rfl⟩
  obtain ⟨am, ham⟩ : ∃ am, decide (¬ ∀ s ∈ Bs, byI s) = am := ⟨_, rfl⟩
  rw [ham]
  go_wp2_with fail
  refine (otherwise_any HN.out.l am 19).mono ?_
  rintro r w5 ⟨rfl, rfl⟩
  have HAM := Lib.hid ham
  clear ham
  go_wp2
  go_ret
  have hR := HR.out
  have ham := HAM.out
  rcases HW.out with ⟨g1, rfl⟩ | ⟨g1, g2, rfl⟩ | ⟨g1, g2, g3, rfl⟩ | ⟨g1, g2, g3, rfl, g4, rfl⟩
  · rw [if_pos g1] at hR
    subst hR
    exact ⟨by simp [oth, g1], HOF.out, fun h => absurd h g1⟩
  · rw [if_neg (by simpa using g1), if_pos g2] at hR
    subst hR
    exact ⟨by simp [oth], HOF.out, fun h => by simp at h⟩
  · rw [if_neg (by simpa using g1), if_neg (by omega)] at hR
    unfold rdT at hR
    rw [if_pos g3] at hR
    simp only [ne_eq, Nat.reduceEqDiff, not_false_eq_true, if_true] at hR
    subst hR
    exact ⟨by simp [oth], HOF.out, fun h => by simp at h⟩
  · rw [if_neg (by simpa using g1), if_neg (by omega)] at hR
    unfold rdT at hR
    rw [if_neg g3, ← g4] at hR
    by_cases hb : ∀ s ∈ Bs, byI s
    · have : am = false := by rw [← ham]; exact decide_eq_false fun h => h hb
      subst this
      rw [if_pos hb] at hR
      simp only [ne_eq, not_true_eq_false, if_false, if_neg (show ¬ f.so = 5 by omega)] at hR
      subst hR
      exact ⟨by simp [oth], HOF.out, fun _ => ⟨P, C, HN.out⟩⟩
    · have : am = true := by rw [← ham]; exact decide_eq_true hb
      subst this
      rw [if_neg hb] at hR
      simp only [ne_eq, Nat.reduceEqDiff, not_false_eq_true, if_true] at hR
      subst hR
      exact ⟨by simp [oth], HOF.out, fun h => by simp at h⟩
end Go.Proofs.Ytmjbimmbphofjaa

namespace Go.Proofs.Ytmjbimmbphofjaa
open Go.RowKit Go.Shelf
set_option maxRecDepth 100000
attribute [local go_sem] Oper.semAt_some

/-- another text is stored into the message's box -/
def Mg.text (M : Mg) (b : Bool) (s : ByteArray) : Mg := if b then { M with tx := s } else { M with tg := s }
theorem TwoM.text {w W : World} {b4 b8 : Nat} {M : Mg} {P C : Value} (h : TwoM w b4 b8 M W P C) (b : Bool) (s : ByteArray) : TwoM w b4 b8 (M.text b s) (W.setCell ⟨b4, if b then 9 else 10, none⟩ (.string s)) P C := by
  have hlo := h.lo
  have hoff : Off (fun q => q = b4 ∨ q = b8) W (W.setCell ⟨b4, if b then 9 else 10, none⟩ (.string s)) := Off.setCell (S := fun q => q = b4 ∨ q = b8) (p := ⟨b4, if b then 9 else 10, none⟩) (Off.refl _ W) (.inl rfl) _
  have hof2 : Off (fun q => q = b4) W (W.setCell ⟨b4, if b then 9 else 10, none⟩ (.string s)) := Off.setCell (S := fun q => q = b4) (p := ⟨b4, if b then 9 else 10, none⟩) (Off.refl _ W) rfl _
  obtain ⟨⟨a, c, h1, h2, h3⟩, ⟨a', c', h4, h5, h6⟩⟩ := And.intro h.p h.c
  have hp : (M.text b s).p = M.p := by cases b <;> rfl
  have hc : (M.text b s).c = M.c := by cases b <;> rfl
  refine ⟨by rw [setCell_at h.m]; cases b <;> rfl, (hof2.block _ (Array.getElem?_eq_some_iff.1 h.r).1 (by omega)).trans h.r, ⟨a, c, by rw [hp]; exact h1, by rw [hp]; exact h2, by rw [hp]; exact h3.keep hoff⟩, ⟨a', c', by rw [hc]; exact h4, by rw [hc]; exact h5, by rw [hc]; exact h6.keep hoff⟩, ?_, hlo⟩
  exact h.b.trans (hoff.below (B := w.heap.size) (fun q hq => by omega) h.b.size)
theorem Shun.text {S : Nat → Prop} {w W : World} {b4 b8 : Nat} {M : Mg} {P C : Value} (h : Shun S W M P C) (t : TwoM w b4 b8 M W P C) (i : Nat) (b : Bool) (s : ByteArray) (u : Value) : Shun S (W.setCell ⟨b4, i, none⟩ u) (M.text b s) P C := by
  have hoff : Off (fun q => q = b4 ∨ q = b8) W (W.setCell ⟨b4, i, none⟩ u) := Off.setCell (S := fun q => q = b4 ∨ q = b8) (p := ⟨b4, i, none⟩) (Off.refl _ W) (.inl rfl) _
  have hp : (M.text b s).p = M.p := by cases b <;> rfl
  have hc : (M.text b s).c = M.c := by cases b <;> rfl
  unfold Shun
  rw [hp, hc]
  exact h.off t hoff
theorem bys_ok {l : List Int} (h : Bys l) : (∀ b ∈ (txt l).data.toList, byOk b) ↔ ∀ c ∈ l, byI c := by
  have hb := bts_txt h
  constructor
  · intro h1 c hc
    rw [← hb] at hc
    unfold bts at hc
    obtain ⟨b, hb2, rfl⟩ := List.mem_map.1 hc
    have := h1 b hb2
    unfold byOk at this
    unfold byI
    omega
  · intro h1 b hb2
    have := h1 (b.toNat : Int) (by rw [← hb]; unfold bts; exact List.mem_map.2 ⟨b, hb2, rfl⟩)
    unfold byI at this
    unfold byOk
    omega
theorem slice18 (A : Option Addr) (len cap a z : Nat) (h : a + z ≤ len) (hc : len ≤ cap) (W : World) :
    (Instr.slice 28 (.slice A len cap) (some (.int .i64 (a : Int))) (some (.int .i64 ((a : Int) + (z : Int)))) none).run Try.prog W = .ok (.slice (if cap = a then A else A.map (·.add a)) z (cap - a)) W := by
  have h1 : ((a : Int) + (z : Int)).toNat = a + z := by omega
  have h2 : a + z - a = z := by omega
  unfold Instr.slice
  simp [go_sem, h1, h2]
  intro h9
  have := h9 (by omega)
  omega
set_option maxHeartbeats 8000000 in
theorem rfield_bad (S : Nat → Prop) (M : Mg) (f : Fd) (P C : Value) (A : Option Addr) (len cap : Nat) (l : List Int) (at' : Nat) (w : World) (hf : FdX f) (hso : f.so = 5 ∨ f.so = 6) (hlen : l.length = len) (hll : len ≤ 1000000) (_hcap : len ≤ cap) (hby : Bys l) (hA : Nums .u8 w w.heap.size A l) (hat : at' ≤ len) (h1 : MAt w w.heap.size M P C) (hsh : Shun S w M P C) (hx : (Vi.get (l.drop at')).2.2 = 0 → f.mo < ((Vi.get (l.drop at')).1 : Int) ∨ len < at' + (Vi.get (l.drop at')).2.1 + (Vi.get (l.drop at')).1) :
    Calls Try.prog 41 #[mV M P C, f.v, .slice A len cap, .int .i64 (at' : Int)] w fun e w' => RdS S w (rdF M f (l.drop at')) at' e w' := by
  obtain ⟨w2, hw2⟩ : ∃ w2, ((w.alloc (.cells (mC M P C) 36)).alloc (.cells f.cs 46)).alloc (.cells #[.int .i64 0, .int .i64 0, .int .i64 0, .int .i64 0, .int .i64 0, .int .i64 0, .int .i64 0, .slice none 0 0, .slice none 0 0, .string ⟨#[]⟩, .string ⟨#[]⟩] 36) = w2 := ⟨_, rfl⟩
  have hT : FldM w M f w2 P C := by rw [← hw2]; exact FldM.start h1
  have K := rget_len w.heap.size A len cap l (at' : Int) w2 hlen (by omega) (by omega) (by omega) hby (hA.below hT.t.b)
  rw [Int.toNat_natCast] at K
  have hle := Vi.get_le (l.drop at')
  obtain ⟨rx, hrx⟩ : ∃ rx, rdF M f (l.drop at') = rx := ⟨_, rfl⟩
  rw [hrx]
  unfold rdF at hrx
  rw [if_neg (show ¬ f.so = 1 by omega), if_neg (show ¬ f.so = 2 by omega), if_neg (show ¬ f.so = 3 by omega), if_neg (show ¬ f.so = 4 by omega)] at hrx
  obtain ⟨⟨z, kk, er⟩, hg⟩ : ∃ g, Vi.get (l.drop at') = g := ⟨_, rfl⟩
  rw [hg] at K hle hrx hx
  simp only at hx
  simp only at hle hrx
  unfold RGetR at K
  simp only at K
  rw [List.length_drop, hlen] at hle
  obtain ⟨d0, d1, d2, d3, d4, -, -⟩ := fd_block hT.f
  have hle0 := hf.tex hso
  have hmo1 : f.mo = 64 ∨ f.mo = 16 := by
    rcases hso with h | h
    · exact .inl (hf.mo.2.2.1 h)
    · exact .inr (hf.mo.2.2.2 h)
  obtain ⟨mo, hmo⟩ : ∃ mo, f.mo = mo := ⟨_, rfl⟩
  obtain ⟨so, hsoe⟩ : ∃ so, f.so = so := ⟨_, rfl⟩
  rw [hmo] at d4 hmo1 hrx hx
  rw [hle0] at d3 hrx
  rw [hsoe] at d1 hso hrx
  rw [if_neg (show ¬ (z = 0 ∧ (0 : Int) < 0) by omega)] at hrx
  rw [List.drop_drop] at hrx
  unfold rdT at hrx
  rw [List.length_drop, hlen] at hrx
  have HW2 := Lib.hid hw2
  have HT := Lib.hid hT
  have HSB : Hid (Shun S w2 M P C) := Lib.hid (hsh.later hT.t.b)
  clear hsh
  have K := Lib.hid K
  obtain ⟨X0, hX0⟩ : ∃ X0, f.cs = X0 := ⟨_, rfl⟩
  rw [hX0] at HW2
  have hs1 : (so == 1) = false := by simp; omega
  have hs2 : (so == 2) = false := by simp; omega
  have hs3 : (so == 3) = false := by simp; omega
  have hs4 : (so == 4) = false := by simp; omega
  unfold mV Fd.v
  rw [hX0]
  clear hX0 hw2 hT hg hA hby hlen h1 d0 hmo hsoe hle0 hf
  go_enter Try.func41, Try.ntmps41
  go_wp2_with fail
  rw [HW2.out]
  refine K.out.mono ?_
  rintro e w3 ⟨rfl, rfl⟩
  clear K
  by_cases her : er = 0
  · subst her
    rw [if_neg (by simp)] at hrx
    have hx := hx rfl
    by_cases hmz : mo < (z : Int)
    · rw [if_pos hmz] at hrx
      have HR5 := Lib.hid hrx
      clear hrx hx
      have hz : ¬ (z : Int) = 0 := by omega
      obtain ⟨W', hst, hres, hmat, hbel, hshu⟩ := HT.out.t.retS HSB.out
      have HLD := Lib.hid (mr_look HT.out.t.m)
      have HST := Lib.hid hst
      have HFI := Lib.hid (And.intro hmat (And.intro hbel hshu))
      have HRS := Lib.hid hres
      clear hst hres hmat hbel hshu
      go_wp2_with (first | refine wpList_load_run rfl 36 (.tmp 4) rfl (some ⟨w.heap.size, 0, none⟩) rfl (.agg (mC M P C)) HLD.out ?_ | refine wpList_store_run rfl 36 (.tmp 8) (.tmp 83) rfl (some ⟨w.heap.size + 2, 0, none⟩) rfl (.agg (mC M P C)) rfl HST.out ?_)
      obtain ⟨y0, y1, y2, y3, y4, y5, y6, y7, y8, y9, y10⟩ := mg_block HRS.out
      refine bodyPost_ret (v := .tuple #[.agg (mC M P C), .int .i64 ((at' : Int)), .int .i64 (6)]) (by simp [results, Try.results41, go_sem, y0, y1, y2, y3, y4, y5, y6, y7, y8, y9, y10, mC]) rfl ?_
      rw [← HR5.out]
      exact ⟨_, P, C, _, rfl, HFI.out.1, HFI.out.2.1, HFI.out.2.2, fun h => by simp at h⟩
    · rw [if_neg hmz, if_pos (by rw [if_pos (by omega)]; simp)] at hrx
      rw [if_pos (by omega)] at hrx
      have HR5 := Lib.hid hrx
      clear hrx
      have hz : ¬ (z : Int) = 0 := by omega
      have hf9 : (len : Int) - ((at' : Int) + (kk : Int)) < (z : Int) := by omega
      clear hx
      obtain ⟨W', hst, hres, hmat, hbel, hshu⟩ := HT.out.t.retS HSB.out
      have HLD := Lib.hid (mr_look HT.out.t.m)
      have HST := Lib.hid hst
      have HFI := Lib.hid (And.intro hmat (And.intro hbel hshu))
      have HRS := Lib.hid hres
      clear hst hres hmat hbel hshu
      go_wp2_with (first | refine wpList_load_run rfl 36 (.tmp 4) rfl (some ⟨w.heap.size, 0, none⟩) rfl (.agg (mC M P C)) HLD.out ?_ | refine wpList_store_run rfl 36 (.tmp 8) (.tmp 116) rfl (some ⟨w.heap.size + 2, 0, none⟩) rfl (.agg (mC M P C)) rfl HST.out ?_)
      obtain ⟨y0, y1, y2, y3, y4, y5, y6, y7, y8, y9, y10⟩ := mg_block HRS.out
      refine bodyPost_ret (v := .tuple #[.agg (mC M P C), .int .i64 ((at' : Int)), .int .i64 (4)]) (by simp [results, Try.results41, go_sem, y0, y1, y2, y3, y4, y5, y6, y7, y8, y9, y10, mC]) rfl ?_
      rw [← HR5.out]
      exact ⟨_, P, C, _, rfl, HFI.out.1, HFI.out.2.1, HFI.out.2.2, fun h => by simp at h⟩
  · have her' : ((er : Nat) : Int) ≠ 0 := by omega
    rw [if_pos her] at hrx
    have HR5 := Lib.hid hrx
    clear hrx hx
    obtain ⟨W', hst, hres, hmat, hbel, hshu⟩ := HT.out.t.retS HSB.out
    have HLD := Lib.hid (mr_look HT.out.t.m)
    have HST := Lib.hid hst
    have HFI := Lib.hid (And.intro hmat (And.intro hbel hshu))
    have HRS := Lib.hid hres
    clear hst hres hmat hbel hshu
    go_wp2_with (first | refine wpList_load_run rfl 36 (.tmp 4) rfl (some ⟨w.heap.size, 0, none⟩) rfl (.agg (mC M P C)) HLD.out ?_ | refine wpList_store_run rfl 36 (.tmp 8) (.tmp 25) rfl (some ⟨w.heap.size + 2, 0, none⟩) rfl (.agg (mC M P C)) rfl HST.out ?_)
    obtain ⟨y0, y1, y2, y3, y4, y5, y6, y7, y8, y9, y10⟩ := mg_block HRS.out
    refine bodyPost_ret (v := .tuple #[.agg (mC M P C), .int .i64 ((at' : Int)), .int .i64 ((er : Int))]) (by simp [results, Try.results41, go_sem, y0, y1, y2, y3, y4, y5, y6, y7, y8, y9, y10, mC]) rfl ?_
    rw [← HR5.out]
    exact ⟨_, P, C, _, rfl, HFI.out.1, HFI.out.2.1, HFI.out.2.2, fun h => absurd h her⟩
end Go.Proofs.Ytmjbimmbphofjaa

namespace Go.Proofs.Ytmjbimmbphofjaa
open Go.RowKit Go.Shelf
set_option maxRecDepth 100000
attribute [local go_sem] Oper.semAt_some

set_option maxHeartbeats 8000000 in
theorem rfield_none (S : Nat → Prop) (M : Mg) (f : Fd) (P C : Value) (A : Option Addr) (len cap : Nat) (l : List Int) (at' : Nat) (w : World) (hf : FdX f) (hso : f.so = 5 ∨ f.so = 6) (hlen : l.length = len) (hll : len ≤ 1000000) (hcap : len ≤ cap) (hby : Bys l) (hA : Nums .u8 w w.heap.size A l) (hat : at' ≤ len) (h1 : MAt w w.heap.size M P C) (hsh : Shun S w M P C) (kk z : Nat) (hx : Vi.get (l.drop at') = (z, kk, 0)) (hz : z = 0) :
    Calls Try.prog 41 #[mV M P C, f.v, .slice A len cap, .int .i64 (at' : Int)] w fun e w' => RdS S w (rdF M f (l.drop at')) at' e w' := by
  obtain ⟨w2, hw2⟩ : ∃ w2, ((w.alloc (.cells (mC M P C) 36)).alloc (.cells f.cs 46)).alloc (.cells #[.int .i64 0, .int .i64 0, .int .i64 0, .int .i64 0, .int .i64 0, .int .i64 0, .int .i64 0, .slice none 0 0, .slice none 0 0, .string ⟨#[]⟩, .string ⟨#[]⟩] 36) = w2 := ⟨_, rfl⟩
  have hT : FldM w M f w2 P C := by rw [← hw2]; exact FldM.start h1
  have K := rget_len w.heap.size A len cap l (at' : Int) w2 hlen (by omega) (by omega) (by omega) hby (hA.below hT.t.b)
  rw [Int.toNat_natCast] at K
  have hle := Vi.get_le (l.drop at')
  obtain ⟨rx, hrx⟩ : ∃ rx, rdF M f (l.drop at') = rx := ⟨_, rfl⟩
  rw [hrx]
  unfold rdF at hrx
  rw [if_neg (show ¬ f.so = 1 by omega), if_neg (show ¬ f.so = 2 by omega), if_neg (show ¬ f.so = 3 by omega), if_neg (show ¬ f.so = 4 by omega)] at hrx
  rw [hx] at K hle hrx
  simp only at hle hrx
  unfold RGetR at K
  simp only at K
  rw [List.length_drop, hlen] at hle
  obtain ⟨d0, d1, d2, d3, d4, -, -⟩ := fd_block hT.f
  have hle0 := hf.tex hso
  have hmo1 : f.mo = 64 ∨ f.mo = 16 := by
    rcases hso with h | h
    · exact .inl (hf.mo.2.2.1 h)
    · exact .inr (hf.mo.2.2.2 h)
  obtain ⟨mo, hmo⟩ : ∃ mo, f.mo = mo := ⟨_, rfl⟩
  obtain ⟨so, hsoe⟩ : ∃ so, f.so = so := ⟨_, rfl⟩
  rw [hmo] at d4 hmo1 hrx
  rw [hle0] at d3 hrx
  rw [hsoe] at d1 hso hrx
  rw [if_neg (show ¬ (z = 0 ∧ (0 : Int) < 0) by omega)] at hrx
  rw [List.drop_drop] at hrx
  unfold rdT at hrx
  rw [if_neg (show ¬ (l.drop (at' + kk)).length < z by rw [List.length_drop]; omega)] at hrx
  obtain ⟨A9, hA9⟩ : ∃ A9, (if cap = at' + kk then A else A.map (·.add (at' + kk))) = A9 := ⟨_, rfl⟩
  obtain ⟨c9, hc9⟩ : ∃ c9, cap - (at' + kk) = c9 := ⟨_, rfl⟩
  obtain ⟨s, hs⟩ : ∃ s, txt ((l.drop (at' + kk)).take z) = s := ⟨_, rfl⟩
  have hcv : (convert 28 9 (.slice A9 z c9)).run Try.prog w2 = .ok (.string s) w2 := by
    have h2 := ((hA.below hT.t.b).mono hT.t.b.size).drop (i := at' + kk) (cap := cap) (by omega)
    rw [← hA9, ← hs]
    exact conv_txt w2.heap.size _ z c9 ((l.drop (at' + kk)).take z) w2 (by rw [List.length_take, List.length_drop]; omega) (h2.take z)
  have hbt := bys_ok (l := (l.drop (at' + kk)).take z) fun c hc => hby c (List.mem_of_mem_drop (List.mem_of_mem_take hc))
  have hn : s.size = z := by rw [← hs, txt_size, List.length_take, List.length_drop]; omega
  have hsl : ∀ W, (Instr.slice 28 (.slice A len cap) (some (.int .i64 ((at' : Int) + (kk : Int)))) (some (.int .i64 ((at' : Int) + (kk : Int)))) none).run Try.prog W = .ok (.slice A9 z c9) W := fun W => by
    have := slice18 A len cap (at' + kk) z (by omega) hcap W
    rw [hA9, hc9] at this
    simpa [hz] using this
  rw [hs] at hbt hrx
  have HBT2 := Lib.hid hbt
  have HW2 := Lib.hid hw2
  have HT := Lib.hid hT
  have HSB : Hid (Shun S w2 M P C) := Lib.hid (hsh.later hT.t.b)
  clear hsh
  have K := Lib.hid K
  obtain ⟨X0, hX0⟩ : ∃ X0, f.cs = X0 := ⟨_, rfl⟩
  rw [hX0] at HW2
  have hs1 : (so == 1) = false := by simp; omega
  have hs2 : (so == 2) = false := by simp; omega
  have hs3 : (so == 3) = false := by simp; omega
  have hs4 : (so == 4) = false := by simp; omega
  unfold mV Fd.v
  rw [hX0]
  rw [if_neg (show ¬ (0 : Nat) ≠ 0 by simp), if_neg (show ¬ mo < ((z : Nat) : Int) by omega)] at hrx
  have HR0 := Lib.hid hrx
  clear hX0 hw2 hT hx hA hby hlen h1 d0 hmo hsoe hle0 hf hA9 hc9 hs hbt hrx
  subst hz
  go_enter Try.func41, Try.ntmps41
  go_wp2_with fail
  rw [HW2.out]
  refine K.out.mono ?_
  rintro e w3 ⟨rfl, rfl⟩
  clear K
  go_wp2_with fail
  go_loopw [15] (fun iv wr => iv = .int .i64 0 ∧ Hid (∀ b ∈ s.data.toList.take 0, byOk b) ∧ wr = w2) (fun _ _ => 0)
  case atStart => exact ⟨rfl, Lib.hid (by simp), rfl⟩
  case round =>
            obtain ⟨rfl, HB, rfl⟩ := hrel
            have hal : ∀ b ∈ s.data.toList, byOk b := by
              have h2 := HB.out
              rwa [List.take_of_length_le (by show s.data.toList.length ≤ _; rw [Array.length_toList]; exact Nat.le_of_eq hn)] at h2
            have hrd := HR0.out
            rw [HBT2.out] at hal
            rw [if_pos hal] at hrd
            simp only [ne_eq, not_true_eq_false, if_false] at hrd
            have HR5 := Lib.hid hrd
            clear hrd hal
            rcases hso with rfl | rfl
            · have HN := Lib.hid (HT.out.t.text true s)
              have HSN := Lib.hid (HSB.out.text HT.out.t 9 true s (.string s))
              obtain ⟨w9, hw9⟩ : ∃ w9, wr.setCell ⟨w.heap.size, 9, none⟩ (.string s) = w9 := ⟨_, rfl⟩
              have hN := HN.out
              have hSN := HSN.out
              have hc9 : (if (true : Bool) then 9 else 10) = 9 := rfl
              rw [hc9, hw9] at hN
              rw [hw9] at hSN
              obtain ⟨W', hst, hres, hmat, hbel, hshu⟩ := hN.retS hSN
              have HLD := Lib.hid (mr_look hN.m)
              have HST := Lib.hid hst
              have HFI := Lib.hid (And.intro hmat (And.intro hbel hshu))
              have HRS := Lib.hid hres
              have hst9 : (Instr.storeAt 9 (.pointer (some ⟨w.heap.size, 9, none⟩)) (.string s)).run Try.prog wr = .ok () w9 := by
                rw [← hw9]
                have m9 := HT.out.t.m
                have c7 := row_cell m9 9 (.string M.tx) rfl
                have z7 := frozen_of_row wr w.heap.size 9 _ _ m9
                simp [Instr.storeAt, go_sem, c7, z7]
              have HST9 := Lib.hid hst9
              clear hst hres hmat hbel hshu hw9 hst9 hN hSN HN HSN hc9
              go_wp2_with (first | refine wpList_load_run rfl 36 (.tmp 4) rfl (some ⟨w.heap.size, 0, none⟩) rfl (.agg (mC (M.text true s) P C)) HLD.out ?_ | refine wpList_store_run rfl 36 (.tmp 8) (.tmp 151) rfl (some ⟨w.heap.size + 2, 0, none⟩) rfl (.agg (mC (M.text true s) P C)) rfl HST.out ?_ | refine wpList_store_run rfl 9 (.tmp 148) (.tmp 147) rfl (some ⟨w.heap.size, 9, none⟩) rfl (.string s) rfl HST9.out ?_)
              obtain ⟨y0, y1, y2, y3, y4, y5, y6, y7, y8, y9, y10⟩ := mg_block HRS.out
              refine bodyPost_ret (v := .tuple #[.agg (mC (M.text true s) P C), .int .i64 ((at' : Int) + (kk : Int)), .int .i64 0]) (by simp [results, Try.results41, go_sem, y0, y1, y2, y3, y4, y5, y6, y7, y8, y9, y10, mC]) rfl ?_
              rw [← HR5.out]
              exact ⟨_, P, C, _, rfl, HFI.out.1, HFI.out.2.1, HFI.out.2.2, fun _ => ⟨by simp [Mg.text], by simp; try omega⟩⟩
            · have HN := Lib.hid (HT.out.t.text false s)
              have HSN := Lib.hid (HSB.out.text HT.out.t 10 false s (.string s))
              obtain ⟨w9, hw9⟩ : ∃ w9, wr.setCell ⟨w.heap.size, 10, none⟩ (.string s) = w9 := ⟨_, rfl⟩
              have hN := HN.out
              have hSN := HSN.out
              have hc9 : (if (false : Bool) then 9 else 10) = 10 := rfl
              rw [hc9, hw9] at hN
              rw [hw9] at hSN
              obtain ⟨W', hst, hres, hmat, hbel, hshu⟩ := hN.retS hSN
              have HLD := Lib.hid (mr_look hN.m)
              have HST := Lib.hid hst
              have HFI := Lib.hid (And.intro hmat (And.intro hbel hshu))
              have HRS := Lib.hid hres
              have hst9 : (Instr.storeAt 9 (.pointer (some ⟨w.heap.size, 10, none⟩)) (.string s)).run Try.prog wr = .ok () w9 := by
                rw [← hw9]
                have m9 := HT.out.t.m
                have c7 := row_cell m9 10 (.string M.tg) rfl
                have z7 := frozen_of_row wr w.heap.size 10 _ _ m9
                simp [Instr.storeAt, go_sem, c7, z7]
              have HST9 := Lib.hid hst9
              clear hst hres hmat hbel hshu hw9 hst9 hN hSN HN HSN hc9
              go_wp2_with (first | refine wpList_load_run rfl 36 (.tmp 4) rfl (some ⟨w.heap.size, 0, none⟩) rfl (.agg (mC (M.text false s) P C)) HLD.out ?_ | refine wpList_store_run rfl 36 (.tmp 8) (.tmp 151) rfl (some ⟨w.heap.size + 2, 0, none⟩) rfl (.agg (mC (M.text false s) P C)) rfl HST.out ?_ | refine wpList_store_run rfl 9 (.tmp 150) (.tmp 149) rfl (some ⟨w.heap.size, 10, none⟩) rfl (.string s) rfl HST9.out ?_)
              obtain ⟨y0, y1, y2, y3, y4, y5, y6, y7, y8, y9, y10⟩ := mg_block HRS.out
              refine bodyPost_ret (v := .tuple #[.agg (mC (M.text false s) P C), .int .i64 ((at' : Int) + (kk : Int)), .int .i64 0]) (by simp [results, Try.results41, go_sem, y0, y1, y2, y3, y4, y5, y6, y7, y8, y9, y10, mC]) rfl ?_
              rw [← HR5.out]
              exact ⟨_, P, C, _, rfl, HFI.out.1, HFI.out.2.1, HFI.out.2.2, fun _ => ⟨by simp [Mg.text], by simp; try omega⟩⟩
end Go.Proofs.Ytmjbimmbphofjaa

namespace Go.Proofs.Ytmjbimmbphofjaa
open Go.RowKit Go.Shelf
set_option maxRecDepth 100000
attribute [local go_sem] Oper.semAt_some

set_option maxHeartbeats 8000000 in
theorem rfield_some (S : Nat → Prop) (M : Mg) (f : Fd) (P C : Value) (A : Option Addr) (len cap : Nat) (l : List Int) (at' : Nat) (w : World) (hf : FdX f) (hso : f.so = 5 ∨ f.so = 6) (hlen : l.length = len) (hll : len ≤ 1000000) (hcap : len ≤ cap) (hby : Bys l) (hA : Nums .u8 w w.heap.size A l) (hat : at' ≤ len) (h1 : MAt w w.heap.size M P C) (hsh : Shun S w M P C) (kk z : Nat) (hx : Vi.get (l.drop at') = (z, kk, 0)) (hz : ¬ z = 0) (hm : (z : Int) ≤ f.mo) (hfit : at' + kk + z ≤ len) :
    Calls Try.prog 41 #[mV M P C, f.v, .slice A len cap, .int .i64 (at' : Int)] w fun e w' => RdS S w (rdF M f (l.drop at')) at' e w' := by
  obtain ⟨w2, hw2⟩ : ∃ w2, ((w.alloc (.cells (mC M P C) 36)).alloc (.cells f.cs 46)).alloc (.cells #[.int .i64 0, .int .i64 0, .int .i64 0, .int .i64 0, .int .i64 0, .int .i64 0, .int .i64 0, .slice none 0 0, .slice none 0 0, .string ⟨#[]⟩, .string ⟨#[]⟩] 36) = w2 := ⟨_, rfl⟩
  have hT : FldM w M f w2 P C := by rw [← hw2]; exact FldM.start h1
  have K := rget_len w.heap.size A len cap l (at' : Int) w2 hlen (by omega) (by omega) (by omega) hby (hA.below hT.t.b)
  rw [Int.toNat_natCast] at K
  have hle := Vi.get_le (l.drop at')
  obtain ⟨rx, hrx⟩ : ∃ rx, rdF M f (l.drop at') = rx := ⟨_, rfl⟩
  rw [hrx]
  unfold rdF at hrx
  rw [if_neg (show ¬ f.so = 1 by omega), if_neg (show ¬ f.so = 2 by omega), if_neg (show ¬ f.so = 3 by omega), if_neg (show ¬ f.so = 4 by omega)] at hrx
  rw [hx] at K hle hrx
  simp only at hle hrx
  unfold RGetR at K
  simp only at K
  rw [List.length_drop, hlen] at hle
  obtain ⟨d0, d1, d2, d3, d4, -, -⟩ := fd_block hT.f
  have hle0 := hf.tex hso
  have hmo1 : f.mo = 64 ∨ f.mo = 16 := by
    rcases hso with h | h
    · exact .inl (hf.mo.2.2.1 h)
    · exact .inr (hf.mo.2.2.2 h)
  obtain ⟨mo, hmo⟩ : ∃ mo, f.mo = mo := ⟨_, rfl⟩
  obtain ⟨so, hsoe⟩ : ∃ so, f.so = so := ⟨_, rfl⟩
  rw [hmo] at d4 hmo1 hrx hm
  rw [hle0] at d3 hrx
  rw [hsoe] at d1 hso hrx
  rw [if_neg (show ¬ (z = 0 ∧ (0 : Int) < 0) by omega)] at hrx
  rw [List.drop_drop] at hrx
  unfold rdT at hrx
  rw [if_neg (show ¬ (l.drop (at' + kk)).length < z by rw [List.length_drop]; omega)] at hrx
  obtain ⟨A9, hA9⟩ : ∃ A9, (if cap = at' + kk then A else A.map (·.add (at' + kk))) = A9 := ⟨_, rfl⟩
  obtain ⟨c9, hc9⟩ : ∃ c9, cap - (at' + kk) = c9 := ⟨_, rfl⟩
  obtain ⟨s, hs⟩ : ∃ s, txt ((l.drop (at' + kk)).take z) = s := ⟨_, rfl⟩
  have hcv : (convert 28 9 (.slice A9 z c9)).run Try.prog w2 = .ok (.string s) w2 := by
    have h2 := ((hA.below hT.t.b).mono hT.t.b.size).drop (i := at' + kk) (cap := cap) (by omega)
    rw [← hA9, ← hs]
    exact conv_txt w2.heap.size _ z c9 ((l.drop (at' + kk)).take z) w2 (by rw [List.length_take, List.length_drop]; omega) (h2.take z)
  have hbt := bys_ok (l := (l.drop (at' + kk)).take z) fun c hc => hby c (List.mem_of_mem_drop (List.mem_of_mem_take hc))
  have hn : s.size = z := by rw [← hs, txt_size, List.length_take, List.length_drop]; omega
  have hsl : ∀ W, (Instr.slice 28 (.slice A len cap) (some (.int .i64 ((at' : Int) + (kk : Int)))) (some (.int .i64 ((at' : Int) + (kk : Int) + (z : Int)))) none).run Try.prog W = .ok (.slice A9 z c9) W := fun W => by
    have := slice18 A len cap (at' + kk) z (by omega) hcap W
    rw [hA9, hc9] at this
    simpa using this
  rw [hs] at hbt hrx
  have HBT2 := Lib.hid hbt
  have HW2 := Lib.hid hw2
  have HT := Lib.hid hT
  have HSB : Hid (Shun S w2 M P C) := Lib.hid (hsh.later hT.t.b)
  clear hsh
  have K := Lib.hid K
  obtain ⟨X0, hX0⟩ : ∃ X0, f.cs = X0 := ⟨_, rfl⟩
  rw [hX0] at HW2
  have hs1 : (so == 1) = false := by simp; omega
  have hs2 : (so == 2) = false := by simp; omega
  have hs3 : (so == 3) = false := by simp; omega
  have hs4 : (so == 4) = false := by simp; omega
  unfold mV Fd.v
  rw [hX0]
  rw [if_neg (show ¬ (0 : Nat) ≠ 0 by simp), if_neg (show ¬ mo < ((z : Nat) : Int) by omega)] at hrx
  have HR0 := Lib.hid hrx
  clear hX0 hw2 hT hx hA hby hlen h1 d0 hmo hsoe hle0 hf hA9 hc9 hs hbt hrx
  have hz0 : ¬ (z : Int) = 0 := by omega
  have hf9 : (z : Int) ≤ (len : Int) - ((at' : Int) + (kk : Int)) := by omega
  go_enter Try.func41, Try.ntmps41
  go_wp2_with fail
  rw [HW2.out]
  refine K.out.mono ?_
  rintro e w3 ⟨rfl, rfl⟩
  clear K
  go_wp2_with fail
  go_loopw [15] (fun iv wr => ∃ j : Nat, j ≤ z ∧ iv = .int .i64 (j : Int) ∧ Hid (∀ b ∈ s.data.toList.take j, byOk b) ∧ wr = w2) (fun iv _ => z - (intOf iv).toNat)
  case atStart => exact ⟨0, by omega, rfl, Lib.hid (by simp), rfl⟩
  case round =>
            obtain ⟨j, hj, rfl, HB, rfl⟩ := hrel
            rcases Nat.lt_or_ge j z with hlt | hge
            · have hg : s.data.toList[j]? = some (s[j]'(by omega)) := byte_at s j (by omega)
              by_cases hb : byOk (s[j]'(by omega))
              · have HB2 : Hid (∀ b ∈ s.data.toList.take (j + 1), byOk b) := Lib.hid (fun b hb2 => by
                  rw [List.take_add_one, hg, List.mem_append] at hb2
                  rcases hb2 with hb2 | hb2
                  · exact HB.out b hb2
                  · simp at hb2; subst hb2; exact hb)
                unfold byOk at hb
                clear hg hsl hcv
                go_wp2_with fail
                go_roundw
                case rel => exact ⟨j + 1, by omega, by go_num, HB2, trivial⟩
                case measure => simp [intOf]; omega
              · have hno : ¬ ∀ b ∈ s.data.toList, byOk b := fun h => hb (h _ (List.mem_of_getElem? hg))
                have hrd := HR0.out
                rw [HBT2.out] at hno
                rw [if_neg hno, if_pos (by simp)] at hrd
                have HR5 := Lib.hid hrd
                clear hrd hno hsl hcv
                unfold byOk at hb
                clear hg
                obtain ⟨W', hst, hres, hmat, hbel, hshu⟩ := HT.out.t.retS HSB.out
                have HLD := Lib.hid (mr_look HT.out.t.m)
                have HST := Lib.hid hst
                have HFI := Lib.hid (And.intro hmat (And.intro hbel hshu))
                have HRS := Lib.hid hres
                clear hst hres hmat hbel hshu
                go_wp2_with (first | refine wpList_load_run rfl 36 (.tmp 4) rfl (some ⟨w.heap.size, 0, none⟩) rfl (.agg (mC M P C)) HLD.out ?_ | refine wpList_store_run rfl 36 (.tmp 8) (.tmp 142) rfl (some ⟨w.heap.size + 2, 0, none⟩) rfl (.agg (mC M P C)) rfl HST.out ?_)
                all_goals
                  obtain ⟨y0, y1, y2, y3, y4, y5, y6, y7, y8, y9, y10⟩ := mg_block HRS.out
                  refine bodyPost_ret (v := .tuple #[.agg (mC M P C), .int .i64 ((at' : Int)), .int .i64 (19)]) (by simp [results, Try.results41, go_sem, y0, y1, y2, y3, y4, y5, y6, y7, y8, y9, y10, mC]) rfl ?_
                  rw [← HR5.out]
                  exact ⟨_, P, C, _, rfl, HFI.out.1, HFI.out.2.1, HFI.out.2.2, fun h => by simp at h⟩
            · obtain rfl : j = z := by omega
              have hal : ∀ b ∈ s.data.toList, byOk b := by
                have h2 := HB.out
                rwa [List.take_of_length_le (by show s.data.toList.length ≤ _; rw [Array.length_toList]; exact Nat.le_of_eq hn)] at h2
              have hrd := HR0.out
              rw [HBT2.out] at hal
              rw [if_pos hal] at hrd
              simp only [ne_eq, not_true_eq_false, if_false] at hrd
              have HR5 := Lib.hid hrd
              clear hrd hal
              rcases hso with rfl | rfl
              · have HN := Lib.hid (HT.out.t.text true s)
                have HSN := Lib.hid (HSB.out.text HT.out.t 9 true s (.string s))
                obtain ⟨w9, hw9⟩ : ∃ w9, wr.setCell ⟨w.heap.size, 9, none⟩ (.string s) = w9 := ⟨_, rfl⟩
                have hN := HN.out
                have hSN := HSN.out
                have hc9 : (if (true : Bool) then 9 else 10) = 9 := rfl
                rw [hc9, hw9] at hN
                rw [hw9] at hSN
                obtain ⟨W', hst, hres, hmat, hbel, hshu⟩ := hN.retS hSN
                have HLD := Lib.hid (mr_look hN.m)
                have HST := Lib.hid hst
                have HFI := Lib.hid (And.intro hmat (And.intro hbel hshu))
                have HRS := Lib.hid hres
                have hst9 : (Instr.storeAt 9 (.pointer (some ⟨w.heap.size, 9, none⟩)) (.string s)).run Try.prog wr = .ok () w9 := by
                  rw [← hw9]
                  have m9 := HT.out.t.m
                  have c7 := row_cell m9 9 (.string M.tx) rfl
                  have z7 := frozen_of_row wr w.heap.size 9 _ _ m9
                  simp [Instr.storeAt, go_sem, c7, z7]
                have HST9 := Lib.hid hst9
                clear hst hres hmat hbel hshu hw9 hst9 hN hSN HN HSN hc9
                go_wp2_with (first | refine wpList_load_run rfl 36 (.tmp 4) rfl (some ⟨w.heap.size, 0, none⟩) rfl (.agg (mC (M.text true s) P C)) HLD.out ?_ | refine wpList_store_run rfl 36 (.tmp 8) (.tmp 151) rfl (some ⟨w.heap.size + 2, 0, none⟩) rfl (.agg (mC (M.text true s) P C)) rfl HST.out ?_ | refine wpList_store_run rfl 9 (.tmp 148) (.tmp 147) rfl (some ⟨w.heap.size, 9, none⟩) rfl (.string s) rfl HST9.out ?_)
                obtain ⟨y0, y1, y2, y3, y4, y5, y6, y7, y8, y9, y10⟩ := mg_block HRS.out
                refine bodyPost_ret (v := .tuple #[.agg (mC (M.text true s) P C), .int .i64 ((at' : Int) + (kk : Int) + (j : Int)), .int .i64 0]) (by simp [results, Try.results41, go_sem, y0, y1, y2, y3, y4, y5, y6, y7, y8, y9, y10, mC]) rfl ?_
                rw [← HR5.out]
                exact ⟨_, P, C, _, rfl, HFI.out.1, HFI.out.2.1, HFI.out.2.2, fun _ => ⟨by simp [Mg.text], by simp; try omega⟩⟩
              · have HN := Lib.hid (HT.out.t.text false s)
                have HSN := Lib.hid (HSB.out.text HT.out.t 10 false s (.string s))
                obtain ⟨w9, hw9⟩ : ∃ w9, wr.setCell ⟨w.heap.size, 10, none⟩ (.string s) = w9 := ⟨_, rfl⟩
                have hN := HN.out
                have hSN := HSN.out
                have hc9 : (if (false : Bool) then 9 else 10) = 10 := rfl
                rw [hc9, hw9] at hN
                rw [hw9] at hSN
                obtain ⟨W', hst, hres, hmat, hbel, hshu⟩ := hN.retS hSN
                have HLD := Lib.hid (mr_look hN.m)
                have HST := Lib.hid hst
                have HFI := Lib.hid (And.intro hmat (And.intro hbel hshu))
                have HRS := Lib.hid hres
                have hst9 : (Instr.storeAt 9 (.pointer (some ⟨w.heap.size, 10, none⟩)) (.string s)).run Try.prog wr = .ok () w9 := by
                  rw [← hw9]
                  have m9 := HT.out.t.m
                  have c7 := row_cell m9 10 (.string M.tg) rfl
                  have z7 := frozen_of_row wr w.heap.size 10 _ _ m9
                  simp [Instr.storeAt, go_sem, c7, z7]
                have HST9 := Lib.hid hst9
                clear hst hres hmat hbel hshu hw9 hst9 hN hSN HN HSN hc9
                go_wp2_with (first | refine wpList_load_run rfl 36 (.tmp 4) rfl (some ⟨w.heap.size, 0, none⟩) rfl (.agg (mC (M.text false s) P C)) HLD.out ?_ | refine wpList_store_run rfl 36 (.tmp 8) (.tmp 151) rfl (some ⟨w.heap.size + 2, 0, none⟩) rfl (.agg (mC (M.text false s) P C)) rfl HST.out ?_ | refine wpList_store_run rfl 9 (.tmp 150) (.tmp 149) rfl (some ⟨w.heap.size, 10, none⟩) rfl (.string s) rfl HST9.out ?_)
                obtain ⟨y0, y1, y2, y3, y4, y5, y6, y7, y8, y9, y10⟩ := mg_block HRS.out
                refine bodyPost_ret (v := .tuple #[.agg (mC (M.text false s) P C), .int .i64 ((at' : Int) + (kk : Int) + (j : Int)), .int .i64 0]) (by simp [results, Try.results41, go_sem, y0, y1, y2, y3, y4, y5, y6, y7, y8, y9, y10, mC]) rfl ?_
                rw [← HR5.out]
                exact ⟨_, P, C, _, rfl, HFI.out.1, HFI.out.2.1, HFI.out.2.2, fun _ => ⟨by simp [Mg.text], by simp; try omega⟩⟩
theorem rfield_text (S : Nat → Prop) (M : Mg) (f : Fd) (P C : Value) (A : Option Addr) (len cap : Nat) (l : List Int) (at' : Nat) (w : World) (hf : FdX f) (hso : f.so = 5 ∨ f.so = 6) (hlen : l.length = len) (hll : len ≤ 1000000) (hcap : len ≤ cap) (hby : Bys l) (hA : Nums .u8 w w.heap.size A l) (hat : at' ≤ len) (h1 : MAt w w.heap.size M P C) (hsh : Shun S w M P C) :
    Calls Try.prog 41 #[mV M P C, f.v, .slice A len cap, .int .i64 (at' : Int)] w fun e w' => RdS S w (rdF M f (l.drop at')) at' e w' := by
  obtain ⟨⟨z, kk, er⟩, hg⟩ : ∃ g, Vi.get (l.drop at') = g := ⟨_, rfl⟩
  have hle := Vi.get_le (l.drop at')
  rw [hg, List.length_drop, hlen] at hle
  simp only at hle
  have hmo1 : f.mo = 64 ∨ f.mo = 16 := by
    rcases hso with h | h
    · exact .inl (hf.mo.2.2.1 h)
    · exact .inr (hf.mo.2.2.2 h)
  by_cases hb : er = 0 ∧ (z : Int) ≤ f.mo ∧ at' + kk + z ≤ len
  · obtain ⟨rfl, hm, hfit⟩ := hb
    by_cases hz : z = 0
    · subst hz
      exact rfield_none S M f P C A len cap l at' w hf hso hlen hll hcap hby hA hat h1 hsh kk 0 hg rfl
    · exact rfield_some S M f P C A len cap l at' w hf hso hlen hll hcap hby hA hat h1 hsh kk z hg hz hm hfit
  · exact rfield_bad S M f P C A len cap l at' w hf hso hlen hll hcap hby hA hat h1 hsh (by rw [hg]; simp only; omega)
end Go.Proofs.Ytmjbimmbphofjaa

namespace Go.Proofs.Ytmjbimmbphofjaa
section
variable {P : Program} {ops : Array Oper} {md : Region.Mode} {I : World → Prop} {n : Nat} {tgt : Array Bool}

theorem nil_no_enter {o : Oper} {x : Operand} (ho : o.op = .nilCheck x) (ρ : Operand → Value) (w w' : World) (f : FuncId) (args : Array Value) : (execOp ρ o).run P w ≠ .ok (.enter f args) w' := by
  unfold execOp
  simp only [ho]
  intro h
  split at h
  · simp [runtimePanic] at h
  · simp [runtimePanic] at h
  · simp [runtimePanic] at h
  · split at h
    · simp [runtimePanic] at h
    · rw [Sem.run_bind] at h
      generalize Sem.run P program w = r1 at h
      cases r1 with
      | halt y w1 => simp [Result.andThen] at h
      | ok a w1 =>
        simp only [Result.andThen] at h
        rw [Sem.run_bind] at h
        generalize Sem.run P (nilAhead _ _ _ _) w1 = r2 at h
        cases r2 with
        | halt y w2 => simp [Result.andThen] at h
        | ok b w2 =>
          simp only [Result.andThen] at h
          split at h
          · rw [Sem.run_bind] at h
            generalize Sem.run P (unsupported _) w2 = r3 at h
            cases r3 <;> simp [Result.andThen] at h
          · simp at h
    · simp at h
  · simp at h

def kind9 (o : Oper) : Nat := match o.op with
  | .build _ _ => 1
  | .nilCheck _ => 1
  | _ => kind3 o
theorem kind9_one {o : Oper} (h : kind9 o = 1) : (∃ t x, o.op = .load t x) ∨ (∃ t x, o.op = .build t x) ∨ ∃ x, o.op = .nilCheck x := by
  unfold kind9 at h
  split at h
  · exact .inr (.inl ⟨_, _, by assumption⟩)
  · exact .inr (.inr ⟨_, by assumption⟩)
  · exact .inl (kind3_load h)
theorem kind9_else {o : Oper} {n : Nat} (h : kind9 o = n) (hn : n ≠ 1) : kind3 o = n := by
  unfold kind9 at h
  split at h
  · exact absurd h.symm hn
  · exact absurd h.symm hn
  · exact h
theorem one9_no_enter {o : Oper} (h : kind9 o = 1) (ρ : Operand → Value) (w w' : World) (f : FuncId) (args : Array Value) : (execOp ρ o).run P w ≠ .ok (.enter f args) w' := by
  rcases kind9_one h with ⟨t, x, ho⟩ | ⟨t, x, ho⟩ | ⟨x, ho⟩
  · exact load_no_enter ho ρ w w' f args
  · unfold execOp
    simp only [ho]
    exact run_value _ _ _ _ _
  · exact nil_no_enter ho ρ w w' f args
theorem yields_one9 {o : Oper} {v : Value} {a : Act} {C D : World → Prop} (hk : kind9 o = 1) (h : YieldsIn P ops C o v a) (hD : ∀ w, D w → C w) : YieldsIn P ops D o v a := by
  rcases h with ⟨hw, h⟩ | h
  · refine .inl ⟨hw, fun w hwD => ?_⟩
    have h1 := h w (hD w hwD)
    have h2 := one9_no_enter (P := P) hk a.eval w
    unfold Oper.quietAt at h1 ⊢
    generalize (execOp a.eval o).run P w = r at h1 h2
    cases r with
    | ok n w' =>
      cases n with
      | enter f args => exact absurd rfl (h2 w' f args)
      | _ => exact h1
    | halt x w' => exact h1
  · exact .inr h
/-- one operation, in a class of worlds -/
def Step9 (P : Program) (ops : Array Oper) (I : World → Prop) (o : Oper) (a : Act) (C : World → Prop) (K : (World → Prop) → Act → Prop) : Prop :=
  (kind9 o = 0 ∧ ∃ v, YieldsIn P ops (fun _ => True) o v a ∧ K C (a.put o.dst v)) ∨
  (kind9 o = 1 ∧ ∃ v, YieldsIn P ops I o v a ∧ K C (a.put o.dst v)) ∨
  (kind9 o = 2 ∧ ∃ v C', (∀ w, C' w → I w) ∧ StepsIn P ops C C' o v a ∧ K C' (a.put o.dst v)) ∨
  (kind9 o = 3 ∧ ((Region.wanted o (yielded ops a.tmps) = false ∧ K C (a.put o.dst undef)) ∨ (Region.wanted o (yielded ops a.tmps) = true ∧ ∃ (V : Value → Prop) (C' : Value → World → Prop), (∀ v w, C' v w → I w) ∧ (∀ w, C w → famUpon P V C' ((execOp a.eval o).run P w)) ∧ ∀ v, V v → K (C' v) (a.put o.dst v))))

def wpAny9 (P : Program) (md : Region.Mode) (ops : Array Oper) (tgt : Array Bool) (I : World → Prop) (Q : (World → Prop) → Act → Prop) : Nat → Array Bool → (World → Prop) → Act → Prop
  | 0, listed, C, a => listed = tgt ∧ Q C a
  | fuel + 1, listed, C, a =>
    Region.ready md ops listed ≠ [] ∧
    ∀ i ∈ Region.ready md ops listed, ∀ o, ops[i]? = some o → Step9 P ops I o a C (wpAny9 P md ops tgt I Q fuel (listed.setIfInBounds i true))
theorem Step9.wpOp {C : World → Prop} {i : Nat} {o : Oper} {a : Act} {K : (World → Prop) → Act → Prop} {K' : Act → World → Prop} {Q' : Exit → Act → World → Prop} {w : World} (hi : ops[i]? = some o) (h : Step9 P ops I o a C K) (hC : C w) (hCI : ∀ w, C w → I w) (hK : ∀ (C' : World → Prop) a' w', C' w' → (∀ w, C' w → I w) → K C' a' → K' a' w') : wpOp P ops Q' i K' a w := by
  rcases h with ⟨hk, v, hy, hn⟩ | ⟨hk, v, hy, hn⟩ | ⟨hk, v, C', hI, hy, hn⟩ | ⟨hk, h⟩
  · exact OpR.wpOp (C := C) (C' := C) hi (.inl ⟨kind3_pure (kind9_else hk (by decide)), rfl, hy⟩) hC fun w' hw' => hK C _ w' hw' hCI hn
  · have hk1 : kindOf o = 1 := by
      rcases kind9_one hk with ⟨t, x, ho⟩ | ⟨t, x, ho⟩ | ⟨x, ho⟩ <;> simp [kindOf, pureOp, ho]
    exact OpR.wpOp (C := C) (C' := C) hi (.inr (.inl ⟨hk1, rfl, yields_one9 hk hy hCI⟩)) hC fun w' hw' => hK C _ w' hw' hCI hn
  · have hk2 : kindOf o = 2 := by
      have hk := kind9_else hk (by decide)
      unfold kind3 at hk
      unfold kindOf
      split at hk
      · simp at hk
      · rename_i hp
        rw [if_neg hp]
        split at hk
        · simp at hk
        · rename_i heq; simp [heq]
        · simp at hk
    exact OpR.wpOp (C := C) (C' := C') hi (.inr (.inr ⟨hk2, hy⟩)) hC fun w' hw' => hK C' _ w' hw' hI hn
  · unfold Go.wpOp
    simp only [hi]
    rcases h with ⟨hw, hn⟩ | ⟨hw, V, C', hI, hv, hn⟩
    · simp only [hw, Bool.false_eq_true, if_false]
      exact hK C _ w hC hCI hn
    · simp only [hw, if_true]
      left
      have h1 := hv w hC
      unfold Oper.wp
      generalize (execOp a.eval o).run P w = r at h1
      cases r with
      | ok n w' =>
        cases n <;> simp only [famUpon] at h1 <;> simp only [Oper.upon]
        case value u => exact hK (C' u) _ w' h1.2 (hI u) (hn u h1.1)
        case enter f args =>
          refine h1.mono fun e w'' ⟨v, he, hV, hc⟩ => ?_
          subst he
          exact hK (C' v) _ w'' hc (hI v) (hn v hV)
      | halt x w' => simp only [famUpon] at h1
theorem wpAny_of_9 {m : Nat} {Q : (World → Prop) → Act → Prop} {Q' : Exit → Act → World → Prop} (hQ : ∀ (C : World → Prop) a w, C w → Q C a → wpAny P md ops Q' m tgt a w) : ∀ (fuel : Nat) (listed : Array Bool) (C : World → Prop) (a : Act) (w : World), C w → (∀ w, C w → I w) →
    wpAny9 P md ops tgt I Q fuel listed C a → wpAny P md ops Q' (fuel + m) listed a w
  | 0, _, C, a, w, hw, _, h => by
    rw [Nat.zero_add, h.1]
    exact hQ C a w hw h.2
  | fuel + 1, listed, C, a, w, hw, hI, h => by
    rw [show fuel + 1 + m = (fuel + m) + 1 by omega]
    refine ⟨fun h0 => absurd h0 h.1, fun i hi => ?_⟩
    obtain ⟨_, o, ho, _⟩ := mem_ready.1 hi
    exact (h.2 i hi o ho).wpOp ho hw hI fun C' a' w' hw' hI' hn => wpAny_of_9 hQ fuel _ C' a' w' hw' hI' hn
/-- an operation apart: its step is the same whether another's value is in its slot or not -/
theorem Step9.put {oi oj : Oper} {v : Value} {a : Act} {C : World → Prop} {K1 K2 : (World → Prop) → Act → Prop} (hap : oi.apart ops oj = true) (hsj : ∀ cs b, oj.op ≠ .select cs b)
    (hK : ∀ (C' : World → Prop) u, K1 C' ((a.put oi.dst v).put oj.dst u) → K2 C' (a.put oj.dst u)) (h : Step9 P ops I oj (a.put oi.dst v) C K1) : Step9 P ops I oj a C K2 := by
  obtain ⟨p1, p2, p3⟩ := Oper.apart_spec hap
  have he := execOp_put oj hsj a oi.dst v p1
  have hw := wanted_put oj a oi.dst v p1
  rcases h with ⟨hk, u, hy, hn⟩ | ⟨hk, u, hy, hn⟩ | ⟨hk, u, C', hI, hy, hn⟩ | ⟨hk, h⟩
  · exact .inl ⟨hk, u, hy.of_same he.symm hw.symm, hK C u hn⟩
  · exact .inr (.inl ⟨hk, u, hy.of_same he.symm hw.symm, hK C u hn⟩)
  · refine .inr (.inr (.inl ⟨hk, u, C', hI, ?_, hK C' u hn⟩))
    unfold StepsIn at hy ⊢
    rwa [he, hw] at hy
  · refine .inr (.inr (.inr ⟨hk, ?_⟩))
    rcases h with ⟨hwf, hn⟩ | ⟨hwt, V, C', hsub, hv, hn⟩
    · exact .inl ⟨by rw [← hw]; exact hwf, hK C undef hn⟩
    · exact .inr ⟨by rw [← hw]; exact hwt, V, C', hsub, by rwa [he] at hv, fun u hu => hK (C' u) u (hn u hu)⟩
/-! as XQ3's, but a load is free of stores too: they stay in I -/
def free9 (md : Region.Mode) (ops : Array Oper) (listed : Array Bool) (k : Nat) : Bool :=
  let U := blocked md ops k
  U.getD k false && U.size == ops.size &&
  match ops[k]? with
  | none => false
  | some ok => (List.range ops.size).all fun j =>
    match ops[j]? with
    | some oj =>
      if U.getD j false then !listed.getD j false && (j == k || oj.after.any (fun e => Region.binds md e && U.getD e.on false))
      else listed.getD j true || (ok.apart ops oj && (kind9 ok == 0 || kind9 ok == 1))
    | none => true
structure Free9 (md : Region.Mode) (ops : Array Oper) (listed : Array Bool) (i : Nat) (oi : Oper) (U : Array Bool) : Prop where
  size : U.size = ops.size
  own : U.getD i false = true
  wait : ∀ j oj, ops[j]? = some oj → U.getD j false = true → j ≠ i → ∃ e ∈ oj.after, Region.binds md e = true ∧ U.getD e.on false = true
  un : ∀ j, U.getD j false = true → listed.getD j false = false
  free : ∀ j oj, ops[j]? = some oj → U.getD j false = false → listed.getD j true = false → oi.apart ops oj = true ∧ (kind9 oi = 0 ∨ kind9 oi = 1)
theorem free9_spec {i : Nat} {oi : Oper} {listed : Array Bool} (hi : ops[i]? = some oi) (h : free9 md ops listed i = true) : Free9 md ops listed i oi (blocked md ops i) := by
  simp only [free9, hi, List.all_eq_true, List.mem_range, Bool.and_eq_true, beq_iff_eq] at h
  obtain ⟨⟨hown, hsz⟩, h⟩ := h
  have at_ : ∀ j oj, ops[j]? = some oj → (if (blocked md ops i).getD j false = true then (!listed.getD j false && (j == i || oj.after.any (fun e => Region.binds md e && (blocked md ops i).getD e.on false))) = true
      else (listed.getD j true || (oi.apart ops oj && (kind9 oi == 0 || kind9 oi == 1))) = true) := fun j oj hj => by
    have h1 := h j (Array.getElem?_eq_some_iff.1 hj).1
    simp only [hj] at h1
    split at h1 <;> rename_i hu
    · rw [if_pos hu]; exact h1
    · rw [if_neg hu]; exact h1
  refine ⟨hsz, hown, fun j oj hj hu hne => ?_, fun j hu => ?_, fun j oj hj hu hun => ?_⟩
  · have h1 := at_ j oj hj
    rw [if_pos hu] at h1
    simp only [Bool.and_eq_true, Bool.or_eq_true, beq_iff_eq, hne, false_or] at h1
    obtain ⟨e, he, hb⟩ := Array.any_eq_true'.1 h1.2
    simp only [Bool.and_eq_true] at hb
    exact ⟨e, he, hb.1, hb.2⟩
  · have hlt : j < ops.size := by
      rw [← hsz]
      rcases Nat.lt_or_ge j (blocked md ops i).size with h' | h'
      · exact h'
      · simp [Array.getElem?_eq_none h'] at hu
    have h1 := at_ j _ (Array.getElem?_eq_getElem hlt)
    rw [if_pos hu] at h1
    simp only [Bool.and_eq_true, Bool.not_eq_true'] at h1
    exact h1.1
  · have h1 := at_ j oj hj
    rw [if_neg (by rw [hu]; exact Bool.false_ne_true)] at h1
    simp only [hun, Bool.or_eq_true, Bool.false_eq_true, false_or, Bool.and_eq_true, beq_iff_eq] at h1
    exact h1
theorem Free9.ready {i j : Nat} {oi oj : Oper} {listed U : Array Bool} (h : Free9 md ops listed i oi U) (hj : ops[j]? = some oj) (hji : j ≠ i) (hall : ∀ e ∈ oj.after, Region.binds md e = true → listed.getD e.on false = true) : U.getD j false = false := by
  cases hu : U.getD j false with
  | false => rfl
  | true =>
    obtain ⟨e, he, hb, hue⟩ := h.wait j oj hj hu hji
    have h1 := hall e he hb
    rw [h.un e.on hue] at h1
    cases h1
theorem Free9.set {i j : Nat} {oi : Oper} {listed U : Array Bool} (h : Free9 md ops listed i oi U) (hu : U.getD j false = false) : Free9 md ops (listed.setIfInBounds j true) i oi U := by
  refine ⟨h.size, h.own, h.wait, fun k hk => ?_, fun k ok hk hku hun => h.free k ok hk hku ?_⟩
  · have hne : j ≠ k := fun e => by subst e; rw [hu] at hk; cases hk
    rw [getD_set_ne false hne]; exact h.un k hk
  · by_cases hjk : j = k
    · subst hjk
      rcases Nat.lt_or_ge j listed.size with h' | h'
      · simp [h'] at hun
      · simp [Array.getElem?_eq_none (show (listed.setIfInBounds j true).size ≤ j by simpa using h')] at hun
    · rw [getD_set_ne true hjk] at hun; exact hun
/-- may the operations be walked in this order? -/
def orderB9 (md : Region.Mode) (ops : Array Oper) (n : Nat) (tgt : Array Bool) : List Nat → Array Bool → Bool
  | [], listed => listed == tgt
  | k :: r, listed => (Region.ready md ops listed).contains k && free9 md ops listed k && ((List.range ops.size).all fun j => decide (j < n) || (blocked md ops k).getD j false) && orderB9 md ops n tgt r (listed.setIfInBounds k true)
def order9 (md : Region.Mode) (ops : Array Oper) (n : Nat) (ks : List Nat) : Bool := Region.noSelect ops && ks.length == n && decide (n ≤ ops.size) && orderB9 md ops n (tgtB n (ops.size - n)) ks (Array.replicate ops.size false)
theorem wpAny9_first {Q : (World → Prop) → Act → Prop} {i : Nat} {oi : Oper} (htg : ∀ j, j < n → tgt.getD j false = true) (hi : ops[i]? = some oi) (hsel : ∀ (j : Nat) (o : Oper) cs b, ops[j]? = some o → o.op ≠ .select cs b) :
    ∀ (fuel : Nat) (listed : Array Bool) (C : World → Prop) (a : Act) (U : Array Bool), (∀ j, j < ops.size → U.getD j false = false → j < n) → Free9 md ops listed i oi U → i ∈ Region.ready md ops listed →
      Step9 P ops I oi a C (wpAny9 P md ops tgt I Q fuel (listed.setIfInBounds i true)) → wpAny9 P md ops tgt I Q (fuel + 1) listed C a := by
  intro fuel
  induction fuel with
  | zero =>
    intro listed C a U hsk hfree hr H
    refine ⟨fun h => (by rw [h] at hr; cases hr), fun j hj o ho => ?_⟩
    by_cases hji : j = i
    · subst hji
      have : o = oi := Option.some.inj (ho.symm.trans hi)
      subst this
      exact H
    · exfalso
      obtain ⟨hjun, oj', hoj', hall⟩ := mem_ready.1 hj
      have hju := hfree.ready hoj' hji hall
      obtain ⟨_, hkind⟩ := hfree.free j oj' hoj' hju hjun
      have hjn := hsk j (Array.getElem?_eq_some_iff.1 hoj').1 hju
      have nil : ∀ {C' : World → Prop} {a' : Act}, wpAny9 P md ops tgt I Q 0 (listed.setIfInBounds i true) C' a' → False := fun h => by
        have h1 := htg j hjn
        rw [← h.1, getD_set_ne false (Ne.symm hji)] at h1
        rw [Array.getD_eq_getD_getElem?] at h1 hjun
        cases hx : listed[j]? with
        | none => rw [hx] at h1; simp at h1
        | some y => rw [hx] at h1 hjun; simp at h1 hjun; rw [h1] at hjun; cases hjun
      rcases H with ⟨_, _, _, hn⟩ | ⟨_, _, _, hn⟩ | ⟨hk, _⟩ | ⟨hk, _⟩
      · exact nil hn
      · exact nil hn
      · rcases hkind with h | h <;> rw [hk] at h <;> simp at h
      · rcases hkind with h | h <;> rw [hk] at h <;> simp at h
  | succ fuel ih =>
    intro listed C a U hsk hfree hr H
    refine ⟨fun h => (by rw [h] at hr; cases hr), fun j hj oj hoj => ?_⟩
    by_cases hji : j = i
    · subst hji
      have : oj = oi := Option.some.inj (hoj.symm.trans hi)
      subst this
      exact H
    · obtain ⟨hjun, oj', hoj', hall⟩ := mem_ready.1 hj
      have : oj' = oj := Option.some.inj (hoj'.symm.trans hoj)
      subst this
      have hju := hfree.ready hoj' hji hall
      obtain ⟨hap, hkind⟩ := hfree.free j oj' hoj hju hjun
      obtain ⟨p1, p2, p3⟩ := Oper.apart_spec hap
      have hsi : ∀ cs b, oi.op ≠ .select cs b := fun cs b => hsel i oi cs b hi
      have hsj : ∀ cs b, oj'.op ≠ .select cs b := fun cs b => hsel j oj' cs b hoj
      have hfree' := hfree.set hju
      have hr' := ready_mono hr (Ne.symm hji)
      have next : ∀ v, (kind9 oi = 0 ∧ YieldsIn P ops (fun _ => True) oi v a ∨ kind9 oi = 1 ∧ YieldsIn P ops I oi v a) → wpAny9 P md ops tgt I Q (fuel + 1) (listed.setIfInBounds i true) C (a.put oi.dst v) → Step9 P ops I oj' a C (wpAny9 P md ops tgt I Q (fuel + 1) (listed.setIfInBounds j true)) := by
        intro v hy hn
        refine Step9.put (v := v) hap hsj (fun C' u h3 => ih _ C' _ U hsk hfree' hr' ?_) (hn.2 j (ready_mono hj hji) oj' hoj)
        have h4 : wpAny9 P md ops tgt I Q fuel ((listed.setIfInBounds j true).setIfInBounds i true) C' ((a.put oj'.dst u).put oi.dst v) := by
          rw [Array.setIfInBounds_comm _ _ hji]
          rw [Act.put_comm a v u p2] at h3
          exact h3
        have hs1 := execOp_put oi hsi a oj'.dst u p3
        have hs2 := wanted_put oi a oj'.dst u p3
        rcases hy with ⟨hk, hy⟩ | ⟨hk, hy⟩
        · exact .inl ⟨hk, v, hy.of_same hs1 hs2, h4⟩
        · exact .inr (.inl ⟨hk, v, hy.of_same hs1 hs2, h4⟩)
      rcases H with ⟨hk, v, hy, hn⟩ | ⟨hk, v, hy, hn⟩ | ⟨hk, _⟩ | ⟨hk, _⟩
      · exact next v (.inl ⟨hk, hy⟩) hn
      · exact next v (.inr ⟨hk, hy⟩) hn
      · rcases hkind with h | h <;> rw [hk] at h <;> simp at h
      · rcases hkind with h | h <;> rw [hk] at h <;> simp at h
/-- the walk in that order -/
def wpO9 (P : Program) (ops : Array Oper) (I : World → Prop) (Q : (World → Prop) → Act → Prop) : List Nat → (World → Prop) → Act → Prop
  | [], C, a => Q C a
  | k :: r, C, a => ∃ o, ops[k]? = some o ∧ Step9 P ops I o a C (wpO9 P ops I Q r)
theorem Step9.mono {o : Oper} {a : Act} {C : World → Prop} {K K' : (World → Prop) → Act → Prop} (h : Step9 P ops I o a C K) (hK : ∀ C a, K C a → K' C a) : Step9 P ops I o a C K' := by
  rcases h with ⟨hk, v, hy, hn⟩ | ⟨hk, v, hy, hn⟩ | ⟨hk, v, C', hI, hy, hn⟩ | ⟨hk, h⟩
  · exact .inl ⟨hk, v, hy, hK _ _ hn⟩
  · exact .inr (.inl ⟨hk, v, hy, hK _ _ hn⟩)
  · exact .inr (.inr (.inl ⟨hk, v, C', hI, hy, hK _ _ hn⟩))
  · refine .inr (.inr (.inr ⟨hk, ?_⟩))
    rcases h with ⟨hw, hn⟩ | ⟨hw, V, C', hs, hv, hn⟩
    · exact .inl ⟨hw, hK _ _ hn⟩
    · exact .inr ⟨hw, V, C', hs, hv, fun v hV => hK _ _ (hn v hV)⟩
theorem wpAny9_order {Q : (World → Prop) → Act → Prop} (htg : ∀ j, j < n → tgt.getD j false = true) (hs : Region.noSelect ops = true) : ∀ (ks : List Nat) (listed : Array Bool) (C : World → Prop) (a : Act),
    orderB9 md ops n tgt ks listed = true → wpO9 P ops I Q ks C a → wpAny9 P md ops tgt I Q ks.length listed C a
  | [], _, _, _, hB, h => ⟨by simpa [orderB9] using hB, h⟩
  | k :: r, listed, C, a, hB, h => by
    obtain ⟨o, ho, h⟩ := h
    simp only [orderB9, Bool.and_eq_true] at hB
    obtain ⟨⟨⟨hr, hf⟩, hsk⟩, hB'⟩ := hB
    refine wpAny9_first htg ho (Region.noSelect_spec hs) r.length listed C a _ (fun j hj hu => ?_) (free9_spec ho hf) (by simpa using hr) (h.mono fun C' a' hn => wpAny9_order htg hs r _ C' a' hB' hn)
    rw [List.all_eq_true] at hsk
    have := hsk j (List.mem_range.2 hj)
    rw [hu] at this
    simpa using this
theorem wp_region_order9 {id : Nat} {Q : Exit → Act → World → Prop} {a : Act} {w : World} {l : List Oper} (n : Nat) (ks : List Nat) (I : World → Prop) {C : World → Prop} (hm : P.follows .mixedOrders = true) (hB : order9 .any l.toArray n ks = true)
    (hq : Region.seqB .any l.toArray (l.length - n) n (tgtB n (l.length - n)) = true) (hC : C w.drew) (hI : ∀ w, C w → I w)
    (h : wpO9 P l.toArray I (fun C a' => ∀ w', C w' → wpList P l.toArray Q (l.drop n) a' w') ks C a) : (Code.region id l.toArray true).wp P Q a w := by
  simp only [order9, Bool.and_eq_true, beq_iff_eq, decide_eq_true_eq] at hB
  obtain ⟨⟨⟨hs, hl⟩, hn⟩, hB⟩ := hB
  have hn' : n ≤ l.length := by simpa using hn
  refine wp_region_any hm ?_
  have key := wpAny_of_9 (md := .any) (Q' := Q) (m := l.length - n) (tgt := tgtB n (l.length - n)) (I := I) (Q := fun C a' => ∀ w', C w' → wpList P l.toArray Q (l.drop n) a' w') (fun C a w' hw' h => ?_) ks.length (Array.replicate l.toArray.size false) C a w.drew hC hI (wpAny9_order (fun j hj => tgtB_get hj) hs ks _ C a (by simpa using hB) h)
  · rw [hl, show n + (l.length - n) = l.toArray.size by simp; omega] at key
    exact key
  · have := wpAny_of_seq (md := .any) (Q' := Q) (l.drop n) n (tgtB n (l.length - n)) a w' (fun j => by simp [List.getElem?_drop]) (by rw [List.length_drop]; exact hq) (h w' hw')
    rwa [List.length_drop] at this
end
/-! one operation of the walk -/
section
variable {P : Program} {I : World → Prop} {l : List Oper} {Q : (World → Prop) → Act → Prop} {o : Oper} {k : Nat} {r : List Nat} {C : World → Prop} {a : Act}
theorem wpO9_pure (ho : l[k]? = some o) (hk : kind9 o = 0) (h : wpQuiet P l.toArray (fun _ => True) (fun a' => wpO9 P l.toArray I Q r C a') [o] a) : wpO9 P l.toArray I Q (k :: r) C a :=
  ⟨o, at_list ho, .inl ⟨hk, yields_of_quiet h⟩⟩
theorem wpO9_load {t : TypeId} {x : Operand} {ad : Addr} (v : Value) (ho : l[k]? = some o) (hop : o.op = .load t x) (hw : Region.wanted o (yielded l.toArray a.tmps) = true) (hx : a.eval x = .pointer (some ad))
    (hrun : ∀ w, I w → (Instr.loadAt t (.pointer (some ad))).run P w = .ok v w) (h : wpO9 P l.toArray I Q r C (a.put o.dst v)) : wpO9 P l.toArray I Q (k :: r) C a := by
  refine ⟨o, at_list ho, .inr (.inl ⟨by simp [kind9, kind3, pureOp, hop], v, .inl ⟨hw, fun w hC => ?_⟩, h⟩)⟩
  unfold Oper.quietAt execOp
  simp only [hop, hx]
  rw [Sem.run_bind, hrun w hC]
  exact ⟨rfl, rfl⟩
theorem wpO9_build {t : TypeId} {xs : Array (Nat × Operand)} (v : Value) (ho : l[k]? = some o) (hop : o.op = .build t xs) (hw : Region.wanted o (yielded l.toArray a.tmps) = true)
    (hrun : ∀ w, I w → (execOp a.eval o).run P w = .ok (.value v) w) (h : wpO9 P l.toArray I Q r C (a.put o.dst v)) : wpO9 P l.toArray I Q (k :: r) C a := by
  refine ⟨o, at_list ho, .inr (.inl ⟨by simp [kind9, hop], v, .inl ⟨hw, fun w hC => ?_⟩, h⟩)⟩
  unfold Oper.quietAt
  rw [hrun w hC]
  exact ⟨rfl, rfl⟩
theorem wpO9_call (V : Value → Prop) (C' : Value → World → Prop) {f : FuncId} {args : Array Value} (ho : l[k]? = some o) (hk : kind9 o = 3) (hw : Region.wanted o (yielded l.toArray a.tmps) = true) (hsub : ∀ v w, C' v w → I w)
    (hrun : ∀ w, (execOp a.eval o).run P w = .ok (.enter f args) w) (hc : ∀ w, C w → Calls P f args w fun e w'' => ∃ v, e = .returned v ∧ V v ∧ C' v w'') (h : ∀ v, V v → wpO9 P l.toArray I Q r (C' v) (a.put o.dst v)) : wpO9 P l.toArray I Q (k :: r) C a :=
  ⟨o, at_list ho, .inr (.inr (.inr ⟨hk, .inr ⟨hw, V, C', hsub, fun w hC => by rw [hrun w]; exact hc w hC, h⟩⟩))⟩
theorem wpO9_store (C' : World → Prop) {t : TypeId} {x y : Operand} (ho : l[k]? = some o) (hop : o.op = .store t x y) (hd : o.dst = none) (hg : o.guard = none) (ad : Addr) (v : Value) (hx : a.eval x = .pointer (some ad)) (hy : a.eval y = v) (hsub : ∀ w, C' w → I w)
    (hrun : ∀ w, C w → ∃ w', (Instr.storeAt t (.pointer (some ad)) v).run P w = .ok () w' ∧ C' w') (h : wpO9 P l.toArray I Q r C' a) : wpO9 P l.toArray I Q (k :: r) C a := by
  refine ⟨o, at_list ho, .inr (.inr (.inl ⟨by simp [kind9, kind3, pureOp, hop], undef, C', hsub, .inl ⟨by simp [Region.wanted, hg], fun w hw => ?_⟩, ?_⟩))⟩
  · obtain ⟨w', hr, hc⟩ := hrun w hw
    unfold execOp
    simp only [hop, hx, hy]
    rw [Sem.run_bind, hr]
    exact ⟨rfl, hc⟩
  · rw [hd]; exact h
theorem wpO9_do (V : Value → Prop) (C' : Value → World → Prop) (ho : l[k]? = some o) (hk : kind9 o = 3) (hw : Region.wanted o (yielded l.toArray a.tmps) = true) (hsub : ∀ v w, C' v w → I w)
    (hrun : ∀ w, C w → ∃ u w', (execOp a.eval o).run P w = .ok (.value u) w' ∧ V u ∧ C' u w') (h : ∀ v, V v → wpO9 P l.toArray I Q r (C' v) (a.put o.dst v)) : wpO9 P l.toArray I Q (k :: r) C a :=
  ⟨o, at_list ho, .inr (.inr (.inr ⟨hk, .inr ⟨hw, V, C', hsub, fun w hC => by
    obtain ⟨u, w', h1, h2, h3⟩ := hrun w hC
    rw [h1]
    exact ⟨h2, h3⟩, h⟩⟩))⟩
theorem wpO9_nil {x : Operand} {ad : Addr} (ho : l[k]? = some o) (hop : o.op = .nilCheck x) (hw : Region.wanted o (yielded l.toArray a.tmps) = true) (hx : a.eval x = .pointer (some ad))
    (h : wpO9 P l.toArray I Q r C (a.put o.dst (.pointer (some ad)))) : wpO9 P l.toArray I Q (k :: r) C a := by
  refine ⟨o, at_list ho, .inr (.inl ⟨by simp [kind9, hop], .pointer (some ad), .inl ⟨hw, fun w hC => ?_⟩, h⟩)⟩
  unfold Oper.quietAt execOp
  simp only [hop, hx]
  exact ⟨rfl, rfl⟩
end
end Go.Proofs.Ytmjbimmbphofjaa

namespace Go.Proofs.Ytmjbimmbphofjaa
open Go.RowKit Go.Shelf
set_option maxRecDepth 100000
attribute [local go_sem] Oper.semAt_some

theorem numR_ways (l : List Int) (mo : Int) (h0 : 0 ≤ mo) : ∃ (X : Int) (u er : Nat), numR l mo = (X, u, er) ∧ 0 ≤ X ∧ X ≤ mo ∧ u ≤ l.length ∧
    (((Vi.get l).2.2 ≠ 0 ∧ er = (Vi.get l).2.2) ∨ ((Vi.get l).2.2 = 0 ∧ mo < ((Vi.get l).1 : Int) ∧ er = 5) ∨ ((Vi.get l).2.2 = 0 ∧ ((Vi.get l).1 : Int) ≤ mo ∧ er = 0 ∧ X = ((Vi.get l).1 : Int) ∧ u = (Vi.get l).2.1)) := by
  have hle := Vi.get_le l
  unfold numR
  by_cases h1 : (Vi.get l).2.2 ≠ 0
  · rw [if_pos h1]
    exact ⟨0, 0, _, rfl, by omega, by omega, by omega, .inl ⟨h1, rfl⟩⟩
  · rw [if_neg h1]
    have h1' : (Vi.get l).2.2 = 0 := by simpa using h1
    by_cases h2 : mo < ((Vi.get l).1 : Int)
    · rw [if_pos h2]
      exact ⟨0, 0, _, rfl, by omega, by omega, by omega, .inr (.inl ⟨h1', h2, rfl⟩)⟩
    · rw [if_neg h2]
      exact ⟨_, _, _, rfl, by omega, by omega, hle.2.2.1, .inr (.inr ⟨h1', by omega, rfl, rfl, rfl⟩)⟩
set_option maxHeartbeats 4000000 in
theorem plainr_any (lo mb lb bf bm : Nat) (zs : List Int) (N : Mg) (P C : Value) (p : Nat) (f : Fd) (w : World) (h : RdAt lo w mb lb zs N P C p 0) (hf : FdX f) (hso : f.so = 1) (hmo : 0 ≤ f.mo) (hl : zs.length ≤ 1000000) (hz : Bys zs)
    (hbf : w.heap[bf]? = some (.cells f.cs 68 (0, 0))) (hbm : w.heap[bm]? = some (.cells #[.pointer (some ⟨mb, 0, none⟩)] 83 (0, 0))) :
    Calls Try.prog 95 #[.pointer (some ⟨lb, 0, none⟩), .pointer (some ⟨bf, 0, none⟩), .pointer (some ⟨bm, 0, none⟩)] w fun r w' => RdO lo mb lb zs p (rdF N f (zs.drop p)) w r w' := by
  obtain ⟨jj, hj6, hjj⟩ := hf.pl (by omega)
  have hz6 : (jj : Int) < 6 := by omega
  obtain ⟨X, u, er, hX, x0, x1, hu, hw⟩ := numR_ways (zs.drop p) f.mo hmo
  have K := lnum_any lo lb zs p 0 w f.mo h.l (by omega) hz
  rw [hX] at K
  unfold ReadI at K
  simp only [ansI, placeOf, errOf, if_true] at K
  have hle := hf.le
  obtain ⟨R, hR⟩ : ∃ R, rdF N f (zs.drop p) = R := ⟨_, rfl⟩
  rw [hR]
  unfold rdF at hR
  rw [if_pos hso] at hR
  have hlm := h.a
  obtain ⟨-, -, -, hbl, -⟩ := And.intro trivial (And.intro trivial (And.intro trivial (And.intro h.l.open trivial)))
  obtain ⟨_, _, hbl, -⟩ := hbl
  have n1 := row_ne hbf h.m (by decide)
  have n2 := row_ne hbf hbl (by decide)
  have n3 := row_ne hbm h.m (by decide)
  have n4 := row_ne hbm hbl (by decide)
  obtain ⟨d0, d1, d2, d3, d4, d5, d6⟩ := fd_block hbf
  have hm2 : f.mo ≤ 1000000 := by omega
  have K := Lib.hid K
  have HH := Lib.hid h
  have HBF := Lib.hid hbf
  have HBM := Lib.hid hbm
  have HR := Lib.hid hR
  have HW := Lib.hid hw
  have HLE := Lib.hid hle
  clear hR hw hle hX h hbl d0 d1 d2 d3 d5 d6
  go_enter Try.func95, Try.ntmps95
  go_wp2_with fail
  refine K.out.mono ?_
  rintro r w1 ⟨rfl, hl1, ho1⟩
  have h1 := HH.out.turn hl1 ho1
  have hbf1 := (ho1.block _ (Array.getElem?_eq_some_iff.1 HBF.out).1 n2).trans HBF.out
  have hbm1 := (ho1.block _ (Array.getElem?_eq_some_iff.1 HBM.out).1 n4).trans HBM.out
  obtain ⟨d0, d1, d2, d3, d4, d5, d6⟩ := fd_block hbf1
  rw [hjj] at d2
  have k0 := row_cell hbm1 0 _ rfl
  have c7 := mg_at h1.m hj6
  have z7 := frozen_of_row w1 mb (1 + jj) _ _ h1.m
  have HN := Lib.hid (h1.num hj6 X)
  have HOF : Hid (Off (fun q => q = mb ∨ q = lb) w (w1.setCell ⟨mb, 1 + jj, none⟩ (.int .i64 X)).drew) := Lib.hid (((ho1.mono (S' := fun q => q = mb ∨ q = lb) (fun _ _ e => .inr e)).setCell (p := ⟨mb, 1 + jj, none⟩) (.inl rfl) _).trans (Off.of_below (S := fun _ => False) (Below.refl _ _).drew) (fun _ _ h => h.elim))
  have d3' := (fd_block (w := w1.setCell ⟨mb, 1 + jj, none⟩ (.int .i64 X)) ((Below.heap_setCell w1 ⟨mb, 1 + jj, none⟩ (.int .i64 X) bf n1).trans hbf1)).2.2.2.1
  clear K hl1 ho1 h1 hbf1 hbm1 d0 d1 d4 d5 d6
  go_wp2_with fail
  go_region
  go_wp2_with fail
  have HN2 := Lib.hid (HN.out.later (Below.refl _ _).drew)
  refine (otherwise_any HN2.out.l (decide (X < f.le)) 5).mono ?_
  rintro r w2 ⟨rfl, rfl⟩
  go_wp2
  go_ret
  have hR := HR.out
  rcases HW.out with ⟨g1, rfl⟩ | ⟨g1, g2, rfl⟩ | ⟨g1, g2, rfl, g3, rfl⟩
  · rw [if_pos g1] at hR
    subst hR
    exact ⟨by simp [oth, g1], HOF.out, fun h => absurd h g1⟩
  · rw [if_neg (by simpa using g1), if_pos (.inl g2)] at hR
    subst hR
    exact ⟨by simp [oth], HOF.out, fun h => by simp at h⟩
  · by_cases hlt : X < f.le
    · rw [if_neg (by simpa using g1), if_pos (.inr (by omega))] at hR
      subst hR
      exact ⟨by simp [oth, hlt], HOF.out, fun h => by simp at h⟩
    · rw [if_neg (by simpa using g1), if_neg (by omega), hjj, Int.toNat_natCast, ← g3] at hR
      subst hR
      exact ⟨by simp [oth, hlt], HOF.out, fun _ => ⟨P, C, HN2.out⟩⟩
theorem sigR_ways (l : List Int) : ∃ (X : Int) (u er : Nat), sigR l (-1000000) 1000000 = (X, u, er) ∧ -1000000 ≤ X ∧ X ≤ 1000000 ∧ u ≤ l.length ∧
    (((Vi.get l).2.2 ≠ 0 ∧ er = (Vi.get l).2.2) ∨ ((Vi.get l).2.2 = 0 ∧ (zagZ ((Vi.get l).1 : Int) < -1000000 ∨ 1000000 < zagZ ((Vi.get l).1 : Int)) ∧ er = 5) ∨ ((Vi.get l).2.2 = 0 ∧ ¬ (zagZ ((Vi.get l).1 : Int) < -1000000 ∨ 1000000 < zagZ ((Vi.get l).1 : Int)) ∧ er = 0 ∧ X = zagZ ((Vi.get l).1 : Int) ∧ u = (Vi.get l).2.1)) := by
  have hle := Vi.get_le l
  unfold sigR
  by_cases h1 : (Vi.get l).2.2 ≠ 0
  · rw [if_pos h1]
    exact ⟨0, 0, _, rfl, by omega, by omega, by omega, .inl ⟨h1, rfl⟩⟩
  · rw [if_neg h1]
    have h1' : (Vi.get l).2.2 = 0 := by simpa using h1
    by_cases h2 : zagZ ((Vi.get l).1 : Int) < -1000000 ∨ 1000000 < zagZ ((Vi.get l).1 : Int)
    · rw [if_pos h2]
      exact ⟨0, 0, _, rfl, by omega, by omega, by omega, .inr (.inl ⟨h1', h2, rfl⟩)⟩
    · rw [if_neg h2]
      exact ⟨_, _, _, rfl, by omega, by omega, hle.2.2.1, .inr (.inr ⟨h1', h2, rfl, rfl, rfl⟩)⟩
set_option maxHeartbeats 4000000 in
theorem signedr_any (lo mb lb bf bm : Nat) (zs : List Int) (N : Mg) (P C : Value) (p : Nat) (f : Fd) (w : World) (h : RdAt lo w mb lb zs N P C p 0) (hf : FdX f) (hso : f.so = 2) (hl : zs.length ≤ 1000000) (hz : Bys zs)
    (hbf : w.heap[bf]? = some (.cells f.cs 68 (0, 0))) (hbm : w.heap[bm]? = some (.cells #[.pointer (some ⟨mb, 0, none⟩)] 83 (0, 0))) :
    Calls Try.prog 83 #[.pointer (some ⟨lb, 0, none⟩), .pointer (some ⟨bf, 0, none⟩), .pointer (some ⟨bm, 0, none⟩)] w fun r w' => RdO lo mb lb zs p (rdF N f (zs.drop p)) w r w' := by
  obtain ⟨jj, hj6, hjj⟩ := hf.pl (by omega)
  have hz6 : (jj : Int) < 6 := by omega
  obtain ⟨hfl, hfm⟩ := hf.two hso
  obtain ⟨X, u, er, hX, x0, x1, hu, hw⟩ := sigR_ways (zs.drop p)
  have KS : Hid (∀ W, LensAt W lo lb zs p 0 → Calls Try.prog 84 #[.pointer (some ⟨lb, 0, none⟩), .int .i64 (-1000000), .int .i64 1000000] W fun r w' => r = .returned (.int .i64 X) ∧ LensAt w' lo lb zs (p + u) er ∧ Off (fun q => q = lb) W w') := Lib.hid fun W hW => by
    have K := lsig_any lo lb zs p 0 W (-1000000) 1000000 hW (by omega) hz
    rw [hX] at K
    unfold ReadI at K
    simpa only [ansI, placeOf, errOf, if_true] using K
  obtain ⟨R, hR⟩ : ∃ R, rdF N f (zs.drop p) = R := ⟨_, rfl⟩
  rw [hR]
  unfold rdF at hR
  rw [if_neg (show ¬ f.so = 1 by omega), if_pos hso] at hR
  have hlm := h.a
  obtain ⟨_, _, hbl, -⟩ := h.l.open
  have n1 := row_ne hbf h.m (by decide)
  have n2 := row_ne hbf hbl (by decide)
  have n3 := row_ne hbm h.m (by decide)
  have n4 := row_ne hbm hbl (by decide)
  have hlb := h.l.lt
  have HH := Lib.hid h
  have HR := Lib.hid hR
  have HW := Lib.hid hw
  have hI : ∀ W, Off (fun q => q = lb) w W → W.heap[bf]? = some (.cells f.cs 68 (0, 0)) ∧ W.heap[bm]? = some (.cells #[.pointer (some ⟨mb, 0, none⟩)] 83 (0, 0)) := fun W hW => ⟨(hW.block _ (Array.getElem?_eq_some_iff.1 hbf).1 n2).trans hbf, (hW.block _ (Array.getElem?_eq_some_iff.1 hbm).1 n4).trans hbm⟩
  have lM : ∀ W, Off (fun q => q = lb) w W → (Instr.loadAt 83 (.pointer (some ⟨bm, 0, none⟩))).run Try.prog W = .ok (.pointer (some ⟨mb, 0, none⟩)) W := fun W hW => by
    have k := row_cell (hI W hW).2 0 _ rfl
    simp [Instr.loadAt, go_sem, k]
  have lF : ∀ W, Off (fun q => q = lb) w W → (Instr.loadAt 3 (.pointer (some ⟨bf, 2, none⟩))).run Try.prog W = .ok (.int .i64 (jj : Int)) W := fun W hW => by
    have k := (fd_block (hI W hW).1).2.2.1
    rw [hjj] at k
    simp [Instr.loadAt, go_sem, k]
  have lL : ∀ W, Off (fun q => q = lb) w W → (Instr.loadAt 3 (.pointer (some ⟨bf, 3, none⟩))).run Try.prog W = .ok (.int .i64 (-1000000)) W := fun W hW => by
    have k := (fd_block (hI W hW).1).2.2.2.1
    rw [hfl] at k
    simp [Instr.loadAt, go_sem, k]
  have lH : ∀ W, Off (fun q => q = lb) w W → (Instr.loadAt 3 (.pointer (some ⟨bf, 4, none⟩))).run Try.prog W = .ok (.int .i64 1000000) W := fun W hW => by
    have k := (fd_block (hI W hW).1).2.2.2.2.1
    rw [hfm] at k
    simp [Instr.loadAt, go_sem, k]
  clear hR hw hX h hbl hbf hbm hf hfl hfm hz
  go_enter Try.func83, Try.ntmps83
  go_wp2_with fail
  refine wp_region_order9 12 (0 :: 1 :: 2 :: 3 :: 4 :: 5 :: 6 :: 7 :: 9 :: 10 :: 8 :: 11 :: []) (fun W => Off (fun q => q = lb) w W) (C := fun W => Below w.heap.size w W) (by kernel_rfl) (by kernel_rfl) (by kernel_rfl) (Below.refl _ _).drew (fun W hW => Off.of_below hW) ?_
  refine wpO9_load (ad := ⟨bm, 0, none⟩) (.pointer (some ⟨mb, 0, none⟩)) rfl rfl rfl (by rfl) lM ?_
  simp only [Act.put, List.setIfInBounds_toArray, List.set_cons_succ, List.set_cons_zero]
  repeat (refine wpO9_pure rfl rfl ?_; go_big_quiet_step (fail); refine wpQuiet_nil ?_)
  refine wpO9_load (ad := ⟨bf, 2, none⟩) (.int .i64 (jj : Int)) rfl rfl rfl (by rfl) lF ?_
  simp only [Act.put, List.setIfInBounds_toArray, List.set_cons_succ, List.set_cons_zero]
  repeat (refine wpO9_pure rfl rfl ?_; go_big_quiet_step (fail); refine wpQuiet_nil ?_)
  refine wpO9_load (ad := ⟨bf, 3, none⟩) (.int .i64 (-1000000)) rfl rfl rfl (by rfl) lL ?_
  simp only [Act.put, List.setIfInBounds_toArray, List.set_cons_succ, List.set_cons_zero]
  repeat (refine wpO9_pure rfl rfl ?_; go_big_quiet_step (fail); refine wpQuiet_nil ?_)
  refine wpO9_load (ad := ⟨bf, 4, none⟩) (.int .i64 1000000) rfl rfl rfl (by rfl) lH ?_
  simp only [Act.put, List.setIfInBounds_toArray, List.set_cons_succ, List.set_cons_zero]
  refine wpO9_nil (ad := ⟨mb, 0, none⟩) rfl rfl rfl (by rfl) ?_
  simp only [Act.put, List.setIfInBounds_toArray, List.set_cons_succ, List.set_cons_zero]
  repeat (refine wpO9_pure rfl rfl ?_; go_big_quiet_step (fail); refine wpQuiet_nil ?_)
  refine wpO9_call (fun v => v = .int .i64 X) (fun _ W => LensAt W lo lb zs (p + u) er ∧ Off (fun q => q = lb) w W) (f := 84) (args := #[.pointer (some ⟨lb, 0, none⟩), .int .i64 (-1000000), .int .i64 1000000]) rfl rfl rfl (fun _ W hW => hW.2) (fun x => by first | rfl | (simp [go_sem]; done)) (fun W hW => (KS.out W (HH.out.later hW).l).mono (fun e w' h => ⟨_, h.1, rfl, h.2.1, (Off.of_below (S := fun q => q = lb) hW).trans h.2.2 (fun _ _ h => h)⟩)) ?_
  rintro v rfl
  simp only [Act.put, List.setIfInBounds_toArray, List.set_cons_succ, List.set_cons_zero]
  repeat (refine wpO9_pure rfl rfl ?_; go_big_quiet_step (fail); refine wpQuiet_nil ?_)
  rintro w1 ⟨hl1, ho1⟩
  simp only [List.drop_succ_cons, List.drop_zero]
  have h1 := HH.out.turn hl1 ho1
  have c7 := mg_at h1.m hj6
  have z7 := frozen_of_row w1 mb (1 + jj) _ _ h1.m
  have HN := Lib.hid (h1.num hj6 X)
  have HOF : Hid (Off (fun q => q = mb ∨ q = lb) w (w1.setCell ⟨mb, 1 + jj, none⟩ (.int .i64 X))) := Lib.hid ((ho1.mono (S' := fun q => q = mb ∨ q = lb) (fun _ _ e => .inr e)).setCell (p := ⟨mb, 1 + jj, none⟩) (.inl rfl) _)
  clear hl1 ho1 h1 hI lM lF lL lH KS
  go_wp2_with fail
  refine (lerr_any _ _ _ _ _ _ HN.out.l).mono ?_
  rintro r w2 ⟨rfl, rfl⟩
  go_wp2
  go_ret
  have hR := HR.out
  rcases HW.out with ⟨g1, rfl⟩ | ⟨g1, g2, rfl⟩ | ⟨g1, g2, rfl, g3, rfl⟩
  · rw [if_pos g1] at hR
    subst hR
    exact ⟨rfl, HOF.out, fun h => absurd h g1⟩
  · rw [if_neg (by simpa using g1), if_pos g2] at hR
    subst hR
    exact ⟨rfl, HOF.out, fun h => by simp at h⟩
  · rw [if_neg (by simpa using g1), if_neg g2, hjj, Int.toNat_natCast, ← g3] at hR
    subst hR
    exact ⟨rfl, HOF.out, fun _ => ⟨P, C, HN.out⟩⟩
end Go.Proofs.Ytmjbimmbphofjaa
