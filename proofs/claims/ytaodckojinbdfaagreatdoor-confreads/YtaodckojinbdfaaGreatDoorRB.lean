/-
  What 'nums' of the reference answers. Condition: the words lie in memory.
  'cut' and 'List' of the reference: their answers lie in memory of their own; a configuration as it comes into the reference's functions.
  'append(empty, row...)': a row laid anew, as one step of a region that draws.
  A region that draws its order, and reads a cell that it writes at its end: what is read before one named operation may be taken first.
  A configuration in the reference's hands: one more schema.
  A configuration in the reference's hands: one more level.
  A configuration in the reference's hands: its schemas laid anew.
  A configuration in the reference's hands: its box and the answer's.
  A configuration and a level that is being told, in the reference's hands.
-/
import Derived.Test.YtaodckojinbdfaaGreatDoorSM
import Derived.Test.YtaodckojinbdfaaGreatDoorMC
import Derived.Test.YtaodckojinbdfaaGreatDoorRG
import Derived.Test.YtaodckojinbdfaaGreatDoorWalkY
import Derived.Test.YtaodckojinbdfaaGreatDoorMB
import Derived.Deep.AppendLies
import Derived.Deep.RegionLaw
import Derived.Laws.AppendOwnNone
import Derived.Deep.RegionHeld
import Derived.Deep.CutBlock
namespace Go.Proofs.YtaodckojinbdfaaGreatDoor
open Go.RowKit

theorem one_new (w : World) (x : Int) : ∀ j u, ([.int .i64 x] : List Value)[j]? = some u → (w.alloc (.cells #[.int .i64 x] 3)).cell? ((⟨w.heap.size, 0, none⟩ : Addr).add j) = some u := by
  intro j u hj
  match j, hj with
  | 0, hj => simp at hj; subst hj; simp [Addr.add]
theorem one_cell (x : Int) : ∀ u ∈ ([.int .i64 x] : List Value), u.oneCell' = true := by
  intro u hu; simp at hu; subst hu; rfl
theorem info3 : (Tryz.prog.info? 3).map (fun i => (i.zero, i.size, i.bytes)) = some (some (.int .i64 0), 1, 8) := by kernel_rfl
/-- A list of numbers in memory of its own. -/
def OwnN (B : Nat) (w : World) (v : Value) (l : List Int) : Prop := w.ownsRow B 3 1 v l.length (l.map (Value.int .i64))
theorem OwnN.put {B : Nat} {w : World} {v : Value} {l : List Int} {x : Int} (h : w.ownsRow B 3 1 v (l.length + 1) (l.map (Value.int .i64) ++ [.int .i64 x])) : OwnN B w v (l ++ [x]) := by
  unfold OwnN
  rw [List.length_append, List.map_append]
  exact h
/-- The bounds: pairs of numbers, in a block. -/
def BRow (w : World) (g q : Nat) (lo hi : Nat → Int) : Prop := g < w.heap.size ∧ ∀ k, k < q → w.cell? ⟨g, k * 2, none⟩ = some (.int .i64 (lo k)) ∧ w.cell? ⟨g, k * 2 + 1, none⟩ = some (.int .i64 (hi k))
/-- The words behind the first one, as numbers. -/
def numsTo (ws : List ByteArray) (lo hi : Nat → Int) (k : Nat) : List Int := (List.range k).map fun j => numOf (gt ws (j + 1)) (lo j) (hi j)
theorem numsTo_succ (ws : List ByteArray) (lo hi : Nat → Int) (k : Nat) : numsTo ws lo hi (k + 1) = numsTo ws lo hi k ++ [numOf (gt ws (k + 1)) (lo k) (hi k)] := by
  unfold numsTo; rw [List.range_succ, List.map_append]; rfl
theorem numsTo_len (ws : List ByteArray) (lo hi : Nat → Int) (k : Nat) : (numsTo ws lo hi k).length = k := by unfold numsTo; simp
set_option maxRecDepth 20000 in
set_option maxHeartbeats 4000000 in
theorem nums_go (a : Option Addr) (c : Nat) (ws : List ByteArray) (g cb q : Nat) (lo hi : Nat → Int) (w : World) (hr : RowL w a ws) (hsz : ∀ k, (gt ws k).size ≤ 65536) (hb : BRow w g q lo hi) (hn : ws.length = q + 1) (hq : q ≤ 10) :
    Calls Tryz.prog 35 #[.slice a ws.length c, .int .i64 ((q + 1 : Nat) : Int), .slice (some ⟨g, 0, none⟩) q cb] w fun e w' => Below w.heap.size w w' ∧
      (((∃ j, j < q ∧ numIn (gt ws (j + 1)) (lo j) (hi j) = false) ∧ e = .returned (.tuple #[.slice none 0 0, .int .i64 8])) ∨
        ((∀ j, j < q → numIn (gt ws (j + 1)) (lo j) (hi j) = true) ∧ ∃ v, e = .returned (.tuple #[v, .int .i64 0]) ∧ OwnN w.heap.size w' v (numsTo ws lo hi q))) := by
  obtain ⟨i0, hi0, hz0, hz1, hz2⟩ := info_parts info3
  have HW : Hd (RowL w a ws ∧ BRow w g q lo hi ∧ ws.length = q + 1 ∧ ∀ k, (gt ws k).size ≤ 65536) := ⟨hr, hb, hn, hsz⟩
  rw [hn]
  clear hr hb hn hsz
  go_enter Tryz.func35, Tryz.ntmps35
  go_wp2_with fail
  go_loopw [6, 7, 8, 9] (fun _ _ v i wr => ∃ k : Nat, k ≤ q ∧ i = .int .i64 k ∧ Hd ((∀ j, j < k → numIn (gt ws (j + 1)) (lo j) (hi j) = true) ∧ OwnN w.heap.size wr v (numsTo ws lo hi k) ∧ Below w.heap.size w wr)) (fun _ _ _ i _ => q - (intOf i).toNat)
  case atStart => exact ⟨0, Nat.zero_le _, rfl, ⟨fun j h => absurd h (Nat.not_lt_zero _), World.ownsRow_nil _ _ _ _, Below.refl _ _⟩⟩
  case round =>
    obtain ⟨k, hk, rfl, hI⟩ := hrel
    by_cases hlt : k < q
    · obtain ⟨b, off, rfl, hbl', hcs⟩ := HW.out.1 (by rw [HW.out.2.2.1]; omega)
      have hcell := (hI.out.2.2.cell (p := ⟨b, off + (k + 1), none⟩) hbl').trans (hcs (k + 1) (by rw [HW.out.2.2.1]; omega))
      obtain ⟨hg, hbc⟩ := HW.out.2.1
      have c1 := (hI.out.2.2.cell (p := ⟨g, k * 2, none⟩) hg).trans (hbc k hlt).1
      have c2 := (hI.out.2.2.cell (p := ⟨g, k * 2 + 1, none⟩) hg).trans (hbc k hlt).2
      have RN := fun W => rnumber_ok (gt ws (k + 1)) (lo k) (hi k) (by have := HW.out.2.2.2 (k + 1); omega) W
      have HS : Hd (numsTo ws lo hi (k + 1) = numsTo ws lo hi k ++ [numOf (gt ws (k + 1)) (lo k) (hi k)]) := ⟨numsTo_succ ws lo hi k⟩
      have HC : Hd ((numIn (gt ws (k + 1)) (lo k) (hi k) = false → ∃ j, j < q ∧ numIn (gt ws (j + 1)) (lo j) (hi j) = false) ∧ (numIn (gt ws (k + 1)) (lo k) (hi k) = true → ∀ j, j < k + 1 → numIn (gt ws (j + 1)) (lo j) (hi j) = true)) := ⟨fun h => ⟨k, hlt, h⟩, fun h j hj => by
        rcases Nat.lt_or_eq_of_le (Nat.le_of_lt_succ hj) with h' | h'
        · exact hI.out.1 j h'
        · subst h'; exact h⟩
      have HK : Hd (k < q) := ⟨hlt⟩
      have BB : Hd (Below w.heap.size w wr) := ⟨hI.out.2.2⟩
      have own := hI.out.2.1
      have OL := numsTo_len ws lo hi k
      have i1 : (k : Int) + 1 < (q : Int) + 1 := by omega
      have i2 : (k : Int) < (q : Int) := by omega
      have i3 : IntKind.i64.wrap ((k : Int) + 1) = (k : Int) + 1 := by rw [IntKind.wrap_i64]; omega
      have bsz := BB.out.size
      have S1 : b < wr.heap.size := Nat.lt_of_lt_of_le hbl' bsz
      have S2 : g < wr.heap.size := Nat.lt_of_lt_of_le hg bsz
      clear hcs hbc hI HW hg hbl'
      generalize gt ws (k + 1) = x at *
      generalize lo k = l0 at *
      generalize hi k = h0 at *
      generalize numOf x l0 h0 = nv at *
      generalize hnb : numIn x l0 h0 = nb at *
      go_wp2_with fail
      go_region_held (fun w' => w'.cell? ⟨b, off + (k + 1), none⟩ = some (.string x) ∧ w'.cell? ⟨g, k * 2, none⟩ = some (.int .i64 l0) ∧ w'.cell? ⟨g, k * 2 + 1, none⟩ = some (.int .i64 h0)) (first | exact ⟨s1, s2, s3⟩ | exact ⟨hcell, c1, c2⟩)
        (first | (go_at_call 58; refine (RN _).mono ?_; rintro e w3 ⟨rfl, b3⟩; have s1 := (b3.cell (p := ⟨b, off + (k + 1), none⟩) S1).trans hcell; have s2 := (b3.cell (p := ⟨g, k * 2, none⟩) S2).trans c1; have s3 := (b3.cell (p := ⟨g, k * 2 + 1, none⟩) S2).trans c2))
      have B3 : Hd (Below w.heap.size w w3) := ⟨BB.out.drew.trans (b3.mono bsz)⟩
      have own3 : w3.ownsRow w.heap.size 3 1 u8 k ((numsTo ws lo hi k).map (Value.int .i64)) := by
        have h1 : wr.ownsRow w.heap.size 3 1 u8 (numsTo ws lo hi k).length ((numsTo ws lo hi k).map (Value.int .i64)) := own
        rw [OL] at h1
        exact owns_kept (owns_kept h1 ((Kept.refl (fun _ => False) wr).drew) (fun _ _ => id)) (Kept.of_below b3 (fun _ => False)) (fun _ _ => id)
      have bs3 := B3.out.size
      clear s1 s2 s3 b3 own hcell c1 c2 RN
      cases nb with
      | false =>
        go_wp2_with fail
        go_ret2
        exact ⟨B3.out, .inl ⟨HC.out.1 (by first | exact rfl | trivial), rfl⟩⟩
      | true =>
        go_wp2_with (at_builtin; refine wpList_append_own _ rfl _ _ 66 rfl w.heap.size 3 i0 (.int .i64 0) 1 8 Tryz.underlying66 hi0 hz0 hz1 hz2 rfl (by decide) _ _ _ rfl (World.ownsRow.alloc own3 _) ⟨w3.heap.size, 0, none⟩ 1 1 [.int .i64 nv] rfl rfl (one_new _ _) (one_cell _) (by unfold maxLen; omega) (by omega) (by simp; omega) ?_; intro v' w4 hown' hgrow _)
        have P4 : Hd (Below w.heap.size w w4) := ⟨(B3.out.alloc B3.out.size _).grown hgrow (by simp; omega) (fun k hk => (own3.lt k hk).1)⟩
        have O4 : Hd (OwnN w.heap.size w4 v' (numsTo ws lo hi (k + 1))) := ⟨by rw [HS.out]; exact OwnN.put (by rw [OL]; exact hown')⟩
        go_roundw
        case rel => exact ⟨u6, u7, v', .int .i64 ((k : Int) + 1), ⟨k + 1, HK.out, by go_num, ⟨HC.out.2 (by first | exact rfl | trivial), O4.out, P4.out⟩⟩, rfl, rfl, rfl, rfl⟩
        case measure => have := HK.out; simp [intOf]; omega
    · obtain rfl : q = k := by omega
      have R : Hd _ := hI
      obtain ⟨va, vc, rfl⟩ := own_form hI.out.2.1
      clear hI
      go_wp2_with fail
      go_ret2
      exact ⟨R.out.2.2, .inr ⟨R.out.1, _, rfl, R.out.2.1⟩⟩

end Go.Proofs.YtaodckojinbdfaaGreatDoor

namespace Go.Proofs.YtaodckojinbdfaaGreatDoor
open Go.RowKit Go.Lib

theorem row_ownedZ {w : World} {B c : Nat} {a : Option Addr} {L : List ByteArray} (h : OwnT B w (.slice a L.length c) L) : RowY B w a L := by
  intro hn
  rcases id h.2 with ⟨e, _⟩ | ⟨g, cap, cur, e, _⟩
  · injection e with _ e2 _
    omega
  · injection e with e1 _ e3
    subst e1
    exact row_ownedY h hn

set_option maxRecDepth 20000 in
theorem rcut_y (s : ByteArray) (c : UInt8) (ci : Int) (hci : ci = (c.toNat : Int)) (w : World) (hs : s.size ≤ 131072) :
    Calls Tryz.prog 34 #[.string s, .int .u8 ci] w fun e w' => ∃ a cap, e = .returned (.slice a (cutB c s).length cap) ∧ RowY w.heap.size w' a (cutB c s) ∧ (cutB c s).length ≤ cap ∧ Below w.heap.size w w' := by
  obtain ⟨i0, hi, hz0, hz1, hz2⟩ := info_parts info9
  go_enter Tryz.func34, Tryz.ntmps34
  go_wp2
  go_loopw [5, 6, 7] (fun s5 s6 i wr => ∃ (k fr : Nat) (P : List ByteArray), k ≤ s.size ∧ fr ≤ k ∧ i = .int .i64 k ∧ s6 = .int .i64 fr ∧ Hd (Cut c s P fr k) ∧ P.length ≤ k ∧ Hd (OwnT w.heap.size wr s5 P) ∧ Below w.heap.size w wr) (fun _ _ i _ => s.size - (intOf i).toNat)
  case atStart => exact ⟨0, 0, [], Nat.zero_le _, Nat.le_refl _, rfl, rfl, ⟨Cut.start c s⟩, Nat.le_refl _, ⟨⟨rfl, .inl ⟨rfl, rfl⟩⟩⟩, Below.refl _ _⟩
  case round =>
    obtain ⟨k, fr, P, hk, hfr, rfl, rfl, hC, hP, hown, p3⟩ := hrel
    have hsz := p3.size
    by_cases hlt : k < s.size
    · by_cases hb : s[k] = c
      · have hC' : Hd (Cut c s (P ++ [s.extract fr k]) (k + 1) (k + 1)) := ⟨hC.out.hit hlt hb⟩
        have e1 : ((s[k].toNat : Int) == ci) = true := by rw [hb, hci]; simp
        clear hC hb
        generalize hx : s.extract fr k = x at *
        clear hci
        go_wp2_with (at_builtin; refine wpList_append_own _ rfl _ _ 44 rfl w.heap.size 9 i0 (.string ByteArray.empty) 1 16 Tryz.underlying44 hi hz0 hz1 hz2 rfl (by decide) _ _ _ rfl (hown.out.alloc _) ⟨wr.heap.size, 0, none⟩ 1 1 [.string x] rfl rfl (one_newT _ _) (one_cellT _) (by unfold maxLen; omega) (by omega) (by simp; omega) ?_; intro v' w2 hown' hgrow _)
        have P4 : Hd (Below w.heap.size w w2) := ⟨(p3.alloc p3.size _).grown hgrow (by simp; omega) (fun j hj => (hown.out.lt j hj).1)⟩
        have O4 : Hd (OwnT w.heap.size w2 v' (P ++ [x])) := ⟨OwnT.put hown'⟩
        clear hown' hgrow hown p3
        go_roundw
        case rel => exact ⟨k + 1, k + 1, P ++ [x], by omega, by omega, by go_num, by go_num, hC', by simp; omega, O4, P4.out⟩
        case measure => simp [intOf]; omega
      · have hC' : Hd (Cut c s P fr (k + 1)) := ⟨hC.out.miss hlt hb⟩
        have e1 : ((s[k].toNat : Int) == ci) = false := by
          rw [hci]
          cases h : ((s[k].toNat : Int) == (c.toNat : Int)) with
          | false => rfl
          | true => exact absurd (UInt8.toNat_inj.1 (by have := eq_of_beq h; omega)) hb
        clear hC hb hci
        go_wp2
        go_roundw
        case rel => exact ⟨k + 1, fr, P, by omega, by omega, by go_num, rfl, hC', by omega, hown, p3⟩
        case measure => simp [intOf]; omega
    · obtain rfl : k = s.size := by omega
      have hF : Hd (P ++ [s.extract fr s.size] = cutB c s) := ⟨hC.out.fin⟩
      clear hC hci
      generalize hx : s.extract fr s.size = x at *
      go_wp2_with (at_builtin; refine wpList_append_own _ rfl _ _ 44 rfl w.heap.size 9 i0 (.string ByteArray.empty) 1 16 Tryz.underlying44 hi hz0 hz1 hz2 rfl (by decide) _ _ _ rfl (hown.out.alloc _) ⟨wr.heap.size, 0, none⟩ 1 1 [.string x] rfl rfl (one_newT _ _) (one_cellT _) (by unfold maxLen; omega) (by omega) (by simp; omega) ?_; intro v' w2 hown' hgrow _)
      have P4 : Hd (Below w.heap.size w w2) := ⟨(p3.alloc p3.size _).grown hgrow (by simp; omega) (fun j hj => (hown.out.lt j hj).1)⟩
      have O4 : OwnT w.heap.size w2 v' (P ++ [x]) := OwnT.put hown'
      rw [hF.out] at O4
      obtain ⟨a, cap, rfl, hrow0, hcap⟩ := O4.shape2
      have hrow : RowY w.heap.size w2 a (cutB c s) := row_ownedZ O4
      go_ret
      exact ⟨a, cap, rfl, hrow, hcap, P4.out⟩


theorem rlist_y (s : ByteArray) (w : World) (hs : s.size ≤ 131072) :
    Calls Tryz.prog 60 #[.string s] w fun e w' => ∃ a c, e = .returned (.tuple #[.slice a (listOf s).length c, .bool (listOk s)]) ∧ RowY w.heap.size w' a (listOf s) ∧ (listOf s).length ≤ c ∧ Below w.heap.size w w' := by
  by_cases h1 : s = mk [45]
  · have e1 : listOf s = [] := by unfold listOf; rw [if_pos h1]
    have e2 : listOk s = true := by unfold listOk; rw [if_pos h1]
    rw [e1, e2]
    subst h1
    show Calls Tryz.prog 60 #[.string ⟨#[45]⟩] w _
    go_enter Tryz.func60, Tryz.ntmps60
    go_wp2_with fail
    go_ret2
    exact ⟨none, 0, rfl, RowY.nil _ _ _, Nat.le_refl _, Below.refl _ _⟩
  have n1 : (s.toList == [45]) = false := by have := str_ne h1; rw [ByteArray.toList_eq (mk [45]), mk_list] at this; exact this
  obtain ⟨g1, g2⟩ := goodS_cut h1
  rw [g1, g2]
  clear g1 g2 h1
  have C := rcut_y s 44 44 (by decide) w hs
  have G := fun (a : Option Addr) (c : Nat) w hr => rgood_ok a c (cutB 44 s) w hr (short_cut 44 s (by omega)) (by rw [cutB_len]; have := count_le s 44; omega)
  generalize cutB 44 s = L at *
  cases hg : goodS L with
  | false =>
    rw [hg] at G
    rw [if_neg (by decide)]
    clear hg
    go_enter Tryz.func60, Tryz.ntmps60
    go_wp2_with fail
    go_at_call 34
    refine C.mono ?_
    rintro e w1 ⟨a1, c1, rfl, r1, k1, hb1⟩
    have G1 := G a1 c1 w1 r1.row
    clear C G
    have HR : Hd (RowY w.heap.size w1 a1 L) := ⟨r1⟩
    clear r1
    generalize hlen : L.length = m at *
    have HL : Hd (L.length = m) := ⟨hlen⟩
    clear hlen
    go_wp2_with (go_at_call 75; refine G1.mono ?_; rintro e w2 ⟨rfl, hb2⟩)
    go_ret2
    exact ⟨none, 0, rfl, RowY.nil _ _ _, Nat.le_refl _, hb1.trans (hb2.mono hb1.size)⟩
  | true =>
    rw [hg] at G
    rw [if_pos rfl]
    clear hg
    go_enter Tryz.func60, Tryz.ntmps60
    go_wp2_with fail
    go_at_call 34
    refine C.mono ?_
    rintro e w1 ⟨a1, c1, rfl, r1, k1, hb1⟩
    have G1 := G a1 c1 w1 r1.row
    clear C G
    have HR : Hd (RowY w.heap.size w1 a1 L) := ⟨r1⟩
    clear r1
    generalize hlen : L.length = m at *
    have HL : Hd (L.length = m) := ⟨hlen⟩
    clear hlen
    go_wp2_with (go_at_call 75; refine G1.mono ?_; rintro e w2 ⟨rfl, hb2⟩)
    go_ret2
    exact ⟨a1, c1, by rw [HL.out]; rfl, HR.out.below hb2, by rw [HL.out]; exact k1, hb1.trans (hb2.mono hb1.size)⟩



/-- A configuration boxed, and room for the answer. -/
structure Bx (B : Nat) (w wr : World) (C : Cf) (vL vS : Value) (V : List Value) : Prop where
  bel : Below w.heap.size w wr
  c : Blk wr w.heap.size 26 #[.int .i64 C.total, .int .i64 C.period, .int .i64 C.perSeat, .int .i64 C.most, vL, vS]
  r : Blk wr (w.heap.size + 1) 26 #[.int .i64 0, .int .i64 0, .int .i64 0, .int .i64 0, .slice none 0 0, .slice none 0 0]
  l : LvOwn B wr vL C.levels
  s : ScOwn B wr vS C.schemas V
theorem Bx.start {B : Nat} {w : World} {C : Cf} {vL vS : Value} {V : List Value} (hL : LvOwn B w vL C.levels) (hS : ScOwn B w vS C.schemas V) :
    Bx B w ((w.alloc (.cells #[.int .i64 C.total, .int .i64 C.period, .int .i64 C.perSeat, .int .i64 C.most, vL, vS] 26)).alloc (.cells #[.int .i64 0, .int .i64 0, .int .i64 0, .int .i64 0, .slice none 0 0, .slice none 0 0] 26)) C vL vS V := by
  have b0 : Below w.heap.size w ((w.alloc (.cells #[.int .i64 C.total, .int .i64 C.period, .int .i64 C.perSeat, .int .i64 C.most, vL, vS] 26)).alloc (.cells #[.int .i64 0, .int .i64 0, .int .i64 0, .int .i64 0, .slice none 0 0, .slice none 0 0] 26)) := ((Below.refl _ _).alloc (Nat.le_refl _) _).alloc (by simp) _
  have k : Kept (fun _ => False) w _ := Kept.of_below b0 _
  have f : ∀ t, Off t (fun _ => False) w := fun _ _ _ _ _ => id
  refine ⟨b0, (Blk.new w 26 _).kept (Kept.of_below ((Below.refl _ _).alloc (Nat.le_refl _) _) (fun _ => False)) id, ?_, hL.off k (f _), hS.off k (f _) (f _) (f _)⟩
  have := Blk.new (w.alloc (.cells #[.int .i64 C.total, .int .i64 C.period, .int .i64 C.perSeat, .int .i64 C.most, vL, vS] 26)) 26 #[.int .i64 0, .int .i64 0, .int .i64 0, .int .i64 0, .slice none 0 0, .slice none 0 0]
  simpa using this
theorem Bx.grown {B : Nat} {w wr w' : World} {C : Cf} {vL vS : Value} {V : List Value} (h : Bx B w wr C vL vS V) (b : Below wr.heap.size wr w') : Bx B w w' C vL vS V := by
  have k : Kept (fun _ => False) wr w' := Kept.of_below b _
  have f : ∀ t, Off t (fun _ => False) wr := fun _ _ _ _ _ => id
  exact ⟨h.bel.trans (b.mono h.bel.size), h.c.off k (f _), h.r.off k (f _), h.l.off k (f _), h.s.off k (f _) (f _) (f _)⟩

theorem resC36 (tmps : Array Value) (w : World) (r0 : Nat) (v0 v1 v2 v3 v4 v5 er : Value) (ht : tmps[4]?.getD undef = .pointer (some ⟨r0, 0, none⟩)) (he : tmps[5]?.getD undef = er) (h : Blk w r0 26 #[v0, v1, v2, v3, v4, v5]) :
    (results Tryz.f36 tmps).run Tryz.prog w = .ok (.tuple #[.agg #[v0, v1, v2, v3, v4, v5], er]) w := by
  have c0 := h.cellv 0 rfl
  have c1 := h.cellv 1 rfl
  have c2 := h.cellv 2 rfl
  have c3 := h.cellv 3 rfl
  have c4 := h.cellv 4 rfl
  have c5 := h.cellv 5 rfl
  simp at c0 c1 c2 c3 c4 c5
  simp [results, Tryz.results36, go_sem, ht, he, c0, c1, c2, c3, c4, c5]
theorem resC37 (tmps : Array Value) (w : World) (r0 : Nat) (v0 v1 v2 v3 v4 v5 er : Value) (ht : tmps[4]?.getD undef = .pointer (some ⟨r0, 0, none⟩)) (he : tmps[5]?.getD undef = er) (h : Blk w r0 26 #[v0, v1, v2, v3, v4, v5]) :
    (results Tryz.f37 tmps).run Tryz.prog w = .ok (.tuple #[.agg #[v0, v1, v2, v3, v4, v5], er]) w := by
  have c0 := h.cellv 0 rfl
  have c1 := h.cellv 1 rfl
  have c2 := h.cellv 2 rfl
  have c3 := h.cellv 3 rfl
  have c4 := h.cellv 4 rfl
  have c5 := h.cellv 5 rfl
  simp at c0 c1 c2 c3 c4 c5
  simp [results, Tryz.results37, go_sem, ht, he, c0, c1, c2, c3, c4, c5]
theorem resC38 (tmps : Array Value) (w : World) (r0 : Nat) (v0 v1 v2 v3 v4 v5 er : Value) (ht : tmps[4]?.getD undef = .pointer (some ⟨r0, 0, none⟩)) (he : tmps[5]?.getD undef = er) (h : Blk w r0 26 #[v0, v1, v2, v3, v4, v5]) :
    (results Tryz.f38 tmps).run Tryz.prog w = .ok (.tuple #[.agg #[v0, v1, v2, v3, v4, v5], er]) w := by
  have c0 := h.cellv 0 rfl
  have c1 := h.cellv 1 rfl
  have c2 := h.cellv 2 rfl
  have c3 := h.cellv 3 rfl
  have c4 := h.cellv 4 rfl
  have c5 := h.cellv 5 rfl
  simp at c0 c1 c2 c3 c4 c5
  simp [results, Tryz.results38, go_sem, ht, he, c0, c1, c2, c3, c4, c5]
theorem resC16 (tmps : Array Value) (w : World) (r0 : Nat) (v0 v1 v2 v3 v4 v5 er : Value) (ht : tmps[4]?.getD undef = .pointer (some ⟨r0, 0, none⟩)) (he : tmps[5]?.getD undef = er) (h : Blk w r0 26 #[v0, v1, v2, v3, v4, v5]) :
    (results Tryz.f16 tmps).run Tryz.prog w = .ok (.tuple #[.agg #[v0, v1, v2, v3, v4, v5], er]) w := by
  have c0 := h.cellv 0 rfl
  have c1 := h.cellv 1 rfl
  have c2 := h.cellv 2 rfl
  have c3 := h.cellv 3 rfl
  have c4 := h.cellv 4 rfl
  have c5 := h.cellv 5 rfl
  simp at c0 c1 c2 c3 c4 c5
  simp [results, Tryz.results16, go_sem, ht, he, c0, c1, c2, c3, c4, c5]

end Go.Proofs.YtaodckojinbdfaaGreatDoor

namespace Go.Proofs.YtaodckojinbdfaaGreatDoor
open Go

theorem step_copy {P : Program} {ops : Array Oper} {o : Oper} {a : Act} {w : World} {K : Act → World → Prop} {Q : Exit → Act → World → Prop} {E : Prop} (hgd : o.guard = none) (s x : Operand) (t : TypeId)
    (ho : o.op = .call { callee := .builtin .append, args := #[s, x], argTypes := #[t, t] })
    (base : Nat) (e : TypeId) (i : TypeInfo) (z : Value) (size bytes : Nat) (ht : P.underlying t = some (.slice e)) (hi : P.info? e = some i) (hz : i.zero = some z)
    (hsize : i.size = size) (hby : i.bytes = bytes) (hzs : z.cells.size = size) (hsz : 0 < size)
    (q : Nat) (hs : a.eval s = .slice (some ⟨q, 0, none⟩) 0 0) (hq : Blk w q e #[]) (hbq : base ≤ q)
    (B' : Nat) (ax : Option Addr) (n c : Nat) (hx : a.eval x = .slice ax n c) (xs : List Value) (hown : w.ownsRow B' e size (.slice ax n c) n xs) (h1 : ∀ u ∈ xs, u.oneCell' = true)
    (h63 : n ≤ maxLen) (hbytes : n * bytes ≤ 140737488355328)
    (h : ∀ g cap w', w'.ownsRow base e size (.slice (some ⟨g, 0, none⟩) n cap) n xs → w.grownBy w' (some q) → g < w'.heap.size → K (a.put o.dst (.slice (some ⟨g, 0, none⟩) n cap)) w') :
    if Region.wanted o (yielded ops a.tmps) = true then Oper.wp P o a w K Q else E := by
  have own0 : w.ownsRow base e size (.slice (some ⟨q, 0, none⟩) 0 0) 0 [] := ⟨by simp, .inr ⟨q, 0, #[], rfl, hbq, hq, Nat.le_refl _, Nat.zero_le _, by simp, by simp⟩⟩
  have gr : w.grownBy w (some q) := by constructor <;> intros <;> first | rfl | exact Nat.le_refl _
  rcases hown.2 with ⟨e1, e2⟩ | ⟨g0, cap0, cur, e1, hB0, hb0, hc0, hm0, hsz0, htk⟩
  · injection e1 with e1 e3 e4
    subst e1 e2 e4
    have hw : Region.wanted o (yielded ops a.tmps) = true := by simp [Region.wanted, hgd]
    rw [if_pos hw]
    have hrun := run_append_owned_none (P := P) (w := w) base t o.type e i size ht hi _ 0 [] own0
    unfold Oper.wp
    simp [execOp, ho, resolve, invoke, builtin, hs, hx, hrun, Result.andThen]
    have hxs : xs = [] := List.eq_nil_of_length_eq_zero (by rw [hown.1]; simp)
    subst hxs
    exact h q 0 w own0 gr hq.lt
  · injection e1 with e1 e3 e4
    subst e1
    have news : ∀ j u, xs[j]? = some u → w.cell? ((⟨g0, 0, none⟩ : Addr).add j) = some u := fun j u hu => by
      refine World.news_of_block hb0 j u ?_
      rw [← htk] at hu
      rw [List.getElem?_take] at hu
      split at hu
      · exact hu
      · cases hu
    rcases Nat.eq_zero_or_pos n with hn | hn
    · subst hn
      have hxs : xs = [] := List.eq_nil_of_length_eq_zero (by rw [hown.1]; simp)
      subst hxs
      refine step_append_room hgd s x t ho e i size ht hi hsize q 0 0 0 hs ⟨g0, 0, none⟩ 0 c [] hx (by simp) (fun j u hu => by simp at hu) (fun u hu => by simp at hu) (Nat.le_refl _) (fun j hj => absurd hj (Nat.not_lt_zero _)) ?_
      exact h q 0 w own0 gr hq.lt
    · refine step_append_lies w hgd s x t ho base e i z size bytes ht hi hz hsize hby hzs hsz _ 0 [] hs own0 ⟨g0, 0, none⟩ n c xs hx hown.1 news h1 hn (by omega) (by rw [Nat.zero_add]; exact hbytes) (Nat.le_trans hbq (Nat.le_of_lt hq.lt)) _ rfl ?_
      intro g cap w' ho' hg' _ hl
      simp only [Nat.zero_add, List.nil_append] at ho' ⊢
      exact h g cap w' ho' hg' hl
end Go.Proofs.YtaodckojinbdfaaGreatDoor

namespace Go.Proofs.YtaodckojinbdfaaGreatDoor
open Go

section
variable {P : Program} {ops : Array Oper} {Q : Exit → Act → World → Prop} {md : Region.Mode} {T U : World → Prop} {j0 : Nat}

/-- Whatever order is picked: T holds behind each operation, and U as long as number j0 has not come up. -/
def AnyG (P : Program) (md : Region.Mode) (ops : Array Oper) (Q : Exit → Act → World → Prop) (T U : World → Prop) (j0 : Nat) : Nat → Array Bool → Act → World → Prop
  | 0, l, a, w => Region.ready md ops l = [] ∧ Q .normal a w
  | n + 1, l, a, w => (Region.ready md ops l = [] → Q .normal a w) ∧
    ∀ i ∈ Region.ready md ops l, wpOp P ops Q i (fun a' w' => (T w' ∧ ((l.setIfInBounds i true).getD j0 true = false → U w')) ∧ AnyG P md ops Q T U j0 n (l.setIfInBounds i true) a' w') a w

theorem AnyG.any : ∀ (n : Nat) (l : Array Bool) (a : Act) (w : World), AnyG P md ops Q T U j0 n l a w → wpAny P md ops Q n l a w
  | 0, _, _, _, h => h
  | n + 1, _, _, _, h => ⟨h.1, fun i hi => wpOp_mono (fun a' w' k => AnyG.any n _ a' w' k.2) (h.2 i hi)⟩

theorem AnyG.start {id : Nat} {a : Act} {w : World} (hm : P.follows .mixedOrders = true)
    (h : AnyG P .any ops Q T U j0 ops.size (Array.replicate ops.size false) a w.drew) : (Code.region id ops true).wp P Q a w :=
  wp_region_any hm (AnyG.any _ _ _ _ h)

/-- What may come up and yields in each world in which it can come up may be taken first. -/
theorem AnyG.first {i : Nat} {oi : Oper} {v : Value} {J : Array Bool → Prop} {V : World → Prop} (hi : ops[i]? = some oi) (hne : i ≠ j0)
    (hsel : ∀ (j : Nat) (o : Oper) cs b, ops[j]? = some o → o.op ≠ .select cs b) (hQ : ∀ c a w, Q (.panic c) (a.put oi.dst v) w → Q (.panic c) a w)
    (hJ : ∀ l j, J l → l.getD i true = false → j ∈ Region.ready md ops l → j ≠ i → J (l.setIfInBounds j true))
    (hV : ∀ l w, J l → T w → (l.getD j0 true = false → U w) → V w) :
    ∀ (n : Nat) (l : Array Bool) (a : Act) (w : World),
      (∀ j oj, ops[j]? = some oj → j ≠ i → l.getD j true = false → (∀ e ∈ oj.after, Region.binds md e = true → e.on ≠ i) → oi.apart ops oj = true) →
      i ∈ Region.ready md ops l → YieldsIf P ops V oi v a → J l → T w → (l.getD j0 true = false → U w) →
      AnyG P md ops Q T U j0 n (l.setIfInBounds i true) (a.put oi.dst v) w → AnyG P md ops Q T U j0 (n + 1) l a w := by
  intro n
  induction n with
  | zero =>
    intro l a w _ hr hy hj hT hU H
    refine ⟨fun h => absurd hr (by rw [h]; exact List.not_mem_nil), fun j hj' => ?_⟩
    by_cases c : j = i
    · subst c
      exact hy.wpOp hi (hV l w hj hT hU) ⟨⟨hT, fun h => hU (by rw [getD_set_ne true hne] at h; exact h)⟩, H⟩
    · have h1 := ready_mono hj' c
      rw [H.1] at h1
      cases h1
  | succ n ih =>
    intro l a w hf hr hy hj hT hU H
    refine ⟨fun h => absurd hr (by rw [h]; exact List.not_mem_nil), fun j hj' => ?_⟩
    by_cases c : j = i
    · subst c
      exact hy.wpOp hi (hV l w hj hT hU) ⟨⟨hT, fun h => hU (by rw [getD_set_ne true hne] at h; exact h)⟩, H⟩
    · have hun : l.getD i true = false := (mem_ready.1 hr).1
      have hj2 := hJ l j hj hun hj' c
      obtain ⟨hjl, oj, hoj, hall⟩ := mem_ready.1 hj'
      have hno : ∀ e ∈ oj.after, Region.binds md e = true → e.on ≠ i := fun e he hb hon => by
        have h1 := hall e he hb
        rw [hon] at h1
        rcases Nat.lt_or_ge i l.size with h' | h'
        · simp [h'] at h1 hun; rw [hun] at h1; cases h1
        · simp [Array.getElem?_eq_none h'] at h1
      have h2 := wpOp_putIf hoj (hf j oj hoj c hjl hno) (fun cs b => hsel i oi cs b hi) (fun cs b => hsel j oj cs b hoj) hQ hy (H.2 j (ready_mono hj' c))
      refine wpOp_mono (fun a' w' k => ?_) h2
      obtain ⟨k1, ⟨k2, k3⟩, k4⟩ := k
      have hU' : (l.setIfInBounds j true).getD j0 true = false → U w' := fun h => k3 (by
        rw [Array.setIfInBounds_comm _ _ (Ne.symm c), getD_set_ne true hne]; exact h)
      refine ⟨⟨k2, hU'⟩, ih (l.setIfInBounds j true) a' w' ?_ (ready_mono hr (Ne.symm c)) k1 hj2 k2 hU' (by rw [Array.setIfInBounds_comm _ _ c]; exact k4)⟩
      intro q oq hq hqi hql hqn
      refine hf q oq hq hqi ?_ hqn
      by_cases e : j = q
      · rw [← e]; exact hjl
      · rw [getD_set_ne true e] at hql; exact hql

/-- What yields in every world that meets T is taken first. -/
theorem AnyG.take {i : Nat} {oi : Oper} {v : Value} {n : Nat} {l : Array Bool} {a : Act} {w : World} (hi : ops[i]? = some oi)
    (hs : Region.noSelect ops = true) (hf : Region.free md ops l i = true) (hr : (Region.ready md ops l).contains i = true) (hne : i ≠ j0)
    (hQ : ∀ c a w, Q (.panic c) (a.put oi.dst v) w → Q (.panic c) a w) (hy : YieldsIf P ops T oi v a) (hT : T w ∧ (l.getD j0 true = false → U w))
    (h : AnyG P md ops Q T U j0 n (l.setIfInBounds i true) (a.put oi.dst v) w) : AnyG P md ops Q T U j0 (n + 1) l a w :=
  AnyG.first (J := fun _ => True) (V := T) hi hne (Region.noSelect_spec hs) hQ (fun _ _ _ _ _ _ => trivial) (fun _ _ _ h _ => h) n l a w (Region.free_spec hi hf) (by simpa using hr) hy trivial hT.1 hT.2 h

/-- Does number j wait for number i? -/
def waits (md : Region.Mode) (ops : Array Oper) (j i : Nat) : Bool := match ops[j]? with
  | some o => o.after.any (fun e => Region.binds md e && e.on == i)
  | none => false

/-- What yields in every world that meets T and U, and is waited for by number j0, is taken first. -/
theorem AnyG.early {i : Nat} {oi : Oper} {v : Value} {n : Nat} {l : Array Bool} {a : Act} {w : World} (hi : ops[i]? = some oi)
    (hs : Region.noSelect ops = true) (hf : Region.free md ops l i = true) (hr : (Region.ready md ops l).contains i = true) (hne : i ≠ j0) (hw : waits md ops j0 i = true) (hl : l.getD j0 true = false)
    (hQ : ∀ c a w, Q (.panic c) (a.put oi.dst v) w → Q (.panic c) a w) (hy : YieldsIf P ops (fun w => T w ∧ U w) oi v a) (hT : T w ∧ (l.getD j0 true = false → U w))
    (h : AnyG P md ops Q T U j0 n (l.setIfInBounds i true) (a.put oi.dst v) w) : AnyG P md ops Q T U j0 (n + 1) l a w := by
  refine AnyG.first (J := fun l => l.getD j0 true = false) (V := fun w => T w ∧ U w) hi hne (Region.noSelect_spec hs) hQ (fun l j hj hun hj' _ => ?_) (fun l w hj hT hU => ⟨hT, hU hj⟩) n l a w (Region.free_spec hi hf) (by simpa using hr) hy hl hT.1 hT.2 h
  by_cases e : j = j0
  · subst e
    obtain ⟨_, oj, hoj, hall⟩ := mem_ready.1 hj'
    unfold waits at hw
    rw [hoj] at hw
    obtain ⟨e, he, hb⟩ := Array.any_eq_true'.1 hw
    simp only [Bool.and_eq_true, beq_iff_eq] at hb
    have h1 := hall e he hb.1
    rw [hb.2] at h1
    rcases Nat.lt_or_ge i l.size with h' | h'
    · simp [h'] at h1 hun; rw [hun] at h1; cases h1
    · simp [Array.getElem?_eq_none h'] at h1
  · rw [getD_set_ne true e]; exact hj

theorem put_at {a : Act} {x : Option Tmp} {d : Tmp} (h : x = some d) (v : Value) : a.put x v = ⟨a.tmps.setIfInBounds d v, a.defers⟩ := by subst h; rfl
/-- The two, with the place of the value told. -/
theorem AnyG.takeAt (i d : Nat) {oi : Oper} {v : Value} {n : Nat} {l : Array Bool} {a : Act} {w : World} (hi : ops[i]? = some oi) (hd : oi.dst = some d)
    (hs : Region.noSelect ops = true) (hf : Region.free md ops l i = true) (hr : (Region.ready md ops l).contains i = true) (hne : i ≠ j0)
    (hQ : ∀ c a w, Q (.panic c) (a.put oi.dst v) w → Q (.panic c) a w) (hT : T w ∧ (l.getD j0 true = false → U w)) (hw : Region.wanted oi (yielded ops a.tmps) = true)
    (hy : ∀ w, T w → (execOp a.eval oi).run P w = .ok (.value v) w)
    (h : AnyG P md ops Q T U j0 n (l.setIfInBounds i true) ⟨a.tmps.setIfInBounds d v, a.defers⟩ w) : AnyG P md ops Q T U j0 (n + 1) l a w :=
  AnyG.take hi hs hf hr hne hQ (.inl ⟨hw, hy⟩) hT (by rw [put_at hd]; exact h)
theorem AnyG.earlyAt (i d : Nat) {oi : Oper} {v : Value} {n : Nat} {l : Array Bool} {a : Act} {w : World} (hi : ops[i]? = some oi) (hd : oi.dst = some d)
    (hs : Region.noSelect ops = true) (hf : Region.free md ops l i = true) (hr : (Region.ready md ops l).contains i = true) (hne : i ≠ j0) (hwt : waits md ops j0 i = true) (hl : l.getD j0 true = false)
    (hQ : ∀ c a w, Q (.panic c) (a.put oi.dst v) w → Q (.panic c) a w) (hT : T w ∧ (l.getD j0 true = false → U w)) (hw : Region.wanted oi (yielded ops a.tmps) = true)
    (hy : ∀ w, T w ∧ U w → (execOp a.eval oi).run P w = .ok (.value v) w)
    (h : AnyG P md ops Q T U j0 n (l.setIfInBounds i true) ⟨a.tmps.setIfInBounds d v, a.defers⟩ w) : AnyG P md ops Q T U j0 (n + 1) l a w :=
  AnyG.early hi hs hf hr hne hwt hl hQ (.inl ⟨hw, hy⟩) hT (by rw [put_at hd]; exact h)

theorem AnyG.putAt {n : Nat} {l : Array Bool} {a : Act} {w : World} {x : Option Tmp} {v : Value} (d : Nat) (hd : x = some d)
    (h : AnyG P md ops Q T U j0 n l ⟨a.tmps.setIfInBounds d v, a.defers⟩ w) : AnyG P md ops Q T U j0 n l (a.put x v) w := by rw [put_at hd]; exact h

/-- One after another of those that may come up. -/
def AllG (P : Program) (md : Region.Mode) (ops : Array Oper) (Q : Exit → Act → World → Prop) (T U : World → Prop) (j0 n : Nat) (l : Array Bool) (a : Act) (w : World) (rs : List Nat) : Prop :=
  ∀ i ∈ rs, wpOp P ops Q i (fun a' w' => (T w' ∧ ((l.setIfInBounds i true).getD j0 true = false → U w')) ∧ AnyG P md ops Q T U j0 n (l.setIfInBounds i true) a' w') a w
theorem AllG.nil {n : Nat} {l : Array Bool} {a : Act} {w : World} : AllG P md ops Q T U j0 n l a w [] := fun _ h => by cases h
theorem AllG.cons {n : Nat} {l : Array Bool} {a : Act} {w : World} {i : Nat} {o : Oper} {rs : List Nat} (ho : ops[i]? = some o)
    (h : ∀ K' : Act → World → Prop, Shut (∀ a w, (T w ∧ ((l.setIfInBounds i true).getD j0 true = false → U w)) → AnyG P md ops Q T U j0 n (l.setIfInBounds i true) a w → K' a w) → if Region.wanted o (yielded ops a.tmps) = true then Oper.wp P o a w K' Q else K' (a.put o.dst undef) w)
    (hs : AllG P md ops Q T U j0 n l a w rs) : AllG P md ops Q T U j0 n l a w (i :: rs) := fun j hj => by
  rcases List.mem_cons.1 hj with rfl | hj
  · exact wpOp_step ho (fun K' hK => h K' (fun a w h1 h2 => hK a w ⟨h1, h2⟩))
  · exact hs j hj
theorem AnyG.ready {rs : List Nat} {n : Nat} {l : Array Bool} {a : Act} {w : World} (hr : Region.ready md ops l = rs) (hne : rs ≠ [])
    (h : AllG P md ops Q T U j0 n l a w rs) : AnyG P md ops Q T U j0 (n + 1) l a w := ⟨fun h0 => absurd (hr ▸ h0) hne, hr ▸ h⟩
theorem AnyG.done {l : Array Bool} {a : Act} {w : World} (hr : Region.ready md ops l = []) (h : Q .normal a w) : ∀ n, AnyG P md ops Q T U j0 n l a w
  | 0 => ⟨hr, h⟩
  | _ + 1 => ⟨fun _ => h, by rw [hr]; intro i hi; cases hi⟩
end
end Go.Proofs.YtaodckojinbdfaaGreatDoor

namespace Go.Proofs.YtaodckojinbdfaaGreatDoor
open Go

theorem scCs_ones : ∀ (ss : List Sc) (V : List Value), (∀ v ∈ V, v.oneCell' = true) → ∀ u ∈ scCs ss V, u.oneCell' = true
  | [], _, _, u, hu => by simp [scCs] at hu
  | s :: l, [], _, u, hu => by simp [scCs] at hu
  | s :: l, v :: V, h, u, hu => by
    simp only [scCs, List.mem_append] at hu
    rcases hu with hu | hu
    · simp only [scC, List.mem_cons, List.not_mem_nil, or_false] at hu
      rcases hu with rfl | rfl | rfl | rfl | rfl
      · rfl
      · rfl
      · rfl
      · rfl
      · exact h _ List.mem_cons_self
    · exact scCs_ones l V (fun v hv => h v (List.mem_cons_of_mem _ hv)) u hu
theorem ScOwn.ones {B : Nat} {w : World} {v : Value} {ss : List Sc} {V : List Value} (h : ScOwn B w v ss V) : ∀ u ∈ scCs ss V, u.oneCell' = true := by
  refine scCs_ones ss V fun v hv => ?_
  obtain ⟨k, hk, rfl⟩ := List.getElem_of_mem hv
  obtain ⟨cs, ho, _⟩ := h.rls k (by rw [← h.len]; exact hk) hk
  obtain ⟨a, c, e⟩ := own_form ho
  rw [e]
  rfl

/-- One more schema, laid into the box. -/
theorem Bx.sc {B : Nat} {w w8 : World} {C : Cf} {vL vS v' : Value} {V : List Value} {s : Sc} (h : Bx B w w8 C vL vS V) (hs : s.rules = [])
    (hown : w8.ownsRow B 42 5 v' (C.schemas.length + 1) (scCs C.schemas V ++ scC s (.slice none 0 0))) :
    Bx B w (w8.setCell ⟨w.heap.size, 5, none⟩ v') ⟨C.total, C.period, C.perSeat, C.most, C.levels, C.schemas ++ [s]⟩ vL v' (V ++ [.slice none 0 0]) := by
  have k9 : Kept (fun k => k = w.heap.size) w8 (w8.setCell ⟨w.heap.size, 5, none⟩ v') := (Kept.refl (fun k => k = w.heap.size) w8).setCell ⟨w.heap.size, 5, none⟩ v' (.inl rfl)
  have hS := h.s
  refine ⟨h.bel.trans (k9.below h.bel.size (fun j hj => by omega)), h.c.set 5 _, h.r.kept k9 (by omega), h.l.off k9 (off_blk h.c (by decide)), ⟨?_, ?_, ?_⟩⟩
  · simp [hS.len]
  · dsimp only
    rw [scCs_append _ _ _ _ hS.len, List.length_append]
    exact owns_off hown k9 (off_blk h.c (by decide))
  · intro i hi hi'
    by_cases c : i < C.schemas.length
    · have cV : i < V.length := by rw [hS.len]; exact c
      dsimp only
      rw [List.getElem_append_left c, List.getElem_append_left cV]
      exact (hS.rls i c cV).off k9 (off_blk h.c (by decide)) (off_blk h.c (by decide))
    · obtain rfl : i = C.schemas.length := by simp at hi; omega
      have e1 : (C.schemas ++ [s])[C.schemas.length] = s := by simp
      have e2 : (V ++ [(.slice none 0 0 : Value)])[C.schemas.length]'hi' = .slice none 0 0 := by
        rw [List.getElem_append_right (by rw [hS.len]; exact Nat.le_refl _)]
        simp
      dsimp only
      rw [e1, e2, hs]
      exact ⟨[], World.ownsRow_nil _ _ _ _, rfl⟩
end Go.Proofs.YtaodckojinbdfaaGreatDoor

namespace Go.Proofs.YtaodckojinbdfaaGreatDoor
open Go

theorem lvC_ones (l : Lv) : ∀ u ∈ lvC l, u.oneCell' = true := by
  intro u hu
  simp only [lvC, List.mem_cons, List.not_mem_nil, or_false] at hu
  rcases hu with rfl | rfl | rfl | rfl | rfl | rfl | rfl | rfl | rfl | rfl <;> rfl
theorem lvCs_ones : ∀ (L : List Lv), ∀ u ∈ lvCs L, u.oneCell' = true
  | [], u, hu => by simp [lvCs] at hu
  | l :: r, u, hu => by
    simp only [lvCs, List.mem_append] at hu
    rcases hu with hu | hu
    · exact lvC_ones l u hu
    · exact lvCs_ones r u hu

/-- One more level, laid into the box. -/
theorem Bx.lv {B : Nat} {w w8 : World} {C : Cf} {vL vS v' : Value} {V : List Value} {l : Lv} (h : Bx B w w8 C vL vS V)
    (hown : w8.ownsRow B 39 10 v' (C.levels.length + 1) (lvCs C.levels ++ lvC l)) :
    Bx B w (w8.setCell ⟨w.heap.size, 4, none⟩ v') ⟨C.total, C.period, C.perSeat, C.most, C.levels ++ [l], C.schemas⟩ v' vS V := by
  have k9 : Kept (fun k => k = w.heap.size) w8 (w8.setCell ⟨w.heap.size, 4, none⟩ v') := (Kept.refl (fun k => k = w.heap.size) w8).setCell ⟨w.heap.size, 4, none⟩ v' (.inl rfl)
  refine ⟨h.bel.trans (k9.below h.bel.size (fun j hj => by omega)), h.c.set 4 _, h.r.kept k9 (by omega), ?_, h.s.off k9 (off_blk h.c (by decide)) (off_blk h.c (by decide)) (off_blk h.c (by decide))⟩
  have e : lvCs (C.levels ++ [l]) = lvCs C.levels ++ lvC l := by rw [lvCs_append]; simp [lvCs]
  unfold LvOwn
  dsimp only
  rw [e, List.length_append]
  exact owns_off hown k9 (off_blk h.c (by decide))

theorem hasLv_yes {C : Cf} {x : ByteArray} {j : Nat} (h : j < C.levels.length) (e : C.levels[j].name = x) : hasLv C x = true :=
  List.any_eq_true.2 ⟨C.levels[j], List.getElem_mem h, by simp [e]⟩
theorem hasLv_no {C : Cf} {x : ByteArray} (h : ∀ q (h : q < C.levels.length), C.levels[q].name ≠ x) : hasLv C x = false := by
  cases hb : hasLv C x with
  | false => rfl
  | true =>
    obtain ⟨s, hs, e⟩ := List.any_eq_true.1 hb
    obtain ⟨q, hq, rfl⟩ := List.getElem_of_mem hs
    exact absurd (of_decide_eq_true e) (h q hq)
end Go.Proofs.YtaodckojinbdfaaGreatDoor

namespace Go.Proofs.YtaodckojinbdfaaGreatDoor
open Go

/-- The schemas in another row, laid into the box. -/
theorem Bx.swap {B : Nat} {w w8 : World} {C : Cf} {vL vS v' : Value} {V : List Value} (h : Bx B w w8 C vL vS V) (hown : w8.ownsRow B 42 5 v' C.schemas.length (scCs C.schemas V)) :
    Bx B w (w8.setCell ⟨w.heap.size, 5, none⟩ v') C vL v' V := by
  have k9 : Kept (fun k => k = w.heap.size) w8 (w8.setCell ⟨w.heap.size, 5, none⟩ v') := (Kept.refl (fun k => k = w.heap.size) w8).setCell ⟨w.heap.size, 5, none⟩ v' (.inl rfl)
  exact ⟨h.bel.trans (k9.below h.bel.size (fun j hj => by omega)), h.c.set 5 _, h.r.kept k9 (by omega), h.l.off k9 (off_blk h.c (by decide)),
    (ScOwn.mk h.s.len hown h.s.rls).off k9 (off_blk h.c (by decide)) (off_blk h.c (by decide)) (off_blk h.c (by decide))⟩
end Go.Proofs.YtaodckojinbdfaaGreatDoor

namespace Go.Proofs.YtaodckojinbdfaaGreatDoor
open Go.RowKit Go.Lib

/-- A configuration's shape. -/
def Six (v : Value) : Prop := ∃ (x0 x1 x2 x3 : Int) (a1 : Option Addr) (n1 c1 : Nat) (a2 : Option Addr) (n2 c2 : Nat), v = .agg #[.int .i64 x0, .int .i64 x1, .int .i64 x2, .int .i64 x3, .slice a1 n1 c1, .slice a2 n2 c2]
theorem CfV.six {B : Nat} {w : World} {v : Value} {C : Cf} (h : CfV B w v C) : Six v := by
  obtain ⟨vL, vS, V, rfl, hL, hS⟩ := h
  obtain ⟨a1, c1, rfl⟩ := own_form hL
  obtain ⟨a2, c2, rfl⟩ := own_form hS.own
  exact ⟨_, _, _, _, _, _, _, _, _, _, rfl⟩

/-- The answer's cells, once they are written. -/
theorem Bx.sets {B : Nat} {w wr : World} {C : Cf} {vL vS : Value} {V : List Value} (h : Bx B w wr C vL vS V) (v0 v1 v2 v3 v4 v5 : Value) :
    Blk ((((((wr.setCell ⟨w.heap.size + 1, 0, none⟩ v0).setCell ⟨w.heap.size + 1, 1, none⟩ v1).setCell ⟨w.heap.size + 1, 2, none⟩ v2).setCell ⟨w.heap.size + 1, 3, none⟩ v3).setCell ⟨w.heap.size + 1, 4, none⟩ v4).setCell ⟨w.heap.size + 1, 5, none⟩ v5) (w.heap.size + 1) 26 #[v0, v1, v2, v3, v4, v5]
    ∧ Below w.heap.size w ((((((wr.setCell ⟨w.heap.size + 1, 0, none⟩ v0).setCell ⟨w.heap.size + 1, 1, none⟩ v1).setCell ⟨w.heap.size + 1, 2, none⟩ v2).setCell ⟨w.heap.size + 1, 3, none⟩ v3).setCell ⟨w.heap.size + 1, 4, none⟩ v4).setCell ⟨w.heap.size + 1, 5, none⟩ v5)
    ∧ Kept (fun k => k = w.heap.size + 1) wr ((((((wr.setCell ⟨w.heap.size + 1, 0, none⟩ v0).setCell ⟨w.heap.size + 1, 1, none⟩ v1).setCell ⟨w.heap.size + 1, 2, none⟩ v2).setCell ⟨w.heap.size + 1, 3, none⟩ v3).setCell ⟨w.heap.size + 1, 4, none⟩ v4).setCell ⟨w.heap.size + 1, 5, none⟩ v5) := by
  have k : Kept (fun k => k = w.heap.size + 1) wr ((((((wr.setCell ⟨w.heap.size + 1, 0, none⟩ v0).setCell ⟨w.heap.size + 1, 1, none⟩ v1).setCell ⟨w.heap.size + 1, 2, none⟩ v2).setCell ⟨w.heap.size + 1, 3, none⟩ v3).setCell ⟨w.heap.size + 1, 4, none⟩ v4).setCell ⟨w.heap.size + 1, 5, none⟩ v5) := ((((((Kept.refl (fun k => k = w.heap.size + 1) wr).setCell ⟨w.heap.size + 1, 0, none⟩ v0 (.inl rfl)).setCell ⟨w.heap.size + 1, 1, none⟩ v1 (.inl rfl)).setCell ⟨w.heap.size + 1, 2, none⟩ v2 (.inl rfl)).setCell ⟨w.heap.size + 1, 3, none⟩ v3 (.inl rfl)).setCell ⟨w.heap.size + 1, 4, none⟩ v4 (.inl rfl)).setCell ⟨w.heap.size + 1, 5, none⟩ v5 (.inl rfl)
  exact ⟨(((((h.r.set 0 v0).set 1 v1).set 2 v2).set 3 v3).set 4 v4).set 5 v5, h.bel.trans (k.below h.bel.size (fun j hj => by omega)), k⟩

theorem Bx.reads {B : Nat} {w wr : World} {C : Cf} {vL vS : Value} {V : List Value} (h : Bx B w wr C vL vS V) :
    wr.cell? ⟨w.heap.size, 0, none⟩ = some (.int .i64 C.total) ∧ wr.cell? ⟨w.heap.size, 1, none⟩ = some (.int .i64 C.period) ∧ wr.cell? ⟨w.heap.size, 2, none⟩ = some (.int .i64 C.perSeat) ∧ wr.cell? ⟨w.heap.size, 3, none⟩ = some (.int .i64 C.most) ∧ wr.cell? ⟨w.heap.size, 4, none⟩ = some vL ∧ wr.cell? ⟨w.heap.size, 5, none⟩ = some vS :=
  ⟨h.c.cellv 0 rfl, h.c.cellv 1 rfl, h.c.cellv 2 rfl, h.c.cellv 3 rfl, h.c.cellv 4 rfl, h.c.cellv 5 rfl⟩
theorem Bx.room {B : Nat} {w wr : World} {C : Cf} {vL vS : Value} {V : List Value} (h : Bx B w wr C vL vS V) :
    wr.cell? ⟨w.heap.size + 1, 0, none⟩ = some (.int .i64 0) ∧ wr.cell? ⟨w.heap.size + 1, 1, none⟩ = some (.int .i64 0) ∧ wr.cell? ⟨w.heap.size + 1, 2, none⟩ = some (.int .i64 0) ∧ wr.cell? ⟨w.heap.size + 1, 3, none⟩ = some (.int .i64 0) ∧ wr.cell? ⟨w.heap.size + 1, 4, none⟩ = some (.slice none 0 0) ∧ wr.cell? ⟨w.heap.size + 1, 5, none⟩ = some (.slice none 0 0)
    ∧ wr.frozen? ⟨w.heap.size + 1, 0, none⟩ = false ∧ wr.frozen? ⟨w.heap.size + 1, 1, none⟩ = false ∧ wr.frozen? ⟨w.heap.size + 1, 2, none⟩ = false ∧ wr.frozen? ⟨w.heap.size + 1, 3, none⟩ = false ∧ wr.frozen? ⟨w.heap.size + 1, 4, none⟩ = false ∧ wr.frozen? ⟨w.heap.size + 1, 5, none⟩ = false :=
  ⟨h.r.cellv 0 rfl, h.r.cellv 1 rfl, h.r.cellv 2 rfl, h.r.cellv 3 rfl, h.r.cellv 4 rfl, h.r.cellv 5 rfl, h.r.frozen 0, h.r.frozen 1, h.r.frozen 2, h.r.frozen 3, h.r.frozen 4, h.r.frozen 5⟩

theorem blk_two (w : World) (cs : Array Value) : Blk ((w.alloc (.cells cs 26)).alloc (.cells cs 26)) (w.heap.size + 1) 26 cs := by
  have := Blk.new (w.alloc (.cells cs 26)) 26 cs
  simpa using this

end Go.Proofs.YtaodckojinbdfaaGreatDoor

namespace Go.Proofs.YtaodckojinbdfaaGreatDoor
open Go.RowKit Go.Lib

theorem lit_is {x : ByteArray} {l : List UInt8} (h : x = mk l) : (x.toList == l) = true := by
  rw [ByteArray.toList_eq, h, mk_list]; simp
theorem lit_isnt {x : ByteArray} {l : List UInt8} (h : x ≠ mk l) : (x.toList == l) = false := by
  have := str_ne h
  rw [ByteArray.toList_eq (mk l), mk_list] at this
  exact this
/-- A level's cells. -/
def lvA (l : Lv) : Array Value := #[.string l.name, .int .i64 l.kind, .int .i64 l.shares, .int .i64 l.lend, .int .i64 l.borrow, .int .i64 l.queues, .int .i64 l.hand, .int .i64 l.length, .int .i64 l.wait, .int .i64 l.guess]
def lv0 (k : Int) : Lv := ⟨⟨#[]⟩, k, 0, 0, 0, 0, 0, 0, 0, 0⟩
/-- The box, the answer, and the level behind them. -/
structure Lx (B : Nat) (w wr : World) (C : Cf) (vL vS : Value) (V : List Value) (l : Lv) : Prop where
  x : Bx B w wr C vL vS V
  q : Blk wr (w.heap.size + 1 + 1) 39 (lvA l)
  lo : ∀ g, vL.ownBlock = some g → g < w.heap.size
theorem Lx.start {B : Nat} {w : World} {C : Cf} {vL vS : Value} {V : List Value} (hL : LvOwn B w vL C.levels) (hS : ScOwn B w vS C.schemas V) :
    Lx B w (((w.alloc (.cells #[.int .i64 C.total, .int .i64 C.period, .int .i64 C.perSeat, .int .i64 C.most, vL, vS] 26)).alloc (.cells #[.int .i64 0, .int .i64 0, .int .i64 0, .int .i64 0, .slice none 0 0, .slice none 0 0] 26)).alloc (.cells (lvA (lv0 0)) 39)) C vL vS V (lv0 0) := by
  have h := Bx.start (w := w) hL hS
  refine ⟨h.grown ((Below.refl _ _).alloc (Nat.le_refl _) _), ?_, fun g hg => (World.ownsRow.lt hL g hg).2⟩
  have := Blk.new ((w.alloc (.cells #[.int .i64 C.total, .int .i64 C.period, .int .i64 C.perSeat, .int .i64 C.most, vL, vS] 26)).alloc (.cells #[.int .i64 0, .int .i64 0, .int .i64 0, .int .i64 0, .slice none 0 0, .slice none 0 0] 26)) 39 (lvA (lv0 0))
  simpa using this
theorem Lx.grown {B : Nat} {w wr w' : World} {C : Cf} {vL vS : Value} {V : List Value} {l : Lv} (h : Lx B w wr C vL vS V l) (b : Below wr.heap.size wr w') : Lx B w w' C vL vS V l :=
  ⟨h.x.grown b, h.q.kept (Kept.of_below b (fun _ => False)) id, h.lo⟩
/-- A cell of the level is written. -/
theorem Lx.set {B : Nat} {w wr : World} {C : Cf} {vL vS : Value} {V : List Value} {l : Lv} (h : Lx B w wr C vL vS V l) (i : Nat) (v : Value) (l' : Lv) (e : (lvA l).setIfInBounds i v = lvA l') : Lx B w (wr.setCell ⟨w.heap.size + 1 + 1, i, none⟩ v) C vL vS V l' := by
  have k : Kept (fun k => k = w.heap.size + 1 + 1) wr (wr.setCell ⟨w.heap.size + 1 + 1, i, none⟩ v) := (Kept.refl (fun k => k = w.heap.size + 1 + 1) wr).setCell ⟨w.heap.size + 1 + 1, i, none⟩ v (.inl rfl)
  refine ⟨⟨h.x.bel.trans (k.below h.x.bel.size (fun j hj => by omega)), h.x.c.kept k (by omega), h.x.r.kept k (by omega), owns_kept h.x.l k (fun g hg => by have := h.lo g hg; omega), h.x.s.off k (off_blk h.q (by decide)) (off_blk h.q (by decide)) (off_blk h.q (by decide))⟩, ?_, h.lo⟩
  rw [← e]
  exact h.q.set i v

/-! ### five numbers -/
def mo5 : Nat → Int
  | 0 => 64
  | 1 => 8
  | 2 => 64
  | 3 => 1000
  | _ => 1000
def nv (ws : List ByteArray) (n k : Nat) : Value := .int .i64 (if k < n then numOf (gt ws (5 + k)) 1 (mo5 k) else 0)
def nvA (ws : List ByteArray) (n : Nat) : Array Value := #[nv ws n 0, nv ws n 1, nv ws n 2, nv ws n 3, nv ws n 4]
theorem nvA_set (ws : List ByteArray) (n : Nat) (h : n < 5) : (nvA ws n).setIfInBounds n (.int .i64 (numOf (gt ws (5 + n)) 1 (mo5 n))) = nvA ws (n + 1) := by
  match n, h with
  | 0, _ => simp [nvA, nv]
  | 1, _ => simp [nvA, nv]
  | 2, _ => simp [nvA, nv]
  | 3, _ => simp [nvA, nv]
  | 4, _ => simp [nvA, nv]
theorem nvA_at (ws : List ByteArray) (n : Nat) (h : n < 5) : (nvA ws n)[n]? = some (.int .i64 0) := by
  match n, h with
  | 0, _ => simp [nvA, nv]
  | 1, _ => simp [nvA, nv]
  | 2, _ => simp [nvA, nv]
  | 3, _ => simp [nvA, nv]
  | 4, _ => simp [nvA, nv]
def moA : Array Value := #[.int .i64 64, .int .i64 8, .int .i64 64, .int .i64 1000, .int .i64 1000]
theorem moA_at (n : Nat) (h : n < 5) : moA[n]? = some (.int .i64 (mo5 n)) := by
  match n, h with
  | 0, _ => rfl
  | 1, _ => rfl
  | 2, _ => rfl
  | 3, _ => rfl
  | 4, _ => rfl
theorem queue_bad {ws : List ByteArray} {k : Nat} (hk : k < 5) (h : numIn (gt ws (5 + k)) 1 (mo5 k) = false) : queueE ws 0 = 8 := by
  have key : ∀ (e x : Int) (b : Bool), (e = 0 ∨ e = 8) → (mu e (ifE b 8) = 0 ∨ mu e (ifE b 8) = 8) ∧ (e = 8 → mu e (ifE b 8) = 8) ∧ (b = false → mu e (ifE b 8) = 8) := by
    intro e x b he
    rcases he with rfl | rfl <;> cases b <;> simp [mu, ifE]
  unfold queueE
  have k1 := key 0 0 (numIn (gt ws 5) 1 64) (.inl rfl)
  have k2 := key _ 0 (numIn (gt ws 6) 1 8) k1.1
  have k3 := key _ 0 (numIn (gt ws 7) 1 64) k2.1
  have k4 := key _ 0 (numIn (gt ws 8) 1 1000) k3.1
  have k5 := key _ 0 (numIn (gt ws 9) 1 1000) k4.1
  match k, hk, h with
  | 0, _, h => exact k5.2.1 (k4.2.1 (k3.2.1 (k2.2.1 (k1.2.2 h))))
  | 1, _, h => exact k5.2.1 (k4.2.1 (k3.2.1 (k2.2.2 h)))
  | 2, _, h => exact k5.2.1 (k4.2.1 (k3.2.2 h))
  | 3, _, h => exact k5.2.1 (k4.2.2 h)
  | 4, _, h => exact k5.2.2 h
/-- .. with the two arrays of five. -/
structure L5 (B : Nat) (w wr : World) (C : Cf) (vL vS : Value) (V : List Value) (l : Lv) (g : Nat) (ws : List ByteArray) (k : Nat) : Prop where
  lx : Lx B w wr C vL vS V l
  a1 : Blk wr g 102 (nvA ws k)
  a2 : Blk wr (g + 1) 102 moA
  le : w.heap.size ≤ g
  ok : ∀ j, j < k → numIn (gt ws (5 + j)) 1 (mo5 j) = true
theorem L5.grown {B : Nat} {w wr w' : World} {C : Cf} {vL vS : Value} {V : List Value} {l : Lv} {g : Nat} {ws : List ByteArray} {k : Nat} (h : L5 B w wr C vL vS V l g ws k) (b : Below wr.heap.size wr w') : L5 B w w' C vL vS V l g ws k :=
  ⟨h.lx.grown b, h.a1.kept (Kept.of_below b (fun _ => False)) id, h.a2.kept (Kept.of_below b (fun _ => False)) id, h.le, h.ok⟩
theorem Lx.far {B : Nat} {w wr : World} {C : Cf} {vL vS : Value} {V : List Value} {l : Lv} (h : Lx B w wr C vL vS V l) {g : Nat} {cs : Array Value} (hg : Blk wr g 102 cs) (hw : w.heap.size ≤ g) (i : Nat) (v : Value) : Lx B w (wr.setCell ⟨g, i, none⟩ v) C vL vS V l := by
  have k : Kept (fun k => k = g) wr (wr.setCell ⟨g, i, none⟩ v) := (Kept.refl (fun k => k = g) wr).setCell ⟨g, i, none⟩ v (.inl rfl)
  have o : ∀ t, 102 ≠ t → Off t (fun k => k = g) wr := fun t ht => off_blk hg ht
  exact ⟨⟨h.x.bel.trans (k.below h.x.bel.size (fun j hj => by omega)), h.x.c.off k (o 26 (by decide)), h.x.r.off k (o 26 (by decide)), h.x.l.off k (o 39 (by decide)), h.x.s.off k (o 9 (by decide)) (o 42 (by decide)) (o 73 (by decide))⟩, h.q.off k (o 39 (by decide)), h.lo⟩
theorem L5.next {B : Nat} {w wr : World} {C : Cf} {vL vS : Value} {V : List Value} {l : Lv} {g : Nat} {ws : List ByteArray} {k : Nat} (h : L5 B w wr C vL vS V l g ws k) (hk : k < 5) (hn : numIn (gt ws (5 + k)) 1 (mo5 k) = true) :
    L5 B w (wr.setCell ⟨g, k, none⟩ (.int .i64 (numOf (gt ws (5 + k)) 1 (mo5 k)))) C vL vS V l g ws (k + 1) := by
  refine ⟨h.lx.far h.a1 h.le _ _, ?_, h.a2.other (by show g + 1 ≠ g; omega) _, h.le, fun j hj => ?_⟩
  · rw [← nvA_set ws k hk]
    exact h.a1.set k _
  · rcases Nat.lt_or_eq_of_le (Nat.le_of_lt_succ hj) with h' | h'
    · exact h.ok j h'
    · subst h'; exact hn
theorem Lx.five {B : Nat} {w wr : World} {C : Cf} {vL vS : Value} {V : List Value} {l : Lv} (h : Lx B w wr C vL vS V l) (ws : List ByteArray) :
    L5 B w ((wr.alloc (.cells #[.int .i64 0, .int .i64 0, .int .i64 0, .int .i64 0, .int .i64 0] 102)).alloc (.cells #[.int .i64 64, .int .i64 8, .int .i64 64, .int .i64 1000, .int .i64 1000] 102)) C vL vS V l wr.heap.size ws 0 := by
  have b1 : Below wr.heap.size wr (wr.alloc (.cells #[.int .i64 0, .int .i64 0, .int .i64 0, .int .i64 0, .int .i64 0] 102)) := (Below.refl _ _).alloc (Nat.le_refl _) _
  have b2 : Below (wr.alloc (.cells #[.int .i64 0, .int .i64 0, .int .i64 0, .int .i64 0, .int .i64 0] 102)).heap.size (wr.alloc (.cells #[.int .i64 0, .int .i64 0, .int .i64 0, .int .i64 0, .int .i64 0] 102)) ((wr.alloc (.cells #[.int .i64 0, .int .i64 0, .int .i64 0, .int .i64 0, .int .i64 0] 102)).alloc (.cells moA 102)) := (Below.refl _ _).alloc (Nat.le_refl _) _
  have n1 := (Blk.new wr 102 #[.int .i64 0, .int .i64 0, .int .i64 0, .int .i64 0, .int .i64 0]).kept (Kept.of_below b2 (fun _ => False)) id
  have n2 := Blk.new (wr.alloc (.cells #[.int .i64 0, .int .i64 0, .int .i64 0, .int .i64 0, .int .i64 0] 102)) 102 moA
  have e2 : (wr.alloc (.cells #[.int .i64 0, .int .i64 0, .int .i64 0, .int .i64 0, .int .i64 0] 102)).heap.size = wr.heap.size + 1 := by simp
  rw [e2] at n2
  exact ⟨(h.grown b1).grown b2, n1, n2, h.x.bel.size, fun j hj => absurd hj (Nat.not_lt_zero _)⟩
theorem level_queue {ws : List ByteArray} (k : kindW ws = 3) (hn : isName (gt ws 0) = true) (h1 : numIn (gt ws 1) 0 10000 = true) (h2 : numIn (gt ws 2) 0 100 = true) (h3 : borrowOk (gt ws 3) = true) : levelW ws = queueE ws 0 := by
  unfold levelW numsE
  rw [k, hn, h1, h2, h3]
  rfl
end Go.Proofs.YtaodckojinbdfaaGreatDoor
