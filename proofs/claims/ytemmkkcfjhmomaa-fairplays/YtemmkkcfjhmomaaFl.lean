/-
  Which lane of a hand is chosen, by the reference. Conditions: the lanes and the hand lie in memory, and are few.
-/
import Derived.Test.YtemmkkcfjhmomaaFk
namespace Go.Proofs.Ytemmkkcfjhmomaa
open Go.RowKit

set_option maxRecDepth 20000 in
set_option maxHeartbeats 2000000 in
theorem rchoose_ok (r g nn o : Int) (a : Option Addr) (c : Nat) (F : List Ln) (ah : Option Addr) (nh ch : Nat) (H0 : Nat → Int) (w : World) (h : LsR w a c F) (hf : Few F) (hh : HnR w ah nh H0) (hnh : nh ≤ 1000) :
    Calls Try.prog 22 #[.agg #[.int .u64 r, .int .i64 g, .int .i64 nn, .int .i64 o, .slice a F.length c], .slice ah nh ch] w fun e w' => e = .returned (.int .i64 (chF F o H0 nh)) ∧ Below w.heap.size w w' := by
  obtain ⟨w1, hw1⟩ : ∃ w1, w1 = w.alloc (.cells #[.int .u64 r, .int .i64 g, .int .i64 nn, .int .i64 o, .slice a F.length c] 25) := ⟨_, rfl⟩
  have B : Below w.heap.size w w1 := by rw [hw1]; exact alloc_below _ _
  have N1 : Blk w1 w.heap.size 25 (faA r g nn o (.slice a F.length c)) := by rw [hw1]; exact Blk.new _ _ _
  have HF : Hd (Few F) := ⟨hf⟩
  have hl := hf.len
  obtain ⟨n, hn⟩ : ∃ n, F.length = n := ⟨_, rfl⟩
  have HL : Hd (F.length = n) := ⟨hn⟩
  have H : Hd (LsR w1 a c F ∧ Below w.heap.size w w1 ∧ Blk w1 w.heap.size 25 (faA r g nn o (.slice a n c))) := ⟨h.carry B, B, by rw [← hn]; exact N1⟩
  rw [hn] at hl hw1
  clear B N1 h hf
  obtain ⟨⟨c0, c1, c2, c3, c4⟩, -⟩ := H.out.2.2.fair
  have HH : Hd (HnR w1 ah nh H0) := ⟨hh.carry H.out.2.1⟩
  have HX0 : Hd (∀ b, IsC F o H0 0 nh b → b = chF F o H0 nh) := ⟨fun b hb => hb.uniq (chF_is F o H0 nh)⟩
  rw [hn]
  clear hn hh
  go_enter Try.func22, Try.ntmps22
  go_upto_region 1 with fail
  rw [← hw1]
  clear hw1
  obtain ⟨A, hA⟩ : ∃ A, A = w.heap.size := ⟨_, rfl⟩
  have HA : Hd (A = w.heap.size) := ⟨hA⟩
  rw [← hA] at H c0 c1 c2 c3 c4 ⊢
  clear hA
  have hs1 : A ≤ w1.heap.size := by rw [HA.out]; exact H.out.2.1.size
  go_wp2
  clear c0 c1 c2 c3 c4
  go_loopw [5, 6] (fun v5 i wr => ∃ (q : Nat) (b : Int), q ≤ nh ∧ i = .int .i64 ((q : Int) - 1) ∧ v5 = .int .i64 b ∧ Hd (IsC F o H0 q nh b) ∧ Below w1.heap.size w1 wr) (fun _ i _ => (intOf i + 1).toNat)
  case atStart => exact ⟨nh, -1, Nat.le_refl _, rfl, rfl, ⟨.inl ⟨rfl, fun q h1 h2 => absurd h2 (by omega)⟩⟩, Below.refl _ _⟩
  case round =>
    obtain ⟨q, b, hq, rfl, rfl, HI, p3⟩ := hrel
    by_cases hq0 : q = 0
    · subst hq0
      have HX : Hd (b = chF F o H0 nh) := ⟨HX0.out b HI.out⟩
      clear HI
      go_wp2
      go_ret
      exact ⟨by rw [← HX.out]; rfl, by rw [← HA.out]; exact H.out.2.1.trans (p3.mono hs1)⟩
    · obtain ⟨j, rfl⟩ : ∃ j, q = j + 1 := ⟨q - 1, by omega⟩
      rw [show ((j + 1 : Nat) : Int) - 1 = j by omega]
      have hjn : j < nh := by omega
      obtain ⟨bh, oh, rfl, hbh, hch⟩ := (HH.out.carry p3) (by omega)
      have hck := hch j hjn
      have NA := H.out.2.2.kept (Kept.of_below p3 (fun _ => False)) id
      have BD : Hd (Below wr.heap.size wr wr.drew) := ⟨(Below.refl _ _).drew⟩
      have P : Hd (Below w1.heap.size w1 wr) := ⟨p3⟩
      have SR : Hd (LsR wr a c F) := ⟨H.out.1.carry p3⟩
      have X3 : Hd (∀ Y, Below wr.drew.heap.size wr.drew Y → Y.cell? ⟨A, 3, none⟩ = some (.int .i64 o)) := ⟨fun Y q => (NA.kept (Kept.of_below (BD.out.trans q) (fun _ => False)) id).cellv 3 rfl⟩
      have X4 : Hd (∀ Y, Below wr.drew.heap.size wr.drew Y → Y.cell? ⟨A, 4, none⟩ = some (.slice a n c)) := ⟨fun Y q => (NA.kept (Kept.of_below (BD.out.trans q) (fun _ => False)) id).cellv 4 rfl⟩
      have HBK := HI.out.back hjn
      have hbv : b = -1 ∨ Vld F o b := HI.out.rng
      rw [show Vld F o b = (0 ≤ b ∧ b < o ∧ b < (F.length : Int)) from rfl, HL.out] at hbv
      have HV : Hd (Vld F o (H0 j) ↔ 0 ≤ H0 j ∧ H0 j < o ∧ H0 j < (n : Int)) := ⟨by unfold Vld; rw [HL.out]⟩
      obtain ⟨i, hi⟩ : ∃ i, i = H0 j := ⟨_, rfl⟩
      rw [← hi] at hck HV HBK
      clear p3 NA hch hi hbh HI
      by_cases e1 : 0 ≤ i
      · by_cases e2 : i < o
        · by_cases e3 : i < (n : Int)
          · have hv := HV.out.2 ⟨e1, e2, e3⟩
            obtain ⟨p, rfl⟩ : ∃ p : Nat, i = p := ⟨i.toNat, by omega⟩
            have hpn : p < n := by omega
            obtain ⟨b1, o1, a1, c1, rfl, hb1, d0, d1, s1⟩ := SR.out.at (k := p) (by rw [HL.out]; exact hpn)
            have HK := HF.out.at p
            have XD : Hd (∀ Y, Below wr.drew.heap.size wr.drew Y → Y.cell? ⟨b1, o1 + p * 2, none⟩ = some (.int .u64 (gl F p).s) ∧ Y.cell? ⟨b1, o1 + p * 2 + 1, none⟩ = some (.slice a1 (gl F p).L.length c1)) := ⟨fun Y q => by
              have K : Kept (fun _ => False) wr Y := Kept.of_below (BD.out.trans q) _
              exact ⟨(World.cell?_of_block (K.block b1 hb1 id)).trans d0, (World.cell?_of_block (K.block b1 hb1 id)).trans d1⟩⟩
            have CD : Hd (∀ Y, Below wr.drew.heap.size wr.drew Y → Calls Try.prog 47 #[.agg #[.int .u64 (gl F p).s, .slice a1 (gl F p).L.length c1]] Y fun e w' => e = .returned (.int .i64 (sW (gl F p))) ∧ Below Y.heap.size Y w') := ⟨fun Y q => rseats_ok (gl F p).s a1 c1 (gl F p).L Y (s1.carry (BD.out.trans q)).2.2 (by omega)⟩
            have l3 := sW_lo (gl F p)
            have l4 := sW_hi HK.2
            rw [Int.toNat_natCast] at HBK
            by_cases e4 : b < 0
            · rw [if_pos ⟨hv, .inl e4⟩] at HBK
              have HX : Hd (IsC F o H0 j nh p) := ⟨HBK⟩
              clear HBK HV hv s1 SR HK hb1 d0 d1 hbv
              generalize sW (gl F p) = xs at *
              generalize (gl F p).L.length = m at *
              generalize (gl F p).s = z at *
              go_upto_region 6 with fail
              refine AnyG.start (T := fun Y => Below wr.drew.heap.size wr.drew Y) (U := fun _ => True) (j0 := 100) (by kernel_rfl) ?_
              generalize wr.drew = w3 at *
              have R : Below w3.heap.size w3 w3 := Below.refl _ _
              refine .tq 0 19 R ?_; simp only [oqA, oqB, oqC]
              refine .tq (v := .bool true) 1 20 R ?_ (hy := fun w hSw => by go_simp); simp only [oqA, oqB, oqC]
              refine .tq 2 21 R ?_; simp only [oqA, oqB, oqC]
              refine .tq 3 22 R ?_; simp only [oqA, oqB, oqC]
              refine .tq 4 23 R ?_; simp only [oqA, oqB, oqC]
              refine .tq 5 24 R ?_ (hy := fun w hSw => by have s := X3.out w hSw; go_simp; rfl); simp only [oqA, oqB, oqC]
              refine .tq (v := .bool true) 6 25 R ?_ (hy := fun w hSw => by go_simp); simp only [oqA, oqB, oqC]
              refine .tq (v := .bool true) 7 26 R ?_ (hy := fun w hSw => by go_simp); simp only [oqA, oqB, oqC]
              refine .tq 8 27 R ?_; simp only [oqA, oqB, oqC]
              refine .tq 9 28 R ?_; simp only [oqA, oqB, oqC]
              refine .tq 10 29 R ?_; simp only [oqA, oqB, oqC]
              refine .tq 11 30 R ?_ (hy := fun w hSw => by have s := X4.out w hSw; go_simp; rfl); simp only [oqA, oqB, oqC]
              refine .tq 12 31 R ?_; simp only [oqA, oqB, oqC]
              refine .tq (v := .bool true) 13 32 R ?_ (hy := fun w hSw => by go_simp); simp only [oqA, oqB, oqC]
              refine .tq (v := .bool true) 14 33 R ?_ (hy := fun w hSw => by go_simp); simp only [oqA, oqB, oqC]
              refine .tq 15 34 R ?_; simp only [oqA, oqB, oqC]
              refine .tq 16 35 R ?_; simp only [oqA, oqB, oqC]
              refine .tq (v := .bool true) 17 36 R ?_ (hy := fun w hSw => by go_simp); simp only [oqA, oqB, oqC]
              refine .tq 18 37 R ?_; simp only [oqA, oqB, oqC]
              refine .sq 19 38 R ?_; simp only [oqA, oqB, oqC]
              refine .sq 20 39 R ?_; simp only [oqA, oqB, oqC]
              refine .sq 21 40 R ?_; simp only [oqA, oqB, oqC]
              refine .sq 22 41 R ?_; simp only [oqA, oqB, oqC]
              refine .sq 23 42 R ?_; simp only [oqA, oqB, oqC]
              refine .sq 24 43 R ?_; simp only [oqA, oqB, oqC]
              refine .sq 25 44 R ?_; simp only [oqA, oqB, oqC]
              refine .sq 26 45 R ?_; simp only [oqA, oqB, oqC]
              refine .sq 27 46 R ?_; simp only [oqA, oqB, oqC]
              refine .sq 28 47 R ?_; simp only [oqA, oqB, oqC]
              refine .sq 29 48 R ?_; simp only [oqA, oqB, oqC]
              refine .sq 30 49 R ?_; simp only [oqA, oqB, oqC]
              refine .sq 31 50 R ?_; simp only [oqA, oqB, oqC]
              refine .tq 32 51 R ?_; simp only [oqA, oqB, oqC]
              refine .tq (v := .bool true) 33 52 R ?_ (hy := fun w hSw => by go_simp); simp only [oqA, oqB, oqC]
              refine AnyG.done (by kernel_rfl) ?_ _
              clear R X3 X4 XD CD
              go_wp2
              go_roundw
              case rel => exact ⟨j, p, by omega, by go_num, rfl, HX, P.out.trans (BD.out.mono P.out.size)⟩
              case measure => simp [intOf]
            · obtain ⟨u, rfl⟩ : ∃ u : Nat, b = u := ⟨b.toNat, by omega⟩
              have hun : u < n := by omega
              obtain ⟨b2, o2, a2, c2, e9, hb2, f0, f1, s2⟩ := SR.out.at (k := u) (by rw [HL.out]; exact hun)
              obtain ⟨rfl, rfl⟩ : b1 = b2 ∧ o1 = o2 := by injection e9 with e9; injection e9 with y1 y2; exact ⟨y1, y2⟩
              have HU := HF.out.at u
              have XE : Hd (∀ Y, Below wr.drew.heap.size wr.drew Y → Y.cell? ⟨b1, o1 + u * 2, none⟩ = some (.int .u64 (gl F u).s) ∧ Y.cell? ⟨b1, o1 + u * 2 + 1, none⟩ = some (.slice a2 (gl F u).L.length c2)) := ⟨fun Y q => by
                have K : Kept (fun _ => False) wr Y := Kept.of_below (BD.out.trans q) _
                exact ⟨(World.cell?_of_block (K.block b1 hb1 id)).trans f0, (World.cell?_of_block (K.block b1 hb1 id)).trans f1⟩⟩
              have CE : Hd (∀ Y, Below wr.drew.heap.size wr.drew Y → Calls Try.prog 47 #[.agg #[.int .u64 (gl F u).s, .slice a2 (gl F u).L.length c2]] Y fun e w' => e = .returned (.int .i64 (sW (gl F u))) ∧ Below Y.heap.size Y w') := ⟨fun Y q => rseats_ok (gl F u).s a2 c2 (gl F u).L Y (s2.carry (BD.out.trans q)).2.2 (by omega)⟩
              rw [Int.toNat_natCast] at HBK
              by_cases e5 : sW (gl F p) ≤ sW (gl F u)
              · rw [if_pos ⟨hv, .inr e5⟩] at HBK
                have HX : Hd (IsC F o H0 j nh p) := ⟨HBK⟩
                clear HBK HV hv s1 s2 SR HK HU hb1 hb2 d0 d1 f0 f1 hbv e9
                generalize sW (gl F p) = xs at *
                generalize sW (gl F u) = xu at *
                generalize (gl F p).L.length = m at *
                generalize (gl F p).s = z at *
                generalize (gl F u).L.length = m2 at *
                generalize (gl F u).s = z2 at *
                go_upto_region 6 with fail
                refine AnyG.start (T := fun Y => Below wr.drew.heap.size wr.drew Y) (U := fun _ => True) (j0 := 100) (by kernel_rfl) ?_
                generalize wr.drew = w3 at *
                have R : Below w3.heap.size w3 w3 := Below.refl _ _
                refine .tq 0 19 R ?_; simp only [oqA, oqB, oqC]
                refine .tq (v := .bool true) 1 20 R ?_ (hy := fun w hSw => by go_simp); simp only [oqA, oqB, oqC]
                refine .tq 2 21 R ?_; simp only [oqA, oqB, oqC]
                refine .tq 3 22 R ?_; simp only [oqA, oqB, oqC]
                refine .tq 4 23 R ?_; simp only [oqA, oqB, oqC]
                refine .tq 5 24 R ?_ (hy := fun w hSw => by have s := X3.out w hSw; go_simp; rfl); simp only [oqA, oqB, oqC]
                refine .tq (v := .bool true) 6 25 R ?_ (hy := fun w hSw => by go_simp); simp only [oqA, oqB, oqC]
                refine .tq (v := .bool true) 7 26 R ?_ (hy := fun w hSw => by go_simp); simp only [oqA, oqB, oqC]
                refine .tq 8 27 R ?_; simp only [oqA, oqB, oqC]
                refine .tq 9 28 R ?_; simp only [oqA, oqB, oqC]
                refine .tq 10 29 R ?_; simp only [oqA, oqB, oqC]
                refine .tq 11 30 R ?_ (hy := fun w hSw => by have s := X4.out w hSw; go_simp; rfl); simp only [oqA, oqB, oqC]
                refine .tq 12 31 R ?_; simp only [oqA, oqB, oqC]
                refine .tq (v := .bool true) 13 32 R ?_ (hy := fun w hSw => by go_simp); simp only [oqA, oqB, oqC]
                refine .tq (v := .bool true) 14 33 R ?_ (hy := fun w hSw => by go_simp); simp only [oqA, oqB, oqC]
                refine .tq 15 34 R ?_; simp only [oqA, oqB, oqC]
                refine .tq 16 35 R ?_; simp only [oqA, oqB, oqC]
                refine .tq (v := .bool false) 17 36 R ?_ (hy := fun w hSw => by go_simp); simp only [oqA, oqB, oqC]
                refine .tq 18 37 R ?_; simp only [oqA, oqB, oqC]
                refine .tq 19 38 R ?_; simp only [oqA, oqB, oqC]
                refine .tq 20 39 R ?_ (hy := fun w hSw => by have s := X4.out w hSw; go_simp; rfl); simp only [oqA, oqB, oqC]
                refine .tq 21 40 R ?_; simp only [oqA, oqB, oqC]
                refine .tq 22 41 R ?_; simp only [oqA, oqB, oqC]
                refine .tq 23 42 R ?_ (hy := fun w hSw => by have s := XD.out w hSw; go_simp; rfl); simp only [oqA, oqB, oqC]
                refine .tq 25 44 R ?_; simp only [oqA, oqB, oqC]
                refine .tq 26 45 R ?_ (hy := fun w hSw => by have s := X4.out w hSw; go_simp; rfl); simp only [oqA, oqB, oqC]
                refine .tq 27 46 R ?_; simp only [oqA, oqB, oqC]
                refine .tq 28 47 R ?_; simp only [oqA, oqB, oqC]
                refine .tq 29 48 R ?_ (hy := fun w hSw => by have s := XE.out w hSw; go_simp; rfl); simp only [oqA, oqB, oqC]
                have SD := CD.out w3 R
                refine AnyG.ready (rs := [24]) (by kernel_rfl) (by simp) ?_
                refine AllG.cons rfl (fun K hK => ?_) AllG.nil
                go_simp
                refine SD.mono ?_
                rintro e w4 ⟨rfl, b4⟩
                refine hK.out _ _ ⟨b4, fun _ => trivial⟩ ?_
                clear hK K SD
                have SE := CE.out w4 b4
                refine AnyG.ready (rs := [30]) (by kernel_rfl) (by simp) ?_
                refine AllG.cons rfl (fun K hK => ?_) AllG.nil
                go_simp
                refine SE.mono ?_
                rintro e w5 ⟨rfl, b5⟩
                have b35 := b4.trans (b5.mono b4.size)
                refine hK.out _ _ ⟨b35, fun _ => trivial⟩ ?_
                clear hK K SE
                refine .tq (v := .bool true) 31 50 b35 ?_ (hy := fun w hSw => by go_simp); simp only [oqA, oqB, oqC]
                refine .tq 32 51 b35 ?_; simp only [oqA, oqB, oqC]
                refine .tq (v := .bool true) 33 52 b35 ?_ (hy := fun w hSw => by go_simp); simp only [oqA, oqB, oqC]
                refine AnyG.done (by kernel_rfl) ?_ _
                clear R X3 X4 XD XE CD CE
                go_wp2
                go_roundw
                case rel => exact ⟨j, p, by omega, by go_num, rfl, HX, P.out.trans ((BD.out.trans (b35.mono BD.out.size)).mono P.out.size)⟩
                case measure => simp [intOf]
              · rw [if_neg (fun h => by rcases h.2 with h | h; exact e4 h; exact e5 h)] at HBK
                have HX : Hd (IsC F o H0 j nh u) := ⟨HBK⟩
                clear HBK HV hv s1 s2 SR HK HU hb1 hb2 d0 d1 f0 f1 hbv e9
                generalize sW (gl F p) = xs at *
                generalize sW (gl F u) = xu at *
                generalize (gl F p).L.length = m at *
                generalize (gl F p).s = z at *
                generalize (gl F u).L.length = m2 at *
                generalize (gl F u).s = z2 at *
                go_upto_region 6 with fail
                refine AnyG.start (T := fun Y => Below wr.drew.heap.size wr.drew Y) (U := fun _ => True) (j0 := 100) (by kernel_rfl) ?_
                generalize wr.drew = w3 at *
                have R : Below w3.heap.size w3 w3 := Below.refl _ _
                refine .tq 0 19 R ?_; simp only [oqA, oqB, oqC]
                refine .tq (v := .bool true) 1 20 R ?_ (hy := fun w hSw => by go_simp); simp only [oqA, oqB, oqC]
                refine .tq 2 21 R ?_; simp only [oqA, oqB, oqC]
                refine .tq 3 22 R ?_; simp only [oqA, oqB, oqC]
                refine .tq 4 23 R ?_; simp only [oqA, oqB, oqC]
                refine .tq 5 24 R ?_ (hy := fun w hSw => by have s := X3.out w hSw; go_simp; rfl); simp only [oqA, oqB, oqC]
                refine .tq (v := .bool true) 6 25 R ?_ (hy := fun w hSw => by go_simp); simp only [oqA, oqB, oqC]
                refine .tq (v := .bool true) 7 26 R ?_ (hy := fun w hSw => by go_simp); simp only [oqA, oqB, oqC]
                refine .tq 8 27 R ?_; simp only [oqA, oqB, oqC]
                refine .tq 9 28 R ?_; simp only [oqA, oqB, oqC]
                refine .tq 10 29 R ?_; simp only [oqA, oqB, oqC]
                refine .tq 11 30 R ?_ (hy := fun w hSw => by have s := X4.out w hSw; go_simp; rfl); simp only [oqA, oqB, oqC]
                refine .tq 12 31 R ?_; simp only [oqA, oqB, oqC]
                refine .tq (v := .bool true) 13 32 R ?_ (hy := fun w hSw => by go_simp); simp only [oqA, oqB, oqC]
                refine .tq (v := .bool true) 14 33 R ?_ (hy := fun w hSw => by go_simp); simp only [oqA, oqB, oqC]
                refine .tq 15 34 R ?_; simp only [oqA, oqB, oqC]
                refine .tq 16 35 R ?_; simp only [oqA, oqB, oqC]
                refine .tq (v := .bool false) 17 36 R ?_ (hy := fun w hSw => by go_simp); simp only [oqA, oqB, oqC]
                refine .tq 18 37 R ?_; simp only [oqA, oqB, oqC]
                refine .tq 19 38 R ?_; simp only [oqA, oqB, oqC]
                refine .tq 20 39 R ?_ (hy := fun w hSw => by have s := X4.out w hSw; go_simp; rfl); simp only [oqA, oqB, oqC]
                refine .tq 21 40 R ?_; simp only [oqA, oqB, oqC]
                refine .tq 22 41 R ?_; simp only [oqA, oqB, oqC]
                refine .tq 23 42 R ?_ (hy := fun w hSw => by have s := XD.out w hSw; go_simp; rfl); simp only [oqA, oqB, oqC]
                refine .tq 25 44 R ?_; simp only [oqA, oqB, oqC]
                refine .tq 26 45 R ?_ (hy := fun w hSw => by have s := X4.out w hSw; go_simp; rfl); simp only [oqA, oqB, oqC]
                refine .tq 27 46 R ?_; simp only [oqA, oqB, oqC]
                refine .tq 28 47 R ?_; simp only [oqA, oqB, oqC]
                refine .tq 29 48 R ?_ (hy := fun w hSw => by have s := XE.out w hSw; go_simp; rfl); simp only [oqA, oqB, oqC]
                have SD := CD.out w3 R
                refine AnyG.ready (rs := [24]) (by kernel_rfl) (by simp) ?_
                refine AllG.cons rfl (fun K hK => ?_) AllG.nil
                go_simp
                refine SD.mono ?_
                rintro e w4 ⟨rfl, b4⟩
                refine hK.out _ _ ⟨b4, fun _ => trivial⟩ ?_
                clear hK K SD
                have SE := CE.out w4 b4
                refine AnyG.ready (rs := [30]) (by kernel_rfl) (by simp) ?_
                refine AllG.cons rfl (fun K hK => ?_) AllG.nil
                go_simp
                refine SE.mono ?_
                rintro e w5 ⟨rfl, b5⟩
                have b35 := b4.trans (b5.mono b4.size)
                refine hK.out _ _ ⟨b35, fun _ => trivial⟩ ?_
                clear hK K SE
                refine .tq (v := .bool false) 31 50 b35 ?_ (hy := fun w hSw => by go_simp); simp only [oqA, oqB, oqC]
                refine .tq 32 51 b35 ?_; simp only [oqA, oqB, oqC]
                refine .tq (v := .bool false) 33 52 b35 ?_ (hy := fun w hSw => by go_simp); simp only [oqA, oqB, oqC]
                refine AnyG.done (by kernel_rfl) ?_ _
                clear R X3 X4 XD XE CD CE
                go_wp2
                go_roundw
                case rel => exact ⟨j, u, by omega, by go_num, rfl, HX, P.out.trans ((BD.out.trans (b35.mono BD.out.size)).mono P.out.size)⟩
                case measure => simp [intOf]
          · rw [if_neg (fun h => e3 (HV.out.1 h.1).2.2)] at HBK
            have HX : Hd (IsC F o H0 j nh b) := ⟨HBK⟩
            clear HBK HV SR hbv
            go_upto_region 6 with fail
            refine AnyG.start (T := fun Y => Below wr.drew.heap.size wr.drew Y) (U := fun _ => True) (j0 := 100) (by kernel_rfl) ?_
            generalize wr.drew = w3 at *
            have R : Below w3.heap.size w3 w3 := Below.refl _ _
            refine .tq 0 19 R ?_; simp only [oqA, oqB, oqC]
            refine .tq (v := .bool true) 1 20 R ?_ (hy := fun w hSw => by go_simp); simp only [oqA, oqB, oqC]
            refine .tq 2 21 R ?_; simp only [oqA, oqB, oqC]
            refine .tq 3 22 R ?_; simp only [oqA, oqB, oqC]
            refine .tq 4 23 R ?_; simp only [oqA, oqB, oqC]
            refine .tq 5 24 R ?_ (hy := fun w hSw => by have s := X3.out w hSw; go_simp; rfl); simp only [oqA, oqB, oqC]
            refine .tq (v := .bool true) 6 25 R ?_ (hy := fun w hSw => by go_simp); simp only [oqA, oqB, oqC]
            refine .tq (v := .bool true) 7 26 R ?_ (hy := fun w hSw => by go_simp); simp only [oqA, oqB, oqC]
            refine .tq 8 27 R ?_; simp only [oqA, oqB, oqC]
            refine .tq 9 28 R ?_; simp only [oqA, oqB, oqC]
            refine .tq 10 29 R ?_; simp only [oqA, oqB, oqC]
            refine .tq 11 30 R ?_ (hy := fun w hSw => by have s := X4.out w hSw; go_simp; rfl); simp only [oqA, oqB, oqC]
            refine .tq 12 31 R ?_; simp only [oqA, oqB, oqC]
            refine .tq (v := .bool false) 13 32 R ?_ (hy := fun w hSw => by go_simp); simp only [oqA, oqB, oqC]
            refine .tq (v := .bool false) 14 33 R ?_ (hy := fun w hSw => by go_simp); simp only [oqA, oqB, oqC]
            refine .tq 15 34 R ?_; simp only [oqA, oqB, oqC]
            refine .sq 16 35 R ?_; simp only [oqA, oqB, oqC]
            refine .sq 17 36 R ?_; simp only [oqA, oqB, oqC]
            refine .sq 18 37 R ?_; simp only [oqA, oqB, oqC]
            refine .sq 19 38 R ?_; simp only [oqA, oqB, oqC]
            refine .sq 20 39 R ?_; simp only [oqA, oqB, oqC]
            refine .sq 21 40 R ?_; simp only [oqA, oqB, oqC]
            refine .sq 22 41 R ?_; simp only [oqA, oqB, oqC]
            refine .sq 23 42 R ?_; simp only [oqA, oqB, oqC]
            refine .sq 24 43 R ?_; simp only [oqA, oqB, oqC]
            refine .sq 25 44 R ?_; simp only [oqA, oqB, oqC]
            refine .sq 26 45 R ?_; simp only [oqA, oqB, oqC]
            refine .sq 27 46 R ?_; simp only [oqA, oqB, oqC]
            refine .sq 28 47 R ?_; simp only [oqA, oqB, oqC]
            refine .sq 29 48 R ?_; simp only [oqA, oqB, oqC]
            refine .sq 30 49 R ?_; simp only [oqA, oqB, oqC]
            refine .sq 31 50 R ?_; simp only [oqA, oqB, oqC]
            refine .sq 32 51 R ?_; simp only [oqA, oqB, oqC]
            refine .tq (v := .bool false) 33 52 R ?_ (hy := fun w hSw => by go_simp); simp only [oqA, oqB, oqC]
            refine AnyG.done (by kernel_rfl) ?_ _
            clear R X3 X4
            go_wp2
            go_roundw
            case rel => exact ⟨j, b, by omega, by go_num, rfl, HX, P.out.trans (BD.out.mono P.out.size)⟩
            case measure => simp [intOf]
        · rw [if_neg (fun h => e2 (HV.out.1 h.1).2.1)] at HBK
          have HX : Hd (IsC F o H0 j nh b) := ⟨HBK⟩
          clear HBK HV SR hbv
          go_upto_region 6 with fail
          refine AnyG.start (T := fun Y => Below wr.drew.heap.size wr.drew Y) (U := fun _ => True) (j0 := 100) (by kernel_rfl) ?_
          generalize wr.drew = w3 at *
          have R : Below w3.heap.size w3 w3 := Below.refl _ _
          refine .tq 0 19 R ?_; simp only [oqA, oqB, oqC]
          refine .tq (v := .bool true) 1 20 R ?_ (hy := fun w hSw => by go_simp); simp only [oqA, oqB, oqC]
          refine .tq 2 21 R ?_; simp only [oqA, oqB, oqC]
          refine .tq 3 22 R ?_; simp only [oqA, oqB, oqC]
          refine .tq 4 23 R ?_; simp only [oqA, oqB, oqC]
          refine .tq 5 24 R ?_ (hy := fun w hSw => by have s := X3.out w hSw; go_simp; rfl); simp only [oqA, oqB, oqC]
          refine .tq (v := .bool false) 6 25 R ?_ (hy := fun w hSw => by go_simp); simp only [oqA, oqB, oqC]
          refine .tq (v := .bool false) 7 26 R ?_ (hy := fun w hSw => by go_simp); simp only [oqA, oqB, oqC]
          refine .tq 8 27 R ?_; simp only [oqA, oqB, oqC]
          refine .sq 9 28 R ?_; simp only [oqA, oqB, oqC]
          refine .sq 10 29 R ?_; simp only [oqA, oqB, oqC]
          refine .sq 11 30 R ?_; simp only [oqA, oqB, oqC]
          refine .sq 12 31 R ?_; simp only [oqA, oqB, oqC]
          refine .sq 13 32 R ?_; simp only [oqA, oqB, oqC]
          refine .tq (v := .bool false) 14 33 R ?_ (hy := fun w hSw => by go_simp); simp only [oqA, oqB, oqC]
          refine .tq 15 34 R ?_; simp only [oqA, oqB, oqC]
          refine .sq 16 35 R ?_; simp only [oqA, oqB, oqC]
          refine .sq 17 36 R ?_; simp only [oqA, oqB, oqC]
          refine .sq 18 37 R ?_; simp only [oqA, oqB, oqC]
          refine .sq 19 38 R ?_; simp only [oqA, oqB, oqC]
          refine .sq 20 39 R ?_; simp only [oqA, oqB, oqC]
          refine .sq 21 40 R ?_; simp only [oqA, oqB, oqC]
          refine .sq 22 41 R ?_; simp only [oqA, oqB, oqC]
          refine .sq 23 42 R ?_; simp only [oqA, oqB, oqC]
          refine .sq 24 43 R ?_; simp only [oqA, oqB, oqC]
          refine .sq 25 44 R ?_; simp only [oqA, oqB, oqC]
          refine .sq 26 45 R ?_; simp only [oqA, oqB, oqC]
          refine .sq 27 46 R ?_; simp only [oqA, oqB, oqC]
          refine .sq 28 47 R ?_; simp only [oqA, oqB, oqC]
          refine .sq 29 48 R ?_; simp only [oqA, oqB, oqC]
          refine .sq 30 49 R ?_; simp only [oqA, oqB, oqC]
          refine .sq 31 50 R ?_; simp only [oqA, oqB, oqC]
          refine .sq 32 51 R ?_; simp only [oqA, oqB, oqC]
          refine .tq (v := .bool false) 33 52 R ?_ (hy := fun w hSw => by go_simp); simp only [oqA, oqB, oqC]
          refine AnyG.done (by kernel_rfl) ?_ _
          clear R X3 X4
          go_wp2
          go_roundw
          case rel => exact ⟨j, b, by omega, by go_num, rfl, HX, P.out.trans (BD.out.mono P.out.size)⟩
          case measure => simp [intOf]
      · rw [if_neg (fun h => e1 (HV.out.1 h.1).1)] at HBK
        have HX : Hd (IsC F o H0 j nh b) := ⟨HBK⟩
        clear HBK HV SR hbv
        go_upto_region 6 with fail
        refine AnyG.start (T := fun Y => Below wr.drew.heap.size wr.drew Y) (U := fun _ => True) (j0 := 100) (by kernel_rfl) ?_
        generalize wr.drew = w3 at *
        have R : Below w3.heap.size w3 w3 := Below.refl _ _
        refine .tq 0 19 R ?_; simp only [oqA, oqB, oqC]
        refine .tq (v := .bool false) 1 20 R ?_ (hy := fun w hSw => by go_simp); simp only [oqA, oqB, oqC]
        refine .tq 2 21 R ?_; simp only [oqA, oqB, oqC]
        refine .sq 3 22 R ?_; simp only [oqA, oqB, oqC]
        refine .sq 4 23 R ?_; simp only [oqA, oqB, oqC]
        refine .sq 5 24 R ?_; simp only [oqA, oqB, oqC]
        refine .sq 6 25 R ?_; simp only [oqA, oqB, oqC]
        refine .tq (v := .bool false) 7 26 R ?_ (hy := fun w hSw => by go_simp); simp only [oqA, oqB, oqC]
        refine .tq 8 27 R ?_; simp only [oqA, oqB, oqC]
        refine .sq 9 28 R ?_; simp only [oqA, oqB, oqC]
        refine .sq 10 29 R ?_; simp only [oqA, oqB, oqC]
        refine .sq 11 30 R ?_; simp only [oqA, oqB, oqC]
        refine .sq 12 31 R ?_; simp only [oqA, oqB, oqC]
        refine .sq 13 32 R ?_; simp only [oqA, oqB, oqC]
        refine .tq (v := .bool false) 14 33 R ?_ (hy := fun w hSw => by go_simp); simp only [oqA, oqB, oqC]
        refine .tq 15 34 R ?_; simp only [oqA, oqB, oqC]
        refine .sq 16 35 R ?_; simp only [oqA, oqB, oqC]
        refine .sq 17 36 R ?_; simp only [oqA, oqB, oqC]
        refine .sq 18 37 R ?_; simp only [oqA, oqB, oqC]
        refine .sq 19 38 R ?_; simp only [oqA, oqB, oqC]
        refine .sq 20 39 R ?_; simp only [oqA, oqB, oqC]
        refine .sq 21 40 R ?_; simp only [oqA, oqB, oqC]
        refine .sq 22 41 R ?_; simp only [oqA, oqB, oqC]
        refine .sq 23 42 R ?_; simp only [oqA, oqB, oqC]
        refine .sq 24 43 R ?_; simp only [oqA, oqB, oqC]
        refine .sq 25 44 R ?_; simp only [oqA, oqB, oqC]
        refine .sq 26 45 R ?_; simp only [oqA, oqB, oqC]
        refine .sq 27 46 R ?_; simp only [oqA, oqB, oqC]
        refine .sq 28 47 R ?_; simp only [oqA, oqB, oqC]
        refine .sq 29 48 R ?_; simp only [oqA, oqB, oqC]
        refine .sq 30 49 R ?_; simp only [oqA, oqB, oqC]
        refine .sq 31 50 R ?_; simp only [oqA, oqB, oqC]
        refine .sq 32 51 R ?_; simp only [oqA, oqB, oqC]
        refine .tq (v := .bool false) 33 52 R ?_ (hy := fun w hSw => by go_simp); simp only [oqA, oqB, oqC]
        refine AnyG.done (by kernel_rfl) ?_ _
        clear R X3 X4
        go_wp2
        go_roundw
        case rel => exact ⟨j, b, by omega, by go_num, rfl, HX, P.out.trans (BD.out.mono P.out.size)⟩
        case measure => simp [intOf]
end Go.Proofs.Ytemmkkcfjhmomaa
