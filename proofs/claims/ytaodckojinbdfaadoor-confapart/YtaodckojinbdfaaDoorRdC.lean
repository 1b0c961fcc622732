/-
  What the reader's methods 'total', 'period', 'seats' of the program do. Condition: the reader and the configuration lie in memory.
-/
import Derived.Test.YtaodckojinbdfaaDoorRdB
import Derived.Test.YtaodckojinbdfaaDoorMemC
namespace Go.Proofs.YtaodckojinbdfaaDoor
open Go.RowKit

/-- What a line did: the reader's error, and the configuration, if there is none. -/
structure Told (B R A : Nat) (w w' : World) (E : Int) (C : Cf) : Prop where
  rd : ∃ ws, Rd B w' R A ws E
  cfg : E = 0 → Cfg B w' A C
  kt : KT B w w'
/-- No block of levels, schemas, rules, texts is in S. -/
structure Free3 (S : Nat → Prop) (w : World) : Prop where
  s9 : ∀ (b : Nat) (cur : Array Value) (f : Nat × Nat), w.heap[b]? = some (.cells cur 9 f) → ¬ S b
  s39 : ∀ b cur, Blk w b 46 cur → ¬ S b
  s42 : ∀ b cur, Blk w b 49 cur → ¬ S b
  s73 : ∀ b cur, Blk w b 51 cur → ¬ S b
theorem free3_of_blk {w : World} {A : Nat} {cs : Array Value} (h : Blk w A 30 cs) : Free3 (fun k => k = A) w :=
  ⟨fun _ _ _ hb e => h.ne' hb (by decide) e.symm, fun _ _ hb e => h.ne hb (by decide) e.symm, fun _ _ hb e => h.ne hb (by decide) e.symm, fun _ _ hb e => h.ne hb (by decide) e.symm⟩
section
variable {B : Nat} {S : Nat → Prop} {w w' : World} {v : Value}
theorem RlOwn.free3 {rs : List Rl} (h : RlOwn B w v rs) (k : Kept S w w') (f : Free3 S w) : RlOwn B w' v rs := by
  refine h.kept k f.s9 (fun g hg => ?_)
  obtain ⟨cs, ho, _⟩ := h
  obtain ⟨cur, hb⟩ := owns_type ho hg
  exact f.s73 g cur hb
theorem ScOwn.free3 {ss : List Sc} {V : List Value} (h : ScOwn B w v ss V) (k : Kept S w w') (f : Free3 S w) : ScOwn B w' v ss V :=
  ⟨h.len, owns_kept h.own k (fun g hg => by obtain ⟨cur, hb⟩ := owns_type h.own hg; exact f.s42 g cur hb), fun i hi hi' => (h.rls i hi hi').free3 k f⟩
theorem LvOwn.free3 {L : List Lv} (h : LvOwn B w v L) (k : Kept S w w') (f : Free3 S w) : LvOwn B w' v L :=
  owns_kept h k (fun g hg => by obtain ⟨cur, hb⟩ := owns_type h hg; exact f.s39 g cur hb)
end

theorem total_rd {B R A : Nat} {C : Cf} {ws : List ByteArray} (w : World) (H : Rd B w R A ws 0) (K : Cfg B w A C) :
    Calls Tryd.prog 31 #[.pointer (some ⟨R, 0, none⟩)] w fun r w' => r = .returned (.tuple #[]) ∧ Told B R A w w' (totalE C ws) ⟨numOf (gt ws 0) 1 4096, C.period, C.perSeat, C.most, C.levels, C.schemas⟩ := by
  obtain ⟨a, c, hb, hr, hc, h6⟩ := H.ex
  have c0 := hb.cellv 0 rfl
  have M1 := must_ok w H ((ws.length : Int) == 1) 2
  rw [mu_zero] at M1
  clear hb hr hc
  unfold totalE
  generalize hn0 : numOf (gt ws 0) 1 4096 = n0
  generalize hb0 : numIn (gt ws 0) 1 4096 = b0
  generalize hE : mu (mu (ifE ((ws.length : Int) == 1) 2) (ifE b0 8)) (ifE (C.total == 0) 5) = E
  go_enter Tryd.func31, Tryd.ntmps31
  go_wp2_with fail
  go_at_call 37
  refine M1.mono ?_
  rintro r w1 ⟨rfl, h1, k1⟩
  clear M1 c0
  have N2 := number_rd w1 h1 1 4096
  rw [hn0, hb0] at N2
  go_wp2_with fail
  go_at_call 46
  refine N2.mono ?_
  rintro r w2 ⟨rfl, h2, k2⟩
  clear N2
  have kk : Kept (fun k => k = R) w w2 := (k1).trans k2
  have K2 := K.free kk H.free
  obtain ⟨a2, q2, hb2, -⟩ := h2.ex
  have d1 := hb2.cellv 1 rfl
  obtain ⟨vL, vS, V, hA, hL, hS, hD⟩ := K2.ex
  have t0 := hA.cellv 0 rfl
  have M3 := must_ok w2 h2 (C.total == 0) 5
  have H2 : Hd (Rd B w2 R A _ _) := ⟨h2⟩
  clear hL hS hD hA hb2
  go_wp2_with fail
  go_at_call 37
  refine M3.mono ?_
  rintro r w3 ⟨rfl, h3, k3⟩
  clear M3 d1 t0
  rw [hE] at h3
  clear hE
  have F := fine_ok w3 h3
  have K3 := K.free (kk.trans k3) H.free
  obtain ⟨a3, q3, hb3, -⟩ := h3.ex
  have d1 := hb3.cellv 1 rfl
  obtain ⟨vL, vS, V, hA, hL, hS, hD⟩ := K3.ex
  have t0 := hA.cellv 0 rfl
  have f0 := hA.frozen 0
  have KA : Kept (fun k => k = A) w3 (w3.setCell ⟨A, 0, none⟩ (.int .i64 n0)) := ((Kept.refl (fun k => k = A) w3).setCell ⟨A, 0, none⟩ (.int .i64 n0) (.inl rfl))
  have FA : Free3 (fun k => k = A) w3 := free3_of_blk hA
  have R4 : Hd (Told B R A w (w3.setCell ⟨A, 0, none⟩ (.int .i64 n0)) E ⟨n0, C.period, C.perSeat, C.most, C.levels, C.schemas⟩) :=
    ⟨⟨_, (h3.other hA (by decide) (by decide) 0 (.int .i64 n0))⟩, fun _ => ⟨K3.le, vL, vS, V, (hA.set 0 (.int .i64 n0)), hL.free3 KA FA, hS.free3 KA FA, hD⟩, (H.kt (kk.trans k3)).trans (KT.of_kept KA (Nat.le_trans K3.le (Nat.le_of_lt hA.lt)) (fun j hj => by rw [hj]; exact K3.le) FA.s9)⟩
  have R3 : Hd (E ≠ 0 → Told B R A w w3 E ⟨n0, C.period, C.perSeat, C.most, C.levels, C.schemas⟩) := ⟨fun h => ⟨⟨_, h3⟩, fun h0 => absurd h0 h, H.kt (kk.trans k3)⟩⟩
  clear hb3 hA hL hS hD K3 KA FA h3 k3 kk K2 H2 K H
  by_cases h0 : E = 0
  · subst h0
    go_wp2_with (go_at_call 47; refine F.mono ?_; rintro e w' ⟨rfl, hw⟩; obtain rfl := hw.symm)
    go_end0
    exact ⟨rfl, R4.out⟩
  · have e0 : (E == 0) = false := by simpa using h0
    rw [e0] at F
    go_wp2_with (go_at_call 47; refine F.mono ?_; rintro e w' ⟨rfl, hw⟩; obtain rfl := hw.symm)
    go_end0
    exact ⟨rfl, R3.out h0⟩

theorem period_rd {B R A : Nat} {C : Cf} {ws : List ByteArray} (w : World) (H : Rd B w R A ws 0) (K : Cfg B w A C) :
    Calls Tryd.prog 32 #[.pointer (some ⟨R, 0, none⟩)] w fun r w' => r = .returned (.tuple #[]) ∧ Told B R A w w' (periodE C ws) ⟨C.total, numOf (gt ws 0) 1 1000, C.perSeat, C.most, C.levels, C.schemas⟩ := by
  obtain ⟨a, c, hb, hr, hc, h6⟩ := H.ex
  have c0 := hb.cellv 0 rfl
  have M1 := must_ok w H ((ws.length : Int) == 1) 2
  rw [mu_zero] at M1
  clear hb hr hc
  unfold periodE
  generalize hn0 : numOf (gt ws 0) 1 1000 = n0
  generalize hb0 : numIn (gt ws 0) 1 1000 = b0
  generalize hE : mu (mu (ifE ((ws.length : Int) == 1) 2) (ifE b0 8)) (ifE (C.period == 0) 5) = E
  go_enter Tryd.func32, Tryd.ntmps32
  go_wp2_with fail
  go_at_call 37
  refine M1.mono ?_
  rintro r w1 ⟨rfl, h1, k1⟩
  clear M1 c0
  have N2 := number_rd w1 h1 1 1000
  rw [hn0, hb0] at N2
  go_wp2_with fail
  go_at_call 46
  refine N2.mono ?_
  rintro r w2 ⟨rfl, h2, k2⟩
  clear N2
  have kk : Kept (fun k => k = R) w w2 := (k1).trans k2
  have K2 := K.free kk H.free
  obtain ⟨a2, q2, hb2, -⟩ := h2.ex
  have d1 := hb2.cellv 1 rfl
  obtain ⟨vL, vS, V, hA, hL, hS, hD⟩ := K2.ex
  have t0 := hA.cellv 1 rfl
  have M3 := must_ok w2 h2 (C.period == 0) 5
  have H2 : Hd (Rd B w2 R A _ _) := ⟨h2⟩
  clear hL hS hD hA hb2
  go_wp2_with fail
  go_at_call 37
  refine M3.mono ?_
  rintro r w3 ⟨rfl, h3, k3⟩
  clear M3 d1 t0
  rw [hE] at h3
  clear hE
  have F := fine_ok w3 h3
  have K3 := K.free (kk.trans k3) H.free
  obtain ⟨a3, q3, hb3, -⟩ := h3.ex
  have d1 := hb3.cellv 1 rfl
  obtain ⟨vL, vS, V, hA, hL, hS, hD⟩ := K3.ex
  have t1 := hA.cellv 1 rfl
  have f1 := hA.frozen 1
  have KA : Kept (fun k => k = A) w3 (w3.setCell ⟨A, 1, none⟩ (.int .i64 n0)) := ((Kept.refl (fun k => k = A) w3).setCell ⟨A, 1, none⟩ (.int .i64 n0) (.inl rfl))
  have FA : Free3 (fun k => k = A) w3 := free3_of_blk hA
  have R4 : Hd (Told B R A w (w3.setCell ⟨A, 1, none⟩ (.int .i64 n0)) E ⟨C.total, n0, C.perSeat, C.most, C.levels, C.schemas⟩) :=
    ⟨⟨_, (h3.other hA (by decide) (by decide) 1 (.int .i64 n0))⟩, fun _ => ⟨K3.le, vL, vS, V, (hA.set 1 (.int .i64 n0)), hL.free3 KA FA, hS.free3 KA FA, hD⟩, (H.kt (kk.trans k3)).trans (KT.of_kept KA (Nat.le_trans K3.le (Nat.le_of_lt hA.lt)) (fun j hj => by rw [hj]; exact K3.le) FA.s9)⟩
  have R3 : Hd (E ≠ 0 → Told B R A w w3 E ⟨C.total, n0, C.perSeat, C.most, C.levels, C.schemas⟩) := ⟨fun h => ⟨⟨_, h3⟩, fun h0 => absurd h0 h, H.kt (kk.trans k3)⟩⟩
  clear hb3 hA hL hS hD K3 KA FA h3 k3 kk K2 H2 K H
  by_cases h0 : E = 0
  · subst h0
    go_wp2_with (go_at_call 47; refine F.mono ?_; rintro e w' ⟨rfl, hw⟩; obtain rfl := hw.symm)
    go_end0
    exact ⟨rfl, R4.out⟩
  · have e0 : (E == 0) = false := by simpa using h0
    rw [e0] at F
    go_wp2_with (go_at_call 47; refine F.mono ?_; rintro e w' ⟨rfl, hw⟩; obtain rfl := hw.symm)
    go_end0
    exact ⟨rfl, R3.out h0⟩

theorem seats_rd {B R A : Nat} {C : Cf} {ws : List ByteArray} (w : World) (H : Rd B w R A ws 0) (K : Cfg B w A C) :
    Calls Tryd.prog 33 #[.pointer (some ⟨R, 0, none⟩)] w fun r w' => r = .returned (.tuple #[]) ∧ Told B R A w w' (seatsE C ws) ⟨C.total, C.period, numOf (gt ws 0) 1 1048576, numOf (gt ws 1) 1 16, C.levels, C.schemas⟩ := by
  obtain ⟨a, c, hb, hr, hc, h6⟩ := H.ex
  have c0 := hb.cellv 0 rfl
  have M1 := must_ok w H ((ws.length : Int) == 2) 2
  rw [mu_zero] at M1
  clear hb hr hc
  unfold seatsE
  generalize hn0 : numOf (gt ws 0) 1 1048576 = n0
  generalize hb0 : numIn (gt ws 0) 1 1048576 = b0
  generalize hn1 : numOf (gt ws 1) 1 16 = n1
  generalize hb1 : numIn (gt ws 1) 1 16 = b1
  generalize hE : mu (mu (mu (ifE ((ws.length : Int) == 2) 2) (ifE b0 8)) (ifE b1 8)) (ifE (C.perSeat == 0) 5) = E
  go_enter Tryd.func33, Tryd.ntmps33
  go_wp2_with fail
  go_at_call 37
  refine M1.mono ?_
  rintro r w1 ⟨rfl, h1, k1⟩
  clear M1 c0
  have N2 := number_rd w1 h1 1 1048576
  rw [hn0, hb0] at N2
  go_wp2_with fail
  go_at_call 46
  refine N2.mono ?_
  rintro r w2 ⟨rfl, h2, k2⟩
  clear N2
  have N3 := number_rd w2 h2 1 16
  rw [gt_tail] at N3
  rw [hn1, hb1] at N3
  go_wp2_with fail
  go_at_call 46
  refine N3.mono ?_
  rintro r w3 ⟨rfl, h3, k3⟩
  clear N3
  have kk : Kept (fun k => k = R) w w3 := ((k1).trans k2).trans k3
  have K2 := K.free kk H.free
  obtain ⟨a2, q2, hb2, -⟩ := h3.ex
  have d1 := hb2.cellv 1 rfl
  obtain ⟨vL, vS, V, hA, hL, hS, hD⟩ := K2.ex
  have t0 := hA.cellv 2 rfl
  have M3 := must_ok w3 h3 (C.perSeat == 0) 5
  have H2 : Hd (Rd B w3 R A _ _) := ⟨h3⟩
  clear hL hS hD hA hb2
  go_wp2_with fail
  go_at_call 37
  refine M3.mono ?_
  rintro r w3 ⟨rfl, h3, k3⟩
  clear M3 d1 t0
  rw [hE] at h3
  clear hE
  have F := fine_ok w3 h3
  have K3 := K.free (kk.trans k3) H.free
  obtain ⟨a3, q3, hb3, -⟩ := h3.ex
  have d1 := hb3.cellv 1 rfl
  obtain ⟨vL, vS, V, hA, hL, hS, hD⟩ := K3.ex
  have t2 := hA.cellv 2 rfl
  have f2 := hA.frozen 2
  have t3 := hA.cellv 3 rfl
  have f3 := hA.frozen 3
  have KA : Kept (fun k => k = A) w3 ((w3.setCell ⟨A, 2, none⟩ (.int .i64 n0)).setCell ⟨A, 3, none⟩ (.int .i64 n1)) := (((Kept.refl (fun k => k = A) w3).setCell ⟨A, 2, none⟩ (.int .i64 n0) (.inl rfl)).setCell ⟨A, 3, none⟩ (.int .i64 n1) (.inl rfl))
  have FA : Free3 (fun k => k = A) w3 := free3_of_blk hA
  have R4 : Hd (Told B R A w ((w3.setCell ⟨A, 2, none⟩ (.int .i64 n0)).setCell ⟨A, 3, none⟩ (.int .i64 n1)) E ⟨C.total, C.period, n0, n1, C.levels, C.schemas⟩) :=
    ⟨⟨_, ((h3.other hA (by decide) (by decide) 2 (.int .i64 n0)).other (hA.set 2 _) (by decide) (by decide) 3 (.int .i64 n1))⟩, fun _ => ⟨K3.le, vL, vS, V, ((hA.set 2 (.int .i64 n0)).set 3 (.int .i64 n1)), hL.free3 KA FA, hS.free3 KA FA, hD⟩, (H.kt (kk.trans k3)).trans (KT.of_kept KA (Nat.le_trans K3.le (Nat.le_of_lt hA.lt)) (fun j hj => by rw [hj]; exact K3.le) FA.s9)⟩
  have R3 : Hd (E ≠ 0 → Told B R A w w3 E ⟨C.total, C.period, n0, n1, C.levels, C.schemas⟩) := ⟨fun h => ⟨⟨_, h3⟩, fun h0 => absurd h0 h, H.kt (kk.trans k3)⟩⟩
  clear hb3 hA hL hS hD K3 KA FA h3 k3 kk K2 H2 K H
  by_cases h0 : E = 0
  · subst h0
    go_wp2_with (go_at_call 47; refine F.mono ?_; rintro e w' ⟨rfl, hw⟩; obtain rfl := hw.symm)
    go_end0
    exact ⟨rfl, R4.out⟩
  · have e0 : (E == 0) = false := by simpa using h0
    rw [e0] at F
    go_wp2_with (go_at_call 47; refine F.mono ?_; rintro e w' ⟨rfl, hw⟩; obtain rfl := hw.symm)
    go_end0
    exact ⟨rfl, R3.out h0⟩

end Go.Proofs.YtaodckojinbdfaaDoor
