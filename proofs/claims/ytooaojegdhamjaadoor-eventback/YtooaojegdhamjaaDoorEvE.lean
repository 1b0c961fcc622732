/-
  What a reader's call for a request answers. Condition: the words have at most 2^31 bytes.
-/
import Derived.Test.YtooaojegdhamjaaDoorEvD
namespace Go.Proofs.YtooaojegdhamjaaDoor
open Go.RowKit Go.Lib

theorem res36 (tmps : Array Value) (w : World) (g : Nat) {c0 c1 c2 c3 c4 c5 : Value} (ht : tmps[2]?.getD undef = .pointer (some ⟨g, 0, none⟩)) (h : Blk w g 24 #[c0, c1, c2, c3, c4, c5]) :
    (results Tryd.f36 tmps).run Tryd.prog w = .ok (.agg #[c0, c1, c2, c3, c4, c5]) w := by
  have r0 := h.cellv 0 rfl; have r1 := h.cellv 1 rfl; have r2 := h.cellv 2 rfl; have r3 := h.cellv 3 rfl; have r4 := h.cellv 4 rfl; have r5 := h.cellv 5 rfl
  simp [results, Tryd.results36, go_sem, ht, r0, r1, r2, r3, r4, r5]
theorem six_set {w : World} {a : Nat} {c0 c1 c2 c3 c4 c5 v0 v1 v2 v3 v4 v5 : Value} (h : Blk w a 24 #[c0, c1, c2, c3, c4, c5]) :
    Blk ((((((w.setCell ⟨a, 0, none⟩ v0).setCell ⟨a, 1, none⟩ v1).setCell ⟨a, 2, none⟩ v2).setCell ⟨a, 3, none⟩ v3).setCell ⟨a, 4, none⟩ v4).setCell ⟨a, 5, none⟩ v5) a 24 #[v0, v1, v2, v3, v4, v5]
    ∧ Kept (At a) w ((((((w.setCell ⟨a, 0, none⟩ v0).setCell ⟨a, 1, none⟩ v1).setCell ⟨a, 2, none⟩ v2).setCell ⟨a, 3, none⟩ v3).setCell ⟨a, 4, none⟩ v4).setCell ⟨a, 5, none⟩ v5) := by
  refine ⟨?_, ((((((Kept.refl (At a) w).setCell _ _ (.inl rfl)).setCell _ _ (.inl rfl)).setCell _ _ (.inl rfl)).setCell _ _ (.inl rfl)).setCell _ _ (.inl rfl)).setCell _ _ (.inl rfl)⟩
  have := (((((h.set 0 v0).set 1 v1).set 2 v2).set 3 v3).set 4 v4).set 5 v5
  simpa using this

/-- A request's first error. -/
def rqX (L : List ByteArray) (e : Int) : Int := mst (mst (mst (mst (mst (mst e (isWord (gt L 0)) 4) (listOk (gt L 1)) 2) (isWord (gt L 2)) 4) (isWord (gt L 3)) 4) (spK (gt L 4)) 4) (numIn (gt L 5) 0 1048576) 8

theorem request_rd (w : World) (p : Nat) (L : List ByteArray) (e : Int) (h : RdS w p L e) :
    Calls Tryd.prog 36 #[.pointer (some ⟨p, 0, none⟩)] w fun q w' => ∃ a c, q = .returned (.agg #[.string (gt L 0), .slice a (listOf (gt L 1)).length c, .string (gt L 2), .string (gt L 3), .string (spO (gt L 4)), .int .i64 (numOf (gt L 5) 0 1048576)])
      ∧ (RowL w' a (listOf (gt L 1)) ∧ (listOf (gt L 1)).length ≤ c ∧ ∀ b off, a = some ⟨b, off, none⟩ → w.heap.size ≤ b) ∧ RdS w' p (L.drop 6) (rqX L e) ∧ Kept (At p) w w' := by
  obtain ⟨w1, hw1⟩ : ∃ w1, w1 = (w.alloc (.cells #[.string ⟨#[]⟩, .slice none 0 0, .string ⟨#[]⟩, .string ⟨#[]⟩, .string ⟨#[]⟩, .int .i64 0] 24)).alloc (.cells #[.string ⟨#[]⟩, .slice none 0 0, .string ⟨#[]⟩, .string ⟨#[]⟩, .string ⟨#[]⟩, .int .i64 0] 24) := ⟨_, rfl⟩
  obtain ⟨b1, n1, n2⟩ := boxes w 24 24 #[.string ⟨#[]⟩, .slice none 0 0, .string ⟨#[]⟩, .string ⟨#[]⟩, .string ⟨#[]⟩, .int .i64 0] #[.string ⟨#[]⟩, .slice none 0 0, .string ⟨#[]⟩, .string ⟨#[]⟩, .string ⟨#[]⟩, .int .i64 0]
  rw [← hw1] at b1 n1 n2
  have hp : p < w.heap.size := h.lt
  have R1 := Hd.mk (h.below b1)
  have B1 := Hd.mk b1
  have N1 := Hd.mk n1
  have N2 := Hd.mk n2
  have hsz : (w.alloc (.cells #[.string ⟨#[]⟩, .slice none 0 0, .string ⟨#[]⟩, .string ⟨#[]⟩, .string ⟨#[]⟩, .int .i64 0] 24)).heap.size = w.heap.size + 1 := by simp
  clear b1 n1 n2 h
  generalize hg : w.heap.size = g at *
  have hp1 : Hd (p < g) := ⟨hp⟩
  have hp1 : Hd (p < g) := ⟨hp⟩
  go_enter Tryd.func36, Tryd.ntmps36
  go_wp2_with fail
  rw [← hw1]
  clear hw1 hsz
  have C0 := name_rd w1 p L _ R1.out
  go_at_call 52
  refine C0.mono ?_
  rintro q v0 ⟨rfl, h, kk⟩
  have X0 := Hd.mk (N2.out.kept kk (fun h : g + 1 = p => by have := hp1.out; omega))
  have Y0 := Hd.mk (N1.out.kept kk (fun h : g = p => by have := hp1.out; omega))
  have Q0 := Hd.mk h
  have KK0 := Hd.mk kk
  clear h kk C0 N1 N2 R1
  have f0 := X0.out.frozen 0
  have r0 := X0.out.cellv 0 rfl
  go_wp2_with fail
  obtain ⟨u0, hu0⟩ : ∃ u, u = v0.setCell ⟨g + 1, 0, none⟩ (.string (gt L 0)) := ⟨_, rfl⟩
  have S0 : Kept (At (g + 1)) v0 u0 := by rw [hu0]; exact (Kept.refl _ _).setCell _ _ (.inl rfl)
  have N2 : Hd (Blk u0 (g + 1) 24 #[.string (gt L 0), .slice none 0 0, .string ⟨#[]⟩, .string ⟨#[]⟩, .string ⟨#[]⟩, .int .i64 0]) := ⟨by rw [hu0]; simpa using X0.out.set 0 (.string (gt L 0))⟩
  have N1 := Hd.mk (Y0.out.kept S0 (fun h : g = g + 1 => by omega))
  have R2 := Hd.mk (Q0.out.kept S0 (fun j (h : j = g + 1) => by have := hp1.out; omega))
  have T0 := Hd.mk S0
  rw [← hu0]
  have SZ : Hd (g + 2 ≤ u0.heap.size) := ⟨N2.out.lt⟩
  clear f0 r0 hu0 S0 X0 Y0 Q0
  have C1 := list_rd u0 p (L.drop 1) _ R2.out
  rw [gt_at, drop_one] at C1
  go_at_call 53
  refine C1.mono ?_
  rintro q v1 ⟨a, c, rfl, ⟨hr, hc, hf⟩, h, kk⟩
  have HRw := Hd.mk hr
  have HC := Hd.mk hc
  have HF : Hd (∀ b off, a = some ⟨b, off, none⟩ → g + 2 ≤ b) := ⟨fun b off e => Nat.le_trans SZ.out (hf b off e)⟩
  clear hr hc hf
  generalize hm : (listOf (gt L 1)).length = m at *
  have HM := Hd.mk hm
  clear hm
  have X1 := Hd.mk (N2.out.kept kk (fun h : g + 1 = p => by have := hp1.out; omega))
  have Y1 := Hd.mk (N1.out.kept kk (fun h : g = p => by have := hp1.out; omega))
  have Q1 := Hd.mk h
  have KK1 := Hd.mk kk
  clear h kk C1 N1 N2 R2
  have f1 := X1.out.frozen 1
  have r1 := X1.out.cellv 1 rfl
  go_wp2_with fail
  obtain ⟨u1, hu1⟩ : ∃ u, u = v1.setCell ⟨g + 1, 1, none⟩ (.slice a m c) := ⟨_, rfl⟩
  have S1 : Kept (At (g + 1)) v1 u1 := by rw [hu1]; exact (Kept.refl _ _).setCell _ _ (.inl rfl)
  have N2 : Hd (Blk u1 (g + 1) 24 #[.string (gt L 0), .slice a m c, .string ⟨#[]⟩, .string ⟨#[]⟩, .string ⟨#[]⟩, .int .i64 0]) := ⟨by rw [hu1]; simpa using X1.out.set 1 (.slice a m c)⟩
  have N1 := Hd.mk (Y1.out.kept S1 (fun h : g = g + 1 => by omega))
  have R3 := Hd.mk (Q1.out.kept S1 (fun j (h : j = g + 1) => by have := hp1.out; omega))
  have T1 := Hd.mk S1
  rw [← hu1]
  clear f1 r1 hu1 S1 X1 Y1 Q1
  have C2 := name_rd u1 p (L.drop 2) _ R3.out
  rw [gt_at, drop_one] at C2
  go_at_call 52
  refine C2.mono ?_
  rintro q v2 ⟨rfl, h, kk⟩
  have X2 := Hd.mk (N2.out.kept kk (fun h : g + 1 = p => by have := hp1.out; omega))
  have Y2 := Hd.mk (N1.out.kept kk (fun h : g = p => by have := hp1.out; omega))
  have Q2 := Hd.mk h
  have KK2 := Hd.mk kk
  clear h kk C2 N1 N2 R3
  have f2 := X2.out.frozen 2
  have r2 := X2.out.cellv 2 rfl
  go_wp2_with fail
  obtain ⟨u2, hu2⟩ : ∃ u, u = v2.setCell ⟨g + 1, 2, none⟩ (.string (gt L 2)) := ⟨_, rfl⟩
  have S2 : Kept (At (g + 1)) v2 u2 := by rw [hu2]; exact (Kept.refl _ _).setCell _ _ (.inl rfl)
  have N2 : Hd (Blk u2 (g + 1) 24 #[.string (gt L 0), .slice a m c, .string (gt L 2), .string ⟨#[]⟩, .string ⟨#[]⟩, .int .i64 0]) := ⟨by rw [hu2]; simpa using X2.out.set 2 (.string (gt L 2))⟩
  have N1 := Hd.mk (Y2.out.kept S2 (fun h : g = g + 1 => by omega))
  have R4 := Hd.mk (Q2.out.kept S2 (fun j (h : j = g + 1) => by have := hp1.out; omega))
  have T2 := Hd.mk S2
  rw [← hu2]
  clear f2 r2 hu2 S2 X2 Y2 Q2
  have C3 := name_rd u2 p (L.drop 3) _ R4.out
  rw [gt_at, drop_one] at C3
  go_at_call 52
  refine C3.mono ?_
  rintro q v3 ⟨rfl, h, kk⟩
  have X3 := Hd.mk (N2.out.kept kk (fun h : g + 1 = p => by have := hp1.out; omega))
  have Y3 := Hd.mk (N1.out.kept kk (fun h : g = p => by have := hp1.out; omega))
  have Q3 := Hd.mk h
  have KK3 := Hd.mk kk
  clear h kk C3 N1 N2 R4
  have f3 := X3.out.frozen 3
  have r3 := X3.out.cellv 3 rfl
  go_wp2_with fail
  obtain ⟨u3, hu3⟩ : ∃ u, u = v3.setCell ⟨g + 1, 3, none⟩ (.string (gt L 3)) := ⟨_, rfl⟩
  have S3 : Kept (At (g + 1)) v3 u3 := by rw [hu3]; exact (Kept.refl _ _).setCell _ _ (.inl rfl)
  have N2 : Hd (Blk u3 (g + 1) 24 #[.string (gt L 0), .slice a m c, .string (gt L 2), .string (gt L 3), .string ⟨#[]⟩, .int .i64 0]) := ⟨by rw [hu3]; simpa using X3.out.set 3 (.string (gt L 3))⟩
  have N1 := Hd.mk (Y3.out.kept S3 (fun h : g = g + 1 => by omega))
  have R5 := Hd.mk (Q3.out.kept S3 (fun j (h : j = g + 1) => by have := hp1.out; omega))
  have T3 := Hd.mk S3
  rw [← hu3]
  clear f3 r3 hu3 S3 X3 Y3 Q3
  have C4 := space_rd u3 p (L.drop 4) _ R5.out
  rw [gt_at, drop_one] at C4
  go_at_call 54
  refine C4.mono ?_
  rintro q v4 ⟨rfl, h, kk⟩
  have X4 := Hd.mk (N2.out.kept kk (fun h : g + 1 = p => by have := hp1.out; omega))
  have Y4 := Hd.mk (N1.out.kept kk (fun h : g = p => by have := hp1.out; omega))
  have Q4 := Hd.mk h
  have KK4 := Hd.mk kk
  clear h kk C4 N1 N2 R5
  have f4 := X4.out.frozen 4
  have r4 := X4.out.cellv 4 rfl
  go_wp2_with fail
  obtain ⟨u4, hu4⟩ : ∃ u, u = v4.setCell ⟨g + 1, 4, none⟩ (.string (spO (gt L 4))) := ⟨_, rfl⟩
  have S4 : Kept (At (g + 1)) v4 u4 := by rw [hu4]; exact (Kept.refl _ _).setCell _ _ (.inl rfl)
  have N2 : Hd (Blk u4 (g + 1) 24 #[.string (gt L 0), .slice a m c, .string (gt L 2), .string (gt L 3), .string (spO (gt L 4)), .int .i64 0]) := ⟨by rw [hu4]; simpa using X4.out.set 4 (.string (spO (gt L 4)))⟩
  have N1 := Hd.mk (Y4.out.kept S4 (fun h : g = g + 1 => by omega))
  have R6 := Hd.mk (Q4.out.kept S4 (fun j (h : j = g + 1) => by have := hp1.out; omega))
  have T4 := Hd.mk S4
  rw [← hu4]
  clear f4 r4 hu4 S4 X4 Y4 Q4
  have C5 := number_rd u4 p (L.drop 5) _ 0 1048576 R6.out
  rw [gt_at, drop_one] at C5
  go_at_call 37
  refine C5.mono ?_
  rintro q v5 ⟨rfl, h, kk⟩
  have X5 := Hd.mk (N2.out.kept kk (fun h : g + 1 = p => by have := hp1.out; omega))
  have Y5 := Hd.mk (N1.out.kept kk (fun h : g = p => by have := hp1.out; omega))
  have Q5 := Hd.mk h
  have KK5 := Hd.mk kk
  clear h kk C5 N1 N2 R6
  have f5 := X5.out.frozen 5
  have r5 := X5.out.cellv 5 rfl
  clear f5 r5
  have e5 : Hd (Blk (v5.setCell ⟨g + 1, 5, none⟩ (.int .i64 (numOf (gt L 5) 0 1048576))) (g + 1) 24 #[.string (gt L 0), .slice a m c, .string (gt L 2), .string (gt L 3), .string (spO (gt L 4)), .int .i64 (numOf (gt L 5) 0 1048576)]) := ⟨by simpa using X5.out.set 5 (.int .i64 (numOf (gt L 5) 0 1048576))⟩
  have f5 := X5.out.frozen 5
  have r5 := X5.out.cellv 5 rfl
  obtain ⟨u5, hu5⟩ : ∃ u, u = v5.setCell ⟨g + 1, 5, none⟩ (.int .i64 (numOf (gt L 5) 0 1048576)) := ⟨_, rfl⟩
  have S5 : Kept (At (g + 1)) v5 u5 := by rw [hu5]; exact (Kept.refl _ _).setCell _ _ (.inl rfl)
  have T5 := Hd.mk S5
  have N1 := Hd.mk (Y5.out.kept S5 (fun h : g = g + 1 => by omega))
  have R7 := Hd.mk (Q5.out.kept S5 (fun j (h : j = g + 1) => by have := hp1.out; omega))
  rw [← hu5] at e5
  clear S5 X5 Y5 Q5
  go_upto_region 8 with fail
  rw [← hu5]
  clear hu5 f5 r5
  have a0 := e5.out.cellv 0 rfl; have a1 := e5.out.cellv 1 rfl; have a2 := e5.out.cellv 2 rfl; have a3 := e5.out.cellv 3 rfl; have a4 := e5.out.cellv 4 rfl; have a5 := e5.out.cellv 5 rfl
  have b0 := N1.out.frozen 0; have b1 := N1.out.frozen 1; have b2 := N1.out.frozen 2; have b3 := N1.out.frozen 3; have b4 := N1.out.frozen 4; have b5 := N1.out.frozen 5
  have d0 := N1.out.cellv 0 rfl; have d1 := N1.out.cellv 1 rfl; have d2 := N1.out.cellv 2 rfl; have d3 := N1.out.cellv 3 rfl; have d4 := N1.out.cellv 4 rfl; have d5 := N1.out.cellv 5 rfl
  go_wp2_with fail
  obtain ⟨z1, z2⟩ := six_set (v0 := .string (gt L 0)) (v1 := .slice a m c) (v2 := .string (gt L 2)) (v3 := .string (gt L 3)) (v4 := .string (spO (gt L 4))) (v5 := .int .i64 (numOf (gt L 5) 0 1048576)) N1.out
  refine bodyPost_ret (res36 _ _ g rfl z1) rfl ?_
  have q0 : ∀ j, At p j → j = p ∨ j = g ∨ j = g + 1 := fun j h => .inl h
  have q1 : ∀ j, At (g + 1) j → j = p ∨ j = g ∨ j = g + 1 := fun j h => .inr (.inr h)
  have q2 : ∀ j, At g j → j = p ∨ j = g ∨ j = g + 1 := fun j h => .inr (.inl h)
  have k1 := (((((((T1.out.mono (T := fun j => j = p ∨ j = g ∨ j = g + 1) fun j _ => q1 j).trans (KK2.out.mono fun j _ => q0 j)).trans (T2.out.mono fun j _ => q1 j)).trans (KK3.out.mono fun j _ => q0 j)).trans (T3.out.mono fun j _ => q1 j)).trans (KK4.out.mono fun j _ => q0 j)).trans (T4.out.mono fun j _ => q1 j)).trans (KK5.out.mono fun j _ => q0 j)
  have k2 := (k1.trans (T5.out.mono fun j _ => q1 j)).trans (z2.mono fun j _ => q2 j)
  have k3 := ((((KK0.out.mono (T := fun j => j = p ∨ j = g ∨ j = g + 1) fun j _ => q0 j).trans (T0.out.mono fun j _ => q1 j)).trans (KK1.out.mono fun j _ => q0 j)).trans k2)
  have k4 := (Kept.of_below (hg ▸ B1.out) (fun j => j = p ∨ j = g ∨ j = g + 1)).trans k3
  refine ⟨a, c, by rw [HM.out], ⟨HRw.out.kept k2 fun b off e h => ?_, by rw [HM.out]; exact HC.out, fun b off e => by have := HF.out b off e; omega⟩, R7.out.kept z2 (fun j h => ?_), k4.mono fun j hj h => ?_⟩
  · have := HF.out b off e
    have := hp1.out
    omega
  · have h' : j = g := h
    have := hp1.out
    omega
  · rw [hg] at hj
    show j = p
    omega
end Go.Proofs.YtooaojegdhamjaaDoor
