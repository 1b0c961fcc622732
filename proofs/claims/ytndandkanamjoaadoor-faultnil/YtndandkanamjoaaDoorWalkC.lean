/-
  errors.is and errors.Is of the library at one of api's numbers, for every chain of Faults around a number, another error or nothing. No condition.
-/
import Derived.Test.YtndandkanamjoaaDoorWalkA
namespace Go.Proofs.YtndandkanamjoaaDoor
open Go.RowKit Go.Extern.Stop Go.Stop Go.Extern

theorem eql31 (a b : Int) (w : World) : (binOp .eql 25 (.iface 31 (.int .i64 a)) (.iface 31 (.int .i64 b))).run Tryd.prog w = .ok (.bool (a == b)) w := by
  have h : ∀ d : Nat, (Op.equalIn (d + 2) 25 (.iface 31 (.int .i64 a)) (.iface 31 (.int .i64 b))).run Tryd.prog w = .ok (a == b) w := fun d => by
    obtain ⟨i, hi, hc⟩ := Option.map_eq_some_iff.1 (show (Tryd.prog.info? 31).map (fun i => i.comparable) = some true by kernel_rfl)
    simp [Op.equalIn, run_underlying Tryd.underlying25, run_underlying Tryd.underlying31, typeInfo, hi, hc]
  simp only [binOp]
  simp [Op.equal, Op.maxDepth, h 9998]

def Base.isE (e : Int) : Base → Bool
  | .inl n => n == e
  | _ => false

set_option maxHeartbeats 4000000 in
theorem is39 (B : Base) (ls : List Lk) (e0 : Int) (w : World) (T : TypeId) (u : Value) (hv : val B ls = .iface T u) :
    Calls Tryd.prog 39 #[val B ls, .iface 31 (.int .i64 e0), .bool true] w fun e w' => e = .returned (.bool (B.isE e0)) ∧ Below w.heap.size w w' := by
  have mU := Tryd.methodUnwrap
  have HV : Hd (val B ls = .iface T u) := ⟨hv⟩
  clear hv
  generalize hq : val B ls = q
  have HQ : Hd (val B ls = q) := ⟨hq⟩
  clear hq
  go_enter Tryd.func39, Tryd.ntmps39
  go_wp2
  go_loopg [0] ls.length (fun g q' wr => ∃ ls' : List Lk, ls'.length ≤ g ∧ q' = val B ls' ∧ (∃ T u, val B ls' = .iface T u) ∧ Below w.heap.size w wr)
  case atStart => exact ⟨ls, Nat.le_refl _, HQ.out.symm, ⟨T, u, HV.out⟩, Below.refl _ _⟩
  case round =>
    obtain ⟨ls', hl, rfl, hT, hb⟩ := hrel
    have BB : Hd (Below w.heap.size w wr) := ⟨hb⟩
    clear hb HV HQ
    cases ls' with
    | nil =>
      rcases B with n | v | ⟨⟩
      ·
        have k1 := eql31 n e0
        have k2 := Tryd.as31_92 (.int .i64 n)
        have k3 := Tryd.as31_88 (.int .i64 n)
        have k4 := Tryd.as31_89 (.int .i64 n)
        simp only [val, Base.val]
        cases c : (n == e0) with
        | true =>
          have hc : Hd ((n == e0) = true) := ⟨c⟩
          rw [c] at k1
          clear c
          go_wp2
          go_ret
          exact ⟨congrArg (fun r => Ending.returned (Value.bool r)) hc.out.symm, BB.out⟩
        | false =>
          have hc : Hd ((n == e0) = false) := ⟨c⟩
          rw [c] at k1
          clear c
          go_wp2
          go_ret
          exact ⟨congrArg (fun r => Ending.returned (Value.bool r)) hc.out.symm, BB.out⟩
      ·
        have k1 := fun w => run_eql_iface_types (P := Tryd.prog) 62 31 v (.int .i64 e0) Tryd.underlying25 (by decide) w
        have k2 := Tryd.as62_92 v
        have k3 := Tryd.as62_88 v
        have k4 := Tryd.as62_89 v
        simp only [val, Base.val]
        go_wp2
        go_ret
        exact ⟨rfl, BB.out⟩
      · obtain ⟨T, u, h⟩ := hT; cases h
    | cons l ls' =>
      obtain ⟨L, S⟩ := l
      obtain ⟨z, hz⟩ : ∃ z, z = val B ls' := ⟨_, rfl⟩
      have HZ : Hd (z = val B ls') := ⟨hz⟩
      have k1 := fun w => run_eql_iface_types (P := Tryd.prog) 44 31 (.agg #[.int .i64 L, .string S, z]) (.int .i64 e0) Tryd.underlying25 (by decide) w
      have k2 := Tryd.as44_92 (.agg #[.int .i64 L, .string S, z])
      have k3 := Tryd.as44_88 (.agg #[.int .i64 L, .string S, z])
      have R : Hd (Below w.heap.size w (wr.alloc (.cells #[.int .i64 L, .string S, z] 44))) := ⟨BB.out.alloc BB.out.size _⟩
      clear hT
      simp only [val]
      rw [← hz]
      clear hz
      rcases val_is B ls' with ⟨rfl, rfl⟩ | ⟨T', u', h'⟩
      · obtain rfl : z = .nilIface := HZ.out
        go_wp2_with (go_at_call 19; refine (unwrap_ok L S _ _).mono ?_; rintro e w' ⟨rfl, rfl⟩)
        go_ret
        exact ⟨rfl, R.out⟩
      · obtain rfl : z = .iface T' u' := HZ.out.trans h'
        have HH : Hd (val B ls' = .iface T' u') := ⟨h'⟩
        clear h' HZ
        go_wp2_with (go_at_call 19; refine (unwrap_ok L S _ _).mono ?_; rintro e w' ⟨rfl, rfl⟩)
        obtain ⟨g, rfl⟩ : ∃ g, gk = g + 1 := ⟨gk - 1, by simp at hl; omega⟩
        go_roundg g
        case rel => exact ⟨ls', by simp at hl; omega, HH.out.symm, ⟨T', u', HH.out⟩, R.out⟩
        case measure => exact Nat.lt_succ_self _

set_option maxHeartbeats 4000000 in
theorem is_ok (B : Base) (ls : List Lk) (e0 : Int) (w : World) :
    Calls Tryd.prog 30 #[val B ls, .iface 31 (.int .i64 e0)] w fun e w' => e = .returned (.bool (B.isE e0)) ∧ Below w.heap.size w w' := by
  have mC := Tryd.methodComparable
  have k1 := Tryd.c38_31 (.int .i64 e0)
  have k2 := Tryd.c79_31
  rcases val_is B ls with ⟨rfl, rfl⟩ | ⟨T, u, hv⟩
  · simp only [val, Base.val, Base.isE]
    have b := Below.refl w.heap.size w
    have k3 := run_eql_iface_nil_left (P := Tryd.prog) w 31 (.int .i64 e0) Tryd.underlying25
    go_enter Tryd.func30, Tryd.ntmps30
    go_wp2
    go_ret
    exact ⟨rfl, b⟩
  · have C := is39 B ls e0 w T u hv
    rw [hv] at C ⊢
    clear hv
    generalize B.isE e0 = r at *
    go_enter Tryd.func30, Tryd.ntmps30
    go_wp2_with (go_at_call 39; refine C.mono ?_; rintro e w' ⟨rfl, hb3⟩)
    go_ret
    exact ⟨rfl, hb3⟩

end Go.Proofs.YtndandkanamjoaaDoor
