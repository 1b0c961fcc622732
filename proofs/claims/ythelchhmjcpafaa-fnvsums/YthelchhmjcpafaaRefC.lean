/-
  What the reference's 'Flow' answers: the same hash.
-/
import Derived.Test.YthelchhmjcpafaaRefB
import Derived.Deep.AppendLies
namespace Go.Proofs.Ythelchhmjcpafaa
open Go.RowKit

/-- '[]byte(s)'. -/
theorem conv_bytes (w : World) (s : ByteArray) : ∃ v' w' g cap, (convert 9 29 (.string s)).run Try.prog w = .ok v' w' ∧ Bts w.heap.size w' v' s.data.toList g cap ∧ Below w.heap.size w w' := by
  have hr := run_bytes_of_string (P := Try.prog) w 9 29 5 s Try.underlying9 Try.underlying29 Try.underlying5
  have hge := grownCap_ge w s.size 0 5
  have hsz : (bytesRow s (grownCap w s.size 0 5)).size = grownCap w s.size 0 5 := by
    have e : s.data.size = s.size := rfl
    unfold bytesRow
    rw [Array.size_append, Array.size_map, Array.size_replicate]
    omega
  have hl : s.data.toList.length = s.size := Array.length_toList ..
  rw [hsz] at hr
  refine ⟨_, _, w.heap.size, grownCap w s.size 0 5, hr, ⟨by rw [hl], Nat.le_refl _, by simp, by rw [hl]; exact hge, ?_, ?_, ?_⟩, (Below.refl _ w).drew.alloc (Nat.le_refl _) _⟩
  · intro j hj
    rw [show w.heap.size = w.drew.heap.size from rfl, World.cell?_alloc_mark, Array.getElem?_eq_getElem (by rw [hsz]; exact hj)]
    rfl
  · intro j hj
    rw [show w.heap.size = w.drew.heap.size from rfl, World.frozen?_alloc_mark]
    simp
    omega
  · intro j hj
    rw [show w.heap.size = w.drew.heap.size from rfl, World.cell?_alloc_mark, bytesRow_at s _ j (by rw [hl] at hj; exact hj)]
    rfl

/-- append at the operation. -/
theorem wp_app {ops : Array Oper} {rest : List Oper} {o : Oper} {a : Act} {Q : Exit → Act → World → Prop} {w : World} (hgd : o.guard = none) (sl x : Operand) (tx : TypeId)
    (ho : o.op = .call { callee := .builtin .append, args := #[sl, x], argTypes := #[29, tx] })
    {base : Nat} {v X : Value} {l m : List UInt8} {g cap : Nat} (hs : a.eval sl = v) (h : Bts base w v l g cap) (hx : a.eval x = X) (src : Src Try.prog 1 tx X m.length (cellsB m) w)
    (hbase : base ≤ w.heap.size) (hn : l.length + m.length ≤ 1000000)
    (k : ∀ v' w' g' cap', Bts base w' v' (l ++ m) g' cap' → Below base w w' → wpList Try.prog ops Q rest (a.put o.dst v') w') : wpList Try.prog ops Q (o :: rest) a w := by
  refine wpList_plain hgd fun K hK => ?_
  obtain ⟨v', w', g', cap', hr, h2, h3⟩ := app_bytes h tx o.type X m src hbase hn
  unfold Oper.wp execOp
  simp only [ho, resolve, invoke, builtin, Sem.run_bind, Sem.run_pure, Result.andThen_ok, List.map_toArray, List.map_cons, List.map_nil, hs, hx, hr]
  exact hK _ _ (k v' w' g' cap' h2 h3)

theorem byteCells_eq (s : ByteArray) : byteCells s = cellsB s.data.toList := rfl

theorem src_string (s : ByteArray) (w : World) : Src Try.prog 1 9 (.string s) s.data.toList.length (cellsB s.data.toList) w := by
  have := Src.ofString (P := Try.prog) w Try.underlying9 s
  rw [byteCells_eq] at this
  exact this

theorem src_zero (w : World) : Src Try.prog 1 29 (.slice (some ⟨w.heap.size, 0, none⟩) 1 1) ([0] : List UInt8).length (cellsB [0]) (w.alloc (.cells #[.int .u8 0] 5)) :=
  Src.ofSlice _ Try.underlying29 ⟨w.heap.size, 0, none⟩ 1 1 (cellsB [0]) rfl (World.news_of_block (cs := #[.int .u8 0]) (t := 5) (fr := (0, 0)) (heap_alloc_new w _)) (cellsB_one _)

/-- 'string(b)'. -/
theorem Bts.text {base : Nat} {w : World} {v : Value} {l : List UInt8} {g cap : Nat} (h : Bts base w v l g cap) : (convert 29 9 v).run Try.prog w = .ok (.string ⟨l.toArray⟩) w := by
  obtain rfl := h.val
  exact run_convert_bytes_back w 29 9 5 ⟨g, 0, none⟩ cap l Try.underlying29 Try.underlying5 Try.underlying9 (fun j hj => by rw [add_at]; exact h.cell j hj)

theorem sum_flow (s t : ByteArray) : sum ⟨(s.data.toList ++ 0 :: t.data.toList).toArray⟩ = flow s t := by
  rw [sum_eq, flow_eq, sum_eq, more_eq, more_eq, more_eq]
  show hsh start (s.data.toList ++ 0 :: t.data.toList) = _
  rw [hsh_app, hsh_cons]

theorem rflow_ok (s t : ByteArray) (hs : s.size ≤ 65536) (ht : t.size ≤ 65536) (w : World) :
    Calls Try.prog 14 #[.string s, .string t] w fun e w' => e = .returned (.int .u64 (flow s t : Nat)) ∧ Below w.heap.size w w' := by
  obtain ⟨v1, w1, g1, cap1, CV, B1, b1⟩ := conv_bytes w s
  have hl : s.data.toList.length = s.size := Array.length_toList ..
  have hk : t.data.toList.length = t.size := Array.length_toList ..
  go_enter Try.func14, Try.ntmps14
  have n1 : s.data.toList.length + ([0] : List UInt8).length ≤ 1000000 := by rw [hl]; simp; omega
  go_wp2_with (at_builtin; refine wp_app rfl (.tmp 7) (.tmp 8) 29 rfl rfl (B1.below ((Below.refl _ w1).alloc (Nat.le_refl _) _)) rfl (src_zero w1) (by simp; exact Nat.le_trans b1.size (Nat.le_succ _)) n1 ?_)
  intro v2 w2 g2 cap2 B2 b2
  have b3 : Below w.heap.size w w2 := (b1.alloc b1.size _).trans b2
  clear b2 B1 CV
  have n2 : (s.data.toList ++ [0]).length + t.data.toList.length ≤ 1000000 := by rw [List.length_append, hl, hk]; simp; omega
  go_wp2_with (at_builtin; refine wp_app rfl (.tmp 10) (.tmp 11) 9 rfl rfl B2 rfl (src_string t w2) b3.size n2 ?_)
  intro v3 w3 g3 cap3 B3 b4
  have CW := B3.text
  have sz : (ByteArray.mk (s.data.toList ++ 0 :: t.data.toList).toArray).size ≤ 9223372036854775807 := by
    show (s.data.toList ++ 0 :: t.data.toList).toArray.size ≤ _
    rw [List.size_toArray, List.length_append, List.length_cons, hl, hk]
    omega
  have H := rsum_ok _ sz w3
  rw [sum_flow] at H
  obtain ⟨z, hz⟩ : ∃ z, z = ByteArray.mk (s.data.toList ++ 0 :: t.data.toList).toArray := ⟨_, rfl⟩
  rw [← hz] at CW H
  clear hz sz
  go_wp2_with fail
  go_at_call 10
  refine H.mono ?_
  rintro e w' ⟨rfl, rfl⟩
  clear H CW
  go_wp2
  go_ret
  exact ⟨rfl, b3.trans b4⟩
end Go.Proofs.Ythelchhmjcpafaa
