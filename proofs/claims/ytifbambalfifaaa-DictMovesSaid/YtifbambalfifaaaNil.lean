/- A nil dict has nothing. -/
import Derived.Test.YtifbambalfifaaaLaw
namespace Go.Proofs.Ytifbambalfifaaa
open Go.RowKit Go.Shelf
attribute [local go_sem] Oper.semAt_some

theorem nil_moving (w : World) : Calls Try.prog 62 #[.pointer none] w fun e w' => e = .returned (.bool false) ∧ w' = w := by
  go_enter Try.func62, Try.ntmps62
  go_wp2
  go_ret
  exact ⟨rfl, rfl⟩
theorem nil_len (w : World) : Calls Try.prog 14 #[.pointer none] w fun e w' => e = .returned (.int .i64 0) ∧ w' = w := by
  go_enter Try.func14, Try.ntmps14
  go_wp2
  go_ret
  exact ⟨rfl, rfl⟩
theorem nil_sizes (w : World) : Calls Try.prog 13 #[.pointer none] w fun e w' => e = .returned (.tuple #[.int .i64 0, .int .i64 0, .int .i64 0]) ∧ w' = w := by
  go_enter Try.func13, Try.ntmps13
  go_wp2
  go_returns
  exact ⟨rfl, rfl⟩
theorem nil_get (key : ByteArray) (w : World) : Calls Try.prog 22 #[.pointer none, .string key] w fun e w' => e = .returned (.tuple #[.int .i64 0, .bool false]) ∧ Below w.heap.size w w' := by
  go_enter Try.func22, Try.ntmps22
  go_wp2
  go_ret2
  exact ⟨rfl, (Below.refl _ _).alloc (Nat.le_refl _) _⟩
theorem nil_set (key : ByteArray) (v : Int) (w : World) : Calls Try.prog 19 #[.pointer none, .string key, .int .i64 v] w fun e w' => e = .returned (.bool false) ∧ Below w.heap.size w w' := by
  go_enter Try.func19, Try.ntmps19
  go_wp2
  go_ret
  exact ⟨rfl, (Below.refl _ _).alloc (Nat.le_refl _) _⟩
theorem nil_del (key : ByteArray) (w : World) : Calls Try.prog 20 #[.pointer none, .string key] w fun e w' => e = .returned (.bool false) ∧ w' = w := by
  go_enter Try.func20, Try.ntmps20
  go_wp2
  go_ret
  exact ⟨rfl, rfl⟩

set_option maxRecDepth 100000 in
set_option maxHeartbeats 4000000 in
theorem nil_unmoved (L : List Nat) (w : World) : SeqF Try.prog 45 #[.pointer none] #[] encI [] L w := by
  intro l J Jx W hW hJ hJx hY hJ0
  refine callsIn_of_wp Try.func45 rfl trivial ?_ rfl
  simp only [Try.ntmps45, List.size_toArray, List.length_cons, List.length_nil, Nat.reduceAdd, Nat.reduceSub, Array.replicate_succ, Array.replicate_zero, List.push_toArray, List.append_toArray, List.nil_append, List.cons_append, List.append_nil]
  clear hY hJ hJx
  gi_wp2_with fail
  refine ⟨trivial, ?_⟩
  refine callsIn_wide.2 (Calls.mono (nil_moving _) ?_)
  rintro e w1 ⟨rfl, rfl⟩
  gi_wp2
  go_returns
  exact ⟨⟨_, rfl⟩, .inl hJ0⟩

set_option maxRecDepth 100000 in
set_option maxHeartbeats 4000000 in
theorem nil_step (n : Int) (w : World) : Calls Try.prog 23 #[.pointer none, .int .i64 n] w fun e w' => e = .returned (.int .i64 0) ∧ Below w.heap.size w w' := by
  refine (callsIn_wide (n := 6)).1 (callsIn_of_wp_marks Try.func23 rfl trivial ?_ rfl)
  refine wpIn_wide.2 ?_
  simp only [Try.ntmps23, List.size_toArray, List.length_cons, List.length_nil, Nat.reduceAdd, Nat.reduceSub, Array.replicate_succ, Array.replicate_zero, List.push_toArray, List.append_toArray, List.nil_append, List.cons_append]
  go_wp2
  refine wp_scope_straight ?_
  go_wp2
  refine wp_label ?_
  go_wp2
  have k3 := Blk.new ((w.alloc (Obj.cells #[Value.pointer none] 25)).alloc (Obj.cells #[Value.int .i64 n] 3)) 3 #[Value.int .i64 0]
  simp only [World.size_alloc] at k3
  have hB := (((Below.refl w.heap.size w).alloc (Nat.le_refl _) (Obj.cells #[Value.pointer none] 25)).alloc (by simp) (Obj.cells #[Value.int .i64 n] 3)).alloc (by simp; omega) (Obj.cells #[Value.int .i64 0] 3)
  have hsz : (((w.alloc (Obj.cells #[Value.pointer none] 25)).alloc (Obj.cells #[Value.int .i64 n] 3)).alloc (Obj.cells #[Value.int .i64 0] 3)).heap.size = w.heap.size + 3 := by simp
  generalize (((w.alloc (Obj.cells #[Value.pointer none] 25)).alloc (Obj.cells #[Value.int .i64 n] 3)).alloc (Obj.cells #[Value.int .i64 0] 3)) = w1 at *
  refine (wpIn_wide (n := 6)).1 (range_f (gf := 45) (fb := #[.pointer none]) (lb := #[]) (encs := encI) (xs := []) (L := []) rfl (enters_of Try.func45 (by kernel_rfl) rfl) (nil_unmoved _ _) (fun _ _ => rfl)
    (fun _ W => Below w.heap.size w W ∧ Blk W (w.heap.size + 2) 3 #[Value.int IntKind.i64 0]) (fun _ _ _ => False)
    ?hI ?hIx ?h0 (fun _ _ _ _ => True) (fun _ _ _ => own_pure _ _) ?assign ?body ?done ?stop)
  case hI => exact (own_below _ w (by omega)).and (own_blk _ _ _ _)
  case hIx => exact fun c => own_pure _ _
  case h0 => exact ⟨hB, k3⟩
  case assign => intro l i x W K hx'; simp at hx'
  case body => intro l i x a' W hx'; simp at hx'
  case done =>
    rintro Dd W hD ⟨hb, q3⟩ hK
    obtain ⟨c3, d3⟩ := facts1 q3
    have HK := Lib.hid hK
    clear hK q3 k3
    simp only [Exit.inBlock, Exit.then]
    go_wp2
    exact leave (v := .int .i64 0) rfl HK.out (by simp [results, Try.results23, go_sem]) ⟨rfl, below_put hb (by omega) _⟩
  case stop =>
    rintro Dd c j W hD hI hK
    exact hI.elim
end Go.Proofs.Ytifbambalfifaaa
