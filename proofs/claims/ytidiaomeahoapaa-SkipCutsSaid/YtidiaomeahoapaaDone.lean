/- One act. -/
import Derived.Test.YtidiaomeahoapaaNone
import Derived.Test.YtidiaomeahoapaaOpen
namespace Go.Proofs.Ytidiaomeahoapaa
open Go.RowKit Go.Shelf
attribute [local go_sem] Oper.semAt_some

/-- The first twelve bytes. -/
def cut12 (s : ByteArray) : ByteArray := s.extract 0 (min s.size 12)
theorem cut12_size (s : ByteArray) : (cut12 s).size ≤ 281474976710656 := by unfold cut12; simp; omega

theorem loadVar32 {W : World} {b : Nat} {v0 v1 : Value} (h : Blk W b 32 #[v0, v1]) : (loadVar 32 ⟨b, 0, none⟩).run Try.prog W = .ok (.agg #[v0, v1]) W :=
  run_loadVar_row _ _ 32 32 #[v0, v1] (0, 0) _ h Try.underlying32 rfl (by kernel_rfl)
set_option maxRecDepth 100000 in
set_option maxHeartbeats 2000000 in
theorem few_any (m : ByteArray) (hs : m.size ≤ 9223372036854775807) (s : Int) (w : World) : Calls Try.prog 30 #[.agg #[.string m, .int .i64 s]] w fun e w' => e = .returned (.agg #[.string (cut12 m), .int .i64 s]) ∧ Below w.heap.size w w' := by
  unfold cut12
  obtain ⟨q, hq⟩ : ∃ q, q = min m.size 12 := ⟨_, rfl⟩
  have hmin : min (m.size : Int) 12 = (q : Int) := by omega
  have hsl := fun W : World => run_slice_string (P := Try.prog) W 9 m .i64 .i64 0 (q : Int) Try.underlying9 (by omega) (by omega) (by omega)
  have kE := (Blk.new w 32 #[.string m, .int .i64 s]).alloc (Obj.cells #[.string ⟨#[]⟩, .int .i64 0] 32)
  have kR := Blk.new (w.alloc (.cells #[.string m, .int .i64 s] 32)) 32 #[.string ⟨#[]⟩, .int .i64 0]
  simp only [World.size_alloc] at kR
  have hb1 : Below w.heap.size w ((w.alloc (.cells #[.string m, .int .i64 s] 32)).alloc (.cells #[.string ⟨#[]⟩, .int .i64 0] 32)) := ((Below.refl _ _).alloc (Nat.le_refl _) _).alloc (by simp) _
  have KR := Lib.hid kR
  have HB := Lib.hid hb1
  rw [← hq]
  clear hq kE kR hb1
  go_enter Try.func30, Try.ntmps30
  go_wp2_with fail
  go_region
  all_goals go_wp2_with fail
  have kR := (Blk.new (w.alloc (.cells #[.string m, .int .i64 s] 32)) 32 #[.string (m.extract 0 q), .int .i64 s]).drew
  simp only [World.size_alloc] at kR
  refine bodyPost_ret (results_cell Try.results30 (b := ⟨w.heap.size + 1, 0, none⟩) rfl (loadVar32 kR)) rfl ?_
  exact ⟨rfl, (((Below.refl _ _).alloc (Nat.le_refl _) _).alloc (by simp) _).drew⟩

/-- What a list holds, told by entries and levels. -/
abbrev En := ByteArray × Int × Nat
def er (x : Nd) : En := (x.m, x.s, x.l)
def posM (M : List En) (m : ByteArray) (s : Int) : Nat := (M.takeWhile fun y => lessE y.1 y.2.1 m s).length
def hasM (M : List En) (m : ByteArray) (s : Int) : Bool := match M[posM M m s]? with
  | some y => decide (y.1 = m ∧ y.2.1 = s)
  | none => false
def insM (M : List En) (m : ByteArray) (s : Int) (l : Nat) : List En := M.take (posM M m s) ++ (m, s, l) :: M.drop (posM M m s)
def cutM (M : List En) (a b : Nat) : List En := M.take a ++ M.drop b
theorem pos_er (L : List Nd) (m : ByteArray) (s : Int) : posM (L.map er) m s = pos L m s := by
  unfold posM pos
  induction L with
  | nil => rfl
  | cons x L ih =>
    rw [List.map_cons]
    by_cases h : lessE x.m x.s m s = true
    · simp [er, h]; simpa [er] using ih
    · simp [er, h]
theorem has_er (L : List Nd) (m : ByteArray) (s : Int) : hasM (L.map er) m s = has L m s := by
  unfold hasM has
  rw [pos_er, List.getElem?_map]
  cases L[pos L m s]? <;> rfl
theorem put_er (L : List Nd) (x : Nd) : (putL L x).map er = insM (L.map er) x.m x.s x.l := by
  unfold putL insM
  rw [pos_er, List.map_append, List.map_cons, List.map_take, List.map_drop]; rfl
theorem cut_er (L : List Nd) (a b : Nat) : (L.take a ++ L.drop b).map er = cutM (L.map er) a b := by
  unfold cutM
  rw [List.map_append, List.map_take, List.map_drop]

/-- Where a cut begins and ends. -/
def from0 (f : Int) : Nat := (max f 0).toNat
def to0 (t : Int) (n : Nat) : Nat := (min t n).toNat
/-- What an act tells, and what it leaves. -/
def kd (x : Ac) : Nat := (x.d % 8).toNat
def resM (x : Ac) (M : List En) : Int :=
  if kd x < 4 then (if hasM M (cut12 x.m) x.s then 90 else 0)
  else if kd x < 6 then (if hasM M (cut12 x.m) x.s then 1 else 0)
  else if kd x = 6 then posM M (cut12 x.m) x.s
  else if from0 x.f < to0 x.t M.length then (to0 x.t M.length : Int) - from0 x.f else 0
def effM (x : Ac) (l : Nat) (M : List En) : List En :=
  if kd x < 4 then (if hasM M (cut12 x.m) x.s then M else insM M (cut12 x.m) x.s l)
  else if kd x < 6 then (if hasM M (cut12 x.m) x.s then cutM M (posM M (cut12 x.m) x.s) (posM M (cut12 x.m) x.s + 1) else M)
  else if kd x = 6 then M
  else if from0 x.f < to0 x.t M.length then cutM M (from0 x.f) (to0 x.t M.length) else M

/-- A list behind an act. -/
structure Act1 (w w' : World) (p : Nat) (L : List Nd) (M : List En) : Prop where
  ex : ∃ L', L'.map er = M ∧ Ls w' p L' ∧ (∀ k, isB (hd p :: L') k → isB (hd p :: L) k ∨ w.heap.size ≤ k)
  far : Far (isB (hd p :: L)) w w'
theorem Act1.same {w w' : World} {p : Nat} {L : List Nd} (h : Ls w p L) (hb : Below w.heap.size w w') : Act1 w w' p L (L.map er) := ⟨⟨L, rfl, h.later hb, fun _ hk => .inl hk⟩, Far.of_below hb⟩
theorem Act1.put {w w' : World} {p : Nat} {L : List Nd} {nb l : Nat} {m : ByteArray} {s : Int} (hn : w.heap.size ≤ nb) (hf : Far (isB (hd p :: L)) w w') (h : Ls w' p (putL L ⟨nb, m, s, l⟩)) : Act1 w w' p L (insM (L.map er) m s l) :=
  ⟨⟨_, put_er L ⟨nb, m, s, l⟩, h, fun k ⟨x, hx, e⟩ => by
    rcases List.mem_cons.1 hx with rfl | hx
    · exact .inl ⟨_, List.mem_cons_self .., e⟩
    · unfold putL at hx
      rcases List.mem_append.1 hx with hx | hx
      · exact .inl ⟨x, List.mem_cons_of_mem _ (List.mem_of_mem_take hx), e⟩
      · rcases List.mem_cons.1 hx with rfl | hx
        · exact .inr (e ▸ hn)
        · exact .inl ⟨x, List.mem_cons_of_mem _ (List.mem_of_mem_drop hx), e⟩⟩, hf⟩
theorem Act1.cut {w w' : World} {p : Nat} {L : List Nd} {a b : Nat} (hf : Far (isB (hd p :: L)) w w') (h : Ls w' p (L.take a ++ L.drop b)) : Act1 w w' p L (cutM (L.map er) a b) :=
  ⟨⟨_, cut_er L a b, h, fun k ⟨x, hx, e⟩ => by
    rcases List.mem_cons.1 hx with rfl | hx
    · exact .inl ⟨_, List.mem_cons_self .., e⟩
    · rcases List.mem_append.1 hx with hx | hx
      · exact .inl ⟨x, List.mem_cons_of_mem _ (List.mem_of_mem_take hx), e⟩
      · exact .inl ⟨x, List.mem_cons_of_mem _ (List.mem_of_mem_drop hx), e⟩⟩, hf⟩
theorem Act1.before {w0 w w' : World} {p : Nat} {L : List Nd} {M : List En} (h : Act1 w w' p L M) (hb : Below w0.heap.size w0 w) : Act1 w0 w' p L M := by
  obtain ⟨⟨L', h1, h2, h3⟩, hf⟩ := h
  exact ⟨⟨L', h1, h2, fun k hk => by rcases h3 k hk with h | h; exact .inl h; exact .inr (Nat.le_trans hb.size h)⟩, (Far.of_below hb).trans hf (fun k hk => .inl hk)⟩

variable {w : World} {p : Nat} {L : List Nd}
theorem insert_act (h : Ls w p L) (hN : L.length ≤ 100000) (m : ByteArray) (hm : m.size ≤ 281474976710656) (s : Int) (l : Nat) (hl : 0 < l ∧ l ≤ 32) :
    Calls Try.prog 27 #[.pointer (some ⟨p, 0, none⟩), .agg #[.string m, .int .i64 s], .int .i64 l] w fun e w' => e = .returned (.int .i64 (if hasM (L.map er) m s then 90 else 0)) ∧ Act1 w w' p L (if hasM (L.map er) m s then L.map er else insM (L.map er) m s l) :=
  (insert_ls h hN m hm s l hl).mono fun e w' hp => by
    rw [has_er]
    cases hh : has L m s with
    | true => obtain ⟨h1, h2⟩ := hp.1 hh; exact ⟨h1, Act1.same h h2⟩
    | false => obtain ⟨h1, nb, hn, hf, hl⟩ := hp.2 hh; exact ⟨h1, Act1.put hn hf hl⟩
theorem delete_act (h : Ls w p L) (hN : L.length ≤ 100000) (m : ByteArray) (s : Int) :
    Calls Try.prog 28 #[.pointer (some ⟨p, 0, none⟩), .agg #[.string m, .int .i64 s]] w fun e w' => e = .returned (.bool (hasM (L.map er) m s)) ∧ Act1 w w' p L (if hasM (L.map er) m s then cutM (L.map er) (posM (L.map er) m s) (posM (L.map er) m s + 1) else L.map er) :=
  (delete_ls h hN m s).mono fun e w' hp => by
    rw [has_er, pos_er]
    cases hh : has L m s with
    | true => obtain ⟨h1, h2, h3⟩ := hp.2 hh; exact ⟨h1, Act1.cut h2 h3⟩
    | false => obtain ⟨h1, h2⟩ := hp.1 hh; exact ⟨h1, Act1.same h h2⟩
theorem seek_act (h : Ls w p L) (hN : L.length ≤ 100000) (m : ByteArray) (s : Int) :
    Calls Try.prog 25 #[.pointer (some ⟨p, 0, none⟩), .agg #[.string m, .int .i64 s]] w fun e w' => e = .returned (.tuple #[.int .i64 (posM (L.map er) m s), .bool (hasM (L.map er) m s)]) ∧ Act1 w w' p L (L.map er) :=
  (seek_ls h hN m s).mono fun e w' hp => by
    rw [has_er, pos_er]
    exact ⟨hp.1, Act1.same h hp.2⟩
theorem cut_act (h : Ls w p L) (hN : L.length ≤ 100000) (f t : Int) :
    Calls Try.prog 29 #[.pointer (some ⟨p, 0, none⟩), .int .i64 f, .int .i64 t] w fun e w' => e = .returned (.int .i64 (if from0 f < to0 t (L.map er).length then (to0 t (L.map er).length : Int) - from0 f else 0)) ∧ Act1 w w' p L (if from0 f < to0 t (L.map er).length then cutM (L.map er) (from0 f) (to0 t (L.map er).length) else L.map er) := by
  rw [List.length_map]
  by_cases hab : from0 f < to0 t L.length
  · rw [if_pos hab, if_pos hab]
    refine (cut_ls h hN f t (from0 f) (to0 t L.length) (by unfold from0; omega) (by unfold from0 to0 at *; omega) hab).mono ?_
    rintro e w' ⟨h1, h2, h3⟩
    exact ⟨h1, Act1.cut h2 h3⟩
  · rw [if_neg hab, if_neg hab]
    refine (cut_none p L rfl w h.sk f t (by unfold from0 to0 at hab; omega)).mono ?_
    rintro e w' ⟨h1, rfl⟩
    exact ⟨h1, Act1.same h (Below.refl _ _)⟩
end Go.Proofs.Ytidiaomeahoapaa
