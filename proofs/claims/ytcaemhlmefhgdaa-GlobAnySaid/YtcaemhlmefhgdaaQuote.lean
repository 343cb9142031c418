/- Quote, and the reference's: what they answer. -/
import Derived.Test.YtcaemhlmefhgdaaPlain
namespace Go.Proofs.Ytcaemhlmefhgdaa
open Go.RowKit

theorem quoteL_append : ∀ a b : List UInt8, quoteL (a ++ b) = quoteL a ++ quoteL b
  | [], b => rfl
  | x :: a, b => by
    rw [List.cons_append, quoteL, quoteL, quoteL_append a b]; split <;> simp
theorem quoteL_length : ∀ l : List UInt8, (quoteL l).length ≤ 2 * l.length
  | [] => by simp [quoteL]
  | x :: l => by
    have := quoteL_length l
    rw [quoteL]; split <;> simp <;> omega

def byteCells (l : List UInt8) : List Value := l.map fun b => Value.int .u8 (b.toNat : Int)
theorem byteCells_append (a b : List UInt8) : byteCells (a ++ b) = byteCells a ++ byteCells b := by simp [byteCells]
theorem byteCells_length (a : List UInt8) : (byteCells a).length = a.length := by simp [byteCells]

/-- Quoted so far. -/
structure QRel (s : ByteArray) (w wr : World) (k : Nat) (v : Value) (n : Nat) (xs : List Value) : Prop where
  le : k ≤ s.size
  own : wr.ownsRow w.heap.size 5 1 v n xs
  cells : xs = byteCells (quoteL (s.data.toList.take k))
  below : Below w.heap.size w wr
  few : n ≤ 2 * k

theorem take_byte {s : ByteArray} {k : Nat} (hk : k < s.size) : s.data.toList.take (k + 1) = s.data.toList.take k ++ [s[k]] := by
  rw [List.take_succ_eq_append_getElem (by simpa using hk)]; rfl

theorem QRel.room {s : ByteArray} {w wr : World} {k n : Nat} {v : Value} {xs : List Value} (h : QRel s w wr k v n xs) (o : Obj) : w.heap.size ≤ (wr.alloc o).heap.size := by
  have := h.below.size; simp; omega
theorem QRel.one {s : ByteArray} {w wr w2 : World} {k n : Nat} {v v2 : Value} {xs : List Value} {o : Obj} (h : QRel s w wr k v n xs) (hk : k < s.size) (hs : Hid (specialB s[k] = false))
    (hown : w2.ownsRow w.heap.size 5 1 v2 (n + 1) (xs ++ [.int .u8 (s[k].toNat : Int)])) (hg : (wr.alloc o).grownBy w2 v.ownBlock) : QRel s w w2 (k + 1) v2 (n + 1) (xs ++ [.int .u8 (s[k].toNat : Int)]) := by
  have hb := h.below.size
  refine ⟨by omega, hown, ?_, (h.below.alloc hb o).grown hg (h.room o) fun j hj => (own_type h.own j hj).1, by have := h.few; omega⟩
  rw [h.cells, take_byte hk, quoteL_append, byteCells_append, quoteL, hs.out]
  rfl
theorem QRel.two {s : ByteArray} {w wr w2 w3 : World} {k n gg cap : Nat} {v v3 : Value} {xs : List Value} {o o' : Obj} (h : QRel s w wr k v n xs) (hk : k < s.size) (hs : Hid (specialB s[k] = true))
    (hown : w2.ownsRow w.heap.size 5 1 (.slice (some ⟨gg, 0, none⟩) (n + 1) cap) (n + 1) (xs ++ [.int .u8 92])) (hg : (wr.alloc o).grownBy w2 v.ownBlock)
    (hown3 : w3.ownsRow w.heap.size 5 1 v3 (n + 1 + 1) (xs ++ [.int .u8 92] ++ [.int .u8 (s[k].toNat : Int)])) (hg3 : (w2.alloc o').grownBy w3 (Value.slice (some ⟨gg, 0, none⟩) (n + 1) cap).ownBlock) :
    QRel s w w3 (k + 1) v3 (n + 1 + 1) (xs ++ [.int .u8 92] ++ [.int .u8 (s[k].toNat : Int)]) := by
  have hb := h.below.size
  have hb2 : Below w.heap.size w w2 := (h.below.alloc hb o).grown hg (h.room o) fun j hj => (own_type h.own j hj).1
  have hs2 := hb2.size
  refine ⟨by omega, hown3, ?_, (hb2.alloc hs2 o').grown hg3 (by simp; omega) fun j hj => (own_type hown j hj).1, by have := h.few; omega⟩
  rw [h.cells, take_byte hk, quoteL_append, byteCells_append, quoteL, hs.out]
  simp [byteCells, quoteL]

theorem QRel.news {w : World} {b : Int} : ∀ j u, [Value.int .u8 b][j]? = some u → (w.alloc (Obj.cells #[.int .u8 b] 5)).cell? ((⟨w.heap.size, 0, none⟩ : Addr).add j) = some u :=
  World.news_of_block (cs := #[.int .u8 b]) (t := 5) (fr := (0, 0)) (heap_alloc_new _ _)

/-- string(quoted), whatever it lies in. -/
theorem QRel.text {s : ByteArray} {w wr : World} {k n : Nat} {v : Value} {xs : List Value} (h : QRel s w wr k v n xs) (hk : ¬ k < s.size) :
    (convert 33 9 v).run Try.prog wr = .ok (.string ⟨(quoteL s.data.toList).toArray⟩) wr := by
  have hc : xs = byteCells (quoteL s.data.toList) := by rw [h.cells, List.take_of_length_le (by simpa using hk)]
  have hl : n = (quoteL s.data.toList).length := by have := h.own.1; rw [hc, byteCells_length] at this; omega
  rcases h.own.2 with ⟨rfl, h0⟩ | ⟨g, cap, cur, rfl, hb, hg, hcap, hm, hsz, htake⟩
  · have : quoteL s.data.toList = [] := List.eq_nil_of_length_eq_zero (by omega)
    rw [this]
    exact run_convert_bytes_nil wr 33 5 Try.underlying33 Try.underlying5 0 0 9 Try.underlying9
  · subst hl
    refine run_convert_bytes_back wr 33 9 5 ⟨g, 0, none⟩ cap (quoteL s.data.toList) Try.underlying33 Try.underlying5 Try.underlying9 fun j hj => ?_
    refine World.ownsRow.cells h.own (g := g) rfl j _ ?_
    rw [hc, byteCells, List.getElem?_map, List.getElem?_eq_getElem hj]; rfl

theorem qroom2 {s : ByteArray} {w wr w2 : World} {k n : Nat} {v : Value} {xs : List Value} {o : Obj} (h : QRel s w wr k v n xs) (hg : (wr.alloc o).grownBy w2 v.ownBlock) (o' : Obj) : w.heap.size ≤ (w2.alloc o').heap.size := by
  have h1 := h.below.size; have h2 := hg.size; simp at h2 ⊢; omega
theorem wrap32_byte (b : UInt8) : wrap32 (b.toNat : Int) = (b.toNat : Int) := by
  have := b.toNat_lt
  unfold wrap32; omega

theorem any_found {s : ByteArray} {k : Nat} (hk : k < s.size) (h : Hid (specialB s[k] = true)) : false = !s.data.toList.any specialB := by
  have : s.data.toList.any specialB = true := by
    rw [List.any_eq_true]
    exact ⟨s[k], Array.getElem_mem_toList (xs := s.data) hk, h.out⟩
  rw [this]; rfl

def QuotePost (s : ByteArray) (w : World) (e : Ending) (w' : World) : Prop := e = .returned (.string ⟨(quoteL s.data.toList).toArray⟩) ∧ Below w.heap.size w w'

set_option maxHeartbeats 1000000 in
theorem quote_any (s : ByteArray) (w : World) (hs : s.size ≤ 100000) : Calls Try.prog 13 #[.string s] w (QuotePost s w) := by
  obtain ⟨i0, hi0, hz0, hz1, hz2⟩ := info_parts info5
  go_enter Try.func13, Try.ntmps13
  go_wp2
  go_loopw [7, 3] (fun i l wr => ∃ (k n : Nat) (v : Value) (xs : List Value), i = .int .i64 k ∧ v = l ∧ QRel s w wr k v n xs) (fun i _ _ => s.size - (intOf i).toNat)
  case atStart => exact ⟨0, 0, .slice none 0 0, [], rfl, rfl, ⟨Nat.zero_le _, World.ownsRow_nil _ _ _ _, rfl, Below.refl _ _, by omega⟩⟩
  case round =>
    obtain ⟨k, n, v, xs, rfl, rfl, hQ⟩ := hrel
    have hfew := hQ.few
    by_cases hlt : k < s.size
    · have HS := Lib.hid (special_any (s[k].toNat : Int) wr)
      rw [special_byte] at HS
      have hw32 : wrap32 (s[k].toNat : Int) = (s[k].toNat : Int) := by have := s[k].toNat_lt; exact wrap32_byte _
      have HO := Lib.hid hQ.own
      cases hsp : specialB s[k]
      all_goals rw [hsp] at HS
      all_goals have HP := Lib.hid hsp
      all_goals clear hsp
      · go_wp2_with fail
        refine HS.out.mono ?_
        rintro e w1 ⟨rfl, rfl⟩
        clear HS hw32
        go_wp2_with (at_builtin; refine wpList_append_lies _ rfl (.tmp 18) (.tmp 22) 33 rfl w.heap.size 5 i0 _ 1 1 Try.underlying33 hi0 hz0 hz1 hz2 rfl (by omega) v n xs rfl (HO.out.alloc _) ⟨wr.heap.size, 0, none⟩ 1 1 [.int .u8 (s[k].toNat : Int)] rfl rfl QRel.news (by simp [Value.oneCell']) (by omega) (by unfold maxLen; omega) (by omega) (hQ.room _) (wr.heap.size + 1) (by simp) ?_; intro gg cap w2 hown2 hgrow2 hat2 hlt2)
        go_roundw
        case rel => exact ⟨k + 1, n + 1, _, _, by go_num, rfl, hQ.one hlt HP hown2 hgrow2⟩
        case measure => simp [intOf]; omega
      · go_wp2_with fail
        refine HS.out.mono ?_
        rintro e w1 ⟨rfl, rfl⟩
        clear HS hw32
        go_wp2_with (first | (at_builtin; refine wpList_append_lies _ rfl (.tmp 15) (.tmp 16) 33 rfl w.heap.size 5 i0 _ 1 1 Try.underlying33 hi0 hz0 hz1 hz2 rfl (by omega) v n xs rfl (HO.out.alloc _) ⟨wr.heap.size, 0, none⟩ 1 1 [.int .u8 92] rfl rfl QRel.news (by simp [Value.oneCell']) (by omega) (by unfold maxLen; omega) (by omega) (hQ.room _) (wr.heap.size + 1) (by simp) ?_; intro gg cap w2 hown2 hgrow2 hat2 hlt2) | (at_builtin; refine wpList_append_lies _ rfl (.tmp 18) (.tmp 22) 33 rfl w.heap.size 5 i0 _ 1 1 Try.underlying33 hi0 hz0 hz1 hz2 rfl (by omega) _ (n + 1) (xs ++ [.int .u8 92]) rfl (hown2.alloc _) ⟨w2.heap.size, 0, none⟩ 1 1 [.int .u8 (s[k].toNat : Int)] rfl rfl QRel.news (by simp [Value.oneCell']) (by omega) (by unfold maxLen; omega) (by omega) (qroom2 hQ hgrow2 _) (w2.heap.size + 1) (by simp) ?_; intro gg3 cap3 w3 hown3 hgrow3 hat3 hlt3))
        go_roundw
        case rel => exact ⟨k + 1, n + 1 + 1, _, _, by go_num, rfl, hQ.two hlt HP hown2 hgrow2 hown3 hgrow3⟩
        case measure => simp [intOf]; omega
    · have hcv := hQ.text hlt
      go_wp2
      go_ret
      exact ⟨rfl, hQ.below⟩

set_option maxHeartbeats 1000000 in
theorem quote_ref (s : ByteArray) (w : World) (hs : s.size ≤ 100000) : Calls Try.prog 14 #[.string s] w (QuotePost s w) := by
  obtain ⟨i0, hi0, hz0, hz1, hz2⟩ := info_parts info5
  go_enter Try.func14, Try.ntmps14
  go_wp2
  go_loopw [4, 3] (fun i l wr => ∃ (k n : Nat) (v : Value) (xs : List Value), i = .int .i64 k ∧ v = l ∧ QRel s w wr k v n xs) (fun i _ _ => s.size - (intOf i).toNat)
  case atStart => exact ⟨0, 0, .slice none 0 0, [], rfl, rfl, ⟨Nat.zero_le _, World.ownsRow_nil _ _ _ _, rfl, Below.refl _ _, by omega⟩⟩
  case round =>
    obtain ⟨k, n, v, xs, rfl, rfl, hQ⟩ := hrel
    have hfew := hQ.few
    by_cases hlt : k < s.size
    · have HS := Lib.hid (special_ref s[k] wr)
      have HO := Lib.hid hQ.own
      cases hsp : specialB s[k]
      all_goals rw [hsp] at HS
      all_goals have HP := Lib.hid hsp
      all_goals clear hsp
      · go_wp2_with fail
        refine HS.out.mono ?_
        rintro e w1 ⟨rfl, rfl⟩
        clear HS
        go_wp2_with (at_builtin; refine wpList_append_lies _ rfl (.tmp 18) (.tmp 22) 33 rfl w.heap.size 5 i0 _ 1 1 Try.underlying33 hi0 hz0 hz1 hz2 rfl (by omega) v n xs rfl (HO.out.alloc _) ⟨wr.heap.size, 0, none⟩ 1 1 [.int .u8 (s[k].toNat : Int)] rfl rfl QRel.news (by simp [Value.oneCell']) (by omega) (by unfold maxLen; omega) (by omega) (hQ.room _) (wr.heap.size + 1) (by simp) ?_; intro gg cap w2 hown2 hgrow2 hat2 hlt2)
        go_roundw
        case rel => exact ⟨k + 1, n + 1, _, _, by go_num, rfl, hQ.one hlt HP hown2 hgrow2⟩
        case measure => simp [intOf]; omega
      · go_wp2_with fail
        refine HS.out.mono ?_
        rintro e w1 ⟨rfl, rfl⟩
        clear HS
        go_wp2_with (first | (at_builtin; refine wpList_append_lies _ rfl (.tmp 15) (.tmp 16) 33 rfl w.heap.size 5 i0 _ 1 1 Try.underlying33 hi0 hz0 hz1 hz2 rfl (by omega) v n xs rfl (HO.out.alloc _) ⟨wr.heap.size, 0, none⟩ 1 1 [.int .u8 92] rfl rfl QRel.news (by simp [Value.oneCell']) (by omega) (by unfold maxLen; omega) (by omega) (hQ.room _) (wr.heap.size + 1) (by simp) ?_; intro gg cap w2 hown2 hgrow2 hat2 hlt2) | (at_builtin; refine wpList_append_lies _ rfl (.tmp 18) (.tmp 22) 33 rfl w.heap.size 5 i0 _ 1 1 Try.underlying33 hi0 hz0 hz1 hz2 rfl (by omega) _ (n + 1) (xs ++ [.int .u8 92]) rfl (hown2.alloc _) ⟨w2.heap.size, 0, none⟩ 1 1 [.int .u8 (s[k].toNat : Int)] rfl rfl QRel.news (by simp [Value.oneCell']) (by omega) (by unfold maxLen; omega) (by omega) (qroom2 hQ hgrow2 _) (w2.heap.size + 1) (by simp) ?_; intro gg3 cap3 w3 hown3 hgrow3 hat3 hlt3))
        go_roundw
        case rel => exact ⟨k + 1, n + 1 + 1, _, _, by go_num, rfl, hQ.two hlt HP hown2 hgrow2 hown3 hgrow3⟩
        case measure => simp [intOf]; omega
    · have hcv := hQ.text hlt
      go_wp2
      go_ret
      exact ⟨rfl, hQ.below⟩

theorem runesAt_rl (s : ByteArray) : ∀ (f pos : Nat), runesAt s f pos = rl f (s.data.toList.drop pos)
  | 0, pos => by simp [runesAt, rl]
  | f + 1, pos => by
    rw [runesAt]
    split
    · rename_i h
      have h' : pos < s.data.toList.length := by simpa using h
      rw [List.drop_eq_getElem_cons h', rl, ← List.drop_eq_getElem_cons h', dec_eq, runesAt_rl s f, List.drop_drop]
    · rename_i h
      rw [List.drop_eq_nil_of_le (by simpa using h)]; rfl
theorem runesS_L (s : ByteArray) : runesS s = runesL s.data.toList := by
  rw [runesS, runesAt_rl, List.drop_zero, runesL]
  rfl
theorem plainS_bytes (s : ByteArray) : plainS s = !s.data.toList.any specialB := by
  rw [plainS, runesS_L, plain_runes _ _ (Nat.le_refl _)]

set_option maxHeartbeats 400000 in
theorem plain_ref (s : ByteArray) (w : World) (hs : s.size ≤ 100000) : Calls Try.prog 12 #[.string s] w fun e w' => e = .returned (.bool (plainS s)) ∧ w' = w := by
  go_enter Try.func12, Try.ntmps12
  go_wp2
  go_loop [3] (fun i => ∃ k : Nat, k ≤ s.size ∧ i = .int .i64 k ∧ Aside ((s.data.toList.take k).any specialB = false)) (fun i => s.size - (intOf i).toNat)
  case atStart => exact ⟨0, Nat.zero_le _, rfl, rfl⟩
  case round =>
    obtain ⟨k, hk, rfl, hA⟩ := hrel
    by_cases hlt : k < s.size
    · have HS := fun w => Lib.hid (special_ref s[k] w)
      cases hsp : specialB s[k]
      all_goals rw [hsp] at HS
      all_goals have HP := Lib.hid hsp
      all_goals clear hsp
      · go_wp2_with fail
        refine (HS _).out.mono ?_
        rintro e w1 ⟨rfl, rfl⟩
        go_wp2
        go_round
        case rel => exact ⟨k + 1, by omega, by go_num, by show _ = _; rw [take_byte hlt, List.any_append, hA.out]; simp [HP.out]⟩
        case measure => simp [intOf]; omega
      · go_wp2_with fail
        refine (HS _).out.mono ?_
        rintro e w1 ⟨rfl, rfl⟩
        go_wp2
        go_ret
        exact ⟨ret_bool (by rw [plainS_bytes]; exact any_found hlt HP), rfl⟩
    · go_wp2
      go_ret
      exact ⟨ret_bool (by have := hA.out; rw [List.take_of_length_le (by simpa using hlt)] at this; rw [plainS_bytes, this]; rfl), rfl⟩

theorem count_ref (s : ByteArray) (w : World) (hs : s.size ≤ 100000) : Calls Try.prog 16 #[.string s] w fun e w' => e = .returned (.int .i64 ((runesS s).length : Int)) ∧ Below w.heap.size w w' := by
  obtain ⟨cap, hcap, hrun⟩ := run_runes w s hs
  have hb := Lib.hid (runesWorld_below w s cap)
  have hl := runesS_length s
  generalize runesWorld w s cap = w1 at *
  go_enter Try.func16, Try.ntmps16
  go_wp2
  go_ret
  exact ⟨rfl, hb.out⟩

end Go.Proofs.Ytcaemhlmefhgdaa
