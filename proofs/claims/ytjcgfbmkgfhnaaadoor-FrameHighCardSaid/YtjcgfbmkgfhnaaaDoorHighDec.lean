/- Decode, of arrays within each other. -/
import Derived.Test.YtjcgfbmkgfhnaaaDoorHighDecA
import Derived.Test.YtjcgfbmkgfhnaaaDoorArrOne
namespace Go.Proofs.YtjcgfbmkgfhnaaaDoor
open Go.RowKit Go.Shelf

theorem decode_tow {W : World} {aM aW : Addr} {m : Int} (k : Nat) (hk : k ≤ 8) (hE : Env W aM aW m) (h3 : 3 ≤ W.heap.size) :
    Calls Tryd.prog 11 #[.string (tow k)] W fun e W' => (∃ (x : R4) (t : ByteArray), e = .returned (.tuple #[x.val, .string t, .int .i64 (if k ≤ 4 then 0 else 30)])) ∧ Below W.heap.size W W' := by
  have HR := fun (b : Nat) (W0 : World) (hE0 : Env W0 aM aW m) (hb : 3 ≤ b) (hM : aM.block ≠ b) (hW : aW.block ≠ b) (hR : Reader W0 b (tow k) 0) =>
    reply_tower b hb hM hW (fun t q h hh hh2 w hR HC => array_one b t q h hh hh2 w hR HC) k (by omega) 0 W0 hE0 hR (by omega) (by omega)
  by_cases h4 : k ≤ 4
  · refine (decode_ok (tow k) ⟨#[]⟩ hE h3 fun b W0 hE0 hb hM hW hR => (HR b W0 hE0 hb hM hW hR).1 (by omega)).mono ?_
    rintro e W' ⟨⟨x, rfl⟩, hb⟩
    exact ⟨⟨x, _, by rw [if_pos h4]⟩, hb⟩
  · refine (decode_err (tow k) hE h3 fun b W0 hE0 hb hM hW hR => (HR b W0 hE0 hb hM hW hR).2 (by omega)).mono ?_
    rintro e W' ⟨rfl, hb⟩
    exact ⟨⟨⟨0, 0, ⟨#[]⟩, none, 0, 0⟩, _, by rw [if_neg h4]; rfl⟩, hb⟩
end Go.Proofs.YtjcgfbmkgfhnaaaDoor
