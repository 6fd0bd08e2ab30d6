/- The byte's type, as the program has it; slices of new memory. -/
import Derived.Test.YtpjojhmdgeejmaaLib
import Derived.Test.YtpjojhmdgeejmaaProg
namespace Go.Proofs.Ytpjojhmdgeejmaa
open Go.RowKit
theorem infoU8 : (Try.prog.info? 5).map (fun i => (i.zero, i.size, i.bytes)) = some (some (.int .u8 0), 1, 1) := by kernel_rfl
theorem conv_own {w : World} {base g c : Nat} {zs : List Int} (h : w.ownsRow base 5 1 (.slice (some ⟨g, 0, none⟩) zs.length c) zs.length (zs.map (Value.int .u8))) (hb : Bytes8 zs) :
    (convert 22 9 (.slice (some ⟨g, 0, none⟩) zs.length c)).run Try.prog w = .ok (.string (strOfNums zs)) w :=
  conv_in (P := Try.prog) (InBytes.of_own h hb) 22 5 9 Try.underlying22 Try.underlying5 Try.underlying9
/-- A slice of new memory that holds the bytes zs. -/
def OwnPost (w : World) (zs : List Int) (e : Ending) (w' : World) : Prop :=
  ∃ g c, e = .returned (.slice (some ⟨g, 0, none⟩) zs.length c) ∧ w'.ownsRow w.heap.size 5 1 (.slice (some ⟨g, 0, none⟩) zs.length c) zs.length (zs.map (Value.int .u8)) ∧ Below w.heap.size w w'
end Go.Proofs.Ytpjojhmdgeejmaa
