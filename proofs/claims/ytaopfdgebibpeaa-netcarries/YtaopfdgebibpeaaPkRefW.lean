/-
  Contracts: the reference's Num, Text, List, Word.
-/
import Derived.Test.YtaopfdgebibpeaaPkWrites
namespace Go.Proofs.Ytaopfdgebibpeaa.pk
open Go.Proofs.Ytaopfdgebibpeaa
open Go.ChangeShapes Go.WideShapes Go.ChangeAt Go.RowKit Go.PlainAid

theorem conv_one (x : Int) (h0 : 0 ≤ x) (h1 : x < 256) (u : World) : (convert 54 9 (Value.slice (some { block := u.heap.size, off := 0 }) 1 1)).run Try.prog (u.alloc (Obj.cells #[Value.int IntKind.u8 x] 5)) = .ok (.string (mk [UInt8.ofNat x.toNat])) (u.alloc (Obj.cells #[Value.int IntKind.u8 x] 5)) :=
  run_convert_bytes_back _ 54 9 5 ⟨u.heap.size, 0, none⟩ 1 [UInt8.ofNat x.toNat] Try.underlying54 Try.underlying5 Try.underlying9 (fun j hj => by
    have e0 := byte_val x h0 h1
    match j, hj with
    | 0, _ => simp only [List.getElem_cons_zero, e0]; simp [Addr.add])

theorem conv_byte (x : Nat) (y : Int) (hy : (x : Int) = y) (h1 : x < 256) : ∃ b : UInt8, b = UInt8.ofNat x ∧ ∀ u : World, (convert 54 9 (Value.slice (some { block := u.heap.size, off := 0 }) 1 1)).run Try.prog (u.alloc (Obj.cells #[Value.int IntKind.u8 y] 5)) = .ok (.string (mk [b])) (u.alloc (Obj.cells #[Value.int IntKind.u8 y] 5)) := by
  refine ⟨_, rfl, fun u => ?_⟩
  have := conv_one y (by omega) (by omega) u
  rwa [show y.toNat = x by omega] at this

theorem add_mk (a b : List UInt8) (W : World) (h : a.length + b.length ≤ 9223372036854775807) : (Op.stringOp .add (mk a) (mk b)).run Try.prog W = .ok (.string (mk (a ++ b))) W := by
  rw [run_string_add_sum W _ _ (by rw [mk_size, mk_size]; exact h)]
  congr 2


theorem mk_nil : mk [] = ⟨#[]⟩ := rfl



end Go.Proofs.Ytaopfdgebibpeaa.pk
