/- The walk of readHead at the examples' line. -/
import Derived.Test.YtpejcdjgggcjlaaGreatDoorC13
import Derived.Test.YtpejcdjgggcjlaaGreatDoorA1
import Derived.Lib.SmallJoins
namespace Go.Proofs.YtpejcdjgggcjlaaGreatDoor
open Go.RowKit Go.Shelf

theorem lin_split0 : Lib.splitB ⟨#[32]⟩ 0 (Lib.countB lin ⟨#[32]⟩) lin = [⟨#[102, 97, 99, 101]⟩, ⟨#[49]⟩, ⟨#[50]⟩, ⟨#[48, 52]⟩] := by decide +kernel
theorem lin_split : ((Lib.splitB ⟨#[32]⟩ 0 (Lib.countB lin ⟨#[32]⟩) lin).map Value.string).toArray = #[.string ⟨#[102, 97, 99, 101]⟩, .string ⟨#[49]⟩, .string ⟨#[50]⟩, .string ⟨#[48, 52]⟩] := by rw [lin_split0]; rfl
theorem lin_count : Lib.countB lin ⟨#[32]⟩ = 3 := by decide +kernel
theorem dig1 : (Lib.decDigits 1).toArray = #[49] := by decide +kernel
theorem dig2 : (Lib.decDigits 2).toArray = #[50] := by decide +kernel
theorem dig4 : (Lib.decDigits 4).toArray = #[52] := by decide +kernel

set_option maxRecDepth 100000 in
set_option maxHeartbeats 4000000 in
theorem readHead_lin (p : Value) (m : Int) (w : World) (hm : w.cell? ⟨0, 0, none⟩ = some (.int .i64 m)) :
    Calls Tryz.prog 89 #[p, .string lin] w fun e w' => e = .returned (.bool false) ∧ Below w.heap.size w w' := by
  have hsz : lin.size < 4294967281 := by decide
  go_enter Tryz.func89, Tryz.ntmps89
  go_wp2_with fail
  refine (Tryz.strings_Split lin ⟨#[32]⟩ m w hsz hm (by decide)).mono ?_
  rintro e w' ⟨rfl, hw'⟩
  rw [lin_split] at hw'
  rw [lin_count]
  subst hw'
  have bw := Box.made w 9 #[.string ⟨#[102, 97, 99, 101]⟩, .string ⟨#[49]⟩, .string ⟨#[50]⟩, .string ⟨#[48, 52]⟩]
  have hb0 : Below w.heap.size w (w.alloc (.cells #[.string ⟨#[102, 97, 99, 101]⟩, .string ⟨#[49]⟩, .string ⟨#[50]⟩, .string ⟨#[48, 52]⟩] 9)) := (Below.refl _ _).alloc (Nat.le_refl _) _
  go_wp2_with fail
  have bz := Box.made (w.alloc (.cells #[.string ⟨#[102, 97, 99, 101]⟩, .string ⟨#[49]⟩, .string ⟨#[50]⟩, .string ⟨#[48, 52]⟩] 9)) 104 #[.int .i64 0, .int .i64 0, .int .i64 0]
  rw [World.size_alloc] at bz
  go_loopw [25] (fun i wr => ∃ (k : Nat) (a b c : Value), k ≤ 2 ∧ i = .int .i64 k ∧ Box wr w.heap.size 9 #[.string ⟨#[102, 97, 99, 101]⟩, .string ⟨#[49]⟩, .string ⟨#[50]⟩, .string ⟨#[48, 52]⟩] ∧
    Box wr (w.heap.size + 1) 104 #[a, b, c] ∧ Below w.heap.size w wr) (fun i _ => 3 - (intOf i).toNat)
  case atStart => exact ⟨0, _, _, _, by omega, rfl, bw.alloc _, bz, hb0.alloc (by simp) _⟩
  case round =>
    clear bw bz hb0
    obtain ⟨k, a, b, c, hk, rfl, bw, bz, hb⟩ := hrel
    have q1 : wr.cell? ⟨w.heap.size, 1, none⟩ = some (.string ⟨#[49]⟩) := bw.cell 1
    have q2 : wr.cell? ⟨w.heap.size, 2, none⟩ = some (.string ⟨#[50]⟩) := bw.cell 2
    have q3 : wr.cell? ⟨w.heap.size, 3, none⟩ = some (.string ⟨#[48, 52]⟩) := bw.cell 3
    have hsz := hb.size
    have hnil : ∀ W, (binOp .neq 106 .nilIface .nilIface).run Tryz.prog W = .ok (.bool false) W := fun W => by kernel_rfl
    rcases k with _ | _ | _ | k
    · go_wp2_with fail
      refine (Tryz.strconv_Atoi ⟨#[49]⟩ 1 (by decide) (by decide +kernel) _).mono ?_
      rintro e W1 ⟨rfl, t, hW1⟩
      have hb1 : Below wr.heap.size wr W1 := by rw [hW1]; exact Joins.below_bytesWorld _ _ _ _ (Nat.le_refl _)
      clear hW1
      have bw1 := bw.later hb1
      have bz1 := bz.later hb1
      have hbb := hb.trans (hb1.mono hsz)
      have z1 : W1.cell? ⟨w.heap.size + 1, 0, none⟩ = some a := bz1.cell 0
      have zf := bz1.free 0
      go_wp2_with fail
      refine (Tryz.strconv_Itoa_small 1 (by omega) W1).mono ?_
      rintro e w' ⟨rfl, hw'⟩
      obtain rfl : W1 = w' := hw'.symm
      rw [dig1]
      go_wp2_with fail
      go_roundw
      case rel => exact ⟨1, _, _, _, by omega, by go_num, bw1.far (by simp) _, bz1.put 0 _, hbb.setCell (by simp) _⟩
      case measure => simp [intOf]
    · go_wp2_with fail
      refine (Tryz.strconv_Atoi ⟨#[50]⟩ 2 (by decide) (by decide +kernel) _).mono ?_
      rintro e W1 ⟨rfl, t, hW1⟩
      have hb1 : Below wr.heap.size wr W1 := by rw [hW1]; exact Joins.below_bytesWorld _ _ _ _ (Nat.le_refl _)
      clear hW1
      have bw1 := bw.later hb1
      have bz1 := bz.later hb1
      have hbb := hb.trans (hb1.mono hsz)
      have z1 : W1.cell? ⟨w.heap.size + 1, 1, none⟩ = some b := bz1.cell 1
      have zf := bz1.free 1
      go_wp2_with fail
      refine (Tryz.strconv_Itoa_small 2 (by omega) W1).mono ?_
      rintro e w' ⟨rfl, hw'⟩
      obtain rfl : W1 = w' := hw'.symm
      rw [dig2]
      go_wp2_with fail
      go_roundw
      case rel => exact ⟨2, _, _, _, by omega, by go_num, bw1.far (by simp) _, bz1.put 1 _, hbb.setCell (by simp) _⟩
      case measure => simp [intOf]
    · go_wp2_with fail
      refine (Tryz.strconv_Atoi ⟨#[48, 52]⟩ 4 (by decide) (by decide +kernel) _).mono ?_
      rintro e W1 ⟨rfl, t, hW1⟩
      have hb1 : Below wr.heap.size wr W1 := by rw [hW1]; exact Joins.below_bytesWorld _ _ _ _ (Nat.le_refl _)
      clear hW1
      have bw1 := bw.later hb1
      have bz1 := bz.later hb1
      have hbb := hb.trans (hb1.mono hsz)
      have z1 : W1.cell? ⟨w.heap.size + 1, 2, none⟩ = some c := bz1.cell 2
      have zf := bz1.free 2
      go_wp2_with fail
      refine (Tryz.strconv_Itoa_small 4 (by omega) W1).mono ?_
      rintro e w' ⟨rfl, hw'⟩
      obtain rfl : W1 = w' := hw'.symm
      rw [dig4]
      go_wp2_with fail
      go_ret
      exact ⟨rfl, hbb⟩
    · omega

end Go.Proofs.YtpejcdjgggcjlaaGreatDoor
