/- The iterator over the lines of the examples' text, for whatever body. -/
import Derived.Test.YtpejcdjgggcjlaaGreatDoorC6
import Derived.Test.YtpejcdjgggcjlaaGreatDoorShelf
namespace Go.Proofs.YtpejcdjgggcjlaaGreatDoor
open Go.RowKit Go.Shelf
attribute [local go_sem] Oper.semAt_some

/-- the text of the examples, and its only line -/
def txt : ByteArray := ⟨#[102, 97, 99, 101, 32, 49, 32, 50, 32, 48, 52, 10]⟩
def lin : ByteArray := ⟨#[102, 97, 99, 101, 32, 49, 32, 50, 32, 48, 52]⟩
def nos : ByteArray := ⟨#[]⟩
theorem txt_ix : Lib.indexByte txt.data.toList (Int.toNat 10).toUInt8 = 11 := by decide +kernel
theorem txt_sz : txt.size = 12 := rfl
theorem txt_a : txt.extract 0 12 = txt := by decide +kernel
theorem txt_b : txt.extract 12 12 = nos := by decide +kernel

set_option maxRecDepth 100000 in
set_option maxHeartbeats 4000000 in
/-- the iterator hands out the line; a body that leaves ends it -/
theorem lines1_once (n : Nat) (hn : 2 ≤ n) (l bs : Nat) (Jx : World → Prop) (W : World) (h1 : Box W bs 9 #[.string txt])
    (hY : YieldAt Fence.wide (n - 1) Tryz.prog l #[.string txt] ((W.setCell ⟨bs, 0, none⟩ (.string nos)).drew) fun e W' => e = .returned (.bool false) ∧ Jx W') :
    CallsIn Fence.wide n Tryz.prog 86 #[.func (.yield l) #[] #[], .pointer (some ⟨bs, 0, none⟩)] W fun e W' => (∃ v, e = .returned v) ∧ Jx W' := by
  refine callsIn_of_wp Tryz.func86 rfl trivial ?_ rfl
  simp only [Tryz.ntmps86, List.size_toArray, List.length_cons, List.length_nil, Nat.reduceAdd, Nat.reduceSub, Array.replicate_succ, Array.replicate_zero, List.push_toArray, List.append_toArray, List.nil_append, List.cons_append]
  gi_wp2_with fail
  gi_loopw [] (fun wr => wr = W) (fun _ => 0)
  case atStart => rfl
  case round =>
    obtain rfl := hrel
    have g0 : wr.cell? ⟨bs, 0, none⟩ = some (.string txt) := h1.cell 0
    have sz := txt_sz
    have gf := h1.free 0
    gi_wp2_with fail
    refine ⟨trivial, fun _ => by omega, (callsIn_wide.2 (Tryz.strings_IndexByte txt 10 wr)).mono ?_⟩
    rintro e w' ⟨rfl, hw'⟩
    obtain rfl : wr = w' := hw'.symm
    rw [txt_ix]
    have hmix : Tryz.prog.follows .mixedOrders = true := by kernel_rfl
    have hw12 : IntKind.i64.wrap 12 = 12 := by decide
    have ta := txt_a
    have tb := txt_b
    gi_wp2_with fail
    obtain ⟨fn, tmps, assign, body, hy, hR⟩ := hY
    have hB := hR
    clear hR
    refine Code.wpIn_mono (Q := fun e a' w' => e = .normal ∧ a' = { tmps := #[.func (.yield l) #[] #[], .pointer (some ⟨bs, 0, none⟩), undef, .string txt, .int .i64 11, .string txt, .int .i64 12, .bool true, .string txt, .int .i64 11, .int .i64 11, .bool true, .string txt, .int .i64 11, .int .i64 12, .string txt, .string txt, .int .i64 11, .int .i64 12, .string nos, u20, u21, u22, u23, u24], defers := [] } ∧ w' = (wr.setCell ⟨bs, 0, none⟩ (.string nos)).drew) ?_ ?_
    rotate_left
    · gi_region
      all_goals exact ⟨rfl, rfl, rfl⟩
    rintro e a' w2 ⟨rfl, rfl, hw2⟩
    rw [← hw2] at hy hB
    clear hw2 g0 gf ta tb
    gi_wp2_with fail
    refine ⟨fun _ => by omega, hB.mono ?_⟩
    rintro e W3 ⟨rfl, hJx3⟩
    gi_wp2_with fail
    refine bodyPost_ret (results_none rfl _ _ _) rfl ?_
    exact ⟨⟨_, rfl⟩, hJx3⟩

end Go.Proofs.YtpejcdjgggcjlaaGreatDoor
