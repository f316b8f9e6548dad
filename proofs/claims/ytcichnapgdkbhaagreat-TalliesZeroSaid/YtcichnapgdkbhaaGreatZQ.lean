/- Layer 9: Do of a house that was not made. -/
import Derived.Test.YtcichnapgdkbhaaGreatZP
import Derived.Laws.CopyOwn
set_option linter.all false
namespace Go.Proofs.YtcichnapgdkbhaaGreat
open Go.RowKit
theorem loadNote {w : World} {g : Nat} {cs : Array Value} (hb : Box w g 29 cs) (hs : cs.size = 19) : (loadVar 29 ⟨g, 0, none⟩).run Tryz.prog w = .ok (.agg cs) w := by
  have hi : (Tryz.prog.info? 29).map (·.size) = some cs.size := by rw [hs]; kernel_rfl
  exact run_loadVar_row w g 29 29 cs (0, 0) _ hb Tryz.underlying29 rfl hi
theorem loadAct {w : World} {g : Nat} {cs : Array Value} (hb : Box w g 31 cs) (hs : cs.size = 25) : (loadVar 31 ⟨g, 0, none⟩).run Tryz.prog w = .ok (.agg cs) w := by
  have hi : (Tryz.prog.info? 31).map (·.size) = some cs.size := by rw [hs]; kernel_rfl
  exact run_loadVar_row w g 31 31 cs (0, 0) _ hb Tryz.underlying31 rfl hi
set_option maxRecDepth 100000 in
theorem endNoteE {fn : Func} {t u : Nat} {w wf : World} {g : Nat} {er : Int} {tmps : Array Value} (hfn : fn.results = #[.cell t 29, .tmp u]) (ht : tmps[t]? = some (.pointer (some ⟨g, 0, none⟩))) (hu : tmps[u]? = some (.int .i64 er))
    (hb : Box wf g 29 #[.int .i64 0, .int .i64 0, .int .i64 0, .int .i64 0, .int .i64 0, .int .i64 0, .int .i64 0, .int .i64 0, .int .i64 0, .int .i64 0, .int .i64 0, .int .i64 0, .int .i64 0, .int .i64 0, .int .i64 0, .slice none 0 0, .int .i64 0, .int .i64 0, .int .i64 0]) (hbel : Below w.heap.size w wf) :
    bodyPost Tryz.prog fn (fun e w' => e = .returned (.tuple #[zNote, .int .i64 er]) ∧ Below w.heap.size w w') Exit.ret { tmps, defers := [] } wf := by
  have q : (loadVar 29 ⟨g, 0, none⟩).run Tryz.prog wf = .ok zNote wf := loadNote hb rfl
  exact bodyPost_ret (v := .tuple #[zNote, .int .i64 er]) (by simp [results, hfn, ht, hu, asAddr, q, Result.andThen]) rfl ⟨rfl, hbel⟩
set_option maxRecDepth 100000 in
set_option maxHeartbeats 4000000 in
theorem hDo (h : Value) (N : Array Value) (w : World) (d : DeadH w h) : Calls Tryz.prog 17 #[h, .agg N] w fun e w' => e = .returned (.tuple #[zNote, .int .i64 1]) ∧ Below w.heap.size w w' := by
  have hb0 : Below w.heap.size w ((w.alloc (.cells N 29)).alloc (.cells #[.int .i64 0, .int .i64 0, .int .i64 0, .int .i64 0, .int .i64 0, .int .i64 0, .int .i64 0, .int .i64 0, .int .i64 0, .int .i64 0, .int .i64 0, .int .i64 0, .int .i64 0, .int .i64 0, .int .i64 0, .slice none 0 0, .int .i64 0, .int .i64 0, .int .i64 0] 29)) := ((Below.refl _ _).alloc (Nat.le_refl _) _).alloc (by rw [World.size_alloc]; omega) _
  have hbx : Box ((w.alloc (.cells N 29)).alloc (.cells #[.int .i64 0, .int .i64 0, .int .i64 0, .int .i64 0, .int .i64 0, .int .i64 0, .int .i64 0, .int .i64 0, .int .i64 0, .int .i64 0, .int .i64 0, .int .i64 0, .int .i64 0, .int .i64 0, .int .i64 0, .slice none 0 0, .int .i64 0, .int .i64 0, .int .i64 0] 29)) (w.heap.size + 1) 29 #[.int .i64 0, .int .i64 0, .int .i64 0, .int .i64 0, .int .i64 0, .int .i64 0, .int .i64 0, .int .i64 0, .int .i64 0, .int .i64 0, .int .i64 0, .int .i64 0, .int .i64 0, .int .i64 0, .int .i64 0, .slice none 0 0, .int .i64 0, .int .i64 0, .int .i64 0] := by have hb := Box.made (w.alloc (.cells N 29)) 29 #[.int .i64 0, .int .i64 0, .int .i64 0, .int .i64 0, .int .i64 0, .int .i64 0, .int .i64 0, .int .i64 0, .int .i64 0, .int .i64 0, .int .i64 0, .int .i64 0, .int .i64 0, .int .i64 0, .int .i64 0, .slice none 0 0, .int .i64 0, .int .i64 0, .int .i64 0]; rw [World.size_alloc] at hb; exact hb
  have k := Lib.hid (isMadeH h _ (d.later hb0))
  have HB0 := Lib.hid hb0
  have HBX := Lib.hid hbx
  clear d hb0 hbx
  go_enter Tryz.func17, Tryz.ntmps17
  go_wp2_with fail
  generalize hW : ((w.alloc (.cells N 29)).alloc (.cells #[.int .i64 0, .int .i64 0, .int .i64 0, .int .i64 0, .int .i64 0, .int .i64 0, .int .i64 0, .int .i64 0, .int .i64 0, .int .i64 0, .int .i64 0, .int .i64 0, .int .i64 0, .int .i64 0, .int .i64 0, .slice none 0 0, .int .i64 0, .int .i64 0, .int .i64 0] 29)) = W at HB0 HBX k ⊢
  clear hW
  refine k.out.mono ?_; rintro e w1 ⟨rfl, rfl⟩
  go_wp2_with (refine wpList_store_row rfl 29 (.tmp 4) (.tmp 10) rfl (w.heap.size + 1) #[.int .i64 0, .int .i64 0, .int .i64 0, .int .i64 0, .int .i64 0, .int .i64 0, .int .i64 0, .int .i64 0, .int .i64 0, .int .i64 0, .int .i64 0, .int .i64 0, .int .i64 0, .int .i64 0, .int .i64 0, .slice none 0 0, .int .i64 0, .int .i64 0, .int .i64 0] rfl rfl 29 #[.int .i64 0, .int .i64 0, .int .i64 0, .int .i64 0, .int .i64 0, .int .i64 0, .int .i64 0, .int .i64 0, .int .i64 0, .int .i64 0, .int .i64 0, .int .i64 0, .int .i64 0, .int .i64 0, .int .i64 0, .slice none 0 0, .int .i64 0, .int .i64 0, .int .i64 0] HBX.out (by kernel_rfl) (by kernel_rfl) (by kernel_rfl) ?_)
  exact endNoteE (t := 4) (u := 5) Tryz.results17 rfl rfl (setRow_heap _ _ _ _ _ _ HBX.out) (below_setRow HB0.out (Nat.le_succ _) _)
end Go.Proofs.YtcichnapgdkbhaaGreat
