/-
  What the program's own Answer, Pins, Bytes and New come to for layer 7.
  Conditions: that the map stands in memory.
-/
import Derived.Test.YtlcegnehlhakdaaMdBehind
import Derived.Test.YtlcegnehlhakdaaHandleWalks3
import Derived.Deep.RegionHeld3
namespace Go.Proofs.Ytlcegnehlhakdaa
open Go.RowKit
attribute [local go_sem] Later.cell Later.frozen Later.lt Later.le
set_option linter.unusedVariables false
set_option linter.unusedSimpArgs false
set_option maxRecDepth 4000

/-- Of what was there nothing has turned. -/
def Snc (V W : World) : Prop := Below V.heap.size V W
theorem Snc.later {V W : World} (h : Snc V W) (x : Later W) : Snc V x.at' := Below.trans h (x.below.mono (Below.size h))
theorem Snc.alloc {V W : World} (h : Snc V W) (o : Obj) : Snc V (W.alloc o) := Below.alloc h (Below.size h) o
theorem Snc.set {V W : World} (h : Snc V W) {a : Addr} (ha : V.heap.size ≤ a.block) (u : Value) : Snc V (W.setCell a u) := Below.setCell h ha u

theorem sncOf {c0 c1 c2 : Prop} {V W : World} (h : c0 ∧ c1 ∧ c2 ∧ Snc V W) : Snc V W := h.2.2.2

theorem sncAD (B : World) (o : Obj) : Snc B (B.alloc o).drew := ((Below.refl _ _).alloc (Nat.le_refl _) _).drew
theorem New_any (w : World) : Calls Try.prog 10 #[] w fun e w' => e = .returned (.pointer (some ⟨w.heap.size, 0, none⟩)) ∧ w' = w.alloc (.cells #[.map none, .map none] 59) := by
  go_enter Try.func10, Try.ntmps10
  go_wp2
  go_ret
  exact ⟨rfl, rfl⟩
theorem New_at (w : World) : MapAt (w.alloc (.cells #[.map none, .map none] 59)) w.heap.size none none St.none :=
  ⟨heap_alloc_new w _, .inl ⟨rfl, rfl⟩, .inl ⟨rfl, rfl⟩, by simp, fun b h => by simp at h, fun _ => rfl⟩

/-- What is looked up, and where it is loaded from. -/
def AnsS (w : World) (g : Nat) (bo : Option Nat) (b : Nat) (h : Int) (v : Value) (ok : Bool) (W : World) : Prop :=
  W.cell? ⟨g, 0, none⟩ = some (.map bo) ∧ W.cell? ⟨b, 1, none⟩ = some (.int .i64 h) ∧ (Instr.lookup 56 (.map bo) (.int .i64 h) true).run Try.prog W = .ok (.tuple #[v, .bool ok]) W ∧ Snc w W

theorem Answer_nil (d h off n : Int) (w : World) : Calls Try.prog 13 #[.pointer none, opV d h off n] w (Ret w (.tuple #[resV 1 0, .bool true])) := by
  have cf := fun W => failed_any 1 W
  unfold opV resV
  go_enter Try.func13, Try.ntmps13
  go_wp2_with (first
    | (go_at_call 30; (with_reducible refine (cf _).mono ?_); rintro _ _ ⟨rfl, y, rfl⟩))
  refine bodyPost_ret (v := .tuple #[.agg #[.int .i64 1, .int .i64 0], .bool true]) (by simp [results, Try.results13, go_sem]) rfl (Ret.mk rfl ?_)
  exact Below.setCell (Below.setCell ((((Below.refl _ w).alloc (Nat.le_refl _) _).alloc (by simp) _).trans (y.below.mono (by simp; omega))) (by simp) _) (by simp) _

set_option maxHeartbeats 2000000 in
theorem Answer_look1 {w : World} {g : Nat} {bo bt : Option Nat} {S : St} (hM : MapAt w g bo bt S) (h off n E N : Int) (hw : (Lit.int .i64 h).wf = true) (s : ByteArray) (p : Int) (ok : Bool) (E' N' : Int)
    (hlk : ∀ W, Snc w W → (Instr.lookup 56 (.map bo) (.int .i64 h) true).run Try.prog W = .ok (.tuple #[.agg #[.string s, .int .i64 p], .bool ok]) W)
    (ca : ok = true → ∀ W, Calls Try.prog 32 #[.agg #[.string s, .int .i64 p], .agg #[.int .i64 1, .int .i64 h, .int .i64 off, .int .i64 n]] W (Ret W (.agg #[.int .i64 E, .int .i64 N])))
    (hE : E' = if ok then E else 4) (hN : N' = if ok then N else 0) :
    Calls Try.prog 13 #[.pointer (some ⟨g, 0, none⟩), .agg #[.int .i64 1, .int .i64 h, .int .i64 off, .int .i64 n]] w (Ret w (.tuple #[.agg #[.int .i64 E', .int .i64 N'], .bool true])) := by
  have hg := hM.lt
  have c0 := hM.cell0
  have cf := fun W => failed_any 4 W
  obtain ⟨B, hB⟩ : ∃ B, B = ((w.alloc (.cells #[.int .i64 1, .int .i64 h, .int .i64 off, .int .i64 n] 39)).alloc (.cells #[.int .i64 0, .int .i64 0] 35)) := ⟨_, rfl⟩
  have hwB : Snc w B := by rw [hB]; exact ((Below.refl _ w).alloc (Nat.le_refl _) _).alloc (by simp) _
  have hAll : ∀ W, Snc B W → W.cell? ⟨g, 0, none⟩ = some (.map bo) ∧ W.cell? ⟨w.heap.size, 1, none⟩ = some (.int .i64 h) ∧ (Instr.lookup 56 (.map bo) (.int .i64 h) true).run Try.prog W = .ok (.tuple #[.agg #[.string s, .int .i64 p], .bool ok]) W ∧ Snc B W := fun W hW => by
    have hwW : Snc w W := Below.trans hwB (hW.mono (Below.size hwB))
    refine ⟨(hwW.cell (p := ⟨g, 0, none⟩) hg).trans c0, ?_, hlk W hwW, hW⟩
    rw [hW.cell (p := ⟨w.heap.size, 1, none⟩) (by rw [hB]; simp; omega), hB]
    simp [go_sem]
  have hS0 : Snc B B.drew := (Below.refl _ _).drew
  have hS1 := fun o => sncAD B o
  have HALL := Lib.hid hAll
  subst hB
  clear hAll hlk c0
  cases ok
  · simp only [Bool.false_eq_true, if_false] at hE hN
    subst hE hN
    clear ca
    go_enter Try.func13, Try.ntmps13
    go_wp2_with fail
    go_region_held3 (fun w' => w'.cell? ⟨g, 0, none⟩ = some (.map bo) ∧ w'.cell? ⟨w.heap.size, 1, none⟩ = some (.int .i64 h) ∧ (Instr.lookup 56 (.map bo) (.int .i64 h) true).run Try.prog w' = .ok (.tuple #[.agg #[.string s, .int .i64 p], .bool false]) w' ∧ Snc ((w.alloc (.cells #[.int .i64 1, .int .i64 h, .int .i64 off, .int .i64 n] 39)).alloc (.cells #[.int .i64 0, .int .i64 0] 35)) w')
      (first | (with_reducible exact HALL.out _ hS0) | (with_reducible assumption) | (with_reducible exact HALL.out _ (hS1 _)) | (with_reducible exact HALL.out _ (Snc.alloc (sncOf ‹_ ∧ _›) _))) (first | fail)
    all_goals
      go_wp2_with (first
        | (go_at_call 30; (with_reducible refine (cf _).mono ?_); rintro _ _ ⟨rfl, y, rfl⟩))
      refine bodyPost_ret (v := .tuple #[.agg #[.int .i64 4, .int .i64 0], .bool true]) (by simp [results, Try.results13, go_sem]) rfl (Ret.mk rfl ?_)
      have hy : Snc w y.at' := by
        refine Below.trans hwB (Below.mono ?_ (Below.size hwB))
        exact Below.trans (sncAD _ _) (y.below.mono (by simp))
      exact Below.setCell (Below.setCell hy (by simp) _) (by simp) _
  · simp only [if_true] at hE hN
    subst hE hN
    replace ca := ca rfl
    go_enter Try.func13, Try.ntmps13
    go_wp2_with fail
    go_region_held3 (fun w' => w'.cell? ⟨g, 0, none⟩ = some (.map bo) ∧ w'.cell? ⟨w.heap.size, 1, none⟩ = some (.int .i64 h) ∧ (Instr.lookup 56 (.map bo) (.int .i64 h) true).run Try.prog w' = .ok (.tuple #[.agg #[.string s, .int .i64 p], .bool true]) w' ∧ Snc ((w.alloc (.cells #[.int .i64 1, .int .i64 h, .int .i64 off, .int .i64 n] 39)).alloc (.cells #[.int .i64 0, .int .i64 0] 35)) w')
      (first | (with_reducible exact HALL.out _ hS0) | (with_reducible assumption) | (with_reducible exact HALL.out _ (hS1 _)) | (with_reducible exact HALL.out _ (Snc.alloc (sncOf ‹_ ∧ _›) _))) (first | fail)
    all_goals
      go_wp2_with (first
        | (go_at_call 32; (with_reducible refine (ca _).mono ?_); rintro _ _ ⟨rfl, y, rfl⟩))
      refine bodyPost_ret (v := .tuple #[.agg #[.int .i64 E', .int .i64 N'], .bool true]) (by simp [results, Try.results13, go_sem]) rfl (Ret.mk rfl ?_)
      have hy : Snc w y.at' := by
        refine Below.trans hwB (Below.mono ?_ (Below.size hwB))
        exact Below.trans (sncAD _ _) (y.below.mono (by simp))
      exact Below.setCell (Below.setCell hy (by simp) _) (by simp) _
set_option maxHeartbeats 2000000 in
theorem Answer_look2 {w : World} {g : Nat} {bo bt : Option Nat} {S : St} (hM : MapAt w g bo bt S) (h off n E N : Int) (hw : (Lit.int .i64 h).wf = true) (s : ByteArray) (p : Int) (ok : Bool) (E' N' : Int)
    (hlk : ∀ W, Snc w W → (Instr.lookup 56 (.map bo) (.int .i64 h) true).run Try.prog W = .ok (.tuple #[.agg #[.string s, .int .i64 p], .bool ok]) W)
    (ca : ok = true → ∀ W, Calls Try.prog 32 #[.agg #[.string s, .int .i64 p], .agg #[.int .i64 2, .int .i64 h, .int .i64 off, .int .i64 n]] W (Ret W (.agg #[.int .i64 E, .int .i64 N])))
    (hE : E' = if ok then E else 4) (hN : N' = if ok then N else 0) :
    Calls Try.prog 13 #[.pointer (some ⟨g, 0, none⟩), .agg #[.int .i64 2, .int .i64 h, .int .i64 off, .int .i64 n]] w (Ret w (.tuple #[.agg #[.int .i64 E', .int .i64 N'], .bool true])) := by
  have hg := hM.lt
  have c0 := hM.cell0
  have cf := fun W => failed_any 4 W
  obtain ⟨B, hB⟩ : ∃ B, B = ((w.alloc (.cells #[.int .i64 2, .int .i64 h, .int .i64 off, .int .i64 n] 39)).alloc (.cells #[.int .i64 0, .int .i64 0] 35)) := ⟨_, rfl⟩
  have hwB : Snc w B := by rw [hB]; exact ((Below.refl _ w).alloc (Nat.le_refl _) _).alloc (by simp) _
  have hAll : ∀ W, Snc B W → W.cell? ⟨g, 0, none⟩ = some (.map bo) ∧ W.cell? ⟨w.heap.size, 1, none⟩ = some (.int .i64 h) ∧ (Instr.lookup 56 (.map bo) (.int .i64 h) true).run Try.prog W = .ok (.tuple #[.agg #[.string s, .int .i64 p], .bool ok]) W ∧ Snc B W := fun W hW => by
    have hwW : Snc w W := Below.trans hwB (hW.mono (Below.size hwB))
    refine ⟨(hwW.cell (p := ⟨g, 0, none⟩) hg).trans c0, ?_, hlk W hwW, hW⟩
    rw [hW.cell (p := ⟨w.heap.size, 1, none⟩) (by rw [hB]; simp; omega), hB]
    simp [go_sem]
  have hS0 : Snc B B.drew := (Below.refl _ _).drew
  have hS1 := fun o => sncAD B o
  have HALL := Lib.hid hAll
  subst hB
  clear hAll hlk c0
  cases ok
  · simp only [Bool.false_eq_true, if_false] at hE hN
    subst hE hN
    clear ca
    go_enter Try.func13, Try.ntmps13
    go_wp2_with fail
    go_region_held3 (fun w' => w'.cell? ⟨g, 0, none⟩ = some (.map bo) ∧ w'.cell? ⟨w.heap.size, 1, none⟩ = some (.int .i64 h) ∧ (Instr.lookup 56 (.map bo) (.int .i64 h) true).run Try.prog w' = .ok (.tuple #[.agg #[.string s, .int .i64 p], .bool false]) w' ∧ Snc ((w.alloc (.cells #[.int .i64 2, .int .i64 h, .int .i64 off, .int .i64 n] 39)).alloc (.cells #[.int .i64 0, .int .i64 0] 35)) w')
      (first | (with_reducible exact HALL.out _ hS0) | (with_reducible assumption) | (with_reducible exact HALL.out _ (hS1 _)) | (with_reducible exact HALL.out _ (Snc.alloc (sncOf ‹_ ∧ _›) _))) (first | fail)
    all_goals
      go_wp2_with (first
        | (go_at_call 30; (with_reducible refine (cf _).mono ?_); rintro _ _ ⟨rfl, y, rfl⟩))
      refine bodyPost_ret (v := .tuple #[.agg #[.int .i64 4, .int .i64 0], .bool true]) (by simp [results, Try.results13, go_sem]) rfl (Ret.mk rfl ?_)
      have hy : Snc w y.at' := by
        refine Below.trans hwB (Below.mono ?_ (Below.size hwB))
        exact Below.trans (sncAD _ _) (y.below.mono (by simp))
      exact Below.setCell (Below.setCell hy (by simp) _) (by simp) _
  · simp only [if_true] at hE hN
    subst hE hN
    replace ca := ca rfl
    go_enter Try.func13, Try.ntmps13
    go_wp2_with fail
    go_region_held3 (fun w' => w'.cell? ⟨g, 0, none⟩ = some (.map bo) ∧ w'.cell? ⟨w.heap.size, 1, none⟩ = some (.int .i64 h) ∧ (Instr.lookup 56 (.map bo) (.int .i64 h) true).run Try.prog w' = .ok (.tuple #[.agg #[.string s, .int .i64 p], .bool true]) w' ∧ Snc ((w.alloc (.cells #[.int .i64 2, .int .i64 h, .int .i64 off, .int .i64 n] 39)).alloc (.cells #[.int .i64 0, .int .i64 0] 35)) w')
      (first | (with_reducible exact HALL.out _ hS0) | (with_reducible assumption) | (with_reducible exact HALL.out _ (hS1 _)) | (with_reducible exact HALL.out _ (Snc.alloc (sncOf ‹_ ∧ _›) _))) (first | fail)
    all_goals
      go_wp2_with (first
        | (go_at_call 32; (with_reducible refine (ca _).mono ?_); rintro _ _ ⟨rfl, y, rfl⟩))
      refine bodyPost_ret (v := .tuple #[.agg #[.int .i64 E', .int .i64 N'], .bool true]) (by simp [results, Try.results13, go_sem]) rfl (Ret.mk rfl ?_)
      have hy : Snc w y.at' := by
        refine Below.trans hwB (Below.mono ?_ (Below.size hwB))
        exact Below.trans (sncAD _ _) (y.below.mono (by simp))
      exact Below.setCell (Below.setCell hy (by simp) _) (by simp) _
set_option maxHeartbeats 2000000 in
theorem Answer_look3 {w : World} {g : Nat} {bo bt : Option Nat} {S : St} (hM : MapAt w g bo bt S) (h off n E N : Int) (hw : (Lit.int .i64 h).wf = true) (s : ByteArray) (p : Int) (ok : Bool) (E' N' : Int)
    (hlk : ∀ W, Snc w W → (Instr.lookup 56 (.map bo) (.int .i64 h) true).run Try.prog W = .ok (.tuple #[.agg #[.string s, .int .i64 p], .bool ok]) W)
    (ca : ok = true → ∀ W, Calls Try.prog 32 #[.agg #[.string s, .int .i64 p], .agg #[.int .i64 3, .int .i64 h, .int .i64 off, .int .i64 n]] W (Ret W (.agg #[.int .i64 E, .int .i64 N])))
    (hE : E' = if ok then E else 4) (hN : N' = if ok then N else 0) :
    Calls Try.prog 13 #[.pointer (some ⟨g, 0, none⟩), .agg #[.int .i64 3, .int .i64 h, .int .i64 off, .int .i64 n]] w (Ret w (.tuple #[.agg #[.int .i64 E', .int .i64 N'], .bool true])) := by
  have hg := hM.lt
  have c0 := hM.cell0
  have cf := fun W => failed_any 4 W
  obtain ⟨B, hB⟩ : ∃ B, B = ((w.alloc (.cells #[.int .i64 3, .int .i64 h, .int .i64 off, .int .i64 n] 39)).alloc (.cells #[.int .i64 0, .int .i64 0] 35)) := ⟨_, rfl⟩
  have hwB : Snc w B := by rw [hB]; exact ((Below.refl _ w).alloc (Nat.le_refl _) _).alloc (by simp) _
  have hAll : ∀ W, Snc B W → W.cell? ⟨g, 0, none⟩ = some (.map bo) ∧ W.cell? ⟨w.heap.size, 1, none⟩ = some (.int .i64 h) ∧ (Instr.lookup 56 (.map bo) (.int .i64 h) true).run Try.prog W = .ok (.tuple #[.agg #[.string s, .int .i64 p], .bool ok]) W ∧ Snc B W := fun W hW => by
    have hwW : Snc w W := Below.trans hwB (hW.mono (Below.size hwB))
    refine ⟨(hwW.cell (p := ⟨g, 0, none⟩) hg).trans c0, ?_, hlk W hwW, hW⟩
    rw [hW.cell (p := ⟨w.heap.size, 1, none⟩) (by rw [hB]; simp; omega), hB]
    simp [go_sem]
  have hS0 : Snc B B.drew := (Below.refl _ _).drew
  have hS1 := fun o => sncAD B o
  have HALL := Lib.hid hAll
  subst hB
  clear hAll hlk c0
  cases ok
  · simp only [Bool.false_eq_true, if_false] at hE hN
    subst hE hN
    clear ca
    go_enter Try.func13, Try.ntmps13
    go_wp2_with fail
    go_region_held3 (fun w' => w'.cell? ⟨g, 0, none⟩ = some (.map bo) ∧ w'.cell? ⟨w.heap.size, 1, none⟩ = some (.int .i64 h) ∧ (Instr.lookup 56 (.map bo) (.int .i64 h) true).run Try.prog w' = .ok (.tuple #[.agg #[.string s, .int .i64 p], .bool false]) w' ∧ Snc ((w.alloc (.cells #[.int .i64 3, .int .i64 h, .int .i64 off, .int .i64 n] 39)).alloc (.cells #[.int .i64 0, .int .i64 0] 35)) w')
      (first | (with_reducible exact HALL.out _ hS0) | (with_reducible assumption) | (with_reducible exact HALL.out _ (hS1 _)) | (with_reducible exact HALL.out _ (Snc.alloc (sncOf ‹_ ∧ _›) _))) (first | fail)
    all_goals
      go_wp2_with (first
        | (go_at_call 30; (with_reducible refine (cf _).mono ?_); rintro _ _ ⟨rfl, y, rfl⟩))
      refine bodyPost_ret (v := .tuple #[.agg #[.int .i64 4, .int .i64 0], .bool true]) (by simp [results, Try.results13, go_sem]) rfl (Ret.mk rfl ?_)
      have hy : Snc w y.at' := by
        refine Below.trans hwB (Below.mono ?_ (Below.size hwB))
        exact Below.trans (sncAD _ _) (y.below.mono (by simp))
      exact Below.setCell (Below.setCell hy (by simp) _) (by simp) _
  · simp only [if_true] at hE hN
    subst hE hN
    replace ca := ca rfl
    go_enter Try.func13, Try.ntmps13
    go_wp2_with fail
    go_region_held3 (fun w' => w'.cell? ⟨g, 0, none⟩ = some (.map bo) ∧ w'.cell? ⟨w.heap.size, 1, none⟩ = some (.int .i64 h) ∧ (Instr.lookup 56 (.map bo) (.int .i64 h) true).run Try.prog w' = .ok (.tuple #[.agg #[.string s, .int .i64 p], .bool true]) w' ∧ Snc ((w.alloc (.cells #[.int .i64 3, .int .i64 h, .int .i64 off, .int .i64 n] 39)).alloc (.cells #[.int .i64 0, .int .i64 0] 35)) w')
      (first | (with_reducible exact HALL.out _ hS0) | (with_reducible assumption) | (with_reducible exact HALL.out _ (hS1 _)) | (with_reducible exact HALL.out _ (Snc.alloc (sncOf ‹_ ∧ _›) _))) (first | fail)
    all_goals
      go_wp2_with (first
        | (go_at_call 32; (with_reducible refine (ca _).mono ?_); rintro _ _ ⟨rfl, y, rfl⟩))
      refine bodyPost_ret (v := .tuple #[.agg #[.int .i64 E', .int .i64 N'], .bool true]) (by simp [results, Try.results13, go_sem]) rfl (Ret.mk rfl ?_)
      have hy : Snc w y.at' := by
        refine Below.trans hwB (Below.mono ?_ (Below.size hwB))
        exact Below.trans (sncAD _ _) (y.below.mono (by simp))
      exact Below.setCell (Below.setCell hy (by simp) _) (by simp) _
set_option maxHeartbeats 2000000 in
theorem Answer_look4 {w : World} {g : Nat} {bo bt : Option Nat} {S : St} (hM : MapAt w g bo bt S) (h off n E N : Int) (hw : (Lit.int .i64 h).wf = true) (s : ByteArray) (p : Int) (ok : Bool) (E' N' : Int)
    (hlk : ∀ W, Snc w W → (Instr.lookup 56 (.map bo) (.int .i64 h) true).run Try.prog W = .ok (.tuple #[.agg #[.string s, .int .i64 p], .bool ok]) W)
    (ca : ok = true → ∀ W, Calls Try.prog 32 #[.agg #[.string s, .int .i64 p], .agg #[.int .i64 4, .int .i64 h, .int .i64 off, .int .i64 n]] W (Ret W (.agg #[.int .i64 E, .int .i64 N])))
    (hE : E' = if ok then E else 4) (hN : N' = if ok then N else 0) :
    Calls Try.prog 13 #[.pointer (some ⟨g, 0, none⟩), .agg #[.int .i64 4, .int .i64 h, .int .i64 off, .int .i64 n]] w (Ret w (.tuple #[.agg #[.int .i64 E', .int .i64 N'], .bool true])) := by
  have hg := hM.lt
  have c0 := hM.cell0
  have cf := fun W => failed_any 4 W
  obtain ⟨B, hB⟩ : ∃ B, B = ((w.alloc (.cells #[.int .i64 4, .int .i64 h, .int .i64 off, .int .i64 n] 39)).alloc (.cells #[.int .i64 0, .int .i64 0] 35)) := ⟨_, rfl⟩
  have hwB : Snc w B := by rw [hB]; exact ((Below.refl _ w).alloc (Nat.le_refl _) _).alloc (by simp) _
  have hAll : ∀ W, Snc B W → W.cell? ⟨g, 0, none⟩ = some (.map bo) ∧ W.cell? ⟨w.heap.size, 1, none⟩ = some (.int .i64 h) ∧ (Instr.lookup 56 (.map bo) (.int .i64 h) true).run Try.prog W = .ok (.tuple #[.agg #[.string s, .int .i64 p], .bool ok]) W ∧ Snc B W := fun W hW => by
    have hwW : Snc w W := Below.trans hwB (hW.mono (Below.size hwB))
    refine ⟨(hwW.cell (p := ⟨g, 0, none⟩) hg).trans c0, ?_, hlk W hwW, hW⟩
    rw [hW.cell (p := ⟨w.heap.size, 1, none⟩) (by rw [hB]; simp; omega), hB]
    simp [go_sem]
  have hS0 : Snc B B.drew := (Below.refl _ _).drew
  have hS1 := fun o => sncAD B o
  have HALL := Lib.hid hAll
  subst hB
  clear hAll hlk c0
  cases ok
  · simp only [Bool.false_eq_true, if_false] at hE hN
    subst hE hN
    clear ca
    go_enter Try.func13, Try.ntmps13
    go_wp2_with fail
    go_region_held3 (fun w' => w'.cell? ⟨g, 0, none⟩ = some (.map bo) ∧ w'.cell? ⟨w.heap.size, 1, none⟩ = some (.int .i64 h) ∧ (Instr.lookup 56 (.map bo) (.int .i64 h) true).run Try.prog w' = .ok (.tuple #[.agg #[.string s, .int .i64 p], .bool false]) w' ∧ Snc ((w.alloc (.cells #[.int .i64 4, .int .i64 h, .int .i64 off, .int .i64 n] 39)).alloc (.cells #[.int .i64 0, .int .i64 0] 35)) w')
      (first | (with_reducible exact HALL.out _ hS0) | (with_reducible assumption) | (with_reducible exact HALL.out _ (hS1 _)) | (with_reducible exact HALL.out _ (Snc.alloc (sncOf ‹_ ∧ _›) _))) (first | fail)
    all_goals
      go_wp2_with (first
        | (go_at_call 30; (with_reducible refine (cf _).mono ?_); rintro _ _ ⟨rfl, y, rfl⟩))
      refine bodyPost_ret (v := .tuple #[.agg #[.int .i64 4, .int .i64 0], .bool true]) (by simp [results, Try.results13, go_sem]) rfl (Ret.mk rfl ?_)
      have hy : Snc w y.at' := by
        refine Below.trans hwB (Below.mono ?_ (Below.size hwB))
        exact Below.trans (sncAD _ _) (y.below.mono (by simp))
      exact Below.setCell (Below.setCell hy (by simp) _) (by simp) _
  · simp only [if_true] at hE hN
    subst hE hN
    replace ca := ca rfl
    go_enter Try.func13, Try.ntmps13
    go_wp2_with fail
    go_region_held3 (fun w' => w'.cell? ⟨g, 0, none⟩ = some (.map bo) ∧ w'.cell? ⟨w.heap.size, 1, none⟩ = some (.int .i64 h) ∧ (Instr.lookup 56 (.map bo) (.int .i64 h) true).run Try.prog w' = .ok (.tuple #[.agg #[.string s, .int .i64 p], .bool true]) w' ∧ Snc ((w.alloc (.cells #[.int .i64 4, .int .i64 h, .int .i64 off, .int .i64 n] 39)).alloc (.cells #[.int .i64 0, .int .i64 0] 35)) w')
      (first | (with_reducible exact HALL.out _ hS0) | (with_reducible assumption) | (with_reducible exact HALL.out _ (hS1 _)) | (with_reducible exact HALL.out _ (Snc.alloc (sncOf ‹_ ∧ _›) _))) (first | fail)
    all_goals
      go_wp2_with (first
        | (go_at_call 32; (with_reducible refine (ca _).mono ?_); rintro _ _ ⟨rfl, y, rfl⟩))
      refine bodyPost_ret (v := .tuple #[.agg #[.int .i64 E', .int .i64 N'], .bool true]) (by simp [results, Try.results13, go_sem]) rfl (Ret.mk rfl ?_)
      have hy : Snc w y.at' := by
        refine Below.trans hwB (Below.mono ?_ (Below.size hwB))
        exact Below.trans (sncAD _ _) (y.below.mono (by simp))
      exact Below.setCell (Below.setCell hy (by simp) _) (by simp) _
set_option maxHeartbeats 2000000 in
theorem Answer_look5 {w : World} {g : Nat} {bo bt : Option Nat} {S : St} (hM : MapAt w g bo bt S) (h off n E N : Int) (hw : (Lit.int .i64 h).wf = true) (s : ByteArray) (p : Int) (ok : Bool) (E' N' : Int)
    (hlk : ∀ W, Snc w W → (Instr.lookup 56 (.map bo) (.int .i64 h) true).run Try.prog W = .ok (.tuple #[.agg #[.string s, .int .i64 p], .bool ok]) W)
    (ca : ok = true → ∀ W, Calls Try.prog 32 #[.agg #[.string s, .int .i64 p], .agg #[.int .i64 5, .int .i64 h, .int .i64 off, .int .i64 n]] W (Ret W (.agg #[.int .i64 E, .int .i64 N])))
    (hE : E' = if ok then E else 4) (hN : N' = if ok then N else 0) :
    Calls Try.prog 13 #[.pointer (some ⟨g, 0, none⟩), .agg #[.int .i64 5, .int .i64 h, .int .i64 off, .int .i64 n]] w (Ret w (.tuple #[.agg #[.int .i64 E', .int .i64 N'], .bool true])) := by
  have hg := hM.lt
  have c0 := hM.cell0
  have cf := fun W => failed_any 4 W
  obtain ⟨B, hB⟩ : ∃ B, B = ((w.alloc (.cells #[.int .i64 5, .int .i64 h, .int .i64 off, .int .i64 n] 39)).alloc (.cells #[.int .i64 0, .int .i64 0] 35)) := ⟨_, rfl⟩
  have hwB : Snc w B := by rw [hB]; exact ((Below.refl _ w).alloc (Nat.le_refl _) _).alloc (by simp) _
  have hAll : ∀ W, Snc B W → W.cell? ⟨g, 0, none⟩ = some (.map bo) ∧ W.cell? ⟨w.heap.size, 1, none⟩ = some (.int .i64 h) ∧ (Instr.lookup 56 (.map bo) (.int .i64 h) true).run Try.prog W = .ok (.tuple #[.agg #[.string s, .int .i64 p], .bool ok]) W ∧ Snc B W := fun W hW => by
    have hwW : Snc w W := Below.trans hwB (hW.mono (Below.size hwB))
    refine ⟨(hwW.cell (p := ⟨g, 0, none⟩) hg).trans c0, ?_, hlk W hwW, hW⟩
    rw [hW.cell (p := ⟨w.heap.size, 1, none⟩) (by rw [hB]; simp; omega), hB]
    simp [go_sem]
  have hS0 : Snc B B.drew := (Below.refl _ _).drew
  have hS1 := fun o => sncAD B o
  have HALL := Lib.hid hAll
  subst hB
  clear hAll hlk c0
  cases ok
  · simp only [Bool.false_eq_true, if_false] at hE hN
    subst hE hN
    clear ca
    go_enter Try.func13, Try.ntmps13
    go_wp2_with fail
    go_region_held3 (fun w' => w'.cell? ⟨g, 0, none⟩ = some (.map bo) ∧ w'.cell? ⟨w.heap.size, 1, none⟩ = some (.int .i64 h) ∧ (Instr.lookup 56 (.map bo) (.int .i64 h) true).run Try.prog w' = .ok (.tuple #[.agg #[.string s, .int .i64 p], .bool false]) w' ∧ Snc ((w.alloc (.cells #[.int .i64 5, .int .i64 h, .int .i64 off, .int .i64 n] 39)).alloc (.cells #[.int .i64 0, .int .i64 0] 35)) w')
      (first | (with_reducible exact HALL.out _ hS0) | (with_reducible assumption) | (with_reducible exact HALL.out _ (hS1 _)) | (with_reducible exact HALL.out _ (Snc.alloc (sncOf ‹_ ∧ _›) _))) (first | fail)
    all_goals
      go_wp2_with (first
        | (go_at_call 30; (with_reducible refine (cf _).mono ?_); rintro _ _ ⟨rfl, y, rfl⟩))
      refine bodyPost_ret (v := .tuple #[.agg #[.int .i64 4, .int .i64 0], .bool true]) (by simp [results, Try.results13, go_sem]) rfl (Ret.mk rfl ?_)
      have hy : Snc w y.at' := by
        refine Below.trans hwB (Below.mono ?_ (Below.size hwB))
        exact Below.trans (sncAD _ _) (y.below.mono (by simp))
      exact Below.setCell (Below.setCell hy (by simp) _) (by simp) _
  · simp only [if_true] at hE hN
    subst hE hN
    replace ca := ca rfl
    go_enter Try.func13, Try.ntmps13
    go_wp2_with fail
    go_region_held3 (fun w' => w'.cell? ⟨g, 0, none⟩ = some (.map bo) ∧ w'.cell? ⟨w.heap.size, 1, none⟩ = some (.int .i64 h) ∧ (Instr.lookup 56 (.map bo) (.int .i64 h) true).run Try.prog w' = .ok (.tuple #[.agg #[.string s, .int .i64 p], .bool true]) w' ∧ Snc ((w.alloc (.cells #[.int .i64 5, .int .i64 h, .int .i64 off, .int .i64 n] 39)).alloc (.cells #[.int .i64 0, .int .i64 0] 35)) w')
      (first | (with_reducible exact HALL.out _ hS0) | (with_reducible assumption) | (with_reducible exact HALL.out _ (hS1 _)) | (with_reducible exact HALL.out _ (Snc.alloc (sncOf ‹_ ∧ _›) _))) (first | fail)
    all_goals
      go_wp2_with (first
        | (go_at_call 32; (with_reducible refine (ca _).mono ?_); rintro _ _ ⟨rfl, y, rfl⟩))
      refine bodyPost_ret (v := .tuple #[.agg #[.int .i64 E', .int .i64 N'], .bool true]) (by simp [results, Try.results13, go_sem]) rfl (Ret.mk rfl ?_)
      have hy : Snc w y.at' := by
        refine Below.trans hwB (Below.mono ?_ (Below.size hwB))
        exact Below.trans (sncAD _ _) (y.below.mono (by simp))
      exact Below.setCell (Below.setCell hy (by simp) _) (by simp) _
end Go.Proofs.Ytlcegnehlhakdaa
