/-
  The walks of isPlace, rightPlace, rightName, rightNumber, rightArm, rightVars.
-/
import Derived.Test.YtlppbgmcoknliaaGreatDoorIdx
namespace Go.Proofs.YtlppbgmcoknliaaGreatDoor
set_option linter.unusedVariables false
open Go.RowKit

/-- A text of no more than so many bytes. -/
def fitS (s : ByteArray) : Prop := s.size ≤ 1048576
theorem fit_le {s : ByteArray} (h : fitS s) : s.size ≤ 100000000 := Nat.le_trans h (by decide)
def PlaceD.Fit (p : PlaceD) : Prop := fitS p.loc ∧ ∀ s ∈ p.steps, fitS s
def VarD.Fit (v : VarD) : Prop := fitS v.name ∧ fitS v.type
def ArmD.Fit (a : ArmD) : Prop := fitS a.variant ∧ fitS a.loc ∧ fitS a.block
def StmtD.Fit (s : StmtD) : Prop := s.to.Fit ∧ fitS s.name ∧ fitS s.variant ∧ ∀ p ∈ s.args, p.Fit
def TermD.Fit (t : TermD) : Prop := t.to.Fit ∧ fitS t.name ∧ (∀ p ∈ t.args, p.Fit) ∧ (∀ s ∈ t.blocks, fitS s) ∧ ∀ a ∈ t.arms, a.Fit
def BlockD.Fit (b : BlockD) : Prop := fitS b.name ∧ (∀ s ∈ b.stmts, s.Fit) ∧ b.term.Fit
def FuncD.Fit (f : FuncD) : Prop := fitS f.name ∧ fitS f.result ∧ (∀ v ∈ f.params, v.Fit) ∧ (∀ v ∈ f.locals, v.Fit) ∧ ∀ b ∈ f.blocks, b.Fit
def StructD.Fit (s : StructD) : Prop := fitS s.name ∧ ∀ v ∈ s.fields, v.Fit
def EnumD.Fit (s : EnumD) : Prop := fitS s.name ∧ ∀ v ∈ s.variants, v.Fit
def ProgD.Fit (p : ProgD) : Prop := (∀ s ∈ p.structs, s.Fit) ∧ (∀ s ∈ p.enums, s.Fit) ∧ ∀ f ∈ p.funcs, f.Fit

/-- What Right and its parts answer. -/
def nameS (s : ByteArray) : Bool := nameB s.data.toList
def plainS (s : ByteArray) : Bool := isPlain s.data.toList
def payS (s : ByteArray) : Bool := (s.toList == []) || plainS s
def typeS (s : ByteArray) : Bool := !(kindL s.data.toList == 0)
def stepS (s : ByteArray) : Bool := (s.toList == [42]) || nameS s
def placeR (p : PlaceD) : Bool := nameS p.loc && everyL 0 8 stepS p.steps
def varR (r : ByteArray → Bool) (v : VarD) : Bool := nameS v.name && r v.type
def armR (a : ArmD) : Bool := nameS a.variant && (((a.loc.toList == []) || nameS a.loc) && nameS a.block)
def rplaceR (p : PlaceD) : Bool → Bool
 | true => placeR p
 | false => (p.loc.toList == []) && decide (p.steps.length = 0)
def rnameR (s : ByteArray) : Bool → Bool
 | true => nameS s
 | false => s.toList == []
def rnumR (n : Int) : Bool → Bool
 | true => decide (-1099511627776 ≤ n) && decide (n ≤ 1099511627776)
 | false => n == 0
theorem everyL_map {α β : Type} (lo hi : Int) (r : α → Bool) (f : β → α) (xs : List β) : everyL lo hi r (xs.map f) = everyL lo hi (fun x => r (f x)) xs := by
 unfold everyL
 rw [List.length_map, List.all_map]
 rfl

set_option maxHeartbeats 400000 in
theorem step_any (s : ByteArray) (hs : fitS s) (w : World) :
 Calls Tryz.prog 84 #[.string s] w fun e w' => e = .returned (.bool (stepS s)) ∧ Below w.heap.size w w' := by
 have c1 := isName_any s (fit_le hs)
 unfold stepS nameS
 cases hi : (s.toList == [42]) with
 | true =>
  clear c1
  go_enter Tryz.func84, Tryz.ntmps84
  go_wp2
  go_ret
  exact ⟨rfl, Below.refl _ _⟩
 | false =>
  generalize nameB s.data.toList = R at c1 ⊢
  go_enter Tryz.func84, Tryz.ntmps84
  go_wp2_with (first | (go_at_call 82; refine (c1 _).mono ?_; rintro e w' ⟨rfl, hq⟩; have hq := hidIt hq))
  go_ret
  exact ⟨rfl, hq.out⟩
set_option maxHeartbeats 400000 in
theorem pay_any (s : ByteArray) (hs : fitS s) (w : World) :
 Calls Tryz.prog 96 #[.string s] w fun e w' => e = .returned (.bool (payS s)) ∧ Below w.heap.size w w' := by
 have c1 := plain_any s (fit_le hs)
 unfold payS plainS
 cases hi : (s.toList == []) with
 | true =>
  clear c1
  go_enter Tryz.func96, Tryz.ntmps96
  go_wp2
  go_ret
  exact ⟨rfl, Below.refl _ _⟩
 | false =>
  generalize isPlain s.data.toList = R at c1 ⊢
  go_enter Tryz.func96, Tryz.ntmps96
  go_wp2_with (first | (go_at_call 93; refine (c1 _).mono ?_; rintro e w' ⟨rfl, hq⟩; have hq := hidIt hq))
  go_ret
  exact ⟨rfl, hq.out⟩
set_option maxHeartbeats 400000 in
theorem type_any (s : ByteArray) (hs : fitS s) (w : World) :
 Calls Tryz.prog 99 #[.string s] w fun e w' => e = .returned (.bool (typeS s)) ∧ Below w.heap.size w w' := by
 have c1 := kind_any s (fit_le hs)
 unfold typeS
 generalize kindL s.data.toList = k at c1 ⊢
 cases hk : ((k : Int) != 0) with
 | true =>
  have e : (k == 0) = false := by simp at hk ⊢; omega
  rw [e]
  go_enter Tryz.func99, Tryz.ntmps99
  go_wp2_with (first | (go_at_call 100; refine (c1 _).mono ?_; rintro e w' ⟨rfl, hq⟩; have hq := hidIt hq))
  go_ret
  exact ⟨rfl, hq.out⟩
 | false =>
  have e : (k == 0) = true := by simp at hk ⊢; omega
  rw [e]
  go_enter Tryz.func99, Tryz.ntmps99
  go_wp2_with (first | (go_at_call 100; refine (c1 _).mono ?_; rintro e w' ⟨rfl, hq⟩; have hq := hidIt hq))
  go_ret
  exact ⟨rfl, hq.out⟩
set_option maxHeartbeats 400000 in
theorem optname_any (s : ByteArray) (h : Bool) (hs : fitS s) (w : World) :
 Calls Tryz.prog 172 #[.string s, .bool h] w fun e w' => e = .returned (.bool (rnameR s h)) ∧ Below w.heap.size w w' := by
 have c1 := isName_any s (fit_le hs)
 cases h with
 | true =>
  unfold rnameR nameS
  generalize nameB s.data.toList = R at c1 ⊢
  go_enter Tryz.func172, Tryz.ntmps172
  go_wp2_with (first | (go_at_call 82; refine (c1 _).mono ?_; rintro e w' ⟨rfl, hq⟩; have hq := hidIt hq))
  go_ret
  exact ⟨rfl, hq.out⟩
 | false =>
  unfold rnameR
  clear c1
  go_enter Tryz.func172, Tryz.ntmps172
  go_wp2
  go_ret
  exact ⟨by show _ = Ending.returned (Value.bool (s.toList == [])); cases s.toList <;> rfl, Below.refl _ _⟩
set_option maxHeartbeats 400000 in
theorem rnum_any (n : Int) (h : Bool) (w : World) :
 Calls Tryz.prog 171 #[.int .i64 n, .bool h] w fun e w' => e = .returned (.bool (rnumR n h)) ∧ Below w.heap.size w w' := by
 cases h with
 | true =>
  unfold rnumR
  by_cases h1 : -1099511627776 ≤ n
  · rw [decide_eq_true h1]
    by_cases h2 : n ≤ 1099511627776
    · rw [decide_eq_true h2]
      go_enter Tryz.func171, Tryz.ntmps171
      go_wp2
      go_ret
      exact ⟨rfl, Below.refl _ _⟩
    · rw [decide_eq_false h2]
      have h2' : 1099511627776 < n := by omega
      go_enter Tryz.func171, Tryz.ntmps171
      go_wp2
      go_ret
      exact ⟨rfl, Below.refl _ _⟩
  · rw [decide_eq_false h1]
    have h1' : n < -1099511627776 := by omega
    go_enter Tryz.func171, Tryz.ntmps171
    go_wp2
    go_ret
    exact ⟨rfl, Below.refl _ _⟩
 | false =>
  unfold rnumR
  cases h1 : n == 0
  · go_enter Tryz.func171, Tryz.ntmps171
    go_wp2
    go_ret
    exact ⟨rfl, Below.refl _ _⟩
  · go_enter Tryz.func171, Tryz.ntmps171
    go_wp2
    go_ret
    exact ⟨rfl, Below.refl _ _⟩
set_option maxHeartbeats 1000000 in
set_option maxRecDepth 100000 in
theorem place_right (x : PlaceX) (w : World) (hx : x.At w) (hf : x.d.Fit) :
 Calls Tryz.prog 36 #[.agg #[.string x.loc, .slice x.sa x.steps.length x.sc]] w fun e w' => e = .returned (.bool (placeR x.d)) ∧ Below w.heap.size w w' := by
 have c0 : Hid (∀ W, Below w.heap.size w W → Calls Tryz.prog 82 #[.string x.loc] W fun e w' => e = .returned (.bool (nameS x.loc)) ∧ Below W.heap.size W w') := hidIt fun W hW => isName_any x.loc (fit_le hf.1) W
 have c1 : Hid (∀ W, Below w.heap.size w W → Calls Tryz.prog 83 #[.slice x.sa x.steps.length x.sc, .agg #[.int .i64 0, .int .i64 8], .func (.func 84) #[] #[]] W fun e w' => e = .returned (.bool (everyL 0 8 stepS x.steps)) ∧ Below W.heap.size W w') := hidIt fun W hW => every0_string _ _ _ _ _ _ _ _ (fun args w => by kernel_rfl) (St.on hx hW) fun W2 s hs _ => step_any s (hf.2 s hs) W2
 obtain ⟨v0, v1, e0, e1, eR⟩ : ∃ v0 v1 : Bool, (nameS x.loc) = v0 ∧ (everyL 0 8 stepS x.steps) = v1 ∧ (placeR x.d) = (v0 && (v1)) := ⟨_, _, rfl, rfl, rfl⟩
 rw [eR]
 clear eR hx hf
 rw [e0] at c0
 clear e0
 rw [e1] at c1
 clear e1
 have hb := hidIt (below_new w (.cells #[.string x.loc, .slice x.sa x.steps.length x.sc] 24))
 have H1 := hidIt (heap_alloc_new w (.cells #[.string x.loc, .slice x.sa x.steps.length x.sc] 24))
 cases v0
 · clear c1
   go_enter Tryz.func36, Tryz.ntmps36
   go_wp2_with (go_at_call 82; refine (c0.out _ hb.out).mono ?_)
   rintro e w0 ⟨rfl, hq⟩
   have hb := hidIt (below_next hb.out hq)
   have H1 := hidIt (heap_on H1.out hq)
   clear hq c0
   obtain ⟨p0, p1⟩ := cells_2 H1.out
   go_wp2
   go_ret
   exact ⟨rfl, hb.out⟩
 cases v1
 · go_enter Tryz.func36, Tryz.ntmps36
   go_wp2_with (go_at_call 82; refine (c0.out _ hb.out).mono ?_)
   rintro e w0 ⟨rfl, hq⟩
   have hb := hidIt (below_next hb.out hq)
   have H1 := hidIt (heap_on H1.out hq)
   clear hq c0
   obtain ⟨p0, p1⟩ := cells_2 H1.out
   go_wp2_with (go_at_call 83; refine (c1.out _ hb.out).mono ?_)
   rintro e w1 ⟨rfl, hq⟩
   have hb := hidIt (below_next hb.out hq)
   have H1 := hidIt (heap_on H1.out hq)
   clear hq c1
   obtain ⟨p0, p1⟩ := cells_2 H1.out
   go_wp2
   go_ret
   exact ⟨rfl, hb.out⟩
 go_enter Tryz.func36, Tryz.ntmps36
 go_wp2_with (go_at_call 82; refine (c0.out _ hb.out).mono ?_)
 rintro e w0 ⟨rfl, hq⟩
 have hb := hidIt (below_next hb.out hq)
 have H1 := hidIt (heap_on H1.out hq)
 clear hq c0
 obtain ⟨p0, p1⟩ := cells_2 H1.out
 go_wp2_with (go_at_call 83; refine (c1.out _ hb.out).mono ?_)
 rintro e w1 ⟨rfl, hq⟩
 have hb := hidIt (below_next hb.out hq)
 have H1 := hidIt (heap_on H1.out hq)
 clear hq c1
 obtain ⟨p0, p1⟩ := cells_2 H1.out
 go_wp2
 go_ret
 exact ⟨rfl, hb.out⟩

set_option maxHeartbeats 400000 in
theorem rplace_any (x : PlaceX) (h : Bool) (w : World) (hx : x.At w) (hf : x.d.Fit) :
 Calls Tryz.prog 170 #[.agg #[.string x.loc, .slice x.sa x.steps.length x.sc], .bool h] w fun e w' => e = .returned (.bool (rplaceR x.d h)) ∧ Below w.heap.size w w' := by
 have hb := hidIt (below_new w (.cells #[.string x.loc, .slice x.sa x.steps.length x.sc] 24))
 have n1 := St.big hx
 cases h with
 | true =>
  have c1 := hidIt (place_right x _ (hx.on hb.out) hf)
  unfold rplaceR
  clear hx hf
  generalize placeR x.d = R at c1 ⊢
  go_enter Tryz.func170, Tryz.ntmps170
  go_wp2_with (go_at_call 36; refine c1.out.mono ?_; rintro e w' ⟨rfl, hq⟩; have hq := hidIt hq)
  go_ret
  exact ⟨rfl, below_next hb.out hq.out⟩
 | false =>
  show Calls _ _ _ _ fun e w' => e = .returned (.bool ((x.loc.toList == []) && decide (x.steps.length = 0))) ∧ Below w.heap.size w w'
  clear hx hf
  generalize x.steps.length = n at *
  cases h1 : x.loc.toList == []
  · go_enter Tryz.func170, Tryz.ntmps170
    go_wp2
    go_ret
    exact ⟨rfl, hb.out⟩
  · by_cases h2 : n = 0
    · subst h2
      go_enter Tryz.func170, Tryz.ntmps170
      go_wp2
      go_ret
      exact ⟨rfl, hb.out⟩
    · rw [decide_eq_false h2]
      have h3 : ((n : Int) == 0) = false := by simp; omega
      go_enter Tryz.func170, Tryz.ntmps170
      go_wp2
      go_ret
      exact ⟨rfl, hb.out⟩

set_option maxHeartbeats 1000000 in
theorem arm_right (x : ArmD) (w : World) (hf : x.Fit) :
 Calls Tryz.prog 176 #[.agg #[.string x.variant, .string x.loc, .string x.block]] w fun e w' => e = .returned (.bool (armR x)) ∧ Below w.heap.size w w' := by
 have c0 : Hid (∀ W, Calls Tryz.prog 82 #[.string x.variant] W fun e w' => e = .returned (.bool (nameS x.variant)) ∧ Below W.heap.size W w') := hidIt fun W => isName_any x.variant (fit_le hf.1) W
 have c1 : Hid (∀ W, Calls Tryz.prog 82 #[.string x.loc] W fun e w' => e = .returned (.bool (nameS x.loc)) ∧ Below W.heap.size W w') := hidIt fun W => isName_any x.loc (fit_le hf.2.1) W
 have c2 : Hid (∀ W, Calls Tryz.prog 82 #[.string x.block] W fun e w' => e = .returned (.bool (nameS x.block)) ∧ Below W.heap.size W w') := hidIt fun W => isName_any x.block (fit_le hf.2.2) W
 clear hf
 unfold armR
 generalize nameS x.variant = v0 at c0 ⊢
 generalize nameS x.loc = v1 at c1 ⊢
 generalize nameS x.block = v2 at c2 ⊢
 have hb := hidIt (below_new w (.cells #[.string x.variant, .string x.loc, .string x.block] 103))
 have H1 := hidIt (heap_alloc_new w (.cells #[.string x.variant, .string x.loc, .string x.block] 103))
 cases v0
 · clear c1 c2
   go_enter Tryz.func176, Tryz.ntmps176
   go_wp2_with (go_at_call 82; refine (c0.out _).mono ?_)
   rintro e w0 ⟨rfl, hq⟩
   have hb := hidIt (below_next hb.out hq)
   have H1 := hidIt (heap_on H1.out hq)
   clear hq c0
   obtain ⟨p0, p1, p2⟩ := cells_3 H1.out
   go_wp2
   go_ret
   exact ⟨rfl, hb.out⟩
 cases hl : x.loc.toList == []
 · cases v1
   · clear c2
     go_enter Tryz.func176, Tryz.ntmps176
     go_wp2_with (go_at_call 82; refine (c0.out _).mono ?_)
     rintro e w0 ⟨rfl, hq⟩
     have hb := hidIt (below_next hb.out hq)
     have H1 := hidIt (heap_on H1.out hq)
     clear hq c0
     obtain ⟨p0, p1, p2⟩ := cells_3 H1.out
     go_wp2_with (go_at_call 82; refine (c1.out _).mono ?_)
     rintro e w1 ⟨rfl, hq⟩
     have hb := hidIt (below_next hb.out hq)
     have H1 := hidIt (heap_on H1.out hq)
     clear hq c1
     obtain ⟨p0, p1, p2⟩ := cells_3 H1.out
     go_wp2
     go_ret
     exact ⟨rfl, hb.out⟩
   · skip
     go_enter Tryz.func176, Tryz.ntmps176
     go_wp2_with (go_at_call 82; refine (c0.out _).mono ?_)
     rintro e w0 ⟨rfl, hq⟩
     have hb := hidIt (below_next hb.out hq)
     have H1 := hidIt (heap_on H1.out hq)
     clear hq c0
     obtain ⟨p0, p1, p2⟩ := cells_3 H1.out
     go_wp2_with (go_at_call 82; refine (c1.out _).mono ?_)
     rintro e w1 ⟨rfl, hq⟩
     have hb := hidIt (below_next hb.out hq)
     have H1 := hidIt (heap_on H1.out hq)
     clear hq c1
     obtain ⟨p0, p1, p2⟩ := cells_3 H1.out
     go_wp2_with (go_at_call 82; refine (c2.out _).mono ?_)
     rintro e w2 ⟨rfl, hq⟩
     have hb := hidIt (below_next hb.out hq)
     have H1 := hidIt (heap_on H1.out hq)
     clear hq c2
     obtain ⟨p0, p1, p2⟩ := cells_3 H1.out
     go_wp2
     go_ret
     exact ⟨rfl, hb.out⟩
 · clear c1
   go_enter Tryz.func176, Tryz.ntmps176
   go_wp2_with (go_at_call 82; refine (c0.out _).mono ?_)
   rintro e w0 ⟨rfl, hq⟩
   have hb := hidIt (below_next hb.out hq)
   have H1 := hidIt (heap_on H1.out hq)
   clear hq c0
   obtain ⟨p0, p1, p2⟩ := cells_3 H1.out
   go_wp2_with (go_at_call 82; refine (c2.out _).mono ?_)
   rintro e w2 ⟨rfl, hq⟩
   have hb := hidIt (below_next hb.out hq)
   have H1 := hidIt (heap_on H1.out hq)
   clear hq c2
   obtain ⟨p0, p1, p2⟩ := cells_3 H1.out
   go_wp2
   go_ret
   exact ⟨rfl, hb.out⟩

set_option maxHeartbeats 400000 in
theorem var_right (x : VarD) (B g : Nat) (r : Bool) (w : World) (eg : ∀ args w, (callFunc g args).run Tryz.prog w = .ok (.enter g args) w) (hf : x.Fit) (hB : w.cell? ⟨B, 0, none⟩ = some (.func (.func g) #[] #[])) (hlt : B < w.heap.size)
 (hp : ∀ W, Calls Tryz.prog g #[.string x.type] W fun e w' => e = .returned (.bool r) ∧ Below W.heap.size W w') :
 Calls Tryz.prog 130 #[.agg #[.string x.name, .string x.type], .pointer (some ⟨B, 0, none⟩)] w fun e w' => e = .returned (.bool (nameS x.name && r)) ∧ Below w.heap.size w w' := by
 have c0 : Hid (∀ W, Calls Tryz.prog 82 #[.string x.name] W fun e w' => e = .returned (.bool (nameS x.name)) ∧ Below W.heap.size W w') := hidIt fun W => isName_any x.name (fit_le hf.1) W
 have c1 : Hid (∀ W, Calls Tryz.prog g (#[.string x.type] ++ #[]) W fun e w' => e = .returned (.bool r) ∧ Below W.heap.size W w') := hidIt fun W => by rw [Array.append_empty]; exact hp W
 clear hf hp
 generalize nameS x.name = v0 at c0 ⊢
 have hb := hidIt (below_new w (.cells #[.string x.name, .string x.type] 52))
 have H1 := hidIt (heap_alloc_new w (.cells #[.string x.name, .string x.type] 52))
 have hB2 : Hid (∀ W, Below w.heap.size w W → W.cell? ⟨B, 0, none⟩ = some (.func (.func g) #[] #[])) := hidIt fun W hW => by rw [hW.cell (p := ⟨B, 0, none⟩) hlt]; exact hB
 have hB3 := hB2.out _ hb.out
 clear hB hlt
 cases v0
 · clear c1
   go_enter Tryz.func130, Tryz.ntmps130
   go_wp2_with (go_at_call 82; refine (c0.out _).mono ?_)
   rintro e w0 ⟨rfl, hq⟩
   have hb := hidIt (below_next hb.out hq)
   go_wp2
   go_ret
   exact ⟨rfl, hb.out⟩
 go_enter Tryz.func130, Tryz.ntmps130
 go_wp2_with (go_at_call 82; refine (c0.out _).mono ?_)
 rintro e w0 ⟨rfl, hq⟩
 have hb := hidIt (below_next hb.out hq)
 have H1 := hidIt (heap_on H1.out hq)
 clear hq c0 hB3
 have hB3 := hB2.out _ hb.out
 obtain ⟨p0, p1⟩ := cells_2 H1.out
 go_wp2_with (go_at_fn g; refine (c1.out _).mono ?_; rintro e w' ⟨rfl, hb'⟩)
 go_ret
 exact ⟨rfl, below_next hb.out hb'⟩
set_option maxHeartbeats 400000 in
theorem vars_right (a : Option Addr) (xs : List VarD) (c : Nat) (lo hi : Int) (g : Nat) (r : ByteArray → Bool) (w : World) (eg : ∀ args w, (callFunc g args).run Tryz.prog w = .ok (.enter g args) w) (h1 : Vrs w a xs) (hf : ∀ v ∈ xs, v.Fit)
 (hp : ∀ (W : World) (s : ByteArray), fitS s → Calls Tryz.prog g #[.string s] W fun e w' => e = .returned (.bool (r s)) ∧ Below W.heap.size W w') :
 Calls Tryz.prog 92 #[.slice a xs.length c, .agg #[.int .i64 lo, .int .i64 hi], .func (.func g) #[] #[]] w fun e w' => e = .returned (.bool (everyL lo hi (varR r) xs)) ∧ Below w.heap.size w w' := by
 have hb := hidIt (below_next (below_new w (.cells #[.int .i64 lo, .int .i64 hi] 87)) (below_new _ (.cells #[.func (.func g) #[] #[]] 85)))
 obtain ⟨hh1, hh2⟩ := two_at (w := w) (cs := #[.int .i64 lo, .int .i64 hi]) (ds := #[.func (.func g) #[] #[]]) (t := 87) (u := 85) rfl rfl (Below.refl _ _)
 have H2 := hidIt hh2
 have c1 : Hid (∀ W, Below w.heap.size w W → W.heap[w.heap.size + 1]? = some (.cells #[.func (.func g) #[] #[]] 85) → Calls Tryz.prog 129 #[.slice a xs.length c, .agg #[.int .i64 lo, .int .i64 hi], .func (.func 130) #[] #[.pointer (some ⟨w.heap.size + 1, 0, none⟩)]] W fun e w' => e = .returned (.bool (everyL lo hi (varR r) xs)) ∧ Below W.heap.size W w') := hidIt fun W hW hh =>
  every_var a xs c lo hi 130 #[.pointer (some ⟨w.heap.size + 1, 0, none⟩)] (varR r) W (fun args w => by kernel_rfl) (h1.on hW) fun W2 x hx hW2 =>
   var_right x (w.heap.size + 1) g (r x.type) W2 eg (hf x hx) (cell_at (heap_on hh hW2) 0) (Array.getElem?_eq_some_iff.1 (heap_on hh hW2)).1 fun W3 => hp W3 x.type (hf x hx).2
 clear hh1 hh2 hp h1 hf
 generalize xs.length = n at *
 generalize everyL lo hi (varR r) xs = R at *
 go_enter Tryz.func92, Tryz.ntmps92
 go_wp2_with (go_at_call 129; refine (c1.out _ hb.out H2.out).mono ?_; rintro e w' ⟨rfl, hb'⟩)
 go_ret
 exact ⟨rfl, below_next hb.out hb'⟩

end Go.Proofs.YtlppbgmcoknliaaGreatDoor
