/-
  The walks of slices.IndexFunc, slices.ContainsFunc and every: texts, names with types, places, arms.
-/
import Derived.Test.YtlppbgmcoknliaaGreatDoorEqs
namespace Go.Proofs.YtlppbgmcoknliaaGreatDoor
set_option linter.unusedVariables false
open Go.RowKit

/-- The index of the first one that is so; -1: there is none. -/
def idxL {α : Type} (p : α → Bool) (xs : List α) : Int := match xs.findIdx? p with | some i => i | none => -1
theorem idxL_hit {α : Type} {p : α → Bool} {xs : List α} {k : Nat} {x : α} (h : xs[k]? = some x) (hp : p x = true) (A : ∀ (j : Nat) (y : α), j < k → xs[j]? = some y → p y = false) : idxL p xs = k := by
 have : xs.findIdx? p = some k := by
  obtain ⟨hk, e⟩ := List.getElem?_eq_some_iff.1 h
  rw [List.findIdx?_eq_some_iff_getElem]
  refine ⟨hk, by rw [e]; exact hp, fun j hj => ?_⟩
  rw [A j xs[j] hj (List.getElem?_eq_getElem _)]
  decide
 unfold idxL
 rw [this]
theorem idxL_none {α : Type} {p : α → Bool} {xs : List α} (A : ∀ (j : Nat) (y : α), xs[j]? = some y → p y = false) : idxL p xs = -1 := by
 have : xs.findIdx? p = none := by
  rw [List.findIdx?_eq_none_iff]
  intro x hx
  obtain ⟨j, hj⟩ := List.getElem?_of_mem hx
  exact A j x hj
 unfold idxL
 rw [this]
theorem idxL_has {α : Type} (p : α → Bool) (xs : List α) : (xs.any p = true ∧ ∃ i : Nat, idxL p xs = i) ∨ (xs.any p = false ∧ idxL p xs = -1) := by
 unfold idxL
 cases h : xs.findIdx? p with
 | none =>
  refine .inr ⟨?_, rfl⟩
  rw [List.findIdx?_eq_none_iff] at h
  rw [List.any_eq_false]
  intro x hx; rw [h x hx]; decide
 | some i =>
  refine .inl ⟨?_, i, rfl⟩
  rw [List.findIdx?_eq_some_iff_getElem] at h
  obtain ⟨hi, hp, _⟩ := h
  exact List.any_eq_true.2 ⟨_, List.getElem_mem hi, hp⟩
/-- Are there as many as there may be, and is each one right? -/
def everyL {α : Type} (lo hi : Int) (r : α → Bool) (xs : List α) : Bool := decide (lo ≤ xs.length) && (decide ((xs.length : Int) ≤ hi) && xs.all r)
theorem any_not {α : Type} (r : α → Bool) (xs : List α) : (xs.any fun x => !r x) = !xs.all r := by
 induction xs with
 | nil => rfl
 | cons x xs ih => simp only [List.any_cons, List.all_cons, ih, Bool.not_and]

set_option maxHeartbeats 2000000 in
set_option maxRecDepth 100000 in
theorem idx_string (a : Option Addr) (xs : List ByteArray) (c g : Nat) (lb : Array Value) (p : ByteArray → Bool) (w : World) (eg : ∀ args w, (callFunc g args).run Tryz.prog w = .ok (.enter g args) w) (h1 : St w a xs)
 (hp : ∀ (W : World) (x : ByteArray), x ∈ xs → Below w.heap.size w W → Calls Tryz.prog g (#[.string x] ++ lb) W fun e w' => e = .returned (.bool (p x)) ∧ Below W.heap.size W w') :
 Calls Tryz.prog 161 #[.slice a xs.length c, .func (.func g) #[] lb] w fun e w' => e = .returned (.int .i64 (idxL p xs)) ∧ Below w.heap.size w w' := by
 have n1 := St.big h1
 have H1 := hidIt h1
 have HP := hidIt hp
 obtain ⟨n, hn⟩ : ∃ n, xs.length = n := ⟨_, rfl⟩
 rw [hn] at n1 ⊢
 have hn1 := hidIt hn
 clear hn h1 hp
 obtain ⟨R, hR0⟩ : ∃ R, idxL p xs = R := ⟨_, rfl⟩
 rw [hR0]
 have hR := hidIt hR0
 clear hR0
 go_enter Tryz.func161, Tryz.ntmps161
 go_wp2
 go_loopg [5, 8] n (fun gg _ s8 wr => ∃ k : Nat, k ≤ n ∧ n - k ≤ gg ∧ s8 = .int .i64 k ∧ Hid (Below w.heap.size w wr) ∧ Hid (∀ (j : Nat) (x : ByteArray), j < k → xs[j]? = some x → p x = false))
 case atStart => exact ⟨0, Nat.zero_le _, by omega, rfl, hidIt (Below.refl _ _), hidIt fun j x hj => absurd hj (Nat.not_lt_zero _)⟩
 case round =>
  obtain ⟨k, hk, hg, rfl, hb, A⟩ := hrel
  by_cases hlt : k < n
  · obtain ⟨x, hx⟩ : ∃ x, xs[k]? = some x := ⟨_, List.getElem?_eq_getElem (by rw [hn1.out]; exact hlt)⟩
    obtain ⟨b1, o1, rfl, g1⟩ := H1.out.cell hx
    have c1 := HP.out wr x (List.mem_of_getElem? hx) hb.out
    have Hx := hidIt hx
    have p0 := g1 wr hb.out
    clear g1 hx
    cases hq : p x with
    | true =>
     rw [hq] at c1
     obtain rfl : (k : Int) = R := (idxL_hit Hx.out hq A.out).symm.trans hR.out
     go_wp2_with (go_at_fn g; refine c1.mono ?_; rintro e w' ⟨rfl, hb'⟩)
     go_ret
     exact ⟨rfl, below_next hb.out hb'⟩
    | false =>
     rw [hq] at c1
     go_wp2_with (go_at_fn g; refine c1.mono ?_; rintro e w' ⟨rfl, hb'⟩)
     go_roundg (n - (k + 1))
     case measure => omega
     case rel =>
      refine ⟨k + 1, by omega, by omega, by go_num, hidIt (below_next hb.out hb'), hidIt fun j u hj hu => ?_⟩
      by_cases e : j = k
      · subst e
        obtain rfl : x = u := Option.some.inj (Hx.out.symm.trans hu)
        exact hq
      · exact A.out j u (by omega) hu
  · have : k = n := by omega
    subst this
    obtain rfl : (-1 : Int) = R := by
     refine (idxL_none fun j x hj => A.out j x ?_ hj).symm.trans hR.out
     have := (List.getElem?_eq_some_iff.1 hj).1
     rw [hn1.out] at this
     exact this
    go_wp2
    go_ret
    exact ⟨rfl, hb.out⟩
theorem has_string (a : Option Addr) (xs : List ByteArray) (c g : Nat) (lb : Array Value) (p : ByteArray → Bool) (w : World) (eg : ∀ args w, (callFunc g args).run Tryz.prog w = .ok (.enter g args) w) (h1 : St w a xs)
 (hp : ∀ (W : World) (x : ByteArray), x ∈ xs → Below w.heap.size w W → Calls Tryz.prog g (#[.string x] ++ lb) W fun e w' => e = .returned (.bool (p x)) ∧ Below W.heap.size W w') :
 Calls Tryz.prog 121 #[.slice a xs.length c, .func (.func g) #[] lb] w fun e w' => e = .returned (.bool (xs.any p)) ∧ Below w.heap.size w w' := by
 have c1 := idx_string a xs c g lb p w eg h1 hp
 clear hp h1
 rcases idxL_has p xs with ⟨e1, i, e2⟩ | ⟨e1, e2⟩
 · rw [e2] at c1; rw [e1]
   clear e1 e2
   go_enter Tryz.func121, Tryz.ntmps121
   go_wp2_with (go_at_call 161; refine c1.mono ?_; rintro e w' ⟨rfl, hb'⟩)
   go_ret
   exact ⟨rfl, hb'⟩
 · rw [e2] at c1; rw [e1]
   clear e1 e2
   go_enter Tryz.func121, Tryz.ntmps121
   go_wp2_with (go_at_call 161; refine c1.mono ?_; rintro e w' ⟨rfl, hb'⟩)
   go_ret
   exact ⟨rfl, hb'⟩
set_option maxHeartbeats 400000 in
theorem every1_string (x : ByteArray) (B g : Nat) (lb : Array Value) (r : Bool) (w : World) (eg : ∀ args w, (callFunc g args).run Tryz.prog w = .ok (.enter g args) w) (hB : w.cell? ⟨B, 0, none⟩ = some (.func (.func g) #[] lb))
 (hp : ∀ W, Below w.heap.size w W → Calls Tryz.prog g (#[.string x] ++ lb) W fun e w' => e = .returned (.bool r) ∧ Below W.heap.size W w') :
 Calls Tryz.prog 122 #[.string x, .pointer (some ⟨B, 0, none⟩)] w fun e w' => e = .returned (.bool (!r)) ∧ Below w.heap.size w w' := by
 have c1 := hp w (Below.refl _ _)
 clear hp
 go_enter Tryz.func122, Tryz.ntmps122
 go_wp2_with (go_at_fn g; refine c1.mono ?_; rintro e w' ⟨rfl, hb'⟩)
 go_ret
 exact ⟨rfl, hb'⟩
set_option maxHeartbeats 400000 in
set_option maxRecDepth 100000 in
theorem every_string (a : Option Addr) (xs : List ByteArray) (c : Nat) (lo hi : Int) (g : Nat) (lb : Array Value) (r : ByteArray → Bool) (w : World) (eg : ∀ args w, (callFunc g args).run Tryz.prog w = .ok (.enter g args) w) (h1 : St w a xs)
 (hp : ∀ (W : World) (x : ByteArray), x ∈ xs → Below w.heap.size w W → Calls Tryz.prog g (#[.string x] ++ lb) W fun e w' => e = .returned (.bool (r x)) ∧ Below W.heap.size W w') :
 Calls Tryz.prog 83 #[.slice a xs.length c, .agg #[.int .i64 lo, .int .i64 hi], .func (.func g) #[] lb] w fun e w' => e = .returned (.bool (everyL lo hi r xs)) ∧ Below w.heap.size w w' := by
 have n1 := St.big h1
 have hb := hidIt (below_next (below_new w (.cells #[.int .i64 lo, .int .i64 hi] 87)) (below_new _ (.cells #[.func (.func g) #[] lb] 85)))
 unfold everyL
 by_cases hlo : lo ≤ xs.length
 · by_cases hhi : (xs.length : Int) ≤ hi
   · rw [decide_eq_true hlo, decide_eq_true hhi, Bool.true_and, Bool.true_and]
     have c1 : Hid (∀ W, Below w.heap.size w W → W.heap[w.heap.size + 1]? = some (.cells #[.func (.func g) #[] lb] 85) → Calls Tryz.prog 121 #[.slice a xs.length c, .func (.func 122) #[] #[.pointer (some ⟨w.heap.size + 1, 0, none⟩)]] W fun e w' => e = .returned (.bool (!xs.all r)) ∧ Below W.heap.size W w') := hidIt fun W hW hh => by
      have := has_string a xs c 122 #[.pointer (some ⟨w.heap.size + 1, 0, none⟩)] (fun x => !r x) W (fun args w => by kernel_rfl) (h1.on hW) fun W2 x hx hW2 => every1_string x (w.heap.size + 1) g lb (r x) W2 eg (cell_at (heap_on hh hW2) 0) fun W3 hW3 => hp W3 x hx (below_next (below_next hW hW2) hW3)
      rwa [any_not] at this
     obtain ⟨hh1, hh2⟩ := two_at (w := w) (cs := #[.int .i64 lo, .int .i64 hi]) (ds := #[.func (.func g) #[] lb]) (t := 87) (u := 85) rfl rfl (Below.refl _ _)
     have H2 := hidIt hh2
     clear hh1 hh2
     have hlo' : ¬ (xs.length : Int) < lo := by omega
     have hhi' : ¬ hi < (xs.length : Int) := by omega
     clear hp h1 hlo hhi
     generalize xs.length = n at *
     generalize xs.all r = R at *
     go_enter Tryz.func83, Tryz.ntmps83
     go_wp2_with (go_at_call 121; refine (c1.out _ hb.out H2.out).mono ?_; rintro e w' ⟨rfl, hb'⟩)
     go_ret
     exact ⟨by simp, below_next hb.out hb'⟩
   · rw [decide_eq_true hlo, decide_eq_false hhi]
     have hlo' : ¬ (xs.length : Int) < lo := by omega
     have hhi' : hi < (xs.length : Int) := by omega
     clear hp h1 hlo hhi
     generalize xs.length = n at *
     go_enter Tryz.func83, Tryz.ntmps83
     go_wp2_with fail
     go_ret
     exact ⟨rfl, hb.out⟩
 · rw [decide_eq_false hlo]
   have hlo' : (xs.length : Int) < lo := by omega
   clear hp h1 hlo
   generalize xs.length = n at *
   go_enter Tryz.func83, Tryz.ntmps83
   go_wp2_with fail
   go_ret
   exact ⟨rfl, hb.out⟩
theorem every0_string (a : Option Addr) (xs : List ByteArray) (c : Nat) (lo hi : Int) (g : Nat) (r : ByteArray → Bool) (w : World) (eg : ∀ args w, (callFunc g args).run Tryz.prog w = .ok (.enter g args) w) (h1 : St w a xs)
 (hp : ∀ (W : World) (x : ByteArray), x ∈ xs → Below w.heap.size w W → Calls Tryz.prog g #[.string x] W fun e w' => e = .returned (.bool (r x)) ∧ Below W.heap.size W w') :
 Calls Tryz.prog 83 #[.slice a xs.length c, .agg #[.int .i64 lo, .int .i64 hi], .func (.func g) #[] #[]] w fun e w' => e = .returned (.bool (everyL lo hi r xs)) ∧ Below w.heap.size w w' :=
 every_string a xs c lo hi g #[] r w eg h1 fun W x hx hW => by rw [Array.append_empty]; exact hp W x hx hW

set_option maxHeartbeats 2000000 in
set_option maxRecDepth 100000 in
theorem idx_var (a : Option Addr) (xs : List VarD) (c g : Nat) (lb : Array Value) (p : VarD → Bool) (w : World) (eg : ∀ args w, (callFunc g args).run Tryz.prog w = .ok (.enter g args) w) (h1 : Vrs w a xs)
 (hp : ∀ (W : World) (x : VarD), x ∈ xs → Below w.heap.size w W → Calls Tryz.prog g (#[.agg #[.string x.name, .string x.type]] ++ lb) W fun e w' => e = .returned (.bool (p x)) ∧ Below W.heap.size W w') :
 Calls Tryz.prog 77 #[.slice a xs.length c, .func (.func g) #[] lb] w fun e w' => e = .returned (.int .i64 (idxL p xs)) ∧ Below w.heap.size w w' := by
 have n1 := h1.big
 rw [List.length_map] at n1
 have H1 := hidIt h1
 have HP := hidIt hp
 obtain ⟨n, hn⟩ : ∃ n, xs.length = n := ⟨_, rfl⟩
 rw [hn] at n1 ⊢
 have hn1 := hidIt hn
 clear hn h1 hp
 obtain ⟨R, hR0⟩ : ∃ R, idxL p xs = R := ⟨_, rfl⟩
 rw [hR0]
 have hR := hidIt hR0
 clear hR0
 go_enter Tryz.func77, Tryz.ntmps77
 go_wp2
 go_loopg [5, 8] n (fun gg _ s8 wr => ∃ k : Nat, k ≤ n ∧ n - k ≤ gg ∧ s8 = .int .i64 k ∧ Hid (Below w.heap.size w wr) ∧ Hid (∀ (j : Nat) (x : VarD), j < k → xs[j]? = some x → p x = false))
 case atStart => exact ⟨0, Nat.zero_le _, by omega, rfl, hidIt (Below.refl _ _), hidIt fun j x hj => absurd hj (Nat.not_lt_zero _)⟩
 case round =>
  obtain ⟨k, hk, hg, rfl, hb, A⟩ := hrel
  by_cases hlt : k < n
  · obtain ⟨x, hx⟩ : ∃ x, xs[k]? = some x := ⟨_, List.getElem?_eq_getElem (by rw [hn1.out]; exact hlt)⟩
    obtain ⟨b1, o1, rfl, z1, g1⟩ := H1.out.cells (j := k) (r := x.row) (by rw [List.getElem?_map, hx]; rfl)
    have c1 := HP.out wr x (List.mem_of_getElem? hx) hb.out
    have Hx := hidIt hx
    have p0 := g1 wr hb.out 0 _ rfl
    have p1 := g1 wr hb.out 1 _ rfl
    rw [Nat.add_zero] at p0
    clear g1 hx z1
    cases hq : p x with
    | true =>
     rw [hq] at c1
     obtain rfl : (k : Int) = R := (idxL_hit Hx.out hq A.out).symm.trans hR.out
     go_wp2_with (go_at_fn g; refine c1.mono ?_; rintro e w' ⟨rfl, hb'⟩)
     go_ret
     exact ⟨rfl, below_next hb.out hb'⟩
    | false =>
     rw [hq] at c1
     go_wp2_with (go_at_fn g; refine c1.mono ?_; rintro e w' ⟨rfl, hb'⟩)
     go_roundg (n - (k + 1))
     case measure => omega
     case rel =>
      refine ⟨k + 1, by omega, by omega, by go_num, hidIt (below_next hb.out hb'), hidIt fun j u hj hu => ?_⟩
      by_cases e : j = k
      · subst e
        obtain rfl : x = u := Option.some.inj (Hx.out.symm.trans hu)
        exact hq
      · exact A.out j u (by omega) hu
  · have : k = n := by omega
    subst this
    obtain rfl : (-1 : Int) = R := by
     refine (idxL_none fun j x hj => A.out j x ?_ hj).symm.trans hR.out
     have := (List.getElem?_eq_some_iff.1 hj).1
     rw [hn1.out] at this
     exact this
    go_wp2
    go_ret
    exact ⟨rfl, hb.out⟩
theorem has_var (a : Option Addr) (xs : List VarD) (c g : Nat) (lb : Array Value) (p : VarD → Bool) (w : World) (eg : ∀ args w, (callFunc g args).run Tryz.prog w = .ok (.enter g args) w) (h1 : Vrs w a xs)
 (hp : ∀ (W : World) (x : VarD), x ∈ xs → Below w.heap.size w W → Calls Tryz.prog g (#[.agg #[.string x.name, .string x.type]] ++ lb) W fun e w' => e = .returned (.bool (p x)) ∧ Below W.heap.size W w') :
 Calls Tryz.prog 162 #[.slice a xs.length c, .func (.func g) #[] lb] w fun e w' => e = .returned (.bool (xs.any p)) ∧ Below w.heap.size w w' := by
 have c1 := idx_var a xs c g lb p w eg h1 hp
 clear hp h1
 rcases idxL_has p xs with ⟨e1, i, e2⟩ | ⟨e1, e2⟩
 · rw [e2] at c1; rw [e1]
   clear e1 e2
   go_enter Tryz.func162, Tryz.ntmps162
   go_wp2_with (go_at_call 77; refine c1.mono ?_; rintro e w' ⟨rfl, hb'⟩)
   go_ret
   exact ⟨rfl, hb'⟩
 · rw [e2] at c1; rw [e1]
   clear e1 e2
   go_enter Tryz.func162, Tryz.ntmps162
   go_wp2_with (go_at_call 77; refine c1.mono ?_; rintro e w' ⟨rfl, hb'⟩)
   go_ret
   exact ⟨rfl, hb'⟩
set_option maxHeartbeats 400000 in
theorem every1_var (x : VarD) (B g : Nat) (lb : Array Value) (r : Bool) (w : World) (eg : ∀ args w, (callFunc g args).run Tryz.prog w = .ok (.enter g args) w) (hB : w.cell? ⟨B, 0, none⟩ = some (.func (.func g) #[] lb))
 (hp : ∀ W, Below w.heap.size w W → Calls Tryz.prog g (#[.agg #[.string x.name, .string x.type]] ++ lb) W fun e w' => e = .returned (.bool r) ∧ Below W.heap.size W w') :
 Calls Tryz.prog 163 #[.agg #[.string x.name, .string x.type], .pointer (some ⟨B, 0, none⟩)] w fun e w' => e = .returned (.bool (!r)) ∧ Below w.heap.size w w' := by
 have hb := hidIt (below_new w (.cells #[.string x.name, .string x.type] 52))
 have hB' := Lib.cell?_alloc_some (.cells #[.string x.name, .string x.type] 52) hB
 have c1 := hp _ (below_new w (.cells #[.string x.name, .string x.type] 52))
 clear hp
 go_enter Tryz.func163, Tryz.ntmps163
 go_wp2_with (go_at_fn g; refine c1.mono ?_; rintro e w' ⟨rfl, hb'⟩)
 go_ret
 exact ⟨rfl, below_next hb.out hb'⟩
set_option maxHeartbeats 400000 in
set_option maxRecDepth 100000 in
theorem every_var (a : Option Addr) (xs : List VarD) (c : Nat) (lo hi : Int) (g : Nat) (lb : Array Value) (r : VarD → Bool) (w : World) (eg : ∀ args w, (callFunc g args).run Tryz.prog w = .ok (.enter g args) w) (h1 : Vrs w a xs)
 (hp : ∀ (W : World) (x : VarD), x ∈ xs → Below w.heap.size w W → Calls Tryz.prog g (#[.agg #[.string x.name, .string x.type]] ++ lb) W fun e w' => e = .returned (.bool (r x)) ∧ Below W.heap.size W w') :
 Calls Tryz.prog 129 #[.slice a xs.length c, .agg #[.int .i64 lo, .int .i64 hi], .func (.func g) #[] lb] w fun e w' => e = .returned (.bool (everyL lo hi r xs)) ∧ Below w.heap.size w w' := by
 have n1 := h1.big
 rw [List.length_map] at n1
 have hb := hidIt (below_next (below_new w (.cells #[.int .i64 lo, .int .i64 hi] 87)) (below_new _ (.cells #[.func (.func g) #[] lb] 120)))
 unfold everyL
 by_cases hlo : lo ≤ xs.length
 · by_cases hhi : (xs.length : Int) ≤ hi
   · rw [decide_eq_true hlo, decide_eq_true hhi, Bool.true_and, Bool.true_and]
     have c1 : Hid (∀ W, Below w.heap.size w W → W.heap[w.heap.size + 1]? = some (.cells #[.func (.func g) #[] lb] 120) → Calls Tryz.prog 162 #[.slice a xs.length c, .func (.func 163) #[] #[.pointer (some ⟨w.heap.size + 1, 0, none⟩)]] W fun e w' => e = .returned (.bool (!xs.all r)) ∧ Below W.heap.size W w') := hidIt fun W hW hh => by
      have := has_var a xs c 163 #[.pointer (some ⟨w.heap.size + 1, 0, none⟩)] (fun x => !r x) W (fun args w => by kernel_rfl) (h1.on hW) fun W2 x hx hW2 => every1_var x (w.heap.size + 1) g lb (r x) W2 eg (cell_at (heap_on hh hW2) 0) fun W3 hW3 => hp W3 x hx (below_next (below_next hW hW2) hW3)
      rwa [any_not] at this
     obtain ⟨hh1, hh2⟩ := two_at (w := w) (cs := #[.int .i64 lo, .int .i64 hi]) (ds := #[.func (.func g) #[] lb]) (t := 87) (u := 120) rfl rfl (Below.refl _ _)
     have H2 := hidIt hh2
     clear hh1 hh2
     have hlo' : ¬ (xs.length : Int) < lo := by omega
     have hhi' : ¬ hi < (xs.length : Int) := by omega
     clear hp h1 hlo hhi
     generalize xs.length = n at *
     generalize xs.all r = R at *
     go_enter Tryz.func129, Tryz.ntmps129
     go_wp2_with (go_at_call 162; refine (c1.out _ hb.out H2.out).mono ?_; rintro e w' ⟨rfl, hb'⟩)
     go_ret
     exact ⟨by simp, below_next hb.out hb'⟩
   · rw [decide_eq_true hlo, decide_eq_false hhi]
     have hlo' : ¬ (xs.length : Int) < lo := by omega
     have hhi' : hi < (xs.length : Int) := by omega
     clear hp h1 hlo hhi
     generalize xs.length = n at *
     go_enter Tryz.func129, Tryz.ntmps129
     go_wp2_with fail
     go_ret
     exact ⟨rfl, hb.out⟩
 · rw [decide_eq_false hlo]
   have hlo' : (xs.length : Int) < lo := by omega
   clear hp h1 hlo
   generalize xs.length = n at *
   go_enter Tryz.func129, Tryz.ntmps129
   go_wp2_with fail
   go_ret
   exact ⟨rfl, hb.out⟩
set_option maxHeartbeats 2000000 in
set_option maxRecDepth 100000 in
theorem idx_place (a : Option Addr) (xs : List PlaceX) (c g : Nat) (lb : Array Value) (p : PlaceX → Bool) (w : World) (eg : ∀ args w, (callFunc g args).run Tryz.prog w = .ok (.enter g args) w) (h1 : Pls w a xs)
 (hp : ∀ (W : World) (x : PlaceX), x ∈ xs → Below w.heap.size w W → Calls Tryz.prog g (#[.agg #[.string x.loc, .slice x.sa x.steps.length x.sc]] ++ lb) W fun e w' => e = .returned (.bool (p x)) ∧ Below W.heap.size W w') :
 Calls Tryz.prog 205 #[.slice a xs.length c, .func (.func g) #[] lb] w fun e w' => e = .returned (.int .i64 (idxL p xs)) ∧ Below w.heap.size w w' := by
 have n1 := h1.1.big
 rw [List.length_map] at n1
 have H1 := hidIt h1
 have HP := hidIt hp
 obtain ⟨n, hn⟩ : ∃ n, xs.length = n := ⟨_, rfl⟩
 rw [hn] at n1 ⊢
 have hn1 := hidIt hn
 clear hn h1 hp
 obtain ⟨R, hR0⟩ : ∃ R, idxL p xs = R := ⟨_, rfl⟩
 rw [hR0]
 have hR := hidIt hR0
 clear hR0
 go_enter Tryz.func205, Tryz.ntmps205
 go_wp2
 go_loopg [5, 8] n (fun gg _ s8 wr => ∃ k : Nat, k ≤ n ∧ n - k ≤ gg ∧ s8 = .int .i64 k ∧ Hid (Below w.heap.size w wr) ∧ Hid (∀ (j : Nat) (x : PlaceX), j < k → xs[j]? = some x → p x = false))
 case atStart => exact ⟨0, Nat.zero_le _, by omega, rfl, hidIt (Below.refl _ _), hidIt fun j x hj => absurd hj (Nat.not_lt_zero _)⟩
 case round =>
  obtain ⟨k, hk, hg, rfl, hb, A⟩ := hrel
  by_cases hlt : k < n
  · obtain ⟨x, hx⟩ : ∃ x, xs[k]? = some x := ⟨_, List.getElem?_eq_getElem (by rw [hn1.out]; exact hlt)⟩
    obtain ⟨b1, o1, rfl, z1, g1⟩ := H1.out.1.cells (j := k) (r := x.row) (by rw [List.getElem?_map, hx]; rfl)
    have c1 := HP.out wr x (List.mem_of_getElem? hx) hb.out
    have Hx := hidIt hx
    have p0 := g1 wr hb.out 0 _ rfl
    have p1 := g1 wr hb.out 1 _ rfl
    rw [Nat.add_zero] at p0
    clear g1 hx z1
    cases hq : p x with
    | true =>
     rw [hq] at c1
     obtain rfl : (k : Int) = R := (idxL_hit Hx.out hq A.out).symm.trans hR.out
     go_wp2_with (go_at_fn g; refine c1.mono ?_; rintro e w' ⟨rfl, hb'⟩)
     go_ret
     exact ⟨rfl, below_next hb.out hb'⟩
    | false =>
     rw [hq] at c1
     go_wp2_with (go_at_fn g; refine c1.mono ?_; rintro e w' ⟨rfl, hb'⟩)
     go_roundg (n - (k + 1))
     case measure => omega
     case rel =>
      refine ⟨k + 1, by omega, by omega, by go_num, hidIt (below_next hb.out hb'), hidIt fun j u hj hu => ?_⟩
      by_cases e : j = k
      · subst e
        obtain rfl : x = u := Option.some.inj (Hx.out.symm.trans hu)
        exact hq
      · exact A.out j u (by omega) hu
  · have : k = n := by omega
    subst this
    obtain rfl : (-1 : Int) = R := by
     refine (idxL_none fun j x hj => A.out j x ?_ hj).symm.trans hR.out
     have := (List.getElem?_eq_some_iff.1 hj).1
     rw [hn1.out] at this
     exact this
    go_wp2
    go_ret
    exact ⟨rfl, hb.out⟩
theorem has_place (a : Option Addr) (xs : List PlaceX) (c g : Nat) (lb : Array Value) (p : PlaceX → Bool) (w : World) (eg : ∀ args w, (callFunc g args).run Tryz.prog w = .ok (.enter g args) w) (h1 : Pls w a xs)
 (hp : ∀ (W : World) (x : PlaceX), x ∈ xs → Below w.heap.size w W → Calls Tryz.prog g (#[.agg #[.string x.loc, .slice x.sa x.steps.length x.sc]] ++ lb) W fun e w' => e = .returned (.bool (p x)) ∧ Below W.heap.size W w') :
 Calls Tryz.prog 196 #[.slice a xs.length c, .func (.func g) #[] lb] w fun e w' => e = .returned (.bool (xs.any p)) ∧ Below w.heap.size w w' := by
 have c1 := idx_place a xs c g lb p w eg h1 hp
 clear hp h1
 rcases idxL_has p xs with ⟨e1, i, e2⟩ | ⟨e1, e2⟩
 · rw [e2] at c1; rw [e1]
   clear e1 e2
   go_enter Tryz.func196, Tryz.ntmps196
   go_wp2_with (go_at_call 205; refine c1.mono ?_; rintro e w' ⟨rfl, hb'⟩)
   go_ret
   exact ⟨rfl, hb'⟩
 · rw [e2] at c1; rw [e1]
   clear e1 e2
   go_enter Tryz.func196, Tryz.ntmps196
   go_wp2_with (go_at_call 205; refine c1.mono ?_; rintro e w' ⟨rfl, hb'⟩)
   go_ret
   exact ⟨rfl, hb'⟩
set_option maxHeartbeats 400000 in
theorem every1_place (x : PlaceX) (B g : Nat) (lb : Array Value) (r : Bool) (w : World) (eg : ∀ args w, (callFunc g args).run Tryz.prog w = .ok (.enter g args) w) (hB : w.cell? ⟨B, 0, none⟩ = some (.func (.func g) #[] lb))
 (hp : ∀ W, Below w.heap.size w W → Calls Tryz.prog g (#[.agg #[.string x.loc, .slice x.sa x.steps.length x.sc]] ++ lb) W fun e w' => e = .returned (.bool r) ∧ Below W.heap.size W w') :
 Calls Tryz.prog 197 #[.agg #[.string x.loc, .slice x.sa x.steps.length x.sc], .pointer (some ⟨B, 0, none⟩)] w fun e w' => e = .returned (.bool (!r)) ∧ Below w.heap.size w w' := by
 have hb := hidIt (below_new w (.cells #[.string x.loc, .slice x.sa x.steps.length x.sc] 24))
 have hB' := Lib.cell?_alloc_some (.cells #[.string x.loc, .slice x.sa x.steps.length x.sc] 24) hB
 have c1 := hp _ (below_new w (.cells #[.string x.loc, .slice x.sa x.steps.length x.sc] 24))
 clear hp
 go_enter Tryz.func197, Tryz.ntmps197
 go_wp2_with (go_at_fn g; refine c1.mono ?_; rintro e w' ⟨rfl, hb'⟩)
 go_ret
 exact ⟨rfl, below_next hb.out hb'⟩
set_option maxHeartbeats 400000 in
set_option maxRecDepth 100000 in
theorem every_place (a : Option Addr) (xs : List PlaceX) (c : Nat) (lo hi : Int) (g : Nat) (lb : Array Value) (r : PlaceX → Bool) (w : World) (eg : ∀ args w, (callFunc g args).run Tryz.prog w = .ok (.enter g args) w) (h1 : Pls w a xs)
 (hp : ∀ (W : World) (x : PlaceX), x ∈ xs → Below w.heap.size w W → Calls Tryz.prog g (#[.agg #[.string x.loc, .slice x.sa x.steps.length x.sc]] ++ lb) W fun e w' => e = .returned (.bool (r x)) ∧ Below W.heap.size W w') :
 Calls Tryz.prog 173 #[.slice a xs.length c, .agg #[.int .i64 lo, .int .i64 hi], .func (.func g) #[] lb] w fun e w' => e = .returned (.bool (everyL lo hi r xs)) ∧ Below w.heap.size w w' := by
 have n1 := h1.1.big
 rw [List.length_map] at n1
 have hb := hidIt (below_next (below_new w (.cells #[.int .i64 lo, .int .i64 hi] 87)) (below_new _ (.cells #[.func (.func g) #[] lb] 30)))
 unfold everyL
 by_cases hlo : lo ≤ xs.length
 · by_cases hhi : (xs.length : Int) ≤ hi
   · rw [decide_eq_true hlo, decide_eq_true hhi, Bool.true_and, Bool.true_and]
     have c1 : Hid (∀ W, Below w.heap.size w W → W.heap[w.heap.size + 1]? = some (.cells #[.func (.func g) #[] lb] 30) → Calls Tryz.prog 196 #[.slice a xs.length c, .func (.func 197) #[] #[.pointer (some ⟨w.heap.size + 1, 0, none⟩)]] W fun e w' => e = .returned (.bool (!xs.all r)) ∧ Below W.heap.size W w') := hidIt fun W hW hh => by
      have := has_place a xs c 197 #[.pointer (some ⟨w.heap.size + 1, 0, none⟩)] (fun x => !r x) W (fun args w => by kernel_rfl) (h1.on hW) fun W2 x hx hW2 => every1_place x (w.heap.size + 1) g lb (r x) W2 eg (cell_at (heap_on hh hW2) 0) fun W3 hW3 => hp W3 x hx (below_next (below_next hW hW2) hW3)
      rwa [any_not] at this
     obtain ⟨hh1, hh2⟩ := two_at (w := w) (cs := #[.int .i64 lo, .int .i64 hi]) (ds := #[.func (.func g) #[] lb]) (t := 87) (u := 30) rfl rfl (Below.refl _ _)
     have H2 := hidIt hh2
     clear hh1 hh2
     have hlo' : ¬ (xs.length : Int) < lo := by omega
     have hhi' : ¬ hi < (xs.length : Int) := by omega
     clear hp h1 hlo hhi
     generalize xs.length = n at *
     generalize xs.all r = R at *
     go_enter Tryz.func173, Tryz.ntmps173
     go_wp2_with (go_at_call 196; refine (c1.out _ hb.out H2.out).mono ?_; rintro e w' ⟨rfl, hb'⟩)
     go_ret
     exact ⟨by simp, below_next hb.out hb'⟩
   · rw [decide_eq_true hlo, decide_eq_false hhi]
     have hlo' : ¬ (xs.length : Int) < lo := by omega
     have hhi' : hi < (xs.length : Int) := by omega
     clear hp h1 hlo hhi
     generalize xs.length = n at *
     go_enter Tryz.func173, Tryz.ntmps173
     go_wp2_with fail
     go_ret
     exact ⟨rfl, hb.out⟩
 · rw [decide_eq_false hlo]
   have hlo' : (xs.length : Int) < lo := by omega
   clear hp h1 hlo
   generalize xs.length = n at *
   go_enter Tryz.func173, Tryz.ntmps173
   go_wp2_with fail
   go_ret
   exact ⟨rfl, hb.out⟩
theorem every0_place (a : Option Addr) (xs : List PlaceX) (c : Nat) (lo hi : Int) (g : Nat) (r : PlaceX → Bool) (w : World) (eg : ∀ args w, (callFunc g args).run Tryz.prog w = .ok (.enter g args) w) (h1 : Pls w a xs)
 (hp : ∀ (W : World) (x : PlaceX), x ∈ xs → Below w.heap.size w W → Calls Tryz.prog g #[.agg #[.string x.loc, .slice x.sa x.steps.length x.sc]] W fun e w' => e = .returned (.bool (r x)) ∧ Below W.heap.size W w') :
 Calls Tryz.prog 173 #[.slice a xs.length c, .agg #[.int .i64 lo, .int .i64 hi], .func (.func g) #[] #[]] w fun e w' => e = .returned (.bool (everyL lo hi r xs)) ∧ Below w.heap.size w w' :=
 every_place a xs c lo hi g #[] r w eg h1 fun W x hx hW => by rw [Array.append_empty]; exact hp W x hx hW

set_option maxHeartbeats 2000000 in
set_option maxRecDepth 100000 in
theorem idx_arm (a : Option Addr) (xs : List ArmD) (c g : Nat) (lb : Array Value) (p : ArmD → Bool) (w : World) (eg : ∀ args w, (callFunc g args).run Tryz.prog w = .ok (.enter g args) w) (h1 : Ars w a xs)
 (hp : ∀ (W : World) (x : ArmD), x ∈ xs → Below w.heap.size w W → Calls Tryz.prog g (#[.agg #[.string x.variant, .string x.loc, .string x.block]] ++ lb) W fun e w' => e = .returned (.bool (p x)) ∧ Below W.heap.size W w') :
 Calls Tryz.prog 206 #[.slice a xs.length c, .func (.func g) #[] lb] w fun e w' => e = .returned (.int .i64 (idxL p xs)) ∧ Below w.heap.size w w' := by
 have n1 := h1.big
 rw [List.length_map] at n1
 have H1 := hidIt h1
 have HP := hidIt hp
 obtain ⟨n, hn⟩ : ∃ n, xs.length = n := ⟨_, rfl⟩
 rw [hn] at n1 ⊢
 have hn1 := hidIt hn
 clear hn h1 hp
 obtain ⟨R, hR0⟩ : ∃ R, idxL p xs = R := ⟨_, rfl⟩
 rw [hR0]
 have hR := hidIt hR0
 clear hR0
 go_enter Tryz.func206, Tryz.ntmps206
 go_wp2
 go_loopg [5, 8] n (fun gg _ s8 wr => ∃ k : Nat, k ≤ n ∧ n - k ≤ gg ∧ s8 = .int .i64 k ∧ Hid (Below w.heap.size w wr) ∧ Hid (∀ (j : Nat) (x : ArmD), j < k → xs[j]? = some x → p x = false))
 case atStart => exact ⟨0, Nat.zero_le _, by omega, rfl, hidIt (Below.refl _ _), hidIt fun j x hj => absurd hj (Nat.not_lt_zero _)⟩
 case round =>
  obtain ⟨k, hk, hg, rfl, hb, A⟩ := hrel
  by_cases hlt : k < n
  · obtain ⟨x, hx⟩ : ∃ x, xs[k]? = some x := ⟨_, List.getElem?_eq_getElem (by rw [hn1.out]; exact hlt)⟩
    obtain ⟨b1, o1, rfl, z1, g1⟩ := H1.out.cells (j := k) (r := x.row) (by rw [List.getElem?_map, hx]; rfl)
    have c1 := HP.out wr x (List.mem_of_getElem? hx) hb.out
    have Hx := hidIt hx
    have p0 := g1 wr hb.out 0 _ rfl
    have p1 := g1 wr hb.out 1 _ rfl
    have p2 := g1 wr hb.out 2 _ rfl
    rw [Nat.add_zero] at p0
    clear g1 hx z1
    cases hq : p x with
    | true =>
     rw [hq] at c1
     obtain rfl : (k : Int) = R := (idxL_hit Hx.out hq A.out).symm.trans hR.out
     go_wp2_with (go_at_fn g; refine c1.mono ?_; rintro e w' ⟨rfl, hb'⟩)
     go_ret
     exact ⟨rfl, below_next hb.out hb'⟩
    | false =>
     rw [hq] at c1
     go_wp2_with (go_at_fn g; refine c1.mono ?_; rintro e w' ⟨rfl, hb'⟩)
     go_roundg (n - (k + 1))
     case measure => omega
     case rel =>
      refine ⟨k + 1, by omega, by omega, by go_num, hidIt (below_next hb.out hb'), hidIt fun j u hj hu => ?_⟩
      by_cases e : j = k
      · subst e
        obtain rfl : x = u := Option.some.inj (Hx.out.symm.trans hu)
        exact hq
      · exact A.out j u (by omega) hu
  · have : k = n := by omega
    subst this
    obtain rfl : (-1 : Int) = R := by
     refine (idxL_none fun j x hj => A.out j x ?_ hj).symm.trans hR.out
     have := (List.getElem?_eq_some_iff.1 hj).1
     rw [hn1.out] at this
     exact this
    go_wp2
    go_ret
    exact ⟨rfl, hb.out⟩
theorem has_arm (a : Option Addr) (xs : List ArmD) (c g : Nat) (lb : Array Value) (p : ArmD → Bool) (w : World) (eg : ∀ args w, (callFunc g args).run Tryz.prog w = .ok (.enter g args) w) (h1 : Ars w a xs)
 (hp : ∀ (W : World) (x : ArmD), x ∈ xs → Below w.heap.size w W → Calls Tryz.prog g (#[.agg #[.string x.variant, .string x.loc, .string x.block]] ++ lb) W fun e w' => e = .returned (.bool (p x)) ∧ Below W.heap.size W w') :
 Calls Tryz.prog 198 #[.slice a xs.length c, .func (.func g) #[] lb] w fun e w' => e = .returned (.bool (xs.any p)) ∧ Below w.heap.size w w' := by
 have c1 := idx_arm a xs c g lb p w eg h1 hp
 clear hp h1
 rcases idxL_has p xs with ⟨e1, i, e2⟩ | ⟨e1, e2⟩
 · rw [e2] at c1; rw [e1]
   clear e1 e2
   go_enter Tryz.func198, Tryz.ntmps198
   go_wp2_with (go_at_call 206; refine c1.mono ?_; rintro e w' ⟨rfl, hb'⟩)
   go_ret
   exact ⟨rfl, hb'⟩
 · rw [e2] at c1; rw [e1]
   clear e1 e2
   go_enter Tryz.func198, Tryz.ntmps198
   go_wp2_with (go_at_call 206; refine c1.mono ?_; rintro e w' ⟨rfl, hb'⟩)
   go_ret
   exact ⟨rfl, hb'⟩
set_option maxHeartbeats 400000 in
theorem every1_arm (x : ArmD) (B g : Nat) (lb : Array Value) (r : Bool) (w : World) (eg : ∀ args w, (callFunc g args).run Tryz.prog w = .ok (.enter g args) w) (hB : w.cell? ⟨B, 0, none⟩ = some (.func (.func g) #[] lb))
 (hp : ∀ W, Below w.heap.size w W → Calls Tryz.prog g (#[.agg #[.string x.variant, .string x.loc, .string x.block]] ++ lb) W fun e w' => e = .returned (.bool r) ∧ Below W.heap.size W w') :
 Calls Tryz.prog 199 #[.agg #[.string x.variant, .string x.loc, .string x.block], .pointer (some ⟨B, 0, none⟩)] w fun e w' => e = .returned (.bool (!r)) ∧ Below w.heap.size w w' := by
 have hb := hidIt (below_new w (.cells #[.string x.variant, .string x.loc, .string x.block] 103))
 have hB' := Lib.cell?_alloc_some (.cells #[.string x.variant, .string x.loc, .string x.block] 103) hB
 have c1 := hp _ (below_new w (.cells #[.string x.variant, .string x.loc, .string x.block] 103))
 clear hp
 go_enter Tryz.func199, Tryz.ntmps199
 go_wp2_with (go_at_fn g; refine c1.mono ?_; rintro e w' ⟨rfl, hb'⟩)
 go_ret
 exact ⟨rfl, below_next hb.out hb'⟩
set_option maxHeartbeats 400000 in
set_option maxRecDepth 100000 in
theorem every_arm (a : Option Addr) (xs : List ArmD) (c : Nat) (lo hi : Int) (g : Nat) (lb : Array Value) (r : ArmD → Bool) (w : World) (eg : ∀ args w, (callFunc g args).run Tryz.prog w = .ok (.enter g args) w) (h1 : Ars w a xs)
 (hp : ∀ (W : World) (x : ArmD), x ∈ xs → Below w.heap.size w W → Calls Tryz.prog g (#[.agg #[.string x.variant, .string x.loc, .string x.block]] ++ lb) W fun e w' => e = .returned (.bool (r x)) ∧ Below W.heap.size W w') :
 Calls Tryz.prog 175 #[.slice a xs.length c, .agg #[.int .i64 lo, .int .i64 hi], .func (.func g) #[] lb] w fun e w' => e = .returned (.bool (everyL lo hi r xs)) ∧ Below w.heap.size w w' := by
 have n1 := h1.big
 rw [List.length_map] at n1
 have hb := hidIt (below_next (below_new w (.cells #[.int .i64 lo, .int .i64 hi] 87)) (below_new _ (.cells #[.func (.func g) #[] lb] 200)))
 unfold everyL
 by_cases hlo : lo ≤ xs.length
 · by_cases hhi : (xs.length : Int) ≤ hi
   · rw [decide_eq_true hlo, decide_eq_true hhi, Bool.true_and, Bool.true_and]
     have c1 : Hid (∀ W, Below w.heap.size w W → W.heap[w.heap.size + 1]? = some (.cells #[.func (.func g) #[] lb] 200) → Calls Tryz.prog 198 #[.slice a xs.length c, .func (.func 199) #[] #[.pointer (some ⟨w.heap.size + 1, 0, none⟩)]] W fun e w' => e = .returned (.bool (!xs.all r)) ∧ Below W.heap.size W w') := hidIt fun W hW hh => by
      have := has_arm a xs c 199 #[.pointer (some ⟨w.heap.size + 1, 0, none⟩)] (fun x => !r x) W (fun args w => by kernel_rfl) (h1.on hW) fun W2 x hx hW2 => every1_arm x (w.heap.size + 1) g lb (r x) W2 eg (cell_at (heap_on hh hW2) 0) fun W3 hW3 => hp W3 x hx (below_next (below_next hW hW2) hW3)
      rwa [any_not] at this
     obtain ⟨hh1, hh2⟩ := two_at (w := w) (cs := #[.int .i64 lo, .int .i64 hi]) (ds := #[.func (.func g) #[] lb]) (t := 87) (u := 200) rfl rfl (Below.refl _ _)
     have H2 := hidIt hh2
     clear hh1 hh2
     have hlo' : ¬ (xs.length : Int) < lo := by omega
     have hhi' : ¬ hi < (xs.length : Int) := by omega
     clear hp h1 hlo hhi
     generalize xs.length = n at *
     generalize xs.all r = R at *
     go_enter Tryz.func175, Tryz.ntmps175
     go_wp2_with (go_at_call 198; refine (c1.out _ hb.out H2.out).mono ?_; rintro e w' ⟨rfl, hb'⟩)
     go_ret
     exact ⟨by simp, below_next hb.out hb'⟩
   · rw [decide_eq_true hlo, decide_eq_false hhi]
     have hlo' : ¬ (xs.length : Int) < lo := by omega
     have hhi' : hi < (xs.length : Int) := by omega
     clear hp h1 hlo hhi
     generalize xs.length = n at *
     go_enter Tryz.func175, Tryz.ntmps175
     go_wp2_with fail
     go_ret
     exact ⟨rfl, hb.out⟩
 · rw [decide_eq_false hlo]
   have hlo' : (xs.length : Int) < lo := by omega
   clear hp h1 hlo
   generalize xs.length = n at *
   go_enter Tryz.func175, Tryz.ntmps175
   go_wp2_with fail
   go_ret
   exact ⟨rfl, hb.out⟩
theorem every0_arm (a : Option Addr) (xs : List ArmD) (c : Nat) (lo hi : Int) (g : Nat) (r : ArmD → Bool) (w : World) (eg : ∀ args w, (callFunc g args).run Tryz.prog w = .ok (.enter g args) w) (h1 : Ars w a xs)
 (hp : ∀ (W : World) (x : ArmD), x ∈ xs → Below w.heap.size w W → Calls Tryz.prog g #[.agg #[.string x.variant, .string x.loc, .string x.block]] W fun e w' => e = .returned (.bool (r x)) ∧ Below W.heap.size W w') :
 Calls Tryz.prog 175 #[.slice a xs.length c, .agg #[.int .i64 lo, .int .i64 hi], .func (.func g) #[] #[]] w fun e w' => e = .returned (.bool (everyL lo hi r xs)) ∧ Below w.heap.size w w' :=
 every_arm a xs c lo hi g #[] r w eg h1 fun W x hx hW => by rw [Array.append_empty]; exact hp W x hx hW

end Go.Proofs.YtlppbgmcoknliaaGreatDoor
