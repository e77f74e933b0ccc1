/-
  Where tokens stand, and the walk of LexPlaces.
-/
import Derived.Test.YtinppjjhjijoeaaAlive
import Derived.Test.YtinppjjhjijoeaaShift
import Derived.Deep.QuietTactic
import Derived.BigQuiet
namespace Go.Proofs.Ytinppjjhjijoeaa
set_option linter.unusedVariables false
open Go.RowKit

/-- Tokens from a place on, each where it says. -/
def Placed (L : List UInt8) : Nat → List Tok → Prop
  | a, [] => a + passL false (L.drop a) = L.length
  | a, t :: us => t.at_ = a + passL false (L.drop a) ∧ t.at_ + t.text.length ≤ L.length ∧ 0 < t.text.length ∧ t.text = (L.drop t.at_).take t.text.length ∧ Placed L (t.at_ + t.text.length) us

theorem lexFrom_placed (L : List UInt8) : ∀ (ts : List Tok) (a : Nat), a ≤ L.length → lexFrom (L.drop (a + passL false (L.drop a))) (a + passL false (L.drop a)) = .ok ts → Placed L a ts
  | ts, a, ha, h => by
    have hp := passL_le false (L.drop a)
    rw [List.length_drop] at hp
    generalize hb : a + passL false (L.drop a) = b at h
    have hbl : b ≤ L.length := by omega
    have hlen : (L.drop b).length = L.length - b := List.length_drop
    cases hf : firstL (L.drop b) with
    | none =>
      by_cases he : L.drop b = []
      · rw [he, lexFrom_nil] at h
        injection h with h
        subst h
        show a + passL false (L.drop a) = L.length
        have := congrArg List.length he
        rw [hlen, List.length_nil] at this
        omega
      · rw [lexFrom_none b he hf] at h
        cases h
    | some x =>
      have hx := firstL_size hf
      rw [hlen] at hx
      have e2 : (L.drop b).drop x.size = L.drop (b + x.size) := List.drop_drop
      rw [lexFrom_some b hf, e2, List.drop_drop] at h
      generalize hr : lexFrom (L.drop (b + x.size + passL false (L.drop (b + x.size)))) (b + x.size + passL false (L.drop (b + x.size))) = r at h
      cases r with
      | error q => cases h
      | ok us =>
        injection h with h
        subst h
        have hl : ((L.drop b).take x.size).length = x.size := by rw [List.length_take, hlen]; omega
        have hus : us.length < (⟨x.kind, b, (L.drop b).take x.size, x.n⟩ :: us : List Tok).length := by simp
        have ih := lexFrom_placed L us (b + x.size) (by omega) hr
        refine ⟨hb.symm, ?_, ?_, ?_, ?_⟩
        · show b + ((L.drop b).take x.size).length ≤ L.length
          rw [hl]; omega
        · show 0 < ((L.drop b).take x.size).length
          rw [hl]; omega
        · show (L.drop b).take x.size = (L.drop b).take ((L.drop b).take x.size).length
          rw [hl]
        · show Placed L (b + ((L.drop b).take x.size).length) us
          rw [hl]; exact ih
  termination_by ts => ts.length
theorem lexL_placed {L : List UInt8} {ts : List Tok} (h : lexL L = .ok ts) : Placed L 0 ts := by
  refine lexFrom_placed L ts 0 (Nat.zero_le _) ?_
  rw [Nat.zero_add, List.drop_zero]
  exact h

/-- Where the next token begins, or the text's end. -/
def endOf (L : List UInt8) (ts : List Tok) (i : Nat) : Nat := match ts[i]? with | some t => t.at_ | none => L.length
theorem placed_end {L : List UInt8} {ts : List Tok} {a i : Nat} (h : Placed L a (ts.drop i)) (ha : a ≤ L.length) : endOf L ts i = a + passL false (L.drop a) ∧ endOf L ts i ≤ L.length := by
  have hp := passL_le false (L.drop a)
  rw [List.length_drop] at hp
  unfold endOf
  cases hd : ts.drop i with
  | nil =>
    rw [hd] at h
    have hn : ts[i]? = none := by
      rw [List.getElem?_eq_none_iff]
      have := congrArg List.length hd
      rw [List.length_drop, List.length_nil] at this
      omega
    rw [hn]
    have h : a + passL false (L.drop a) = L.length := h
    exact ⟨h.symm, Nat.le_refl _⟩
  | cons t us =>
    rw [hd] at h
    have hs : ts[i]? = some t := by
      have := congrArg (fun l => l[0]?) hd
      simpa using this
    rw [hs]
    obtain ⟨h1, h2, _⟩ := h
    exact ⟨h1, by show t.at_ ≤ _; omega⟩

/-- One byte within what is passed over. -/
theorem pass_step {s : ByteArray} {k m : Nat} {c : Bool} (hk : k < s.size) (hm : 0 < m) (h : passL c (s.data.toList.drop k) = m) :
    (c = false ∧ ((s[k]'hk).toNat = 32 ∨ (s[k]'hk).toNat = 9 ∨ (s[k]'hk).toNat = 10) ∧ passL false (s.data.toList.drop (k + 1)) = m - 1) ∨
    (c = false ∧ (s[k]'hk).toNat = 35 ∧ passL true (s.data.toList.drop (k + 1)) = m - 1) ∨
    (c = true ∧ (s[k]'hk).toNat = 10 ∧ passL false (s.data.toList.drop (k + 1)) = m - 1) ∨
    (c = true ∧ (s[k]'hk).toNat ≠ 10 ∧ passL true (s.data.toList.drop (k + 1)) = m - 1) := by
  rw [drop_cons s k hk] at h
  cases c with
  | false =>
    rw [passL] at h
    split at h
    · rename_i hb
      left
      refine ⟨rfl, ?_, by omega⟩
      simp only [isBlank, Bool.or_eq_true, beq_iff_eq] at hb
      rcases hb with (hb | hb) | hb
      · exact .inl hb
      · exact .inr (.inl hb)
      · exact .inr (.inr hb)
    · split at h
      · rename_i hb
        right; left
        exact ⟨rfl, by simpa using hb, by omega⟩
      · omega
  | true =>
    rw [passL] at h
    split at h
    · rename_i hb
      right; right; left
      exact ⟨rfl, by simpa using hb, by omega⟩
    · rename_i hb
      right; right; right
      exact ⟨rfl, by simpa using hb, by omega⟩
theorem pass_done {s : ByteArray} {k : Nat} {c : Bool} (hk : k < s.size) (h : passL c (s.data.toList.drop k) = 0) : c = false := by
  rw [drop_cons s k hk] at h
  cases c with
  | false => rfl
  | true =>
    rw [passL] at h
    split at h <;> omega

set_option maxHeartbeats 1000000 in
theorem places_early (s : ByteArray) (h : 8000 < s.size) (w : World) :
    Calls Try.prog 5 #[.string s] w fun e w' => e = .returned (.bool true) ∧ Below w.heap.size w w' := by
  have c9 := alive_any w
  go_enter Try.func5, Try.ntmps5
  go_wp2_with (go_at_call 9; refine c9.mono ?_)
  rintro e w1 ⟨rfl, hb⟩
  have hb := hidIt hb
  clear c9
  go_wp2
  go_ret
  exact ⟨rfl, hb.out⟩

set_option maxHeartbeats 1000000 in
theorem places_err (s : ByteArray) (h : s.size ≤ 8000) (q : Nat) (hq : lexL s.data.toList = .error q) (w : World) :
    Calls Try.prog 5 #[.string s] w fun e w' => e = .returned (.bool true) ∧ Below w.heap.size w w' := by
  have c9 := alive_any w
  have c1 := fun w => lex_err (s := s) (by omega) hq w
  have hlt := lexL_err hq
  rw [← size_list] at hlt
  have hlt : (q : Int) < (s.size : Int) := by omega
  clear hq
  go_enter Try.func5, Try.ntmps5
  go_wp2_with (go_at_call 9; refine c9.mono ?_)
  rintro e w1 ⟨rfl, b1⟩
  have b1 := hidIt b1
  clear c9
  go_wp2_with (go_at_call 10; refine (c1 _).mono ?_)
  rintro e w2 ⟨rfl, b2⟩
  have BB := hidIt fun o => below_next (below_next b1.out b2) (below_new w2 o)
  clear c1 b1 b2
  by_cases hq0 : ((q : Int) == 0) = true
  · go_wp2
    go_ret
    exact ⟨by simp, BB.out _⟩
  · have hq0 : ((q : Int) == 0) = false := by simpa using hq0
    go_wp2
    go_ret
    exact ⟨by simp, BB.out _⟩

theorem below_drewN {B : Nat} {a w : World} (h : Below B a w) (n : Nat) : Below B a (w.drewN n) := ⟨h.os, h.tape, h.output, h.size, h.block⟩
/-- At the head of the outer loop. -/
def PI (L : List UInt8) (ts : List Tok) (i a : Nat) : Prop := i = ts.length + 1 ∨ (i ≤ ts.length ∧ a ≤ L.length ∧ Placed L a (ts.drop i))

set_option maxRecDepth 100000 in
set_option maxHeartbeats 4000000 in
theorem places_ok (s : ByteArray) (h : s.size ≤ 8000) (ts : List Tok) (hq : lexL s.data.toList = .ok ts) (w : World) :
    Calls Try.prog 5 #[.string s] w fun e w' => e = .returned (.bool true) ∧ Below w.heap.size w w' := by
  have c9 := alive_any w
  have hl1 := lexL_len hq
  rw [← size_list] at hl1
  have c1 := fun w => lex_ok (s := s) (by omega) hq w
  have hst : Hid (PI s.data.toList ts 0 0) := hidIt (.inr ⟨Nat.zero_le _, Nat.zero_le _, lexL_placed hq⟩)
  clear hq
  go_enter Try.func5, Try.ntmps5
  go_wp2_with (go_at_call 9; refine c9.mono ?_)
  rintro e w1 ⟨rfl, b1⟩
  have b1 := hidIt b1
  clear c9
  go_wp2_with (go_at_call 10; refine (c1 _).mono ?_)
  rintro e w2 ⟨ao1, cap1, rfl, r1⟩
  have BB := hidIt fun o => below_next (below_next b1.out r1.bel) (below_new w2 o)
  have R1 := hidIt fun o => r1.kept (below_new w2 o)
  clear c1 b1 r1
  go_wp2
  have R1 := R1.out (Obj.cells #[Value.int IntKind.i64 0, Value.int IntKind.i64 0] 25)
  have BB := BB.out (Obj.cells #[Value.int IntKind.i64 0, Value.int IntKind.i64 0] 25)
  generalize w2.alloc (Obj.cells #[Value.int IntKind.i64 0, Value.int IntKind.i64 0] 25) = W at R1 BB ⊢
  have R1 := hidIt R1
  have BB := hidIt BB
  go_loopw [5, 6] (fun av iv wr => ∃ i a : Nat, i ≤ ts.length + 1 ∧ a ≤ s.size ∧ iv = .int .i64 i ∧ av = .int .i64 a ∧ Hid (PI s.data.toList ts i a) ∧ Hid (Below W.heap.size W wr)) (fun _ iv _ => ts.length + 1 - (intOf iv).toNat)
  case atStart => exact ⟨0, 0, Nat.zero_le _, Nat.zero_le _, rfl, rfl, hst, Below.refl _ _⟩
  case round =>
    clear hst
    obtain ⟨i, a, hi, ha, rfl, rfl, HP, HB⟩ := hrel
    by_cases hlt : i ≤ ts.length
    · have hpl : a ≤ s.data.toList.length ∧ Placed s.data.toList a (ts.drop i) := by
        rcases HP.out with h0 | ⟨_, h1, h2⟩
        · omega
        · exact ⟨h1, h2⟩
      have hend := placed_end hpl.2 hpl.1
      rw [← size_list] at hend
      have hpl := hidIt hpl
      clear HP
      have hilt : (i : Int) ≤ (ts.length : Int) := by omega
      by_cases hit : i < ts.length
      · obtain ⟨g1, rfl, _, _, d1, d2, _⟩ := row_at (R1.out.kept HB.out).row (k := i) hit
        have hdrop : ts.drop i = ts[i] :: ts.drop (i + 1) := List.drop_eq_getElem_cons hit
        have hp2 := hpl.out.2
        rw [hdrop] at hp2
        obtain ⟨p1, p2, p3, p4, p5⟩ := hp2
        rw [← size_list] at p2
        have hT : (⟨ts[i].text.toArray⟩ : ByteArray) = s.extract ts[i].at_ (ts[i].at_ + ts[i].text.length) := by
          rw [Lib.extract_eq, Nat.add_sub_cancel_left, ← p4]
        have hTs : (⟨ts[i].text.toArray⟩ : ByteArray).size = ts[i].text.length := by rw [size_list]
        have hPN : Hid (PI s.data.toList ts (i + 1) (ts[i].at_ + ts[i].text.length)) := hidIt (.inr ⟨by omega, by rw [← size_list]; exact p2, p5⟩)
        have HI : Hid (passL false (s.data.toList.drop a) = ts[i].at_ - a) := hidIt (by omega)
        have hae : a ≤ ts[i].at_ := by omega
        generalize ts[i].at_ = E at d1 p2 hT hPN HI hae p1
        generalize (⟨ts[i].text.toArray⟩ : ByteArray) = T at d2 hT hTs
        generalize ts[i].text.length = M at p2 p3 hT hTs hPN
        clear p1 p4 p5 hdrop hend
        go_wp2
        go_loopw [8, 9] (fun cv kv wr2 => ∃ (k : Nat) (c : Bool), a ≤ k ∧ k ≤ E ∧ kv = .int .i64 k ∧ cv = .bool c ∧ wr2 = wr ∧ Hid (passL c (s.data.toList.drop k) = E - k)) (fun _ kv _ => E - (intOf kv).toNat)
        case atStart => exact ⟨a, false, Nat.le_refl _, hae, rfl, rfl, rfl, HI⟩
        case round =>
          obtain ⟨k, c, hk1, hk2, rfl, rfl, rfl, HS⟩ := hrel
          by_cases hke : k < E
          · have hks : k < s.size := by omega
            rcases pass_step hks (by omega) HS.out with ⟨rfl, h3, hn⟩ | ⟨rfl, h3, hn⟩ | ⟨rfl, h3, hn⟩ | ⟨rfl, h3, hn⟩
            · rcases h3 with h3 | h3 | h3
              · have e : ((s[k]'hks).toNat : Int) = 32 := by omega
                have HN : Hid (passL false (s.data.toList.drop (k + 1)) = E - (k + 1)) := hidIt (by omega)
                clear HS hn h3 HI
                go_wp2
                go_roundw
                case rel => exact ⟨k + 1, false, by omega, by omega, by go_num, rfl, trivial, HN⟩
                case measure => simp [intOf]; omega
              · have e : ((s[k]'hks).toNat : Int) = 9 := by omega
                have HN : Hid (passL false (s.data.toList.drop (k + 1)) = E - (k + 1)) := hidIt (by omega)
                clear HS hn h3 HI
                go_wp2
                go_roundw
                case rel => exact ⟨k + 1, false, by omega, by omega, by go_num, rfl, trivial, HN⟩
                case measure => simp [intOf]; omega
              · have e : ((s[k]'hks).toNat : Int) = 10 := by omega
                have HN : Hid (passL false (s.data.toList.drop (k + 1)) = E - (k + 1)) := hidIt (by omega)
                clear HS hn h3 HI
                go_wp2
                go_roundw
                case rel => exact ⟨k + 1, false, by omega, by omega, by go_num, rfl, trivial, HN⟩
                case measure => simp [intOf]; omega
            · have e : ((s[k]'hks).toNat : Int) = 35 := by omega
              have HN : Hid (passL true (s.data.toList.drop (k + 1)) = E - (k + 1)) := hidIt (by omega)
              clear HS hn h3 HI
              go_wp2
              go_roundw
              case rel => exact ⟨k + 1, true, by omega, by omega, by go_num, rfl, trivial, HN⟩
              case measure => simp [intOf]; omega
            · have e : ((s[k]'hks).toNat : Int) = 10 := by omega
              have HN : Hid (passL false (s.data.toList.drop (k + 1)) = E - (k + 1)) := hidIt (by omega)
              clear HS hn h3 HI
              go_wp2
              go_roundw
              case rel => exact ⟨k + 1, false, by omega, by omega, by go_num, rfl, trivial, HN⟩
              case measure => simp [intOf]; omega
            · by_cases h35 : (s[k]'hks).toNat = 35
              · have e : ((s[k]'hks).toNat : Int) = 35 := by omega
                clear h35
                have HN : Hid (passL true (s.data.toList.drop (k + 1)) = E - (k + 1)) := hidIt (by omega)
                clear HS hn h3 HI
                go_wp2
                go_roundw
                case rel => exact ⟨k + 1, true, by omega, by omega, by go_num, rfl, trivial, HN⟩
                case measure => simp [intOf]; omega
              · have e10 : (((s[k]'hks).toNat : Int) == 10) = false := by rw [beq_eq_false_iff_ne]; omega
                have e35 : (((s[k]'hks).toNat : Int) == 35) = false := by rw [beq_eq_false_iff_ne]; omega
                clear h35
                have HN : Hid (passL true (s.data.toList.drop (k + 1)) = E - (k + 1)) := hidIt (by omega)
                clear HS hn h3 HI
                go_wp2
                go_roundw
                case rel => exact ⟨k + 1, true, by omega, by omega, by go_num, rfl, trivial, HN⟩
                case measure => simp [intOf]; omega
          · obtain rfl : k = E := by omega
            have hc0 : c = false := pass_done (s := s) (k := k) (by omega) (by rw [HS.out]; omega)
            subst hc0
            have hb1 : (k : Int) ≤ (k : Int) + (M : Int) := by omega
            have hb2 : (k : Int) + (M : Int) ≤ (s.size : Int) := by omega
            have hne : (((k : Int) + (M : Int)) == (k : Int)) = false := by rw [beq_eq_false_iff_ne]; omega
            have hgt : decide ((s.size : Int) < (k : Int) + (M : Int)) = false := by rw [decide_eq_false_iff_not]; omega
            have hi1 : (i : Int) < (ts.length : Int) := by omega
            replace hT := hT.symm
            clear HS HI R1 BB hpl hk1 hk2 hke
            go_wp2
            go_quiet (fail)
            go_wp2
            go_roundw
            case rel => exact ⟨i + 1, k + M, by omega, by omega, by go_num, by go_num, hPN, below_drewN HB.out _⟩
            case measure => simp [intOf]; omega
      · obtain rfl : i = ts.length := by omega
        have hd0 : ts.drop ts.length = [] := List.drop_length
        have hp2 := hpl.out.2
        rw [hd0] at hp2
        have hp2 : a + passL false (s.data.toList.drop a) = s.data.toList.length := hp2
        rw [← size_list] at hp2
        have HI : Hid (passL false (s.data.toList.drop a) = s.size - a) := hidIt (by omega)
        have hae : a ≤ s.size := ha
        have hnl : ¬ ((ts.length : Int) < (ts.length : Int)) := by omega
        clear hp2 hd0 hend hit
        go_wp2
        go_loopw [8, 9] (fun cv kv wr2 => ∃ (k : Nat) (c : Bool), a ≤ k ∧ k ≤ s.size ∧ kv = .int .i64 k ∧ cv = .bool c ∧ wr2 = wr ∧ Hid (passL c (s.data.toList.drop k) = s.size - k)) (fun _ kv _ => s.size - (intOf kv).toNat)
        case atStart => exact ⟨a, false, Nat.le_refl _, hae, rfl, rfl, rfl, HI⟩
        case round =>
          obtain ⟨k, c, hk1, hk2, rfl, rfl, rfl, HS⟩ := hrel
          by_cases hke : k < s.size
          · have hks : k < s.size := by omega
            rcases pass_step hks (by omega) HS.out with ⟨rfl, h3, hn⟩ | ⟨rfl, h3, hn⟩ | ⟨rfl, h3, hn⟩ | ⟨rfl, h3, hn⟩
            · rcases h3 with h3 | h3 | h3
              · have e : ((s[k]'hks).toNat : Int) = 32 := by omega
                have HN : Hid (passL false (s.data.toList.drop (k + 1)) = s.size - (k + 1)) := hidIt (by omega)
                clear HS hn h3 HI
                go_wp2
                go_roundw
                case rel => exact ⟨k + 1, false, by omega, by omega, by go_num, rfl, trivial, HN⟩
                case measure => simp [intOf]; omega
              · have e : ((s[k]'hks).toNat : Int) = 9 := by omega
                have HN : Hid (passL false (s.data.toList.drop (k + 1)) = s.size - (k + 1)) := hidIt (by omega)
                clear HS hn h3 HI
                go_wp2
                go_roundw
                case rel => exact ⟨k + 1, false, by omega, by omega, by go_num, rfl, trivial, HN⟩
                case measure => simp [intOf]; omega
              · have e : ((s[k]'hks).toNat : Int) = 10 := by omega
                have HN : Hid (passL false (s.data.toList.drop (k + 1)) = s.size - (k + 1)) := hidIt (by omega)
                clear HS hn h3 HI
                go_wp2
                go_roundw
                case rel => exact ⟨k + 1, false, by omega, by omega, by go_num, rfl, trivial, HN⟩
                case measure => simp [intOf]; omega
            · have e : ((s[k]'hks).toNat : Int) = 35 := by omega
              have HN : Hid (passL true (s.data.toList.drop (k + 1)) = s.size - (k + 1)) := hidIt (by omega)
              clear HS hn h3 HI
              go_wp2
              go_roundw
              case rel => exact ⟨k + 1, true, by omega, by omega, by go_num, rfl, trivial, HN⟩
              case measure => simp [intOf]; omega
            · have e : ((s[k]'hks).toNat : Int) = 10 := by omega
              have HN : Hid (passL false (s.data.toList.drop (k + 1)) = s.size - (k + 1)) := hidIt (by omega)
              clear HS hn h3 HI
              go_wp2
              go_roundw
              case rel => exact ⟨k + 1, false, by omega, by omega, by go_num, rfl, trivial, HN⟩
              case measure => simp [intOf]; omega
            · by_cases h35 : (s[k]'hks).toNat = 35
              · have e : ((s[k]'hks).toNat : Int) = 35 := by omega
                clear h35
                have HN : Hid (passL true (s.data.toList.drop (k + 1)) = s.size - (k + 1)) := hidIt (by omega)
                clear HS hn h3 HI
                go_wp2
                go_roundw
                case rel => exact ⟨k + 1, true, by omega, by omega, by go_num, rfl, trivial, HN⟩
                case measure => simp [intOf]; omega
              · have e10 : (((s[k]'hks).toNat : Int) == 10) = false := by rw [beq_eq_false_iff_ne]; omega
                have e35 : (((s[k]'hks).toNat : Int) == 35) = false := by rw [beq_eq_false_iff_ne]; omega
                clear h35
                have HN : Hid (passL true (s.data.toList.drop (k + 1)) = s.size - (k + 1)) := hidIt (by omega)
                clear HS hn h3 HI
                go_wp2
                go_roundw
                case rel => exact ⟨k + 1, true, by omega, by omega, by go_num, rfl, trivial, HN⟩
                case measure => simp [intOf]; omega
          · obtain rfl : k = s.size := by omega
            clear HS HI R1 BB hpl hk1 hk2 hke
            go_wp2
            go_roundw
            case rel => exact ⟨ts.length + 1, a, by omega, by omega, by go_num, rfl, .inl rfl, HB.out⟩
            case measure => simp [intOf]
    · obtain rfl : i = ts.length + 1 := by omega
      have BE := hidIt (below_next BB.out HB.out)
      have hnl : ¬ (((ts.length + 1 : Nat) : Int) ≤ (ts.length : Int)) := by omega
      clear R1 BB HB HP
      go_wp2
      go_ret
      exact ⟨rfl, BE.out⟩

theorem places_walk (s : ByteArray) (hs : s.size ≤ maxLen) (w : World) :
    Calls Try.prog 5 #[.string s] w fun e w' => e = .returned (.bool true) ∧ Below w.heap.size w w' := by
  by_cases h : 8000 < s.size
  · exact places_early s h w
  · cases hq : lexL s.data.toList with
    | error q => exact places_err s (by omega) q hq w
    | ok ts => exact places_ok s (by omega) ts hq w
end Go.Proofs.Ytinppjjhjijoeaa
