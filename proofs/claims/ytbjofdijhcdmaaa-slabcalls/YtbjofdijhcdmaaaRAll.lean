/-
  The document's slab: All.
-/
import Derived.Test.YtbjofdijhcdmaaaRTurn
namespace Go.Proofs.Ytbjofdijhcdmaaa
set_option linter.unusedVariables false
open Go.RowKit

theorem Try.info23 : (Try.prog.info? 23).map (fun i => (i.zero, i.size, i.bytes)) = some (some (.int .u64 0), 1, 8) := by kernel_rfl

/-- Two rows of their own: addresses, and sizes. -/
structure Two (w wr : World) (l : List (Int × Int)) (va vs : Value) : Prop where
  kp : Kp (fun _ => False) w wr
  ra : wr.ownsRow 0 23 1 va l.length (l.map fun p => .int .u64 p.1)
  rs : wr.ownsRow 0 3 1 vs l.length (l.map fun p => .int .i64 p.2)
  na : ∀ k, va.ownBlock = some k → w.heap.size ≤ k
  ns : ∀ k, vs.ownBlock = some k → w.heap.size ≤ k

/-- An address more. -/
structure Mid (w wr : World) (l : List (Int × Int)) (x : Int) (va vs : Value) : Prop where
  kp : Kp (fun _ => False) w wr
  ra : wr.ownsRow 0 23 1 va (l.length + 1) ((l.map fun p => .int .u64 p.1) ++ [.int .u64 x])
  rs : wr.ownsRow 0 3 1 vs l.length (l.map fun p => .int .i64 p.2)
  na : ∀ k, va.ownBlock = some k → w.heap.size ≤ k
  ns : ∀ k, vs.ownBlock = some k → w.heap.size ≤ k

theorem Two.kpx {w wr w1 : World} {l : List (Int × Int)} {va vs : Value} (h : Two w wr l va vs) (hk : Kp (fun _ => False) wr w1) : Two w w1 l va vs :=
  ⟨h.kp.trans' hk, hk.row h.ra, hk.row h.rs, h.na, h.ns⟩
theorem Two.mid {w wr Wx w1 : World} {l : List (Int × Int)} {va vs va' : Value} {x : Int} (h : Two w wr l va vs) (hk : Kp (fun _ => False) wr Wx) (ho : w1.ownsRow 0 23 1 va' (l.length + 1) ((l.map fun p => .int .u64 p.1) ++ [.int .u64 x]))
    (hg : Wx.grownBy w1 va.ownBlock) (hf : freshOr Wx va va') : Mid w w1 l x va' vs ∧ ∃ a1 c1, va' = .slice a1 (l.length + 1) c1 := by
  have h' := h.kpx hk
  obtain ⟨a1, c1, e1, _⟩ := own_shape ho
  refine ⟨⟨h'.kp.gr hg h.na, ho, ?_, hf.new h'.kp.size h.na, h.ns⟩, a1, c1, e1⟩
  exact ownsRow_of_block h'.rs fun k hk' => hg.block k (own_lt h'.rs k hk') fun e => own_apart h'.rs h'.ra (by decide) k hk' e.symm
theorem Mid.kpx {w wr w1 : World} {l : List (Int × Int)} {va vs : Value} {x : Int} (h : Mid w wr l x va vs) (hk : Kp (fun _ => False) wr w1) : Mid w w1 l x va vs :=
  ⟨h.kp.trans' hk, hk.row h.ra, hk.row h.rs, h.na, h.ns⟩
theorem Mid.two {w wr Wx w1 : World} {l : List (Int × Int)} {va vs vs' : Value} {x y : Int} (h : Mid w wr l x va vs) (hk : Kp (fun _ => False) wr Wx) (ho : w1.ownsRow 0 3 1 vs' (l.length + 1) ((l.map fun p => .int .i64 p.2) ++ [.int .i64 y]))
    (hg : Wx.grownBy w1 vs.ownBlock) (hf : freshOr Wx vs vs') : Two w w1 (l ++ [(x, y)]) va vs' ∧ ∃ a1 c1, vs' = .slice a1 (l.length + 1) c1 := by
  have h' := h.kpx hk
  obtain ⟨a1, c1, e1, _⟩ := own_shape ho
  refine ⟨⟨h'.kp.gr hg h.ns, ?_, ?_, h.na, hf.new h'.kp.size h.ns⟩, a1, c1, e1⟩
  · have := ownsRow_of_block h'.ra (w' := w1) fun k hk' => hg.block k (own_lt h'.ra k hk') fun e => own_apart h'.ra h'.rs (by decide) k hk' e.symm
    simpa using this
  · simpa using ho

/-- The pieces at index j of the first k. -/
def ratk (l : List RP) (j k : Nat) : List (Int × Int) := ((l.take k).filter fun p => isIx j p && ron p).map fun p => (rfirst p, (p.vals.length : Int))
theorem ratk_snoc (l : List RP) (j k : Nat) (p : RP) (h : l[k]? = some p) : ratk l j (k + 1) = ratk l j k ++ (if isIx j p && ron p then [(rfirst p, (p.vals.length : Int))] else []) := by
  have hk : k < l.length := (List.getElem?_eq_some_iff.1 h).1
  unfold ratk
  rw [List.take_succ_eq_append_getElem hk, (List.getElem?_eq_some_iff.1 h).2, List.filter_append, List.map_append]
  congr 1
  simp only [List.filter_cons, List.filter_nil]
  split <;> simp
theorem rall_snoc (l : List RP) (j : Nat) : rall l (j + 1) = rall l j ++ ratk l j l.length := by
  unfold rall ratk rat
  rw [List.range_succ, List.flatMap_append, List.take_length]
  simp

theorem ratk_len (l : List RP) (j k : Nat) : (ratk l j k).length ≤ l.length := by
  unfold ratk
  rw [List.length_map]
  have h1 := List.length_filter_le (fun p => isIx j p && ron p) (l.take k)
  rw [List.length_take] at h1
  omega
theorem rall_len (l : List RP) (j : Nat) : (rall l j).length ≤ j * l.length := by
  induction j with
  | zero => simp [rall]
  | succ j ih =>
    rw [rall_snoc, List.length_append, Nat.succ_mul]
    have := ratk_len l j l.length
    omega
theorem rall_le (l : List RP) (j k : Nat) (hj : j ≤ 900000) (hl : l.length ≤ 900000) : (rall l j ++ ratk l j k).length ≤ 900000000000 := by
  rw [List.length_append]
  have h1 := rall_len l j
  have h2 := ratk_len l j k
  have h3 : j * l.length ≤ 900000 * 900000 := Nat.mul_le_mul hj hl
  omega

theorem raddr_b (p : RP) (u v : Value) (k : Int) (b : Bool) (w : World) (h1 : p.ix < 1000000) (h2 : p.age < 1000000) (hk0 : 0 ≤ k) (hk : k < 4096) :
    Calls Try.prog 46 #[.agg #[.int .i64 p.ix, .int .i64 p.age, u, v, .bool b], .int .i64 k] w fun e w' => e = .returned (.int .u64 (rfirst p + k)) ∧ Kp (fun _ => False) w w' :=
  raddr_any { p with freed := b } u v k w h1 h2 hk0 hk

def AllPost (w : World) (l : List (Int × Int)) (e : Ending) (w' : World) : Prop :=
  ∃ va vs, e = .returned (.tuple #[va, vs]) ∧ Two w w' l va vs

set_option maxRecDepth 100000 in
set_option maxHeartbeats 4000000 in
theorem rall_any {w : World} {A : Nat} {rs : RS} {fp : Nat → Prop} (h : RRep w A rs fp) (hok : ROk rs) :
    Calls Try.prog 32 #[.pointer (some ⟨A, 0, none⟩)] w fun e w' => AllPost w (rall rs.ps rs.next) e w' := by
  obtain ⟨vp, vf, es, h⟩ := h
  have HR := hidIt h
  have Hok := hidIt hok
  have hl := hok.len
  have hnx := hok.next
  obtain ⟨ao, cap, rfl⟩ := h.shape
  clear h hok
  go_enter Try.func32, Try.ntmps32
  go_wp2
  go_loopw [4, 5, 6] (fun va vs i wr => ∃ (j : Nat) (aa a5 : Option Addr) (ca cs : Nat), j ≤ rs.next ∧ i = .int .i64 j ∧ va = .slice aa (rall rs.ps j).length ca ∧ vs = .slice a5 (rall rs.ps j).length cs ∧ Hid (Two w wr (rall rs.ps j) va vs)) (fun _ _ i _ => rs.next - (intOf i).toNat)
  case atStart =>
    refine ⟨0, _, _, _, _, Nat.zero_le _, rfl, rfl, rfl, ?_⟩
    refine ⟨((Kp.refl _ _).al _).al _, own_none (old_at (w := w.alloc _) rfl (new_at rfl rfl) (by simp)), own_none (new_at (w := w.alloc _) rfl (by simp)), ?_, ?_⟩
    · intro k hk; simp [Value.ownBlock] at hk; omega
    · intro k hk; simp [Value.ownBlock] at hk; omega
  case round =>
    obtain ⟨j, aa, a5, ca, cs, hj, rfl, rfl, rfl, HT⟩ := hrel
    have hRr := HR.out.kp HT.out.kp
    have c3 := hRr.cells.2.2.2
    by_cases hlt : j < rs.next
    · clear hRr
      go_wp2
      clear c3
      go_loopw [4, 5, 7] (fun va vs i wr => ∃ (k : Nat) (b4 b5 : Option Addr) (c4 c5 : Nat), k ≤ rs.ps.length ∧ i = .int .i64 k ∧ va = .slice b4 (rall rs.ps j ++ ratk rs.ps j k).length c4 ∧ vs = .slice b5 (rall rs.ps j ++ ratk rs.ps j k).length c5 ∧ Hid (Two w wr (rall rs.ps j ++ ratk rs.ps j k) va vs)) (fun _ _ i _ => rs.ps.length - (intOf i).toNat)
      case atStart =>
        have e0 : rall rs.ps j ++ ratk rs.ps j 0 = rall rs.ps j := by simp [ratk]
        exact ⟨0, aa, a5, ca, cs, Nat.zero_le _, rfl, by rw [e0], by rw [e0], by rw [e0]; exact HT.out⟩
      case round =>
        clear HT
        obtain ⟨k, b4, b5, c4, c5, hk, rfl, rfl, rfl, HT⟩ := hrel
        have hRr := HR.out.kp HT.out.kp
        have c1 := hRr.cells.2.1
        by_cases hkl : k < rs.ps.length
        · obtain ⟨p, hp⟩ : ∃ p, rs.ps[k]? = some p := ⟨_, List.getElem?_eq_getElem hkl⟩
          obtain ⟨g, cap', hve⟩ := HR.out.pos hp
          simp only [Value.slice.injEq] at hve
          obtain ⟨rfl, _, rfl⟩ := hve
          obtain ⟨u, v, hu⟩ := HR.out.get hp
          obtain ⟨d0, d1, d2, d3, d4⟩ := hRr.cell hu
          obtain ⟨au, cu, hus, _⟩ := own_shape (HR.out.data.vals k _ hu).1
          simp only at hus d0 d1 d2 d3 d4
          subst hus
          obtain ⟨q1, q2, q3, q4, q5⟩ := Hok.out.piece p (List.mem_of_getElem? hp)
          have Hsn := hidIt (ratk_snoc rs.ps j k p hp)
          have Hu := hidIt hu
          clear hp hRr hu
          generalize hL : rall rs.ps j ++ ratk rs.ps j k = L at *
          have HL := hidIt hL
          clear hL
          by_cases hcond : p.ix = j ∧ p.freed = false
          · obtain ⟨hpi, hfr⟩ := hcond
            rw [hfr] at d4
            have hdec : ((p.ix : Int) == (j : Int)) = true := by simp [hpi]
            have hnew : Hid (L ++ [(rfirst p, (p.vals.length : Int))] = rall rs.ps j ++ ratk rs.ps j (k + 1)) := by
              show _ = _
              rw [Hsn.out, ← List.append_assoc, HL.out]
              simp [isIx, ron, hpi, hfr]
            have hLb : L.length ≤ 900000000000 := by
              rw [← HL.out]
              exact rall_le rs.ps j k (by omega) hl
            have HLb := hidIt hLb
            clear Hsn HL hfr hLb hdec
            subst hpi
            have hdec : ((p.ix : Int) == (p.ix : Int)) = true := by simp
            go_wp2_with fail
            refine (raddr_b p (.slice au p.vals.length cu) v 0 false _ (by omega) (by omega) (by omega) (by omega)).mono ?_
            rintro e w1 ⟨rfl, hk1⟩
            rw [Int.add_zero]
            have HT1 := hidIt (HT.out.kpx hk1)
            have hR1 := HR.out.kp HT1.out.kp
            have c1' := hR1.cells.2.1
            obtain ⟨f0, f1, f2, f3, f4⟩ := hR1.cell Hu.out
            simp only at f0 f1 f2 f3 f4
            have hAl := hR1.fplt A hR1.fpA
            have hgl := hR1.fplt g (hR1.fpP g rfl)
            clear hk1 hR1 HT c1 d0 d1 d2 d3 d4
            have hLb := HLb.out
            obtain ⟨i23, hi0, hz0, hz1, hz2⟩ := info_parts Try.info23
            go_wp2_with (at_builtin; go_must (refine wpList_append_row _ rfl (.tmp 48) (.tmp 57) 34 rfl 23 i23 _ 1 8 Try.underlying34 hi0 hz0 hz1 hz2 rfl (by decide) _ L.length (L.map fun p => .int .u64 p.1) rfl (HT1.out.kpx ((Kp.refl _ _).al _)).ra _ 1 [.int .u64 (rfirst p)] rfl (own_one (new_at rfl rfl)) (by simp [Value.oneCell']) (by unfold maxLen; omega) (by omega) ?_))
            intro v2 w2 ho2 hg2 hf2
            obtain ⟨hmid, a2, cp2, rfl⟩ := HT1.out.mid ((Kp.refl _ _).al _) ho2 hg2 hf2
            have HM := hidIt hmid
            have hR2 := HR.out.kp hmid.kp
            have c1'' := hR2.cells.2.1
            obtain ⟨f0', f1', f2', f3', f4'⟩ := hR2.cell Hu.out
            simp only at f0' f1' f2' f3' f4'
            have hAl2 := hR2.fplt A hR2.fpA
            have hgl2 := hR2.fplt g (hR2.fpP g rfl)
            clear hi0 hz0 hz1 hz2 ho2 hg2 hf2 hmid hR2 HT1 c1' f0 f1 f2 f3 f4 hAl hgl
            obtain ⟨i3, hi3, hz30, hz31, hz32⟩ := info_parts Try.info3
            go_wp2_with (at_builtin; go_must (refine wpList_append_row _ rfl _ _ 41 rfl 3 i3 _ 1 8 Try.underlying41 hi3 hz30 hz31 hz32 rfl (by decide) _ L.length (L.map fun p => .int .i64 p.2) rfl (HM.out.kpx ((Kp.refl _ _).al _)).rs _ 1 [.int .i64 p.vals.length] rfl (own_one (new_at rfl rfl)) (by simp [Value.oneCell']) (by unfold maxLen; omega) (by omega) ?_))
            intro v3 w3 ho3 hg3 hf3
            obtain ⟨htwo, a3, cp3, rfl⟩ := HM.out.two ((Kp.refl _ _).al _) ho3 hg3 hf3
            have HT3 := hidIt htwo
            clear hi3 hz30 hz31 hz32 ho3 hg3 hf3 htwo HM c1'' f0' f1' f2' f3' f4' hAl2 hgl2
            have hlen3 : (L ++ [(rfirst p, (p.vals.length : Int))]).length = L.length + 1 := by simp
            go_wp2
            go_roundw
            case rel => exact ⟨k + 1, a2, a3, cp2, cp3, by omega, by go_num, by rw [← hnew.out, hlen3], by rw [← hnew.out, hlen3], by rw [← hnew.out]; exact HT3.out⟩
            case measure => simp [intOf]; omega
          · have hnew : Hid (L = rall rs.ps j ++ ratk rs.ps j (k + 1)) := by
              show _ = _
              rw [Hsn.out, ← List.append_assoc, HL.out]
              have : (isIx j p && ron p) = false := by
                cases hfr : p.freed with
                | true => simp [ron, hfr]
                | false =>
                  have : p.ix ≠ j := fun e => hcond ⟨e, hfr⟩
                  simp [isIx, this]
              simp [this]
            have hrel1 : Hid (∃ (k_1 : Nat) (b4 b5' : Option Addr) (c4 c5' : Nat), k_1 ≤ rs.ps.length ∧ Value.int .i64 ((k : Int) + 1) = .int .i64 k_1 ∧ Value.slice b4 L.length c4 = Value.slice b4 (rall rs.ps j ++ ratk rs.ps j k_1).length c4 ∧ True) := ⟨k + 1, b4, b5, c4, c5, by omega, by go_num, by rw [← hnew.out], trivial⟩
            cases hdec : ((p.ix : Int) == (j : Int)) with
            | false =>
              clear Hsn HL hcond hrel1
              go_wp2
              go_roundw
              case rel => exact ⟨k + 1, b4, b5, c4, c5, by omega, by go_num, by rw [← hnew.out], by rw [← hnew.out], by rw [← hnew.out]; exact HT.out⟩
              case measure => simp [intOf]; omega
            | true =>
              have hfr : p.freed = true := by
                cases hfr : p.freed with
                | true => rfl
                | false => exact absurd ⟨by simp at hdec; omega, hfr⟩ hcond
              rw [hfr] at d4
              clear Hsn HL hcond hrel1 hfr
              go_wp2
              go_roundw
              case rel => exact ⟨k + 1, b4, b5, c4, c5, by omega, by go_num, by rw [← hnew.out], by rw [← hnew.out], by rw [← hnew.out]; exact HT.out⟩
              case measure => simp [intOf]; omega
        · obtain rfl : k = rs.ps.length := by omega
          have e0 := rall_snoc rs.ps j
          have HT2 : Hid (Two w wr (rall rs.ps (j + 1)) (.slice b4 (rall rs.ps (j + 1)).length c4) (.slice b5 (rall rs.ps (j + 1)).length c5)) := by
            show Two _ _ _ _ _
            rw [e0]
            exact HT.out
          rw [← e0]
          clear HT hRr e0
          go_wp2
          go_roundw
          case rel => exact ⟨j + 1, b4, b5, c4, c5, by omega, by go_num, rfl, rfl, HT2⟩
          case measure => simp [intOf]; omega
    · obtain rfl : j = rs.next := by omega
      have HF : Hid (AllPost w (rall rs.ps rs.next) (.returned (.tuple #[.slice aa (rall rs.ps rs.next).length ca, .slice a5 (rall rs.ps rs.next).length cs])) wr) := ⟨_, _, rfl, HT.out⟩
      clear HT hRr
      go_wp2
      go_ret2
      exact HF.out
end Go.Proofs.Ytbjofdijhcdmaaa
