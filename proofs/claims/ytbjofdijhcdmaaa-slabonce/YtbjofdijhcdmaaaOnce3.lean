/-
  SlabOnce answers true.
-/
import Derived.Test.YtbjofdijhcdmaaaOnce2
namespace Go.Proofs.Ytbjofdijhcdmaaa
set_option linter.unusedVariables false
open Go.RowKit Go.Maps

set_option maxRecDepth 100000 in
set_option maxHeartbeats 2000000 in
theorem once_early (a0 : Int) (a1 a2 : Option Addr) (len1 cap1 len2 cap2 : Nat) (w : World) (hl1 : len1 ≤ 9223372036854775807) (hl2 : len2 ≤ 9223372036854775807) (h : 60 < len1 ∨ 60 < len2) :
    Calls Try.prog 4 #[.int .i64 a0, .slice a1 len1 cap1, .slice a2 len2 cap2] w fun e w' => e = .returned (.bool true) ∧ Below w.heap.size w w' := by
  have hcases : 60 < len1 ∨ (len1 ≤ 60 ∧ 60 < len2) := by omega
  clear h
  rcases hcases with h1 | ⟨h1, h2⟩
  all_goals
    go_enter Try.func4, Try.ntmps4
    go_wp2_with fail
    refine (alive_any _).mono ?_
    rintro e w1 ⟨rfl, hB1⟩
    have HB1 := hidIt hB1
    clear hB1
    go_wp2
    go_ret
    exact ⟨rfl, HB1.out⟩

set_option maxRecDepth 100000 in
set_option maxHeartbeats 2000000 in
theorem once_none (a0 : Int) (a1 a2 : Option Addr) (len1 cap1 len2 cap2 : Nat) (w : World) (hl1 : len1 ≤ 60) (hl2 : len2 ≤ 60) (h : a0 < 0 ∨ 16384 < a0) :
    Calls Try.prog 4 #[.int .i64 a0, .slice a1 len1 cap1, .slice a2 len2 cap2] w fun e w' => e = .returned (.bool true) ∧ Below w.heap.size w w' := by
  have Hn := hidIt (fun W => new_err a0 W h)
  clear h
  go_enter Try.func4, Try.ntmps4
  go_wp2_with fail
  refine (alive_any _).mono ?_
  rintro e w1 ⟨rfl, hB1⟩
  have HB1 := hidIt hB1
  clear hB1
  go_wp2_with fail
  refine (Hn.out _).mono ?_
  rintro e w' ⟨rfl, rfl⟩
  go_wp2
  go_ret
  exact ⟨rfl, HB1.out⟩

set_option maxRecDepth 100000 in
set_option maxHeartbeats 4000000 in
theorem once_main (R : Nat) (ao1 ao2 : Option Addr) (len1 cap1 len2 cap2 : Nat) (w : World) (hR : R ≤ 16384) (hl1 : len1 ≤ 60) (hl2 : len2 ≤ 60)
    (hrows1 : Hid (∀ j, j < len1 → ∃ b o, ao1 = some ⟨b, o, none⟩ ∧ b < w.heap.size ∧ ∃ z : Int, w.cell? ⟨b, o + j, none⟩ = some (.int .i64 z)))
    (hrows2 : Hid (∀ j, j < len2 → ∃ b o, ao2 = some ⟨b, o, none⟩ ∧ b < w.heap.size ∧ ∃ z : Int, 0 ≤ z ∧ z ≤ 255 ∧ w.cell? ⟨b, o + j, none⟩ = some (.int .u8 z))) :
    Calls Try.prog 4 #[.int .i64 R, .slice ao1 len1 cap1, .slice ao2 len2 cap2] w fun e w' => e = .returned (.bool true) ∧ Below w.heap.size w w' := by
  have hmm := @run_makeMap Try.prog
  go_enter Try.func4, Try.ntmps4
  go_wp2_with fail
  refine (alive_any _).mono ?_
  rintro e w1 ⟨rfl, hB1⟩
  have HB1 := hidIt hB1
  clear hB1
  go_wp2_with fail
  refine (new_any R _ hR).mono ?_
  rintro e w2 ⟨rfl, hRep, hk⟩
  have hS := (Stage.new (w0 := w) (Ex := fun _ => False) HB1.out (fun _ h => h.elim) hRep hk).1
  have hS2 := (hS.box (.map #[] 0)).box (.cells #[] 45)
  have HO : Hid (OnceAt w w1.heap.size w2.heap.size 0 (.slice (some ⟨w2.heap.size + 1, 0, none⟩) 0 0) ((w2.alloc (.map #[] 0)).alloc (.cells #[] 45))) :=
    ⟨newSl R, [], [], 0, .map [], _, ⟨hS2, by
      have := World.ownsRow_made (base := w.heap.size) (e := 45) (size := 1) (w2.alloc (.map #[] 0)) #[] 0 (by have := hS.below.size; simp; omega) (by simp [maxLen]) (by simp)
      simpa using this, fun k hk => by simp [Value.ownBlock] at hk; subst hk; exact .inr (by simp), .inl (.inr rfl), hS.below.size, (World.ownsMap_made _ _ _ _).alloc _⟩, OnceInv.start hR, SeenIn.start, Nat.le_refl _, Nat.le_refl _⟩
  clear hRep hk hS hS2 HB1
  go_wp2
  clear hmm
  go_loopw [10, 11] (fun lv i wr => ∃ (m : Nat), i = .int .i64 m ∧ m ≤ len1 ∧ Hid (OnceAt w w1.heap.size w2.heap.size m lv wr)) (fun _ i _ => len1 - (intOf i).toNat)
  case atStart => exact ⟨0, rfl, by omega, HO⟩
  case round =>
    clear HO
    obtain ⟨m, rfl, hm, hO⟩ := hrel
    obtain ⟨S, live, seen, c, D, Ex, hM, hI, hSeen, hc, hll⟩ := hO.out
    clear hO
    have HM := hidIt hM
    have HI := hidIt hI
    have HSe := hidIt hSeen
    clear hM hI hSeen
    obtain ⟨ao, cap, hlv, _⟩ := own_shape HM.out.row
    subst hlv
    by_cases hlt : m < len1
    · obtain ⟨b1, o1, rfl, hb1, z1, cz0⟩ := hrows1.out m hlt
      have cz1 : wr.cell? ⟨b1, o1 + m, none⟩ = some (.int .i64 z1) := (HM.out.stage.below.cell (p := ⟨b1, o1 + m, none⟩) hb1).trans cz0
      clear cz0 hrows1
      have hget := HM.out.did (fun fp hR => get_any hR HI.out.inv (HI.out.small.mono (by omega)) z1)
      rcases HI.out.get (by omega) z1 m with ⟨ec, hge, hec⟩ | ⟨S1, S2, a, hge, hi1, hs1, hns, hab, hput, hI2⟩
      · rw [hge] at hget
        have Hget := hidIt hget
        have hec0 : (ec == 0) = false := by rw [beq_eq_false_iff_ne]; rw [bne_iff_ne] at hec; exact hec
        clear hget hge HM
        go_wp2_with fail
        refine Hget.out.mono ?_
        rintro e w3 ⟨rfl, hM3⟩
        have HM3 := hidIt hM3
        clear hM3 Hget cz1
        by_cases hfr : m < len2
        · by_cases hpos : 0 < (live).length
          · obtain ⟨g, cx, hv, hgc, hgm⟩ := own_pos HM3.out.row hpos
            simp only [Value.slice.injEq] at hv
            obtain ⟨rfl, hbad, rfl⟩ := hv
            clear hbad
            obtain ⟨b2, o2, rfl, hb2, z2, hz20, hz21, cz20⟩ := hrows2.out m hfr
            have cz2 : w3.cell? ⟨b2, o2 + m, none⟩ = some (.int .u8 z2) := (HM3.out.stage.below.cell (p := ⟨b2, o2 + m, none⟩) hb2).trans cz20
            clear cz20 hrows2
            have hk0 : 0 ≤ z2 % ((live).length : Int) := Int.emod_nonneg _ (by omega)
            have hk1 : z2 % ((live).length : Int) < (live).length := Int.emod_lt_of_pos _ (by omega)
            obtain ⟨k, hk⟩ : ∃ k : Nat, z2 % ((live).length : Int) = k := ⟨(z2 % ((live).length : Int)).toNat, by omega⟩
            have hkn : k < (live).length := by omega
            obtain ⟨bb, hbb⟩ : ∃ x, (live)[k]? = some x := ⟨_, List.getElem?_eq_getElem hkn⟩
            have cbb := HM3.out.cell hbb
            obtain ⟨S', hf1, hf2, hf3, hI'⟩ := HI.out.free (by omega) hbb
            have HI' := hidIt hI'
            have Hf1 := hidIt hf1
            have Hf2 := hidIt hf2
            have Hf3 := hidIt hf3
            have hxb := HI.out.bd (by omega) (HI.out.sub bb (List.mem_of_getElem? hbb))
            have hxb0 := hxb.1
            have hxb1 := hxb.2
            have hglt : g < w3.heap.size := own_lt HM3.out.row g rfl
            have HE0 : Hid ((w3.drew.alloc (.cells #[] 45)).ownsRow w3.heap.size 45 1 (.slice (some ⟨w3.heap.size, 0, none⟩) 0 0) 0 []) := World.ownsRow_made w3.drew #[] 0 (Nat.le_refl _) (by simp [maxLen]) (by simp)
            have Hn1 : Hid (∀ j u, (((live).take k).map (Value.int .u64))[j]? = some u → (w3.drew.alloc (.cells #[] 45)).cell? ((⟨g, 0, none⟩ : Addr).add j) = some u) := HM3.out.part (Below.heap_alloc w3.drew _ g hglt) 0 _ (fun j x hx => by rw [List.getElem?_take] at hx; split at hx; rw [Nat.zero_add]; exact hx; cases hx)
            have Hl1 : Hid ((((live).take k).map (Value.int .u64)).length = k * 1) := by show _ = _; simp; omega
            have hke : (k : Int) + 1 ≤ ((live).length : Int) := by omega
            clear hf1 hf2 hf3 hI' hxb hbb
            go_wp2
            obtain ⟨i0, hi, hz0, hz1, hz2⟩ := info_parts Try.info45
            have Hl2 : Hid ((((live).drop (k + 1)).map (Value.int .u64)).length = ((live).length - (k + 1)) * 1) := by show _ = _; simp
            have hkc : k ≤ cap := by omega
            have hkc1 : k + 1 ≤ live.length := by omega
            have hkc2 : live.length ≤ cap := by omega
            have Hb1 : ∀ w1x : World, (w3.drew.alloc (.cells #[] 45)).grownBy w1x (some w3.heap.size) → w1x.heap[g]? = w3.heap[g]? := fun w1x hgx => (hgx.block g (by rw [World.size_alloc]; show g < w3.heap.size + 1; omega) (fun e => by cases e; omega)).trans (Below.heap_alloc w3.drew _ g hglt)
            obtain ⟨AD, hA, hsrc⟩ : ∃ AD : Addr, (if cap = k + 1 then some (⟨g, 0, none⟩ : Addr) else some ⟨g, k + 1, none⟩) = some AD ∧ ∀ w1x : World, (w3.drew.alloc (.cells #[] 45)).grownBy w1x (some w3.heap.size) → ∀ j u, ((live.drop (k + 1)).map (Value.int .u64))[j]? = some u → w1x.cell? (AD.add j) = some u := by
              by_cases hcap : cap = k + 1
              · refine ⟨⟨g, 0, none⟩, by rw [if_pos hcap], fun w1x hgx j u hu => ?_⟩
                rw [List.drop_eq_nil_of_le (by omega)] at hu
                cases hu
              · exact ⟨⟨g, k + 1, none⟩, by rw [if_neg hcap], fun w1x hgx => HM3.out.part (Hb1 w1x hgx) (k + 1) _ (fun j x hx => by rw [List.getElem?_drop] at hx; exact hx)⟩
            have Hsrc : Hid (∀ w1x : World, (w3.drew.alloc (.cells #[] 45)).grownBy w1x (some w3.heap.size) → Hid (∀ j u, ((live.drop (k + 1)).map (Value.int .u64))[j]? = some u → w1x.cell? (AD.add j) = some u)) := hsrc
            clear hsrc Hb1
            have hwr : IntKind.i64.wrap ((k : Int) + 1) = (k : Int) + 1 := IntWalk.i64_in _ (by omega)
            have hwr0 : 0 ≤ (k : Int) + 1 := by omega
            have hwr1 : ((k : Int) + 1).toNat = k + 1 := by omega
            go_region_law (first | (refine step_append_own _ rfl (.tmp 98) (.tmp 101) 44 rfl w3.heap.size 45 i0 _ 1 8 Try.underlying44 hi hz0 hz1 hz2 rfl (by decide) (.slice (some ⟨w3.heap.size, 0, none⟩) 0 0) 0 [] (by simp [Act.eval]) (by exact HE0.out) ⟨g, 0, none⟩ k cap (((live).take k).map (Value.int .u64)) (by simp [Act.eval]) Hl1.out (by exact Hn1.out) (ints_one _) (by unfold maxLen; omega) (by omega) (by simp) ?_; intro v1 w1x ho1 hg1; simp only [Nat.zero_add, List.nil_append] at ho1; have HH1 := hidIt (And.intro ho1 hg1); have Hn2 := Hsrc.out w1x hg1; obtain ⟨ao1, cp1, rfl, _⟩ := own_shape ho1; clear ho1 hg1) | (refine step_append_own _ rfl (.tmp 102) (.tmp 106) 44 rfl w3.heap.size 45 i0 _ 1 8 Try.underlying44 hi hz0 hz1 hz2 rfl (by decide) (.slice ao1 k cp1) k _ (by simp [Act.eval]) HH1.out.1 AD ((live).length - (k + 1)) (cap - (k + 1)) (((live).drop (k + 1)).map (Value.int .u64)) (by simp [Act.eval]) Hl2.out (by exact Hn2.out) (ints_one _) (by unfold maxLen; omega) (by omega) (by have := HH1.out.2.size; simp at this; omega) ?_; intro v2 w2x ho2 hg2; have HH2 := hidIt (And.intro ho2 hg2); obtain ⟨ao2', cp2, rfl, _⟩ := own_shape ho2; clear ho2 hg2))
            clear hi hz0 hz1 hz2 hwr hwr0 hwr1 hA Hsrc Hn1 Hl1 Hl2 HE0 Hn2
            obtain ⟨L7, hL7⟩ : ∃ l, l = live.eraseIdx k := ⟨_, rfl⟩
            have hlen7 : k + (live.length - (k + 1)) = L7.length := by rw [hL7, List.length_eraseIdx, if_pos hkn]; omega
            obtain ⟨Ex7, hM7⟩ := HM3.out.erased HH1.out.2 HH1.out.1 HH2.out.2 HH2.out.1 L7 hlen7 (by rw [hL7, List.eraseIdx_eq_take_drop_succ, List.map_append])
            rw [hlen7] at hM7
            rw [← hL7] at HI'
            have hI7i := HI'.out.inv
            have hI7s := HI'.out.small
            have hll7 : L7.length ≤ m := by omega
            have hfr1 := hM7.did (fun fp hR => free_any hR HI.out.inv (HI.out.small.mono (by omega)) bb hxb0 hxb1)
            rw [Hf1.out] at hfr1
            have Hfr1 := hidIt hfr1
            have H7i := hidIt hI7i
            have H7s := hidIt hI7s
            rw [hlen7]
            clear hL7 hlen7 hM7 hfr1 hI7i hI7s HH1 HH2 Hf1
            go_wp2_with fail
            refine Hfr1.out.mono ?_
            rintro e w8 ⟨rfl, hM8⟩
            have hfr2 := hM8.did (fun fp hR => free_any hR H7i.out (H7s.out.mono (by omega)) bb hxb0 hxb1)
            rw [Hf2.out] at hfr2
            have Hfr2 := hidIt hfr2
            clear hfr2 hM8 Hfr1 Hf2
            go_wp2_with fail
            refine Hfr2.out.mono ?_
            rintro e w9 ⟨rfl, hM9⟩
            have hst9 := hM9.did (fun fp hR => store_any hR H7i.out (H7s.out.mono (by omega)) bb 1 hxb0 hxb1)
            rw [Hf3.out] at hst9
            have Hst9 := hidIt hst9
            clear hst9 hM9 Hfr2 Hf3
            go_wp2_with fail
            refine Hst9.out.mono ?_
            rintro e w10 ⟨rfl, hM10⟩
            have HM10 := hidIt hM10
            clear hM10 Hst9 H7i H7s HM3 HI
            have HIx := hidIt (HI'.out.more (show _ ≤ 2 * (m + 1) by omega))
            have HNx : Hid (OnceAt w w1.heap.size w2.heap.size (m + 1) _ _) := ⟨_, _, _, _, _, _, HM10.out, HIx.out, HSe.out, by omega, by omega⟩
            go_wp2
            go_loop [16] (fun i => ∃ k : Nat, k ≤ (L7).length ∧ i = .int .i64 k) (fun i => (L7).length - (intOf i).toNat)
            case atStart => exact ⟨0, by omega, rfl⟩
            case round =>
              obtain ⟨kk, hkk, rfl⟩ := hrel
              by_cases hlt2 : kk < (L7).length
              · obtain ⟨x, hx⟩ : ∃ x, (L7)[kk]? = some x := ⟨_, List.getElem?_eq_getElem hlt2⟩
                obtain ⟨v, hv⟩ := HIx.out.load (by omega) (List.mem_of_getElem? hx)
                have hxb := HIx.out.bd (by omega) (HIx.out.sub x (List.mem_of_getElem? hx))
                obtain ⟨fpx, hRx⟩ := HM10.out.stage.rep
                have hld := load_any hRx HIx.out.inv (HIx.out.small.mono (by omega)) x hxb.1 hxb.2
                rw [hv] at hld
                have Hld := hidIt hld
                obtain ⟨gx, cx, hvx, _⟩ := own_pos HM10.out.row (by omega)
                simp only [Value.slice.injEq] at hvx
                obtain ⟨rfl, hbadx, rfl⟩ := hvx
                clear hbadx
                have hcx := HM10.out.cell hx
                clear hld hRx hv hx hxb
                go_wp2_with (go_at_call 18; go_must (refine Hld.out.mono ?_); rintro e w' ⟨rfl, rfl⟩)
                go_round
                case rel => exact ⟨kk + 1, by omega, by go_num⟩
                case measure => simp [intOf]; omega
              · clear HM10 HI' HSe HIx
                go_wp2
                go_roundw
                case rel => exact ⟨m + 1, by go_num, by omega, HNx⟩
                case measure => simp [intOf]; omega
          · have hzb : decide (0 < (live).length) = false := by simpa using hpos
            clear hrows2
            have HIx := hidIt (HI.out.more (show _ ≤ 2 * (m + 1) by omega))
            have HNx : Hid (OnceAt w w1.heap.size w2.heap.size (m + 1) _ _) := ⟨_, _, _, _, _, _, HM3.out, HIx.out, HSe.out, by omega, by omega⟩
            go_wp2
            go_loop [16] (fun i => ∃ k : Nat, k ≤ (live).length ∧ i = .int .i64 k) (fun i => (live).length - (intOf i).toNat)
            case atStart => exact ⟨0, by omega, rfl⟩
            case round =>
              obtain ⟨kk, hkk, rfl⟩ := hrel
              by_cases hlt2 : kk < (live).length
              · obtain ⟨x, hx⟩ : ∃ x, (live)[kk]? = some x := ⟨_, List.getElem?_eq_getElem hlt2⟩
                obtain ⟨v, hv⟩ := HIx.out.load (by omega) (List.mem_of_getElem? hx)
                have hxb := HIx.out.bd (by omega) (HIx.out.sub x (List.mem_of_getElem? hx))
                obtain ⟨fpx, hRx⟩ := HM3.out.stage.rep
                have hld := load_any hRx HIx.out.inv (HIx.out.small.mono (by omega)) x hxb.1 hxb.2
                rw [hv] at hld
                have Hld := hidIt hld
                obtain ⟨gx, cx, hvx, _⟩ := own_pos HM3.out.row (by omega)
                simp only [Value.slice.injEq] at hvx
                obtain ⟨rfl, hbadx, rfl⟩ := hvx
                clear hbadx
                have hcx := HM3.out.cell hx
                clear hld hRx hv hx hxb
                go_wp2_with (go_at_call 18; go_must (refine Hld.out.mono ?_); rintro e w' ⟨rfl, rfl⟩)
                go_round
                case rel => exact ⟨kk + 1, by omega, by go_num⟩
                case measure => simp [intOf]; omega
              · clear HM3 HI HSe HIx
                go_wp2
                go_roundw
                case rel => exact ⟨m + 1, by go_num, by omega, HNx⟩
                case measure => simp [intOf]; omega
        · clear hrows2
          have HIx := hidIt (HI.out.more (show _ ≤ 2 * (m + 1) by omega))
          have HNx : Hid (OnceAt w w1.heap.size w2.heap.size (m + 1) _ _) := ⟨_, _, _, _, _, _, HM3.out, HIx.out, HSe.out, by omega, by omega⟩
          go_wp2
          go_loop [16] (fun i => ∃ k : Nat, k ≤ (live).length ∧ i = .int .i64 k) (fun i => (live).length - (intOf i).toNat)
          case atStart => exact ⟨0, by omega, rfl⟩
          case round =>
            obtain ⟨kk, hkk, rfl⟩ := hrel
            by_cases hlt2 : kk < (live).length
            · obtain ⟨x, hx⟩ : ∃ x, (live)[kk]? = some x := ⟨_, List.getElem?_eq_getElem hlt2⟩
              obtain ⟨v, hv⟩ := HIx.out.load (by omega) (List.mem_of_getElem? hx)
              have hxb := HIx.out.bd (by omega) (HIx.out.sub x (List.mem_of_getElem? hx))
              obtain ⟨fpx, hRx⟩ := HM3.out.stage.rep
              have hld := load_any hRx HIx.out.inv (HIx.out.small.mono (by omega)) x hxb.1 hxb.2
              rw [hv] at hld
              have Hld := hidIt hld
              obtain ⟨gx, cx, hvx, _⟩ := own_pos HM3.out.row (by omega)
              simp only [Value.slice.injEq] at hvx
              obtain ⟨rfl, hbadx, rfl⟩ := hvx
              clear hbadx
              have hcx := HM3.out.cell hx
              clear hld hRx hv hx hxb
              go_wp2_with (go_at_call 18; go_must (refine Hld.out.mono ?_); rintro e w' ⟨rfl, rfl⟩)
              go_round
              case rel => exact ⟨kk + 1, by omega, by go_num⟩
              case measure => simp [intOf]; omega
            · clear HM3 HI HSe HIx
              go_wp2
              go_roundw
              case rel => exact ⟨m + 1, by go_num, by omega, HNx⟩
              case measure => simp [intOf]; omega
      · rw [hge] at hget
        have Hget := hidIt hget
        have hab0 := hab.1
        have hab1 := hab.2
        clear hget hge HM
        go_wp2_with fail
        refine Hget.out.mono ?_
        rintro e w3 ⟨rfl, hM3⟩
        have hst := hM3.did (fun fp hR => store_any hR hi1 (hs1.mono (by omega)) a m hab.1 hab.2)
        rw [hput] at hst
        have Hst := hidIt hst
        have Hmap3 := hidIt hM3.map
        have Hat := hidIt (HSe.out a hns)
        clear hM3 hst Hget cz1 hab
        go_wp2_with (first | (at_lookup; go_must (refine wpList_lookup_own_bool _ rfl _ _ 43 rfl 45 4 lawA Try.underlying43 Try.underlying4 (zeroE4 _) w2.heap.size c _ rfl Hmap3.out _ _ rfl (keyOf_int_mk Try.underlying45 (WalkArith.wf_u64 ⟨hab0, by omega⟩)) false Hat.out ?_)))
        refine Hst.out.mono ?_
        rintro e w4 ⟨rfl, hM4⟩
        have HM4 := hidIt hM4
        clear hM4 Hst Hmap3 Hat
        go_wp2_with (at_mapUpdate; go_must (refine wpList_mapUpdate_own _ rfl _ _ _ 43 rfl 45 4 lawA Try.underlying43 _ w2.heap.size c _ rfl HM4.out.map (by unfold maxLen; omega) _ _ _ rfl rfl (keyOf_int_mk Try.underlying45 (WalkArith.wf_u64 ⟨hab0, by omega⟩)) _ [] (plainElem_bool Try.underlying4 true) ?_))
        intro w5 hm5 hg5
        have HM5 := hidIt (HM4.out.mapped hm5 hg5)
        have HSe5 := hidIt (HSe.out.put a)
        have hrow5 := hidIt HM5.out.row
        clear hm5 hg5 HM4 HSe
        obtain ⟨i0, hi, hz0, hz1, hz2⟩ := info_parts Try.info45
        go_wp2_with (at_builtin; go_must (refine wpList_append_lies _ rfl _ _ 44 rfl w.heap.size 45 i0 _ 1 8 Try.underlying44 hi hz0 hz1 hz2 rfl (by decide) _ _ _ rfl (hrow5.out.alloc _) ⟨w5.heap.size, 0, none⟩ 1 1 [.int .u64 a] rfl rfl (cell_one_new _ _ _) (by simp [Value.oneCell']) (by decide) (by unfold maxLen; omega) (by omega) (by have := HM5.out.stage.below.size; simp; omega) (w5.heap.size + 1) (by simp) ?_))
        clear hi hz0 hz1 hz2
        intro g6 c6 w6 ho6 hg6 hf6 hgl6
        obtain ⟨Ex6, hM6⟩ := HM5.out.push ho6 hg6 hf6
        have HM6 := hidIt hM6
        clear ho6 hg6 hf6 hgl6 hM6 HM5 hrow5
        have HI2 := hidIt hI2
        clear hI2
        obtain ⟨L6, hL6⟩ : ∃ L, L = live ++ [a] := ⟨_, rfl⟩
        have hlen6 : live.length + 1 = L6.length := by rw [hL6]; simp
        rw [← hL6, hlen6] at HM6
        rw [← hL6] at HI2
        rw [hlen6]
        have hll6 : L6.length ≤ m + 1 := by omega
        clear hL6 hlen6
        generalize (some (⟨g6, 0, none⟩ : Addr)) = ao6 at HM6 ⊢
        by_cases hfr : m < len2
        · by_cases hpos : 0 < (L6).length
          · obtain ⟨g, cx, hv, hgc, hgm⟩ := own_pos HM6.out.row hpos
            simp only [Value.slice.injEq] at hv
            obtain ⟨rfl, hbad, rfl⟩ := hv
            clear hbad
            obtain ⟨b2, o2, rfl, hb2, z2, hz20, hz21, cz20⟩ := hrows2.out m hfr
            have cz2 : w6.cell? ⟨b2, o2 + m, none⟩ = some (.int .u8 z2) := (HM6.out.stage.below.cell (p := ⟨b2, o2 + m, none⟩) hb2).trans cz20
            clear cz20 hrows2
            have hk0 : 0 ≤ z2 % ((L6).length : Int) := Int.emod_nonneg _ (by omega)
            have hk1 : z2 % ((L6).length : Int) < (L6).length := Int.emod_lt_of_pos _ (by omega)
            obtain ⟨k, hk⟩ : ∃ k : Nat, z2 % ((L6).length : Int) = k := ⟨(z2 % ((L6).length : Int)).toNat, by omega⟩
            have hkn : k < (L6).length := by omega
            obtain ⟨bb, hbb⟩ : ∃ x, (L6)[k]? = some x := ⟨_, List.getElem?_eq_getElem hkn⟩
            have cbb := HM6.out.cell hbb
            obtain ⟨S', hf1, hf2, hf3, hI'⟩ := HI2.out.free (by omega) hbb
            have HI' := hidIt hI'
            have Hf1 := hidIt hf1
            have Hf2 := hidIt hf2
            have Hf3 := hidIt hf3
            have hxb := HI2.out.bd (by omega) (HI2.out.sub bb (List.mem_of_getElem? hbb))
            have hxb0 := hxb.1
            have hxb1 := hxb.2
            have hglt : g < w6.heap.size := own_lt HM6.out.row g rfl
            have HE0 : Hid ((w6.drew.alloc (.cells #[] 45)).ownsRow w6.heap.size 45 1 (.slice (some ⟨w6.heap.size, 0, none⟩) 0 0) 0 []) := World.ownsRow_made w6.drew #[] 0 (Nat.le_refl _) (by simp [maxLen]) (by simp)
            have Hn1 : Hid (∀ j u, (((L6).take k).map (Value.int .u64))[j]? = some u → (w6.drew.alloc (.cells #[] 45)).cell? ((⟨g, 0, none⟩ : Addr).add j) = some u) := HM6.out.part (Below.heap_alloc w6.drew _ g hglt) 0 _ (fun j x hx => by rw [List.getElem?_take] at hx; split at hx; rw [Nat.zero_add]; exact hx; cases hx)
            have Hl1 : Hid ((((L6).take k).map (Value.int .u64)).length = k * 1) := by show _ = _; simp; omega
            have hke : (k : Int) + 1 ≤ ((L6).length : Int) := by omega
            clear hf1 hf2 hf3 hI' hxb hbb
            go_wp2
            obtain ⟨i0, hi, hz0, hz1, hz2⟩ := info_parts Try.info45
            have Hl2 : Hid ((((L6).drop (k + 1)).map (Value.int .u64)).length = ((L6).length - (k + 1)) * 1) := by show _ = _; simp
            have hkc : k ≤ c6 := by omega
            have hkc1 : k + 1 ≤ L6.length := by omega
            have hkc2 : L6.length ≤ c6 := by omega
            have Hb1 : ∀ w1x : World, (w6.drew.alloc (.cells #[] 45)).grownBy w1x (some w6.heap.size) → w1x.heap[g]? = w6.heap[g]? := fun w1x hgx => (hgx.block g (by rw [World.size_alloc]; show g < w6.heap.size + 1; omega) (fun e => by cases e; omega)).trans (Below.heap_alloc w6.drew _ g hglt)
            obtain ⟨AD, hA, hsrc⟩ : ∃ AD : Addr, (if c6 = k + 1 then some (⟨g, 0, none⟩ : Addr) else some ⟨g, k + 1, none⟩) = some AD ∧ ∀ w1x : World, (w6.drew.alloc (.cells #[] 45)).grownBy w1x (some w6.heap.size) → ∀ j u, ((L6.drop (k + 1)).map (Value.int .u64))[j]? = some u → w1x.cell? (AD.add j) = some u := by
              by_cases hcap : c6 = k + 1
              · refine ⟨⟨g, 0, none⟩, by rw [if_pos hcap], fun w1x hgx j u hu => ?_⟩
                rw [List.drop_eq_nil_of_le (by omega)] at hu
                cases hu
              · exact ⟨⟨g, k + 1, none⟩, by rw [if_neg hcap], fun w1x hgx => HM6.out.part (Hb1 w1x hgx) (k + 1) _ (fun j x hx => by rw [List.getElem?_drop] at hx; exact hx)⟩
            have Hsrc : Hid (∀ w1x : World, (w6.drew.alloc (.cells #[] 45)).grownBy w1x (some w6.heap.size) → Hid (∀ j u, ((L6.drop (k + 1)).map (Value.int .u64))[j]? = some u → w1x.cell? (AD.add j) = some u)) := hsrc
            clear hsrc Hb1
            have hwr : IntKind.i64.wrap ((k : Int) + 1) = (k : Int) + 1 := IntWalk.i64_in _ (by omega)
            have hwr0 : 0 ≤ (k : Int) + 1 := by omega
            have hwr1 : ((k : Int) + 1).toNat = k + 1 := by omega
            go_region_law (first | (refine step_append_own _ rfl (.tmp 98) (.tmp 101) 44 rfl w6.heap.size 45 i0 _ 1 8 Try.underlying44 hi hz0 hz1 hz2 rfl (by decide) (.slice (some ⟨w6.heap.size, 0, none⟩) 0 0) 0 [] (by simp [Act.eval]) (by exact HE0.out) ⟨g, 0, none⟩ k c6 (((L6).take k).map (Value.int .u64)) (by simp [Act.eval]) Hl1.out (by exact Hn1.out) (ints_one _) (by unfold maxLen; omega) (by omega) (by simp) ?_; intro v1 w1x ho1 hg1; simp only [Nat.zero_add, List.nil_append] at ho1; have HH1 := hidIt (And.intro ho1 hg1); have Hn2 := Hsrc.out w1x hg1; obtain ⟨ao1, cp1, rfl, _⟩ := own_shape ho1; clear ho1 hg1) | (refine step_append_own _ rfl (.tmp 102) (.tmp 106) 44 rfl w6.heap.size 45 i0 _ 1 8 Try.underlying44 hi hz0 hz1 hz2 rfl (by decide) (.slice ao1 k cp1) k _ (by simp [Act.eval]) HH1.out.1 AD ((L6).length - (k + 1)) (c6 - (k + 1)) (((L6).drop (k + 1)).map (Value.int .u64)) (by simp [Act.eval]) Hl2.out (by exact Hn2.out) (ints_one _) (by unfold maxLen; omega) (by omega) (by have := HH1.out.2.size; simp at this; omega) ?_; intro v2 w2x ho2 hg2; have HH2 := hidIt (And.intro ho2 hg2); obtain ⟨ao2', cp2, rfl, _⟩ := own_shape ho2; clear ho2 hg2))
            clear hi hz0 hz1 hz2 hwr hwr0 hwr1 hA Hsrc Hn1 Hl1 Hl2 HE0 Hn2
            obtain ⟨L7, hL7⟩ : ∃ l, l = L6.eraseIdx k := ⟨_, rfl⟩
            have hlen7 : k + (L6.length - (k + 1)) = L7.length := by rw [hL7, List.length_eraseIdx, if_pos hkn]; omega
            obtain ⟨Ex7, hM7⟩ := HM6.out.erased HH1.out.2 HH1.out.1 HH2.out.2 HH2.out.1 L7 hlen7 (by rw [hL7, List.eraseIdx_eq_take_drop_succ, List.map_append])
            rw [hlen7] at hM7
            rw [← hL7] at HI'
            have hI7i := HI'.out.inv
            have hI7s := HI'.out.small
            have hll7 : L7.length ≤ m := by omega
            have hfr1 := hM7.did (fun fp hR => free_any hR HI2.out.inv (HI2.out.small.mono (by omega)) bb hxb0 hxb1)
            rw [Hf1.out] at hfr1
            have Hfr1 := hidIt hfr1
            have H7i := hidIt hI7i
            have H7s := hidIt hI7s
            rw [hlen7]
            clear hL7 hlen7 hM7 hfr1 hI7i hI7s HH1 HH2 Hf1
            go_wp2_with fail
            refine Hfr1.out.mono ?_
            rintro e w8 ⟨rfl, hM8⟩
            have hfr2 := hM8.did (fun fp hR => free_any hR H7i.out (H7s.out.mono (by omega)) bb hxb0 hxb1)
            rw [Hf2.out] at hfr2
            have Hfr2 := hidIt hfr2
            clear hfr2 hM8 Hfr1 Hf2
            go_wp2_with fail
            refine Hfr2.out.mono ?_
            rintro e w9 ⟨rfl, hM9⟩
            have hst9 := hM9.did (fun fp hR => store_any hR H7i.out (H7s.out.mono (by omega)) bb 1 hxb0 hxb1)
            rw [Hf3.out] at hst9
            have Hst9 := hidIt hst9
            clear hst9 hM9 Hfr2 Hf3
            go_wp2_with fail
            refine Hst9.out.mono ?_
            rintro e w10 ⟨rfl, hM10⟩
            have HM10 := hidIt hM10
            clear hM10 Hst9 H7i H7s HM6 HI2
            have HIx := hidIt (HI'.out.more (show _ ≤ 2 * (m + 1) by omega))
            have HNx : Hid (OnceAt w w1.heap.size w2.heap.size (m + 1) _ _) := ⟨_, _, _, _, _, _, HM10.out, HIx.out, HSe5.out, by omega, by omega⟩
            go_wp2
            go_loop [16] (fun i => ∃ k : Nat, k ≤ (L7).length ∧ i = .int .i64 k) (fun i => (L7).length - (intOf i).toNat)
            case atStart => exact ⟨0, by omega, rfl⟩
            case round =>
              obtain ⟨kk, hkk, rfl⟩ := hrel
              by_cases hlt2 : kk < (L7).length
              · obtain ⟨x, hx⟩ : ∃ x, (L7)[kk]? = some x := ⟨_, List.getElem?_eq_getElem hlt2⟩
                obtain ⟨v, hv⟩ := HIx.out.load (by omega) (List.mem_of_getElem? hx)
                have hxb := HIx.out.bd (by omega) (HIx.out.sub x (List.mem_of_getElem? hx))
                obtain ⟨fpx, hRx⟩ := HM10.out.stage.rep
                have hld := load_any hRx HIx.out.inv (HIx.out.small.mono (by omega)) x hxb.1 hxb.2
                rw [hv] at hld
                have Hld := hidIt hld
                obtain ⟨gx, cx, hvx, _⟩ := own_pos HM10.out.row (by omega)
                simp only [Value.slice.injEq] at hvx
                obtain ⟨rfl, hbadx, rfl⟩ := hvx
                clear hbadx
                have hcx := HM10.out.cell hx
                clear hld hRx hv hx hxb
                go_wp2_with (go_at_call 18; go_must (refine Hld.out.mono ?_); rintro e w' ⟨rfl, rfl⟩)
                go_round
                case rel => exact ⟨kk + 1, by omega, by go_num⟩
                case measure => simp [intOf]; omega
              · clear HM10 HI' HSe5 HIx
                go_wp2
                go_roundw
                case rel => exact ⟨m + 1, by go_num, by omega, HNx⟩
                case measure => simp [intOf]; omega
          · have hzb : decide (0 < (L6).length) = false := by simpa using hpos
            clear hrows2
            have HIx := hidIt (HI2.out.more (show _ ≤ 2 * (m + 1) by omega))
            have HNx : Hid (OnceAt w w1.heap.size w2.heap.size (m + 1) _ _) := ⟨_, _, _, _, _, _, HM6.out, HIx.out, HSe5.out, by omega, by omega⟩
            go_wp2
            go_loop [16] (fun i => ∃ k : Nat, k ≤ (L6).length ∧ i = .int .i64 k) (fun i => (L6).length - (intOf i).toNat)
            case atStart => exact ⟨0, by omega, rfl⟩
            case round =>
              obtain ⟨kk, hkk, rfl⟩ := hrel
              by_cases hlt2 : kk < (L6).length
              · obtain ⟨x, hx⟩ : ∃ x, (L6)[kk]? = some x := ⟨_, List.getElem?_eq_getElem hlt2⟩
                obtain ⟨v, hv⟩ := HIx.out.load (by omega) (List.mem_of_getElem? hx)
                have hxb := HIx.out.bd (by omega) (HIx.out.sub x (List.mem_of_getElem? hx))
                obtain ⟨fpx, hRx⟩ := HM6.out.stage.rep
                have hld := load_any hRx HIx.out.inv (HIx.out.small.mono (by omega)) x hxb.1 hxb.2
                rw [hv] at hld
                have Hld := hidIt hld
                obtain ⟨gx, cx, hvx, _⟩ := own_pos HM6.out.row (by omega)
                simp only [Value.slice.injEq] at hvx
                obtain ⟨rfl, hbadx, rfl⟩ := hvx
                clear hbadx
                have hcx := HM6.out.cell hx
                clear hld hRx hv hx hxb
                go_wp2_with (go_at_call 18; go_must (refine Hld.out.mono ?_); rintro e w' ⟨rfl, rfl⟩)
                go_round
                case rel => exact ⟨kk + 1, by omega, by go_num⟩
                case measure => simp [intOf]; omega
              · clear HM6 HI2 HSe5 HIx
                go_wp2
                go_roundw
                case rel => exact ⟨m + 1, by go_num, by omega, HNx⟩
                case measure => simp [intOf]; omega
        · clear hrows2
          have HIx := hidIt (HI2.out.more (show _ ≤ 2 * (m + 1) by omega))
          have HNx : Hid (OnceAt w w1.heap.size w2.heap.size (m + 1) _ _) := ⟨_, _, _, _, _, _, HM6.out, HIx.out, HSe5.out, by omega, by omega⟩
          go_wp2
          go_loop [16] (fun i => ∃ k : Nat, k ≤ (L6).length ∧ i = .int .i64 k) (fun i => (L6).length - (intOf i).toNat)
          case atStart => exact ⟨0, by omega, rfl⟩
          case round =>
            obtain ⟨kk, hkk, rfl⟩ := hrel
            by_cases hlt2 : kk < (L6).length
            · obtain ⟨x, hx⟩ : ∃ x, (L6)[kk]? = some x := ⟨_, List.getElem?_eq_getElem hlt2⟩
              obtain ⟨v, hv⟩ := HIx.out.load (by omega) (List.mem_of_getElem? hx)
              have hxb := HIx.out.bd (by omega) (HIx.out.sub x (List.mem_of_getElem? hx))
              obtain ⟨fpx, hRx⟩ := HM6.out.stage.rep
              have hld := load_any hRx HIx.out.inv (HIx.out.small.mono (by omega)) x hxb.1 hxb.2
              rw [hv] at hld
              have Hld := hidIt hld
              obtain ⟨gx, cx, hvx, _⟩ := own_pos HM6.out.row (by omega)
              simp only [Value.slice.injEq] at hvx
              obtain ⟨rfl, hbadx, rfl⟩ := hvx
              clear hbadx
              have hcx := HM6.out.cell hx
              clear hld hRx hv hx hxb
              go_wp2_with (go_at_call 18; go_must (refine Hld.out.mono ?_); rintro e w' ⟨rfl, rfl⟩)
              go_round
              case rel => exact ⟨kk + 1, by omega, by go_num⟩
              case measure => simp [intOf]; omega
            · clear HM6 HI2 HSe5 HIx
              go_wp2
              go_roundw
              case rel => exact ⟨m + 1, by go_num, by omega, HNx⟩
              case measure => simp [intOf]; omega
    · have hlive := live_any HM.out.stage.rep.choose_spec
      rw [← HI.out.count] at hlive
      have Hlive := hidIt hlive
      have HBf := hidIt HM.out.stage.below
      clear HM HI HSe hrows1 hrows2 hlive
      go_wp2_with (go_at_call 19; refine Hlive.out.mono ?_; rintro e w' ⟨rfl, rfl⟩)
      go_ret
      exact ⟨by simp, HBf.out⟩
end Go.Proofs.Ytbjofdijhcdmaaa
