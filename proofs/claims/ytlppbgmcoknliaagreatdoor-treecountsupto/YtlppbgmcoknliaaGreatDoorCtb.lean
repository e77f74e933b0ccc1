/-
  TreeCounts: where its loop begins, and what it leaves.
-/
import Derived.Test.YtlppbgmcoknliaaGreatDoorCta
namespace Go.Proofs.YtlppbgmcoknliaaGreatDoor
set_option linter.unusedVariables false
open Go.RowKit

/-- The worlds that TreeCounts goes through: both clones, their boxes, the grown function's box. -/
structure CT (wl wx wX wy wY wz : World) (X Y : ProgX) (b22 b43 : Nat) : Prop where
  lx : Below wl.heap.size wl wx
  xAt : X.At wx
  xC : CloneOf wl wx X
  xX : Below wx.heap.size wx wX
  xs : wX.heap.size = wx.heap.size + 1
  xb : wX.heap[wx.heap.size]? = some (.cells #[.slice X.sa X.structs.length X.sc, .slice X.ea X.enums.length X.ec, .slice X.fa X.funcs.length X.fc] 36 (0, 0))
  Xy : Below wX.heap.size wX wy
  yAt : Y.At wy
  yC : CloneOf wX wy Y
  yY : Below wy.heap.size wy wY
  ys : wY.heap.size = wy.heap.size + 1
  yb : wY.heap[wy.heap.size]? = some (.cells #[.slice Y.sa Y.structs.length Y.sc, .slice Y.ea Y.enums.length Y.ec, .slice Y.fa Y.funcs.length Y.fc] 36 (0, 0))
  Yz : Below wY.heap.size wY wz
  zs : wz.heap.size = wY.heap.size + 1
  zb : wz.heap[wY.heap.size]? = some (.cells #[.int .i64 0, .string ⟨#[102]⟩, .slice none 0 0, .slice none 0 0, .string ⟨#[105, 110, 116]⟩, .slice (some ⟨b43, 0, none⟩) 1 1] 45 (0, 0))
  h22 : wl.heap[b22]? = some (.cells #[.string ⟨#[98]⟩] 9 (0, 0))
  h43 : wl.heap[b43]? = some (.cells #[.int .i64 0, .string ⟨#[98]⟩, .slice none 0 0, .int .i64 0, .int .i64 1, .string ⟨#[]⟩, .slice none 0 0, .string ⟨#[]⟩, .slice none 0 0, .slice (some ⟨b22, 0, none⟩) 1 1, .slice none 0 0] 64 (0, 0))
def ctC (wx wy wY wz : World) (X Y : ProgX) (b22 b43 : Nat) : LC :=
  ⟨wz.heap.size, wx.heap.size, wy.heap.size, wY.heap.size, b22, b43, .slice X.sa X.structs.length X.sc, .slice Y.fa Y.funcs.length Y.fc, .slice X.ea X.enums.length X.ec, .slice X.fa X.funcs.length X.fc, .slice Y.sa Y.structs.length Y.sc, .slice Y.ea Y.enums.length Y.ec, X.structs, Y.funcs, wz⟩

theorem room_block {W : World} {B L : Nat} {ty : TypeId} {k : Nat} {a : Option Addr} {n c g : Nat} (h : RoomB W B L ty k a n c) (hg : (Value.slice a n c).ownBlock = some g) : B ≤ g ∧ g < L ∧ g < W.heap.size := by
  rcases h with ⟨_, rfl, _⟩ | ⟨g1, cur, rfl, h1, h2, h3, _⟩
  · simp [Value.ownBlock] at hg
  · simp only [Value.ownBlock, Option.some.injEq] at hg
    subst hg
    exact ⟨h1, h2, (Array.getElem?_eq_some_iff.1 h3).1⟩

section
variable {wl wx wX wy wY wz : World} {X Y : ProgX} {b22 b43 : Nat}
theorem CT.good (h : CT wl wx wX wy wY wz X Y b22 b43) : (ctC wx wy wY wz X Y b22 b43).Good ∧ (b43 ≠ wx.heap.size ∧ b43 ≠ wy.heap.size ∧ b43 ≠ wY.heap.size) := by
  have l43 : b43 < wl.heap.size := (Array.getElem?_eq_some_iff.1 h.h43).1
  have s1 := h.lx.size; have s2 := h.xs; have s3 := h.Xy.size; have s4 := h.ys; have s5 := h.zs
  obtain ⟨⟨L0, r0, _⟩, wm, L2, z0, z1, _, _, _, _, _, r2, _⟩ := And.intro h.xC.1 h.yC.2
  refine ⟨⟨?_, ?_, ?_, ?_, ?_, ?_, ?_, ?_, ?_⟩, by omega, by omega, by omega⟩ <;> simp only [ctC]
  · omega
  · omega
  · omega
  · omega
  · omega
  · omega
  · omega
  · intro g hg
    have := room_block r0 hg
    omega
  · intro g hg
    have := room_block r2 hg
    omega
theorem CT.begins (h : CT wl wx wX wy wY wz X Y b22 b43) : LS (ctC wx wy wY wz X Y b22 b43) 0 0 0 (.slice X.sa X.structs.length X.sc) (.slice Y.fa Y.funcs.length Y.fc) (.slice (some ⟨b43, 0, none⟩) 1 1) wz := by
  have b1 : Below wX.heap.size wX wz := below_next (below_next h.Xy h.yY) h.Yz
  have b2 : Below wx.heap.size wx wz := below_next h.xX b1
  have b3 : Below wy.heap.size wy wz := below_next h.yY h.Yz
  have b4 : Below wl.heap.size wl wz := below_next h.lx b2
  obtain ⟨⟨L0, r0, _⟩, wm, L2, z0, z1, _, _, _, _, _, r2, _⟩ := And.intro h.xC.1 h.yC.2
  refine ⟨Nat.le_refl _, ⟨rfl, rfl, rfl⟩, fun _ _ _ _ _ _ _ => rfl, heap_on h.xb b1, heap_on h.yb h.Yz, h.zb, ?_, ?_, ?_, .inl rfl, .inl rfl, .inl ⟨rfl, rfl⟩⟩
  · have := own_of_room (rows := X.structs.map StructX.row) ((r0.room.on b2).mono (Nat.zero_le _)) (h.xAt.1.1.on b2) (List.length_map _)
    simpa [ctC] using this
  · have := own_of_room (rows := Y.funcs.map FuncX.row) ((r2.room.on b3).mono (Nat.zero_le _)) (h.yAt.2.2.1.on b3) (List.length_map _)
    simpa [ctC] using this
  · exact ⟨rfl, .inr ⟨b43, 1, _, rfl, Nat.zero_le _, heap_on h.h43 b4, Nat.le_refl _, by unfold maxLen; omega, rfl, rfl⟩⟩
theorem CT.low (h : CT wl wx wX wy wY wz X Y b22 b43) {kx ky kg : Nat} {vX vY vG : Value} {W : World} (hL : LS (ctC wx wy wY wz X Y b22 b43) kx ky kg vX vY vG W) : Below wl.heap.size wl W := by
  have s1 := h.lx.size; have s2 := h.xs; have s3 := h.Xy.size; have s4 := h.ys; have s5 := h.zs
  have b1 : Below wX.heap.size wX wz := below_next (below_next h.Xy h.yY) h.Yz
  have b4 : Below wl.heap.size wl wz := below_next h.lx (below_next h.xX b1)
  obtain ⟨⟨L0, r0, _⟩, wm, L2, z0, z1, _, _, _, _, _, r2, _⟩ := And.intro h.xC.1 h.yC.2
  have hs := hL.size
  refine ⟨hL.os.1.trans b4.os, hL.os.2.1.trans b4.tape, hL.os.2.2.trans b4.output, Nat.le_trans b4.size hs, fun b hb => ?_⟩
  have := hL.fr b (by simp only [ctC]; omega) (by simp only [ctC]; omega) (by simp only [ctC]; omega) (by simp only [ctC]; omega) (fun e => by have := room_block r0 e.symm; omega) (fun e => by have := room_block r2 e.symm; omega)
  rw [this]
  exact b4.block b hb
theorem bX_at {W : World} {b : Nat} (h : W.heap[b]? = some (.cells #[.string ⟨#[98]⟩] 9 (0, 0))) : (bX b).At W := by
  refine ⟨⟨Sl.nil, fun x hx => by cases hx⟩, Sl.nil, ⟨Sl.nil, fun x hx => by cases hx⟩, ⟨?_, by show 1 ≤ 1048576; decide, .inr ⟨b, 0, rfl, (Array.getElem?_eq_some_iff.1 h).1, fun j r i v hj hi => ?_⟩⟩, Sl.nil⟩
  · intro r hr
    cases List.mem_singleton.1 hr
    rfl
  · obtain rfl : j = 0 := by
      have := (List.getElem?_eq_some_iff.1 hj).1
      simpa [tX, bX, strs] using this
    simp [tX, bX, strs] at hj
    subst hj
    obtain rfl : i = 0 := by
      have := (List.getElem?_eq_some_iff.1 hi).1
      simpa using this
    simp at hi
    subst hi
    exact cell_at h 0
theorem rep_at {W : World} {b : Nat} (hb : (bX b).At W) (n : Nat) : ∀ x ∈ List.replicate n (bX b), x.At W := fun x hx => by rw [List.eq_of_mem_replicate hx]; exact hb
/-- What the loop leaves: three programs. -/
theorem CT.ends (h : CT wl wx wX wy wY wz X Y b22 b43) {n : Nat} (hn : n < 70) (hX : X.structs.length ≤ 16) (hY : Y.funcs.length ≤ 16) {vX vY vG : Value} {W : World} (hL : LS (ctC wx wy wY wz X Y b22 b43) n n n vX vY vG W) :
    ∃ xa xc ya yc ga gc, vX = .slice xa (X.structs.length + n) xc ∧ vY = .slice ya (Y.funcs.length + n) yc ∧ vG = .slice ga (1 + n) gc ∧
      (⟨xa, xc, X.structs ++ List.replicate n sX, X.ea, X.ec, X.enums, X.fa, X.fc, X.funcs⟩ : ProgX).At W ∧
      (⟨Y.sa, Y.sc, Y.structs, Y.ea, Y.ec, Y.enums, ya, yc, Y.funcs ++ List.replicate n (fX b22 b43)⟩ : ProgX).At W ∧
      (⟨0, ⟨#[102]⟩, none, 0, [], none, 0, [], ⟨#[105, 110, 116]⟩, ga, gc, List.replicate (1 + n) (bX b22)⟩ : FuncX).At W := by
  have low := h.low hL
  have s1 := h.lx.size; have s2 := h.xs; have s3 := h.Xy.size; have s4 := h.ys; have s5 := h.zs; have hs := hL.size
  have b1 : Below wX.heap.size wX wz := below_next (below_next h.Xy h.yY) h.Yz
  have b2 : Below wx.heap.size wx wz := below_next h.xX b1
  have b3 : Below wy.heap.size wy wz := below_next h.yY h.Yz
  obtain ⟨L0, r0, x1, x2, x3⟩ := h.xC.1
  obtain ⟨wm, L2, z0, z1, y0, y1, y2, y3, y4, r2, y5⟩ := h.yC.2
  have z2 := y0.size
  simp only [ctC] at hs
  have kx : Kps L0 wx W := ⟨by omega, fun b h1 h2 => by
    rw [hL.fr b (by simp only [ctC]; omega) (by simp only [ctC]; omega) (by simp only [ctC]; omega) (by simp only [ctC]; omega) (fun e => by have := room_block r0 e.symm; omega) (fun e => by have := room_block r2 e.symm; omega)]
    exact b2.block b h2⟩
  have ky : Kps (wX.heap.size + 2) wm W := ⟨by omega, fun b h1 h2 => by
    rw [hL.fr b (by simp only [ctC]; omega) (by simp only [ctC]; omega) (by simp only [ctC]; omega) (by simp only [ctC]; omega) (fun e => by have := room_block r0 e.symm; omega) (fun e => by have := room_block r2 e.symm; omega)]
    exact (b3.block b (by omega)).trans (y0.block b h1 h2)⟩
  have kf : Kps L2 wy W := ⟨by omega, fun b h1 h2 => by
    rw [hL.fr b (by simp only [ctC]; omega) (by simp only [ctC]; omega) (by simp only [ctC]; omega) (by simp only [ctC]; omega) (fun e => by have := room_block r0 e.symm; omega) (fun e => by have := room_block r2 e.symm; omega)]
    exact b3.block b h2⟩
  have hb := bX_at (heap_on h.h22 low)
  obtain ⟨xa, xc, rfl, sx⟩ := sl_of_own hL.oX (by intro r hr; obtain ⟨z, _, rfl⟩ := List.mem_map.1 hr; rfl) (by simp [ctC]) (by simp only [ctC]; omega)
  obtain ⟨ya, yc, rfl, sy⟩ := sl_of_own hL.oY (by intro r hr; obtain ⟨z, _, rfl⟩ := List.mem_map.1 hr; rfl) (by simp [ctC]) (by simp only [ctC]; omega)
  obtain ⟨ga, gc, rfl, sg⟩ := sl_of_own hL.oG (by intro r hr; obtain ⟨z, _, rfl⟩ := List.mem_map.1 hr; rfl) (by simp) (by omega)
  refine ⟨xa, xc, ya, yc, ga, gc, rfl, rfl, rfl, ⟨⟨sx, ?_⟩, keepE h.xAt.2.1 x2 kx, keepF h.xAt.2.2 x3 kx⟩, ⟨keepU y1 y3 ky, keepE y2 y4 ky, ⟨sy, ?_⟩⟩, Sl.nil, Sl.nil, ⟨sg, rep_at hb _⟩⟩
  · intro x hx
    rcases List.mem_append.1 hx with hx | hx
    · exact (h.xAt.1.2 x hx).keep (x1 x hx) kx
    · rw [List.eq_of_mem_replicate hx]; exact Sl.nil
  · intro x hx
    rcases List.mem_append.1 hx with hx | hx
    · exact (h.yAt.2.2.2 x hx).keep (y5 x hx) kf
    · rw [List.eq_of_mem_replicate hx]
      refine ⟨Sl.nil, Sl.nil, ⟨⟨?_, by show 1 ≤ 1048576; decide, .inr ⟨b43, 0, rfl, Nat.lt_of_lt_of_le (Array.getElem?_eq_some_iff.1 h.h43).1 low.size, fun j r i v hj hi => ?_⟩⟩, fun x hx => ?_⟩⟩
      · intro r hr
        cases List.mem_singleton.1 hr
        rfl
      · obtain rfl : j = 0 := by
          have := (List.getElem?_eq_some_iff.1 hj).1
          simpa [fX] using this
        simp [fX] at hj
        subst hj
        rw [cell_at (heap_on h.h43 low), show 0 + 0 * 11 + i = i by omega]
        have hi' : (#[.int .i64 0, .string ⟨#[98]⟩, .slice none 0 0, .int .i64 0, .int .i64 1, .string ⟨#[]⟩, .slice none 0 0, .string ⟨#[]⟩, .slice none 0 0, .slice (some ⟨b22, 0, none⟩) 1 1, .slice none 0 0] : Array Value).toList[i]? = some v := hi
        rwa [Array.getElem?_toList] at hi'
      · cases List.mem_singleton.1 hx
        exact hb
end
end Go.Proofs.YtlppbgmcoknliaaGreatDoor
