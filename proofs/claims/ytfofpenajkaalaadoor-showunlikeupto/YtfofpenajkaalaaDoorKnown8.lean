/-
  What known of package pasternlaw8 answers: true.
-/
import Derived.Test.YtfofpenajkaalaaDoorKnownM
namespace Go.Proofs.YtfofpenajkaalaaDoor
open Go.RowKit Go.Shelf

set_option maxRecDepth 100000 in
set_option maxHeartbeats 4000000 in
theorem known8_c (w : World) (hV : Vars w) : Calls Tryd.prog 5 #[] w fun r w' => r = .returned (.bool true) ∧ Below w.heap.size w w' := by
  obtain ⟨W0, hW0⟩ : ∃ W0, W0 = ((((((w.alloc (.cells cellsX 26)).alloc (.cells #[.int .i64 8, .int .i64 0, .int .i64 0, .string ⟨#[]⟩, .string ⟨#[]⟩, .string ⟨#[]⟩, .slice (some ⟨w.heap.size, 0, none⟩) 2 2] 26)).alloc (.cells #[.string ⟨#[116]⟩, .string ⟨#[117]⟩] 9)).alloc (.cells #[.string ⟨#[116]⟩] 9)).alloc (.cells #[.string ⟨#[117]⟩] 9)).alloc (.cells (cellsE w.heap.size) 42)).alloc (.cells #[.slice (some ⟨w.heap.size + 1 + 1 + 1 + 1 + 1, 0, none⟩) 3 3, .int .i64 7, .string ⟨#[105, 100]⟩, .bool true] 29) := ⟨_, rfl⟩
  have b0 : Below w.heap.size w W0 := by
    rw [hW0]
    exact (((((((Below.refl _ _).alloc (Nat.le_refl _) _).alloc (by simp) _).alloc (by simp; omega) _).alloc (by simp; omega) _).alloc (by simp; omega) _).alloc (by simp; omega) _).alloc (by simp; omega) _
  have hx : Box W0 w.heap.size 26 cellsX := by rw [hW0]; exact ((((((Box.new w 26 cellsX).alloc _).alloc _).alloc _).alloc _).alloc _).alloc _
  have bx : Box W0 (w.heap.size + 1) 26 (Dat.cs ⟨8, 0, 0, tx [], tx [], tx []⟩ (some ⟨w.heap.size, 0, none⟩) 2 2) := by
    have := ((((((Box.new (w.alloc (.cells cellsX 26)) 26 (Dat.cs ⟨8, 0, 0, tx [], tx [], tx []⟩ (some ⟨w.heap.size, 0, none⟩) 2 2)).alloc (.cells #[.string ⟨#[116]⟩, .string ⟨#[117]⟩] 9)).alloc (.cells #[.string ⟨#[116]⟩] 9)).alloc (.cells #[.string ⟨#[117]⟩] 9)).alloc (.cells (cellsE w.heap.size) 42)).alloc (.cells #[.slice (some ⟨w.heap.size + 1 + 1 + 1 + 1 + 1, 0, none⟩) 3 3, .int .i64 7, .string ⟨#[105, 100]⟩, .bool true] 29))
    simp only [World.size_alloc] at this
    rw [hW0]; exact this
  have bat : ∀ (A : World) (t : TypeId) (cs : Array Value), Box (A.alloc (.cells cs t)) A.heap.size t cs := fun A t cs => Box.new A t cs
  have h1 : Box W0 (w.heap.size + 1 + 1) 9 #[.string ⟨#[116]⟩, .string ⟨#[117]⟩] := by
    rw [hW0]
    refine Box.alloc (Box.alloc (Box.alloc (Box.alloc ?_ _) _) _) _
    have := bat ((w.alloc (.cells cellsX 26)).alloc (.cells #[.int .i64 8, .int .i64 0, .int .i64 0, .string ⟨#[]⟩, .string ⟨#[]⟩, .string ⟨#[]⟩, .slice (some ⟨w.heap.size, 0, none⟩) 2 2] 26)) 9 #[.string ⟨#[116]⟩, .string ⟨#[117]⟩]
    simp only [World.size_alloc] at this
    exact this
  have h2 : Box W0 (w.heap.size + 1 + 1 + 1) 9 #[.string ⟨#[116]⟩] := by
    rw [hW0]
    refine Box.alloc (Box.alloc (Box.alloc ?_ _) _) _
    have := bat (((w.alloc (.cells cellsX 26)).alloc (.cells #[.int .i64 8, .int .i64 0, .int .i64 0, .string ⟨#[]⟩, .string ⟨#[]⟩, .string ⟨#[]⟩, .slice (some ⟨w.heap.size, 0, none⟩) 2 2] 26)).alloc (.cells #[.string ⟨#[116]⟩, .string ⟨#[117]⟩] 9)) 9 #[.string ⟨#[116]⟩]
    simp only [World.size_alloc] at this
    exact this
  have h3 : Box W0 (w.heap.size + 1 + 1 + 1 + 1) 9 #[.string ⟨#[117]⟩] := by
    rw [hW0]
    refine Box.alloc (Box.alloc ?_ _) _
    have := bat ((((w.alloc (.cells cellsX 26)).alloc (.cells #[.int .i64 8, .int .i64 0, .int .i64 0, .string ⟨#[]⟩, .string ⟨#[]⟩, .string ⟨#[]⟩, .slice (some ⟨w.heap.size, 0, none⟩) 2 2] 26)).alloc (.cells #[.string ⟨#[116]⟩, .string ⟨#[117]⟩] 9)).alloc (.cells #[.string ⟨#[116]⟩] 9)) 9 #[.string ⟨#[117]⟩]
    simp only [World.size_alloc] at this
    exact this
  have he : Box W0 (w.heap.size + 1 + 1 + 1 + 1 + 1) 42 (cellsE w.heap.size) := by
    rw [hW0]
    refine Box.alloc ?_ _
    have := bat (((((w.alloc (.cells cellsX 26)).alloc (.cells #[.int .i64 8, .int .i64 0, .int .i64 0, .string ⟨#[]⟩, .string ⟨#[]⟩, .string ⟨#[]⟩, .slice (some ⟨w.heap.size, 0, none⟩) 2 2] 26)).alloc (.cells #[.string ⟨#[116]⟩, .string ⟨#[117]⟩] 9)).alloc (.cells #[.string ⟨#[116]⟩] 9)).alloc (.cells #[.string ⟨#[117]⟩] 9)) 42 (cellsE w.heap.size)
    simp only [World.size_alloc] at this
    exact this
  have bp : Box W0 (w.heap.size + 1 + 1 + 1 + 1 + 1 + 1) 29 #[.slice (some ⟨w.heap.size + 1 + 1 + 1 + 1 + 1, 0, none⟩) 3 3, .int .i64 7, .string ⟨#[105, 100]⟩, .bool true] := by
    rw [hW0]
    have := bat ((((((w.alloc (.cells cellsX 26)).alloc (.cells #[.int .i64 8, .int .i64 0, .int .i64 0, .string ⟨#[]⟩, .string ⟨#[]⟩, .string ⟨#[]⟩, .slice (some ⟨w.heap.size, 0, none⟩) 2 2] 26)).alloc (.cells #[.string ⟨#[116]⟩, .string ⟨#[117]⟩] 9)).alloc (.cells #[.string ⟨#[116]⟩] 9)).alloc (.cells #[.string ⟨#[117]⟩] 9)).alloc (.cells (cellsE w.heap.size) 42)) 29 #[.slice (some ⟨w.heap.size + 1 + 1 + 1 + 1 + 1, 0, none⟩) 3 3, .int .i64 7, .string ⟨#[105, 100]⟩, .bool true]
    simp only [World.size_alloc] at this
    exact this
  have row := row_kP hx h1 h2 h3 he
  have hE : Ems W0.heap.size W0 (some ⟨w.heap.size + 1 + 1 + 1 + 1 + 1, 0, none⟩) kP.es := ⟨by simp [kP], .inr ⟨_, 0, placeK w.heap.size, rfl, he.lt, fun j e hj => ⟨(row j e hj).1, (row j e hj).2.1⟩⟩⟩
  have hK : EmsK W0.heap.size W0 (some ⟨w.heap.size + 1 + 1 + 1 + 1 + 1, 0, none⟩) kP.es := .inr ⟨_, 0, placeK w.heap.size, rfl, he.lt, row⟩
  have hL := lies_kX hx
  have hV0 := hV.on b0
  clear row bat h1 h2 h3 he hx
  go_enter Tryd.func5, Tryd.ntmps5
  go_upto_region 3 with fail
  rw [← hW0]
  clear hW0
  obtain ⟨x0, x1, x2, x3, x4, x5, x6⟩ := bx.seven
  have cX := hide (faceE_c ⟨8, 0, 0, tx [], tx [], tx []⟩ 2 (some ⟨w.heap.size, 0, none⟩) [kL, kR] bnd_kX W0 hL hV0)
  have HX := hide exprB_kX
  go_wp2_with fail
  refine (unhide cX).mono ?_
  rintro r W1 ⟨rfl, hb1⟩
  clear cX
  rw [show exprB (Tree.mk ⟨8, 0, 0, tx [], tx [], tx []⟩ [kL, kR]) = _ from unhide HX]
  have b1 := b0.trans (hb1.mono b0.size)
  have c1 := hide (faceV_c 2 0 ⟨#[113, 34]⟩ (by decide) (by decide) (by decide) W1 (hV.on b1))
  rw [valB_k] at c1
  go_wp2_with fail
  refine (unhide c1).mono ?_
  rintro r W2 ⟨rfl, hb2⟩
  clear c1
  have b2 := b1.trans (hb2.mono b1.size)
  have c2 := hide (faceV_c 0 0 ⟨#[]⟩ (by decide) (by decide) (by decide) W2 (hV.on b2))
  rw [valB_0] at c2
  go_wp2_with fail
  refine (unhide c2).mono ?_
  rintro r W3 ⟨rfl, hb3⟩
  clear c2
  have b3 := b2.trans (hb3.mono b2.size)
  have b03 : Below W0.heap.size W0 W3 := (hb1.trans (hb2.mono hb1.size)).trans (hb3.mono (hb1.trans (hb2.mono hb1.size)).size)
  have bp3 := bp.on b03 bp.lt
  obtain ⟨p0, p1, p2, p3⟩ := bp3.four
  have c3 := hide (faceP_c kP (some ⟨w.heap.size + 1 + 1 + 1 + 1 + 1, 0, none⟩) 3 (by simp [kP]) bnd_kP W3 (hE.on b03) (hK.on b03) (hV.on b3))
  rw [pattB_kP] at c3
  go_wp2_with fail
  refine (unhide c3).mono ?_
  rintro r W4 ⟨rfl, hb4⟩
  clear c3
  have b4 := b3.trans (hb4.mono b3.size)
  have c4 := hide (faceP_c kO none 0 (by simp [kO]) (by simp [kO]) W4 ⟨by simp [kO], .inl rfl⟩ (.inl rfl) (hV.on b4))
  rw [pattB_kO] at c4
  go_wp2_with fail
  refine (unhide c4).mono ?_
  rintro r W5 ⟨rfl, hb5⟩
  go_wp2_with fail
  go_ret
  exact ⟨rfl, b4.trans (hb5.mono b4.size)⟩

end Go.Proofs.YtfofpenajkaalaaDoor
