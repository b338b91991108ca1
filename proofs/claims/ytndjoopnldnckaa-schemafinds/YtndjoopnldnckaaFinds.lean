/-
  Proved: for every schema and every name the call of SchemaFinds returns true, and they read behind it as they read before; no condition.
-/
import Derived.Test.YtndjoopnldnckaaKnown
import Derived.Deep.CutRange
import Derived.Deep.DeepCutAuto
import Derived.Lib.QuietBelow
namespace Go.Proofs.Ytndjoopnldnckaa.schemaFinds
open Go.RowKit Go.Shelf

theorem is_facts {ts : List Ty} (h : isS ts = true) : ts.length ≤ 5 ∧ (bytesOf (tnames ts)).Nodup ∧ ∀ k, k < ts.length → (ty ts k).2.length ≤ 5 ∧ (bytesOf (fnames (ty ts k).2)).Nodup := by
  unfold isS at h
  simp only [Bool.and_eq_true, decide_eq_true_eq, Bool.not_eq_true'] at h
  obtain ⟨⟨⟨h1, _⟩, h3⟩, h4⟩ := h
  refine ⟨h1, rise_nodup h3, fun k hk => ?_⟩
  have hb : badF (ty ts k).2 = false := by
    unfold anyBadT at h4
    rw [List.any_eq_false] at h4
    have := h4 (ty ts k) (by simp [ty, hk])
    simpa using this
  unfold badF at hb
  simp only [Bool.or_eq_false_iff, decide_eq_false_iff_not, Bool.not_eq_false'] at hb
  exact ⟨by omega, (rise_sort _).1 hb.1.2⟩

theorem tx_ty (ts : List Ty) (k : Nat) (hk : k < ts.length) : tx (tnames ts) k = (ty ts k).1.1 := by simp [tx, ty, tnames, hk]
theorem tx_fd (fs : List Fd) (k : Nat) (hk : k < fs.length) : tx (fnames fs) k = (fd fs k).1.1 := by simp [tx, fd, fnames, hk]

theorem meetA {wr w3 : World} (s : ByteArray) {a3 : Option Addr} (c3 : Nat) {fs : List Fd} (s3 : Flds w3.heap.size w3 a3 fs) (hb3 : Below wr.drew.heap.size wr.drew w3) :
    (w3.alloc (.cells #[.string s, .slice a3 fs.length c3] 29)).cell? ⟨w3.heap.size, 0, none⟩ = some (.string s) ∧ (w3.alloc (.cells #[.string s, .slice a3 fs.length c3] 29)).cell? ⟨w3.heap.size, 1, none⟩ = some (.slice a3 fs.length c3) ∧
      Flds (w3.alloc (.cells #[.string s, .slice a3 fs.length c3] 29)).heap.size (w3.alloc (.cells #[.string s, .slice a3 fs.length c3] 29)) a3 fs ∧ Below wr.heap.size wr (w3.alloc (.cells #[.string s, .slice a3 fs.length c3] 29)) :=
  ⟨by simp, by simp, s3.on ((Below.refl _ _).alloc (Nat.le_refl _) _), ((Below.refl _ _).drew.trans hb3).alloc hb3.size _⟩

theorem meetB {wr w3 : World} (s : ByteArray) {a3 : Option Addr} (c3 : Nat) {fs : List Fd} {o : Obj} (s3 : Flds w3.heap.size w3 a3 fs ∧ ∀ ad, a3 = some ad → wr.heap.size + 1 ≤ ad.block) (hb3 : Below (wr.heap.size + 1) (wr.alloc o).drew w3)
    (h1 : w3.cell? ⟨wr.heap.size, 0, none⟩ = some (.string ⟨#[]⟩)) (h2 : w3.cell? ⟨wr.heap.size, 1, none⟩ = some (.slice none 0 0)) :
    ((w3.setCell ⟨wr.heap.size, 0, none⟩ (.string s)).setCell ⟨wr.heap.size, 1, none⟩ (.slice a3 fs.length c3)).cell? ⟨wr.heap.size, 0, none⟩ = some (.string s) ∧ ((w3.setCell ⟨wr.heap.size, 0, none⟩ (.string s)).setCell ⟨wr.heap.size, 1, none⟩ (.slice a3 fs.length c3)).cell? ⟨wr.heap.size, 1, none⟩ = some (.slice a3 fs.length c3) ∧
      Flds ((w3.setCell ⟨wr.heap.size, 0, none⟩ (.string s)).setCell ⟨wr.heap.size, 1, none⟩ (.slice a3 fs.length c3)).heap.size ((w3.setCell ⟨wr.heap.size, 0, none⟩ (.string s)).setCell ⟨wr.heap.size, 1, none⟩ (.slice a3 fs.length c3)) a3 fs ∧
      Below wr.heap.size wr ((w3.setCell ⟨wr.heap.size, 0, none⟩ (.string s)).setCell ⟨wr.heap.size, 1, none⟩ (.slice a3 fs.length c3)) := by
  obtain ⟨e1, e2⟩ := two_set (v0 := .string s) (v1 := .slice a3 fs.length c3) h1 h2
  refine ⟨e1, e2, ?_, ?_⟩
  · have := (s3.1.set ⟨wr.heap.size, 0, none⟩ (.string s) (fun ad e => by have := s3.2 ad e; simp only; omega)).set ⟨wr.heap.size, 1, none⟩ (.slice a3 fs.length c3) (fun ad e => by have := s3.2 ad e; simp only; omega)
    simpa using this
  · have b : Below wr.heap.size wr w3 := (((Below.refl _ _).alloc (Nat.le_refl _) o).drew).trans (hb3.mono (Nat.le_succ _))
    exact (b.setCell (p := ⟨wr.heap.size, 0, none⟩) (Nat.le_refl _) _).setCell (p := ⟨wr.heap.size, 1, none⟩) (Nat.le_refl _) _

set_option maxRecDepth 100000 in
set_option maxHeartbeats 4000000 in
theorem walk (a : Option Addr) (cap : Nat) (nm : ByteArray) (ts : List Ty) (w : World) (hT : Typs w.heap.size w a ts) (hm : ts.length ≤ maxLen) (hcap : ts.length ≤ cap) :
    Calls Try.prog 4 #[.agg #[.slice a ts.length cap], .string nm] w fun e w' => e = .returned (.bool true) ∧ Below w.heap.size w w' := by
  have b0 : Below w.heap.size w (w.alloc (.cells #[.slice a ts.length cap] 25)) := (Below.refl _ _).alloc (Nat.le_refl _) _
  have hbox : ∀ W, Below (w.heap.size + 1) (w.alloc (.cells #[.slice a ts.length cap] 25)) W → W.cell? ⟨w.heap.size, 0, none⟩ = some (.slice a ts.length cap) := fun W hb => (hb.cell (p := ⟨w.heap.size, 0, none⟩) (by simp)).trans (by simp)
  cases hi : isS ts
  · go_enter Try.func4, Try.ntmps4
    go_wp2_with fail
    refine (known5 _).mono ?_
    rintro e w1 ⟨rfl, hb1⟩
    have hc1 := hbox w1 (hb1.mono (by simp))
    have b1 := b0.trans (hb1.mono b0.size)
    go_wp2_with fail
    refine (is6 a cap ts hm _ (hT.on b1)).mono ?_
    rintro e w2 ⟨rfl, hb2⟩
    rw [hi]
    go_wp2_with fail
    go_ret
    exact ⟨rfl, b1.trans (hb2.mono b1.size)⟩
  · by_cases hl : 40 < nm.size
    · have hl' : (40 : Int) < nm.size := by omega
      go_enter Try.func4, Try.ntmps4
      go_wp2_with fail
      refine (known5 _).mono ?_
      rintro e w1 ⟨rfl, hb1⟩
      have hc1 := hbox w1 (hb1.mono (by simp))
      have b1 := b0.trans (hb1.mono b0.size)
      go_wp2_with fail
      refine (is6 a cap ts hm _ (hT.on b1)).mono ?_
      rintro e w2 ⟨rfl, hb2⟩
      rw [hi]
      go_wp2_with fail
      go_ret
      exact ⟨rfl, b1.trans (hb2.mono b1.size)⟩
    · have hl' : ¬ (40 : Int) < nm.size := by omega
      obtain ⟨h5, hnd, heach⟩ := is_facts hi
      have heach := hide heach
      have hnd := hide hnd
      go_enter Try.func4, Try.ntmps4
      go_wp2_with fail
      refine (known5 _).mono ?_
      rintro e w1 ⟨rfl, hb1⟩
      have hc1 := hbox w1 (hb1.mono (by simp))
      have b1 := b0.trans (hb1.mono b0.size)
      go_wp2_with fail
      refine (is6 a cap ts hm _ (hT.on b1)).mono ?_
      rintro e w2 ⟨rfl, hb2⟩
      rw [hi]
      have b2 := b1.trans (hb2.mono b1.size)
      have k2 : Below (w.heap.size + 1) (w.alloc (.cells #[.slice a ts.length cap] 25)) w2 := (hb1.trans (hb2.mono hb1.size)).mono (by simp)
      clear hc1
      go_wp2_with fail
      go_loopw [5, 6] (fun m i wr => ∃ k : Nat, k ≤ ts.length ∧ i = .int .i64 k ∧ m = .bool (((tnames ts).take k).any (eqT nm)) ∧ Below w.heap.size w wr ∧ Below (w.heap.size + 1) (w.alloc (.cells #[.slice a ts.length cap] 25)) wr) (fun _ i _ => ts.length - (intOf i).toNat)
      case atStart => exact ⟨0, Nat.zero_le _, rfl, rfl, b2, k2⟩
      case round =>
        obtain ⟨k, hk, rfl, rfl, hbw, hkw⟩ := hrel
        have hcb := hbox wr hkw
        by_cases hlt : k < ts.length
        · have hTw := hT.on hbw
          rcases hTw with rfl | ⟨b, off, rfl, hb, hc⟩
          · simp at hlt
          obtain ⟨g1, a', c', g2, g3, g4⟩ := hc k hlt
          clear hc
          have hTs : ∀ W, Below wr.heap.size wr W → Typs W.heap.size W (some ⟨b, off, none⟩) ts := fun W h => (hT.on hbw).on h
          obtain ⟨hk5, hfn⟩ := unhide heach k hlt
          have hp : placeN (tnames ts) (ty ts k).1.1 = some k := by
            have := place_self (unhide hnd) k (by rw [tnames_len]; exact hlt)
            rwa [tx_ty ts k hlt] at this
          have hp := hide hp
          have hfn := hide hfn
          go_wp2_with fail
          go_upto_region 9 with fail
          go_cut [7, 8] (fun t ok wx => ∃ Bt a2 c2, t = .pointer (some ⟨Bt, 0, none⟩) ∧ ok = .bool true ∧ wx.cell? ⟨Bt, 0, none⟩ = some (.string (ty ts k).1.1) ∧ wx.cell? ⟨Bt, 1, none⟩ = some (.slice a2 (ty ts k).2.length c2) ∧ Flds wx.heap.size wx a2 (ty ts k).2 ∧ Below wr.heap.size wr wx)
          case first =>
            clear hT
            have cA := (find7_some (some ⟨b, off, none⟩) cap ts (ty ts k).1.1 k h5 (wr.alloc (.cells #[.string ⟨#[]⟩, .slice none 0 0] 29)).drew (hTs _ ((Below.refl _ _).alloc (Nat.le_refl _) _).drew) (unhide hp) hk5).mono (R' := fun e w' => ∃ a' c', e = .returned (.tuple #[.agg #[.string (ty ts k).1.1, .slice a' (ty ts k).2.length c'], .bool true]) ∧ (Flds w'.heap.size w' a' (ty ts k).2 ∧ ∀ ad, a' = some ad → wr.heap.size + 1 ≤ ad.block) ∧ Below (wr.heap.size + 1) (wr.alloc (.cells #[.string ⟨#[]⟩, .slice none 0 0] 29)).drew w' ∧ w'.cell? ⟨wr.heap.size, 0, none⟩ = some (.string ⟨#[]⟩) ∧ w'.cell? ⟨wr.heap.size, 1, none⟩ = some (.slice none 0 0) ∧ w'.frozen? ⟨wr.heap.size, 0, none⟩ = false ∧ w'.frozen? ⟨wr.heap.size, 1, none⟩ = false) (by
                rintro e w' ⟨a3, c3, rfl, s3, hb3⟩
                exact ⟨a3, c3, rfl, ⟨s3.1, fun ad e => by have := s3.2 ad e; simpa using this⟩, hb3.mono (by simp), (hb3.cell (p := ⟨wr.heap.size, 0, none⟩) (by simp)).trans (by simp), (hb3.cell (p := ⟨wr.heap.size, 1, none⟩) (by simp)).trans (by simp), (hb3.frozen (p := ⟨wr.heap.size, 0, none⟩) (by simp)).trans (by simp), (hb3.frozen (p := ⟨wr.heap.size, 1, none⟩) (by simp)).trans (by simp)⟩)
            have cB := find7_some (some ⟨b, off, none⟩) cap ts (ty ts k).1.1 k h5 wr.drew (hTs _ (Below.refl _ _).drew) (unhide hp) hk5
            have hcb' : ∀ o, (wr.alloc o).cell? ⟨w.heap.size, 0, none⟩ = some (.slice (some ⟨b, off, none⟩) ts.length cap) := fun o => (cell_old wr o _ (cell_lt hcb)).trans hcb
            have g1' : ∀ o, (wr.alloc o).cell? ⟨b, off + k * 2, none⟩ = some (.string (ty ts k).1.1) := fun o => (cell_old wr o _ (cell_lt g1)).trans g1
            have cA := hide cA
            have cB := hide cB
            go_region_with (go_at_call 7; first | (refine (unhide cB).mono ?_; rintro e w3 ⟨a3, c3, rfl, s3, hb3⟩) | (refine (unhide cA).mono ?_; rintro e w3 ⟨a3, c3, rfl, s3, hb3, hx1, hx2, hx3, hx4⟩))
            all_goals
              go_wp2_with fail
              go_meet
              case rel =>
                first
                | exact ⟨_, a3, c3, rfl, rfl, meetA _ c3 s3.1 hb3⟩
                | exact ⟨_, a3, c3, rfl, rfl, meetB _ c3 s3 hb3 hx1 hx2⟩
          case rest =>
            obtain ⟨Bt, a2, c2, rfl, rfl, ht1, ht2, hF2, hbc⟩ := hcut
            have hfl := hide hF2
            clear hF2
            have hcb2 : wc.cell? ⟨w.heap.size, 0, none⟩ = some (.slice (some ⟨b, off, none⟩) ts.length cap) := (hbc.cell (p := ⟨w.heap.size, 0, none⟩) (cell_lt hcb)).trans hcb
            have hg1 : wc.cell? ⟨b, off + k * 2, none⟩ = some (.string (ty ts k).1.1) := (hbc.cell (p := ⟨b, off + k * 2, none⟩) hb).trans g1
            have hg2 : wc.cell? ⟨b, off + k * 2 + 1, none⟩ = some (.slice a' (ty ts k).2.length c') := (hbc.cell (p := ⟨b, off + k * 2 + 1, none⟩) hb).trans g2
            have hn5 : ((ty ts k).2.length : Int) ≤ 5 := by omega
            clear g1 g2 g3 g4 hTs hp hcb
            go_wp2_with fail
            go_quiet (fail)
            go_wp2_with fail
            have hmx : Try.prog.follows .mixedOrders = true := by kernel_rfl
            go_loopw [9] (fun i wj => ∃ j : Nat, j ≤ (ty ts k).2.length ∧ i = .int .i64 j ∧ Below wc.heap.size wc wj) (fun i _ => (ty ts k).2.length - (intOf i).toNat)
            case atStart => exact ⟨0, Nat.zero_le _, rfl, below_dn (Below.refl _ _) _⟩
            case round =>
              obtain ⟨j, hj, rfl, hbj⟩ := hrel
              have hd1 : wr.cell? ⟨Bt, 0, none⟩ = some (.string (ty ts k).1.1) := (hbj.cell (p := ⟨Bt, 0, none⟩) (cell_lt ht1)).trans ht1
              have hd2 : wr.cell? ⟨Bt, 1, none⟩ = some (.slice a2 (ty ts k).2.length c2) := (hbj.cell (p := ⟨Bt, 1, none⟩) (cell_lt ht2)).trans ht2
              by_cases hjl : j < (ty ts k).2.length
              · have hFj := (unhide hfl).on hbj
                have hpj : placeI (fnames (ty ts k).2) (fd (ty ts k).2 j).1.1 = j := by
                  have := place_self (unhide hfn) j (by rw [fnames_len]; exact hjl)
                  rw [tx_fd _ j hjl] at this
                  simp [placeI, this]
                have cF : ∀ d os, Calls Try.prog 8 #[.agg #[.string (ty ts k).1.1, .slice a2 (ty ts k).2.length c2], .string (fd (ty ts k).2 j).1.1] (Sort.grow (redrawn wr d) os) fun e w' => e = .returned (.int .i64 j) ∧ Below (Sort.grow (redrawn wr d) os).heap.size (Sort.grow (redrawn wr d) os) w' := fun d os => by
                  have := field8 (ty ts k).1.1 (fd (ty ts k).2 j).1.1 a2 c2 (ty ts k).2 hk5 _ (hFj.on (below_regrown wr d os))
                  rwa [hpj] at this
                have cF := hide cF
                rcases hFj with h0 | ⟨b2, o2, rfl, hb2', hc2⟩
                · rw [h0] at hjl; simp at hjl
                have hm1 := (hc2 j hjl).1
                clear hc2
                go_wp2_with fail
                have gd1 := cell_regrown hd1
                have gd2 := cell_regrown hd2
                have gm1 := cell_regrown hm1
                refine wp_region_quiet_below (by assumption) (by kernel_rfl) ?_
                repeat (quiet_step (first | (go_at_call 8; exact Calls.regrown_of (unhide cF _ _))))
                refine wpQuiet_nil ?_
                intro _ hw'
                obtain ⟨⟨dq, osq⟩, hw''⟩ := hw'
                subst hw''
                go_wp2_with fail
                go_roundw
                case rel => exact ⟨j + 1, by omega, by go_num, hbj.trans ((below_regrown wr dq osq).mono hbj.size)⟩
                case measure => simp [intOf]; omega
              · have hsucc := hide (show (tnames ts).take (k + 1) = (tnames ts).take k ++ [(ty ts k).1] by
                  have hk' : k < (tnames ts).length := by rw [tnames_len]; exact hlt
                  rw [List.take_succ_eq_append_getElem hk']
                  simp [tnames, ty, hlt])
                have hbr := hbc.trans (hbj.mono hbc.size)
                cases hmet : ((tnames ts).take k).any (eqT nm)
                · go_wp2_with fail
                  go_roundw
                  case rel => exact ⟨k + 1, by omega, by go_num, by rw [unhide hsucc, List.any_append, hmet]; simp [eqT], hbw.trans (hbr.mono hbw.size), hkw.trans (hbr.mono (by have := hkw.size; simp at this; omega))⟩
                  case measure => simp [intOf]; omega
                · go_wp2_with fail
                  go_roundw
                  case rel => exact ⟨k + 1, by omega, by go_num, by rw [unhide hsucc, List.any_append, hmet]; rfl, hbw.trans (hbr.mono hbw.size), hkw.trans (hbr.mono (by have := hkw.size; simp at this; omega))⟩
                  case measure => simp [intOf]; omega
        · have hke : (tnames ts).take k = tnames ts := List.take_of_length_le (by rw [tnames_len]; omega)
          have hsome := place_isSome (tnames ts) nm
          rw [hke]
          clear hke
          have hTw := hT.on hbw
          cases hp : placeN (tnames ts) nm with
          | none =>
            rw [hp] at hsome
            rw [← hsome]
            clear hsome
            go_wp2_with fail
            refine (find7_none a cap ts nm h5 _ hTw hp).mono ?_
            rintro e w3 ⟨rfl, hb3⟩
            go_wp2_with fail
            go_ret
            have b3 := hbw.trans (hb3.mono hbw.size)
            exact ⟨rfl, b3.alloc (Nat.le_trans hbw.size hb3.size) _⟩
          | some j =>
            have hj : j < ts.length := by have := placeN_lt hp; rwa [tnames_len] at this
            rw [hp] at hsome
            rw [← hsome]
            clear hsome
            go_wp2_with fail
            refine (find7_some a cap ts nm j h5 _ hTw hp (unhide heach j hj).1).mono ?_
            rintro e w3 ⟨a3, c3, rfl, _, hb3⟩
            go_wp2_with fail
            go_ret
            have b3 := hbw.trans (hb3.mono hbw.size)
            exact ⟨rfl, b3.alloc (Nat.le_trans hbw.size hb3.size) _⟩

end Go.Proofs.Ytndjoopnldnckaa.schemaFinds
