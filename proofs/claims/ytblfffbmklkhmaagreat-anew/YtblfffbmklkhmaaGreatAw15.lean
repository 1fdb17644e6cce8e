/- Own work. -/
import Derived.Test.YtblfffbmklkhmaaGreatAw9
import Derived.Test.YtblfffbmklkhmaaGreatAw14
import Derived.Deep.RegionHeld3
namespace Go.Proofs.YtblfffbmklkhmaaGreat
open Go.RowKit
/-- The digits are within bounds. -/
def PPt.fine (p : PPt) : Prop := (-48 ≤ p.st ∧ p.st ≤ 207) ∧ (-48 ≤ p.sr ∧ p.sr ≤ 207)
theorem place_fine (s : ByteArray) (i : Nat) : (placeOf s i).fine := by
  have h1 := bt_lt s (i + 1)
  have h2 := bt_lt s (i + 2)
  unfold placeOf
  (repeat' split) <;> (refine ⟨⟨?_, ?_⟩, ⟨?_, ?_⟩⟩ <;> simp <;> omega)
theorem simp_fine (s : ByteArray) (i : Nat) : (simpOf s i).fine := by
  unfold simpOf
  split
  · refine ⟨⟨?_, ?_⟩, ⟨?_, ?_⟩⟩ <;> simp
  · split
    · refine ⟨⟨?_, ?_⟩, ⟨?_, ?_⟩⟩ <;> simp
    · exact place_fine s _
theorem part_fine (s : ByteArray) (i : Nat) : (partOf s i).fine := by
  unfold partOf
  split
  · split
    · refine ⟨⟨?_, ?_⟩, ⟨?_, ?_⟩⟩ <;> simp
    · exact simp_fine s _
  · exact simp_fine s _
theorem parts_fine {s : ByteArray} : ∀ {ks : List PPt} {i j : Nat}, PartsAt s i j ks → ∀ p ∈ ks, p.fine
  | [], _, _, _ => fun p hp => by cases hp
  | _ :: _, _, _, ⟨_, _, h2, h3⟩ => fun p hp => by
    rcases List.mem_cons.1 hp with rfl | hp
    · rw [(good_fun h2).1]; exact part_fine s _
    · exact parts_fine h3 p hp
/-- A declaration's letters are bytes. -/
def PDc.fine (d : PDc) : Prop := (0 ≤ d.pr ∧ d.pr ≤ 255) ∧ (0 ≤ d.va ∧ d.va ≤ 255)
/-- The rules of a sheet in memory. -/
structure RsRow (w : World) (ar : Option Addr) (cr : Nat) (xs : List Value) (rs : List PRu) : Prop where
  row : w.ownsRow 0 138 3 (.slice ar rs.length cr) rs.length xs
  ruls : Ruls w 0 xs rs
  few : rs.length ≤ 400
  short : ∀ r ∈ rs, r.ss.length ≤ 400 ∧ ∀ cs ∈ r.ss, Short cs
  fine : ∀ r ∈ rs, ∀ cs ∈ r.ss, ∀ x ∈ cs, ∀ p ∈ x.ps, p.fine
  decl : ∀ r ∈ rs, r.ds.length ≤ 400 ∧ ∀ d ∈ r.ds, d.fine
theorem RsRow.below {w w' : World} {ar : Option Addr} {cr : Nat} {xs : List Value} {rs : List PRu} (h : RsRow w ar cr xs rs) (hB : Below w.heap.size w w') : RsRow w' ar cr xs rs :=
  ⟨own_below h.row hB, h.ruls.keep (fun _ _ => keeps_below hB _ _), h.few, h.short, h.fine, h.decl⟩
theorem comp_fine {s : ByteArray} {i j ty : Nat} {ks : List PPt} (h : CompAt s i j ty ks) : ∀ p ∈ ks, p.fine := by
  rcases h with ⟨_, _, h⟩ | ⟨_, _, _, h⟩ | ⟨_, _, _, h, _⟩ <;> exact parts_fine h
theorem selpre_fine {s : ByteArray} : ∀ {cs : List PCp} {i0 i j : Nat}, SelPre s i0 i j cs → ∀ x ∈ cs, ∀ p ∈ x.ps, p.fine
  | [], _, _, _, _ => fun x hx => by cases hx
  | y :: cs, _, i, j, ⟨l, h1, _, _, _, h5, _⟩ => fun x hx => by
    rcases List.mem_cons.1 hx with rfl | hx
    · exact comp_fine h1
    · exact selpre_fine h5 x hx
theorem sel_fine {s : ByteArray} {i j : Nat} {cs : List PCp} (h : SelAt s i j cs) : ∀ x ∈ cs, ∀ p ∈ x.ps, p.fine := by
  obtain ⟨pre, l, ty, ks, rfl, h2, h3, _⟩ := h
  intro x hx
  rcases List.mem_append.1 hx with hx | hx
  · exact selpre_fine h2 x hx
  · rw [List.mem_singleton] at hx
    subst hx
    exact comp_fine h3
theorem selspre_fine {s : ByteArray} : ∀ {ss : List (List PCp)} {i j : Nat}, SelsPre s i j ss → ∀ cs ∈ ss, ∀ x ∈ cs, ∀ p ∈ x.ps, p.fine
  | [], _, _, _ => fun x hx => by cases hx
  | cs :: ss, i, j, ⟨l, h1, _, _, h5⟩ => fun x hx => by
    rcases List.mem_cons.1 hx with rfl | hx
    · exact sel_fine h1
    · exact selspre_fine h5 x hx
theorem sels_fine {s : ByteArray} {i j : Nat} {ss : List (List PCp)} (h : SelsAt s i j ss) : ∀ cs ∈ ss, ∀ x ∈ cs, ∀ p ∈ x.ps, p.fine := by
  obtain ⟨pre, l, cs, rfl, h2, h3, _⟩ := h
  intro x hx
  rcases List.mem_append.1 hx with hx | hx
  · exact selspre_fine h2 x hx
  · rw [List.mem_singleton] at hx
    subst hx
    exact sel_fine h3
theorem decl_fine {s : ByteArray} {i j : Nat} {d : PDc} (h : DeclAt s i j d) : d.fine := by
  obtain ⟨_, h2, _, k, hv, _⟩ := h
  have b1 := bt_lt s i
  have b2 := bt_lt s (i + 2 + 1)
  refine ⟨by rw [h2]; omega, ?_⟩
  rcases hv with h | h | h | h | h
  · rw [h.2.2.2.1]; omega
  · rw [h.2.2.2.1]; omega
  · rw [h.2.2.2.1]; omega
  · rw [h.2.2.2.1]; omega
  · rw [h.2.2.1]; omega
theorem dcpre_fine {s : ByteArray} : ∀ {ds : List PDc} {i j : Nat}, DcPre s i j ds → i + ds.length ≤ j ∧ ∀ d ∈ ds, d.fine
  | [], _, _, h => ⟨by simp only [DcPre] at h; simp; omega, fun x hx => by cases hx⟩
  | d :: ds, i, j, ⟨l, h1, h2, _, h5⟩ => by
    obtain ⟨a, b⟩ := dcpre_fine h5
    refine ⟨by rw [List.length_cons]; omega, fun x hx => ?_⟩
    rcases List.mem_cons.1 hx with rfl | hx
    · exact decl_fine h1
    · exact b x hx
theorem blk_fine {s : ByteArray} {i j : Nat} {ds : List PDc} (h : BlkAt s i j ds) (hj : j ≤ 400) : ds.length ≤ 400 ∧ ∀ d ∈ ds, d.fine := by
  rcases h.2 with ⟨_, rfl, _⟩ | ⟨_, k, ⟨pre, l, d, rfl, h2, h3, h4, _⟩, _, rfl⟩
  · exact ⟨by simp, fun x hx => by cases hx⟩
  · obtain ⟨a, b⟩ := dcpre_fine h2
    refine ⟨by simp; omega, fun x hx => ?_⟩
    rcases List.mem_append.1 hx with hx | hx
    · exact b x hx
    · rw [List.mem_singleton] at hx
      subst hx
      exact decl_fine h3
theorem ruls_fine {s : ByteArray} : ∀ {rs : List PRu} {i j : Nat}, RulsAt s i j rs → j ≤ 400 → (∀ r ∈ rs, ∀ cs ∈ r.ss, ∀ x ∈ cs, ∀ p ∈ x.ps, p.fine) ∧ ∀ r ∈ rs, r.ds.length ≤ 400 ∧ ∀ d ∈ r.ds, d.fine
  | [], _, _, _, _ => ⟨fun x hx => (by cases hx), fun x hx => by cases hx⟩
  | r :: rs, i, j, ⟨l, h1, h2, h5⟩, hj => by
    have hl := ruls_le h5
    obtain ⟨a, b⟩ := ruls_fine h5 hj
    obtain ⟨p, q, _, a2, _, _, _, _, _, a9⟩ := h1
    refine ⟨fun x hx => ?_, fun x hx => ?_⟩
    · rcases List.mem_cons.1 hx with rfl | hx
      · exact sels_fine a2
      · exact a x hx
    · rcases List.mem_cons.1 hx with rfl | hx
      · exact blk_fine a9 (by omega)
      · exact b x hx
def clsErr (T : Tree) (n : Int) (s : ByteArray) : Int := match tFind T n with | none => 5 | some _ => if isLetter s = false then 4 else 0
def namErr (T : Tree) (n : Int) (s : ByteArray) : Int := match tFind T n with | none => 5 | some _ => if s.size ≠ 0 ∧ isLetter s = false then 4 else 0
/-- A sheet that lies in the blocks G. -/
def SheetIn (w : World) (G : Nat → Prop) (v : Value) (rs : List PRu) : Prop :=
  ∃ (ar : Option Addr) (cr : Nat) (xs : List Value), v = .slice ar rs.length cr ∧ ∀ w' : World, (∀ k, G k → k < w.heap.size → w'.heap[k]? = w.heap[k]?) → RsRow w' ar cr xs rs
theorem SheetIn.keep {w w' : World} {G : Nat → Prop} {v : Value} {rs : List PRu} (h : SheetIn w G v rs) (hk : ∀ k, G k → k < w.heap.size → w'.heap[k]? = w.heap[k]?) (hz : w.heap.size ≤ w'.heap.size) : SheetIn w' G v rs := by
  obtain ⟨ar, cr, xs, hv, h⟩ := h
  exact ⟨ar, cr, xs, hv, fun w2 h2 => h w2 (fun k hg hl => (h2 k hg (by omega)).trans (hk k hg hl))⟩
theorem SheetIn.row {w : World} {G : Nat → Prop} {v : Value} {rs : List PRu} (h : SheetIn w G v rs) : ∃ (ar : Option Addr) (cr : Nat) (xs : List Value), v = .slice ar rs.length cr ∧ RsRow w ar cr xs rs := by
  obtain ⟨ar, cr, xs, hv, h⟩ := h
  exact ⟨ar, cr, xs, hv, h w (fun _ _ _ => rfl)⟩
theorem chk_400 {s : ByteArray} (h : (chk s).1 = 0) : s.size ≤ 400 := by
  unfold chk at h
  split at h
  · cases h
  · omega
/-- Out of what Read tells. -/
theorem sheet_in {w w' : World} {s : ByteArray} {a : Option Addr} {n c : Nat} {rs : List PRu} {xs : List Value} (hc : (chk s).1 = 0) (hn : n = rs.length) (ho : w'.ownsRow w.heap.size 138 3 (.slice a n c) n xs) (hr : Ruls w' w.heap.size xs rs) (ht : RulsAt s 0 s.size rs) : SheetIn w' (fun k => w.heap.size ≤ k ∧ k < w'.heap.size) (.slice a n c) (sheetOf s) := by
  have h4 := chk_400 hc
  rw [sheet_fun h4 ht]
  subst hn
  obtain ⟨hl, hs⟩ := ruls_short ht h4
  obtain ⟨hf, hd⟩ := ruls_fine ht h4
  refine ⟨a, c, xs, rfl, fun w2 h2 => ?_⟩
  have hk : ∀ e, Keeps w' w2 w.heap.size e := fun e g cur hg hh => by
    have hgl := (Array.getElem?_eq_some_iff.1 hh).1
    exact (h2 g ⟨hg, hgl⟩ hgl).trans hh
  exact ⟨own_mono ((hk _).owns ho) (Nat.zero_le _), (hr.keep (fun e _ => hk e)).mono (Nat.zero_le _), by omega, hs, hf, hd⟩
end Go.Proofs.YtblfffbmklkhmaaGreat

namespace Go.Proofs.YtblfffbmklkhmaaGreat
open Go.RowKit
section
set_option maxRecDepth 100000
set_option maxHeartbeats 4000000
variable (w : World) (b : Nat) (a : Option Addr) (c : Nat) (els : List PEl) (n : Int)
theorem psimple_any (nt : Bool) (kd lt st sr : Int) (h : TRd w b a c els) (hp : PPt.fine ⟨nt, kd, lt, st, sr⟩) : Calls Tryz.prog 221 #[.agg #[.bool nt, .int .i64 kd, .int .u8 lt, .int .i64 st, .int .i64 sr], .pointer (some ⟨b, 1, none⟩), .int .i64 n] w fun e w' => PBool w (simpP els ⟨nt, kd, lt, st, sr⟩ n) e w' := by
  have HT : Hid (TRd (w.alloc (.cells #[.bool nt, .int .i64 kd, .int .u8 lt, .int .i64 st, .int .i64 sr] 192)) b a c els) := h.below ((Below.refl _ _).alloc (Nat.le_refl _) _)
  have HF : Hid (PPt.fine ⟨nt, kd, lt, st, sr⟩) := hp
  have hfew := h.few
  have hhl := aheadP_len els n
  have HB : Hid (∀ (r : Bool) w1, simpP els ⟨nt, kd, lt, st, sr⟩ n = r → Below (w.heap.size + 1) (w.alloc (.cells #[.bool nt, .int .i64 kd, .int .u8 lt, .int .i64 st, .int .i64 sr] 192)) w1 → PBool w (simpP els ⟨nt, kd, lt, st, sr⟩ n) (.returned (.bool r)) w1) := fun r w1 hr hb => ⟨by rw [hr], ((Below.refl _ _).alloc (Nat.le_refl _) _).trans (hb.mono (by omega))⟩
  have HS : Hid (simpP els ⟨nt, kd, lt, st, sr⟩ n = if kd = 1 then hasTypeP els n lt else if kd = 2 then hasClassP els n lt else if kd = 3 then hasNameP els n lt
    else if kd = 4 then decide (((aheadP els n).length : Int) + 1 = 1) else if kd = 5 then lastP els n else if kd = 6 then emptyP els n
    else if kd = 7 then nthP (((aheadP els n).length : Int) + 1) st sr else false) := rfl
  clear h hp
  by_cases h1 : kd = 1
  · have HR : Hid (simpP els ⟨nt, kd, lt, st, sr⟩ n = hasTypeP els n lt) := by unfold Hid; rw [HS.out, if_pos h1]
    have g1 : (kd == 1) = true := by simp [h1]
    clear h1 HS
    go_enter Tryz.func221, Tryz.ntmps221
    go_wp2_with fail
    refine (phasType_any _ b a c els n lt HT.out).mono ?_
    rintro e w1 ⟨rfl, hB⟩
    have HE := HB.out _ w1 HR.out (hB.mono (by simp))
    clear hB
    generalize hasTypeP els n lt = r at HE ⊢
    go_wp2
    go_ret
    exact HE
  have g1 : (kd == 1) = false := by simp [h1]
  by_cases h2 : kd = 2
  · have HR : Hid (simpP els ⟨nt, kd, lt, st, sr⟩ n = hasClassP els n lt) := by unfold Hid; rw [HS.out, if_neg h1, if_pos h2]
    have g2 : (kd == 2) = true := by simp [h2]
    clear h1 h2 HS
    go_enter Tryz.func221, Tryz.ntmps221
    go_wp2_with fail
    refine (phasClass_any _ b a c els n lt HT.out).mono ?_
    rintro e w1 ⟨rfl, hB⟩
    have HE := HB.out _ w1 HR.out (hB.mono (by simp))
    clear hB
    generalize hasClassP els n lt = r at HE ⊢
    go_wp2
    go_ret
    exact HE
  have g2 : (kd == 2) = false := by simp [h2]
  by_cases h3 : kd = 3
  · have HR : Hid (simpP els ⟨nt, kd, lt, st, sr⟩ n = hasNameP els n lt) := by unfold Hid; rw [HS.out, if_neg h1, if_neg h2, if_pos h3]
    have g3 : (kd == 3) = true := by simp [h3]
    clear h1 h2 h3 HS
    go_enter Tryz.func221, Tryz.ntmps221
    go_wp2_with fail
    refine (phasName_any _ b a c els n lt HT.out).mono ?_
    rintro e w1 ⟨rfl, hB⟩
    have HE := HB.out _ w1 HR.out (hB.mono (by simp))
    clear hB
    generalize hasNameP els n lt = r at HE ⊢
    go_wp2
    go_ret
    exact HE
  have g3 : (kd == 3) = false := by simp [h3]
  by_cases h4 : kd = 4
  · have HR : Hid (simpP els ⟨nt, kd, lt, st, sr⟩ n = ((((aheadP els n).length : Int) + 1) == 1)) := by unfold Hid; rw [HS.out, if_neg h1, if_neg h2, if_neg h3, if_pos h4]; rfl
    have g4 : (kd == 4) = true := by simp [h4]
    clear h1 h2 h3 h4 HS
    go_enter Tryz.func221, Tryz.ntmps221
    go_wp2_with fail
    refine (pplaceOf_any _ b a c els n HT.out).mono ?_
    rintro e w1 ⟨rfl, hB⟩
    have HE := HB.out _ w1 HR.out (hB.mono (by simp))
    clear hB HR
    obtain ⟨r, hr⟩ : ∃ r, (((aheadP els n).length : Int) + 1) = r := ⟨_, rfl⟩
    rw [hr] at HE ⊢
    clear hr
    go_wp2
    go_ret
    exact HE
  have g4 : (kd == 4) = false := by simp [h4]
  by_cases h5 : kd = 5
  · have HR : Hid (simpP els ⟨nt, kd, lt, st, sr⟩ n = lastP els n) := by unfold Hid; rw [HS.out, if_neg h1, if_neg h2, if_neg h3, if_neg h4, if_pos h5]
    have g5 : (kd == 5) = true := by simp [h5]
    clear h1 h2 h3 h4 h5 HS
    go_enter Tryz.func221, Tryz.ntmps221
    go_wp2_with fail
    refine (plast_any _ b a c els n HT.out).mono ?_
    rintro e w1 ⟨rfl, hB⟩
    have HE := HB.out _ w1 HR.out (hB.mono (by simp))
    clear hB
    generalize lastP els n = r at HE ⊢
    go_wp2
    go_ret
    exact HE
  have g5 : (kd == 5) = false := by simp [h5]
  by_cases h6 : kd = 6
  · have HR : Hid (simpP els ⟨nt, kd, lt, st, sr⟩ n = emptyP els n) := by unfold Hid; rw [HS.out, if_neg h1, if_neg h2, if_neg h3, if_neg h4, if_neg h5, if_pos h6]
    have g6 : (kd == 6) = true := by simp [h6]
    clear h1 h2 h3 h4 h5 h6 HS
    go_enter Tryz.func221, Tryz.ntmps221
    go_wp2_with fail
    refine (pempty_any _ b a c els n HT.out).mono ?_
    rintro e w1 ⟨rfl, hB⟩
    have HE := HB.out _ w1 HR.out (hB.mono (by simp))
    clear hB
    generalize emptyP els n = r at HE ⊢
    go_wp2
    go_ret
    exact HE
  have g6 : (kd == 6) = false := by simp [h6]
  by_cases h7 : kd = 7
  · have HR : Hid (simpP els ⟨nt, kd, lt, st, sr⟩ n = nthP (((aheadP els n).length : Int) + 1) st sr) := by unfold Hid; rw [HS.out, if_neg h1, if_neg h2, if_neg h3, if_neg h4, if_neg h5, if_neg h6, if_pos h7]
    have g7 : (kd == 7) = true := by simp [h7]
    clear h1 h2 h3 h4 h5 h6 h7 HS
    go_enter Tryz.func221, Tryz.ntmps221
    go_wp2_with fail
    refine (pplaceOf_any _ b a c els n HT.out).mono ?_
    rintro e w1 ⟨rfl, hB⟩
    have hz1 : w.heap.size < w1.heap.size := by have := hB.size; simp at this; omega
    have q3 : w1.cell? ⟨w.heap.size, 3, none⟩ = some (.int .i64 st) := (hB.cell (p := ⟨w.heap.size, 3, none⟩) (by simp)).trans (cell_of_blk (heap_alloc_new w _) rfl)
    have q4 : w1.cell? ⟨w.heap.size, 4, none⟩ = some (.int .i64 sr) := (hB.cell (p := ⟨w.heap.size, 4, none⟩) (by simp)).trans (cell_of_blk (heap_alloc_new w _) rfl)
    have HB1 : Hid (Below (w.heap.size + 1) (w.alloc (.cells #[.bool nt, .int .i64 kd, .int .u8 lt, .int .i64 st, .int .i64 sr] 192)) w1) := hB.mono (by simp)
    have hbz := HB1.out.size
    clear hB
    have hpl : 0 ≤ (((aheadP els n).length : Int) + 1) ∧ (((aheadP els n).length : Int) + 1) ≤ 100 := by omega
    go_wp2_with fail
    refine (pnth_any w1 _ st sr hpl HF.out.1 HF.out.2).mono ?_
    rintro e w2 ⟨rfl, hB2⟩
    have HE := HB.out _ w2 HR.out (HB1.out.trans (hB2.mono (by omega)))
    clear hB2
    generalize nthP (((aheadP els n).length : Int) + 1) st sr = r at HE ⊢
    go_wp2
    go_ret
    exact HE
  · have HR : Hid (simpP els ⟨nt, kd, lt, st, sr⟩ n = false) := by unfold Hid; rw [HS.out, if_neg h1, if_neg h2, if_neg h3, if_neg h4, if_neg h5, if_neg h6, if_neg h7]
    have g7 : (kd == 7) = false := by simp [h7]
    clear h1 h2 h3 h4 h5 h6 h7 HS
    have HE := HB.out _ _ HR.out (Below.refl _ _)
    go_enter Tryz.func221, Tryz.ntmps221
    go_wp2
    go_ret
    exact HE
end
end Go.Proofs.YtblfffbmklkhmaaGreat

namespace Go.Proofs.YtblfffbmklkhmaaGreat
open Go.RowKit
theorem comp_no1 {els : List PEl} {x : PCp} {n : Int} (h0 : ¬ x.ty = 0) (h : hasTypeP els n x.ty = false) : compP els x n = false := by
  unfold compP
  have : (x.ty == 0) = false := by simp [h0]
  rw [this, h]
  rfl
theorem comp_no2 {els : List PEl} {x : PCp} {n : Int} {i : Nat} (hi : i < x.ps.length) (h : simpP els x.ps[i] n = x.ps[i].nt) : compP els x n = false := by
  unfold compP
  have : (x.ps.all fun p => simpP els p n != p.nt) = false := by
    rw [List.all_eq_false]
    exact ⟨x.ps[i], List.getElem_mem hi, by simp [h]⟩
  rw [this, Bool.and_false]
theorem comp_yes {els : List PEl} {x : PCp} {n : Int} (h0 : x.ty = 0 ∨ hasTypeP els n x.ty = true) (h : ∀ j (_ : j < x.ps.length), ¬ simpP els x.ps[j] n = x.ps[j].nt) : compP els x n = true := by
  unfold compP
  have h1 : (x.ps.all fun p => simpP els p n != p.nt) = true := by
    rw [List.all_eq_true]
    intro p hp
    obtain ⟨j, hj, rfl⟩ := List.getElem_of_mem hp
    simpa using h j hj
  rw [h1, Bool.and_true]
  rcases h0 with h0 | h0
  · simp [h0]
  · rw [h0, Bool.or_true]
/-- The parts of a compound in memory. -/
def CpRow (w : World) (ap : Option Addr) (cp : Nat) (xs : List Value) (x : PCp) : Prop := w.ownsRow 0 192 5 (.slice ap x.ps.length cp) x.ps.length xs ∧ Kinds xs x.ps ∧ ∀ p ∈ x.ps, p.fine
section
set_option maxRecDepth 100000
set_option maxHeartbeats 4000000
variable (w : World) (b : Nat) (a : Option Addr) (c : Nat) (els : List PEl) (n : Int)
theorem pcomp_any (x : PCp) (ap : Option Addr) (cp : Nat) (xs : List Value) (h : TRd w b a c els) (ho : CpRow w ap cp xs x) (hl : x.ps.length ≤ 400) : Calls Tryz.prog 216 #[.agg #[.int .u8 x.sg, .int .u8 x.ty, .slice ap x.ps.length cp], .pointer (some ⟨b, 1, none⟩), .int .i64 n] w fun e w' => PBool w (compP els x n) e w' := by
  have HT : Hid (TRd w b a c els) := h
  have HO : Hid (CpRow w ap cp xs x) := ho
  clear h ho
  by_cases h0 : x.ty = 0
  · have g0 : ((x.ty : Int) != 0) = false := by simp [h0]
    have HTY : Hid (x.ty = 0 ∨ hasTypeP els n x.ty = true) := Or.inl h0
    have HB1 : Hid (Below w.heap.size w (w.alloc (.cells #[.int .u8 x.sg, .int .u8 x.ty, .slice ap x.ps.length cp] 190))) := (Below.refl _ _).alloc (Nat.le_refl _) _
    clear h0
    generalize (x.ty : Int) = tz at g0 HB1
    go_enter Tryz.func216, Tryz.ntmps216
    go_wp2_with fail
    go_loopg [23] x.ps.length (fun gk iv wr => ∃ i : Nat, iv = .int .i64 i ∧ i ≤ x.ps.length ∧ x.ps.length - i ≤ gk ∧ Hid (Below w.heap.size w wr ∧ ∀ j (_ : j < x.ps.length), j < i → ¬ simpP els x.ps[j] n = x.ps[j].nt))
    case atStart => exact ⟨0, rfl, Nat.zero_le _, by omega, HB1.out, fun j _ h => by omega⟩
    case round =>
      obtain ⟨i, rfl, hi, hgk, HN⟩ := hrel
      have hbz := HN.out.1.size
      by_cases hlt : i < x.ps.length
      · have hd : decide ((i : Int) < (x.ps.length : Int)) = true := by simp; omega
        obtain ⟨g, hg, hgl, hgc⟩ := own_cells HO.out.1 (by omega)
        subst hg
        obtain ⟨e0, e1, e2, e3, e4⟩ := kinds_at HO.out.2.1 hlt
        have c0 := (HN.out.1.cell (p := ⟨g, i * 5, none⟩) hgl).trans (hgc _ _ e0)
        have c1 := (HN.out.1.cell (p := ⟨g, i * 5 + 1, none⟩) hgl).trans (hgc _ _ e1)
        have c2 := (HN.out.1.cell (p := ⟨g, i * 5 + 2, none⟩) hgl).trans (hgc _ _ e2)
        have c3 := (HN.out.1.cell (p := ⟨g, i * 5 + 3, none⟩) hgl).trans (hgc _ _ e3)
        have c4 := (HN.out.1.cell (p := ⟨g, i * 5 + 4, none⟩) hgl).trans (hgc _ _ e4)
        have HF : Hid (PPt.fine ⟨x.ps[i].nt, x.ps[i].kd, x.ps[i].lt, x.ps[i].st, x.ps[i].sr⟩) := HO.out.2.2 x.ps[i] (List.getElem_mem hlt)
        have HY : Hid (simpP els ⟨x.ps[i].nt, x.ps[i].kd, x.ps[i].lt, x.ps[i].st, x.ps[i].sr⟩ n = x.ps[i].nt → compP els x n = false) := fun h => comp_no2 hlt h
        have HNX : Hid (¬ simpP els ⟨x.ps[i].nt, x.ps[i].kd, x.ps[i].lt, x.ps[i].st, x.ps[i].sr⟩ n = x.ps[i].nt → ∀ j (_ : j < x.ps.length), j < i + 1 → ¬ simpP els x.ps[j] n = x.ps[j].nt) := fun hm j hj h1 => by
          by_cases e : j = i
          · subst e; exact hm
          · exact HN.out.2 j hj (by omega)
        clear e0 e1 e2 e3 e4 hgc
        generalize x.ps[i].nt = nt at c0 HF HY HNX
        generalize x.ps[i].kd = kd at c1 HF HY HNX
        generalize x.ps[i].lt = lt at c2 HF HY HNX
        generalize x.ps[i].st = st at c3 HF HY HNX
        generalize x.ps[i].sr = sr at c4 HF HY HNX
        have HB6 : Hid (Below w.heap.size w (wr.alloc (.cells #[.bool nt, .int .i64 kd, .int .u8 lt, .int .i64 st, .int .i64 sr] 192)).drew) := (HN.out.1.alloc hbz _).drew
        have HT6 : Hid (TRd (wr.alloc (.cells #[.bool nt, .int .i64 kd, .int .u8 lt, .int .i64 st, .int .i64 sr] 192)).drew b a c els) := HT.out.below HB6.out
        have HC : Hid (∀ wx, Below (wr.heap.size + 1) (wr.alloc (.cells #[.bool nt, .int .i64 kd, .int .u8 lt, .int .i64 st, .int .i64 sr] 192)).drew wx → wx.cell? ⟨wr.heap.size, 0, none⟩ = some (.bool nt) ∧ wx.cell? ⟨wr.heap.size, 1, none⟩ = some (.int .i64 kd) ∧ wx.cell? ⟨wr.heap.size, 2, none⟩ = some (.int .u8 lt) ∧ wx.cell? ⟨wr.heap.size, 3, none⟩ = some (.int .i64 st) ∧ wx.cell? ⟨wr.heap.size, 4, none⟩ = some (.int .i64 sr)) := fun wx hb =>
          have hblk : (wr.alloc (.cells #[.bool nt, .int .i64 kd, .int .u8 lt, .int .i64 st, .int .i64 sr] 192)).drew.heap[wr.heap.size]? = some (.cells #[.bool nt, .int .i64 kd, .int .u8 lt, .int .i64 st, .int .i64 sr] 192) := heap_alloc_new wr _
          have hx : wx.heap[wr.heap.size]? = some (.cells #[.bool nt, .int .i64 kd, .int .u8 lt, .int .i64 st, .int .i64 sr] 192) := (hb.block _ (by omega)).trans hblk
          ⟨cell_of_blk hx rfl, cell_of_blk hx rfl, cell_of_blk hx rfl, cell_of_blk hx rfl, cell_of_blk hx rfl⟩
        have H0 : Hid (Below (wr.heap.size + 1) (wr.alloc (.cells #[.bool nt, .int .i64 kd, .int .u8 lt, .int .i64 st, .int .i64 sr] 192)).drew (wr.alloc (.cells #[.bool nt, .int .i64 kd, .int .u8 lt, .int .i64 st, .int .i64 sr] 192)).drew) := Below.refl _ _
        go_upto_region 6 with fail
        go_cut [33] (fun v wx => v = .bool (simpP els ⟨nt, kd, lt, st, sr⟩ n == nt) ∧ Hid (Below w.heap.size w wx))
        case first =>
          go_region_held3 (fun w' => w'.cell? ⟨wr.heap.size, 0, none⟩ = some (.bool nt) ∧ w'.cell? ⟨wr.heap.size, 1, none⟩ = some (.int .i64 kd) ∧ w'.cell? ⟨wr.heap.size, 2, none⟩ = some (.int .u8 lt) ∧ w'.cell? ⟨wr.heap.size, 3, none⟩ = some (.int .i64 st) ∧ w'.cell? ⟨wr.heap.size, 4, none⟩ = some (.int .i64 sr)) (first | exact HC.out _ H0.out | exact HC.out _ HX.out.1)
            (first | (go_at_call 221; refine (psimple_any _ b a c els n nt kd lt st sr HT6.out HF.out).mono ?_; rintro e w1 ⟨rfl, hB1⟩; have HX : Hid (Below (wr.heap.size + 1) (wr.alloc (.cells #[.bool nt, .int .i64 kd, .int .u8 lt, .int .i64 st, .int .i64 sr] 192)).drew w1 ∧ Below w.heap.size w w1) := ⟨hB1.mono (by simp [World.drew]), HB6.out.trans (hB1.mono HB6.out.size)⟩))
          all_goals
            go_wp2_with fail
            go_meet
            exact ⟨rfl, HX.out.2⟩
        case rest =>
          obtain ⟨rfl, HX⟩ := hcut
          by_cases hs : simpP els ⟨nt, kd, lt, st, sr⟩ n = nt
          · have HR : Hid (PBool w (compP els x n) (.returned (.bool false)) wc) := ⟨by rw [HY.out hs], HX.out⟩
            have gs : (simpP els ⟨nt, kd, lt, st, sr⟩ n == nt) = true := by simp [hs]
            clear hs c0 c1 c2 c3 c4
            generalize (simpP els ⟨nt, kd, lt, st, sr⟩ n == nt) = z at gs ⊢
            subst gs
            go_wp2
            go_ret
            exact HR.out
          · have HN2 : Hid (Below w.heap.size w wc ∧ ∀ j (_ : j < x.ps.length), j < i + 1 → ¬ simpP els x.ps[j] n = x.ps[j].nt) := ⟨HX.out, HNX.out hs⟩
            have gs : (simpP els ⟨nt, kd, lt, st, sr⟩ n == nt) = false := by simp [hs]
            clear hs c0 c1 c2 c3 c4
            generalize (simpP els ⟨nt, kd, lt, st, sr⟩ n == nt) = z at gs ⊢
            subst gs
            go_wp2
            go_roundg (x.ps.length - (i + 1))
            case measure => omega
            case rel => exact ⟨i + 1, by go_num, by omega, Nat.le_refl _, HN2⟩
      · have hd : decide ((i : Int) < (x.ps.length : Int)) = false := by simp; omega
        have HR : Hid (PBool w (compP els x n) (.returned (.bool true)) wr) := ⟨by rw [comp_yes HTY.out (fun j hj => HN.out.2 j hj (by omega))], HN.out.1⟩
        go_wp2
        go_ret
        exact HR.out
  · have g0 : ((x.ty : Int) != 0) = true := by simp; omega
    have HZ : Hid (¬ x.ty = 0) := h0
    have HT0 : Hid (TRd (w.alloc (.cells #[.int .u8 x.sg, .int .u8 x.ty, .slice ap x.ps.length cp] 190)) b a c els) := HT.out.below ((Below.refl _ _).alloc (Nat.le_refl _) _)
    clear h0
    go_enter Tryz.func216, Tryz.ntmps216
    go_wp2_with fail
    refine (phasType_any _ b a c els n x.ty HT0.out).mono ?_
    rintro e w1 ⟨rfl, hB⟩
    have hz1 : w.heap.size < w1.heap.size := by have := hB.size; simp at this; omega
    have q2 : w1.cell? ⟨w.heap.size, 2, none⟩ = some (.slice ap x.ps.length cp) := (hB.cell (p := ⟨w.heap.size, 2, none⟩) (by simp)).trans (cell_of_blk (heap_alloc_new w _) rfl)
    have HB1 : Hid (Below w.heap.size w w1) := ((Below.refl _ _).alloc (Nat.le_refl _) _).trans (hB.mono (by simp))
    clear hB
    cases hr : hasTypeP els n x.ty with
    | false =>
      have HR : Hid (PBool w (compP els x n) (.returned (.bool false)) w1) := ⟨by rw [comp_no1 HZ.out hr], HB1.out⟩
      clear hr
      go_wp2
      go_ret
      exact HR.out
    | true =>
      have HTY : Hid (x.ty = 0 ∨ hasTypeP els n x.ty = true) := Or.inr hr
      clear hr
      go_wp2_with fail
      go_loopg [23] x.ps.length (fun gk iv wr => ∃ i : Nat, iv = .int .i64 i ∧ i ≤ x.ps.length ∧ x.ps.length - i ≤ gk ∧ Hid (Below w.heap.size w wr ∧ ∀ j (_ : j < x.ps.length), j < i → ¬ simpP els x.ps[j] n = x.ps[j].nt))
      case atStart => exact ⟨0, rfl, Nat.zero_le _, by omega, HB1.out, fun j _ h => by omega⟩
      case round =>
        obtain ⟨i, rfl, hi, hgk, HN⟩ := hrel
        have hbz := HN.out.1.size
        by_cases hlt : i < x.ps.length
        · have hd : decide ((i : Int) < (x.ps.length : Int)) = true := by simp; omega
          obtain ⟨g, hg, hgl, hgc⟩ := own_cells HO.out.1 (by omega)
          subst hg
          obtain ⟨e0, e1, e2, e3, e4⟩ := kinds_at HO.out.2.1 hlt
          have c0 := (HN.out.1.cell (p := ⟨g, i * 5, none⟩) hgl).trans (hgc _ _ e0)
          have c1 := (HN.out.1.cell (p := ⟨g, i * 5 + 1, none⟩) hgl).trans (hgc _ _ e1)
          have c2 := (HN.out.1.cell (p := ⟨g, i * 5 + 2, none⟩) hgl).trans (hgc _ _ e2)
          have c3 := (HN.out.1.cell (p := ⟨g, i * 5 + 3, none⟩) hgl).trans (hgc _ _ e3)
          have c4 := (HN.out.1.cell (p := ⟨g, i * 5 + 4, none⟩) hgl).trans (hgc _ _ e4)
          have HF : Hid (PPt.fine ⟨x.ps[i].nt, x.ps[i].kd, x.ps[i].lt, x.ps[i].st, x.ps[i].sr⟩) := HO.out.2.2 x.ps[i] (List.getElem_mem hlt)
          have HY : Hid (simpP els ⟨x.ps[i].nt, x.ps[i].kd, x.ps[i].lt, x.ps[i].st, x.ps[i].sr⟩ n = x.ps[i].nt → compP els x n = false) := fun h => comp_no2 hlt h
          have HNX : Hid (¬ simpP els ⟨x.ps[i].nt, x.ps[i].kd, x.ps[i].lt, x.ps[i].st, x.ps[i].sr⟩ n = x.ps[i].nt → ∀ j (_ : j < x.ps.length), j < i + 1 → ¬ simpP els x.ps[j] n = x.ps[j].nt) := fun hm j hj h1 => by
            by_cases e : j = i
            · subst e; exact hm
            · exact HN.out.2 j hj (by omega)
          clear e0 e1 e2 e3 e4 hgc
          generalize x.ps[i].nt = nt at c0 HF HY HNX
          generalize x.ps[i].kd = kd at c1 HF HY HNX
          generalize x.ps[i].lt = lt at c2 HF HY HNX
          generalize x.ps[i].st = st at c3 HF HY HNX
          generalize x.ps[i].sr = sr at c4 HF HY HNX
          have HB6 : Hid (Below w.heap.size w (wr.alloc (.cells #[.bool nt, .int .i64 kd, .int .u8 lt, .int .i64 st, .int .i64 sr] 192)).drew) := (HN.out.1.alloc hbz _).drew
          have HT6 : Hid (TRd (wr.alloc (.cells #[.bool nt, .int .i64 kd, .int .u8 lt, .int .i64 st, .int .i64 sr] 192)).drew b a c els) := HT.out.below HB6.out
          have HC : Hid (∀ wx, Below (wr.heap.size + 1) (wr.alloc (.cells #[.bool nt, .int .i64 kd, .int .u8 lt, .int .i64 st, .int .i64 sr] 192)).drew wx → wx.cell? ⟨wr.heap.size, 0, none⟩ = some (.bool nt) ∧ wx.cell? ⟨wr.heap.size, 1, none⟩ = some (.int .i64 kd) ∧ wx.cell? ⟨wr.heap.size, 2, none⟩ = some (.int .u8 lt) ∧ wx.cell? ⟨wr.heap.size, 3, none⟩ = some (.int .i64 st) ∧ wx.cell? ⟨wr.heap.size, 4, none⟩ = some (.int .i64 sr)) := fun wx hb =>
            have hblk : (wr.alloc (.cells #[.bool nt, .int .i64 kd, .int .u8 lt, .int .i64 st, .int .i64 sr] 192)).drew.heap[wr.heap.size]? = some (.cells #[.bool nt, .int .i64 kd, .int .u8 lt, .int .i64 st, .int .i64 sr] 192) := heap_alloc_new wr _
            have hx : wx.heap[wr.heap.size]? = some (.cells #[.bool nt, .int .i64 kd, .int .u8 lt, .int .i64 st, .int .i64 sr] 192) := (hb.block _ (by omega)).trans hblk
            ⟨cell_of_blk hx rfl, cell_of_blk hx rfl, cell_of_blk hx rfl, cell_of_blk hx rfl, cell_of_blk hx rfl⟩
          have H0 : Hid (Below (wr.heap.size + 1) (wr.alloc (.cells #[.bool nt, .int .i64 kd, .int .u8 lt, .int .i64 st, .int .i64 sr] 192)).drew (wr.alloc (.cells #[.bool nt, .int .i64 kd, .int .u8 lt, .int .i64 st, .int .i64 sr] 192)).drew) := Below.refl _ _
          go_upto_region 6 with fail
          go_cut [33] (fun v wx => v = .bool (simpP els ⟨nt, kd, lt, st, sr⟩ n == nt) ∧ Hid (Below w.heap.size w wx))
          case first =>
            go_region_held3 (fun w' => w'.cell? ⟨wr.heap.size, 0, none⟩ = some (.bool nt) ∧ w'.cell? ⟨wr.heap.size, 1, none⟩ = some (.int .i64 kd) ∧ w'.cell? ⟨wr.heap.size, 2, none⟩ = some (.int .u8 lt) ∧ w'.cell? ⟨wr.heap.size, 3, none⟩ = some (.int .i64 st) ∧ w'.cell? ⟨wr.heap.size, 4, none⟩ = some (.int .i64 sr)) (first | exact HC.out _ H0.out | exact HC.out _ HX.out.1)
              (first | (go_at_call 221; refine (psimple_any _ b a c els n nt kd lt st sr HT6.out HF.out).mono ?_; rintro e w1 ⟨rfl, hB1⟩; have HX : Hid (Below (wr.heap.size + 1) (wr.alloc (.cells #[.bool nt, .int .i64 kd, .int .u8 lt, .int .i64 st, .int .i64 sr] 192)).drew w1 ∧ Below w.heap.size w w1) := ⟨hB1.mono (by simp [World.drew]), HB6.out.trans (hB1.mono HB6.out.size)⟩))
            all_goals
              go_wp2_with fail
              go_meet
              exact ⟨rfl, HX.out.2⟩
          case rest =>
            obtain ⟨rfl, HX⟩ := hcut
            by_cases hs : simpP els ⟨nt, kd, lt, st, sr⟩ n = nt
            · have HR : Hid (PBool w (compP els x n) (.returned (.bool false)) wc) := ⟨by rw [HY.out hs], HX.out⟩
              have gs : (simpP els ⟨nt, kd, lt, st, sr⟩ n == nt) = true := by simp [hs]
              clear hs c0 c1 c2 c3 c4
              generalize (simpP els ⟨nt, kd, lt, st, sr⟩ n == nt) = z at gs ⊢
              subst gs
              go_wp2
              go_ret
              exact HR.out
            · have HN2 : Hid (Below w.heap.size w wc ∧ ∀ j (_ : j < x.ps.length), j < i + 1 → ¬ simpP els x.ps[j] n = x.ps[j].nt) := ⟨HX.out, HNX.out hs⟩
              have gs : (simpP els ⟨nt, kd, lt, st, sr⟩ n == nt) = false := by simp [hs]
              clear hs c0 c1 c2 c3 c4
              generalize (simpP els ⟨nt, kd, lt, st, sr⟩ n == nt) = z at gs ⊢
              subst gs
              go_wp2
              go_roundg (x.ps.length - (i + 1))
              case measure => omega
              case rel => exact ⟨i + 1, by go_num, by omega, Nat.le_refl _, HN2⟩
        · have hd : decide ((i : Int) < (x.ps.length : Int)) = false := by simp; omega
          have HR : Hid (PBool w (compP els x n) (.returned (.bool true)) wr) := ⟨by rw [comp_yes HTY.out (fun j hj => HN.out.2 j hj (by omega))], HN.out.1⟩
          go_wp2
          go_ret
          exact HR.out
end
end Go.Proofs.YtblfffbmklkhmaaGreat
