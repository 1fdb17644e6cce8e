/- Own work. -/
import Derived.Test.YtblfffbmklkhmaaGreatAw32
import Derived.Test.YtblfffbmklkhmaaGreatAw35
namespace Go.Proofs.YtblfffbmklkhmaaGreat
open Go.RowKit
section
set_option maxRecDepth 100000
set_option maxHeartbeats 2000000
variable (w : World) (px : Value) (T : Tree) (made : Nat) (M : Nat → Mk) (rs : List PRu) (kl : List (Int × List Int)) (F : Nat → Prop)
theorem find_nat {T : Tree} {n : Int} {l : List Nat} (h : tFind T n = some l) : (n.toNat, l) ∈ T ∧ n = (n.toNat : Int) := by
  obtain ⟨k, rfl, hk⟩ := tFind_some h
  exact ⟨by simpa using hk, by omega⟩
theorem cls_some {n : Int} {s : ByteArray} (h : clsErr T n s = 0) : ∃ l, tFind T n = some l := by
  unfold clsErr at h
  cases ht : tFind T n with
  | none => rw [ht] at h; cases h
  | some l => exact ⟨l, rfl⟩
theorem nam_some {n : Int} {s : ByteArray} (h : namErr T n s = 0) : ∃ l, tFind T n = some l := by
  unfold namErr at h
  cases ht : tFind T n with
  | none => rw [ht] at h; cases h
  | some l => exact ⟨l, rfl⟩
def DClsPost (n : Int) (s : ByteArray) (on : Bool) (e : Ending) (w' : World) : Prop :=
  ∃ y kl', e = .returned (.int .i64 y) ∧ y = clsErr T n s ∧ DSk w' px T made (if y = 0 then setM M n.toNat (clsMk (M n.toNat) s on) else M) rs kl' (More F w) ∧ Fr w w' F ∧ kl'.Sublist kl
theorem dcls_any (n : Int) (s : ByteArray) (on : Bool) (h : DSk w px T made M rs kl F) : Calls Tryz.prog 46 #[px, .int .i64 n, .string s, .bool on] w fun e w' => DClsPost w px T made M rs kl F n s on e w' := by
  obtain ⟨b, vS, v, els, G, rfl, h2, h3, h4, h5, h6, h7⟩ := h
  have HB : Hid (DM w b vS v els T made M rs kl G ∧ KOK T M rs kl ∧ F b ∧ (∀ j, v.ownBlock = some j → F j) ∧ (∀ j, vS.2.ownBlock = some j → F j) ∧ ∀ k, G k → F k) := ⟨h2, h3, h4, h5, h6, h7⟩
  clear h2 h3 h4 h5 h6 h7
  go_enter Tryz.func46, Tryz.ntmps46
  go_wp2_with fail
  refine (pcls_any w b vS v els T made n s on HB.out.1.pb HB.out.1.tw HB.out.1.mks.2).mono ?_
  rintro e w1 ⟨lt, y, els', rfl, hy, hp, hf, hne, hm⟩
  have HM1 : Hid (MkO els' (if y = 0 then setM M n.toNat (clsMk (M n.toNat) s on) else M) ∧ (y = 0 → lt = bt s 0 ∨ (97 ≤ bt s 0 ∧ (M n.toNat).cl (bt s 0 - 97) = on))) := by
    by_cases h0 : y = 0
    · have := hm M HB.out.1.mks h0
      rw [if_pos h0]
      exact ⟨this.1, fun _ => this.2⟩
    · rw [if_neg h0, hne h0]
      exact ⟨HB.out.1.mks, fun h => absurd h h0⟩
  have HD1 : Hid (DM w1 b vS v els' T made (if y = 0 then setM M n.toNat (clsMk (M n.toNat) s on) else M) rs kl G) := HB.out.1.inpl hp HM1.out.1 hf
  have HF1 : Hid (Fr w w1 F) := hf.mono (fun k hk => HB.out.2.2.2.1 k hk)
  have HY : Hid (y = clsErr T n s) := hy
  obtain ⟨ar, cr, xs, hv1, hrow⟩ := HD1.out.sh.row
  have q0 : w1.cell? ⟨b, 0, none⟩ = some (.slice ar rs.length cr) := by
    have : w1.cell? ⟨b, 0, none⟩ = some vS.1 := cell_of_blk HD1.out.pb.doc rfl
    rw [this, hv1]
  have HRW : Hid (RsRow w1 ar cr xs rs) := hrow
  clear hp hf hm hne hy hrow hv1
  go_wp2_with fail
  refine (pnamesB_any w1 ar cr xs rs 2 lt HRW.out).mono ?_
  rintro e w2 ⟨rfl, hB2⟩
  have HD2 : Hid (DM w2 b vS v els' T made (if y = 0 then setM M n.toNat (clsMk (M n.toNat) s on) else M) rs kl G) := HD1.out.below hB2
  have HF2 : Hid (Fr w w2 F) := HF1.out.below hB2
  clear hB2 HD1 HF1 HRW q0
  cases hnm : namesB rs 2 lt with
  | false =>
    have HE : Hid (DClsPost w (.pointer (some ⟨b, 0, none⟩)) T made M rs kl F n s on (.returned (.int .i64 y)) w2) := by
      refine ⟨y, kl, rfl, HY.out, ⟨b, vS, v, els', G, rfl, HD2.out, ?_, Or.inl HB.out.2.2.1, fun j hj => Or.inl (HB.out.2.2.2.1 j hj), fun j hj => Or.inl (HB.out.2.2.2.2.1 j hj), fun k hk => Or.inl (HB.out.2.2.2.2.2 k hk)⟩, HF2.out, List.Sublist.refl _⟩
      by_cases h0 : y = 0
      · rw [if_pos h0]
        refine HB.out.2.1.cls HB.out.1.tw s on ?_
        rcases HM1.out.2 h0 with h1 | h1
        · exact Or.inl (by rw [← h1]; exact hnm)
        · exact Or.inr h1
      · rw [if_neg h0]
        exact HB.out.2.1
    clear hnm
    go_wp2
    go_ret
    exact HE.out
  | true =>
    clear hnm
    go_wp2_with fail
    refine (dturned_any w2 b vS v els' T made _ rs kl G n HD2.out).mono ?_
    rintro e w3 ⟨rfl, v2, hd2, hf2, hv2⟩
    have HE : Hid (DClsPost w (.pointer (some ⟨b, 0, none⟩)) T made M rs kl F n s on (.returned (.int .i64 y)) w3) := by
      refine ⟨y, dropK (reachP els' n) kl, rfl, HY.out, ⟨b, (vS.1, v2), v, els', G, rfl, hd2, ?_, Or.inl HB.out.2.2.1, fun j hj => Or.inl (HB.out.2.2.2.1 j hj), fun j hj => Or.inr (Nat.le_trans HF2.out.size (hv2 j hj)), fun k hk => Or.inl (HB.out.2.2.2.2.2 k hk)⟩, HF2.out.trans (hf2.mono (fun k hk => hk ▸ HB.out.2.2.1)), drop_sub _ _⟩
      by_cases h0 : y = 0
      · rw [if_pos h0]
        obtain ⟨l, hl⟩ := cls_some T (HY.out.symm.trans h0)
        obtain ⟨hmem, hn⟩ := find_nat hl
        refine HB.out.2.1.mark HB.out.1.tw hmem _ (drop_sub _ _) (fun x hx j hj => ?_)
        obtain ⟨j', lj, hj', hjT⟩ := HB.out.2.1.els x ((drop_sub _ _).subset hx)
        have : j' = j := by omega
        subst this
        rw [hn] at hx
        exact drop_out hd2.pb.pt hd2.tw hmem hx hj hjT
      · rw [if_neg h0]
        exact HB.out.2.1.sub (drop_sub _ _)
    clear hd2 hf2 hv2
    go_wp2
    go_ret
    exact HE.out
def DNamPost (n : Int) (s : ByteArray) (e : Ending) (w' : World) : Prop :=
  ∃ y kl', e = .returned (.int .i64 y) ∧ y = namErr T n s ∧ DSk w' px T made (if y = 0 then setM M n.toNat (namMk (M n.toNat) s) else M) rs kl' (More F w) ∧ Fr w w' F ∧ kl'.Sublist kl
theorem dnam_any (n : Int) (s : ByteArray) (h : DSk w px T made M rs kl F) : Calls Tryz.prog 21 #[px, .int .i64 n, .string s] w fun e w' => DNamPost w px T made M rs kl F n s e w' := by
  obtain ⟨b, vS, v, els, G, rfl, h2, h3, h4, h5, h6, h7⟩ := h
  have HB : Hid (DM w b vS v els T made M rs kl G ∧ KOK T M rs kl ∧ F b ∧ (∀ j, v.ownBlock = some j → F j) ∧ (∀ j, vS.2.ownBlock = some j → F j) ∧ ∀ k, G k → F k) := ⟨h2, h3, h4, h5, h6, h7⟩
  clear h2 h3 h4 h5 h6 h7
  go_enter Tryz.func21, Tryz.ntmps21
  go_wp2_with fail
  refine (pnam_any w b vS v els T made n s HB.out.1.pb HB.out.1.tw HB.out.1.mks.2).mono ?_
  rintro e w1 ⟨old, now, y, els', rfl, hy, hp, hf, hne, hm⟩
  have HM1 : Hid (MkO els' (if y = 0 then setM M n.toNat (namMk (M n.toNat) s) else M) ∧ (y = 0 → old = (M n.toNat).nm ∧ now = (namMk (M n.toNat) s).nm) ∧ (¬ y = 0 → old = now)) := by
    by_cases h0 : y = 0
    · have := hm M HB.out.1.mks h0
      rw [if_pos h0]
      exact ⟨this.1, fun _ => this.2, fun h => absurd h0 h⟩
    · rw [if_neg h0, (hne h0).1]
      exact ⟨HB.out.1.mks, fun h => absurd h h0, fun _ => (hne h0).2⟩
  have HD1 : Hid (DM w1 b vS v els' T made (if y = 0 then setM M n.toNat (namMk (M n.toNat) s) else M) rs kl G) := HB.out.1.inpl hp HM1.out.1 hf
  have HF1 : Hid (Fr w w1 F) := hf.mono (fun k hk => HB.out.2.2.2.1 k hk)
  have HY : Hid (y = namErr T n s) := hy
  obtain ⟨ar, cr, xs, hv1, hrow⟩ := HD1.out.sh.row
  have q0 : w1.cell? ⟨b, 0, none⟩ = some (.slice ar rs.length cr) := by
    have : w1.cell? ⟨b, 0, none⟩ = some vS.1 := cell_of_blk HD1.out.pb.doc rfl
    rw [this, hv1]
  have HRW : Hid (RsRow w1 ar cr xs rs) := hrow
  have hbl := HD1.out.lt
  clear hp hf hm hne hy hrow hv1
  go_wp2_with fail
  refine (pnamesB_any w1 ar cr xs rs 3 old HRW.out).mono ?_
  rintro e w2 ⟨rfl, hB2⟩
  have q2 : w2.cell? ⟨b, 0, none⟩ = some (.slice ar rs.length cr) := (hB2.cell (p := ⟨b, 0, none⟩) hbl).trans q0
  have HRW2 : Hid (RsRow w2 ar cr xs rs) := HRW.out.below hB2
  have HB2 : Hid (Below w1.heap.size w1 w2) := hB2
  clear hB2 q0 HRW
  obtain ⟨ot, hot⟩ : ∃ ot, namesB rs 3 old = ot := ⟨_, rfl⟩
  have HOT : Hid (namesB rs 3 old = ot) := hot
  rw [hot]
  clear hot
  go_wp2_with fail
  refine (pnamesB_any w2 ar cr xs rs 3 now HRW2.out).mono ?_
  rintro e w3 ⟨rfl, hB3⟩
  have HB3 : Hid (Below w1.heap.size w1 w3) := HB2.out.trans (hB3.mono HB2.out.size)
  have HD2 : Hid (DM w3 b vS v els' T made (if y = 0 then setM M n.toNat (namMk (M n.toNat) s) else M) rs kl G) := HD1.out.below HB3.out
  have HF2 : Hid (Fr w w3 F) := HF1.out.below HB3.out
  clear hB3 HB2 HB3 HD1 HF1 HRW2 q2
  obtain ⟨nt, hnt⟩ : ∃ nt, namesB rs 3 now = nt := ⟨_, rfl⟩
  have HNT : Hid (namesB rs 3 now = nt) := hnt
  rw [hnt]
  clear hnt
  have HEN : Hid ((old = now ∨ (ot = false ∧ nt = false)) → DNamPost w (.pointer (some ⟨b, 0, none⟩)) T made M rs kl F n s (.returned (.int .i64 y)) w3) := fun hc => by
    refine ⟨y, kl, rfl, HY.out, ⟨b, vS, v, els', G, rfl, HD2.out, ?_, Or.inl HB.out.2.2.1, fun j hj => Or.inl (HB.out.2.2.2.1 j hj), fun j hj => Or.inl (HB.out.2.2.2.2.1 j hj), fun k hk => Or.inl (HB.out.2.2.2.2.2 k hk)⟩, HF2.out, List.Sublist.refl _⟩
    by_cases h0 : y = 0
    · rw [if_pos h0]
      obtain ⟨e1, e2⟩ := HM1.out.2.1 h0
      refine HB.out.2.1.nam HB.out.1.tw s ?_
      rw [← e1, ← e2]
      rcases hc with hc | ⟨h1, h2⟩
      · exact Or.inl hc
      · exact Or.inr ⟨by rw [HOT.out]; exact h1, by rw [HNT.out]; exact h2⟩
    · rw [if_neg h0]
      exact HB.out.2.1
  have HTU : Hid (∀ w4, TurnedPost w3 b vS v els' T made (if y = 0 then setM M n.toNat (namMk (M n.toNat) s) else M) rs kl G n (.returned (.tuple #[])) w4 → DNamPost w (.pointer (some ⟨b, 0, none⟩)) T made M rs kl F n s (.returned (.int .i64 y)) w4) := fun w4 ⟨_, v2, hd2, hf2, hv2⟩ => by
    refine ⟨y, dropK (reachP els' n) kl, rfl, HY.out, ⟨b, (vS.1, v2), v, els', G, rfl, hd2, ?_, Or.inl HB.out.2.2.1, fun j hj => Or.inl (HB.out.2.2.2.1 j hj), fun j hj => Or.inr (Nat.le_trans HF2.out.size (hv2 j hj)), fun k hk => Or.inl (HB.out.2.2.2.2.2 k hk)⟩, HF2.out.trans (hf2.mono (fun k hk => hk ▸ HB.out.2.2.1)), drop_sub _ _⟩
    by_cases h0 : y = 0
    · rw [if_pos h0]
      obtain ⟨l, hl⟩ := nam_some T (HY.out.symm.trans h0)
      obtain ⟨hmem, hn⟩ := find_nat hl
      refine HB.out.2.1.mark HB.out.1.tw hmem _ (drop_sub _ _) (fun x hx j hj => ?_)
      obtain ⟨j', lj, hj', hjT⟩ := HB.out.2.1.els x ((drop_sub _ _).subset hx)
      have : j' = j := by omega
      subst this
      rw [hn] at hx
      exact drop_out hd2.pb.pt hd2.tw hmem hx hj hjT
    · rw [if_neg h0]
      exact HB.out.2.1.sub (drop_sub _ _)
  by_cases hon : old = now
  · have gn : (old != now) = false := by simp [hon]
    have HE := HEN.out (Or.inl hon)
    clear hon
    go_wp2
    go_ret
    exact HE
  · have gn : (old != now) = true := by simp [hon]
    clear hon
    cases ot with
    | true =>
      go_wp2_with fail
      refine (dturned_any w3 b vS v els' T made _ rs kl G n HD2.out).mono ?_
      intro e w4 ht
      obtain ⟨rfl, _⟩ := id ht
      have HE : Hid (DNamPost w (.pointer (some ⟨b, 0, none⟩)) T made M rs kl F n s (.returned (.int .i64 y)) w4) := HTU.out w4 ht
      clear ht
      go_wp2
      go_ret
      exact HE.out
    | false =>
      cases nt with
      | true =>
        go_wp2_with fail
        refine (dturned_any w3 b vS v els' T made _ rs kl G n HD2.out).mono ?_
        intro e w4 ht
        obtain ⟨rfl, _⟩ := id ht
        have HE : Hid (DNamPost w (.pointer (some ⟨b, 0, none⟩)) T made M rs kl F n s (.returned (.int .i64 y)) w4) := HTU.out w4 ht
        clear ht
        go_wp2
        go_ret
        exact HE.out
      | false =>
        have HE := HEN.out (Or.inr ⟨rfl, rfl⟩)
        go_wp2
        go_ret
        exact HE
def DShtPost (s : ByteArray) (e : Ending) (w' : World) : Prop :=
  ∃ y kl', e = .returned (.int .i64 y) ∧ y = (chk s).1 ∧ DSk w' px T made M (if y = 0 then sheetOf s else rs) kl' (More F w) ∧ Fr w w' F ∧ kl' = if y = 0 then [] else kl
theorem dsht_any (s : ByteArray) (hs : s.size ≤ maxLen) (h : DSk w px T made M rs kl F) : Calls Tryz.prog 28 #[px, .string s] w fun e w' => DShtPost w px T made M rs kl F s e w' := by
  obtain ⟨b, vS, v, els, G, rfl, h2, h3, h4, h5, h6, h7⟩ := h
  have HB : Hid (DM w b vS v els T made M rs kl G ∧ KOK T M rs kl ∧ F b ∧ (∀ j, v.ownBlock = some j → F j) ∧ (∀ j, vS.2.ownBlock = some j → F j) ∧ ∀ k, G k → F k) := ⟨h2, h3, h4, h5, h6, h7⟩
  clear h2 h3 h4 h5 h6 h7
  go_enter Tryz.func28, Tryz.ntmps28
  go_wp2_with fail
  refine (read_any w s hs).mono ?_
  rintro e w1 ⟨a, n, c, rfl, hB1, hsheet⟩
  by_cases hc : (chk s).1 = 0
  · have HSH : Hid (SheetIn w1 (fun k => w.heap.size ≤ k ∧ k < w1.heap.size) (.slice a n c) (sheetOf s)) := by
      obtain ⟨rs, xs, h1, h2, h3, h4⟩ := hsheet hc
      exact sheet_in hc h1 h2 h3 h4
    have HCK : Hid ((chk s).1 = 0) := hc
    have HD1 : Hid (DM (w1.alloc (.cells #[.slice a n c] 82)) b vS v els T made M rs kl G) := HB.out.1.below (hB1.alloc hB1.size _)
    have HB1 : Hid (Below w.heap.size w w1) := hB1
    rw [hc]
    have HBK : Hid ((w1.alloc (.cells #[.slice a n c] 82)).heap[b]? = some (docBlk vS v made)) := HD1.out.pb.doc
    have q0 : (w1.alloc (.cells #[.slice a n c] 82)).cell? ⟨b, 0, none⟩ = some vS.1 := cell_of_blk HBK.out rfl
    have q3 : (w1.alloc (.cells #[.slice a n c] 82)).cell? ⟨b, 3, none⟩ = some vS.2 := cell_of_blk HBK.out rfl
    have qf : ∀ j, (w1.alloc (.cells #[.slice a n c] 82)).frozen? ⟨b, j, none⟩ = false := fun _ => frozen_of_blk HBK.out
    have qs : (w1.alloc (.cells #[.slice a n c] 82)).cell? ⟨w1.heap.size, 0, none⟩ = some (.slice a n c) := cell_of_blk (heap_alloc_new w1 _) rfl
    have hbl : b < w.heap.size := HB.out.1.lt
    have hbz := hB1.size
    have HE : Hid (DShtPost w (.pointer (some ⟨b, 0, none⟩)) T made M rs kl F s (.returned (.int .i64 0)) (((w1.alloc (.cells #[.slice a n c] 82)).setCell ⟨b, 0, none⟩ (.slice a n c)).setCell ⟨b, 3, none⟩ (.slice none 0 0))) := by
      have h1 : ((w1.alloc (.cells #[.slice a n c] 82)).setCell ⟨b, 0, none⟩ (.slice a n c)).heap[b]? = some (docBlk (.slice a n c, vS.2) v made) := by rw [heap_setCell_row HBK.out]; rfl
      have h2 : (((w1.alloc (.cells #[.slice a n c] 82)).setCell ⟨b, 0, none⟩ (.slice a n c)).setCell ⟨b, 3, none⟩ (.slice none 0 0)).heap[b]? = some (docBlk (.slice a n c, .slice none 0 0) v made) := by rw [heap_setCell_row h1]; rfl
      have hne := own_ne_type HD1.out.pb.pl.row HBK.out (by decide)
      have hfr : Fr w (((w1.alloc (.cells #[.slice a n c] 82)).setCell ⟨b, 0, none⟩ (.slice a n c)).setCell ⟨b, 3, none⟩ (.slice none 0 0)) (fun k => k = b) := ((((Fr.refl w (fun k => k = b)).below HB1.out).alloc _).set (p := ⟨b, 0, none⟩) (Or.inl rfl) _).set (p := ⟨b, 3, none⟩) (Or.inl rfl) _
      refine ⟨0, [], rfl, HCK.out.symm, ⟨b, (.slice a n c, .slice none 0 0), v, els, fun k => w.heap.size ≤ k ∧ k < w1.heap.size, rfl, ⟨⟨h2, ⟨own_set (own_set HD1.out.pb.pl.row hne _) hne _, HD1.out.pb.pl.ok⟩, HD1.out.pb.pt, HD1.out.pb.few⟩, HD1.out.tw, HD1.out.mks, ?_, ⟨World.ownsRow_nil _ _ _ _, fun x hx => by cases hx⟩, by simp, fun k hk => by have := hk.2; simp; omega, fun hk => by have := hk.1; omega, fun j hj hk => ?_, fun j hj => by simp [Value.ownBlock] at hj⟩, ?_, Or.inl HB.out.2.2.1, fun j hj => Or.inl (HB.out.2.2.2.1 j hj), fun j hj => by simp [Value.ownBlock] at hj, fun k hk => Or.inr hk.1⟩, hfr.mono (fun k hk => hk ▸ HB.out.2.2.1), by rw [if_pos rfl]⟩
      · rw [if_pos rfl]
        refine HSH.out.keep (fun k hk hl => ?_) (by simp)
        have hkb : k ≠ b := by have := hk.1; omega
        exact (Below.heap_setCell _ ⟨b, 3, none⟩ _ k hkb).trans ((Below.heap_setCell _ ⟨b, 0, none⟩ _ k hkb).trans (Below.heap_alloc w1 _ k hl))
      · have h5 := (HB.out.1.pb.pl.row.lt j hj).2
        have := hk.1
        omega
      · exact kok_nil
    clear hsheet hc HBK HD1 HSH hB1
    generalize (chk s).2 = place
    go_wp2
    go_ret
    exact HE.out
  · have hgt : ((chk s).1 != 0) = true := by simp [hc]
    have HE : Hid (DShtPost w (.pointer (some ⟨b, 0, none⟩)) T made M rs kl F s (.returned (.int .i64 (chk s).1)) (w1.alloc (.cells #[.slice a n c] 82))) := by
      refine ⟨(chk s).1, kl, rfl, rfl, ⟨b, vS, v, els, G, rfl, ?_, ?_, Or.inl HB.out.2.2.1, fun j hj => Or.inl (HB.out.2.2.2.1 j hj), fun j hj => Or.inl (HB.out.2.2.2.2.1 j hj), fun k hk => Or.inl (HB.out.2.2.2.2.2 k hk)⟩, (Fr.refl w F).below (hB1.alloc hB1.size _), by rw [if_neg hc]⟩
      · rw [if_neg hc]
        exact HB.out.1.below (hB1.alloc hB1.size _)
      · rw [if_neg hc]
        exact HB.out.2.1
    clear hsheet hc hB1
    generalize (chk s).2 = place
    generalize (chk s).1 = y at hgt HE ⊢
    go_wp2
    go_ret
    exact HE.out
end
end Go.Proofs.YtblfffbmklkhmaaGreat

namespace Go.Proofs.YtblfffbmklkhmaaGreat
open Go.RowKit
theorem range_set1 {w : World} {b i : Nat} {cs : List Value} (h : w.rangeAt b 0 cs) (ht : w.there b i 1) (v : Value) : (w.setCell ⟨b, i, none⟩ v).rangeAt b 0 (cs.set i v) := fun j u hu => by
  rw [Nat.zero_add]
  have e : w.setCell ⟨b, i, none⟩ v = w.setCells b i [v] := rfl
  by_cases hj : i = j
  · subst hj
    have hl : i < cs.length := by have := (List.getElem?_eq_some_iff.1 hu).1; rwa [List.length_set] at this
    rw [List.getElem?_set_self hl] at hu
    injection hu with hu
    subst hu
    have := World.rangeAt_setCells_same w b i [v] ht 0 v rfl
    rwa [Nat.add_zero] at this
  · rw [List.getElem?_set_ne hj] at hu
    rw [e, World.cell?_setCells_out b [v] i w ⟨b, j, none⟩ (fun _ _ => by show j < i ∨ i + 1 ≤ j; omega)]
    have := h j u hu
    rwa [Nat.zero_add] at this
theorem there_set1 {w : World} {b o n : Nat} (h : w.there b o n) (p : Addr) (hp : p.spot = none) (v : Value) : (w.setCell p v).there b o n := by
  obtain ⟨pb, po, ps⟩ := p
  simp only at hp
  subst hp
  exact World.there_setCells h pb po [v]
def mixS (l : List Int) (i : Nat) : List Int := l.take i ++ List.replicate (9 - i) 0
theorem mixS_len {l : List Int} (hl : l.length = 9) {i : Nat} (hi : i ≤ 9) : (mixS l i).length = 9 := by
  unfold mixS
  rw [List.length_append, List.length_take, List.length_replicate]
  omega
theorem mixS_set {l : List Int} (hl : l.length = 9) {i : Nat} (hi : i < 9) : (intsZ (mixS l i)).set i (.int .i64 (l.getD i 0)) = intsZ (mixS l (i + 1)) := by
  apply List.ext_getElem?
  intro j
  have e1 : l.getD i 0 = l[i] := by rw [List.getD_eq_getElem?_getD, List.getElem?_eq_getElem (by omega)]; rfl
  rw [e1]
  have h9 : (intsZ (mixS l i)).length = 9 := by rw [List.length_map]; exact mixS_len hl (by omega)
  by_cases hj : i = j
  · subst hj
    rw [List.getElem?_set_self (by omega), List.getElem?_map]
    unfold mixS
    rw [List.getElem?_append_left (by rw [List.length_take]; omega), List.getElem?_take_of_lt (by omega), List.getElem?_eq_getElem (by omega)]
    rfl
  · rw [List.getElem?_set_ne hj, List.getElem?_map, List.getElem?_map]
    congr 1
    unfold mixS
    by_cases h1 : j < i
    · rw [List.getElem?_append_left (by rw [List.length_take]; omega), List.getElem?_append_left (by rw [List.length_take]; omega), List.getElem?_take_of_lt h1, List.getElem?_take_of_lt (by omega)]
    · rw [List.getElem?_append_right (by rw [List.length_take]; omega), List.getElem?_append_right (by rw [List.length_take]; omega), List.getElem?_replicate, List.getElem?_replicate, List.length_take, List.length_take]
      by_cases h2 : j < 9
      · rw [if_pos (by omega), if_pos (by omega)]
      · rw [if_neg (by omega), if_neg (by omega)]
theorem mixS_end {l : List Int} (hl : l.length = 9) : mixS l 9 = l := by
  unfold mixS
  rw [List.take_of_length_le (by omega)]
  exact List.append_nil _
/-- In the midst of Of. -/
structure OfI (w w1 : World) (W : List Clm) (comes L : List Int) (wr : World) : Prop where
  rngW : wr.rangeAt w1.heap.size 0 (flatW W)
  rngC : wr.rangeAt (w.heap.size + 1) 0 (intsZ comes)
  rngS : wr.rangeAt (w1.heap.size + 1) 0 (intsZ L)
  thrS : wr.there (w1.heap.size + 1) 0 9
  res : wr.there (w.heap.size + 2) 0 9
  below : Below w.heap.size w wr
  far : w1.heap.size + 2 ≤ wr.heap.size
  near : w.heap.size + 3 ≤ w1.heap.size
theorem OfI.go {w w1 : World} {W : List Clm} {comes L : List Int} {wr w' : World} (h : OfI w w1 W comes L wr) (hB : Below wr.heap.size wr w') : OfI w w1 W comes L w' := by
  have h1 := h.far
  have h2 := h.near
  exact ⟨range_below hB (by omega) h.rngW, range_below hB (by omega) h.rngC, range_below hB (by omega) h.rngS, there_below hB (by omega) h.thrS, there_below hB (by omega) h.res, h.below.trans (hB.mono (by omega)), Nat.le_trans h1 hB.size, h2⟩
theorem OfI.put {w w1 : World} {W : List Clm} {comes L L' : List Int} {wr : World} (h : OfI w w1 W comes L wr) {i : Nat} (hi : i < 9) {v : Int} (hL : (intsZ L).set i (.int .i64 v) = intsZ L') : OfI w w1 W comes L' (wr.setCell ⟨w1.heap.size + 1, i, none⟩ (.int .i64 v)) := by
  have h1 := h.far
  have h2 := h.near
  have e : wr.setCell ⟨w1.heap.size + 1, i, none⟩ (.int .i64 v) = wr.setCells (w1.heap.size + 1) i [.int .i64 v] := rfl
  refine ⟨?_, ?_, ?_, there_set1 h.thrS _ rfl _, there_set1 h.res _ rfl _, h.below.setCell (by show w.heap.size ≤ w1.heap.size + 1; omega) _, by simpa using h1, h2⟩
  · rw [e]; exact World.rangeAt_setCells_apart h.rngW _ _ _ (Or.inl (by omega))
  · rw [e]; exact World.rangeAt_setCells_apart h.rngC _ _ _ (Or.inl (by omega))
  · rw [← hL]; exact range_set1 h.rngS (there_part h.thrS (by omega) (by omega)) _
theorem ofP_len (els : List PEl) (rs : List PRu) (n : Int) (comes : List Int) : (ofP els rs n comes).length = 9 := by unfold ofP; simp
theorem ofP_at (els : List PEl) (rs : List PRu) (n : Int) (comes : List Int) {p : Nat} (hp : p < 9) : (ofP els rs n comes).getD p 0 = valueF (winnersP els rs n) comes 9 p := by
  unfold ofP
  rw [List.getD_eq_getElem?_getD, List.getElem?_map, List.getElem?_range hp]
  rfl
theorem winners_fine {els : List PEl} {rs : List PRu} {n : Int} (h : ∀ r ∈ rs, r.ds.length ≤ 400 ∧ ∀ d ∈ r.ds, d.fine) : FineW (winnersP els rs n) := rule_fine none_fine (fun r hr => (h r hr).2)
section
set_option maxRecDepth 100000
set_option maxHeartbeats 1500000
variable (w : World)
theorem pof_any (b : Nat) (a : Option Addr) (c : Nat) (els : List PEl) (n : Int) (ar : Option Addr) (cr : Nat) (xs : List Value) (rs : List PRu) (comes : List Int) (hc : comes.length = 9) (h : TRd w b a c els) (ho : RsRow w ar cr xs rs) :
    Calls Tryz.prog 127 #[.agg #[.slice ar rs.length cr], .pointer (some ⟨b, 1, none⟩), .int .i64 n, .agg (intsZ comes).toArray] w fun e w' => PSty w (ofP els rs n comes) e w' := by
  have HFW : Hid (FineW (winnersP els rs n)) := winners_fine ho.decl
  have HB0 : Hid (∀ Z : Array Value, Below w.heap.size w (((w.alloc (.cells #[.slice ar rs.length cr] 82)).alloc (.cells (intsZ comes).toArray 103)).alloc (.cells Z 103))) := fun Z => (((Below.refl _ _).alloc (Nat.le_refl _) _).alloc (by simp) _).alloc (by simp; omega) _
  have HT : Hid (TRd w b a c els ∧ RsRow w ar cr xs rs) := ⟨h, ho⟩
  have HSC : Hid ((Tryz.prog.info? 103).map (·.size) = some (intsZ comes).length) := sizeS hc
  clear h ho
  go_enter Tryz.func127, Tryz.ntmps127
  go_wp2_with fail
  refine (pwinners_any _ b a c els n ar cr xs rs (HT.out.1.below (HB0.out _)) (HT.out.2.below (HB0.out _))).mono ?_
  rintro e w1 ⟨rfl, hB⟩
  have hz1 : w.heap.size + 3 ≤ w1.heap.size := by have := hB.size; simp at this; omega
  have HSW : Hid ((Tryz.prog.info? 223).map (·.size) = some (flatW (winnersP els rs n)).length) := sizeW HFW.out.1
  have hlen : (flatW (winnersP els rs n)).toArray.size = 63 := List.size_toArray.trans (by rw [flatW_len, HFW.out.1])
  have HSW2 : Hid ((Tryz.prog.info? 223).map (·.size) = some (flatW (winnersP els rs n)).toArray.size) := by unfold Hid; rw [hlen]; exact Tryz.sizeW
  have HL63 : Hid (63 = (flatW (winnersP els rs n)).toArray.size) := hlen.symm
  have HON : Hid ((flatW (winnersP els rs n)).toArray.all (·.oneCell') = true) := all_oneCell_toArray (one_win _)
  have HI0 : Hid (OfI w w1 (winnersP els rs n) comes (mixS (ofP els rs n comes) 0) ((w1.alloc (.cells (flatW (winnersP els rs n)).toArray 223)).alloc (.cells (intsZ [0, 0, 0, 0, 0, 0, 0, 0, 0]).toArray 103))) := by
    have e1 : (w1.alloc (.cells (flatW (winnersP els rs n)).toArray 223)).heap.size = w1.heap.size + 1 := by simp
    refine ⟨World.rangeAt_alloc (range_new w1 _ _) _, World.rangeAt_alloc (World.rangeAt_alloc (range_below hB (by simp) ?_) _) _, ?_, ?_, World.there_alloc (World.there_alloc (there_below hB (by simp) ?_) _) _, (((HB0.out _).trans (hB.mono (by simp; omega))).alloc (by omega) _).alloc (by simp; omega) _, by simp, hz1⟩
    · have := range_new (w.alloc (.cells #[.slice ar rs.length cr] 82)) (intsZ comes) 103
      exact World.rangeAt_alloc (by simpa using this) _
    · have := range_new (w1.alloc (.cells (flatW (winnersP els rs n)).toArray 223)) (intsZ [0, 0, 0, 0, 0, 0, 0, 0, 0]) 103
      rwa [e1] at this
    · have := there_new (w1.alloc (.cells (flatW (winnersP els rs n)).toArray 223)) (intsZ [0, 0, 0, 0, 0, 0, 0, 0, 0]).toArray 103 9 (by decide)
      rwa [e1] at this
    · have := there_new ((w.alloc (.cells #[.slice ar rs.length cr] 82)).alloc (.cells (intsZ comes).toArray 103)) (#[.int .i64 0, .int .i64 0, .int .i64 0, .int .i64 0, .int .i64 0, .int .i64 0, .int .i64 0, .int .i64 0, .int .i64 0] : Array Value) 103 9 (by decide)
      simpa using this
  have HV : Hid (∀ p, p < 9 → (ofP els rs n comes).getD p 0 = valueF (winnersP els rs n) comes 9 p) := fun p hp => ofP_at els rs n comes hp
  have HLO : Hid ((ofP els rs n comes).length = 9) := ofP_len els rs n comes
  clear hB hlen
  generalize winnersP els rs n = W at HFW HSW HSW2 HL63 HON HI0 HV ⊢
  obtain ⟨L, hL⟩ : ∃ L, ofP els rs n comes = L := ⟨_, rfl⟩
  have HLE : Hid (ofP els rs n comes = L) := hL
  rw [hL] at HI0 HV HLO
  clear hL
  go_wp2_with (refine wpList_store_new rfl 223 _ _ rfl _ (flatW W).toArray 223 rfl rfl HSW2.out HL63.out HON.out ?_)
  go_loopg [16] 9 (fun gk iv wr => ∃ i : Nat, iv = .int .i64 i ∧ i ≤ 9 ∧ 9 - i ≤ gk ∧ Hid (OfI w w1 W comes (mixS L i) wr))
  case atStart => exact ⟨0, rfl, Nat.zero_le _, by omega, HI0⟩
  case round =>
    obtain ⟨i, rfl, hi, hgk, HN⟩ := hrel
    have hfar := HN.out.far
    by_cases hlt : i < 9
    · have hd : decide ((i : Int) < 9) = true := by simp; omega
      have hil : (i : Int) < 9 := by omega
      go_wp2_with (first | (refine wpList_load_mid rfl 223 _ rfl w1.heap.size 0 rfl (flatW W) _ HN.out.rngW Tryz.underlying223 rfl HSW.out ?_) | (refine wpList_load_mid rfl 103 _ rfl (w.heap.size + 1) 0 rfl (intsZ comes) _ HN.out.rngC Tryz.underlying103 rfl HSC.out ?_))
      refine (pvalue_any _ W HFW.out i hlt comes hc).mono ?_
      rintro e w2 ⟨rfl, hB⟩
      have HN2 : Hid (OfI w w1 W comes (mixS L i) w2) := HN.out.go hB
      have q0 : w2.cell? ⟨w1.heap.size + 1, i, none⟩ = some (.int .i64 ((mixS L i).getD i 0)) := by have := HN2.out.rngS i _ (sty_at (by rw [mixS_len HLO.out hi]; exact hlt)); rwa [Nat.zero_add] at this
      have q1 : w2.frozen? ⟨w1.heap.size + 1, i, none⟩ = false := by have := (HN2.out.thrS i hlt).2; rwa [Nat.zero_add] at this
      have HN3 : Hid (OfI w w1 W comes (mixS L (i + 1)) (w2.setCell ⟨w1.heap.size + 1, i, none⟩ (.int .i64 (valueF W comes 9 i)))) := HN2.out.put hlt (by rw [← HV.out i hlt]; exact mixS_set HLO.out hlt)
      clear hB
      generalize valueF W comes 9 i = val at HN3 ⊢
      generalize (mixS L i).getD i 0 = old at q0
      go_wp2
      go_roundg (9 - (i + 1))
      case measure => omega
      case rel => exact ⟨i + 1, by go_num, by omega, Nat.le_refl _, HN3⟩
    · have hd : decide ((i : Int) < 9) = false := by simp; omega
      obtain rfl : i = 9 := by omega
      rw [mixS_end HLO.out] at HN
      have HSL : Hid ((Tryz.prog.info? 103).map (·.size) = some (intsZ L).length) := sizeS HLO.out
      have hlen : (intsZ L).toArray.size = 9 := List.size_toArray.trans (by rw [List.length_map]; exact HLO.out)
      have HSL2 : Hid ((Tryz.prog.info? 103).map (·.size) = some (intsZ L).toArray.size) := by unfold Hid; rw [hlen]; exact Tryz.sizeS
      have HTH : Hid (wr.there (w.heap.size + 2) 0 (intsZ L).toArray.size) := by unfold Hid; rw [hlen]; exact HN.out.res
      have HO9 : Hid ((intsZ L).toArray.all (·.oneCell') = true) := one_ints L
      have HRE : Hid ((wr.setCells (w.heap.size + 2) 0 (intsZ L)).rangeAt (w.heap.size + 2) 0 (intsZ L)) := World.rangeAt_setCells_same wr _ 0 _ (by have := HTH.out; rwa [show (intsZ L).toArray.size = (intsZ L).length from List.size_toArray] at this)
      have HBE : Hid (Below w.heap.size w (wr.setCells (w.heap.size + 2) 0 (intsZ L))) := below_setCells (by omega) _ _ _ HN.out.below
      clear hlen
      go_wp2_with (first | (refine wpList_load_mid rfl 103 _ rfl (w1.heap.size + 1) 0 rfl (intsZ L) _ HN.out.rngS Tryz.underlying103 rfl HSL.out ?_) | (refine wpList_store_mid rfl 103 _ _ rfl (w.heap.size + 2) 0 (intsZ L).toArray rfl rfl HTH.out HSL2.out HO9.out ?_))
      exact bodyPost_ret (results_cell Tryz.results127 _ rfl HRE.out Tryz.underlying103 rfl HSL.out) rfl ⟨by rw [HLE.out], HBE.out⟩
end
end Go.Proofs.YtblfffbmklkhmaaGreat
