/- Own work. -/
import Derived.Test.YtblfffbmklkhmaaGreatAw36
import Derived.Test.YtblfffbmklkhmaaGreatAw37
import Derived.Deep.RegionHeld3
import Derived.Test.YtblfffbmklkhmaaGreatAw30
namespace Go.Proofs.YtblfffbmklkhmaaGreat
open Go.RowKit
/-- What is kept when an element has been made fresh. -/
def freshK (T : Tree) (M : Nat → Mk) (rs : List PRu) (kl : List (Int × List Int)) (k : Int) : List (Int × List Int) := if (findK kl k).isSome then kl else kl ++ [(k, styleV (viewT T M) rs k)]
theorem KOK.fresh {T : Tree} {M : Nat → Mk} {rs : List PRu} {kl : List (Int × List Int)} (h : KOK T M rs kl) {k : Nat} {l : List Nat} (hk : (k, l) ∈ T) : KOK T M rs (freshK T M rs kl k) := by
  unfold freshK
  cases hf : findK kl k with
  | none => exact h.more hk (findK_none hf)
  | some s => exact h
theorem one_l (l : List Int) : ∀ v ∈ intsZ l, v.oneCell' = true := by
  intro v hv
  obtain ⟨y, _, rfl⟩ := List.mem_map.1 hv
  rfl
section
variable {w w' : World} {b : Nat} {vS : Value × Value} {v : Value} {els : List PEl} {T : Tree} {made : Nat} {M : Nat → Mk} {rs : List PRu} {kl : List (Int × List Int)} {G : Nat → Prop}
theorem own_two {e1 e2 : TypeId} {s1 s2 n1 n2 : Nat} {v1 v2 : Value} {x1 x2 : List Value} (h1 : w.ownsRow 0 e1 s1 v1 n1 x1) (h2 : w.ownsRow 0 e2 s2 v2 n2 x2) (hne : e1 ≠ e2) {k : Nat} (hk : v1.ownBlock = some k) : v2.ownBlock ≠ some k := by
  rcases h1.2 with ⟨rfl, _⟩ | ⟨g, cap, cur, rfl, _, hg, _⟩
  · cases hk
  · have : g = k := by simpa [Value.ownBlock] using hk
    subst this
    exact own_ne_type h2 hg hne
theorem DM.kept (h : DM w b vS v els T made M rs kl G) {kl' : List (Int × List Int)} {e : Ending} (hp : PKeepPost w b vS v made kl' e w') (hl : kl'.length ≤ 24) : e = .returned (.tuple #[]) ∧ ∃ v2, DM w' b (vS.1, v2) v els T made M rs kl' G ∧ Fr w w' (fun j => j = b ∨ vS.2.ownBlock = some j) ∧ ∀ j, v2.ownBlock = some j → vS.2.ownBlock = some j ∨ w.heap.size ≤ j := by
  obtain ⟨rfl, v2, hb, hk, hf, hj⟩ := hp
  have hvb : v.ownBlock ≠ some b := own_ne_type h.pb.pl.row h.pb.doc (by decide)
  refine ⟨rfl, v2, ⟨⟨hb, ⟨own_keepW h.pb.pl.row (fun k hk2 hl2 => hf.block k hl2 (fun e => ?_)), h.pb.pl.ok⟩, h.pb.pt, h.pb.few⟩, h.tw, h.mks, h.sh.keep (fun k hg hl2 => hf.block k hl2 (fun e => ?_)) hf.size, hk, hl, fun k hg => Nat.lt_of_lt_of_le (h.gl k hg) hf.size, h.gb, h.gv, fun j hj2 hg => ?_⟩, hf, hj⟩
  · rcases e with e | e
    · exact hvb (e ▸ hk2)
    · exact own_two h.pb.pl.row h.kp.row (by decide) hk2 e
  · rcases e with e | e
    · exact h.gb (e ▸ hg)
    · exact h.gk k e hg
  · rcases hj j hj2 with h1 | h1
    · exact h.gk j h1 hg
    · have := h.gl j hg; omega
theorem DM.aside (h : DM w b vS v els T made M rs kl G) (hk : ∀ j, j = b ∨ v.ownBlock = some j ∨ vS.2.ownBlock = some j ∨ G j → w'.heap[j]? = w.heap[j]?) (hz : w.heap.size ≤ w'.heap.size) : DM w' b vS v els T made M rs kl G :=
  ⟨⟨(hk b (Or.inl rfl)).trans h.pb.doc, ⟨own_keepW h.pb.pl.row (fun k hk2 _ => hk k (Or.inr (Or.inl hk2))), h.pb.pl.ok⟩, h.pb.pt, h.pb.few⟩, h.tw, h.mks, h.sh.keep (fun k hg _ => hk k (Or.inr (Or.inr (Or.inr hg)))) hz, ⟨own_keepW h.kp.row (fun k hk2 _ => hk k (Or.inr (Or.inr (Or.inl hk2)))), h.kp.nine⟩, h.few, fun k hg => Nat.lt_of_lt_of_le (h.gl k hg) hz, h.gb, h.gv, h.gk⟩
theorem there_keep {wx wy : World} {g o n : Nat} (h : wx.there g o n) (hk : wy.heap[g]? = wx.heap[g]?) : wy.there g o n := fun j hj => by
  obtain ⟨h1, h2⟩ := h j hj
  unfold World.cell? at h1 ⊢
  unfold World.frozen? at h2 ⊢
  rw [hk]
  exact ⟨h1, h2⟩
theorem heap_setCells (g : Nat) : ∀ (vs : List Value) (o : Nat) (wx : World) (k : Nat), k ≠ g → (wx.setCells g o vs).heap[k]? = wx.heap[k]?
  | [], _, _, _, _ => rfl
  | u :: vs, o, wx, k, hk => (heap_setCells g vs (o + 1) _ k hk).trans (Below.heap_setCell wx ⟨g, o, none⟩ u k hk)
theorem Fr.sets {wa : World} {S : Nat → Prop} {g : Nat} (hg : S g ∨ wa.heap.size ≤ g) : ∀ (vs : List Value) (o : Nat) {wx : World}, Fr wa wx S → Fr wa (wx.setCells g o vs) S
  | [], _, _, h => h
  | u :: vs, o, _, h => Fr.sets hg vs (o + 1) (h.set (p := ⟨g, o, none⟩) hg u)
theorem DM.own_lt (h : DM w b vS v els T made M rs kl G) {k : Nat} (hk : k = b ∨ vS.2.ownBlock = some k) : k < w.heap.size := by
  rcases hk with rfl | hk
  · exact h.lt
  · exact (h.kp.row.lt k hk).2
end
section
set_option maxRecDepth 100000
set_option maxHeartbeats 4000000
variable (w : World) (b : Nat) (vS : Value × Value) (v : Value) (els : List PEl) (T : Tree) (made : Nat) (M : Nat → Mk) (rs : List PRu) (kl : List (Int × List Int)) (G : Nat → Prop)
def FreshPost (k : Nat) (e : Ending) (w' : World) : Prop :=
  e = .returned (.agg (intsZ (styleV (viewT T M) rs k)).toArray) ∧ ∃ v2, DM w' b (vS.1, v2) v els T made M rs (freshK T M rs kl k) G ∧ Fr w w' (fun j => j = b ∨ vS.2.ownBlock = some j) ∧ ∀ j, v2.ownBlock = some j → vS.2.ownBlock = some j ∨ w.heap.size ≤ j
theorem pfreshen_any (k : Nat) (l : List Nat) (comes : List Int) (h : DM w b vS v els T made M rs kl G) (hko : KOK T M rs kl) (hk : (k, l) ∈ T) (hc : comes = comesV T M rs (aboveT T T.length k)) (hc9 : comes.length = 9) :
    Calls Tryz.prog 85 #[.pointer (some ⟨b, 0, none⟩), .int .i64 k, .agg (intsZ comes).toArray] w fun e w' => FreshPost w b vS v els T made M rs kl G k e w' := by
  obtain ⟨a, c, hv⟩ := h.pb.pl.shape
  subst hv
  have HD : Hid (DM w b vS (.slice a els.length c) els T made M rs kl G) := h
  have HKO : Hid (KOK T M rs kl) := hko
  have hbl : b < w.heap.size := h.lt
  have hfew := h.few
  have HOF : Hid (ofP els rs k comes = styleV (viewT T M) rs k) := by
    unfold Hid
    rw [of_view, view_eq h.pb.pt h.tw h.mks.1, style_next h.tw hk, hc]
  have HLEN : Hid ((freshK T M rs kl k).length ≤ 24) := by
    unfold Hid
    have h1 := (hko.fresh hk).len
    have h2 := h.pb.pt.len h.tw
    have h3 := h.pb.few
    omega
  have HC9 : Hid (comes.length = 9) := hc9
  have HSC : Hid ((Tryz.prog.info? 103).map (·.size) = some (intsZ comes).length) := sizeS hc9
  have HB0 : Hid (∀ Z : Array Value, Below w.heap.size w ((w.alloc (.cells (intsZ comes).toArray 103)).alloc (.cells Z 103))) := fun Z => ((Below.refl _ _).alloc (Nat.le_refl _) _).alloc (by simp) _
  clear h hko hk hc
  go_enter Tryz.func85, Tryz.ntmps85
  go_wp2_with fail
  refine (pfindK_any _ b vS.2 kl k (cell_of_blk (HD.out.below (HB0.out _)).pb.doc rfl) (HD.out.below (HB0.out _)).kp hfew).mono ?_
  rintro e w1 ⟨rfl, hB1⟩
  have hz1 : w.heap.size + 2 ≤ w1.heap.size := by have := hB1.size; simpa using this
  have HB1 : Hid (Below w.heap.size w w1) := (HB0.out _).trans (hB1.mono (by simp; omega))
  have HR5 : Hid (w1.rangeAt w.heap.size 0 (intsZ comes)) := range_below hB1 (by simp; omega) (World.rangeAt_alloc (range_new w (intsZ comes) 103) _)
  have HT6 : Hid (w1.there (w.heap.size + 1) 0 9) := by
    refine there_below hB1 (by simp) ?_
    have := there_new (w.alloc (.cells (intsZ comes).toArray 103)) (#[.int .i64 0, .int .i64 0, .int .i64 0, .int .i64 0, .int .i64 0, .int .i64 0, .int .i64 0, .int .i64 0, .int .i64 0] : Array Value) 103 9 (by decide)
    simpa using this
  have HD1 : Hid (DM w1 b vS (.slice a els.length c) els T made M rs kl G) := HD.out.below HB1.out
  clear hB1
  cases hf : findK kl k with
  | some s =>
    have hs := HKO.out.right _ (findK_some hf)
    replace hs : s = styleV (viewT T M) rs k := hs
    have hs9 : s.length = 9 := by rw [hs, styleV_len]
    have HFK : Hid (freshK T M rs kl k = kl) := by unfold Hid freshK; rw [hf]; rfl
    have HS : Hid (s = styleV (viewT T M) rs k) := hs
    clear hf hs
    show _
    simp only [Option.getD_some, Option.isSome_some]
    have HSS : Hid ((Tryz.prog.info? 103).map (·.size) = some (intsZ s).length) := sizeS hs9
    have hlen : (intsZ s).toArray.size = 9 := List.size_toArray.trans (by rw [List.length_map]; exact hs9)
    have HS2 : Hid ((Tryz.prog.info? 103).map (·.size) = some (intsZ s).toArray.size) := by unfold Hid; rw [hlen]; exact Tryz.sizeS
    have HS9 : Hid (9 = (intsZ s).toArray.size) := hlen.symm
    have HO9 : Hid ((intsZ s).toArray.all (·.oneCell') = true) := one_ints s
    have HR7 : Hid ((w1.alloc (.cells (intsZ s).toArray 103)).rangeAt w1.heap.size 0 (intsZ s)) := range_new w1 _ _
    have HTH : Hid ((w1.alloc (.cells (intsZ s).toArray 103)).there (w.heap.size + 1) 0 (intsZ s).toArray.size) := by unfold Hid; rw [hlen]; exact World.there_alloc HT6.out _
    have HRE : Hid (((w1.alloc (.cells (intsZ s).toArray 103)).setCells (w.heap.size + 1) 0 (intsZ s)).rangeAt (w.heap.size + 1) 0 (intsZ s)) := World.rangeAt_setCells_same _ _ 0 _ (by have := HTH.out; rwa [show (intsZ s).toArray.size = (intsZ s).length from List.size_toArray] at this)
    have HBE : Hid (Below w.heap.size w ((w1.alloc (.cells (intsZ s).toArray 103)).setCells (w.heap.size + 1) 0 (intsZ s))) := below_setCells (by omega) _ _ _ (HB1.out.alloc HB1.out.size _)
    have HE : Hid (FreshPost w b vS (.slice a els.length c) els T made M rs kl G k (.returned (.agg (intsZ s).toArray)) ((w1.alloc (.cells (intsZ s).toArray 103)).setCells (w.heap.size + 1) 0 (intsZ s))) := by
      refine ⟨by rw [HS.out], vS.2, ?_, (Fr.refl w _).below HBE.out, fun j hj => Or.inl hj⟩
      rw [HFK.out]
      exact HD.out.below HBE.out
    clear hlen HD1 HB1 HT6 HR5
    go_wp2_with (first | (refine wpList_store_new rfl 103 _ _ rfl _ (intsZ s).toArray 103 rfl rfl HS2.out HS9.out HO9.out ?_) | (refine wpList_load_mid rfl 103 _ rfl w1.heap.size 0 rfl (intsZ s) _ HR7.out Tryz.underlying103 rfl HSS.out ?_) | (refine wpList_store_mid rfl 103 _ _ rfl (w.heap.size + 1) 0 (intsZ s).toArray rfl rfl HTH.out HS2.out HO9.out ?_))
    exact bodyPost_ret (results_cell Tryz.results85 _ rfl HRE.out Tryz.underlying103 rfl HSS.out) rfl HE.out
  | none =>
    have HFK : Hid (freshK T M rs kl k = kl ++ [((k : Int), styleV (viewT T M) rs k)]) := by unfold Hid freshK; rw [hf]; rfl
    clear hf
    simp only [Option.getD_none, Option.isSome_none]
    obtain ⟨ar, cr, xs, hv1, hrow⟩ := HD1.out.sh.row
    have HQ0 : Hid (w1.cell? ⟨b, 0, none⟩ = some (.slice ar rs.length cr)) := by
      have : w1.cell? ⟨b, 0, none⟩ = some vS.1 := cell_of_blk HD1.out.pb.doc rfl
      unfold Hid
      rw [this, hv1]
    have HRW : Hid (RsRow w1 ar cr xs rs) := hrow
    clear hrow hv1
    have HZ2 : Hid ((Tryz.prog.info? 103).map (·.size) = some (intsZ zeroS).toArray.size) := Tryz.sizeS
    have HZO : Hid ((intsZ zeroS).toArray.all (·.oneCell') = true) := one_ints zeroS
    have HZ9 : Hid (9 = (intsZ zeroS).toArray.size) := rfl
    go_upto_region 4 with (first | (refine wpList_store_new rfl 103 _ _ rfl _ (intsZ zeroS).toArray 103 rfl rfl HZ2.out HZ9.out HZO.out ?_))
    have HB2 : Hid (Below w1.heap.size w1 (w1.alloc (.cells #[.int .i64 0, .int .i64 0, .int .i64 0, .int .i64 0, .int .i64 0, .int .i64 0, .int .i64 0, .int .i64 0, .int .i64 0] 103))) := (Below.refl _ _).alloc (Nat.le_refl _) _
    have HT7 : Hid ((w1.alloc (.cells #[.int .i64 0, .int .i64 0, .int .i64 0, .int .i64 0, .int .i64 0, .int .i64 0, .int .i64 0, .int .i64 0, .int .i64 0] 103)).there w1.heap.size 0 9) := there_new w1 _ _ 9 (by decide)
    have HZ3 : Hid ((w1.alloc (.cells #[.int .i64 0, .int .i64 0, .int .i64 0, .int .i64 0, .int .i64 0, .int .i64 0, .int .i64 0, .int .i64 0, .int .i64 0] 103)).heap.size = w1.heap.size + 1) := by simp [Hid]
    obtain ⟨W2, hW2⟩ : ∃ W2, W2 = w1.alloc (.cells #[.int .i64 0, .int .i64 0, .int .i64 0, .int .i64 0, .int .i64 0, .int .i64 0, .int .i64 0, .int .i64 0, .int .i64 0] 103) := ⟨_, rfl⟩
    rw [← hW2] at HB2 HT7 HZ3 ⊢
    clear hW2
    have hz2 := HZ3.out
    obtain ⟨L, hL⟩ : ∃ L, ofP els rs k comes = L := ⟨_, rfl⟩
    have HL : Hid (L = styleV (viewT T M) rs k) := by unfold Hid; rw [← hL]; exact HOF.out
    have hL9 : L.length = 9 := by rw [← hL]; exact ofP_len _ _ _ _
    have HLO : Hid (ofP els rs k comes = L) := hL
    clear hL
    have hLl : (intsZ L).length = 9 := by rw [List.length_map]; exact hL9
    have hLs : (Tryz.prog.info? 103).map (·.size) = some (intsZ L).length := sizeS hL9
    have hLo : ∀ v ∈ intsZ L, v.oneCell' = true := one_l L
    have HSCm := HSC.out
    have hUA := Tryz.underlying103
    have HC : Hid (∀ wx, Below W2.heap.size W2 wx → wx.cell? ⟨b, 0, none⟩ = some (.slice ar rs.length cr) ∧ wx.rangeAt w.heap.size 0 (intsZ comes) ∧ wx.there w1.heap.size 0 9) := fun wx hb => ⟨(hb.cell (p := ⟨b, 0, none⟩) (by show b < _; omega)).trans ((HB2.out.cell (p := ⟨b, 0, none⟩) (by show b < _; omega)).trans HQ0.out), range_below hb (by omega) (range_below HB2.out (by omega) HR5.out), there_below hb (by omega) HT7.out⟩
    have H0 : Hid (Below W2.heap.size W2 W2.drew) := (Below.refl _ _).drew
    have HCS : Hid (∀ wx : World, (wx.cell? ⟨b, 0, none⟩ = some (.slice ar rs.length cr) ∧ wx.rangeAt w.heap.size 0 (intsZ comes) ∧ wx.there w1.heap.size 0 9) → (wx.setCells w1.heap.size 0 (intsZ L)).cell? ⟨b, 0, none⟩ = some (.slice ar rs.length cr) ∧ (wx.setCells w1.heap.size 0 (intsZ L)).rangeAt w.heap.size 0 (intsZ comes) ∧ (wx.setCells w1.heap.size 0 (intsZ L)).there w1.heap.size 0 9) := fun wx ⟨h1, h2, h3⟩ => ⟨(World.cell?_setCells_out w1.heap.size (intsZ L) 0 wx ⟨b, 0, none⟩ (fun e => by replace e : b = w1.heap.size := e; omega)).trans h1, World.rangeAt_setCells_apart h2 _ _ _ (Or.inl (by omega)), World.there_setCells h3 _ _ _⟩
    go_cut [7] (fun v7 wx => v7 = .pointer (some ⟨w1.heap.size, 0, none⟩) ∧ Hid (Below w1.heap.size w1 wx ∧ wx.rangeAt w1.heap.size 0 (intsZ L) ∧ w1.heap.size < wx.heap.size))
    case first =>
      go_region_held3 (fun w' => w'.cell? ⟨b, 0, none⟩ = some (.slice ar rs.length cr) ∧ w'.rangeAt w.heap.size 0 (intsZ comes) ∧ w'.there w1.heap.size 0 9) (first | exact HC.out _ H0.out | exact HC.out _ HX.out | exact HCS.out _ (HC.out _ HX.out))
        (first | (go_at_call 127; refine (pof_any _ b a c els k ar cr xs rs comes HC9.out ((HD1.out.below HB2.out).below (H0.out)).trd ((HRW.out.below HB2.out).below H0.out)).mono ?_; rw [HLO.out]; rintro e w5 ⟨rfl, hB5⟩; have HX : Hid (Below W2.heap.size W2 w5) := H0.out.trans hB5; clear hB5))
      all_goals
        go_wp2_with fail
        go_meet
        refine ⟨rfl, below_setCells (Nat.le_refl _) _ _ _ (HB2.out.trans (HX.out.mono HB2.out.size)), World.rangeAt_setCells_same _ _ 0 _ (by rw [hLl]; exact (HC.out _ HX.out).2.2), ?_⟩
        rw [size_setCells]
        have := HX.out.size
        omega
    case rest =>
      obtain ⟨rfl, HX⟩ := hcut
      obtain ⟨W4, rfl⟩ : ∃ W4, W4 = wc := ⟨_, rfl⟩
      have HD4 : Hid (DM W4 b vS (.slice a els.length c) els T made M rs kl G) := HD1.out.below HX.out.1
      have HT6' : Hid (W4.there (w.heap.size + 1) 0 9) := there_below HX.out.1 (by omega) HT6.out
      have hz4 := HX.out.2.2
      have HR7 : Hid (W4.rangeAt w1.heap.size 0 (intsZ L)) := HX.out.2.1
      have HF4 : Hid (Fr w W4 (fun j => j = b ∨ vS.2.ownBlock = some j)) := ((Fr.refl w _).below HB1.out).below HX.out.1
      have HR0 : Hid (W4.drew.rangeAt w1.heap.size 0 (intsZ L)) := HR7.out
      have hLt := hLl
      clear HX HC HCS H0 HT7 HB2 HZ3 hz2 HRW HQ0
      have HLK : Hid ((kl ++ [((k : Int), L)]).length ≤ 24) := by have := HLEN.out; rw [HFK.out] at this; simpa [Hid] using this
      have HGO : Hid (∀ j, j = b ∨ vS.2.ownBlock = some j → j < w.heap.size) := fun j hj => HD.out.own_lt hj
      have HKR : Hid (∀ w6, Fr W4.drew w6 (fun j => j = b ∨ vS.2.ownBlock = some j) → w6.rangeAt w1.heap.size 0 (intsZ L)) := fun w6 hf => range_keep HR0.out (hf.block w1.heap.size hz4 (fun e => by have := HGO.out _ e; omega))
      have HDd : Hid (DM W4.drew b vS (.slice a els.length c) els T made M rs kl G) := HD4.out.below (Below.refl W4.heap.size W4).drew
      go_upto_region 5 with fail
      go_cut [7] (fun v7 wx => v7 = .pointer (some ⟨w1.heap.size, 0, none⟩) ∧ Hid (∃ v2, DM wx b (vS.1, v2) (.slice a els.length c) els T made M rs (kl ++ [((k : Int), L)]) G ∧ Fr W4.drew wx (fun j => j = b ∨ vS.2.ownBlock = some j) ∧ ∀ j, v2.ownBlock = some j → vS.2.ownBlock = some j ∨ W4.heap.size ≤ j))
      case first =>
        go_region_held3 (fun w' => w'.rangeAt w1.heap.size 0 (intsZ L)) (first | exact HR0.out | exact HKR.out _ HY.out.2.1)
          (first | (go_at_call 128; refine (pkeep_any _ b vS (.slice a els.length c) made kl k L HDd.out.pb.doc HDd.out.kp hfew hL9).mono ?_; intro e w6 hp; obtain ⟨rfl, v2, hd6, hf6, hj6⟩ := HDd.out.kept hp HLK.out; have HY : Hid (DM w6 b (vS.1, v2) (.slice a els.length c) els T made M rs (kl ++ [((k : Int), L)]) G ∧ Fr W4.drew w6 (fun j => j = b ∨ vS.2.ownBlock = some j) ∧ ∀ j, v2.ownBlock = some j → vS.2.ownBlock = some j ∨ W4.heap.size ≤ j) := ⟨hd6, hf6, hj6⟩; clear hp hd6 hf6 hj6))
        all_goals
          go_wp2_with fail
          go_meet
          exact ⟨rfl, v2, HY.out⟩
      case rest =>
        obtain ⟨rfl, HY⟩ := hcut
        obtain ⟨W6, rfl⟩ : ∃ W6, W6 = wc := ⟨_, rfl⟩
        obtain ⟨v2, hY⟩ := HY.out
        have HY2 : Hid (DM W6 b (vS.1, v2) (.slice a els.length c) els T made M rs (kl ++ [((k : Int), L)]) G ∧ Fr W4.drew W6 (fun j => j = b ∨ vS.2.ownBlock = some j) ∧ ∀ j, v2.ownBlock = some j → vS.2.ownBlock = some j ∨ W4.heap.size ≤ j) := hY
        have HR6 : Hid (W6.rangeAt w1.heap.size 0 (intsZ L)) := HKR.out W6 HY2.out.2.1
        have hlen : (intsZ L).toArray.size = 9 := List.size_toArray.trans hLl
        have hz6 : W4.heap.size ≤ W6.heap.size := HY2.out.2.1.size
        have HTH : Hid (W6.there (w.heap.size + 1) 0 (intsZ L).toArray.size) := by
          unfold Hid
          rw [hlen]
          exact there_keep (HT6'.out : W4.drew.there _ _ _) (HY2.out.2.1.block (w.heap.size + 1) (by show w.heap.size + 1 < W4.heap.size; omega) (fun e => by have := HGO.out _ e; omega))
        have HS2 : Hid ((Tryz.prog.info? 103).map (·.size) = some (intsZ L).toArray.size) := by unfold Hid; rw [hlen]; exact Tryz.sizeS
        have HSL : Hid ((Tryz.prog.info? 103).map (·.size) = some (intsZ L).length) := hLs
        have HO9 : Hid ((intsZ L).toArray.all (·.oneCell') = true) := one_ints L
        have HRE : Hid ((W6.setCells (w.heap.size + 1) 0 (intsZ L)).rangeAt (w.heap.size + 1) 0 (intsZ L)) := World.rangeAt_setCells_same _ _ 0 _ (by have := HTH.out; rwa [show (intsZ L).toArray.size = (intsZ L).length from List.size_toArray] at this)
        have HE : Hid (FreshPost w b vS (.slice a els.length c) els T made M rs kl G k (.returned (.agg (intsZ L).toArray)) (W6.setCells (w.heap.size + 1) 0 (intsZ L))) := by
          refine ⟨by rw [HL.out], v2, ?_, ?_, fun j hj => (HY2.out.2.2 j hj).imp id (fun h => by omega)⟩
          · rw [HFK.out, ← HL.out]
            refine HY2.out.1.aside (fun j hj => heap_setCells _ _ _ _ _ (fun e => ?_)) (by rw [size_setCells]; exact Nat.le_refl _)
            subst e
            rcases hj with h1 | h1 | h1 | h1
            · omega
            · have := (HD.out.pb.pl.row.lt _ h1).2; omega
            · rcases HY2.out.2.2 _ h1 with h2 | h2
              · have := HGO.out _ (Or.inr h2); omega
              · omega
            · have := HD.out.gl _ h1; omega
          · have hF6 : Fr w W6 (fun j => j = b ∨ vS.2.ownBlock = some j) := (HF4.out.drew1).trans HY2.out.2.1
            exact Fr.sets (Or.inr (by omega)) _ _ hF6
        clear HY HY2 hY hlen HKR HR0 HT6' HF4 HR7 HDd HD4 HB1 HR5 HT6 HD1
        go_wp2_with (first | (refine wpList_load_mid rfl 103 _ rfl w1.heap.size 0 rfl (intsZ L) _ HR6.out Tryz.underlying103 rfl HSL.out ?_) | (refine wpList_store_mid rfl 103 _ _ rfl (w.heap.size + 1) 0 (intsZ L).toArray rfl rfl HTH.out HS2.out HO9.out ?_))
        exact bodyPost_ret (results_cell Tryz.results85 _ rfl HRE.out Tryz.underlying103 rfl HSL.out) rfl HE.out
end
end Go.Proofs.YtblfffbmklkhmaaGreat

namespace Go.Proofs.YtblfffbmklkhmaaGreat
open Go.RowKit
section
set_option maxRecDepth 100000
set_option maxHeartbeats 4000000
variable (w : World) (b : Nat) (a : Option Addr) (c : Nat) (els : List PEl) (n : Int)
theorem pabove_own (h : TRd w b a c els) : Calls Tryz.prog 84 #[.pointer (some ⟨b, 1, none⟩), .int .i64 n] w fun e w' => PRowI w (aboveP els els.length n) e w' := by
  obtain ⟨i0, hi, iz0, iz1, iz2⟩ := info_parts Tryz.info3
  have HT : Hid (TRd w b a c els) := h
  have hfew := h.few
  have q0 := h.cell
  clear h
  go_enter Tryz.func84, Tryz.ntmps84
  go_wp2_with fail
  go_loopg [1, 5, 11] els.length (fun gk nv v iv wr => ∃ (i : Nat) (m : Int) (L : List Int), iv = .int .i64 i ∧ nv = .int .i64 m ∧ i ≤ els.length ∧ els.length - i ≤ gk ∧ L.length ≤ i ∧ Hid (wr.ownsRow w.heap.size 3 1 v L.length (intsZ L) ∧ Below w.heap.size w wr ∧ aboveP els els.length n = L ++ aboveP els (els.length - i) m))
  case atStart => exact ⟨0, n, [], rfl, rfl, Nat.zero_le _, by omega, by simp, World.ownsRow_nil _ _ _ _, Below.refl _ _, by simp⟩
  case round =>
    obtain ⟨i, m, L, rfl, rfl, hil, hgk, hL, HN⟩ := hrel
    obtain ⟨a2, c2, hv2⟩ := own_shape HN.out.1
    subst hv2
    have hbz := HN.out.2.1.size
    by_cases hlt : i < els.length
    · have hd : decide ((i : Int) < (els.length : Int)) = true := by simp; omega
      have HT1 : Hid (TRd wr b a c els) := HT.out.below HN.out.2.1
      clear q0
      go_wp2_with fail
      refine (pparentOf_any wr b _ els m HT1.out.cell HT1.out.pl hfew).mono ?_
      rintro e w1 ⟨rfl, hB1⟩
      have hB2 : Below w.heap.size w w1 := HN.out.2.1.trans (hB1.mono hbz)
      have HO : Hid (w1.ownsRow w.heap.size 3 1 (.slice a2 L.length c2) L.length (intsZ L)) := own_below HN.out.1 (hB1.mono (Nat.le_refl _))
      have hbz1 := hB2.size
      have HB2 : Hid (Below w.heap.size w w1) := hB2
      clear hB1 hB2
      by_cases hp : parP els m = -1
      · have gp : (parP els m == -1) = true := by simp [hp]
        have HE : Hid (PRowI w (aboveP els els.length n) (.returned (.slice a2 L.length c2)) w1) := by
          have e1 : aboveP els els.length n = L := by rw [HN.out.2.2, above_stop hp, List.append_nil]
          unfold Hid
          rw [e1]
          exact ⟨a2, c2, rfl, HO.out, HB2.out⟩
        clear hp
        generalize parP els m = p at gp ⊢
        go_wp2
        go_ret
        exact HE.out
      · have gp : (parP els m == -1) = false := by simp [hp]
        have HA : Hid (aboveP els els.length n = (L ++ [parP els m]) ++ aboveP els (els.length - (i + 1)) (parP els m)) := by
          unfold Hid
          rw [HN.out.2.2, show els.length - i = els.length - (i + 1) + 1 from by omega, above_go hp]
          simp
        clear hp HN
        generalize parP els m = p at gp HA ⊢
        go_wp2_with (at_builtin; refine wpList_append_own _ rfl (.tmp 19) (.tmp 21) 40 rfl w.heap.size 3 i0 (.int .i64 0) 1 8 Tryz.underlying40 hi iz0 iz1 iz2 rfl (by decide) _ _ _ rfl (HO.out.alloc _) ⟨w1.heap.size, 0, none⟩ 1 1 [.int .i64 p] rfl rfl ?c1 ?c2 ?c3 ?c4 ?c5 ?_)
        case c1 => exact new_cells w1 _ rfl _ _ _ rfl
        case c2 => exact one_z p
        case c3 => unfold maxLen; omega
        case c4 => omega
        case c5 => simp; omega
        intro v5 w5 own5 hg5 _
        have HN5 : Hid (w5.ownsRow w.heap.size 3 1 v5 (L ++ [p]).length (intsZ (L ++ [p])) ∧ Below w.heap.size w w5 ∧ aboveP els els.length n = (L ++ [p]) ++ aboveP els (els.length - (i + 1)) p) :=
          ⟨by simpa using own5, (HB2.out.alloc hbz1 _).grown hg5 (by simp; omega) (fun k hk => (HO.out.lt k hk).1), HA.out⟩
        have hL2 : (L ++ [p]).length ≤ i + 1 := by simp; omega
        clear own5 hg5 HO HB2 HA HT1
        generalize L ++ [p] = L2 at HN5 hL2
        go_wp2
        go_roundg (els.length - (i + 1))
        case measure => omega
        case rel => exact ⟨i + 1, p, L2, by go_num, rfl, by omega, Nat.le_refl _, hL2, HN5⟩
    · have hd : decide ((i : Int) < (els.length : Int)) = false := by simp; omega
      obtain rfl : i = els.length := by omega
      have HE : Hid (PRowI w (aboveP els els.length n) (.returned (.slice a2 L.length c2)) wr) := by
        have e1 : aboveP els els.length n = L := by rw [HN.out.2.2, Nat.sub_self]; exact List.append_nil _
        unfold Hid
        rw [e1]
        exact ⟨a2, c2, rfl, HN.out.1, HN.out.2.1⟩
      go_wp2
      go_ret
      exact HE.out
end
end Go.Proofs.YtblfffbmklkhmaaGreat

namespace Go.Proofs.YtblfffbmklkhmaaGreat
open Go.RowKit
/-- What is kept when an element and all above it have been made fresh. -/
def chainK (T : Tree) (M : Nat → Mk) (rs : List PRu) (kl : List (Int × List Int)) (xs : List Int) : List (Int × List Int) := xs.foldr (fun x kl => freshK T M rs kl x) kl
def styleK (T : Tree) (M : Nat → Mk) (rs : List PRu) (kl : List (Int × List Int)) (k : Int) : List (Int × List Int) := freshK T M rs (chainK T M rs kl (aboveT T T.length k)) k
theorem comes_len (T : Tree) (M : Nat → Mk) (rs : List PRu) (xs : List Int) : (comesV T M rs xs).length = 9 := by
  cases xs with
  | nil => rfl
  | cons x xs => exact styleV_len _ _ _
theorem chain_kok {T : Tree} {M : Nat → Mk} {rs : List PRu} {kl : List (Int × List Int)} (h : KOK T M rs kl) : ∀ (xs : List Int), (∀ x ∈ xs, ∃ k l, x = ((k : Nat) : Int) ∧ (k, l) ∈ T) → KOK T M rs (chainK T M rs kl xs)
  | [], _ => h
  | x :: xs, hx => by
    obtain ⟨k, l, rfl, hk⟩ := hx x List.mem_cons_self
    exact (chain_kok h xs (fun y hy => hx y (List.mem_cons_of_mem _ hy))).fresh hk
theorem above_mem {T : Tree} {made : Nat} (h : TW T made) {k : Nat} {l : List Nat} (hk : (k, l) ∈ T) : ∀ x ∈ aboveT T T.length k, ∃ j lj, x = ((j : Nat) : Int) ∧ (j, lj) ∈ T := fun x hx => by
  obtain ⟨i, hi, rfl⟩ := List.getElem_of_mem hx
  obtain ⟨j, lj, h1, h2, _⟩ := above_drop h i hk (List.getElem?_eq_getElem hi)
  exact ⟨j, lj, h1, h2⟩
theorem style_kok {T : Tree} {made : Nat} {M : Nat → Mk} {rs : List PRu} {kl : List (Int × List Int)} (h : KOK T M rs kl) (hw : TW T made) {k : Nat} {l : List Nat} (hk : (k, l) ∈ T) : KOK T M rs (styleK T M rs kl k) := (chain_kok h _ (above_mem hw hk)).fresh hk
theorem above_len {T : Tree} : ∀ (n : Nat) (e : Int), (aboveT T n e).length ≤ n
  | 0, _ => by simp [aboveT]
  | n + 1, e => by
    show (if tPar T e = -1 then [] else tPar T e :: aboveT T n (tPar T e)).length ≤ n + 1
    split
    · simp
    · have := above_len (T := T) n (tPar T e)
      simp only [List.length_cons]
      omega
section
set_option maxRecDepth 100000
set_option maxHeartbeats 4000000
variable (w : World) (b : Nat) (vS : Value × Value) (v : Value) (els : List PEl) (T : Tree) (made : Nat) (M : Nat → Mk) (rs : List PRu) (kl : List (Int × List Int)) (G : Nat → Prop)
def StylePost (k : Nat) (e : Ending) (w' : World) : Prop :=
  e = .returned (.agg (intsZ (styleV (viewT T M) rs k)).toArray) ∧ ∃ v2, DM w' b (vS.1, v2) v els T made M rs (styleK T M rs kl k) G ∧ Fr w w' (fun j => j = b ∨ vS.2.ownBlock = some j) ∧ ∀ j, v2.ownBlock = some j → vS.2.ownBlock = some j ∨ w.heap.size ≤ j
/-- In the midst of styleOf: m of those above are still to come. -/
structure SOI (w2 : World) (t5 : Nat) (al : Option Addr) (xs : List Int) (m : Nat) (v2 : Value) (wr : World) : Prop where
  dm : DM wr b (vS.1, v2) v els T made M rs (chainK T M rs kl (xs.drop m)) G
  fr : Fr w wr (fun j => j = b ∨ vS.2.ownBlock = some j)
  own : ∀ j, v2.ownBlock = some j → vS.2.ownBlock = some j ∨ w2.heap.size ≤ j
  rng : wr.rangeAt t5 0 (intsZ (comesV T M rs (xs.drop m)))
  thr : wr.there t5 0 9
  res : wr.there w.heap.size 0 9
  row : RowI wr al xs
  far : w2.heap.size ≤ wr.heap.size
end
section
variable {w : World} {b : Nat} {vS : Value × Value} {v : Value} {els : List PEl} {T : Tree} {made : Nat} {M : Nat → Mk} {rs : List PRu} {kl : List (Int × List Int)} {G : Nat → Prop}
variable {w2 : World} {t5 : Nat} {al : Option Addr} {xs : List Int} {m : Nat} {v2 : Value} {wr : World}
/-- Blocks that a call for one more element leaves alone. -/
theorem SOI.alone (h : SOI w b vS v els T made M rs kl G w2 t5 al xs m v2 wr) (h0 : ∀ j, j = b ∨ vS.2.ownBlock = some j → j < w.heap.size) {j : Nat} (h1 : w.heap.size ≤ j) (h2 : j < w2.heap.size) : ¬ (j = b ∨ v2.ownBlock = some j) := by
  rintro (e | e)
  · have := h0 j (Or.inl e); omega
  · rcases h.own j e with e | e
    · have := h0 j (Or.inr e); omega
    · omega
end
end Go.Proofs.YtblfffbmklkhmaaGreat
