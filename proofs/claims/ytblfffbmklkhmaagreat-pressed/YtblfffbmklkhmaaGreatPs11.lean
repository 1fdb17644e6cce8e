/- Own work. -/
import Derived.Test.YtblfffbmklkhmaaGreatPs10
import Derived.Test.YtblfffbmklkhmaaGreatPs9
namespace Go.Proofs.YtblfffbmklkhmaaGreat
open Go.RowKit
theorem pt_within {els : List PEl} {T : Tree} {made : Nat} (h : PT els T) (hw : TW T made) {x : PEl} (hx : x ∈ els) {a : Int} (ha : 0 ≤ a) : (∃ k, k < els.length ∧ upP els k x.num = a) ↔ tUnder T a x.num := by
  obtain ⟨l, hl⟩ := h.to' x hx
  rw [hw.short ha ⟨l, hl⟩, h.len hw]
  constructor
  · rintro ⟨k, h1, h2⟩
    exact ⟨k, h1, by rw [← h.upP hw]; exact h2⟩
  · rintro ⟨k, h1, h2⟩
    exact ⟨k, h1, by rw [h.upP hw]; exact h2⟩
noncomputable def remP (T : Tree) (a : Int) (els : List PEl) : List PEl := els.filter fun e => !tUnderB T a e.num
theorem rem_take {els : List PEl} {i : Nat} (T : Tree) (a : Int) (h : i < els.length) : remP T a (els.take (i + 1)) = if tUnderB T a els[i].num = true then remP T a (els.take i) else remP T a (els.take i) ++ [els[i]] := by
  unfold remP
  rw [List.take_succ_eq_append_getElem h, List.filter_append]
  cases hu : tUnderB T a els[i].num <;> simp [hu]
theorem rem_len (T : Tree) (a : Int) (els : List PEl) : (remP T a els).length ≤ els.length := List.length_filter_le _ _
theorem TW.par_neg {T : Tree} {made : Nat} (h : TW T made) {a : Nat} {l : List Nat} (ha : (a, l) ∈ T) : tPar T a < 0 ↔ a = 0 := by
  constructor
  · intro h1
    by_cases h0 : a = 0
    · exact h0
    · obtain ⟨q, _, _, hq⟩ := h.up ha h0
      omega
  · rintro rfl
    have := h.root_par
    show tPar T ((0 : Nat) : Int) < 0
    have e : tPar T ((0 : Nat) : Int) = tPar T 0 := rfl
    omega
def PRemPost (w : World) (b : Nat) (vS : Value × Value) (v : Value) (els : List PEl) (T : Tree) (made : Nat) (n : Int) (e : Ending) (w' : World) : Prop :=
  ∃ y T' v' els', e = .returned (.int .i64 y) ∧ TRem T n y T' ∧ PB3 w' b vS v' els' T' made ∧ Fr w w' (fun k => k = b) ∧ (∀ j, v'.ownBlock = some j → v.ownBlock = some j ∨ w.heap.size ≤ j) ∧ ∀ M, MkO els M → MkO els' M
set_option maxRecDepth 100000 in
set_option maxHeartbeats 4000000 in
theorem prem_any (w : World) (b : Nat) (vS : Value × Value) (v : Value) (els : List PEl) (T : Tree) (made : Nat) (n : Int) (h : PB3 w b vS v els T made) (hw : TW T made) :
    Calls Tryz.prog 155 #[.pointer (some ⟨b, 1, none⟩), .int .i64 n] w fun e w' => PRemPost w b vS v els T made n e w' := by
  obtain ⟨i0, z0, hi, iz, is, ib, izs⟩ := Tryz.infoE
  have HB : Hid (PB3 w b vS v els T made) := h
  have HW : Hid (TW T made) := hw
  have hfew := h.few
  clear h hw
  have HERR : Hid (∀ (y : Int) (w' : World), Below w.heap.size w w' → y ≠ 0 → tRemErr T n = y → PRemPost w b vS v els T made n (.returned (.int .i64 y)) w') := fun y w' hb hy he =>
    ⟨y, T, v, els, rfl, ⟨he.symm, Or.inl ⟨hy, rfl⟩⟩, HB.out.below hb, (Fr.refl w _).below hb, fun j hj => Or.inl hj, fun M hM => hM⟩
  go_enter Tryz.func155, Tryz.ntmps155
  go_wp2_with fail
  refine (pfind_any w b v els n HB.out.c1 HB.out.pl hfew).mono ?_
  rintro e w1 ⟨hB1, ⟨hf, rfl⟩ | ⟨ip, xp, _, hf, rfl⟩⟩
  · have HE := HERR.out 5 w1 hB1 (by decide) (by unfold tRemErr; rw [HB.out.pt.find_none hf])
    clear hf
    go_wp2
    go_ret
    exact HE
  · obtain ⟨hTf, hTm, hpar⟩ := HB.out.pt.find_some HW.out hf
    have HT : Hid (tFind T n = some (kidsP els n) ∧ (xp.num, kidsP els n) ∈ T ∧ n = xp.num) := ⟨hTf, hTm, hpar⟩
    clear hf hTf hTm hpar
    by_cases h0 : n = 0
    · have g0 : (n == 0) = true := by simp [h0]
      have HE := HERR.out 6 w1 hB1 (by decide) (by
        unfold tRemErr
        rw [HT.out.1]
        show (if _ then _ else _) = _
        have h1 := HT.out.2.2
        rw [if_pos (by rw [h1]; exact (HW.out.par_neg HT.out.2.1).2 (by omega))])
      clear h0
      go_wp2
      go_ret
      exact HE
    · have g0 : (n == 0) = false := by simp [h0]
      have H0 : Hid (xp.num ≠ 0) := by have h1 := HT.out.2.2; unfold Hid; omega
      have HOK : Hid (tRemErr T n = 0) := by
        unfold Hid tRemErr
        rw [HT.out.1]
        show (if _ then _ else _) = _
        have h1 := HT.out.2.2
        rw [if_neg (by rw [h1]; exact fun hx => H0.out ((HW.out.par_neg HT.out.2.1).1 hx))]
      clear h0
      have HB1 : Hid (PB3 w1 b vS v els T made) := HB.out.below hB1
      have HBW : Hid (Below w.heap.size w w1) := hB1
      have hc1 := HB1.out.c1
      have hbl : b < w1.heap.size := (Array.getElem?_eq_some_iff.1 HB1.out.doc).1
      obtain ⟨a, c, hv⟩ := HB.out.pl.shape
      subst hv
      have HW0 : Hid (WI w1.heap.size w1 w1 (.slice none 0 0) (remP T n (els.take 0))) := ⟨World.ownsRow_nil _ _ _ _, Below.refl _ _⟩
      clear hB1
      go_wp2_with fail
      go_loopg [7, 25] els.length (fun gk v iv wr => ∃ i : Nat, iv = .int .i64 i ∧ i ≤ els.length ∧ els.length - i ≤ gk ∧ Hid (WI w1.heap.size w1 wr v (remP T n (els.take i))))
      case atStart => exact ⟨0, rfl, Nat.zero_le _, by omega, HW0⟩
      case round =>
        obtain ⟨i, rfl, hil, hgk, HN⟩ := hrel
        obtain ⟨a2, c2, hv2⟩ := own_shape HN.out.own
        subst hv2
        have hll : (remP T n (els.take i)).length ≤ 24 := by
          have h1 := rem_len T n (els.take i)
          have h2 : (els.take i).length ≤ els.length := List.length_take_le' _ _
          omega
        have hbz := HN.out.below.size
        by_cases hlt : i < els.length
        · have hd : decide ((i : Int) < (els.length : Int)) = true := by simp; omega
          obtain ⟨g, hg, hgl, he⟩ := HB1.out.pl.el hlt
          subst hg
          have HE : Hid (ElAt wr g (i * 31) els[i].cells els[i].num els[i].par) := he.below HN.out.below hgl
          have HST : Hid (remP T n (els.take (i + 1)) = if tUnderB T n els[i].num = true then remP T n (els.take i) else remP T n (els.take i) ++ [els[i]]) := rem_take T n hlt
          have HUN : Hid ((∃ k, k < els.length ∧ upP els k els[i].num = n) ↔ tUnderB T n els[i].num = true) := by
            unfold Hid
            rw [tUnderB_iff]
            exact pt_within HB.out.pt HW.out (List.getElem_mem hlt) (a := n) (by have := HT.out.2.2; omega)
          clear he
          generalize els[i] = y at HE HST HUN
          obtain ⟨cs, hcs⟩ : ∃ cs, y.cells = cs := ⟨_, rfl⟩
          have HCY : Hid (y.cells = cs) := hcs
          rw [hcs] at HE
          clear hcs
          have c0 : cs[0]? = some (.int .i64 y.num) := HE.out.c0
          generalize remP T n (els.take i) = L at HN HST hll ⊢
          have HEY1 : Hid (ElAt (wr.alloc (.cells cs.toArray 134)) wr.heap.size 0 cs y.num y.par) := HE.out.new wr
          have HB2 : Hid (PB3 (wr.alloc (.cells cs.toArray 134)) b vS (.slice (some ⟨g, 0, none⟩) els.length c) els T made) := HB1.out.below (HN.out.below.alloc hbz _)
          go_wp2_with (first | (refine wpList_load_mid rfl 134 _ rfl g (i * 31) rfl cs _ HE.out.rng Tryz.underlying134 rfl HE.out.size ?_) | (refine wpList_store_new rfl 134 _ _ rfl _ cs.toArray 134 rfl rfl HE.out.size' HE.out.same HE.out.all ?_))
          refine (pwithin_any (wr.alloc (.cells cs.toArray 134)) b _ els y.num n HB2.out.c1 HB2.out.pl hfew).mono ?_
          rintro e w3 ⟨hB3, r, rfl, hr⟩
          have hz3 : wr.heap.size + 1 ≤ w3.heap.size := by have := hB3.size; simpa using this
          have HB3 : Hid (Below (wr.heap.size + 1) (wr.alloc (.cells cs.toArray 134)) w3) := by simpa [Hid] using hB3
          have HN3 : Hid (WI w1.heap.size w1 w3 (.slice a2 L.length c2) L) := ⟨own_below (HN.out.own.alloc _) hB3, (HN.out.below.alloc hbz _).trans (hB3.mono (by simp; omega))⟩
          have HEY3 : Hid (ElAt w3 wr.heap.size 0 cs y.num y.par) := HEY1.out.below HB3.out (by omega)
          have HR : Hid (r = true ↔ tUnderB T n y.num = true) := hr.trans HUN.out
          clear hB3 hr HN HEY1 HE HB3 HB2 c0
          cases r with
          | true =>
            have HW5 : Hid (WI w1.heap.size w1 w3 (.slice a2 L.length c2) (remP T n (els.take (i + 1)))) := by
              rw [HST.out, if_pos (HR.out.1 rfl)]
              exact HN3.out
            clear HST HR
            go_wp2
            go_roundg (els.length - (i + 1))
            case measure => omega
            case rel => exact ⟨i + 1, by go_num, by omega, Nat.le_refl _, HW5⟩
          | false =>
            have HST2 : Hid (remP T n (els.take (i + 1)) = L ++ [y]) := by
              unfold Hid
              rw [HST.out, if_neg (fun hx => by have := HR.out.2 hx; cases this)]
            clear HST HR
            go_wp2_with (first | (refine wpList_load_mid rfl 134 _ rfl (wr.heap.size) (0) rfl cs _ HEY3.out.rng Tryz.underlying134 rfl HEY3.out.size ?_) | (refine wpList_buildOneAt w3.heap.size rfl rfl 83 134 _ rfl cs.toArray rfl i0 z0 Tryz.underlying83 hi iz (HEY3.out.info is) (HEY3.out.pos) (HEY3.out.small) ?_) | (at_builtin; refine wpList_append_own _ rfl (.tmp 35) (.tmp 37) 83 rfl (w1.heap.size) 134 i0 z0 31 48 Tryz.underlying83 hi iz is ib izs (by decide) _ _ _ rfl (HN3.out.own.alloc _) ⟨w3.heap.size, 0, none⟩ 1 1 cs rfl HEY3.out.len1 ?c1 HEY3.out.one ?c3 ?c4 ?c5 ?_))
            case c1 => exact new_cells w3 _ rfl _ _ _ (by simp)
            case c3 => unfold maxLen; omega
            case c4 => omega
            case c5 => simp; omega
            intro v5 w5 own5 hg5 _
            have HW5 : Hid (WI w1.heap.size w1 w5 v5 (remP T n (els.take (i + 1)))) := by
              rw [HST2.out]
              exact HN3.out.app (HN3.out.below.alloc (by omega) _) (by simp; omega) hg5 (by rw [HCY.out]; exact own5)
            clear own5 hg5 HN3 HEY3
            go_wp2
            go_roundg (els.length - (i + 1))
            case measure => omega
            case rel => exact ⟨i + 1, by go_num, by omega, Nat.le_refl _, HW5⟩
        · have hd : decide ((i : Int) < (els.length : Int)) = false := by simp; omega
          obtain rfl : i = els.length := by omega
          rw [List.take_length] at HN hll ⊢
          have HPT : Hid (PT (remP T n els) (tRem T xp.num)) := by
            have h1 := HT.out.2.2
            have := HB.out.pt.rem HW.out HT.out.2.1 H0.out
            rw [← h1] at this
            exact this
          have HB6 : Hid (PB3 (wr.setCell ⟨b, 1, none⟩ (.slice a2 (remP T n els).length c2)) b vS (.slice a2 (remP T n els).length c2) (remP T n els) (tRem T xp.num) made) :=
            HB1.out.set HN.out.below HN.out.own (fun e he => HB.out.pl.ok e (List.mem_filter.1 he).1) HPT.out hll
          have e1 : wr.cell? ⟨b, 1, none⟩ = some (.slice a els.length c) := (HB1.out.below HN.out.below).c1
          have ez : ∀ k, wr.frozen? ⟨b, k, none⟩ = false := fun _ => frozen_of_blk (HB1.out.below HN.out.below).doc
          have HE : Hid (PRemPost w b vS (.slice a els.length c) els T made n (.returned (.int .i64 0)) (wr.setCell ⟨b, 1, none⟩ (.slice a2 (remP T n els).length c2))) := by
            refine ⟨0, _, _, _, rfl, ⟨HOK.out.symm, Or.inr ⟨rfl, xp.num, HT.out.2.2, H0.out, ⟨_, HT.out.2.1⟩, rfl⟩⟩, HB6.out, ?_, fun j hj => Or.inr ?_, fun M hM => hM.sub (fun x hx => (List.mem_filter.1 hx).1)⟩
            · exact (((Fr.refl w (fun k => k = b)).below HBW.out).below HN.out.below).set (p := ⟨b, 1, none⟩) (Or.inl rfl) _
            · have := (HN.out.own.lt j hj).1
              have := HBW.out.size
              omega
          clear hc1
          generalize (remP T n els).length = n5 at HE HB6 hll ⊢
          go_wp2
          go_ret
          exact HE.out
end Go.Proofs.YtblfffbmklkhmaaGreat

namespace Go.Proofs.YtblfffbmklkhmaaGreat
open Go.RowKit
structure Vw where
  ty : Int → Int → Bool
  cl : Int → Int → Bool
  nm : Int → Int → Bool
  ab : Int → List Int
  ah : Int → List Int
  la : Int → Bool
  em : Int → Bool
def simpV (v : Vw) (p : PPt) (e : Int) : Bool :=
  if p.kd = 1 then v.ty e p.lt else if p.kd = 2 then v.cl e p.lt else if p.kd = 3 then v.nm e p.lt
  else if p.kd = 4 then decide (((v.ah e).length : Int) + 1 = 1) else if p.kd = 5 then v.la e else if p.kd = 6 then v.em e
  else if p.kd = 7 then nthP (((v.ah e).length : Int) + 1) p.st p.sr else false
def compV (v : Vw) (c : PCp) (e : Int) : Bool := (c.ty == 0 || v.ty e c.ty) && c.ps.all fun p => simpV v p e != p.nt
def signedV (v : Vw) (sg e : Int) : List Int := if sg = 32 then v.ab e else if sg = 62 then (v.ab e).take 1 else if sg = 126 then v.ah e else if sg = 43 then (v.ah e).take 1 else []
def chainV (v : Vw) : List PCp → Int → Bool
  | [], _ => false
  | [c], e => compV v c e
  | c :: d :: r, e => compV v c e && (signedV v c.sg e).any (chainV v (d :: r))
def matchV (v : Vw) (cs : List PCp) (e : Int) : Bool := chainV v cs.reverse e
def weighStepV (v : Vw) (e : Int) (a : Int × Bool) (cs : List PCp) : Int × Bool := if matchV v cs e then (max a.1 ((cws cs : Nat) : Int), true) else a
def weighV (v : Vw) (e : Int) (ss : List (List PCp)) : Int × Bool := ss.foldl (weighStepV v e) (0, false)
def ruleStepV (v : Vw) (e : Int) (W : List Clm) (r : PRu) : List Clm := if (weighV v e r.ss).2 then afterP W r (weighV v e r.ss).1 else W
def winnersV (v : Vw) (rs : List PRu) (e : Int) : List Clm := rs.foldl (ruleStepV v e) (List.replicate 9 Clm.none)
def ofV (v : Vw) (rs : List PRu) (e : Int) (comes : List Int) : List Int := (List.range 9).map fun p => valueF (winnersV v rs e) comes 9 p
def styleV (v : Vw) (rs : List PRu) (e : Int) : List Int := ofV v rs e ((v.ab e).foldr (fun x comes => ofV v rs x comes) initP)
def viewP (els : List PEl) : Vw := ⟨hasTypeP els, hasClassP els, hasNameP els, aboveP els els.length, aheadP els, lastP els, emptyP els⟩
theorem chain_view (els : List PEl) : ∀ (cs : List PCp) (e : Int), chainR els cs e = chainV (viewP els) cs e
  | [], _ => rfl
  | [_], _ => rfl
  | c :: d :: r, e => by
    have ih : chainR els (d :: r) = chainV (viewP els) (d :: r) := funext fun x => chain_view els (d :: r) x
    show (compP els c e && (signedP els c.sg e).any (chainR els (d :: r))) = (compV (viewP els) c e && (signedV (viewP els) c.sg e).any (chainV (viewP els) (d :: r)))
    rw [ih]
    rfl
theorem match_view (els : List PEl) (cs : List PCp) (e : Int) : matchP els cs e = matchV (viewP els) cs e := chain_view els _ e
theorem weigh_view (els : List PEl) (e : Int) : weighP els e = weighV (viewP els) e := by
  have : weighStep els e = weighStepV (viewP els) e := by
    funext a cs
    unfold weighStep weighStepV
    rw [match_view]
  funext ss
  unfold weighP weighV
  rw [this]
theorem winners_view (els : List PEl) (rs : List PRu) (e : Int) : winnersP els rs e = winnersV (viewP els) rs e := by
  have : ruleStep els e = ruleStepV (viewP els) e := by
    funext W r
    unfold ruleStep ruleStepV
    rw [weigh_view]
  unfold winnersP winnersV
  rw [this]
theorem of_view (els : List PEl) (rs : List PRu) : ofP els rs = ofV (viewP els) rs := by
  funext e comes
  unfold ofP ofV
  rw [winners_view]
def kidsOf (T : Tree) (p : Int) : List Nat := (tFind T p).getD []
def hasTypeT (T : Tree) (M : Nat → Mk) (e l : Int) : Bool := (tFind T e).isSome && (M e.toNat).kd == l
def hasClassT (T : Tree) (M : Nat → Mk) (e l : Int) : Bool := (tFind T e).isSome && (decide (97 ≤ l ∧ l ≤ 122) && (M e.toNat).cl (l - 97).toNat)
def hasNameT (T : Tree) (M : Nat → Mk) (e l : Int) : Bool := (tFind T e).isSome && (M e.toNat).nm == l
def aboveT (T : Tree) : Nat → Int → List Int
  | 0, _ => []
  | k + 1, e => if tPar T e = -1 then [] else tPar T e :: aboveT T k (tPar T e)
def aheadT (T : Tree) (e : Int) : List Int := if (tFind T e).isSome then (((kidsOf T (tPar T e)).takeWhile fun (k : Nat) => decide (¬ (k : Int) = e)).map fun (k : Nat) => (k : Int)).reverse else []
def lastT (T : Tree) (e : Int) : Bool := (tFind T e).isSome && decide (((kidsOf T (tPar T e)).dropWhile fun (k : Nat) => decide (¬ (k : Int) = e)).length ≤ 1)
def emptyT (T : Tree) (e : Int) : Bool := (tFind T e).isSome && (kidsOf T e).isEmpty
def viewT (T : Tree) (M : Nat → Mk) : Vw := ⟨hasTypeT T M, hasClassT T M, hasNameT T M, aboveT T T.length, aheadT T, lastT T, emptyT T⟩
section
variable {els : List PEl} {T : Tree} {made : Nat} {M : Nat → Mk}
theorem findP_isSome (h : PT els T) (hw : TW T made) (e : Int) : (findP els e).isSome = (tFind T e).isSome := by
  cases hf : findP els e with
  | none => rw [h.find_none hf]; rfl
  | some x => rw [(h.find_some hw hf).1]; rfl
theorem above_eq (h : PT els T) (hw : TW T made) : ∀ k e, aboveP els k e = aboveT T k e
  | 0, _ => rfl
  | k + 1, e => by
    have e1 := h.parP hw e
    show (if parP els e = -1 then [] else parP els e :: aboveP els k (parP els e)) = (if tPar T e = -1 then [] else tPar T e :: aboveT T k (tPar T e))
    rw [e1, above_eq h hw k]
theorem split_at {i : Nat} {x : PEl} (hx : els[i]? = some x) : els = els.take i ++ x :: els.drop (i + 1) := by
  obtain ⟨hi, he⟩ := List.getElem?_eq_some_iff.1 hx
  rw [← he, ← List.drop_eq_getElem_cons hi, List.take_append_drop]
theorem kids_split {i : Nat} {x : PEl} (hx : els[i]? = some x) : kidsP els x.par = kidsP (els.take i) x.par ++ x.num :: kidsP (els.drop (i + 1)) x.par := by
  conv => lhs; rw [split_at hx]
  rw [kidsP_append, show x :: els.drop (i + 1) = [x] ++ els.drop (i + 1) from rfl, kidsP_append, kidsP_one, if_pos rfl]
  rfl
theorem not_ahead (hn : (els.map PEl.num).Nodup) {i : Nat} {x : PEl} (hx : els[i]? = some x) : ∀ k ∈ kidsP (els.take i) x.par, k ≠ x.num := by
  intro k hk e
  rw [mem_kidsP] at hk
  obtain ⟨y, hy, _, h2⟩ := hk
  have hs := split_at hx
  rw [hs, List.map_append, List.nodup_append] at hn
  exact hn.2.2 y.num (List.mem_map.2 ⟨y, hy, rfl⟩) x.num (by simp) (by rw [h2, e])
theorem takeWhile_kids (hn : (els.map PEl.num).Nodup) {i : Nat} {x : PEl} (hx : els[i]? = some x) : (kidsP els x.par).takeWhile (fun (k : Nat) => decide (¬ (k : Int) = (x.num : Int))) = kidsP (els.take i) x.par ∧ (kidsP els x.par).dropWhile (fun (k : Nat) => decide (¬ (k : Int) = (x.num : Int))) = x.num :: kidsP (els.drop (i + 1)) x.par := by
  have hna := not_ahead hn hx
  have h1 : ∀ k ∈ kidsP (els.take i) x.par, decide (¬ (k : Int) = (x.num : Int)) = true := fun k hk => by
    have := hna k hk
    rw [decide_eq_true_eq]
    omega
  rw [kids_split hx]
  constructor
  · rw [List.takeWhile_append_of_pos h1]
    simp
  · rw [List.dropWhile_append_of_pos h1]
    simp
/-- The root alone has no parent. -/
theorem root_only (h : PT els T) (hw : TW T made) {x y : PEl} (hx : x ∈ els) (hy : y ∈ els) (h1 : x.par = -1) (h2 : y.par = -1) : x = y := by
  have z : ∀ z ∈ els, z.par = -1 → z.num = 0 := fun z hz hp => by
    by_cases h0 : z.num = 0
    · exact h0
    · obtain ⟨l, hl⟩ := h.to' z hz
      obtain ⟨q, hq, _, hpq⟩ := hw.up hl h0
      have := h.par hw hz
      rw [hp, hpq] at this
      omega
  exact pel_inj h.nums hx hy (by rw [z x hx h1, z y hy h2])
theorem kidsOf_par (h : PT els T) (hw : TW T made) {x : PEl} (hx : x ∈ els) (hp : x.par ≠ -1) : kidsOf T (tPar T x.num) = kidsP els x.par := by
  rw [← h.par hw hx]
  have h2 := h.par hw hx
  rcases tPar_cases T x.num with ⟨h1, _⟩ | ⟨e, he, _, h1⟩
  · rw [h1] at h2; exact absurd h2 hp
  · rw [h2, h1]
    unfold kidsOf
    rw [tFind_mem hw.nums (k := e.1) (l := e.2) he]
    show e.2 = _
    exact h.kids e.1 e.2 he
theorem none_par (h : PT els T) (hw : TW T made) {x : PEl} (hx : x ∈ els) (hp : x.par = -1) : kidsOf T (tPar T x.num) = [] := by
  rw [← h.par hw hx, hp]
  unfold kidsOf
  cases ht : tFind T (-1) with
  | none => rfl
  | some l =>
    obtain ⟨k, hk, _⟩ := tFind_some ht
    omega
theorem mem_ofIdx {i : Nat} {x : PEl} (hx : els[i]? = some x) : x ∈ els := List.mem_of_getElem? hx
theorem root_ahead (h : PT els T) (hw : TW T made) {i : Nat} {x : PEl} (hx : els[i]? = some x) (hp : x.par = -1) : kidsP (els.take i) x.par = [] ∧ kidsP (els.drop (i + 1)) x.par = [] := by
  have hd : (els.map PEl.num).Nodup := h.nums
  have hs := split_at hx
  constructor
  · rw [List.eq_nil_iff_forall_not_mem]
    intro k hk
    rw [mem_kidsP] at hk
    obtain ⟨y, hy, h1, _⟩ := hk
    have := root_only h hw (mem_ofIdx hx) (List.mem_of_mem_take hy) hp (h1.trans hp)
    subst this
    rw [hs, List.map_append, List.nodup_append] at hd
    exact hd.2.2 x.num (List.mem_map.2 ⟨x, hy, rfl⟩) x.num (by simp) rfl
  · rw [List.eq_nil_iff_forall_not_mem]
    intro k hk
    rw [mem_kidsP] at hk
    obtain ⟨y, hy, h1, _⟩ := hk
    have := root_only h hw (mem_ofIdx hx) (List.mem_of_mem_drop hy) hp (h1.trans hp)
    subst this
    rw [hs, List.map_append, List.nodup_append] at hd
    have h3 := hd.2.1
    rw [List.map_cons, List.nodup_cons] at h3
    exact h3.1 (List.mem_map.2 ⟨x, hy, rfl⟩)
theorem idx_find {e : Int} {x : PEl} (hn : (els.map PEl.num).Nodup) (hf : findP els e = some x) : els[idxP els e]? = some x := by
  obtain ⟨hm, he⟩ := findP_some hf
  obtain ⟨i, hi, hx⟩ := List.getElem_of_mem hm
  have h1 : els[i]? = some x := by rw [List.getElem?_eq_getElem hi, hx]
  have h2 := idx_of hn h1
  rw [he] at h2
  rw [h2]
  exact h1
theorem ahead_eq (h : PT els T) (hw : TW T made) (e : Int) : aheadP els e = aheadT T e := by
  unfold aheadP aheadT
  cases hf : findP els e with
  | none => rw [h.find_none hf]; rfl
  | some x =>
    have hi := idx_find h.nums hf
    obtain ⟨hm, rfl⟩ := findP_some hf
    rw [(h.find_some hw hf).1]
    show aheadOf els (idxP els x.num) x.par = (((kidsOf T (tPar T x.num)).takeWhile fun (k : Nat) => decide (¬ (k : Int) = (x.num : Int))).map fun (k : Nat) => (k : Int)).reverse
    have e1 : aheadOf els (idxP els x.num) x.par = ((kidsP (els.take (idxP els x.num)) x.par).map fun (k : Nat) => (k : Int)).reverse := by
      unfold aheadOf kidsP
      rw [List.map_map]
      rfl
    rw [e1]
    by_cases hp : x.par = -1
    · rw [none_par h hw hm hp, (root_ahead h hw hi hp).1]
      rfl
    · rw [kidsOf_par h hw hm hp, (takeWhile_kids h.nums hi).1]
theorem last_eq (h : PT els T) (hw : TW T made) (e : Int) : lastP els e = lastT T e := by
  unfold lastP lastT
  cases hf : findP els e with
  | none => rw [h.find_none hf]; rfl
  | some x =>
    have hi := idx_find h.nums hf
    obtain ⟨hm, rfl⟩ := findP_some hf
    rw [(h.find_some hw hf).1]
    show ((els.drop (idxP els x.num + 1)).all fun y => decide (¬ y.par = x.par)) = (true && decide (((kidsOf T (tPar T x.num)).dropWhile fun (k : Nat) => decide (¬ (k : Int) = (x.num : Int))).length ≤ 1))
    have e1 : ((els.drop (idxP els x.num + 1)).all fun y => decide (¬ y.par = x.par)) = decide (kidsP (els.drop (idxP els x.num + 1)) x.par = []) := by
      rw [Bool.eq_iff_iff, List.all_eq_true, decide_eq_true_eq]
      constructor
      · intro h1
        rw [List.eq_nil_iff_forall_not_mem]
        intro k hk
        rw [mem_kidsP] at hk
        obtain ⟨y, hy, h2, _⟩ := hk
        have := h1 y hy
        rw [decide_eq_true_eq] at this
        exact this h2
      · intro h1 y hy
        rw [decide_eq_true_eq]
        intro h2
        have : y.num ∈ kidsP (els.drop (idxP els x.num + 1)) x.par := mem_kidsP.2 ⟨y, hy, h2, rfl⟩
        rw [h1] at this
        cases this
    rw [e1, Bool.true_and]
    by_cases hp : x.par = -1
    · rw [none_par h hw hm hp, (root_ahead h hw hi hp).2]
      rfl
    · rw [kidsOf_par h hw hm hp, (takeWhile_kids h.nums hi).2]
      cases kidsP (els.drop (idxP els x.num + 1)) x.par <;> simp
theorem empty_eq (h : PT els T) (hw : TW T made) (e : Int) : emptyP els e = emptyT T e := by
  unfold emptyP emptyT
  rw [findP_isSome h hw, Bool.and_comm]
  cases ht : tFind T e with
  | none => rfl
  | some l =>
    show (true && _) = (true && _)
    rw [Bool.true_and, Bool.true_and]
    have hk : kidsOf T e = kidsP els e := by
      unfold kidsOf
      rw [ht]
      obtain ⟨k, rfl, hk⟩ := tFind_some ht
      exact h.kids k l hk
    rw [hk, Bool.eq_iff_iff, List.all_eq_true, List.isEmpty_iff]
    constructor
    · intro h1
      rw [List.eq_nil_iff_forall_not_mem]
      intro k hk
      rw [mem_kidsP] at hk
      obtain ⟨y, hy, h2, _⟩ := hk
      have := h1 y hy
      rw [decide_eq_true_eq] at this
      exact this h2
    · intro h1 y hy
      rw [decide_eq_true_eq]
      intro h2
      have : y.num ∈ kidsP els e := mem_kidsP.2 ⟨y, hy, h2, rfl⟩
      rw [h1] at this
      cases this
theorem view_eq (h : PT els T) (hw : TW T made) (hM : Marks els M) : viewP els = viewT T M := by
  have e1 : hasTypeP els = hasTypeT T M := by
    funext e l
    unfold hasTypeP hasTypeT
    rw [← findP_isSome h hw]
    cases hf : findP els e with
    | none => rfl
    | some x =>
      obtain ⟨hm, rfl⟩ := findP_some hf
      show (kindP x == l) = (true && ((M x.num).kd == l))
      rw [(hM x hm).1, Bool.true_and]
  have e2 : hasClassP els = hasClassT T M := by
    funext e l
    unfold hasClassP hasClassT
    rw [← findP_isSome h hw]
    cases hf : findP els e with
    | none => rfl
    | some x =>
      obtain ⟨hm, rfl⟩ := findP_some hf
      show (if 97 ≤ l ∧ l ≤ 122 then classP x (l - 97).toNat else false) = (true && (decide (97 ≤ l ∧ l ≤ 122) && (M x.num).cl (l - 97).toNat))
      by_cases hl : 97 ≤ l ∧ l ≤ 122
      · rw [if_pos hl, decide_eq_true hl, (hM x hm).2.1 _ (by omega)]; rfl
      · rw [if_neg hl, decide_eq_false hl]; rfl
  have e3 : hasNameP els = hasNameT T M := by
    funext e l
    unfold hasNameP hasNameT
    rw [← findP_isSome h hw]
    cases hf : findP els e with
    | none => rfl
    | some x =>
      obtain ⟨hm, rfl⟩ := findP_some hf
      show (nameP x == l) = (true && ((M x.num).nm == l))
      rw [(hM x hm).2.2, Bool.true_and]
  unfold viewP viewT
  rw [e1, e2, e3, h.len hw, funext (above_eq h hw T.length), funext (ahead_eq h hw), funext (last_eq h hw), funext (empty_eq h hw)]
end
end Go.Proofs.YtblfffbmklkhmaaGreat
