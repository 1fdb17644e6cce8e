/- Own work. -/
import Derived.Test.YtblfffbmklkhmaaGreatAw8
import Derived.Test.YtblfffbmklkhmaaGreatAw6
namespace Go.Proofs.YtblfffbmklkhmaaGreat
open Go.RowKit
theorem PL.el {w : World} {a : Option Addr} {c : Nat} {els : List PEl} (h : PL w (.slice a els.length c) els) {i : Nat} (hi : i < els.length) : ∃ g, a = some ⟨g, 0, none⟩ ∧ g < w.heap.size ∧ ElAt w g (i * 31) els[i].cells els[i].num els[i].par := by
  obtain ⟨g, hg, hgl, hr⟩ := h.at' hi
  exact ⟨g, hg, hgl, hr, (h.ok _ (List.getElem_mem hi)).len, (h.ok _ (List.getElem_mem hi)).one, rfl, rfl⟩
theorem ElAt.below {w wr : World} {base g o : Nat} {cs : List Value} {num : Nat} {par : Int} (h : ElAt w g o cs num par) (hB : Below base w wr) (hg : g < base) : ElAt wr g o cs num par := ⟨range_below hB hg h.rng, h.len, h.one, h.c0, h.c1⟩
theorem ElAt.cell1 {w : World} {g o : Nat} {cs : List Value} {num : Nat} {par : Int} (h : ElAt w g o cs num par) : w.cell? ⟨g, o + 1, none⟩ = some (.int .i64 par) := h.rng 1 _ h.c1
theorem kids_take {els : List PEl} {i : Nat} (h : i < els.length) (n : Int) : kidsP (els.take (i + 1)) n = kidsP (els.take i) n ++ if els[i].par = n then [els[i].num] else [] := by
  rw [List.take_succ_eq_append_getElem h, kidsP_append, kidsP_one]
theorem kids_len (els : List PEl) (n : Int) : (kidsP els n).length ≤ els.length := by
  unfold kidsP
  rw [List.length_map]
  exact List.length_filter_le _ _
def PPlacePost (w : World) (els : List PEl) (par at' : Int) (e : Ending) (w' : World) : Prop :=
  Below w.heap.size w w' ∧ ((∃ place : Nat, e = .returned (.tuple #[.int .i64 place, .bool true]) ∧ place ≤ els.length ∧ ((kidsP (els.take place) par).length : Int) = at') ∨ (∃ n : Int, e = .returned (.tuple #[.int .i64 n, .bool false]) ∧ (at' < 0 ∨ ((kidsP els par).length : Int) < at')))
set_option maxRecDepth 100000 in
set_option maxHeartbeats 2000000 in
theorem pplace_any (w : World) (v : Value) (els : List PEl) (par at' : Int) (h : PL w v els) (hfew : els.length ≤ 24) :
    Calls Tryz.prog 111 #[v, .int .i64 par, .int .i64 at'] w fun e w' => PPlacePost w els par at' e w' := by
  obtain ⟨a, c, hv⟩ := h.shape
  subst hv
  have HP : Hid (PL w (.slice a els.length c) els) := h
  clear h
  go_enter Tryz.func111, Tryz.ntmps111
  go_wp2_with fail
  go_loopg [8, 13] els.length (fun gk av iv wr => ∃ i : Nat, iv = .int .i64 i ∧ i ≤ els.length ∧ els.length - i ≤ gk ∧ av = .int .i64 ((kidsP (els.take i) par).length : Nat) ∧ Hid (Below w.heap.size w wr ∧ (at' < 0 ∨ ((kidsP (els.take i) par).length : Int) ≤ at')))
  case atStart => exact ⟨0, rfl, Nat.zero_le _, by omega, rfl, Below.refl _ _, by simp [kidsP]; omega⟩
  case round =>
    obtain ⟨i, rfl, hi, hgk, rfl, HN⟩ := hrel
    have hkl : (kidsP (els.take i) par).length ≤ 24 := by
      have := kids_len (els.take i) par
      have : (els.take i).length ≤ els.length := List.length_take_le' _ _
      omega
    by_cases hlt : i < els.length
    · have hd : decide ((i : Int) < (els.length : Int)) = true := by simp; omega
      obtain ⟨g, hg, hgl, he⟩ := HP.out.el hlt
      subst hg
      have HKT : Hid (kidsP (els.take (i + 1)) par = kidsP (els.take i) par ++ if els[i].par = par then [els[i].num] else []) := kids_take hlt par
      have HE : Hid (ElAt wr g (i * 31) els[i].cells els[i].num els[i].par) := he.below HN.out.1 hgl
      have HK : Hid (∀ k, (kidsP (els.take i) par).length = k → (k : Int) = at' → ((kidsP (els.take i) par).length : Int) = at') := fun k h1 h2 => by rw [h1]; exact h2
      clear he
      generalize els[i] = x at HE HKT
      generalize x.cells = cs at HE
      have c1 : cs[1]? = some (.int .i64 x.par) := HE.out.c1
      have HB2 : Hid (Below w.heap.size w (wr.alloc (.cells cs.toArray 134))) := HN.out.1.alloc HN.out.1.size _
      by_cases hpar : x.par = par
      · have gp : (x.par != par) = false := by simp [hpar]
        have HKT2 : Hid (kidsP (els.take (i + 1)) par = kidsP (els.take i) par ++ [x.num]) := by unfold Hid; rw [HKT.out, if_pos hpar]
        clear hpar HKT
        by_cases hat : ((kidsP (els.take i) par).length : Int) = at'
        · have HAT : Hid (((kidsP (els.take i) par).length : Int) = at') := hat
          have ga : (((kidsP (els.take i) par).length : Int) == at') = true := by simp [hat]
          clear hat
          go_wp2_with (first | (refine wpList_load_mid rfl 134 _ rfl g (i * 31) rfl cs _ HE.out.rng Tryz.underlying134 rfl HE.out.size ?_) | (refine wpList_store_new rfl 134 _ _ rfl _ cs.toArray 134 rfl rfl HE.out.size' HE.out.same HE.out.all ?_))
          go_ret2
          exact ⟨HB2.out, Or.inl ⟨i, rfl, hi, HAT.out⟩⟩
        · have ga : (((kidsP (els.take i) par).length : Int) == at') = false := by rw [beq_eq_false_iff_ne]; exact hat
          have HN2 : Hid (Below w.heap.size w (wr.alloc (.cells cs.toArray 134)) ∧ (at' < 0 ∨ ((kidsP (els.take (i + 1)) par).length : Int) ≤ at')) := by
            refine ⟨HB2.out, ?_⟩
            rw [HKT2.out, List.length_append]
            have := HN.out.2
            simp
            omega
          have HK2 : Hid (((kidsP (els.take (i + 1)) par).length : Nat) = (kidsP (els.take i) par).length + 1) := by unfold Hid; rw [HKT2.out]; simp
          clear hat
          generalize (kidsP (els.take i) par).length = n0 at hkl ga HK2 ⊢
          go_wp2_with (first | (refine wpList_load_mid rfl 134 _ rfl g (i * 31) rfl cs _ HE.out.rng Tryz.underlying134 rfl HE.out.size ?_) | (refine wpList_store_new rfl 134 _ _ rfl _ cs.toArray 134 rfl rfl HE.out.size' HE.out.same HE.out.all ?_))
          go_roundg (els.length - (i + 1))
          case measure => omega
          case rel => exact ⟨i + 1, by go_num, by omega, Nat.le_refl _, by rw [HK2.out]; go_num, HN2⟩
      · have gp : (x.par != par) = true := by simp [hpar]
        have HKT2 : Hid (kidsP (els.take (i + 1)) par = kidsP (els.take i) par) := by unfold Hid; rw [HKT.out, if_neg hpar, List.append_nil]
        have HN2 : Hid (Below w.heap.size w (wr.alloc (.cells cs.toArray 134)) ∧ (at' < 0 ∨ ((kidsP (els.take (i + 1)) par).length : Int) ≤ at')) := ⟨HB2.out, by rw [HKT2.out]; exact HN.out.2⟩
        clear hpar HKT
        go_wp2_with (first | (refine wpList_load_mid rfl 134 _ rfl g (i * 31) rfl cs _ HE.out.rng Tryz.underlying134 rfl HE.out.size ?_) | (refine wpList_store_new rfl 134 _ _ rfl _ cs.toArray 134 rfl rfl HE.out.size' HE.out.same HE.out.all ?_))
        go_roundg (els.length - (i + 1))
        case measure => omega
        case rel => exact ⟨i + 1, by go_num, by omega, Nat.le_refl _, by rw [HKT2.out], HN2⟩
    · have hd : decide ((i : Int) < (els.length : Int)) = false := by simp; omega
      obtain rfl : i = els.length := by omega
      rw [List.take_length] at HN hkl ⊢
      by_cases hat : ((kidsP els par).length : Int) = at'
      · have HAT : Hid (((kidsP els par).length : Int) = at') := hat
        have ga : (((kidsP els par).length : Int) == at') = true := by simp [hat]
        clear hat
        go_wp2
        go_ret2
        refine ⟨HN.out.1, Or.inl ⟨els.length, rfl, Nat.le_refl _, ?_⟩⟩
        rw [List.take_length]
        exact HAT.out
      · have ga : (((kidsP els par).length : Int) == at') = false := by rw [beq_eq_false_iff_ne]; exact hat
        have HAT : Hid (¬ ((kidsP els par).length : Int) = at') := hat
        clear hat
        go_wp2
        go_ret2
        refine ⟨HN.out.1, Or.inr ⟨_, rfl, ?_⟩⟩
        have := HN.out.2
        have := HAT.out
        omega
set_option maxRecDepth 100000 in
set_option maxHeartbeats 2000000 in
theorem pparentOf_any (w : World) (b : Nat) (v : Value) (els : List PEl) (n : Int) (hb : w.cell? ⟨b, 1, none⟩ = some v) (h : PL w v els) (hfew : els.length ≤ 24) :
    Calls Tryz.prog 126 #[.pointer (some ⟨b, 1, none⟩), .int .i64 n] w fun e w' => e = .returned (.int .i64 (parP els n)) ∧ Below w.heap.size w w' := by
  obtain ⟨a, c, hv⟩ := h.shape
  subst hv
  have HP : Hid (PL w (.slice a els.length c) els) := h
  have hbl : b < w.heap.size := World.block_lt_of_cell? w _ hb
  clear h
  go_enter Tryz.func126, Tryz.ntmps126
  go_wp2_with fail
  refine (pfind_any w b _ els n hb HP.out hfew).mono ?_
  rintro e w1 ⟨hB, ⟨hf, rfl⟩ | ⟨i, x, hx, hf, rfl⟩⟩
  · have HE : Hid (parP els n = -1) := by unfold Hid parP; rw [hf]
    clear hf
    go_wp2
    go_ret
    rw [HE.out]
    exact ⟨rfl, hB⟩
  · have HE : Hid (parP els n = x.par) := by unfold Hid parP; rw [hf]
    have hi : i < els.length := (List.getElem?_eq_some_iff.1 hx).1
    have hxe : els[i] = x := (List.getElem?_eq_some_iff.1 hx).2
    obtain ⟨g, hg, hgl, he⟩ := HP.out.el hi
    subst hg
    have q1 := (he.below hB hgl).cell1
    rw [hxe] at q1
    have hb1 : w1.cell? ⟨b, 1, none⟩ = some (.slice (some ⟨g, 0, none⟩) els.length c) := (hB.cell (p := ⟨b, 1, none⟩) hbl).trans hb
    have hil : (i : Int) < (els.length : Int) := by omega
    clear hx hf hxe he
    go_wp2
    go_ret
    rw [HE.out]
    exact ⟨rfl, hB⟩
/-- The way up, as the program goes it. -/
def upP (els : List PEl) : Nat → Int → Int
  | 0, n => n
  | k + 1, n => parP els (upP els k n)
theorem PT.upP {els : List PEl} {T : Tree} {made : Nat} (h : PT els T) (hw : TW T made) (n : Int) : ∀ k, upP els k n = tUp T k n
  | 0 => rfl
  | k + 1 => by
    rw [tUp_add T n k 1]
    show Go.Proofs.YtblfffbmklkhmaaGreat.parP els (Go.Proofs.YtblfffbmklkhmaaGreat.upP els k n) = tPar T (tUp T k n)
    rw [PT.upP h hw n k, h.parP hw]
def PWithinPost (w : World) (els : List PEl) (n top : Int) (e : Ending) (w' : World) : Prop :=
  Below w.heap.size w w' ∧ ∃ r : Bool, e = .returned (.bool r) ∧ (r = true ↔ ∃ k, k < els.length ∧ upP els k n = top)
set_option maxRecDepth 100000 in
set_option maxHeartbeats 2000000 in
theorem pwithin_any (w : World) (b : Nat) (v : Value) (els : List PEl) (n top : Int) (hb : w.cell? ⟨b, 1, none⟩ = some v) (h : PL w v els) (hfew : els.length ≤ 24) :
    Calls Tryz.prog 120 #[.pointer (some ⟨b, 1, none⟩), .int .i64 n, .int .i64 top] w fun e w' => PWithinPost w els n top e w' := by
  obtain ⟨a, c, hv⟩ := h.shape
  subst hv
  have HP : Hid (PL w (.slice a els.length c) els) := h
  have hbl : b < w.heap.size := World.block_lt_of_cell? w _ hb
  have HB0 : Hid (w.cell? ⟨b, 1, none⟩ = some (.slice a els.length c)) := hb
  clear h
  go_enter Tryz.func120, Tryz.ntmps120
  go_wp2_with fail
  go_loopg [1, 12] els.length (fun gk nv iv wr => ∃ i : Nat, iv = .int .i64 i ∧ i ≤ els.length ∧ els.length - i ≤ gk ∧ nv = .int .i64 (upP els i n) ∧ Hid (Below w.heap.size w wr ∧ ∀ k, k < i → upP els k n ≠ top))
  case atStart => exact ⟨0, rfl, Nat.zero_le _, by omega, rfl, Below.refl _ _, fun k hk => by omega⟩
  case round =>
    obtain ⟨i, rfl, hi, hgk, rfl, HN⟩ := hrel
    by_cases hlt : i < els.length
    · have hd : decide ((i : Int) < (els.length : Int)) = true := by simp; omega
      by_cases ht : upP els i n = top
      · have HE : Hid (∃ k, k < els.length ∧ upP els k n = top) := ⟨i, hlt, ht⟩
        have gt : (upP els i n == top) = true := by simp [ht]
        clear ht
        go_wp2
        go_ret
        exact ⟨HN.out.1, true, rfl, fun _ => HE.out, fun _ => rfl⟩
      · have gt : (upP els i n == top) = false := by simp [ht]
        have HN2 : Hid (∀ k, k < i + 1 → upP els k n ≠ top) := fun k hk => by
          by_cases e : k = i
          · rw [e]; exact ht
          · exact HN.out.2 k (by omega)
        have HU : Hid (upP els (i + 1) n = parP els (upP els i n)) := rfl
        clear ht
        generalize upP els i n = m at gt HU ⊢
        have hbr : wr.cell? ⟨b, 1, none⟩ = some (.slice a els.length c) := (HN.out.1.cell (p := ⟨b, 1, none⟩) hbl).trans HB0.out
        have HPr : Hid (PL wr (.slice a els.length c) els) := ⟨own_below HP.out.row HN.out.1, HP.out.ok⟩
        go_wp2_with fail
        refine (pparentOf_any wr b _ els m hbr HPr.out hfew).mono ?_
        rintro e w1 ⟨rfl, hB⟩
        have HN3 : Hid (Below w.heap.size w w1 ∧ ∀ k, k < i + 1 → upP els k n ≠ top) := ⟨HN.out.1.trans (hB.mono HN.out.1.size), HN2.out⟩
        clear hB hbr
        go_wp2
        go_roundg (els.length - (i + 1))
        case measure => omega
        case rel => exact ⟨i + 1, by go_num, by omega, Nat.le_refl _, by rw [HU.out], HN3⟩
    · have hd : decide ((i : Int) < (els.length : Int)) = false := by simp; omega
      go_wp2
      go_ret
      refine ⟨HN.out.1, false, rfl, fun h => (by cases h), fun ⟨k, hk, hk2⟩ => absurd hk2 (HN.out.2 k (by omega))⟩
end Go.Proofs.YtblfffbmklkhmaaGreat

namespace Go.Proofs.YtblfffbmklkhmaaGreat
open Go.RowKit
def kindP (e : PEl) : Int := match (e.rest[0]? : Option Value) with | some (.int .u8 k) => k | _ => 0
def classP (e : PEl) (i : Nat) : Bool := match (e.rest[1 + i]? : Option Value) with | some (.bool b) => b | _ => false
def nameP (e : PEl) : Int := match (e.rest[27]? : Option Value) with | some (.int .u8 k) => k | _ => 0
/-- The cells are of the right kinds. -/
structure Shp (e : PEl) : Prop where
  kind : ∃ k, e.rest[0]? = some (.int .u8 k)
  cls : ∀ i, i < 26 → ∃ b, e.rest[1 + i]? = some (.bool b)
  name : ∃ k, e.rest[27]? = some (.int .u8 k)
  shown : ∃ b, e.rest[28]? = some (.bool b)
theorem Shp.kd {e : PEl} (h : Shp e) : e.cells[2]? = some (.int .u8 (kindP e)) := by
  obtain ⟨k, hk⟩ := h.kind
  unfold kindP PEl.cells
  rw [hk]
  exact hk
theorem Shp.cl {e : PEl} (h : Shp e) {i : Nat} (hi : i < 26) : e.cells[3 + i]? = some (.bool (classP e i)) := by
  obtain ⟨b, hb⟩ := h.cls i hi
  unfold classP PEl.cells
  rw [hb, show 3 + i = (1 + i) + 1 + 1 from by omega, List.getElem?_cons_succ, List.getElem?_cons_succ]
  exact hb
theorem Shp.nm {e : PEl} (h : Shp e) : e.cells[29]? = some (.int .u8 (nameP e)) := by
  obtain ⟨k, hk⟩ := h.name
  unfold nameP PEl.cells
  rw [hk]
  exact hk
def shownP (e : PEl) : Bool := match (e.rest[28]? : Option Value) with | some (.bool b) => b | _ => false
theorem Shp.sh {e : PEl} (h : Shp e) : e.cells[30]? = some (.bool (shownP e)) := by
  obtain ⟨k, hk⟩ := h.shown
  unfold shownP PEl.cells
  rw [hk]
  exact hk
structure Mk where
  kd : Int
  cl : Nat → Bool
  nm : Int
/-- The elements bear the marks. -/
def Marks (els : List PEl) (M : Nat → Mk) : Prop := ∀ x ∈ els, kindP x = (M x.num).kd ∧ (∀ i, i < 26 → classP x i = (M x.num).cl i) ∧ nameP x = (M x.num).nm
def setM (M : Nat → Mk) (k : Nat) (m : Mk) : Nat → Mk := fun j => if j = k then m else M j
def newMk (kind : ByteArray) : Mk := ⟨bt kind 0, fun _ => false, 0⟩
def clsMk (m : Mk) (s : ByteArray) (on : Bool) : Mk := ⟨m.kd, fun i => if i + 97 = bt s 0 then on else m.cl i, m.nm⟩
def namMk (m : Mk) (s : ByteArray) : Mk := ⟨m.kd, m.cl, if s.size = 0 then 0 else bt s 0⟩
def MkO (els : List PEl) (M : Nat → Mk) : Prop := Marks els M ∧ ∀ x ∈ els, Shp x
theorem MkO.sub {els els' : List PEl} {M : Nat → Mk} (h : MkO els M) (hs : ∀ x ∈ els', x ∈ els) : MkO els' M := ⟨fun x hx => h.1 x (hs x hx), fun x hx => h.2 x (hs x hx)⟩
theorem MkO.ext {els : List PEl} {M M' : Nat → Mk} (h : MkO els M) (hm : ∀ x ∈ els, M x.num = M' x.num) : MkO els M' := ⟨fun x hx => by rw [← hm x hx]; exact h.1 x hx, h.2⟩
theorem MkO.more {els : List PEl} {M : Nat → Mk} (h : MkO els M) {x : PEl} {m : Mk} (place : Nat) (hx : Shp x) (hm : kindP x = m.kd ∧ (∀ i, i < 26 → classP x i = m.cl i) ∧ nameP x = m.nm) (hn : ∀ e ∈ els, e.num ≠ x.num) : MkO (withP els place x) (setM M x.num m) := by
  refine ⟨fun e he => ?_, fun e he => ?_⟩
  · unfold setM
    rcases mem_withP.1 he with rfl | he
    · rw [if_pos rfl]; exact hm
    · rw [if_neg (hn e he)]; exact h.1 e he
  · rcases mem_withP.1 he with rfl | he
    · exact hx
    · exact h.2 e he
def hasTypeP (els : List PEl) (e l : Int) : Bool := match findP els e with | some x => kindP x == l | none => false
def hasClassP (els : List PEl) (e l : Int) : Bool := match findP els e with | some x => if 97 ≤ l ∧ l ≤ 122 then classP x (l - 97).toNat else false | none => false
def hasNameP (els : List PEl) (e l : Int) : Bool := match findP els e with | some x => nameP x == l | none => false
def aboveP (els : List PEl) : Nat → Int → List Int
  | 0, _ => []
  | k + 1, e => if parP els e = -1 then [] else parP els e :: aboveP els k (parP els e)
def aheadOf (els : List PEl) (i : Nat) (par : Int) : List Int := (((els.take i).filter fun y => decide (y.par = par)).map fun y => (y.num : Int)).reverse
def idxP (els : List PEl) (e : Int) : Nat := els.findIdx fun y => decide ((y.num : Int) = e)
def aheadP (els : List PEl) (e : Int) : List Int := match findP els e with | some x => aheadOf els (idxP els e) x.par | none => []
def lastP (els : List PEl) (e : Int) : Bool := match findP els e with | some x => (els.drop (idxP els e + 1)).all fun y => decide (¬ y.par = x.par) | none => false
def emptyP (els : List PEl) (e : Int) : Bool := (els.all fun y => decide (¬ y.par = e)) && (findP els e).isSome
theorem idx_of {els : List PEl} (hn : (els.map PEl.num).Nodup) {i : Nat} {x : PEl} (hx : els[i]? = some x) : idxP els x.num = i := by
  obtain ⟨hi, he⟩ := List.getElem?_eq_some_iff.1 hx
  unfold idxP
  rw [List.findIdx_eq hi]
  refine ⟨by rw [he]; simp, fun j hj => ?_⟩
  rw [decide_eq_false_iff_not]
  intro h
  refine List.pairwise_iff_getElem.1 hn j i (by simp; omega) (by simpa using hi) hj ?_
  simp only [List.getElem_map]
  rw [he]
  omega
def nthP (place step start : Int) : Bool := if step ≤ 0 ∨ place < start then place == start else (place - start) % step == 0
def simpP (els : List PEl) (p : PPt) (e : Int) : Bool :=
  if p.kd = 1 then hasTypeP els e p.lt else if p.kd = 2 then hasClassP els e p.lt else if p.kd = 3 then hasNameP els e p.lt
  else if p.kd = 4 then decide (((aheadP els e).length : Int) + 1 = 1) else if p.kd = 5 then lastP els e else if p.kd = 6 then emptyP els e
  else if p.kd = 7 then nthP (((aheadP els e).length : Int) + 1) p.st p.sr else false
def compP (els : List PEl) (c : PCp) (e : Int) : Bool := (c.ty == 0 || hasTypeP els e c.ty) && c.ps.all fun p => simpP els p e != p.nt
def signedP (els : List PEl) (sg e : Int) : List Int :=
  if sg = 32 then aboveP els els.length e else if sg = 62 then (aboveP els els.length e).take 1 else if sg = 126 then aheadP els e else if sg = 43 then (aheadP els e).take 1 else []
/-- The compounds from the last to the first. -/
def chainR (els : List PEl) : List PCp → Int → Bool
  | [], _ => false
  | [c], e => compP els c e
  | c :: d :: r, e => compP els c e && (signedP els c.sg e).any (chainR els (d :: r))
def matchP (els : List PEl) (cs : List PCp) (e : Int) : Bool := chainR els cs.reverse e
structure Clm where
  th : Bool
  im : Bool
  ly : Int
  wt : Int
  kd : Int
  nu : Int
  va : Int
def Clm.cells (c : Clm) : List Value := [.bool c.th, .bool c.im, .int .i64 c.ly, .int .i64 c.wt, .int .i64 c.kd, .int .i64 c.nu, .int .u8 c.va]
def Clm.none : Clm := ⟨false, false, 0, 0, 0, 0, 0⟩
def beatsP (c d : Clm) : Bool :=
  if d.th = false then true else if c.im ≠ d.im then c.im else if c.ly ≠ d.ly then decide (c.ly < d.ly) == c.im else decide (d.wt ≤ c.wt)
def placeOfP (p : Int) : Option Nat := if 65 ≤ p ∧ p < 71 then some (p - 65).toNat else if 88 ≤ p ∧ p < 91 then some (6 + (p - 88).toNat) else none
theorem placeOfP_lt {p : Int} {k : Nat} (h : placeOfP p = some k) : k < 9 := by
  unfold placeOfP at h
  split at h
  · injection h with h; omega
  · split at h
    · injection h with h; omega
    · cases h
def laterP (ly wt : Int) (d : PDc) : Clm := ⟨true, d.im, ly, wt, d.kd, d.nu, d.va⟩
def stepP (ly wt : Int) (W : List Clm) (d : PDc) : List Clm := match placeOfP d.pr with | some k => if beatsP (laterP ly wt d) (W.getD k Clm.none) then W.set k (laterP ly wt d) else W | none => W
def afterP (W : List Clm) (r : PRu) (wt : Int) : List Clm := r.ds.foldl (stepP r.ly wt) W
theorem stepP_len (ly wt : Int) (W : List Clm) (d : PDc) : (stepP ly wt W d).length = W.length := by
  unfold stepP
  split
  · split
    · rw [List.length_set]
    · rfl
  · rfl
/-- The greatest weight of the selectors that match, and whether one does. -/
def weighStep (els : List PEl) (e : Int) (a : Int × Bool) (cs : List PCp) : Int × Bool := if matchP els cs e then (max a.1 ((cws cs : Nat) : Int), true) else a
def weighP (els : List PEl) (e : Int) (ss : List (List PCp)) : Int × Bool := ss.foldl (weighStep els e) (0, false)
def ruleStep (els : List PEl) (e : Int) (W : List Clm) (r : PRu) : List Clm := if (weighP els e r.ss).2 then afterP W r (weighP els e r.ss).1 else W
def winnersP (els : List PEl) (rs : List PRu) (e : Int) : List Clm := rs.foldl (ruleStep els e) (List.replicate 9 Clm.none)
def initP : List Int := [1, 2, 3, 4, 5, 6, 0, 0, 0]
def downP (p : Nat) : Bool := decide (p < 3 ∨ 6 ≤ p)
def nextP (W : List Clm) (p : Nat) : Option Nat := if (W.getD p Clm.none).kd = 5 then placeOfP (W.getD p Clm.none).va else Option.none
/-- Does one come back to the start? k rounds more, at the place that has been come to. -/
def backP (W : List Clm) (start : Nat) : Nat → Option Nat → Bool
  | 0, _ => false
  | k + 1, q => match q with | Option.none => false | some p => if p = start then true else backP W start k (nextP W p)
def directP (W : List Clm) (p : Nat) (comes : List Int) : Int :=
  if (W.getD p Clm.none).kd = 1 then (W.getD p Clm.none).nu else if (W.getD p Clm.none).kd = 2 then comes.getD p 0 else if (W.getD p Clm.none).kd = 3 then initP.getD p 0 else if downP p then comes.getD p 0 else initP.getD p 0
def valueF (W : List Clm) (comes : List Int) : Nat → Nat → Int
  | 0, p => comes.getD p 0
  | k + 1, p => if backP W p 3 (nextP W p) then comes.getD p 0 else match nextP W p with | Option.none => directP W p comes | some q => valueF W comes k q
def ofP (els : List PEl) (rs : List PRu) (e : Int) (comes : List Int) : List Int := (List.range 9).map fun p => valueF (winnersP els rs e) comes 9 p
end Go.Proofs.YtblfffbmklkhmaaGreat

namespace Go.Proofs.YtblfffbmklkhmaaGreat
open Go.RowKit
theorem Tryz.infoE : ∃ (i : TypeInfo) (z : Value), Tryz.prog.info? 134 = some i ∧ i.zero = some z ∧ i.size = 31 ∧ i.bytes = 48 ∧ z.cells.size = 31 := by
  have h : (Tryz.prog.info? 134).map (fun i => (i.zero.map (·.cells.size), i.size, i.bytes)) = some (some 31, 31, 48) := by kernel_rfl
  cases hq : Tryz.prog.info? 134 with
  | none => rw [hq] at h; cases h
  | some i =>
    rw [hq] at h
    simp only [Option.map_some, Option.some.injEq, Prod.mk.injEq] at h
    cases hz : i.zero with
    | none => rw [hz] at h; cases h.1
    | some z =>
      rw [hz] at h
      simp only [Option.map_some, Option.some.injEq] at h
      exact ⟨i, z, rfl, hz, h.2.1, h.2.2, h.1⟩
theorem wpList_buildOneAt {P : Program} {ops : Array Oper} {rest : List Oper} {o : Oper} {a : Act} {w : World} {Q : Exit → Act → World → Prop} (N : Nat) (hN : w.heap.size = N) (hg : o.guard = none) (t e : TypeId) (x : Operand) (ho : o.op = .buildSlice t 1 #[(0, x)]) (c : Array Value) (hx : a.eval x = .agg c) (ie : TypeInfo) (z : Value)
    (hu : P.underlying t = some (.slice e)) (hie : P.info? e = some ie) (hz : ie.zero = some z) (hs : ie.size = c.size) (hpos : 0 < c.size) (hsm : c.size ≤ 1000)
    (h : wpList P ops Q rest (a.put o.dst (.slice (some ⟨N, 0, none⟩) 1 1)) (w.alloc (.cells c e))) : wpList P ops Q (o :: rest) a w := by
  subst hN
  exact wpList_buildOne hg t e x ho c hx ie z hu hie hz hs hpos hsm h
section
variable {w : World} {g o : Nat} {cs : List Value} {num : Nat} {par : Int}
theorem ElAt.info (h : ElAt w g o cs num par) {n : Nat} (hn : n = 31) : n = cs.toArray.size := by rw [hn]; exact h.same
theorem ElAt.pos (h : ElAt w g o cs num par) : 0 < cs.toArray.size := by rw [← h.same]; omega
theorem ElAt.small (h : ElAt w g o cs num par) : cs.toArray.size ≤ 1000 := by rw [← h.same]; omega
theorem ElAt.len1 (h : ElAt w g o cs num par) : cs.length = 1 * 31 := by rw [h.len]
theorem ElAt.keep (h : ElAt w g o cs num par) {w' : World} (hk : w'.heap[g]? = w.heap[g]?) : ElAt w' g o cs num par := by
  refine ⟨fun j v hv => ?_, h.len, h.one, h.c0, h.c1⟩
  have := h.rng j v hv
  unfold World.cell? at this ⊢
  rw [hk]
  exact this
theorem ElAt.new (h : ElAt w g o cs num par) (w' : World) : ElAt (w'.alloc (.cells cs.toArray 134)) w'.heap.size 0 cs num par := by
  refine ⟨fun j v hv => ?_, h.len, h.one, h.c0, h.c1⟩
  rw [Nat.zero_add, cell_of_row _ _ j cs.toArray 134 (0, 0) (heap_alloc_new w' _)]
  simpa using hv
end
theorem el_new {x : PEl} (h : x.ok) (w' : World) : ElAt (w'.alloc (.cells x.cells.toArray 134)) w'.heap.size 0 x.cells x.num x.par := by
  refine ⟨fun j v hv => ?_, h.len, h.one, rfl, rfl⟩
  rw [Nat.zero_add, cell_of_row _ _ j x.cells.toArray 134 (0, 0) (heap_alloc_new w' _)]
  simpa using hv
theorem flat_snoc (L : List PEl) (x : PEl) : flatP (L ++ [x]) = flatP L ++ x.cells := by simp [flatP]
def withI (els : List PEl) (place : Nat) (x : PEl) (i : Nat) : List PEl := if place < i then withP (els.take i) place x else els.take i
theorem withI_step {els : List PEl} {place i : Nat} (x : PEl) (h : i < els.length) : withI els place x (i + 1) = (if i = place then withI els place x i ++ [x] else withI els place x i) ++ [els[i]] := by
  unfold withI
  have ht : els.take (i + 1) = els.take i ++ [els[i]] := List.take_succ_eq_append_getElem h
  have hl : (els.take i).length = i := by rw [List.length_take]; omega
  by_cases h1 : i = place
  · subst h1
    rw [if_pos (Nat.lt_succ_self i), if_pos rfl, if_neg (Nat.lt_irrefl i)]
    unfold withP
    rw [ht, List.take_left' hl, List.drop_left' hl]
  · rw [if_neg h1]
    by_cases h2 : place < i
    · rw [if_pos (by omega), if_pos h2]
      unfold withP
      rw [ht, List.take_append_of_le_length (by omega), List.drop_append_of_le_length (by omega)]
      simp
    · rw [if_neg (by omega), if_neg h2, ht]
theorem withI_end {els : List PEl} {place : Nat} (x : PEl) (h : place < els.length) : withI els place x els.length = withP els place x := by
  unfold withI
  rw [if_pos h, List.take_length]
theorem withI_last (els : List PEl) (x : PEl) : withI els els.length x els.length ++ [x] = withP els els.length x := by
  unfold withI withP
  rw [if_neg (by omega), List.take_length, List.drop_length, List.append_nil]
theorem withI_len (els : List PEl) (place : Nat) (x : PEl) (i : Nat) : (withI els place x i).length ≤ els.length + 1 := by
  unfold withI
  split
  · unfold withP
    simp
    omega
  · rw [List.length_take]; omega
def PRowPost (w : World) (L : List PEl) (e : Ending) (w' : World) : Prop :=
  ∃ (a : Option Addr) (c : Nat), e = .returned (.slice a L.length c) ∧ w'.ownsRow w.heap.size 134 31 (.slice a L.length c) L.length (flatP L) ∧ Below w.heap.size w w'
/-- In the midst of with or without. -/
structure WI (base : Nat) (W wr : World) (v : Value) (L : List PEl) : Prop where
  own : wr.ownsRow base 134 31 v L.length (flatP L)
  below : Below base W wr
theorem WI.app {base : Nat} {W wr : World} {v : Value} {L : List PEl} (h : WI base W wr v L) {w2 w3 : World} {v3 : Value} {x : PEl} (hb : Below base W w2) (hz : base ≤ w2.heap.size) (hg : w2.grownBy w3 v.ownBlock) (ho : w3.ownsRow base 134 31 v3 (L.length + 1) (flatP L ++ x.cells)) : WI base W w3 v3 (L ++ [x]) := by
  refine ⟨?_, hb.grown hg hz (fun k hk => (h.own.lt k hk).1)⟩
  rw [flat_snoc, List.length_append]
  exact ho
theorem erase_step {els : List PEl} {place i : Nat} (h : i < els.length) : (els.take (i + 1)).eraseIdx place = if i = place then (els.take i).eraseIdx place else (els.take i).eraseIdx place ++ [els[i]] := by
  have ht : els.take (i + 1) = els.take i ++ [els[i]] := List.take_succ_eq_append_getElem h
  have hl : (els.take i).length = i := by rw [List.length_take]; omega
  rw [ht]
  by_cases h1 : i = place
  · subst h1
    have h3 : (els.take i).eraseIdx i = els.take i := List.eraseIdx_of_length_le (by omega)
    rw [if_pos rfl, List.eraseIdx_append_of_length_le (by omega), hl, Nat.sub_self, h3]
    simp
  · rw [if_neg h1]
    by_cases h2 : place < i
    · rw [List.eraseIdx_append_of_lt_length (by omega)]
    · rw [List.eraseIdx_of_length_le (by simp; omega), List.eraseIdx_of_length_le (by omega)]
end Go.Proofs.YtblfffbmklkhmaaGreat
