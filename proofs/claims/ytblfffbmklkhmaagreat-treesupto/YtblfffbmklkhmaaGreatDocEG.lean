/- Own work. -/
import Derived.Test.YtblfffbmklkhmaaGreatDocD
import Derived.Test.YtblfffbmklkhmaaGreatRefRead
namespace Go.Proofs.YtblfffbmklkhmaaGreat
open Go.RowKit

open Classical in
noncomputable def underB (els : List REl) (a n : Int) : Bool := decide (Under els a n)
theorem underB_iff {els : List REl} {a n : Int} : underB els a n = true ↔ Under els a n := by simp [underB]
/-- Those of a list that stay when one goes. -/
noncomputable def staysL (els : List REl) (a : Int) (l : List REl) : List REl := l.filter fun e => !underB els a e.num
def ptrs (l : List REl) : List Value := l.map fun e => .pointer (some ⟨e.blk, 0, none⟩)
theorem stays_take {els l : List REl} {i : Nat} (h : i < l.length) (a : Int) : staysL els a (l.take (i + 1)) = staysL els a (l.take i) ++ if underB els a l[i].num = true then [] else [l[i]] := by
  unfold staysL
  rw [List.take_succ_eq_append_getElem h, List.filter_append]
  congr 1
  by_cases e : underB els a l[i].num = true
  · simp [e]
  · simp only [Bool.not_eq_true] at e
    simp [e]
theorem stays_len (els l : List REl) (a : Int) : (staysL els a l).length ≤ l.length := List.length_filter_le _ _
theorem find_of_mem {els : List REl} {e : REl} (h : e ∈ els) : ∃ p, findR els e.num = some p := by
  cases hf : findR els e.num with
  | some p => exact ⟨p, rfl⟩
  | none =>
    unfold findR at hf
    rw [List.find?_eq_none] at hf
    exact absurd (hf e h) (by simp)
theorem find_par {els : List REl} {a : Int} (h : ¬ parI els a < 0) : ∃ p, findR els (parI els a) = some p := by
  rcases par_cases els a with h1 | ⟨e, he, _, h2⟩
  · omega
  · rw [h2]; exact find_of_mem he

def RemPost (w : World) (d : Nat) (els : List REl) (made : Nat) (hp : Option Addr) (vT : Value) (vL : Value) (a : Int) (e : Ending) (w' : World) : Prop :=
  (findR els a = none ∧ e = .returned (.int .i64 5) ∧ w' = w) ∨
  ((∃ y, findR els a = some y) ∧ parI els a < 0 ∧ e = .returned (.int .i64 6) ∧ w' = w) ∨
  (∃ (p : REl) (ks vL' : Value), (∃ y, findR els a = some y) ∧ 0 ≤ parI els a ∧ findR els (parI els a) = some p ∧ e = .returned (.int .i64 0) ∧
    RD w' d ((staysL els a els).map (updK p.blk (noneOf a p.kids) ks)) made hp vT false vL' ∧ Fr w w' (fpR d els vL) ∧ (∀ j, ks.ownBlock = some j → w.heap.size ≤ j) ∧ (∀ j, vL'.ownBlock = some j → w.heap.size ≤ j))

theorem updK_kid {b : Nat} {kids : List Nat} {ks : Value} {w : World} (e : REl) (h1 : w.ownsRow 0 3 1 ks kids.length (ints kids)) (h2 : w.ownsRow 0 3 1 e.ks e.kids.length (ints e.kids)) :
    w.ownsRow 0 3 1 (updK b kids ks e).ks (updK b kids ks e).kids.length (ints (updK b kids ks e).kids) := by
  unfold updK
  split
  · exact h1
  · exact h2
theorem ptrs_updK (b : Nat) (kids : List Nat) (ks : Value) (l : List REl) : ptrs (l.map (updK b kids ks)) = ptrs l := by
  unfold ptrs
  rw [List.map_map]
  refine List.map_congr_left fun e _ => ?_
  simp [updK_blk]

set_option maxRecDepth 100000 in
set_option maxHeartbeats 4000000 in
theorem refremove_any (w : World) (d : Nat) (els : List REl) (made : Nat) (hp : Option Addr) (vT : Value) (has : Bool) (vL : Value) (n : Int) (h : RD w d els made hp vT has vL) (rk : Nat → Nat) (hr : Rank els rk) :
    Calls Tryz.prog 145 #[.pointer (some ⟨d, 0, none⟩), .int .i64 n] w fun e w' => RemPost w d els made hp vT vL n e w' := by
  obtain ⟨aL, cL, hvL⟩ := h.shape
  subst hvL
  have d4 : w.cell? ⟨d, 4, none⟩ = some (.bool has) := cell_of_blk h.doc rfl
  have dz : ∀ k, w.frozen? ⟨d, k, none⟩ = false := fun _ => frozen_of_blk h.doc
  have hfew := h.few
  have HR : Hid (RD w d els made hp vT has (.slice aL els.length cL)) := h
  have HK : Hid (Rank els rk) := hr
  clear h hr
  obtain ⟨i0, hi, iz0, iz1, iz2⟩ := info_parts Tryz.info171
  go_enter Tryz.func145, Tryz.ntmps145
  go_wp2_with fail
  refine (find_any _ d els made hp vT has _ n HR.out).mono ?_
  rintro e w1 ⟨rfl, rfl⟩
  obtain ⟨w, rfl⟩ : ∃ w, w = w1 := ⟨_, rfl⟩
  cases hfind : findR els n with
  | none =>
    have HE : Hid (findR els n = none) := hfind
    clear hfind
    rw [show ptrOf none = Value.pointer none from rfl]
    go_wp2
    go_ret
    exact Or.inl ⟨HE.out, rfl, rfl⟩
  | some y =>
    have HF : Hid (findR els n = some y) := hfind
    clear hfind
    rw [show ptrOf (some y) = Value.pointer (some ⟨y.blk, 0, none⟩) from rfl]
    go_wp2_with fail
    refine (parent_any _ d els made hp vT has _ n HR.out).mono ?_
    rintro e w1 ⟨rfl, rfl⟩
    obtain ⟨w, rfl⟩ : ∃ w, w = w1 := ⟨_, rfl⟩
    by_cases hpn : parI els n < 0
    · have gp : decide (parI els n < 0) = true := by simpa using hpn
      have HP : Hid (parI els n < 0) := hpn
      clear hpn
      generalize hq : parI els n = q at gp HP ⊢
      have HQ : Hid (parI els n = q) := hq
      clear hq
      go_wp2
      go_ret
      exact Or.inr (Or.inl ⟨⟨y, HF.out⟩, by rw [HQ.out]; exact HP.out, rfl, rfl⟩)
    · have gp : decide (parI els n < 0) = false := by simpa using hpn
      obtain ⟨p, hpf⟩ := find_par hpn
      have HP : Hid (0 ≤ parI els n) := by unfold Hid; omega
      have HPF : Hid (findR els (parI els n) = some p) := hpf
      obtain ⟨hpm, _⟩ := find_mem hpf
      have HPM : Hid (p ∈ els) := hpm
      clear hpf hpm hpn
      have R1 : RD (w.setCell ⟨d, 4, none⟩ (.bool false)) d els made hp vT false (.slice aL els.length cL) := HR.out.setDoc' rfl
      have F1 : Fr w (w.setCell ⟨d, 4, none⟩ (.bool false)) (fpR d els (.slice aL els.length cL)) := (Fr.refl w _).set (Or.inl (Or.inl rfl)) _
      have HR1 : Hid (RD (w.setCell ⟨d, 4, none⟩ (.bool false)) d els made hp vT false (.slice aL els.length cL) ∧ Fr w (w.setCell ⟨d, 4, none⟩ (.bool false)) (fpR d els (.slice aL els.length cL))) := ⟨R1, F1⟩
      clear R1 F1
      go_wp2_with fail
      obtain ⟨W1, hW1⟩ : ∃ W1, W1 = w.setCell ⟨d, 4, none⟩ (.bool false) := ⟨_, rfl⟩
      rw [← hW1] at HR1 ⊢
      clear hW1 d4 dz
      go_loopg [7, 8] els.length (fun gk v iv wr => ∃ i : Nat, iv = .int .i64 i ∧ i ≤ els.length ∧ els.length - i ≤ gk ∧ wr.ownsRow W1.heap.size 171 1 v (staysL els n (els.take i)).length (ptrs (staysL els n (els.take i))) ∧ Below W1.heap.size W1 wr)
      case atStart => exact ⟨0, rfl, Nat.zero_le _, by omega, World.ownsRow_nil _ _ _ _, Below.refl _ _⟩
      case round =>
        obtain ⟨i, rfl, hil, hgk, hown, hB⟩ := hrel
        obtain ⟨a2, c2, hv⟩ := own_shape hown
        subst hv
        have HRr : Hid (RD wr d els made hp vT false (.slice aL els.length cL)) := HR1.out.1.below hB
        have d1 := HRr.out.c1
        by_cases hlt : i < els.length
        · have hd : decide ((i : Int) < (els.length : Int)) = true := by simp; omega
          obtain ⟨g, hg, q1⟩ := HRr.out.at' hlt
          subst hg
          obtain ⟨q2, _⟩ := el_cells (HRr.out.el els[i] (List.getElem_mem hlt))
          have hfl : (staysL els n (els.take i)).length ≤ 24 := by
            have := stays_len els (els.take i) n
            have : (els.take i).length ≤ els.length := List.length_take_le' _ _
            omega
          have HT : Hid (staysL els n (els.take (i + 1)) = staysL els n (els.take i) ++ if underB els n els[i].num = true then [] else [els[i]]) := stays_take hlt n
          generalize staysL els n (els.take i) = f at hown hfl HT ⊢
          generalize els[i] = x at q1 q2 HT
          have HO : Hid (wr.ownsRow W1.heap.size 171 1 (.slice a2 f.length c2) f.length (ptrs f)) := hown
          have hz := hB.size
          clear hown
          go_wp2_with fail
          refine (under_any _ d els made hp vT false _ n x.num HRr.out rk HK.out).mono ?_
          rintro e w2 ⟨b, rfl, rfl, HU⟩
          obtain ⟨wr, rfl⟩ : ∃ wr, wr = w2 := ⟨_, rfl⟩
          cases b with
          | true =>
            have HT2 : Hid (staysL els n (els.take (i + 1)) = f) := by
              unfold Hid
              rw [HT.out, if_pos (underB_iff.2 (HU.out.1 rfl))]
              simp
            clear HT HU
            go_wp2
            go_roundg (els.length - (i + 1))
            case measure => omega
            case rel => exact ⟨i + 1, by go_num, by omega, Nat.le_refl _, by rw [HT2.out]; exact HO.out, hB⟩
          | false =>
            have HT2 : Hid (staysL els n (els.take (i + 1)) = f ++ [x]) := by
              unfold Hid
              rw [HT.out, if_neg (fun h => by have := HU.out.2 (underB_iff.1 h); cases this)]
            clear HT HU
            go_wp2_with (at_builtin; refine wpList_append_own _ rfl (.tmp 48) (.tmp 56) 118 rfl W1.heap.size 171 i0 (.pointer none) 1 8 Tryz.underlying118 hi iz0 iz1 iz2 rfl (by decide) _ _ _ rfl (HO.out.alloc _) ⟨wr.heap.size, 0, none⟩ 1 1 [.pointer (some ⟨x.blk, 0, none⟩)] rfl rfl ?c1 ?c2 ?c3 ?c4 ?c5 ?_)
            case c1 => exact new_cells wr _ rfl _ _ _ rfl
            case c2 => exact one_ptr _
            case c3 => unfold maxLen; omega
            case c4 => omega
            case c5 => simp; omega
            · intro v' w3 hown3 hg3 _
              have own3 : w3.ownsRow W1.heap.size 171 1 v' (f ++ [x]).length (ptrs (f ++ [x])) := by simpa [ptrs] using hown3
              have hB3 : Below W1.heap.size W1 w3 := (hB.alloc hz _).grown hg3 (by simp; omega) (fun k hk => (HO.out.lt k hk).1)
              have HO3 : Hid (w3.ownsRow W1.heap.size 171 1 v' (f ++ [x]).length (ptrs (f ++ [x]))) := own3
              obtain ⟨a3, c3, hv3⟩ := own_shape own3
              subst hv3
              clear hown3 hg3 own3
              go_wp2
              go_roundg (els.length - (i + 1))
              case measure => omega
              case rel => exact ⟨i + 1, by go_num, by omega, Nat.le_refl _, by rw [HT2.out]; exact HO3.out, hB3⟩
        · have hd : decide ((i : Int) < (els.length : Int)) = false := by simp; omega
          obtain rfl : i = els.length := by omega
          rw [List.take_length] at hown ⊢
          have hsl : (staysL els n els).length ≤ 24 := by have := stays_len els els n; omega
          have HO : Hid (wr.ownsRow W1.heap.size 171 1 (.slice a2 (staysL els n els).length c2) (staysL els n els).length (ptrs (staysL els n els))) := hown
          have HFr : Hid (Fr w wr (fpR d els (.slice aL els.length cL))) := HR1.out.2.below hB
          clear hown
          go_wp2_with fail
          refine (find_any _ d els made hp vT false _ (parI els n) HRr.out).mono ?_
          rintro e w2 ⟨rfl, rfl⟩
          obtain ⟨wr, rfl⟩ : ∃ wr, wr = w2 := ⟨_, rfl⟩
          rw [HPF.out, show ptrOf (some p) = Value.pointer (some ⟨p.blk, 0, none⟩) from rfl]
          obtain ⟨_, p4⟩ := el_cells (HRr.out.el p HPM.out)
          have pk := HRr.out.kid p HPM.out
          have hpl := HRr.out.kfew p HPM.out
          obtain ⟨ka, kc, hks⟩ := own_shape pk
          rw [hks] at p4 pk
          have HPK : Hid (wr.ownsRow 0 3 1 (.slice ka p.kids.length kc) p.kids.length (ints p.kids)) := pk
          clear pk hks
          go_wp2_with fail
          refine (less_any wr ka kc p.kids n 0 HPK.out hpl).mono ?_
          rintro e W3 ⟨a3, c3, rfl, own3, hb3⟩
          have hnl : (noneOf n p.kids).length ≤ 24 := by have := noneOf_len n p.kids; omega
          have R3 := HRr.out.below hb3
          have F3 := HFr.out.below hb3
          have pe3 := R3.el p HPM.out
          have pz : ∀ k, W3.frozen? ⟨p.blk, k, none⟩ = false := fun _ => frozen_of_blk pe3
          have p4' : W3.cell? ⟨p.blk, 4, none⟩ = some p.ks := (el_cells pe3).2
          have ownS : W3.ownsRow W1.heap.size 171 1 (.slice a2 (staysL els n els).length c2) (staysL els n els).length (ptrs (staysL els n els)) := own_below HO.out hb3
          have HK3 : Hid (∀ j, (Value.slice a3 (noneOf n p.kids).length c3).ownBlock = some j → w.heap.size ≤ j) := fun j hj => by
            have := (own3.lt j hj).1
            have := HFr.out.size
            omega
          have HS3 : Hid (∀ j, (Value.slice a2 (staysL els n els).length c2).ownBlock = some j → w.heap.size ≤ j) := fun j hj => by
            have := (HO.out.lt j hj).1
            have := HR1.out.2.size
            omega
          have o3 : W3.ownsRow 0 3 1 (.slice a3 (noneOf n p.kids).length c3) (noneOf n p.kids).length (ints (noneOf n p.kids)) := own_mono own3 (Nat.zero_le _)
          have R4 := R3.setKids HPM.out o3 hnl
          have F4 := F3.set (p := ⟨p.blk, 4, none⟩) (Or.inl (Or.inr (Or.inl ⟨p, HPM.out, rfl⟩))) (.slice a3 (noneOf n p.kids).length c3)
          have ownS4 := own_set ownS (own_ne_type ownS pe3 (by decide)) (p := ⟨p.blk, 4, none⟩) (.slice a3 (noneOf n p.kids).length c3)
          have hsub : ∀ e ∈ (staysL els n els).map (updK p.blk (noneOf n p.kids) (.slice a3 (noneOf n p.kids).length c3)), e ∈ els.map (updK p.blk (noneOf n p.kids) (.slice a3 (noneOf n p.kids).length c3)) := fun e he => by
            obtain ⟨f, hf, rfl⟩ := List.mem_map.1 he
            exact List.mem_map.2 ⟨f, (List.mem_filter.1 hf).1, rfl⟩
          have ownS5 : (W3.setCell ⟨p.blk, 4, none⟩ (.slice a3 (noneOf n p.kids).length c3)).ownsRow 0 171 1 (.slice a2 (staysL els n els).length c2) ((staysL els n els).map (updK p.blk (noneOf n p.kids) (.slice a3 (noneOf n p.kids).length c3))).length (ptrs ((staysL els n els).map (updK p.blk (noneOf n p.kids) (.slice a3 (noneOf n p.kids).length c3)))) := by
            rw [ptrs_updK, List.length_map]
            exact own_mono ownS4 (Nat.zero_le _)
          have R5 : RD ((W3.setCell ⟨p.blk, 4, none⟩ (.slice a3 (noneOf n p.kids).length c3)).setCell ⟨d, 1, none⟩ (.slice a2 (staysL els n els).length c2)) d ((staysL els n els).map (updK p.blk (noneOf n p.kids) (.slice a3 (noneOf n p.kids).length c3))) made hp vT false (.slice a2 (staysL els n els).length c2) :=
            R4.setDoc (o := 1) (u := .slice a2 (staysL els n els).length c2) rfl ownS5 (fun e he => R4.el e (hsub e he)) (fun e he => R4.kid e (hsub e he)) (by rw [List.length_map]; exact hsl) (fun e he => R4.kfew e (hsub e he))
          have F5 := F4.set (p := ⟨d, 1, none⟩) (Or.inl (Or.inl rfl)) (.slice a2 (staysL els n els).length c2)
          have de : (W3.setCell ⟨p.blk, 4, none⟩ (.slice a3 (noneOf n p.kids).length c3)).heap[d]? = _ := R4.doc
          have d1' : W3.cell? ⟨d, 1, none⟩ = some (.slice aL els.length cL) := R3.c1
          have dz' : ∀ k, W3.frozen? ⟨d, k, none⟩ = false := fun _ => frozen_of_blk R3.doc
          have hdp : d ≠ p.blk := fun eq => by
            rw [← eq, R3.doc] at pe3
            injection pe3 with h3
            injection h3 with _ h4 _
            exact absurd h4 (by decide)
          have HR5 : Hid (RD ((W3.setCell ⟨p.blk, 4, none⟩ (.slice a3 (noneOf n p.kids).length c3)).setCell ⟨d, 1, none⟩ (.slice a2 (staysL els n els).length c2)) d ((staysL els n els).map (updK p.blk (noneOf n p.kids) (.slice a3 (noneOf n p.kids).length c3))) made hp vT false (.slice a2 (staysL els n els).length c2)) := R5
          have HF5 : Hid (Fr w ((W3.setCell ⟨p.blk, 4, none⟩ (.slice a3 (noneOf n p.kids).length c3)).setCell ⟨d, 1, none⟩ (.slice a2 (staysL els n els).length c2)) (fpR d els (.slice aL els.length cL))) := F5
          clear R3 F3 R4 F4 R5 F5 ownS ownS4 ownS5 own3 o3 hb3 hsub de pe3 p4 HR1
          go_wp2
          go_ret
          exact Or.inr (Or.inr ⟨p, (.slice a3 (noneOf n p.kids).length c3), (.slice a2 (staysL els n els).length c2), ⟨y, HF.out⟩, HP.out, HPF.out, rfl, HR5.out, HF5.out, HK3.out, HS3.out⟩)

end Go.Proofs.YtblfffbmklkhmaaGreat

namespace Go.Proofs.YtblfffbmklkhmaaGreat
open Go.RowKit

def MovPost (w : World) (d : Nat) (els : List REl) (made : Nat) (hp : Option Addr) (vT : Value) (has : Bool) (vL : Value) (n m at' : Int) (e : Ending) (w' : World) : Prop :=
  ((findR els n = none ∨ findR els m = none) ∧ e = .returned (.int .i64 5) ∧ w' = w) ∨
  (∃ y p, findR els n = some y ∧ findR els m = some p ∧
    ((parI els n < 0 ∧ e = .returned (.int .i64 6) ∧ w' = w) ∨
     (0 ≤ parI els n ∧ Under els n m ∧ e = .returned (.int .i64 7) ∧ w' = w) ∨
     (0 ≤ parI els n ∧ ¬ Under els n m ∧ (at' < 0 ∨ ((noneOf n p.kids).length : Int) < at') ∧ e = .returned (.int .i64 8) ∧ RD w' d els made hp vT has vL ∧ Below w.heap.size w w') ∨
     (∃ (q : REl) (k : Nat) (k1 k2 : Value), 0 ≤ parI els n ∧ ¬ Under els n m ∧ at' = k ∧ k ≤ (noneOf n p.kids).length ∧ findR els (parI els n) = some q ∧ e = .returned (.int .i64 0) ∧
       RD w' d ((els.map (updK q.blk (noneOf n q.kids) k1)).map (updK p.blk (insL (noneOf n p.kids) k y.num) k2)) made hp vT false vL ∧ Fr w w' (fpR d els vL) ∧ (∀ j, k1.ownBlock = some j → w.heap.size ≤ j) ∧ (∀ j, k2.ownBlock = some j → w.heap.size ≤ j))))

set_option maxRecDepth 100000 in
set_option maxHeartbeats 4000000 in
theorem refmove_any (w : World) (d : Nat) (els : List REl) (made : Nat) (hp : Option Addr) (vT : Value) (has : Bool) (vL : Value) (n m at' : Int) (h : RD w d els made hp vT has vL) (rk : Nat → Nat) (hr : Rank els rk) (hkl : ∀ e ∈ els, e.kids.length < els.length) :
    Calls Tryz.prog 147 #[.pointer (some ⟨d, 0, none⟩), .int .i64 n, .int .i64 m, .int .i64 at'] w fun e w' => MovPost w d els made hp vT has vL n m at' e w' := by
  obtain ⟨aL, cL, hvL⟩ := h.shape
  subst hvL
  have hfew := h.few
  have HR : Hid (RD w d els made hp vT has (.slice aL els.length cL)) := h
  have HK : Hid (Rank els rk) := hr
  have HL : Hid (∀ e ∈ els, e.kids.length < els.length) := hkl
  clear h hr hkl
  go_enter Tryz.func147, Tryz.ntmps147
  go_wp2_with fail
  refine (find_any _ d els made hp vT has _ n HR.out).mono ?_
  rintro e w1 ⟨rfl, rfl⟩
  obtain ⟨w, rfl⟩ : ∃ w, w = w1 := ⟨_, rfl⟩
  go_wp2_with fail
  refine (find_any _ d els made hp vT has _ m HR.out).mono ?_
  rintro e w1 ⟨rfl, rfl⟩
  obtain ⟨w, rfl⟩ : ∃ w, w = w1 := ⟨_, rfl⟩
  cases hfind : findR els n with
  | none =>
    have HE : Hid (findR els n = none) := hfind
    clear hfind
    rw [show ptrOf none = Value.pointer none from rfl]
    generalize ptrOf (findR els m) = pm
    go_wp2
    go_ret
    exact Or.inl ⟨Or.inl HE.out, rfl, rfl⟩
  | some y =>
  have HF : Hid (findR els n = some y) := hfind
  clear hfind
  rw [show ptrOf (some y) = Value.pointer (some ⟨y.blk, 0, none⟩) from rfl]
  cases hfind : findR els m with
  | none =>
    have HE : Hid (findR els m = none) := hfind
    clear hfind
    rw [show ptrOf none = Value.pointer none from rfl]
    go_wp2
    go_ret
    exact Or.inl ⟨Or.inr HE.out, rfl, rfl⟩
  | some p =>
  have HFP : Hid (findR els m = some p) := hfind
  obtain ⟨hpm, _⟩ := find_mem hfind
  have HPM : Hid (p ∈ els) := hpm
  clear hfind hpm
  rw [show ptrOf (some p) = Value.pointer (some ⟨p.blk, 0, none⟩) from rfl]
  go_wp2_with fail
  refine (parent_any _ d els made hp vT has _ n HR.out).mono ?_
  rintro e w1 ⟨rfl, rfl⟩
  obtain ⟨w, rfl⟩ : ∃ w, w = w1 := ⟨_, rfl⟩
  by_cases hpn : parI els n < 0
  · have gp : decide (parI els n < 0) = true := by simpa using hpn
    have HP : Hid (parI els n < 0) := hpn
    clear hpn
    generalize hq : parI els n = q at gp HP ⊢
    have HQ : Hid (parI els n = q) := hq
    clear hq
    go_wp2
    go_ret
    exact Or.inr ⟨y, p, HF.out, HFP.out, Or.inl ⟨by rw [HQ.out]; exact HP.out, rfl, rfl⟩⟩
  have gp : decide (parI els n < 0) = false := by simpa using hpn
  obtain ⟨q, hqf⟩ := find_par hpn
  have HP : Hid (0 ≤ parI els n) := by unfold Hid; omega
  have HQF : Hid (findR els (parI els n) = some q) := hqf
  obtain ⟨hqm, _⟩ := find_mem hqf
  have HQM : Hid (q ∈ els) := hqm
  clear hqf hqm hpn
  go_wp2_with fail
  refine (under_any _ d els made hp vT has _ n m HR.out rk HK.out).mono ?_
  rintro e w2 ⟨b, rfl, rfl, HU⟩
  obtain ⟨w, rfl⟩ : ∃ w, w = w2 := ⟨_, rfl⟩
  cases b with
  | true =>
    have HYU : Hid (Under els n m) := HU.out.1 rfl
    clear HU
    go_wp2
    go_ret
    exact Or.inr ⟨y, p, HF.out, HFP.out, Or.inr (Or.inl ⟨HP.out, HYU.out, rfl, rfl⟩)⟩
  | false =>
  have HNU : Hid (¬ Under els n m) := fun h => by have := HU.out.2 h; cases this
  clear HU
  obtain ⟨_, p4⟩ := el_cells (HR.out.el p HPM.out)
  have pk := HR.out.kid p HPM.out
  have hpl := HR.out.kfew p HPM.out
  obtain ⟨ka, kc, hks⟩ := own_shape pk
  rw [hks] at p4 pk
  have HPK : Hid (w.ownsRow 0 3 1 (.slice ka p.kids.length kc) p.kids.length (ints p.kids)) := pk
  clear pk hks
  go_wp2_with fail
  refine (less_any w ka kc p.kids n 0 HPK.out hpl).mono ?_
  rintro e W1 ⟨a1, c1, rfl, own1, hb1⟩
  clear p4 HPK
  have hnl : (noneOf n p.kids).length < 24 := by
    have := noneOf_len n p.kids
    have := HL.out p HPM.out
    omega
  have HR1 : Hid (RD W1 d els made hp vT has (.slice aL els.length cL)) := HR.out.below hb1
  have HB1 : Hid (Below w.heap.size w W1) := hb1
  have HO1 : Hid (W1.ownsRow w.heap.size 3 1 (.slice a1 (noneOf n p.kids).length c1) (noneOf n p.kids).length (ints (noneOf n p.kids))) := own1
  clear own1 hb1
  by_cases h0 : at' < 0
  · have g0 : decide (at' < 0) = true := by simpa using h0
    have H0 : Hid (at' < 0) := h0
    clear h0
    go_wp2
    go_ret
    exact Or.inr ⟨y, p, HF.out, HFP.out, Or.inr (Or.inr (Or.inl ⟨HP.out, HNU.out, Or.inl H0.out, rfl, HR1.out, HB1.out⟩))⟩
  have g0 : decide (at' < 0) = false := by simpa using h0
  obtain ⟨k, rfl⟩ : ∃ k : Nat, at' = k := ⟨at'.toNat, by omega⟩
  clear h0
  by_cases h1 : (noneOf n p.kids).length < k
  · have g1 : decide (((noneOf n p.kids).length : Int) < (k : Int)) = true := by simp; omega
    go_wp2
    go_ret
    exact Or.inr ⟨y, p, HF.out, HFP.out, Or.inr (Or.inr (Or.inl ⟨HP.out, HNU.out, Or.inr (by omega), rfl, HR1.out, HB1.out⟩))⟩
  have g1 : decide (((noneOf n p.kids).length : Int) < (k : Int)) = false := by simp; omega
  have hkk : k ≤ (noneOf n p.kids).length := by omega
  clear h1
  have d4 : W1.cell? ⟨d, 4, none⟩ = some (.bool has) := cell_of_blk HR1.out.doc rfl
  have dz : ∀ k, W1.frozen? ⟨d, k, none⟩ = false := fun _ => frozen_of_blk HR1.out.doc
  have R2 : RD (W1.setCell ⟨d, 4, none⟩ (.bool false)) d els made hp vT false (.slice aL els.length cL) := HR1.out.setDoc' rfl
  have F2 : Fr w (W1.setCell ⟨d, 4, none⟩ (.bool false)) (fpR d els (.slice aL els.length cL)) := ((Fr.refl w _).below HB1.out).set (Or.inl (Or.inl rfl)) _
  have O2 := own_set HO1.out (own_ne_type HO1.out HR1.out.doc (by decide)) (p := ⟨d, 4, none⟩) (.bool false)
  have HR2 : Hid (RD (W1.setCell ⟨d, 4, none⟩ (.bool false)) d els made hp vT false (.slice aL els.length cL) ∧ Fr w (W1.setCell ⟨d, 4, none⟩ (.bool false)) (fpR d els (.slice aL els.length cL)) ∧ (W1.setCell ⟨d, 4, none⟩ (.bool false)).ownsRow w.heap.size 3 1 (.slice a1 (noneOf n p.kids).length c1) (noneOf n p.kids).length (ints (noneOf n p.kids))) := ⟨R2, F2, O2⟩
  clear R2 F2 O2
  go_wp2_with fail
  obtain ⟨W2, hW2⟩ : ∃ W2, W2 = W1.setCell ⟨d, 4, none⟩ (.bool false) := ⟨_, rfl⟩
  rw [← hW2] at HR2 ⊢
  clear hW2 d4 dz HR1 HB1 HO1
  refine (find_any _ d els made hp vT false _ (parI els n) HR2.out.1).mono ?_
  rintro e w3 ⟨rfl, rfl⟩
  obtain ⟨W2, rfl⟩ : ∃ W2, W2 = w3 := ⟨_, rfl⟩
  rw [HQF.out, show ptrOf (some q) = Value.pointer (some ⟨q.blk, 0, none⟩) from rfl]
  obtain ⟨_, q4⟩ := el_cells (HR2.out.1.el q HQM.out)
  have qk := HR2.out.1.kid q HQM.out
  have hql := HR2.out.1.kfew q HQM.out
  obtain ⟨la, lc, hls⟩ := own_shape qk
  rw [hls] at q4 qk
  have HQK : Hid (W2.ownsRow 0 3 1 (.slice la q.kids.length lc) q.kids.length (ints q.kids)) := qk
  clear qk hls
  go_wp2_with fail
  refine (less_any W2 la lc q.kids n 0 HQK.out hql).mono ?_
  rintro e W3 ⟨a3, c3, rfl, own3, hb3⟩
  clear q4 HQK
  have hnq : (noneOf n q.kids).length ≤ 24 := by have := noneOf_len n q.kids; omega
  have R3 := HR2.out.1.below hb3
  have F3 := HR2.out.2.1.below hb3
  have O3 := own_below HR2.out.2.2 hb3
  have qe3 := R3.el q HQM.out
  have qz : ∀ k, W3.frozen? ⟨q.blk, k, none⟩ = false := fun _ => frozen_of_blk qe3
  have q4 : W3.cell? ⟨q.blk, 4, none⟩ = some q.ks := (el_cells qe3).2
  have o3 : W3.ownsRow 0 3 1 (.slice a3 (noneOf n q.kids).length c3) (noneOf n q.kids).length (ints (noneOf n q.kids)) := own_mono own3 (Nat.zero_le _)
  have HK3 : Hid (∀ j, (Value.slice a3 (noneOf n q.kids).length c3).ownBlock = some j → w.heap.size ≤ j) := fun j hj => by
    have := (own3.lt j hj).1
    have := HR2.out.2.1.size
    omega
  have R4 := R3.setKids HQM.out o3 hnq
  have F4 := F3.set (p := ⟨q.blk, 4, none⟩) (Or.inl (Or.inr (Or.inl ⟨q, HQM.out, rfl⟩))) (.slice a3 (noneOf n q.kids).length c3)
  have O4 := own_set O3 (own_ne_type O3 qe3 (by decide)) (p := ⟨q.blk, 4, none⟩) (.slice a3 (noneOf n q.kids).length c3)
  have HR4 : Hid (RD (W3.setCell ⟨q.blk, 4, none⟩ (.slice a3 (noneOf n q.kids).length c3)) d (els.map (updK q.blk (noneOf n q.kids) (.slice a3 (noneOf n q.kids).length c3))) made hp vT false (.slice aL els.length cL) ∧ Fr w (W3.setCell ⟨q.blk, 4, none⟩ (.slice a3 (noneOf n q.kids).length c3)) (fpR d els (.slice aL els.length cL)) ∧ (W3.setCell ⟨q.blk, 4, none⟩ (.slice a3 (noneOf n q.kids).length c3)).ownsRow w.heap.size 3 1 (.slice a1 (noneOf n p.kids).length c1) (noneOf n p.kids).length (ints (noneOf n p.kids))) := ⟨R4, F4, O4⟩
  clear R3 F3 O3 R4 F4 O4 own3 hb3 o3 qe3 HR2
  go_wp2_with fail
  obtain ⟨W4, hW4⟩ : ∃ W4, W4 = W3.setCell ⟨q.blk, 4, none⟩ (.slice a3 (noneOf n q.kids).length c3) := ⟨_, rfl⟩
  rw [← hW4] at HR4 ⊢
  clear hW4 qz q4
  have hyn : n = y.num := (find_mem HF.out).2.symm
  have hins := inserted_any W4 a1 c1 (noneOf n p.kids) k y.num w.heap.size HR4.out.2.2 (by omega) hkk
  refine (show Calls Tryz.prog 171 #[.slice a1 (noneOf n p.kids).length c1, .int .i64 k, .int .i64 n] W4 fun e w' => LPost W4 (insL (noneOf n p.kids) k y.num) e w' from by rw [show (Value.int .i64 n) = .int .i64 (y.num : Int) from by rw [hyn]]; exact hins).mono ?_
  rintro e W5 ⟨a5, c5, rfl, own5, hb5⟩
  clear hins hyn
  have hil : (insL (noneOf n p.kids) k y.num).length ≤ 24 := by simp [insL]; omega
  have R5 := HR4.out.1.below hb5
  have F5 := HR4.out.2.1.below hb5
  have hpm' : updK q.blk (noneOf n q.kids) (.slice a3 (noneOf n q.kids).length c3) p ∈ els.map (updK q.blk (noneOf n q.kids) (.slice a3 (noneOf n q.kids).length c3)) := List.mem_map.2 ⟨p, HPM.out, rfl⟩
  have pe5 := R5.el _ hpm'
  have R6 := R5.setKids hpm' (own_mono own5 (Nat.zero_le _)) hil
  rw [updK_blk] at pe5 R6
  have pz : ∀ k, W5.frozen? ⟨p.blk, k, none⟩ = false := fun _ => frozen_of_blk pe5
  have p4 : W5.cell? ⟨p.blk, 4, none⟩ = some (updK q.blk (noneOf n q.kids) (.slice a3 (noneOf n q.kids).length c3) p).ks := cell_of_blk pe5 rfl
  have F6 := F5.set (p := ⟨p.blk, 4, none⟩) (Or.inl (Or.inr (Or.inl ⟨p, HPM.out, rfl⟩))) (.slice a5 (insL (noneOf n p.kids) k y.num).length c5)
  have HK5 : Hid (∀ j, (Value.slice a5 (insL (noneOf n p.kids) k y.num).length c5).ownBlock = some j → w.heap.size ≤ j) := fun j hj => by
    have := (own5.lt j hj).1
    have := HR4.out.2.1.size
    omega
  have HR6 : Hid (RD (W5.setCell ⟨p.blk, 4, none⟩ (.slice a5 (insL (noneOf n p.kids) k y.num).length c5)) d ((els.map (updK q.blk (noneOf n q.kids) (.slice a3 (noneOf n q.kids).length c3))).map (updK p.blk (insL (noneOf n p.kids) k y.num) (.slice a5 (insL (noneOf n p.kids) k y.num).length c5))) made hp vT false (.slice aL els.length cL)) := R6
  have HF6 : Hid (Fr w (W5.setCell ⟨p.blk, 4, none⟩ (.slice a5 (insL (noneOf n p.kids) k y.num).length c5)) (fpR d els (.slice aL els.length cL))) := F6
  clear R5 F5 R6 F6 pe5 own5 hb5 hpm' HR4
  generalize (updK q.blk (noneOf n q.kids) (.slice a3 (noneOf n q.kids).length c3) p).ks = oldk at p4
  go_wp2
  go_ret
  exact Or.inr ⟨y, p, HF.out, HFP.out, Or.inr (Or.inr (Or.inr ⟨q, k, .slice a3 (noneOf n q.kids).length c3, .slice a5 (insL (noneOf n p.kids) k y.num).length c5, HP.out, HNU.out, rfl, hkk, HQF.out, rfl, HR6.out, HF6.out, HK3.out, HK5.out⟩))⟩

end Go.Proofs.YtblfffbmklkhmaaGreat

namespace Go.Proofs.YtblfffbmklkhmaaGreat
open Go.RowKit

def newErr (s root : ByteArray) : Int := if (chk s).1 ≠ 0 then (chk s).1 else if isLetter root = false then 4 else 0

def RNewPost (w : World) (s root : ByteArray) (e : Ending) (w' : World) : Prop :=
  Below w.heap.size w w' ∧
  ((newErr s root ≠ 0 ∧ e = .returned (.tuple #[.pointer none, .int .i64 (newErr s root)])) ∨
   (newErr s root = 0 ∧ ∃ (d b : Nat) (hp : Option Addr) (vL : Value), e = .returned (.tuple #[.pointer (some ⟨d, 0, none⟩), .int .i64 0]) ∧
     RD w' d [newEl b 0 root] 1 hp (.slice none 0 0) false vL ∧ w.heap.size ≤ d ∧ w.heap.size ≤ b ∧ (∀ j, vL.ownBlock = some j → w.heap.size ≤ j)))

theorem own_one {w : World} {g : Nat} {t : TypeId} {v : Value} (hg : w.heap[g]? = some (.cells #[v] t (0, 0))) : w.ownsRow 0 t 1 (.slice (some ⟨g, 0, none⟩) 1 1) 1 [v] := by
  refine ⟨rfl, Or.inr ⟨g, 1, #[v], rfl, Nat.zero_le _, hg, Nat.le_refl _, by unfold maxLen; omega, rfl, rfl⟩⟩

theorem three_at (w : World) (a b c : Obj) : (((w.alloc a).alloc b).alloc c).heap[w.heap.size]? = some a ∧ (((w.alloc a).alloc b).alloc c).heap[w.heap.size + 1]? = some b ∧ (((w.alloc a).alloc b).alloc c).heap[w.heap.size + 1 + 1]? = some c := by
  refine ⟨?_, ?_, ?_⟩
  · rw [heap_two _ _ _ _ (by simp), heap_alloc_new w]
  · rw [Below.heap_alloc _ _ _ (by simp)]
    have := heap_alloc_new (w.alloc a) (o := b)
    simpa using this
  · have := heap_alloc_new ((w.alloc a).alloc b) (o := c)
    simpa using this

theorem new_rd (w : World) (root : ByteArray) (pa : Option Addr) :
    RD (((w.alloc (.cells (newEl w.heap.size 0 root).cells 176)).alloc (.cells #[.pointer (some ⟨w.heap.size, 0, none⟩)] 171)).alloc (.cells #[.pointer pa, .slice (some ⟨w.heap.size + 1, 0, none⟩) 1 1, .int .i64 1, .slice none 0 0, .bool false] 121)) (w.heap.size + 1 + 1) [newEl w.heap.size 0 root] 1 pa (.slice none 0 0) false (.slice (some ⟨w.heap.size + 1, 0, none⟩) 1 1) := by
  obtain ⟨h1, h2, h3⟩ := three_at w (.cells (newEl w.heap.size 0 root).cells 176) (.cells #[.pointer (some ⟨w.heap.size, 0, none⟩)] 171) (.cells #[.pointer pa, .slice (some ⟨w.heap.size + 1, 0, none⟩) 1 1, .int .i64 1, .slice none 0 0, .bool false] 121)
  refine ⟨h3, own_one h2, fun e he => ?_, fun e he => ?_, by simp, fun e he => ?_⟩
  · simp only [List.mem_cons, List.not_mem_nil, or_false] at he
    subst he
    exact h1
  · simp only [List.mem_cons, List.not_mem_nil, or_false] at he
    subst he
    exact World.ownsRow_nil _ _ _ _
  · simp only [List.mem_cons, List.not_mem_nil, or_false] at he
    subst he
    exact Nat.zero_le _

set_option maxRecDepth 100000 in
set_option maxHeartbeats 4000000 in
theorem refnew_any (w : World) (s root : ByteArray) (hs : s.size ≤ maxLen) :
    Calls Tryz.prog 90 #[.string s, .string root] w fun e w' => RNewPost w s root e w' := by
  go_enter Tryz.func90, Tryz.ntmps90
  go_wp2_with fail
  refine (refread_any _ s hs).mono ?_
  rintro e w1 ⟨pa, rfl, hb, _⟩
  by_cases hc : (chk s).1 = 0
  · have gc : ((chk s).1 != 0) = false := by simp [hc]
    have HC : Hid (newErr s root = if isLetter root = false then 4 else 0) := by unfold Hid newErr; rw [if_neg (fun h => h hc)]
    rw [hc]
    generalize (chk s).2 = c2
    clear hc gc
    have hz := hb.size
    go_wp2_with fail
    refine (letter_ref _ root).mono ?_
    rintro e w2 ⟨rfl, rfl⟩
    obtain ⟨w1, rfl⟩ : ∃ w1, w1 = w2 := ⟨_, rfl⟩
    cases hlet : isLetter root with
    | false =>
      have HE : Hid (newErr s root = 4) := by unfold Hid; rw [HC.out, if_pos hlet]
      clear hlet HC
      go_wp2
      go_ret2
      exact ⟨hb, Or.inl ⟨by rw [HE.out]; decide, by rw [HE.out]; rfl⟩⟩
    | true =>
      have HE : Hid (newErr s root = 0) := by unfold Hid; rw [HC.out, if_neg (by rw [hlet]; decide)]
      clear hlet HC
      go_wp2
      go_ret2
      have h1 : w.heap.size ≤ (w1.alloc (.cells (newEl w1.heap.size 0 root).cells 176)).heap.size := by simp; omega
      refine ⟨((hb.alloc hz _).alloc (by simp; omega) _).alloc (by simp; omega) _, Or.inr ⟨HE.out, w1.heap.size + 1 + 1, w1.heap.size, pa, .slice (some ⟨w1.heap.size + 1, 0, none⟩) 1 1, rfl, ?_, by omega, by omega, fun j hj => by simp [Value.ownBlock] at hj; omega⟩⟩
      exact new_rd w1 root pa
  · have gc : ((chk s).1 != 0) = true := by simp [hc]
    have HE : Hid (newErr s root = (chk s).1) := by unfold Hid newErr; rw [if_pos hc]
    have HC : Hid ((chk s).1 ≠ 0) := hc
    generalize hc1 : (chk s).1 = c1 at gc HC HE ⊢
    generalize (chk s).2 = c2
    clear hc1 hc
    go_wp2
    go_ret2
    exact ⟨hb, Or.inl ⟨by rw [HE.out]; exact HC.out, by rw [HE.out]; rfl⟩⟩

end Go.Proofs.YtblfffbmklkhmaaGreat
