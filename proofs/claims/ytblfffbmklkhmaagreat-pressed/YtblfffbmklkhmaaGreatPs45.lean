/- Own work. -/
import Derived.Test.YtblfffbmklkhmaaGreatPs44
import Derived.Test.YtblfffbmklkhmaaGreatPs6
namespace Go.Proofs.YtblfffbmklkhmaaGreat
open Go.RowKit
def renX (b : Nat) (x : SlA) (l : List SlA) : List Nat := renS b x ++ l.flatMap fun y => 44 :: renS b y
theorem renS_pos (b : Nat) {x : SlA} (hx : x.ok) : 0 < (renS b x).length := by
  have := renC_pos b hx.1
  unfold renS
  rw [List.length_append]
  omega
theorem list_pos (b : Nat) : ∀ l : List (Nat × CpA), l.length ≤ (renL b l).length
  | [] => Nat.le_refl _
  | y :: l => by
    have := list_pos b l
    unfold renL at *
    rw [List.flatMap_cons, List.length_append, List.length_cons, List.length_cons]
    omega
theorem selOne {s : ByteArray} {b n : Nat} {x : SlA} {i : Nat} (hx : x.ok) (h : Txt s i (renS b x)) (hA : isA (bt s (i + (renS b x).length)) = false) (hS : isS (bt s (i + (renS b x).length)) = false) (hn : (renS b x).length ≤ n) : selF s n i n i = (toS b x, i + (renS b x).length) := by
  have h1 := list_pos b x.l
  have h2 := renC_pos b hx.1
  have h3 : (renS b x).length = (renC b x.c).length + (renL b x.l).length := List.length_append
  have := sel_ren (s := s) (b := b) (n := n) (i0 := i) x.l x.c i n hx.1 hx.2 h hA hS (Nat.le_refl _) hn (by omega)
  rw [this]
  have hg : sgOf s i i = 0 := by unfold sgOf; rw [if_pos rfl]
  rw [hg]
  rfl
theorem sels_ren {s : ByteArray} {b n : Nat} : ∀ (l : List SlA) (x : SlA) (i f : Nat), x.ok → (∀ y ∈ l, y.ok) → Txt s i (renX b x l) → bt s (i + (renX b x l).length) = 123 → (renX b x l).length ≤ n → l.length < f → selsF s n f i = (toS b x :: l.map (toS b), i + (renX b x l).length)
  | [], x, i, f, hx, _, h, hE, hn, hf => by
    have e : renX b x [] = renS b x := List.append_nil _
    rw [e] at h hE hn ⊢
    have h1 := selOne (n := n) hx h (by rw [hE]; decide) (by rw [hE]; decide) hn
    cases f with
    | zero => simp at hf
    | succ f =>
      unfold selsF
      rw [h1]
      simp only
      rw [if_neg (by rw [hE]; decide)]
      rfl
  | y :: l, x, i, f, hx, hl, h, hE, hn, hf => by
    have e : renX b x (y :: l) = renS b x ++ 44 :: renX b y l := by unfold renX; rw [List.flatMap_cons]; rfl
    rw [e] at h hE hn ⊢
    have htot : (renS b x ++ 44 :: renX b y l).length = (renS b x).length + 1 + (renX b y l).length := by rw [List.length_append, List.length_cons]; omega
    rw [txt_append] at h
    have hsg : bt s (i + (renS b x).length) = 44 := h.2.1
    have h1 := selOne (n := n) hx h.1 (by rw [hsg]; decide) (by rw [hsg]; decide) (by omega)
    cases f with
    | zero => simp at hf
    | succ f =>
      have ha : i + (renS b x).length + 1 + (renX b y l).length = i + (renS b x ++ 44 :: renX b y l).length := by rw [htot]; omega
      have ih := sels_ren (n := n) l y (i + (renS b x).length + 1) f (hl y List.mem_cons_self) (fun z hz => hl z (List.mem_cons_of_mem _ hz)) h.2.2 (by rw [ha]; exact hE) (by omega) (by simpa using hf)
      rw [ha] at ih
      unfold selsF
      rw [h1]
      simp only
      rw [if_pos hsg, ih]
      rfl
inductive VlA where
  | ini
  | rev
  | uns
  | var (v : Nat)
  | num (ds : List Nat)
def renV : VlA → List Nat
  | .ini => [105]
  | .rev => [114]
  | .uns => [117]
  | .var v => [36, v]
  | .num ds => ds.map fun d => 48 + d
def numA (ds : List Nat) : Int := ds.foldl (fun (a : Int) (d : Nat) => a * 10 + (d : Int)) 0
def toV : VlA → Int × Int × Int
  | .ini => (2, 0, 0)
  | .rev => (3, 0, 0)
  | .uns => (4, 0, 0)
  | .var v => (5, 0, v)
  | .num ds => (1, numA ds, 0)
def VlA.ok : VlA → Prop
  | .num ds => 1 ≤ ds.length ∧ ds.length ≤ 3 ∧ ∀ d ∈ ds, d ≤ 9
  | _ => True
theorem txt_at {s : ByteArray} : ∀ (l : List Nat) (i j : Nat) (hj : j < l.length), Txt s i l → bt s (i + j) = l[j]
  | c :: l, i, 0, _, h => h.1
  | c :: l, i, j + 1, hj, h => by
    have := txt_at l (i + 1) j (by simpa using hj) h.2
    rw [show i + (j + 1) = i + 1 + j from by omega, this]
    rfl
theorem num_ren {s : ByteArray} {i : Nat} {ds : List Nat} (h : Txt s i (ds.map fun d => 48 + d)) : ∀ t, t ≤ ds.length → numV s i t = numA (ds.take t)
  | 0, _ => rfl
  | t + 1, ht => by
    have h1 := txt_at _ i t (by rw [List.length_map]; omega) h
    rw [List.getElem_map] at h1
    show numV s i t * 10 + ((bt s (i + t) : Int) - 48) = _
    rw [num_ren h t (by omega), h1, List.take_succ_eq_append_getElem (show t < ds.length by omega)]
    unfold numA
    rw [List.foldl_append]
    show _ = (ds.take t).foldl _ 0 * 10 + (ds[t] : Int)
    omega
theorem val_ren {s : ByteArray} {i : Nat} : ∀ (v : VlA), v.ok → Txt s i (renV v) → isD (bt s (i + (renV v).length)) = false → valF s i = ((toV v).1, (toV v).2.1, (toV v).2.2, i + (renV v).length)
  | .ini, _, h, _ => by unfold valF; rw [h.1, if_pos rfl]; rfl
  | .rev, _, h, _ => by unfold valF; rw [h.1, if_neg (by decide), if_pos rfl]; rfl
  | .uns, _, h, _ => by unfold valF; rw [h.1, if_neg (by decide), if_neg (by decide), if_pos rfl]; rfl
  | .var v, _, h, _ => by unfold valF; rw [h.1, if_neg (by decide), if_neg (by decide), if_neg (by decide), if_pos rfl, h.2.1]; rfl
  | .num ds, hk, h, hD => by
    obtain ⟨h1, h2, h3⟩ := hk
    have hlen : (renV (.num ds)).length = ds.length := List.length_map ..
    have hd : ∀ j (hj : j < ds.length), bt s (i + j) = 48 + ds[j] ∧ ds[j] ≤ 9 := fun j hj => by
      have h' : Txt s i (ds.map fun d => 48 + d) := h
      have h4 := txt_at _ i j (by rw [List.length_map]; exact hj) h'
      rw [List.getElem_map] at h4
      exact ⟨h4, h3 _ (List.getElem_mem hj)⟩
    have h0 := hd 0 h1
    rw [Nat.add_zero] at h0
    have hdig : ∀ j, j < ds.length → isD (bt s (i + j)) = true := fun j hj => by
      have := hd j hj
      unfold isD
      rw [decide_eq_true_eq]
      omega
    have hdg : digsF s i = ds.length := by
      rw [hlen] at hD
      unfold digsF
      by_cases a : 1 < ds.length
      · rw [if_pos (hdig 1 a)]
        by_cases c : 2 < ds.length
        · rw [if_pos (hdig 2 c)]; omega
        · rw [show ds.length = 2 from by omega] at hD
          rw [if_neg (by rw [hD]; simp)]; omega
      · rw [show ds.length = 1 from by omega] at hD
        rw [if_neg (by rw [hD]; simp)]; omega
    unfold valF
    rw [if_neg (by omega), if_neg (by omega), if_neg (by omega), if_neg (by omega), hdg, num_ren h _ (Nat.le_refl _), List.take_length, hlen]
    rfl
structure DcA where
  pr : Nat
  v : VlA
  im : Bool
def renD (d : DcA) : List Nat := d.pr :: 58 :: (renV d.v ++ if d.im = true then [33] else [])
def toD (d : DcA) : PDc := ⟨d.pr, (toV d.v).1, (toV d.v).2.1, (toV d.v).2.2, d.im⟩
def DcA.ok (d : DcA) : Prop := d.v.ok ∧ d.pr ≠ 125
theorem decl_ren {s : ByteArray} {i : Nat} {d : DcA} (hd : d.ok) (h : Txt s i (renD d)) (hE : bt s (i + (renD d).length) = 59 ∨ bt s (i + (renD d).length) = 125) : declF s i = (toD d, i + (renD d).length) := by
  obtain ⟨pr, v, im⟩ := d
  unfold renD at h hE ⊢
  simp only at h hE ⊢
  obtain ⟨h1, _, h⟩ := h
  rw [txt_append] at h
  unfold declF
  cases im with
  | true =>
    rw [if_pos rfl] at h hE ⊢
    have hlen : (pr :: 58 :: (renV v ++ [33])).length = 2 + (renV v).length + 1 := by
      rw [List.length_cons, List.length_cons, List.length_append, List.length_singleton]
      omega
    rw [hlen] at hE ⊢
    have h33 : bt s (i + 2 + (renV v).length) = 33 := h.2.1
    have hv := val_ren (i := i + 2) v hd.1 h.1 (by rw [h33]; decide)
    rw [hv]
    simp only
    rw [h33, h1, if_pos rfl]
    show (PDc.mk _ _ _ _ true, _) = (PDc.mk _ _ _ _ true, _)
    rw [show i + 2 + (renV v).length + 1 = i + (2 + (renV v).length + 1) from by omega]
  | false =>
    rw [show (if false = true then [33] else []) = ([] : List Nat) from rfl] at h hE ⊢
    have hlen : (pr :: 58 :: (renV v ++ [])).length = 2 + (renV v).length := by
      rw [List.length_cons, List.length_cons, List.append_nil]
      omega
    rw [hlen] at hE ⊢
    rw [show i + (2 + (renV v).length) = i + 2 + (renV v).length from by omega] at hE ⊢
    have hv := val_ren (i := i + 2) v hd.1 h.1 (by rcases hE with hE | hE <;> rw [hE] <;> decide)
    have hne : bt s (i + 2 + (renV v).length) ≠ 33 := by rcases hE with hE | hE <;> rw [hE] <;> decide
    rw [hv]
    simp only
    rw [if_neg hne, h1, decide_eq_false hne]
    rfl
def renDs (d : DcA) (l : List DcA) : List Nat := renD d ++ l.flatMap fun y => 59 :: renD y
theorem dcs_ren {s : ByteArray} : ∀ (l : List DcA) (d : DcA) (i f : Nat), d.ok → (∀ y ∈ l, y.ok) → Txt s i (renDs d l) → bt s (i + (renDs d l).length) = 125 → l.length < f → dcsF s f i = (toD d :: l.map toD, i + (renDs d l).length)
  | [], d, i, f, hd, _, h, hE, hf => by
    have e : renDs d [] = renD d := List.append_nil _
    rw [e] at h hE ⊢
    have h1 := decl_ren hd h (Or.inr hE)
    cases f with
    | zero => simp at hf
    | succ f =>
      unfold dcsF
      rw [h1]
      simp only
      rw [if_neg (by rw [hE]; decide)]
      rfl
  | y :: l, d, i, f, hd, hl, h, hE, hf => by
    have e : renDs d (y :: l) = renD d ++ 59 :: renDs y l := by unfold renDs; rw [List.flatMap_cons]; rfl
    rw [e] at h hE ⊢
    have htot : (renD d ++ 59 :: renDs y l).length = (renD d).length + 1 + (renDs y l).length := by rw [List.length_append, List.length_cons]; omega
    rw [txt_append] at h
    have hsg : bt s (i + (renD d).length) = 59 := h.2.1
    have h1 := decl_ren hd h.1 (Or.inl hsg)
    cases f with
    | zero => simp at hf
    | succ f =>
      have ha : i + (renD d).length + 1 + (renDs y l).length = i + (renD d ++ 59 :: renDs y l).length := by rw [htot]; omega
      have ih := dcs_ren l y (i + (renD d).length + 1) f (hl y List.mem_cons_self) (fun z hz => hl z (List.mem_cons_of_mem _ hz)) h.2.2 (by rw [ha]; exact hE) (by simpa using hf)
      rw [ha] at ih
      unfold dcsF
      rw [h1]
      simp only
      rw [if_pos hsg, ih]
      rfl
structure RuA where
  ly : Option Nat
  x : SlA
  xs : List SlA
  d : DcA
  ds : List DcA
def renY : Option Nat → List Nat
  | none => []
  | some d => [64, 48 + d]
def renR (b : Nat) (r : RuA) : List Nat := renY r.ly ++ (renX b r.x r.xs ++ 123 :: (renDs r.d r.ds ++ [125]))
def toY : Option Nat → Int
  | none => 10
  | some d => d
def toR (b : Nat) (r : RuA) : PRu := ⟨toY r.ly, toS b r.x :: r.xs.map (toS b), toD r.d :: r.ds.map toD⟩
def RuA.ok (r : RuA) : Prop := r.x.ok ∧ (∀ y ∈ r.xs, y.ok) ∧ r.d.ok ∧ ∀ y ∈ r.ds, y.ok
theorem head_ren {s : ByteArray} {b i : Nat} {c : CpA} (hc : c.ok) (h : Txt s i (renC b c)) : bt s i ≠ 64 := by
  obtain ⟨hd, ps⟩ := c
  unfold renC at h
  simp only at h
  match hd, hc, h with
  | none, hc, h =>
    cases ps with
    | nil => exact absurd rfl (hc.2 rfl)
    | cons p ps =>
      have h' : Txt s i ((p :: ps).flatMap (renP b)) := h
      rw [List.flatMap_cons, txt_append] at h'
      obtain ⟨_, _, g3, _, _⟩ := part_ren (hc.1 p List.mem_cons_self) h'.1
      intro e
      rw [e] at g3
      exact absurd g3 (by decide)
  | some none, _, h => exact fun e => by rw [h.1] at e; exact absurd e (by decide)
  | some (some j), _, h =>
    intro e
    have h1 := ltr_lt b j
    have h2 : bt s i = ltr b j := h.1
    omega
theorem renX_len (b : Nat) (x : SlA) : ∀ l : List SlA, l.length + (renS b x).length ≤ (renX b x l).length
  | [] => by unfold renX; simp
  | y :: l => by
    have := renX_len b x l
    unfold renX at *
    rw [List.flatMap_cons, List.length_append, List.length_append, List.length_cons, List.length_cons]
    rw [List.length_append] at this
    omega
theorem renDs_len (d : DcA) : ∀ l : List DcA, l.length + (renD d).length ≤ (renDs d l).length
  | [] => by unfold renDs; simp
  | y :: l => by
    have := renDs_len d l
    unfold renDs at *
    rw [List.flatMap_cons, List.length_append, List.length_append, List.length_cons, List.length_cons]
    rw [List.length_append] at this
    omega
theorem rule_ren {s : ByteArray} {b n i : Nat} {r : RuA} (hr : r.ok) (h : Txt s i (renR b r)) (hn : (renR b r).length ≤ n) : ruleF s n i = (toR b r, i + (renR b r).length) := by
  obtain ⟨ly, x, xs, d, ds⟩ := r
  obtain ⟨k1, k2, k3, k4⟩ := hr
  unfold renR at h hn ⊢
  simp only at h hn k1 k2 k3 k4 ⊢
  have hlen : (renY ly ++ (renX b x xs ++ 123 :: (renDs d ds ++ [125]))).length = (renY ly).length + (renX b x xs).length + (renDs d ds).length + 2 := by
    rw [List.length_append, List.length_append, List.length_cons, List.length_append, List.length_singleton]
    omega
  rw [txt_append, txt_append] at h
  obtain ⟨hY, hX, hB⟩ := h
  have g1 := renX_len b x xs
  have g2 := renS_pos b k1
  have g3 := renDs_len d ds
  have hlay : layF s i = i + (renY ly).length ∧ layV s i = toY ly := by
    match ly, hY with
    | none, _ =>
      have hx : Txt s i (renC b x.c) := by
        have h5 : Txt s i (renX b x xs) := hX
        unfold renX renS at h5
        rw [List.append_assoc, txt_append] at h5
        exact h5.1
      have hne := head_ren k1.1 hx
      unfold layF layV
      rw [if_neg hne, if_neg hne]
      exact ⟨rfl, rfl⟩
    | some z, hY =>
      unfold layF layV
      rw [if_pos hY.1, if_pos hY.1, hY.2.1]
      refine ⟨rfl, ?_⟩
      show ((48 + z : Nat) : Int) - 48 = z
      omega
  have h123 : bt s (i + (renY ly).length + (renX b x xs).length) = 123 := hB.1
  have hss := sels_ren (n := n) xs x (i + (renY ly).length) n k1 k2 hX h123 (by omega) (by omega)
  have hB2 := hB.2
  rw [txt_append] at hB2
  have h125 : bt s (i + (renY ly).length + (renX b x xs).length + 1 + (renDs d ds).length) = 125 := hB2.2.1
  have hdd := dcs_ren (s := s) ds d (i + (renY ly).length + (renX b x xs).length + 1) n k3 k4 hB2.1 h125 (by omega)
  have hnot : bt s (i + (renY ly).length + (renX b x xs).length + 1) ≠ 125 := by
    have h5 := hB2.1
    unfold renDs renD at h5
    have h6 : bt s (i + (renY ly).length + (renX b x xs).length + 1) = d.pr := h5.1
    rw [h6]
    exact k3.2
  have hblk : blkF s n (i + (renY ly).length + (renX b x xs).length) = (toD d :: ds.map toD, i + (renY ly ++ (renX b x xs ++ 123 :: (renDs d ds ++ [125]))).length) := by
    unfold blkF
    rw [if_neg hnot, hdd, hlen]
    simp only
    rw [show i + (renY ly).length + (renX b x xs).length + 1 + (renDs d ds).length + 1 = i + ((renY ly).length + (renX b x xs).length + (renDs d ds).length + 2) from by omega]
  unfold ruleF
  rw [hlay.1, hlay.2, hss]
  simp only
  rw [hblk]
  rfl
theorem renR_pos (b : Nat) (r : RuA) : 0 < (renR b r).length := by
  unfold renR
  rw [List.length_append, List.length_append, List.length_cons]
  omega
theorem ruls_ren {s : ByteArray} {b n : Nat} (hn : s.size ≤ n) : ∀ (rs : List RuA) (i f : Nat), (∀ r ∈ rs, r.ok) → Txt s i (rs.flatMap (renR b)) → i + (rs.flatMap (renR b)).length = s.size → s.size - i ≤ f → rulsF s n f i = rs.map (toR b)
  | [], i, f, _, _, he, hf => by
    have he' : i = s.size := he
    cases f with
    | zero => rfl
    | succ f => unfold rulsF; rw [if_neg (by omega)]; rfl
  | r :: rs, i, f, hr, h, he, hf => by
    rw [List.flatMap_cons, txt_append] at h
    rw [List.flatMap_cons, List.length_append] at he
    have hp := renR_pos b r
    cases f with
    | zero => omega
    | succ f =>
      have h1 := rule_ren (n := n) (hr r List.mem_cons_self) h.1 (by omega)
      have ih := ruls_ren hn rs (i + (renR b r).length) f (fun q hq => hr q (List.mem_cons_of_mem _ hq)) h.2 (by omega) (by omega)
      unfold rulsF
      rw [if_pos (by omega), h1]
      simp only
      rw [ih]
      rfl
theorem txt_of {s : ByteArray} : ∀ (l : List Nat) (i : Nat), (∀ j (hj : j < l.length), bt s (i + j) = l[j]) → Txt s i l
  | [], _, _ => trivial
  | c :: l, i, h => ⟨h 0 (Nat.zero_lt_succ _), txt_of l (i + 1) fun j hj => by
      have := h (j + 1) (by rw [List.length_cons]; omega)
      rw [List.getElem_cons_succ] at this
      rw [← this]
      congr 1
      omega⟩
end Go.Proofs.YtblfffbmklkhmaaGreat

namespace Go.Proofs.YtblfffbmklkhmaaGreat
open Go.RowKit
def bl (s : ByteArray) : List Nat := s.data.toList.map UInt8.toNat
theorem bl_append (s t : ByteArray) : bl (s ++ t) = bl s ++ bl t := by
  unfold bl
  rw [ByteArray.data_append, Array.toList_append, List.map_append]
theorem bl_length (s : ByteArray) : (bl s).length = s.size := by
  unfold bl
  rw [List.length_map, Array.length_toList]
  rfl
theorem bl_at (s : ByteArray) (i : Nat) (h : i < (bl s).length) : bt s i = (bl s)[i] := by
  have h2 : i < s.size := by rw [bl_length] at h; exact h
  rw [bt_at s i h2]
  have h3 : (s.data.toList.map UInt8.toNat)[i]'(by rw [List.length_map, Array.length_toList]; exact h2) = s[i].toNat := by
    rw [List.getElem_map, Array.getElem_toList]
    rfl
  exact h3.symm
abbrev Q3 := Int × Nat × Nat
def stp (q : Q3) (c : Nat) : Option Q3 :=
  if nxt q.1 c = -1 then none
  else if q.1 = 0 then (if q.2.1 = 20 then none else some (nxt q.1 c, q.2.1 + 1, 1))
  else if q.1 = 18 ∨ q.1 = 1 then some (nxt q.1 c, q.2.1, 1)
  else if q.1 = 3 then (if isS c = true then (if q.2.2 = 4 then none else some (nxt q.1 c, q.2.1, q.2.2 + 1)) else if c = 44 then some (nxt q.1 c, q.2.1, 1) else some (nxt q.1 c, q.2.1, q.2.2))
  else some (nxt q.1 c, q.2.1, q.2.2)
def run : List Nat → Q3 → Option Q3
  | [], q => some q
  | c :: l, q => (stp q c).bind (run l)
theorem run_append : ∀ (l l2 : List Nat) (q : Q3), run (l ++ l2) q = (run l q).bind (run l2)
  | [], _, _ => rfl
  | c :: l, l2, q => by
    show (stp q c).bind (run (l ++ l2)) = ((stp q c).bind (run l)).bind (run l2)
    cases stp q c with
    | none => rfl
    | some q' => exact run_append l l2 q'
theorem run_two {l l2 : List Nat} {q q1 q2 : Q3} (h : run l q = some q1) (h2 : run l2 q1 = some q2) : run (l ++ l2) q = some q2 := by
  rw [run_append, h]; exact h2
theorem stp_cnt {q q' : Q3} {c : Nat} (i : Nat) (h : stp q c = some q') : nxt q.1 c = q'.1 ∧ q'.1 ≠ -1 ∧ cnt q.1 c i ⟨q.2.1, q.2.2, -1⟩ = ⟨q'.2.1, q'.2.2, -1⟩ := by
  obtain ⟨m, nr, nc⟩ := q
  obtain ⟨m', nr', nc'⟩ := q'
  unfold stp at h
  simp only at h ⊢
  by_cases h1 : nxt m c = -1
  · rw [if_pos h1] at h; cases h
  rw [if_neg h1] at h
  unfold cnt
  by_cases h0 : m = 0
  · rw [if_pos h0] at h
    by_cases h2 : nr = 20
    · rw [if_pos h2] at h; cases h
    · rw [if_neg h2] at h
      injection h with h
      injection h with ha hb
      injection hb with hb hc
      refine ⟨ha, by rw [← ha]; exact h1, ?_⟩
      rw [if_pos h0]
      simp only [noteIf, h2, decide_false]
      rw [if_neg (by simp), ← hb, ← hc]
  rw [if_neg h0] at h
  rw [if_neg h0]
  by_cases h18 : m = 18 ∨ m = 1
  · rw [if_pos h18] at h ⊢
    injection h with h
    injection h with ha hb
    injection hb with hb hc
    refine ⟨ha, by rw [← ha]; exact h1, ?_⟩
    rw [← hb, ← hc]
  rw [if_neg h18] at h
  rw [if_neg h18]
  by_cases h3 : m = 3
  · rw [if_pos h3] at h ⊢
    by_cases hs : isS c = true
    · rw [if_pos hs] at h ⊢
      by_cases h2 : nc = 4
      · rw [if_pos h2] at h; cases h
      · rw [if_neg h2] at h
        injection h with h
        injection h with ha hb
        injection hb with hb hc
        refine ⟨ha, by rw [← ha]; exact h1, ?_⟩
        simp only [noteIf, h2, decide_false]
        rw [if_neg (by simp), ← hb, ← hc]
    · rw [if_neg hs] at h ⊢
      by_cases h4 : c = 44
      · rw [if_pos h4] at h ⊢
        injection h with h
        injection h with ha hb
        injection hb with hb hc
        refine ⟨ha, by rw [← ha]; exact h1, ?_⟩
        rw [← hb, ← hc]
      · rw [if_neg h4] at h ⊢
        injection h with h
        injection h with ha hb
        injection hb with hb hc
        refine ⟨ha, by rw [← ha]; exact h1, ?_⟩
        rw [← hb, ← hc]
  · rw [if_neg h3] at h ⊢
    injection h with h
    injection h with ha hb
    injection hb with hb hc
    refine ⟨ha, by rw [← ha]; exact h1, ?_⟩
    rw [← hb, ← hc]
theorem run_V {s : ByteArray} : ∀ (l : List Nat) (q : Q3) (i : Nat) (r : Nat × Nat), (∀ j (hj : j < l.length), bt s (i + j) = l[j]) → i + l.length = s.size → run l q = some (0, r) → V s q.1 ⟨q.2.1, q.2.2, -1⟩ i = (-1, -1)
  | [], q, i, r, _, h2, h3 => by
    have h4 : q = (0, r) := by injection h3
    subst h4
    rw [V_end (by simpa using Nat.le_of_eq h2.symm), if_pos rfl]
  | c :: l, q, i, r, h1, h2, h3 => by
    have hc : bt s i = c := h1 0 (Nat.zero_lt_succ _)
    have hi : i < s.size := by rw [List.length_cons] at h2; omega
    cases hst : stp q c with
    | none => rw [run, hst] at h3; cases h3
    | some q' =>
      obtain ⟨g1, g2, g3⟩ := stp_cnt i hst
      rw [V_go (m' := q'.1) hi (by rw [hc]; exact g1) g2, hc, g3]
      refine run_V l q' (i + 1) r (fun j hj => ?_) (by rw [List.length_cons] at h2; omega) (by rw [run, hst] at h3; exact h3)
      have := h1 (j + 1) (by rw [List.length_cons]; omega)
      rw [List.getElem_cons_succ] at this
      rw [← this]
      congr 1
      omega
/-- A text that is run through whole is a sheet. -/
theorem chk_run {s : ByteArray} {r : Nat × Nat} (h4 : s.size ≤ 400) (h : run (bl s) (0, 0, 0) = some (0, r)) : chk s = (0, 0) := by
  have hV := run_V (s := s) (bl s) (0, 0, 0) 0 r (fun j hj => by rw [Nat.zero_add]; exact bl_at s j hj) (by rw [bl_length]; omega) h
  simp only at hV
  unfold chk
  rw [hV, if_neg (by omega), if_neg (by decide), if_pos rfl]
theorem bl_let (k : Nat) : bl (letB k) = [97 + k % 26] := by
  have h : k % 26 < 26 := Nat.mod_lt _ (by decide)
  show [(UInt8.ofNat (97 + k % 26)).toNat] = _
  rw [UInt8.toNat_ofNat', Nat.mod_eq_of_lt (by omega)]
theorem bl_dig {k : Nat} (h : k < 10) : bl (digB k) = [48 + k] := by
  show [(UInt8.ofNat (48 + k)).toNat] = _
  rw [UInt8.toNat_ofNat', Nat.mod_eq_of_lt (by omega)]
theorem isL_let (k : Nat) : isL (97 + k % 26) = true := by
  have h : k % 26 < 26 := Nat.mod_lt _ (by decide)
  unfold isL
  rw [decide_eq_true_eq]
  omega
theorem isD_dig {k : Nat} (h : k < 10) : isD (48 + k) = true := by
  unfold isD
  rw [decide_eq_true_eq]
  omega
theorem run_let4 (k nr nc : Nat) : run (bl (letB k)) (4, nr, nc) = some (3, nr, nc) := by
  rw [bl_let]
  have := isL_let k
  simp [run, stp, nxt, wh, this]
theorem run_let8 (k nr nc : Nat) : run (bl (letB k)) (8, nr, nc) = some (3, nr, nc) := by
  rw [bl_let]
  have := isL_let k
  simp [run, stp, nxt, this]
theorem run_let2 (k nr nc : Nat) : run (bl (letB k)) (2, nr, nc) = some (3, nr, nc) := by
  rw [bl_let]
  have := isL_let k
  simp [run, stp, nxt, compN, this]
theorem run_dig1 {k : Nat} (h : k < 10) (nr nc : Nat) : run (bl (digB k)) (1, nr, nc) = some (2, nr, 1) := by
  rw [bl_dig h]
  have := isD_dig h
  simp [run, stp, nxt, wh, this]
theorem run_dig6 {k : Nat} (h : k < 10) (nr nc : Nat) : run (bl (digB k)) (6, nr, nc) = some (7, nr, nc) := by
  rw [bl_dig h]
  have := isD_dig h
  simp [run, stp, nxt, wh, this]
theorem run_dig7 {k : Nat} (h : k < 10) (nr nc : Nat) : run (bl (digB k)) (7, nr, nc) = some (3, nr, nc) := by
  rw [bl_dig h]
  have := isD_dig h
  simp [run, stp, nxt, wh, this]
theorem run_dig12 {k : Nat} (h : k < 10) (nr nc : Nat) : run (bl (digB k)) (12, nr, nc) = some (13, nr, nc) := by
  rw [bl_dig h]
  have := isD_dig h
  simp [run, stp, nxt, this]
theorem run_dig13 {k : Nat} (h : k < 10) (nr nc : Nat) : run (bl (digB k)) (13, nr, nc) = some (14, nr, nc) := by
  rw [bl_dig h]
  have := isD_dig h
  simp [run, stp, nxt, this]
end Go.Proofs.YtblfffbmklkhmaaGreat
