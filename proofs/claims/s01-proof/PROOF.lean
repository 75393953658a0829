import PyProof.Rows.All
import PyVbemah
import PyFlatLaws
import Wide.All
import OpenK.AllK
import Wide.FinOn
import PyProof.EqAt
import PyProof.EqKinds
import PyProof.TupleCall
import KE.BitLaws
import KE.SpHead
import KE.OsShapes
import KE.OsHead
import KE.OsGo
import Open.SpecLaws
import PyProof.ZipIter
import PyProof.TupleIter
import PyProof.WalksMore
import KE.KLam
import KE.KSortTupG
import KE.KDictSum
import PyProof.NeKinds
import KE.KMinKey
import PySem.Challenge.RW_reserves_s01_answers
set_option Elab.async false
set_option linter.all false
set_option maxRecDepth 100000
set_option maxHeartbeats 0
set_option warn.classDefReducibility false
def Vg := @List.length_map
def Vh := @if_neg
def Vi := @PySem.wpAny_bind
def Vj := @if_pos
def Vk := @List.length_range
def Vl := @List.getElem?_eq_getElem
def Vm := @PySem.Heap.get?_push_of_some
def Vn := @of_decide_eq_true
def Vo := @PySem.wpAny_pure
def Vp := @Nat.ne_of_lt
def Vq := @Nat.le_refl
def Vr := @PySem.sizeLine_eq
def Vs := @List.mem_cons_of_mem
def Vt := @List.getElem?_map
def Vu := @PySem.Heap.lt_size
def Vv := @List.mem_cons_self
def Vw := @decide_eq_true
def Vx := @List.size_toArray
def Vy := @List.map_cons
def Vz := @List.map_map
def VA := @PySem.Heap.get?_push_size
def VB := @List.length_append
def VC := @List.length_cons
def VD := @Bool.false_ne_true
def VE := @PySem.Heap.size_push
def VF := @Nat.zero_le
def VG := @List.mem_of_getElem?
def VH := @Nat.le_trans
def VI := @Nat.lt_of_lt_of_le
def VJ := @Nat.not_lt_zero
def VL := @List.getElem?_eq_none
def VM := @PySem.mem_of_lookup
def VN := @decide_eq_false
def VO := @Nat.lt_irrefl
def VP := @PySem.wpAny_mono
def VQ := @PySem.boot_len
def VR := @List.mem_append_right
def VS := @PySem.Heap.get?_update_other
def VT := @List.not_mem_nil
def VU := @List.map_congr_left
def VV := @Bool.and_eq_true
def VW := @Nat.lt_succ_of_lt
def VX := @PySem.wpAny_loadPart'
def VY := @PySem.wpAny_seqItems
def VZ := @eq_false_of_ne_true
def V0 := @List.ext_getElem?
def V1 := @PySem.plainId_quiet
def V2 := @PySem.wpAny_field
def V3 := @Bool.false_eq_true
def V4 := @PySem.codeAny_builtin
def V5 := @PySem.Around.under_plainId
def V6 := @PySem.wpAny_truthy_bool
def V7 := @PySem.wpAny_holding
def V8 := @List.drop_eq_getElem_cons
def V9 := @PySem.F.plain_min_loop
def Wa := @PySem.F.plainAttrs_list
def Wb := @List.getElem?_range
def Wc := @PySem.wpAny_tryCatch
def Wd := @List.mem_append_left
def We := @List.getElem?_set_ne
def Wf := @List.length_filter_le
def Wg := @PySem.wpAny_Call_Name_kw
def Wh := @List.getElem?_set_self
def Wi := @PySem.Calls.spliced_cons
def Wj := @PySem.Heap.get?_update_self
def Wl := @PySem.F.slot_list_append
def Wm := @PySem.F.type_list_append
def Wn := @decide_eq_false_iff_not
def Wo := @PyProof.Rows.callWith_type1
abbrev FG := PySem.W.Frag
abbrev SV := PySem.Str -> Option PySem.Value
open PySem.W (CodeHd Ground Looks WRecords WalkOS callWith_K cellsFrom_some codeIn emptyDict envX findIn fnOf handedIn hasDictIn instObj isFn kIn_of keepIn kla_fn kla_obj lookIn makesIn methodCall_KW methodObj mg_none_of mg_of nsIn plainGet plainGet_of plainOver tabIn tabObj tab_of takerIn typeIn)
open PySem.F (args_tuple_add_2 entry_max_loop entry_min entry_min_loop entry_tuple_add kind_min plain_max_loop plain_min slot_dict_get slot_list_extend slot_tuple_add type_list_extend)
open List (all_cons all_eq_true all_map any_cons append_assoc append_nil drop_length drop_zero filter_append filter_cons filter_filter filter_map find?_cons flatMap_append flatMap_cons foldl_cons getElem?_inj getElem?_zipWith getElem_map getElem_mem getElem_of_mem length_nil length_set length_take lookup_cons map_append map_id map_nil map_set mem_append mem_cons mem_filter mem_iff_getElem mem_map mem_map_of_mem mem_range mem_singleton nodup_cons of_mem_zip pairwise_cons pairwise_lt_range pairwise_map range range_succ sum_cons take_add_one take_length zipIdx_cons zip_eq_zipWith zip_map')
open Nat (add_lt_add_left le_add_right le_of_eq le_of_lt le_of_succ_le lt_of_le_of_lt min_self ne_of_gt succ_ne_self)
open PySem (TriplesOk)
open Vbemah (before covers opens)
open Bool (and_eq_true_iff noConfusion not_eq_true')
open Int (min_comm mul_comm not_lt)
open PyProof.Rows (TupsOf itemLt itemOrd tupItems tupKey tup_kind)
open Array (getElem?_toList length_toList size_map)
namespace RV
open Vbemah
def oF (key : Nat -> Int) (p : Nat) : List Nat -> List Nat
  | [] => [p]
  | x :: l => if key x <= key p then x :: oF key p l else p :: x :: l
def iJ (key : Nat -> Int) (ps : List Nat) : List Nat := ps.foldl (fun l p => oF key p l) []
def ple (key : Nat -> Int) (a b : Nat) : Prop := key a < key b \/ (key a = key b /\ a <= b)
theorem nt (key : Nat -> Int) (p : Nat) : ∀ l : List Nat, (oF key p l).Perm (p :: l)
  | [] => .refl _
  | x :: l => by
    unfold oF
    split
    . exact ((nt key p l).cons x).trans (.swap ..)
    . exact .refl _
theorem uj (key : Nat -> Int) : ∀ (ps acc : List Nat), (ps.foldl (fun l p => oF key p l) acc).Perm (acc ++ ps)
  | [], acc => by simp
  | p :: ps, acc => by
    rw [foldl_cons]
    refine (uj key ps _).trans ?_
    refine ((nt key p acc).append_right ps).trans ?_
    exact (List.perm_middle (a := p) (l₁ := acc) (l₂ := ps)).symm
theorem cu (key : Nat -> Int) (ps : List Nat) : (iJ key ps).Perm ps := by
  have h := uj key ps []
  simpa [iJ] using h
theorem DI {key : Nat -> Int} {p : Nat} : ∀ {l : List Nat}, l.Pairwise (ple key) -> (∀ x ∈ l, x < p) -> (oF key p l).Pairwise (ple key)
  | [], _, _ => by simp [oF]
  | x :: l, h, hl => by
    obtain ⟨h1, h2⟩ := pairwise_cons.mp h
    unfold oF
    split
    . rename_i hk
      refine pairwise_cons.mpr ⟨fun y hy => ?_, DI h2 fun y hy => hl y (Vs _ hy)⟩
      rcases mem_cons.mp ((nt key p l).mem_iff.mp hy) with rfl | hy
      . have := hl x Vv
        unfold ple; omega
      . exact h1 y hy
    . rename_i hk
      refine pairwise_cons.mpr ⟨fun y hy => ?_, h⟩
      rcases mem_cons.mp hy with rfl | hy
      . unfold ple; omega
      . have := h1 y hy
        unfold ple at this ⊢; omega
theorem Aa {key : Nat -> Int} : ∀ {ps acc : List Nat}, acc.Pairwise (ple key) -> (acc ++ ps).Pairwise (· < ·) \/ ((∀ x ∈ acc, ∀ y ∈ ps, x < y) /\ ps.Pairwise (· < ·)) -> (ps.foldl (fun l p => oF key p l) acc).Pairwise (ple key)
  | [], acc, h, _ => h
  | p :: ps, acc, h, hp => by
    have hp : (∀ x ∈ acc, ∀ y ∈ p :: ps, x < y) /\ (p :: ps).Pairwise (· < ·) := by
      rcases hp with hp | hp
      . have := List.pairwise_append.mp hp
        exact ⟨this.2.2, this.2.1⟩
      . exact hp
    obtain ⟨h1, h2⟩ := hp
    obtain ⟨h3, h4⟩ := pairwise_cons.mp h2
    rw [foldl_cons]
    refine Aa (DI h fun x hx => h1 x hx p Vv) (.inr ⟨fun x hx y hy => ?_, h4⟩)
    rcases mem_cons.mp ((nt key p acc).mem_iff.mp hx) with rfl | hx
    . exact h3 y hy
    . exact h1 x hx y (Vs _ hy)
theorem uk {key : Nat -> Int} {ps : List Nat} (h : ps.Pairwise (· < ·)) : (iJ key ps).Pairwise (ple key) :=
  Aa (acc := []) .nil (.inr ⟨by simp, h⟩)
theorem pP {key : Nat -> Int} {ps L : List Nat} (h : ps.Pairwise (· < ·)) (hp : L.Perm ps) (hs : L.Pairwise (ple key)) : L = iJ key ps :=
  List.Perm.eq_of_pairwise (le := ple key) (fun a b _ _ h1 h2 => by unfold ple at h1 h2; omega) hs (uk h) (hp.trans (cu key ps).symm)
theorem Ab {f : Nat -> Offer} {key : Offer -> Int} (p : Nat) : ∀ l : List Nat, (oF (fun i => key (f i)) p l).map f = putIn key (f p) (l.map f)
  | [] => rfl
  | x :: l => by
    simp only [oF, Vy, putIn]
    split
    . rw [Vy, Ab p l]
    . rfl
theorem xK {f : Nat -> Offer} {key : Offer -> Int} : ∀ (ps acc : List Nat), (ps.foldl (fun l p => oF (fun i => key (f i)) p l) acc).map f = (ps.map f).foldl (fun l o => putIn key o l) (acc.map f)
  | [], _ => rfl
  | p :: ps, acc => by rw [foldl_cons, xK ps, Ab, Vy, foldl_cons]
theorem EE {f : Nat -> Offer} {key : Offer -> Int} (ps : List Nat) : (iJ (fun i => key (f i)) ps).map f = sorted key (ps.map f) := xK ps []
theorem xM {f : Nat -> Unit_} (p : Nat) : ∀ l : List Nat, (oF (fun i => (f i).offer.energy) p l).map f = putUnit (f p) (l.map f)
  | [] => rfl
  | x :: l => by
    simp only [oF, Vy, putUnit]
    split
    . rw [Vy, xM p l]
    . rfl
theorem um {f : Nat -> Unit_} : ∀ (ps acc : List Nat), (ps.foldl (fun l p => oF (fun i => (f i).offer.energy) p l) acc).map f = (ps.map f).foldl (fun l o => putUnit o l) (acc.map f)
  | [], _ => rfl
  | p :: ps, acc => by rw [foldl_cons, um ps, xM, Vy, foldl_cons]
theorem uo {f : Nat -> Unit_} (ps : List Nat) : (iJ (fun i => (f i).offer.energy) ps).map f = merit (ps.map f) := um ps []
theorem cc {α : Type} (l : List α) (d : α) : (range l.length).map (fun i => l.getD i d) = l := by
  apply V0
  intro i
  rw [Vt]
  by_cases h : i < l.length
  . rw [Wb h, Vl h]
    simp [List.getD, Vl h]
  . have h1 : (range l.length)[i]? = none := List.getElem?_eq_none_iff.mpr (by simpa using Nat.le_of_not_lt h)
    rw [h1, List.getElem?_eq_none_iff.mpr (Nat.le_of_not_lt h)]
    rfl
theorem Ac {l₁ l₂ : List Int} (h : l₁.Perm l₂) : l₁.sum = l₂.sum := by
  induction h with
  | nil => rfl
  | cons x _ ih => simp [ih]
  | swap x y l => simp only [sum_cons]; omega
  | trans _ _ a b => exact a.trans b
theorem jL {α : Type} (p : α -> Bool) (f : α -> Int) : ∀ l : List α, (l.map f).sum = ((l.filter p).map f).sum + ((l.filter fun x => !p x).map f).sum
  | [] => rfl
  | x :: l => by
    rw [Vy, sum_cons, jL p f l]
    cases h : p x <;> simp [h] <;> omega
theorem qZ {α : Type} {f g : α -> Int} {l : List α} (h : ∀ x ∈ l, f x = g x) : (l.map f).sum = (l.map g).sum := by
  rw [VU h]
end RV
namespace RV
open Vbemah
def J5 : Offer := ⟨0, false, 0, 0, 0, 0, false⟩
def oAt (os : List Offer) (p : Nat) : Offer := os.getD p J5
def oG (os : List Offer) : List Nat := (range os.length).filter fun p => (oAt os p).whole
def Ae (os : List Offer) : List Nat := (range os.length).filter fun p => !(oAt os p).whole
def bo (os : List Offer) : List Nat := iJ (fun p => (oAt os p).price) (Ae os)
def aS (os : List Offer) (ps : List Nat) (cs : List (List Nat)) : List (List Nat) :=
  ps.foldl (fun cs p => if (oAt os p).whole = true then cs ++ cs.map (fun c => c ++ [p]) else cs) cs
def aO (os : List Offer) : List (List Nat) := aS os (range os.length) [[]]
def bQ (os : List Offer) (ch : List Nat) : Int := (ch.map fun p => (oAt os p).q).sum
def ka (os : List Offer) (ch : List Nat) : Int := (ch.map fun p => (oAt os p).q * (oAt os p).price).sum
def ck (os : List Offer) : Int := ((bo os).map fun p => (oAt os p).q).sum
def eB (os : List Offer) : List Nat -> Int -> Int -> Int
  | [], _, c => c
  | p :: l, m, c => if m <= 0 then c else eB os l (m - (oAt os p).q) (c + min m (oAt os p).q * (oAt os p).price)
def fE (os : List Offer) : List Nat -> Int -> List Int -> List Int
  | [], _, a => a
  | p :: l, m, a => if m <= 0 then a else fE os l (m - min m (oAt os p).q) (a.set p (min m (oAt os p).q))
def putAll (os : List Offer) (ch : List Nat) (a : List Int) : List Int := ch.foldl (fun a p => a.set p (oAt os p).q) a
def bw (os : List Offer) (ch : List Nat) (need : Int) : List Int :=
  fE os (bo os) (need - bQ os ch) (putAll os ch (os.map fun _ => 0))
def lY (os : List Offer) (ch : List Nat) (need : Int) : Int × Int := (eB os (bo os) (need - bQ os ch) (ka os ch), max (bQ os ch) need)
structure iG (os : List Offer) : Prop where
  nd : (os.map fun o => o.num).Nodup
  pos : ∀ o ∈ os, 0 <= o.q
theorem cI {os : List Offer} {p : Nat} (h : p < os.length) : os[p]? = some (oAt os p) := by
  unfold oAt List.getD
  rw [Vl h]; rfl
theorem cJ {os : List Offer} {p : Nat} (h : p < os.length) : oAt os p ∈ os := VG (cI h)
theorem pQ (os : List Offer) : (range os.length).map (oAt os) = os := cc os J5
theorem cx (os : List Offer) (f : Offer -> Bool) : os.filter f = ((range os.length).filter fun p => f (oAt os p)).map (oAt os) := by
  conv => lhs; rw [<- pQ os]
  rw [filter_map]; rfl
theorem pR {os : List Offer} (h : iG os) {i j : Nat} (hi : i < os.length) (hj : j < os.length) (e : (oAt os i).num = (oAt os j).num) : i = j := by
  have h1 : (os.map fun o => o.num)[i]? = some (oAt os i).num := by rw [Vt, cI hi]; rfl
  have h2 : (os.map fun o => o.num)[j]? = some (oAt os i).num := by rw [Vt, cI hj, e]; rfl
  have hl : i < (os.map fun o => o.num).length := by simpa using hi
  exact (getElem?_inj hl h.nd).mp (h1.trans h2.symm)
theorem Af {os : List Offer} {p : Nat} : p ∈ oG os ↔ p < os.length /\ (oAt os p).whole = true := by simp [oG]
theorem uq {os : List Offer} {p : Nat} : p ∈ Ae os ↔ p < os.length /\ (oAt os p).whole = false := by simp [Ae]
theorem DJ (os : List Offer) : (Ae os).Pairwise (· < ·) := pairwise_lt_range.filter _
theorem HM (os : List Offer) : (oG os).Pairwise (· < ·) := pairwise_lt_range.filter _
theorem iK {l : List Nat} (h : l.Pairwise (· < ·)) : l.Nodup := h.imp fun h => Vp h
theorem kf (os : List Offer) : (bo os).Nodup := (cu _ _).nodup_iff.mpr (iK (DJ os))
theorem bF {os : List Offer} {p : Nat} : p ∈ bo os ↔ p < os.length /\ (oAt os p).whole = false := (cu _ _).mem_iff.trans uq
theorem BY (os : List Offer) : (bo os).map (oAt os) = sorted (fun o => o.price) (os.filter fun o => !o.whole) := by
  unfold bo
  rw [EE (f := oAt os) (key := fun o => o.price), cx]; rfl
theorem gf {os : List Offer} : ∀ {ps : List Nat} {cs : List (List Nat)} {ch : List Nat},
    ch ∈ aS os ps cs ↔ ∃ c r, c ∈ cs /\ ch = c ++ r /\ r.Sublist (ps.filter fun p => (oAt os p).whole)
  | [], cs, ch => by
    unfold aS
    constructor
    . intro h; exact ⟨ch, [], h, by simp, by simp⟩
    . rintro ⟨c, r, h, rfl, hr⟩
      have : r = [] := by simpa using hr
      subst this; simpa using h
  | p :: ps, cs, ch => by
    have ih := @gf os ps (if (oAt os p).whole = true then cs ++ cs.map (fun c => c ++ [p]) else cs) ch
    have e : aS os (p :: ps) cs = aS os ps (if (oAt os p).whole = true then cs ++ cs.map (fun c => c ++ [p]) else cs) := rfl
    rw [e, ih]
    cases hw : (oAt os p).whole with
    | false => simp [hw]
    | true =>
      simp only [if_true, filter_cons, hw]
      constructor
      . rintro ⟨c, r, hc, rfl, hr⟩
        rcases mem_append.mp hc with hc | hc
        . exact ⟨c, r, hc, rfl, hr.cons p⟩
        . obtain ⟨d, hd, rfl⟩ := mem_map.mp hc
          exact ⟨d, p :: r, hd, by simp, hr.cons_cons p⟩
      . rintro ⟨c, r, hc, rfl, hr⟩
        rcases List.sublist_cons_iff.mp hr with Pa | ⟨r2, rfl, Pa⟩
        . exact ⟨c, r, Wd _ hc, rfl, Pa⟩
        . exact ⟨c ++ [p], r2, VR _ (mem_map.mpr ⟨c, hc, rfl⟩), by simp, Pa⟩
theorem c9 {os : List Offer} {ch : List Nat} : ch ∈ aO os ↔ ch.Sublist (oG os) := by
  unfold aO
  rw [gf]
  constructor
  . rintro ⟨c, r, hc, rfl, hr⟩
    have : c = [] := by simpa using hc
    subst this; exact hr
  . intro h; exact ⟨[], ch, by simp, rfl, h⟩
theorem ur {w : List Int} : ∀ {os : List Offer}, w ∈ ways os ↔ w.Sublist ((os.filter fun o => o.whole).map fun o => o.num)
  | [] => by simp [ways]
  | o :: l => by
    unfold ways
    cases hw : o.whole with
    | false => simp [hw, ur (os := l)]
    | true =>
      simp only [if_true, filter_cons, hw, Vy, mem_append, mem_map, ur (os := l), List.sublist_cons_iff]
      constructor
      . rintro (⟨a, ha, rfl⟩ | h)
        . exact .inr ⟨a, rfl, ha⟩
        . exact .inl h
      . rintro (h | ⟨r, rfl, h⟩)
        . exact .inr h
        . exact .inl ⟨r, h, rfl⟩
theorem gC {os : List Offer} {w : List Int} : w ∈ ways os ↔ ∃ ch ∈ aO os, w = ch.map fun p => (oAt os p).num := by
  rw [ur, cx]
  rw [Vz, List.sublist_map_iff]
  constructor
  . rintro ⟨l, hl, rfl⟩; exact ⟨l, c9.mpr hl, rfl⟩
  . rintro ⟨l, hl, rfl⟩; exact ⟨l, c9.mp hl, rfl⟩
def bR (os : List Offer) : List Nat -> Int -> Nat -> Int
  | [], _, _ => 0
  | p :: l, r, i => if i = p then min (oAt os p).q r else bR os l (r - min (oAt os p).q r) i
theorem xN {os : List Offer} (h : iG os) {i : Nat} (hi : i < os.length) : ∀ {L : List Nat} {r : Int}, (∀ p ∈ L, p < os.length) -> find (fill (L.map (oAt os)) r) (oAt os i).num = bR os L r i
  | [], _, _ => rfl
  | p :: L, r, hL => by
    have hp := hL p Vv
    simp only [Vy, fill, bR]
    by_cases e : i = p
    . subst e; simp [find]
    . have ne : ¬ (oAt os p).num = (oAt os i).num := fun q => e (pR h hp hi q).symm
      rw [Vh e]
      have := xN h hi (L := L) (r := r - min (oAt os p).q r) fun p hp => hL p (Vs _ hp)
      rw [<- this]
      have e1 : ((oAt os p).num == (oAt os i).num) = false := by simp [ne]
      unfold find
      rw [find?_cons]
      simp only [e1]
theorem lZ {os : List Offer} (h : iG os) : ∀ {L : List Nat} {i : Nat}, (∀ p ∈ L, p < os.length) -> bR os L 0 i = 0
  | [], _, _ => rfl
  | p :: L, i, hL => by
    have := h.pos _ (cJ (hL p Vv))
    have e : min (oAt os p).q 0 = 0 := by omega
    simp only [bR, e]
    split
    . rfl
    . exact lZ h fun p hp => hL p (Vs _ hp)
theorem l7 {os : List Offer} : ∀ {L : List Nat} {m : Int} {a : List Int}, (fE os L m a).length = a.length
  | [], _, _ => rfl
  | p :: L, m, a => by
    unfold fE
    split
    . rfl
    . rw [l7, length_set]
theorem uu {os : List Offer} (h : iG os) {i : Nat} : ∀ {L : List Nat} {m : Int} {a : List Int}, a.length = os.length -> L.Nodup -> (∀ p ∈ L, p < os.length) -> (∀ p ∈ L, a[p]? = some 0) ->
    (fE os L m a)[i]? = if i ∈ L then some (bR os L (max 0 m) i) else a[i]?
  | [], _, _, _, _, _, _ => by simp [fE]
  | p :: L, m, a, ha, hn, hL, h0 => by
    have hp := hL p Vv
    have hq := h.pos _ (cJ hp)
    obtain ⟨n1, n2⟩ := nodup_cons.mp hn
    unfold fE
    split
    . rename_i hm
      have e : max 0 m = 0 := by omega
      rw [e, lZ h hL]
      split
      . rename_i hi; exact h0 i hi
      . rfl
    . rename_i hm
      rw [uu h (by rw [length_set]; exact ha) n2 (fun p hp => hL p (Vs _ hp)) (fun x hx => by
        rw [We (fun e => n1 (by rw [e]; exact hx))]; exact h0 x (Vs _ hx))]
      have e1 : max 0 m = m := by omega
      have e2 : max 0 (m - min m (oAt os p).q) = m - min (oAt os p).q m := by omega
      rw [e1, e2]
      simp only [bR]
      by_cases e : i = p
      . subst e
        rw [Vh n1, Vj Vv, Wh (by omega), Vj rfl, min_comm]
      . by_cases hi : i ∈ L
        . rw [Vj hi, Vj (Vs _ hi), Vh e]
        . rw [Vh hi, Vh (by simp [e, hi]), We (fun q => e q.symm)]
theorem dE {os : List Offer} : ∀ {ch : List Nat} {a : List Int}, (putAll os ch a).length = a.length
  | [], _ => rfl
  | p :: ch, a => by
    show (putAll os ch (a.set p _)).length = _
    rw [dE, length_set]
theorem ra {os : List Offer} {i : Nat} : ∀ {ch : List Nat} {a : List Int}, a.length = os.length -> (∀ p ∈ ch, p < os.length) ->
    (putAll os ch a)[i]? = if i ∈ ch then some (oAt os i).q else a[i]?
  | [], _, _, _ => by simp [putAll]
  | p :: ch, a, ha, hc => by
    have hp := hc p Vv
    have e : putAll os (p :: ch) a = putAll os ch (a.set p (oAt os p).q) := rfl
    rw [e, ra (by rw [length_set]; exact ha) fun p hp => hc p (Vs _ hp)]
    by_cases hi : i ∈ ch
    . rw [Vj hi, Vj (Vs _ hi)]
    . rw [Vh hi]
      by_cases e : i = p
      . subst e; rw [Wh (by omega), Vj Vv]
      . rw [We (fun q => e q.symm), Vh (by simp [e, hi])]
def fg (os : List Offer) (ch : List Nat) (need : Int) (i : Nat) : Int :=
  if (oAt os i).whole = true then (if i ∈ ch then (oAt os i).q else 0) else bR os (bo os) (max 0 (need - bQ os ch)) i
theorem uv {os : List Offer} {ch : List Nat} (h : ch ∈ aO os) : ∀ p ∈ ch, p < os.length /\ (oAt os p).whole = true := fun _ hp => Af.mp ((c9.mp h).subset hp)
theorem FE {os : List Offer} {ch : List Nat} (h : ch ∈ aO os) : ch.Nodup := (iK (HM os)).sublist (c9.mp h)
theorem uw {os : List Offer} {i : Nat} (h : i < os.length) : (os.map fun _ => (0 : Int))[i]? = some 0 := by
  rw [Vt, cI h]; rfl
theorem iL {os : List Offer} (h : iG os) {ch : List Nat} (hc : ch ∈ aO os) (need : Int) : bw os ch need = (range os.length).map (fg os ch need) := by
  have hz : (putAll os ch (os.map fun _ => (0 : Int))).length = os.length := by rw [dE, Vg]
  have cN := uv hc
  apply V0
  intro i
  unfold bw
  rw [uu h hz (kf os) (fun p hp => (bF.mp hp).1) (fun p hp => by
    rw [ra (by rw [Vg]) (fun p hp => (cN p hp).1), Vh, uw (bF.mp hp).1]
    intro q
    have := (cN p q).2
    rw [(bF.mp hp).2] at this; cases this)]
  by_cases hi : i < os.length
  . rw [Vt, Wb hi]
    simp only [Option.map_some, fg]
    cases hw : (oAt os i).whole with
    | false =>
      rw [Vj (bF.mpr ⟨hi, hw⟩)]; simp
    | true =>
      have : i ∉ bo os := fun q => by have := (bF.mp q).2; rw [hw] at this; cases this
      rw [Vh this, ra (by rw [Vg]) (fun p hp => (cN p hp).1), uw hi]
      simp only [if_true]
      split <;> rfl
  . have : i ∉ bo os := fun q => hi (bF.mp q).1
    rw [Vh this, List.getElem?_eq_none_iff.mpr (by rw [hz]; omega), List.getElem?_eq_none_iff.mpr (by simp; omega)]
theorem pS {os : List Offer} (h : iG os) {ch : List Nat} (hc : ch ∈ aO os) {i : Nat} (hi : i < os.length) : (ch.map fun p => (oAt os p).num).contains (oAt os i).num = decide (i ∈ ch) := by
  rw [Bool.eq_iff_iff, List.contains_iff_mem, decide_eq_true_iff, mem_map]
  constructor
  . rintro ⟨p, hp, e⟩
    have := pR h (uv hc p hp).1 hi e
    subst this; exact hp
  . intro hm; exact ⟨i, hm, rfl⟩
theorem rb {os : List Offer} {ch : List Nat} (hc : ch ∈ aO os) : ((range os.length).filter fun p => decide (p ∈ ch)) = ch := by
  have hs : ch.Sublist (range os.length) := (c9.mp hc).trans List.filter_sublist
  refine List.Perm.eq_of_pairwise (le := (· < ·)) (fun a b _ _ h1 h2 => absurd h1 (Nat.lt_asymm h2)) (pairwise_lt_range.filter _) (pairwise_lt_range.sublist hs) ?_
  refine (List.perm_ext_iff_of_nodup (iK (pairwise_lt_range.filter _)) (FE hc)).mpr fun a => ?_
  simp only [mem_filter, mem_range, decide_eq_true_iff]
  exact ⟨fun h => h.2, fun h => ⟨(uv hc a h).1, h⟩⟩
theorem gD {os : List Offer} (h : iG os) {ch : List Nat} (hc : ch ∈ aO os) (need : Int) : amounts os need (ch.map fun p => (oAt os p).num) = bw os ch need := by
  rw [iL h hc]
  unfold amounts
  have e0 : ((os.filter fun o => (ch.map fun p => (oAt os p).num).contains o.num).map fun o => o.q).sum = bQ os ch := by
    rw [cx]
    have : ((range os.length).filter fun p => (ch.map fun p => (oAt os p).num).contains (oAt os p).num) = ch := by
      rw [<- rb hc]
      refine List.filter_congr fun x hx => ?_
      have := pS h hc (mem_range.mp hx)
      rw [rb hc]; exact this
    rw [this, Vz]; rfl
  have e1 : ∀ g : Offer -> Int, os.map g = (range os.length).map fun i => g (oAt os i) := fun g => by
    conv => lhs; rw [<- pQ os]
    rw [Vz]; rfl
  rw [e0]
  dsimp only
  rw [e1]
  refine VU fun i hi => ?_
  have hi := mem_range.mp hi
  simp only [fg]
  rw [pS h hc hi, <- BY, xN h hi fun p hp => (bF.mp hp).1]
  simp
theorem uz {os : List Offer} (h : iG os) : ∀ {L : List Nat} {r : Int}, L.Nodup -> (∀ p ∈ L, p < os.length) -> 0 <= r ->
    (L.map fun i => bR os L r i).sum = min r (L.map fun p => (oAt os p).q).sum
  | [], r, _, _, hr => by simp; omega
  | p :: L, r, hn, hL, hr => by
    obtain ⟨n1, n2⟩ := nodup_cons.mp hn
    have hq := h.pos _ (cJ (hL p Vv))
    rw [Vy, sum_cons]
    have e : (L.map fun i => bR os (p :: L) r i) = L.map fun i => bR os L (r - min (oAt os p).q r) i := by
      refine VU fun i hi => ?_
      simp only [bR]
      rw [Vh (fun e => n1 (by rw [<- e]; exact hi))]
    have ih := uz h (r := r - min (oAt os p).q r) n2 (fun p hp => hL p (Vs _ hp)) (by omega)
    have hs : 0 <= (L.map fun p => (oAt os p).q).sum := by
      have : ∀ (l : List Nat), (∀ p ∈ l, p < os.length) -> 0 <= (l.map fun p => (oAt os p).q).sum := by
        intro l
        induction l with
        | nil => intro _; simp
        | cons x l ih =>
          intro hl
          have h1 := h.pos _ (cJ (hl x Vv))
          have h2 := ih fun p hp => hl p (Vs _ hp)
          simp only [Vy, sum_cons]; omega
      exact this L fun p hp => hL p (Vs _ hp)
    rw [e, ih]
    simp only [bR, if_true, Vy, sum_cons]
    omega
theorem xO {os : List Offer} (h : iG os) : ∀ {L : List Nat} {m c : Int}, L.Nodup -> (∀ p ∈ L, p < os.length) ->
    eB os L m c = c + (L.map fun i => (oAt os i).price * bR os L (max 0 m) i).sum
  | [], _, _, _, _ => by simp [eB]
  | p :: L, m, c, hn, hL => by
    obtain ⟨n1, n2⟩ := nodup_cons.mp hn
    have hq := h.pos _ (cJ (hL p Vv))
    unfold eB
    split
    . rename_i hm
      have e : max 0 m = 0 := by omega
      rw [e]
      have : ((p :: L).map fun i => (oAt os i).price * bR os (p :: L) 0 i) = (p :: L).map fun _ => (0 : Int) :=
        VU fun i _ => by rw [lZ h hL]; simp
      rw [this]
      have z : ∀ l : List Nat, (l.map fun _ => (0 : Int)).sum = 0 := by
        intro l; induction l with
        | nil => rfl
        | cons _ _ ih => simp [ih]
      rw [z]; omega
    . rename_i hm
      rw [xO h n2 fun p hp => hL p (Vs _ hp)]
      have e1 : max 0 m = m := by omega
      have e : (L.map fun i => (oAt os i).price * bR os (p :: L) m i) = L.map fun i => (oAt os i).price * bR os L (m - min (oAt os p).q m) i := by
        refine VU fun i hi => ?_
        simp only [bR]
        rw [Vh (fun e => n1 (by rw [<- e]; exact hi))]
      have e2 : max 0 (m - (oAt os p).q) = m - min (oAt os p).q m := by omega
      rw [Vy, sum_cons, e1, e, e2]
      simp only [bR, if_true]
      rw [min_comm m, mul_comm (oAt os p).price]
      omega
theorem xP {os : List Offer} {ch : List Nat} (hc : ch ∈ aO os) (need : Int) (f : Offer -> Int) : ((range os.length).map fun i => f (oAt os i) * fg os ch need i).sum =
    (ch.map fun i => f (oAt os i) * (oAt os i).q).sum + ((bo os).map fun i => f (oAt os i) * bR os (bo os) (max 0 (need - bQ os ch)) i).sum := by
  rw [jL (fun p => (oAt os p).whole)]
  have a1 : (((range os.length).filter fun p => (oAt os p).whole).map fun i => f (oAt os i) * fg os ch need i).sum = (ch.map fun i => f (oAt os i) * (oAt os i).q).sum := by
    rw [jL (fun p => decide (p ∈ ch))]
    rw [filter_filter, filter_filter]
    have b1 : ((range os.length).filter fun p => decide (p ∈ ch) && (oAt os p).whole) = ch := by
      conv => rhs; rw [<- rb hc]
      refine List.filter_congr fun x _ => ?_
      by_cases hx : x ∈ ch
      . simp [hx, (uv hc x hx).2]
      . simp [hx]
    rw [b1]
    have b2 : (((range os.length).filter fun p => (!decide (p ∈ ch)) && (oAt os p).whole).map fun i => f (oAt os i) * fg os ch need i).sum = 0 := by
      have : (((range os.length).filter fun p => (!decide (p ∈ ch)) && (oAt os p).whole).map fun i => f (oAt os i) * fg os ch need i) = ((range os.length).filter fun p => (!decide (p ∈ ch)) && (oAt os p).whole).map fun _ => (0 : Int) := by
        refine VU fun i hi => ?_
        have := (mem_filter.mp hi).2
        simp only [VV, not_eq_true', Wn] at this
        simp [fg, this.1, this.2]
      rw [this]
      generalize ((range os.length).filter fun p => (!decide (p ∈ ch)) && (oAt os p).whole) = l
      induction l with
      | nil => rfl
      | cons _ _ ih => simp [ih]
    rw [b2]
    have b3 : (ch.map fun i => f (oAt os i) * fg os ch need i) = ch.map fun i => f (oAt os i) * (oAt os i).q :=
      VU fun i hi => by simp [fg, hi, (uv hc i hi).2]
    rw [b3]; omega
  have a2 : (((range os.length).filter fun p => !(oAt os p).whole).map fun i => f (oAt os i) * fg os ch need i).sum = ((bo os).map fun i => f (oAt os i) * bR os (bo os) (max 0 (need - bQ os ch)) i).sum := by
    have e : (((range os.length).filter fun p => !(oAt os p).whole).map fun i => f (oAt os i) * fg os ch need i) = (Ae os).map fun i => f (oAt os i) * bR os (bo os) (max 0 (need - bQ os ch)) i := by
      refine VU fun i hi => ?_
      have := (uq.mp hi).2
      simp [fg, this]
    rw [e]
    exact Ac ((cu _ _).symm.map _)
  rw [a1, a2]
theorem FF (os : List Offer) (g : Nat -> Int) : cost os ((range os.length).map g) = ((range os.length).map fun i => (oAt os i).price * g i).sum := by
  unfold cost
  conv => lhs; arg 1; arg 2; arg 1; rw [<- pQ os]
  rw [zip_map', Vz]; rfl
theorem pT {os : List Offer} (h : iG os) {ch : List Nat} (hc : ch ∈ aO os) (need : Int) : cost os (bw os ch need) = (lY os ch need).1 := by
  rw [iL h hc, FF, xP hc need (fun o => o.price)]
  show _ = eB os (bo os) (need - bQ os ch) (ka os ch)
  rw [xO h (kf os) fun p hp => (bF.mp hp).1]
  have : (ch.map fun i => (oAt os i).price * (oAt os i).q).sum = ka os ch := by
    unfold ka
    exact qZ fun x _ => mul_comm _ _
  rw [this]
theorem n9 {os : List Offer} (h : iG os) {ch : List Nat} (hc : ch ∈ aO os) (need : Int) : total (bw os ch need) = bQ os ch + min (max 0 (need - bQ os ch)) (ck os) := by
  rw [iL h hc]
  unfold total
  have e := xP hc need (fun _ => 1)
  simp only [Int.one_mul] at e
  rw [e, uz h (kf os) (fun p hp => (bF.mp hp).1) (by omega)]
  rfl
theorem kg {os : List Offer} (h : iG os) : ∀ {l : List Nat}, (∀ p ∈ l, p < os.length) -> 0 <= (l.map fun p => (oAt os p).q).sum
  | [], _ => by simp
  | x :: l, hl => by
    have h1 := h.pos _ (cJ (hl x Vv))
    have h2 := kg h (l := l) fun p hp => hl p (Vs _ hp)
    simp only [Vy, sum_cons]; omega
theorem oH {os : List Offer} (h : iG os) {ch : List Nat} (hc : ch ∈ aO os) (need : Int) : need <= total (bw os ch need) ↔ need <= bQ os ch + ck os := by
  have h1 : 0 <= ck os := kg h fun p hp => (bF.mp hp).1
  have h2 : 0 <= bQ os ch := kg h fun p hp => (uv hc p hp).1
  rw [n9 h hc]; omega
theorem pU {os : List Offer} (h : iG os) {ch : List Nat} (hc : ch ∈ aO os) {need : Int} (hn : need <= bQ os ch + ck os) : total (bw os ch need) = (lY os ch need).2 := by
  rw [n9 h hc]
  show _ = max (bQ os ch) need
  have h1 : 0 <= ck os := kg h fun p hp => (bF.mp hp).1
  omega
theorem Ag (os : List Offer) : (os.map fun o => o.q).sum = bQ os (oG os) + ck os := by
  conv => lhs; rw [<- pQ os]
  rw [Vz, jL (fun p => (oAt os p).whole)]
  have : (((range os.length).filter fun x => !(oAt os x).whole).map ((fun o => o.q) ∘ oAt os)).sum = ck os := Ac ((cu _ _).symm.map _)
  rw [this]; rfl
theorem FH (os : List Offer) : oG os ∈ aO os := c9.mpr (List.Sublist.refl _)
theorem FI {os : List Offer} (h : iG os) {ch : List Nat} (hc : ch ∈ aO os) : bQ os ch <= bQ os (oG os) := by
  have hs := c9.mp hc
  have hb : ∀ p ∈ oG os, p < os.length := fun p hp => (Af.mp hp).1
  unfold bQ
  clear hc
  generalize oG os = l at hs hb
  induction hs with
  | slnil => exact Int.le_refl _
  | cons a _ ih =>
    have := ih fun p hp => hb p (Vs _ hp)
    have hq := h.pos _ (cJ (hb a Vv))
    simp only [Vy, sum_cons]; omega
  | cons_cons a _ ih =>
    have := ih fun p hp => hb p (Vs _ hp)
    simp only [Vy, sum_cons]; omega
theorem og : ∀ {a b : List Int}, a.length = b.length -> lexLess a b = false -> lexLess b a = false -> a = b
  | [], [], _, _, _ => rfl
  | [], _ :: _, h, _, _ => by simp at h
  | _ :: _, [], h, _, _ => by simp at h
  | x :: a, y :: b, h, h1, h2 => by
    simp only [lexLess, Bool.or_eq_false_iff, Wn, Bool.and_eq_false_iff, beq_eq_false_iff_ne] at h1 h2
    have e : x = y := by omega
    subst e
    have := og (a := a) (b := b) (by simpa using h) (h1.2.resolve_left (fun q => q rfl)) (h2.2.resolve_left (fun q => q rfl))
    rw [this]
theorem oh : ∀ {a b c : List Int}, a.length = b.length -> b.length = c.length -> lexLess a b = true -> lexLess b c = true -> lexLess a c = true
  | [], [], _, _, _, h, _ => by simp [lexLess] at h
  | x :: a, y :: b, z :: c, h1, h2, g1, g2 => by
    simp only [lexLess, Bool.or_eq_true, decide_eq_true_iff, VV, beq_iff_eq] at g1 g2 ⊢
    rcases g1 with g1 | ⟨e1, g1⟩
    . rcases g2 with g2 | ⟨e2, g2⟩
      . left; omega
      . left; omega
    . rcases g2 with g2 | ⟨e2, g2⟩
      . left; omega
      . right; exact ⟨by omega, oh (by simpa using h1) (by simpa using h2) g1 g2⟩
  | [], _ :: _, _, h, _, _, _ => by simp at h
  | _ :: _, [], _, h, _, _, _ => by simp at h
  | _ :: _, _ :: _, [], _, h, _, _ => by simp at h
theorem l8 : ∀ (a : List Int), lexLess a a = false
  | [] => rfl
  | x :: a => by simp [lexLess, l8 a]
theorem kh {os : List Offer} {xs ys : List Int} : better os xs ys = true ↔ cost os xs < cost os ys \/ (cost os xs = cost os ys /\ (total xs < total ys \/ (total xs = total ys /\ lexLess ys xs = true))) := by
  simp [better]
theorem pV {os : List Offer} {xs ys zs : List Int} (h1 : xs.length = ys.length) (h2 : ys.length = zs.length) (a : better os xs ys = true) (b : better os ys zs = true) : better os xs zs = true := by
  rw [kh] at a b ⊢
  rcases a with a | ⟨a1, a | ⟨a2, a⟩⟩ <;> rcases b with b | ⟨b1, b | ⟨b2, b⟩⟩
  . left; omega
  . left; omega
  . left; omega
  . left; omega
  . right; exact ⟨by omega, .inl (by omega)⟩
  . right; exact ⟨by omega, .inl (by omega)⟩
  . left; omega
  . right; exact ⟨by omega, .inl (by omega)⟩
  . right; exact ⟨by omega, .inr ⟨by omega, oh h2.symm h1.symm b a⟩⟩
theorem pW {os : List Offer} {xs ys : List Int} (h : xs.length = ys.length) (a : better os xs ys = false) (b : better os ys xs = false) : xs = ys := by
  have a' : ¬ better os xs ys = true := by rw [a]; simp
  have b' : ¬ better os ys xs = true := by rw [b]; simp
  rw [kh] at a' b'
  have e1 : cost os xs = cost os ys := by omega
  have e2 : total xs = total ys := by
    have : ¬ total xs < total ys := fun q => a' (.inr ⟨e1, .inl q⟩)
    have : ¬ total ys < total xs := fun q => b' (.inr ⟨e1.symm, .inl q⟩)
    omega
  have f1 : lexLess ys xs = false := by
    cases q : lexLess ys xs with
    | false => rfl
    | true => exact absurd (.inr ⟨e1, .inr ⟨e2, q⟩⟩) a'
  have f2 : lexLess xs ys = false := by
    cases q : lexLess xs ys with
    | false => rfl
    | true => exact absurd (.inr ⟨e1.symm, .inr ⟨e2.symm, q⟩⟩) b'
  exact og h f2 f1
theorem xQ {os : List Offer} {n : Nat} : ∀ {l : List (List Int)}, (∀ x ∈ l, x.length = n) -> l ≠ [] -> ∃ b, best os l = some b /\ b ∈ l /\ ∀ y ∈ l, better os y b = false
  | [], _, h => absurd rfl h
  | x :: l, hl, _ => by
    have J6 : ∀ z : List Int, better os z z = false := fun z => by
      cases q : better os z z with
      | false => rfl
      | true =>
        rw [kh] at q
        rw [l8] at q
        simp at q
    by_cases hn : l = []
    . subst hn
      exact ⟨x, rfl, by simp, fun y hy => by
        have : y = x := by simpa using hy
        subst this; exact J6 _⟩
    . obtain ⟨b, e, hm, hb⟩ := xQ (os := os) (fun y hy => hl y (Vs _ hy)) hn
      unfold best
      rw [e]
      simp only
      cases q : better os b x with
      | true =>
        refine ⟨b, by simp, Vs _ hm, fun y hy => ?_⟩
        rcases mem_cons.mp hy with rfl | hy
        . cases r : better os y b with
          | false => rfl
          | true =>
            have := pV (by rw [hl b (Vs _ hm), hl y Vv]) (by rw [hl b (Vs _ hm), hl y Vv]) q r
            rw [J6] at this; cases this
        . exact hb y hy
      | false =>
        refine ⟨x, by simp, Vv, fun y hy => ?_⟩
        rcases mem_cons.mp hy with rfl | hy
        . exact J6 _
        . cases r : better os y x with
          | false => rfl
          | true =>
            exfalso
            have l1 := hl x Vv
            have l2 := hl b (Vs _ hm)
            have l3 := hl y (Vs _ hy)
            cases r2 : better os x b with
            | true =>
              have := pV (by rw [l3, l1]) (by rw [l1, l2]) r r2
              rw [hb y hy] at this; cases this
            | false =>
              have e2 := pW (by rw [l1, l2]) r2 q
              subst e2
              rw [hb y hy] at r; cases r
def uA (a b : Int × Int) : Bool := decide (a.1 < b.1) || (decide (a.1 = b.1) && decide (a.2 < b.2))
theorem lP (os : List Offer) (ch : List Nat) (need : Int) : (bw os ch need).length = os.length := by
  unfold bw
  rw [l7, dE, Vg]
theorem Ah {os : List Offer} (h : iG os) {need : Int} (hs : (os.map fun o => o.q).sum < need) : bought os need = os.map fun o => o.q := by
  unfold bought
  have : (((ways os).map fun w => amounts os need w).filter fun xs => decide (need <= total xs)) = [] := by
    rw [List.filter_eq_nil_iff]
    intro x hx
    obtain ⟨w, hw, rfl⟩ := mem_map.mp hx
    obtain ⟨ch, hc, rfl⟩ := gC.mp hw
    rw [gD h hc, decide_eq_true_iff, oH h hc]
    have := FI h hc
    rw [Ag] at hs
    omega
  rw [this]; rfl
theorem Ai {os : List Offer} (h : iG os) {need : Int} {x : List Int} {least : Int × Int} {ch : List Nat} (hc : ch ∈ aO os) (Mx : need <= bQ os ch + ck os) (hr : lY os ch need = least) (hx : x = bw os ch need)
    (J7 : ∀ c ∈ aO os, need <= bQ os c + ck os -> uA (lY os c need) least = false)
    (J8 : ∀ c ∈ aO os, need <= bQ os c + ck os -> lY os c need = least -> lexLess x (bw os c need) = false) : bought os need = x := by
  have hlen : ∀ y ∈ (((ways os).map fun w => amounts os need w).filter fun xs => decide (need <= total xs)), y.length = os.length := by
    intro y hy
    obtain ⟨w, hw, rfl⟩ := mem_map.mp (mem_filter.mp hy).1
    simp [amounts]
  have Og : x ∈ (((ways os).map fun w => amounts os need w).filter fun xs => decide (need <= total xs)) := by
    refine mem_filter.mpr ⟨mem_map.mpr ⟨_, gC.mpr ⟨ch, hc, rfl⟩, (gD h hc need).trans hx.symm⟩, ?_⟩
    rw [decide_eq_true_iff, hx, oH h hc]; exact Mx
  obtain ⟨b, e, hm, hb⟩ := xQ (os := os) hlen (fun q => by rw [q] at Og; cases Og)
  unfold bought
  rw [e]
  show b = x
  refine pW (os := os) (by rw [hlen b hm, hlen x Og]) ?_ (hb x Og)
  obtain ⟨w, hw, eb⟩ := mem_map.mp (mem_filter.mp hm).1
  obtain ⟨c, wJ, rfl⟩ := gC.mp hw
  rw [gD h wJ] at eb
  have Pb : need <= bQ os c + ck os := by
    have := (mem_filter.mp hm).2
    rw [decide_eq_true_iff, <- eb, oH h wJ] at this; exact this
  cases q : better os b x with
  | false => rfl
  | true =>
    exfalso
    rw [kh, <- eb, hx, pT h wJ, pT h hc, pU h wJ Pb, pU h hc Mx, hr] at q
    have hl := J7 c wJ Pb
    simp only [uA, Bool.or_eq_false_iff, Wn, Bool.and_eq_false_iff] at hl
    rcases q with q | ⟨q1, q | ⟨q2, q⟩⟩
    . exact hl.1 q
    . rcases hl.2 with z | z
      . exact z q1
      . exact z q
    . have e3 : lY os c need = least := Prod.ext q1 q2
      have := J8 c wJ Pb e3
      rw [hx] at this
      rw [this] at q; cases q
end RV
namespace RV
open Vbemah
def FJ : Unit_ := { offer := J5, taken := 0, left := 0 }
def uAt (us : List Unit_) (p : Nat) : Unit_ := us.getD p FJ
def far (u : Unit_) : Int := if u.offer.down = true then -u.at_ else u.at_
structure UOk (u : Unit_) : Prop where
  far : 0 <= far u
  ramp : 0 <= u.offer.ramp
  left : 0 <= u.left
  le : u.left <= u.taken
theorem DL (h : UOk u) : far u = if u.at_ < 0 then -u.at_ else u.at_ := by
  have := h.far
  unfold far at this ⊢
  split <;> split <;> simp_all <;> omega
theorem l9 (h : UOk u) : low u <= high u := by
  have h1 := h.far; have h2 := h.ramp; have h3 := h.left
  unfold low high
  unfold far at h1
  omega
theorem uB (h : UOk u) : 0 <= low u := by
  have h3 := h.left
  unfold low
  omega
theorem floor_le (h : UOk u) : floor_ u <= ceil_ u := by
  have := l9 h
  unfold floor_ ceil_
  split <;> omega
structure tj (us : List Unit_) : Prop where
  nd : (us.map fun u => u.offer.num).Nodup
  ok : ∀ u ∈ us, UOk u
theorem bP {us : List Unit_} {p : Nat} (h : p < us.length) : us[p]? = some (uAt us p) := by
  unfold uAt List.getD
  rw [Vl h]; rfl
theorem cK {us : List Unit_} {p : Nat} (h : p < us.length) : uAt us p ∈ us := VG (bP h)
theorem tU (us : List Unit_) : (range us.length).map (uAt us) = us := cc us FJ
theorem g7 {β : Type} (us : List Unit_) (f : Unit_ -> β) : us.map f = (range us.length).map fun i => f (uAt us i) := by
  conv => lhs; rw [<- tU us]
  rw [Vz]; rfl
theorem pX (h : tj us) {i j : Nat} (hi : i < us.length) (hj : j < us.length) (e : (uAt us i).offer.num = (uAt us j).offer.num) : i = j := by
  have h1 : (us.map fun u => u.offer.num)[i]? = some (uAt us i).offer.num := by rw [Vt, bP hi]; rfl
  have h2 : (us.map fun u => u.offer.num)[j]? = some (uAt us i).offer.num := by rw [Vt, bP hj, e]; rfl
  have hl : i < (us.map fun u => u.offer.num).length := by simpa using hi
  exact (getElem?_inj hl h.nd).mp (h1.trans h2.symm)
def bW (us : List Unit_) : List Nat := iJ (fun p => (uAt us p).offer.energy) (range us.length)
theorem fh (us : List Unit_) : (bW us).map (uAt us) = merit us := by
  unfold bW
  rw [uo (f := uAt us), tU]
theorem Aj (us : List Unit_) : (bW us).Nodup := (cu _ _).nodup_iff.mpr (iK pairwise_lt_range)
theorem b7 {p : Nat} : p ∈ bW us ↔ p < us.length := (cu _ _).mem_iff.trans mem_range
def jM (us : List Unit_) : List Nat -> List Int -> Int -> Int -> List Int × Int
  | [], pl, _, pr => (pl, pr)
  | p :: l, pl, m, pr =>
    if 0 < min m (ceil_ (uAt us p) - floor_ (uAt us p)) then jM us l (pl.set p (pl.getD p 0 + min m (ceil_ (uAt us p) - floor_ (uAt us p)))) (m - min m (ceil_ (uAt us p) - floor_ (uAt us p))) (uAt us p).offer.energy
    else jM us l pl m pr
def gE (us : List Unit_) : List Nat -> Int -> Nat -> Int
  | [], _, _ => 0
  | p :: l, r, i => if i = p then floor_ (uAt us p) + min (ceil_ (uAt us p) - floor_ (uAt us p)) r else gE us l (r - min (ceil_ (uAt us p) - floor_ (uAt us p)) r) i
theorem ma (h : tj us) {i : Nat} (hi : i < us.length) : ∀ {L : List Nat} {r : Int}, (∀ p ∈ L, p < us.length) -> find (raised (L.map (uAt us)) r) (uAt us i).offer.num = gE us L r i
  | [], _, _ => rfl
  | p :: L, r, hL => by
    have hp := hL p Vv
    simp only [Vy, raised, gE]
    by_cases e : i = p
    . subst e; simp [find]
    . have ne : ¬ (uAt us p).offer.num = (uAt us i).offer.num := fun q => e (pX h hp hi q).symm
      rw [Vh e]
      have := ma h hi (L := L) (r := r - min (ceil_ (uAt us p) - floor_ (uAt us p)) r) fun p hp => hL p (Vs _ hp)
      rw [<- this]
      have e1 : ((uAt us p).offer.num == (uAt us i).offer.num) = false := by simp [ne]
      unfold find
      rw [find?_cons]
      simp only [e1]
theorem uC (h : tj us) {i : Nat} : ∀ {L : List Nat} {pl : List Int} {m pr : Int}, pl.length = us.length -> L.Nodup -> (∀ p ∈ L, p < us.length) -> (∀ p ∈ L, pl[p]? = some (floor_ (uAt us p))) ->
    (jM us L pl m pr).1[i]? = if i ∈ L then some (gE us L (max 0 m) i) else pl[i]?
  | [], _, _, _, _, _, _, _ => by simp [jM]
  | p :: L, pl, m, pr, ha, hn, hL, h0 => by
    have hp := hL p Vv
    have hf := floor_le (h.ok _ (cK hp))
    obtain ⟨n1, n2⟩ := nodup_cons.mp hn
    have Rq := h0 p Vv
    have SR : pl.getD p 0 = floor_ (uAt us p) := by simp [List.getD, Rq]
    unfold jM
    split
    . rename_i hm
      rw [uC h (by rw [length_set]; exact ha) n2 (fun p hp => hL p (Vs _ hp)) (fun x hx => by
        rw [We (fun e => n1 (by rw [e]; exact hx))]; exact h0 x (Vs _ hx))]
      have e1 : max 0 m = m := by omega
      have e2 : max 0 (m - min m (ceil_ (uAt us p) - floor_ (uAt us p))) = m - min (ceil_ (uAt us p) - floor_ (uAt us p)) m := by omega
      rw [e1, e2, SR]
      simp only [gE]
      by_cases e : i = p
      . subst e
        rw [Vh n1, Vj Vv, Wh (by omega), Vj rfl, min_comm]
      . by_cases hi : i ∈ L
        . rw [Vj hi, Vj (Vs _ hi), Vh e]
        . rw [Vh hi, Vh (by simp [e, hi]), We (fun q => e q.symm)]
    . rename_i hm
      rw [uC h ha n2 (fun p hp => hL p (Vs _ hp)) (fun x hx => h0 x (Vs _ hx))]
      have e2 : min (ceil_ (uAt us p) - floor_ (uAt us p)) (max 0 m) = 0 := by omega
      simp only [gE, e2]
      by_cases e : i = p
      . subst e
        rw [Vh n1, Vj Vv, Vj rfl, Rq]; simp
      . by_cases hi : i ∈ L
        . rw [Vj hi, Vj (Vs _ hi), Vh e]; simp
        . rw [Vh hi, Vh (by simp [e, hi])]
theorem md (h : tj us) : ∀ {L : List Nat} {pl : List Int} {m pr : Int}, (∀ p ∈ L, p < us.length) -> (jM us L pl m pr).2 = lastRaised pr (L.map (uAt us)) (max 0 m)
  | [], _, _, _, _ => rfl
  | p :: L, pl, m, pr, hL => by
    have hp := hL p Vv
    have hf := floor_le (h.ok _ (cK hp))
    have Rr : ∀ q ∈ L, q < us.length := fun p hp => hL p (Vs _ hp)
    unfold jM
    simp only [Vy, lastRaised]
    split
    . rename_i hm
      rw [md h Rr, Vh (by omega), Vj (by omega)]
      by_cases hx : ceil_ (uAt us p) - floor_ (uAt us p) <= m
      . have e : max 0 (m - min m (ceil_ (uAt us p) - floor_ (uAt us p))) = max 0 m - (ceil_ (uAt us p) - floor_ (uAt us p)) := by omega
        rw [e]
      . have e : max 0 (m - min m (ceil_ (uAt us p) - floor_ (uAt us p))) = 0 := by omega
        rw [e]
        have stop : ∀ (l : List Unit_) (a r : Int), r <= 0 -> lastRaised a l r = a := by
          intro l a r hr
          cases l with
          | nil => rfl
          | cons u l => simp only [lastRaised]; rw [Vj hr]
        rw [stop _ _ _ (by omega), stop _ _ _ (by omega)]
    . rename_i hm
      rw [md h Rr]
      by_cases hz : m <= 0
      . have e : max 0 m = 0 := by omega
        rw [e, Vj (by omega)]
        cases L with
        | nil => rfl
        | cons q L => simp only [Vy, lastRaised]; rw [Vj (by omega)]
      . rw [Vh (by omega), Vh (by omega)]
theorem oi {us : List Unit_} {pr : Int} (h1 : (∀ u ∈ us, ¬ floor_ u < ceil_ u) -> pr = 0) (h2 : (∃ u ∈ us, floor_ u < ceil_ u) -> ∃ u ∈ us, floor_ u < ceil_ u /\ pr = u.offer.energy) (h3 : ∀ u ∈ us, floor_ u < ceil_ u -> pr <= u.offer.energy) : firstPrice (merit us) = pr := by
  have Oh : (merit us).Pairwise fun a b => a.offer.energy <= b.offer.energy := by
    rw [<- fh, pairwise_map]
    refine (uk (key := fun p => (uAt us p).offer.energy) (pairwise_lt_range (n := us.length))).imp fun {a b} h => ?_
    have h : (uAt us a).offer.energy < (uAt us b).offer.energy \/ ((uAt us a).offer.energy = (uAt us b).offer.energy /\ a <= b) := h
    omega
  have BZ : ∀ u, u ∈ merit us ↔ u ∈ us := fun u => by
    rw [<- fh, mem_map]
    constructor
    . rintro ⟨p, hp, rfl⟩; exact cK (b7.mp hp)
    . intro hu
      obtain ⟨p, hp, e⟩ := mem_iff_getElem.mp hu
      refine ⟨p, b7.mpr hp, ?_⟩
      have := bP hp
      rw [Vl hp, e] at this
      exact (Option.some.inj this).symm
  unfold firstPrice
  cases q : (merit us).find? fun u => decide (floor_ u < ceil_ u) with
  | none =>
    rw [List.find?_eq_none] at q
    exact (h1 fun u hu => by have := q u ((BZ u).mpr hu); simpa using this).symm
  | some u =>
    obtain ⟨hu, as, bs, e, hb⟩ := List.find?_eq_some_iff_append.mp q
    have My : floor_ u < ceil_ u := by simpa using hu
    have Rt : u ∈ us := (BZ u).mp (by rw [e]; simp)
    obtain ⟨v, hv, Oi, rfl⟩ := h2 ⟨u, Rt, My⟩
    show u.offer.energy = v.offer.energy
    have a1 := h3 u Rt My
    have a2 : u.offer.energy <= v.offer.energy := by
      have Ru := (BZ v).mpr hv
      rw [e] at Ru Oh
      rcases mem_append.mp Ru with z | z
      . have := hb v z
        simp [Oi] at this
      . rcases mem_cons.mp z with rfl | z
        . exact Int.le_refl _
        . exact (pairwise_cons.mp (List.pairwise_append.mp Oh).2.1).1 v z
    omega
theorem HN (h : tj us) (target : Int) {L : List Nat} (hL : L = bW us) :
    jM us L (us.map floor_) (target - floors us) (firstPrice (merit us)) = (placesOf us (plan us target), (plan us target).price) := by
  subst hL
  have hz : (us.map floor_).length = us.length := by simp
  refine Prod.ext ?_ ?_
  . show (jM us (bW us) (us.map floor_) (target - floors us) (firstPrice (merit us))).1 = placesOf us (plan us target)
    apply V0
    intro i
    rw [uC h hz (Aj us) (fun p hp => b7.mp hp) fun p hp => by rw [Vt, bP (b7.mp hp)]; rfl]
    by_cases hi : i < us.length
    . rw [Vj (b7.mpr hi)]
      unfold placesOf
      rw [Vt, bP hi]
      simp only [Option.map_some, plan]
      rw [<- fh, ma h hi fun p hp => b7.mp hp]
    . rw [Vh fun q => hi (b7.mp q), List.getElem?_eq_none_iff.mpr (by rw [hz]; omega), List.getElem?_eq_none_iff.mpr (by simp [placesOf]; omega)]
  . show (jM us (bW us) (us.map floor_) (target - floors us) (firstPrice (merit us))).2 = _
    rw [md h fun p hp => b7.mp hp]
    simp only [plan]
    rw [fh]
theorem uD (h : tj us) {i : Nat} : ∀ {L : List Nat} {r : Int}, (∀ p ∈ L, p < us.length) -> 0 <= r -> i ∈ L -> floor_ (uAt us i) <= gE us L r i /\ gE us L r i <= ceil_ (uAt us i)
  | [], _, _, _, hi => by cases hi
  | p :: L, r, hL, hr, hi => by
    have hf := floor_le (h.ok _ (cK (hL p Vv)))
    simp only [gE]
    by_cases e : i = p
    . subst e; rw [Vj rfl]; omega
    . rw [Vh e]
      exact uD h (fun p hp => hL p (Vs _ hp)) (by omega) (by simpa [e] using hi)
theorem Ak (h : tj us) (target : Int) {u : Unit_} (hu : u ∈ us) : floor_ u <= find (plan us target).places u.offer.num /\ find (plan us target).places u.offer.num <= ceil_ u := by
  obtain ⟨p, hp, e⟩ := mem_iff_getElem.mp hu
  have e2 : u = uAt us p := by
    have := bP hp
    rw [Vl hp, e] at this
    exact Option.some.inj this
  subst e2
  simp only [plan]
  rw [<- fh, ma h hp fun p hp => b7.mp hp]
  exact uD h (fun p hp => b7.mp hp) (by omega) (b7.mpr hp)
theorem Al (h : tj us) (target : Int) : tj (us.map (moved (plan us target))) := by
  refine ⟨?_, ?_⟩
  . rw [Vz]; exact h.nd
  . intro v hv
    obtain ⟨u, hu, rfl⟩ := mem_map.mp hv
    have k := h.ok u hu
    obtain ⟨b1, b2⟩ := Ak h target hu
    have b3 := uB k
    have b4 := l9 k
    refine ⟨?_, k.ramp, k.left, k.le⟩
    show 0 <= if u.offer.down = true then -(find (plan us target).places u.offer.num) else find (plan us target).places u.offer.num
    unfold floor_ at b1
    unfold ceil_ at b2
    split <;> simp_all <;> omega
theorem Am (p : Plan) : ∀ us : List Unit_, ((us.map (moved p)).map fun u => u.paid).sum - (us.map fun u => u.paid).sum = (us.map fun u => pay u (find p.places u.offer.num) p.price).sum
  | [] => rfl
  | u :: us => by
    have := Am p us
    simp only [Vy, sum_cons]
    have e : (moved p u).paid = u.paid + pay u (find p.places u.offer.num) p.price := rfl
    rw [e]; omega
end RV
namespace RV
open Vbemah
structure OfB (o : Offer) : Prop where
  q0 : 0 <= o.q
  q1 : o.q <= 1000000000
  p0 : 0 <= o.price
  p1 : o.price <= 1000000
  e0 : -1000000 <= o.energy
  e1 : o.energy <= 1000000
  r0 : 1 <= o.ramp
  r1 : o.ramp <= 1000000000
theorem xR {os : List Offer} (h : iG os) {i : Nat} (hi : i < os.length) : ∀ {L : List Nat} {r : Int}, (∀ p ∈ L, p < os.length) -> 0 <= r -> 0 <= bR os L r i /\ bR os L r i <= (oAt os i).q
  | [], r, _, _ => by
    have := h.pos _ (cJ hi)
    simp only [bR]; omega
  | p :: L, r, hL, hr => by
    have hp := h.pos _ (cJ (hL p Vv))
    simp only [bR]
    by_cases e : i = p
    . subst e; rw [Vj rfl]; omega
    . rw [Vh e]
      exact xR h hi (fun p hp => hL p (Vs _ hp)) (by omega)
theorem FK {os : List Offer} (h : iG os) {i : Nat} (hi : i < os.length) (ch : List Nat) (need : Int) : 0 <= fg os ch need i /\ fg os ch need i <= (oAt os i).q := by
  have hq := h.pos _ (cJ hi)
  unfold fg
  split
  . split <;> omega
  . exact xR h hi (fun p hp => (bF.mp hp).1) (by omega)
theorem rf {os : List Offer} (h : iG os) (need : Int) : (bought os need).length = os.length /\ ∀ i, i < os.length -> 0 <= (bought os need).getD i 0 /\ (bought os need).getD i 0 <= (oAt os i).q := by
  have full : (os.map fun o => o.q).length = os.length /\ ∀ i, i < os.length -> 0 <= (os.map fun o => o.q).getD i 0 /\ (os.map fun o => o.q).getD i 0 <= (oAt os i).q := by
    refine ⟨by simp, fun i hi => ?_⟩
    have hq := h.pos _ (cJ hi)
    have e : (os.map fun o => o.q).getD i 0 = (oAt os i).q := by simp [List.getD, Vt, cI hi]
    rw [e]; omega
  have one : ∀ ch ∈ aO os, (bw os ch need).length = os.length /\ ∀ i, i < os.length -> 0 <= (bw os ch need).getD i 0 /\ (bw os ch need).getD i 0 <= (oAt os i).q := fun ch hc => by
    rw [iL h hc]
    refine ⟨by simp, fun i hi => ?_⟩
    have e : ((range os.length).map (fg os ch need)).getD i 0 = fg os ch need i := by simp [List.getD, Vt, Wb hi]
    rw [e]
    exact FK h hi ch need
  unfold bought
  cases e : best os (((ways os).map fun w => amounts os need w).filter fun xs => decide (need <= total xs)) with
  | none => exact full
  | some b =>
    have hm : ∀ {l : List (List Int)} {b}, best os l = some b -> b ∈ l := by
      intro l
      induction l with
      | nil => intro b e; cases e
      | cons x r ih =>
        intro b e
        unfold best at e
        cases e2 : best os r with
        | none => rw [e2] at e; obtain rfl := Option.some.inj e; exact Vv
        | some y =>
          rw [e2] at e
          dsimp only at e
          split at e
          . obtain rfl := Option.some.inj e; exact Vs _ (ih e2)
          . obtain rfl := Option.some.inj e; exact Vv
    obtain ⟨w, hw, rfl⟩ := mem_map.mp (mem_filter.mp (hm e)).1
    obtain ⟨ch, hc, rfl⟩ := gC.mp hw
    rw [gD h hc]
    exact one ch hc
structure SInv (s : State) : Prop where
  nums : s.offers.Pairwise fun a b => a.num < b.num
  last : ∀ o ∈ s.offers, 1 <= o.num /\ o.num <= s.last
  sI : 0 <= s.last
  ofb : ∀ o ∈ s.offers, OfB o
  few : s.offers.length <= 24
  whole : ∀ d, ((s.side d).filter fun o => o.whole).length <= 8
  uns : s.buys = true -> s.units.map (fun u => u.offer) = s.offers
  none : s.buys = false -> s.units = [] /\ s.quarters = []
  uok : ∀ u ∈ s.units, UOk u /\ u.taken <= u.offer.q
  qs : s.quarters.length <= 96
theorem B0 : SInv start := ⟨.nil, (fun o h => by cases h), Int.le_refl _, (fun o h => by cases h), (by decide), (fun d => by cases d <;> decide), (fun h => by cases h), (fun _ => ⟨rfl, rfl⟩), (fun u h => by cases h), (by decide)⟩
theorem EF (u d : Int) : SInv { opened := true, needUp := u, needDown := d } := ⟨.nil, (fun o h => by cases h), Int.le_refl _, (fun o h => by cases h), VF _, (fun d => VF _), (fun h => by cases h), (fun _ => ⟨rfl, rfl⟩), (fun u h => by cases h), VF _⟩
theorem SInv.nodup (h : SInv s) : (s.offers.map fun o => o.num).Nodup := by
  rw [List.Nodup, pairwise_map]
  exact h.nums.imp fun h => by omega
theorem SInv.ki (h : SInv s) (d : Bool) : ((s.side d).map fun o => o.num).Nodup := by
  rw [List.Nodup, pairwise_map]
  exact (h.nums.filter _).imp fun h => by omega
theorem SInv.pY (h : SInv s) (d : Bool) : iG (s.side d) := ⟨h.ki d, fun o ho => (h.ofb o (mem_filter.mp ho).1).q0⟩
theorem SInv.pZ (h : SInv s) (d : Bool) : (s.side d).length <= 24 := VH (Wf _ _) h.few
theorem SInv.me (h : SInv s) : tj s.units := by
  refine ⟨?_, fun u hu => (h.uok u hu).1⟩
  cases hb : s.buys with
  | true =>
    have : (s.units.map fun u => u.offer.num) = s.offers.map fun o => o.num := by rw [<- h.uns hb, Vz]; rfl
    rw [this]
    exact h.nodup
  | false => rw [(h.none hb).1]; exact List.nodup_nil
theorem SInv.cE (h : SInv s) : s.units.length <= 24 := by
  cases hb : s.buys with
  | true =>
    have := congrArg List.length (h.uns hb)
    rw [Vg] at this
    rw [this]; exact h.few
  | false => rw [(h.none hb).1]; decide
theorem uE {os : List Offer} {xs : List Int} (nd : (os.map fun o => o.num).Nodup) (hl : xs.length = os.length) {i : Nat} (hi : i < os.length) : find ((os.map fun o => o.num).zip xs) (oAt os i).num = xs.getD i 0 := by
  unfold find
  have key : ((os.map fun o => o.num).zip xs).find? (fun x => x.1 == (oAt os i).num) = some ((oAt os i).num, xs.getD i 0) := by
    have hz : ((os.map fun o => o.num).zip xs)[i]? = some ((oAt os i).num, xs.getD i 0) := by
      rw [zip_eq_zipWith, getElem?_zipWith, Vt, cI hi, Vl (show i < xs.length by omega)]
      simp [List.getD, Vl (show i < xs.length by omega)]
    rw [List.find?_eq_some_iff_getElem]
    have hlen : i < ((os.map fun o => o.num).zip xs).length := by simp; omega
    refine ⟨by simp, i, hlen, ?_, fun j hj => ?_⟩
    . have := Vl hlen
      rw [hz] at this
      exact (Option.some.inj this).symm
    . simp only [List.getElem_zip, getElem_map]
      have Me : j < os.length := by omega
      have ne : ¬ os[j].num = (oAt os i).num := fun e => by
        have h1 : (os.map fun o => o.num)[j]? = some (oAt os i).num := by rw [Vt, Vl Me]; simp [e]
        have h2 : (os.map fun o => o.num)[i]? = some (oAt os i).num := by rw [Vt, cI hi]; rfl
        have hl : j < (os.map fun o => o.num).length := by simpa using Me
        have := (getElem?_inj hl nd).mp (h1.trans h2.symm)
        omega
      simp [ne]
  rw [key]
theorem kj {os : List Offer} {o : Offer} (h : o ∈ os) : ∃ i, i < os.length /\ oAt os i = o := by
  obtain ⟨i, hi, e⟩ := mem_iff_getElem.mp h
  refine ⟨i, hi, ?_⟩
  have := cI hi
  rw [Vl hi, e] at this
  exact (Option.some.inj this).symm
theorem FN (h : SInv s) {o : Offer} (ho : o ∈ s.offers) : 0 <= find (s.boughtOf o.down) o.num /\ find (s.boughtOf o.down) o.num <= o.q := by
  have hm : o ∈ s.side o.down := mem_filter.mpr ⟨ho, by simp⟩
  obtain ⟨i, hi, e⟩ := kj hm
  obtain ⟨hl, hb⟩ := rf (h.pY o.down) (s.need o.down)
  unfold State.boughtOf
  have := uE (h.ki o.down) hl hi
  rw [e] at this
  rw [this, <- e]
  have := hb i hi
  rw [e] at this ⊢
  exact this
theorem FO (h : SInv s) (hb : s.buys = false) : SInv s.buy := by
  refine ⟨h.nums, h.last, h.sI, h.ofb, h.few, h.whole, fun _ => ?_, fun z => (by cases z), fun u hu => ?_, ?_⟩
  . show (s.offers.map _).map _ = s.offers
    rw [Vz]
    conv => rhs; rw [<- map_id s.offers]
    rfl
  . obtain ⟨o, ho, rfl⟩ := mem_map.mp hu
    obtain ⟨t0, t1⟩ := FN h ho
    have b := h.ofb o ho
    refine ⟨⟨?_, ?_, t0, Int.le_refl _⟩, t1⟩
    . unfold far; dsimp only; split <;> omega
    . show 0 <= o.ramp
      have := b.r0; omega
  . show s.quarters.length <= 96
    exact h.qs
theorem An (p : Plan) (us : List Unit_) : (us.map (moved p)).map (fun u => u.offer) = us.map fun u => u.offer := by rw [Vz]; rfl
theorem B1 (h : SInv s) (t : Int) (hb : s.buys = true) (hq : s.quarters.length < 96) : SInv (s.after t) := by
  refine ⟨h.nums, h.last, h.sI, h.ofb, h.few, h.whole, fun _ => ?_, fun z => ?_, fun u hu => ?_, ?_⟩
  . show (s.units.map (moved (plan s.units t))).map _ = s.offers
    rw [An]
    exact h.uns hb
  . exact absurd (show s.buys = false from z) (by rw [hb]; simp)
  . have My : u ∈ s.units.map (moved (plan s.units t)) := hu
    refine ⟨(Al h.me t).ok u My, ?_⟩
    obtain ⟨v, hv, rfl⟩ := mem_map.mp My
    exact (h.uok v hv).2
  . show (s.quarters ++ [_]).length <= 96
    rw [VB]
    simp; omega
theorem FP (s : State) (o : Offer) (d : Bool) : ({ s with offers := s.offers ++ [o] } : State).side d = s.side d ++ (if (o.down == d) = true then [o] else []) := by
  unfold State.side
  dsimp only
  rw [filter_append]
  by_cases e : (o.down == d) = true
  . rw [Vj e, filter_cons, Vj e]; rfl
  . rw [Vh e, filter_cons, Vh e]; rfl
theorem B2 (h : SInv s) (hb : s.buys = false) {o : Offer} (hn : o.num = s.last + 1) (ob : OfB o) (hf : s.offers.length < 24) (hw : o.whole = true -> ((s.side o.down).filter fun o => o.whole).length < 8) : SInv { s with last := s.last + 1, offers := s.offers ++ [o] } := by
  refine ⟨?_, ?_, ?_, ?_, ?_, ?_, fun z => ?_, fun z => h.none z, h.uok, h.qs⟩
  . show (s.offers ++ [o]).Pairwise _
    rw [List.pairwise_append]
    refine ⟨h.nums, List.pairwise_singleton _ _, fun a ha b hb => ?_⟩
    obtain rfl := mem_singleton.mp hb
    have := (h.last a ha).2
    omega
  . intro a ha
    rcases mem_append.mp ha with ha | ha
    . have := h.last a ha
      exact ⟨this.1, by show a.num <= s.last + 1; omega⟩
    . obtain rfl := mem_singleton.mp ha
      have := h.sI
      exact ⟨by omega, by show a.num <= s.last + 1; omega⟩
  . have := h.sI
    show 0 <= s.last + 1
    omega
  . intro a ha
    rcases mem_append.mp ha with ha | ha
    . exact h.ofb a ha
    . obtain rfl := mem_singleton.mp ha
      exact ob
  . show (s.offers ++ [o]).length <= 24
    rw [VB]; simp; omega
  . intro d
    have e : ({ s with last := s.last + 1, offers := s.offers ++ [o] } : State).side d = s.side d ++ (if (o.down == d) = true then [o] else []) := FP s o d
    rw [e, filter_append, VB]
    have h8 := h.whole d
    by_cases c : (o.down == d) = true
    . rw [Vj c]
      obtain rfl := eq_of_beq c
      cases w : o.whole with
      | true =>
        have := hw w
        simp [w]; omega
      | false => simp [w]; omega
    . rw [Vh c]; simp; omega
  . exact absurd (show s.buys = true from z) (by rw [hb]; simp)
theorem EG (h : SInv s) (hb : s.buys = false) (f : Offer -> Bool) : SInv { s with offers := s.offers.filter f } := by
  refine ⟨h.nums.filter _, fun o ho => h.last o (mem_filter.mp ho).1, h.sI, fun o ho => h.ofb o (mem_filter.mp ho).1, VH (Wf _ _) h.few, fun d => ?_, fun z => absurd (show s.buys = true from z) (by rw [hb]; simp), fun z => h.none z, h.uok, h.qs⟩
  refine VH ?_ (h.whole d)
  have e : ({ s with offers := s.offers.filter f } : State).side d = (s.side d).filter f := by
    unfold State.side
    dsimp only
    rw [filter_filter, filter_filter]
    congr 1
    funext o
    exact Bool.and_comm _ _
  rw [e]
  exact ((List.filter_sublist (p := f) (l := s.side d)).filter _).length_le
theorem EH (h : SInv s) (u d : Int) : SInv { s with needUp := u, needDown := d } := ⟨h.nums, h.last, h.sI, h.ofb, h.few, h.whole, h.uns, h.none, h.uok, h.qs⟩
theorem B3 (h : SInv s) (hq : s.quarters = []) : SInv { s with buys := false, units := [] } := ⟨h.nums, h.last, h.sI, h.ofb, h.few, h.whole, (fun z => by cases z), fun _ => ⟨rfl, hq⟩, (fun u hu => by cases hu), h.qs⟩
theorem B4 (h : SInv s) {n q : Int} (q0 : 0 <= q) (hq : ∀ u ∈ s.units, u.offer.num = n -> q <= u.taken) : SInv { s with units := s.units.map fun x => if x.offer.num = n then { x with left := q } else x } := by
  refine ⟨h.nums, h.last, h.sI, h.ofb, h.few, h.whole, fun z => ?_, fun z => ?_, fun u hu => ?_, h.qs⟩
  . show (s.units.map _).map _ = s.offers
    rw [Vz, <- h.uns z]
    refine VU fun x _ => ?_
    show (if x.offer.num = n then ({ x with left := q } : Unit_) else x).offer = x.offer
    split <;> rfl
  . obtain ⟨h1, h2⟩ := h.none z
    exact ⟨by show s.units.map _ = []; rw [h1]; rfl, h2⟩
  . obtain ⟨x, hx, rfl⟩ := mem_map.mp hu
    obtain ⟨k1, k2⟩ := h.uok x hx
    by_cases e : x.offer.num = n
    . rw [Vj e]
      exact ⟨⟨k1.far, k1.ramp, q0, hq x hx e⟩, k2⟩
    . rw [Vh e]
      exact ⟨k1, k2⟩
theorem sJ (h : SInv s) (d : Bool) : (s.side d).map (fun o => find (s.boughtOf d) o.num) = bought (s.side d) (s.need d) := by
  obtain ⟨hl, _⟩ := rf (h.pY d) (s.need d)
  apply V0
  intro i
  rw [Vt]
  by_cases hi : i < (s.side d).length
  . rw [cI hi, Vl (show i < (bought (s.side d) (s.need d)).length by omega)]
    unfold State.boughtOf
    simp only [Option.map_some]
    rw [uE (h.ki d) hl hi]
    simp [List.getD, Vl (show i < (bought (s.side d) (s.need d)).length by omega)]
  . rw [VL (by omega), VL (by omega)]; rfl
theorem uF (s : State) (d : Bool) (f : Unit_ -> Int) (g : Offer -> Int -> Int) (SS : ∀ o x, f { offer := o, taken := x, left := x } = g o x) : ((s.buy.units.filter fun u => u.offer.down == d).map f) = (s.side d).map fun o => g o (find (s.boughtOf d) o.num) := by
  show ((s.offers.map _).filter _).map f = _
  rw [filter_map, Vz]
  unfold State.side
  refine VU fun o ho => ?_
  have e : o.down = d := by
    have := (mem_filter.mp ho).2
    exact eq_of_beq this
  show f _ = _
  rw [SS, e]
theorem DM (h : SInv s) (d : Bool) : ((s.buy.units.filter fun u => u.offer.down == d).map fun u => u.taken).sum = (bought (s.side d) (s.need d)).sum := by
  rw [uF s d (fun u => u.taken) (fun _ x => x) (fun _ _ => rfl), sJ h d]
theorem zip_map_self {α β : Type} (l : List α) (f : α -> β) : l.zip (l.map f) = l.map fun a => (a, f a) := by
  induction l with
  | nil => rfl
  | cons a l ih => simp [ih]
theorem xS (h : SInv s) (d : Bool) : cost (s.side d) (bought (s.side d) (s.need d)) = ((s.side d).map fun o => o.price * find (s.boughtOf d) o.num).sum := by
  unfold cost
  rw [<- sJ h d, zip_map_self, Vz]
  rfl
theorem FQ (h : SInv s) : s.buy.capacityCost = cost (s.side false) (bought (s.side false) (s.need false)) + cost (s.side true) (bought (s.side true) (s.need true)) := by
  rw [xS h, xS h]
  unfold State.capacityCost
  rw [jL (fun u : Unit_ => u.offer.down == false) (fun u => u.offer.price * u.taken)]
  congr 1
  . rw [uF s false (fun u => u.offer.price * u.taken) (fun o x => o.price * x) (fun _ _ => rfl)]
  . have e : (s.buy.units.filter fun u => !(u.offer.down == false)) = s.buy.units.filter fun u => u.offer.down == true := by
      congr 1
      funext u
      cases u.offer.down <;> rfl
    rw [e, uF s true (fun u => u.offer.price * u.taken) (fun o x => o.price * x) (fun _ _ => rfl)]
end RV
namespace RV
open Vbemah
theorem uG (us : List Unit_) (f : Unit_ -> Bool) : us.filter f = ((range us.length).filter fun i => f (uAt us i)).map (uAt us) := by
  conv => lhs; rw [<- tU us, filter_map]
  rfl
theorem yI (us : List Unit_) (f : Unit_ -> Bool) : merit (us.filter f) = (merit us).filter f := by
  rw [<- fh us, filter_map, uG us f]
  have e : (bW us).filter (fun p => f (uAt us p)) = iJ (fun p => (uAt us p).offer.energy) ((range us.length).filter fun i => f (uAt us i)) :=
    pP (pairwise_lt_range.filter _) ((cu _ _).filter _) ((uk pairwise_lt_range).filter _)
  have e2 := uo (f := uAt us) ((range us.length).filter fun i => f (uAt us i))
  rw [<- e2, <- e]
  rfl
def eC (us : List Unit_) (t : Int) : List Int := us.map fun u => pay u (find (plan us t).places u.offer.num) (plan us t).price
def FR (us : List Unit_) (t : Int) : Quarter := ⟨t, (placesOf us (plan us t)).sum, (plan us t).price, (eC us t).sum⟩
def gone (us : List Unit_) (t : Int) : List Unit_ := us.map (moved (plan us t))
def uH : List Unit_ -> List Int -> List Quarter
  | _, [] => []
  | us, t :: r => FR us t :: uH (gone us t) r
theorem mf (s : State) (t : Int) : (s.after t).quarters = s.quarters ++ [FR s.units t] := by
  unfold State.after FR eC
  dsimp only
  rw [Am]
theorem Ao {α : Type} (l : List α) (x : α) : (l ++ [x]).drop l.length = [x] := by rw [List.drop_append_of_le_length (Vq _), drop_length]; rfl
theorem sL : ∀ (ts : List Int) (s : State), foreseen s ts = uH s.units ts
  | [], _ => rfl
  | t :: r, s => by
    show (s.after t).quarters.drop s.quarters.length ++ foreseen (s.after t) r = FR s.units t :: uH (gone s.units t) r
    rw [mf, Ao, sL r (s.after t)]
    rfl
theorem qb : ∀ (ts : List Int) (us : List Unit_), (uH us ts).length = ts.length
  | [], _ => rfl
  | t :: r, us => by
    show (uH (gone us t) r).length + 1 = r.length + 1
    rw [qb r]
theorem Ap (us : List Unit_) (t : Int) : (gone us t).length = us.length := by unfold gone; rw [Vg]
theorem DN {us : List Unit_} {t : Int} {i : Nat} (h : i < us.length) : uAt (gone us t) i = moved (plan us t) (uAt us i) := by
  show (us.map (moved (plan us t))).getD i FJ = _
  simp [List.getD, Vt, bP h]
theorem HP {k : Int} (ok : UOk u) (hk : 1 <= k) : min (high u + (k - 1) * u.offer.ramp) u.left = highIn u k := by
  unfold high highIn
  have hm : 0 <= (k - 1) * u.offer.ramp := Int.mul_nonneg (by omega) ok.ramp
  have e : k * u.offer.ramp = (k - 1) * u.offer.ramp + u.offer.ramp := by rw [Int.sub_mul]; omega
  rw [e]
  generalize (k - 1) * u.offer.ramp = m at *
  generalize (if u.offer.down = true then -u.at_ else u.at_) = f
  omega
theorem J9 {k : Int} : max (low u - (k - 1) * u.offer.ramp) 0 = lowIn u k := by unfold lowIn; omega
theorem DO {us : List Unit_} {ys : List Int} (hl : ys.length = us.length) : us.zip ys = (range us.length).map fun i => (uAt us i, ys.getD i 0) := by
  apply V0
  intro i
  by_cases hi : i < us.length
  . rw [Vt, Wb hi, zip_eq_zipWith, getElem?_zipWith, bP hi, Vl (show i < ys.length by omega)]
    simp [List.getD, Vl (show i < ys.length by omega)]
  . rw [VL (by simp; omega), VL (by simp; omega)]
theorem Ka {us : List Unit_} {ys : List Int} (hl : ys.length = us.length) : can us ys = ((range us.length).map fun i => decide (floor_ (uAt us i) <= ys.getD i 0) && decide (ys.getD i 0 <= ceil_ (uAt us i))).all id := by
  unfold can
  rw [beq_iff_eq.mpr hl, Bool.true_and, DO hl, all_map, all_map]
  rfl
theorem FT {us : List Unit_} {ys : List Int} (hl : ys.length = us.length) : energyCostOf us ys = ((range us.length).map fun i => ys.getD i 0 * (uAt us i).offer.energy).sum := by
  unfold energyCostOf
  rw [DO hl, Vz]
  refine qZ fun i _ => ?_
  exact mul_comm _ _
end RV
namespace RV
open Vbemah
abbrev T3 := Int × List Int × List Int
def cF (k : Int) : Bool := k == 8 || k == 10 || k == 16
def gg (t : T3) : List Int := t.1 :: (t.2.1 ++ if cF t.1 = true then (t.2.2.length : Int) :: t.2.2 else [])
def cM (t : T3) : List (List Int) := (t.1 :: t.2.1) :: if cF t.1 = true then [t.2.2] else []
def okT (t : T3) : Prop := PyVbemah.shape t.1 = some (t.2.1.length, if cF t.1 = true then 1 else 0) /\ (cF t.1 = false -> t.2.2 = [])
def qc : List (Int × List (List Int)) := [
  (0, [[0, 100000000000], [0, 100000000000]]),
  (1, [[0, 1], [1, 1000000000], [0, 1000000], [-1000000, 1000000], [1, 1000000000], [0, 1]]),
  (2, [[-1000000000000000000, 1000000000000000000]]),
  (3, [[0, 1], [0, 100000000000]]),
  (4, []),
  (5, []),
  (6, [[-1000000000000000000, 1000000000000000000]]),
  (7, [[0, 1]]),
  (8, [[0, 1]]),
  (9, [[-100000000000, 100000000000]]),
  (10, []),
  (11, [[-1000000000000000000, 1000000000000000000]]),
  (12, [[-1000000000000000000, 1000000000000000000], [0, 1000000000]]),
  (13, [[1, 1000]]),
  (14, []),
  (15, []),
  (16, []),
  (17, [[1, 96]]),
  (18, []),
  (19, [])]
def mh : List (Int × List Int) := [(8, [24, 0, 1000000000]), (10, [96, -100000000000, 100000000000]), (16, [24, -1000000000, 1000000000])]
theorem uJ {p : Int} {x : Nat × Nat} (h : PyVbemah.shape p = some x) : ∃ bs, qc.lookup p = some bs /\ x = (bs.length, if cF p = true then 1 else 0) /\ 0 <= p /\ p <= 19 := by
  have hp : 0 <= p /\ p <= 19 := by
    by_cases hh : 0 <= p /\ p <= 19
    . exact hh
    . exfalso
      unfold PyVbemah.shape at h
      rw [Vh (show ¬ p = 0 by omega), Vh (show ¬ p = 1 by omega), Vh (show ¬ p = 2 by omega), Vh (show ¬ p = 3 by omega), Vh (show ¬ p = 4 by omega), Vh (show ¬ p = 5 by omega), Vh (show ¬ p = 6 by omega), Vh (show ¬ p = 7 by omega), Vh (show ¬ p = 8 by omega), Vh (show ¬ p = 9 by omega), Vh (show ¬ p = 10 by omega), Vh (show ¬ p = 11 by omega), Vh (show ¬ p = 12 by omega), Vh (show ¬ p = 13 by omega), Vh (show ¬ p = 14 by omega), Vh (show ¬ p = 15 by omega), Vh (show ¬ p = 16 by omega), Vh (show ¬ p = 17 by omega), Vh (show ¬ p = 18 by omega), Vh (show ¬ p = 19 by omega)] at h
      cases h
  obtain ⟨n, hn, rfl⟩ : ∃ n : Nat, n < 20 /\ p = n := ⟨p.toNat, by omega, by omega⟩
  have key : ∀ n : Nat, n < 20 -> ∀ x, PyVbemah.shape (n : Int) = some x -> ∃ bs, qc.lookup (n : Int) = some bs /\ x = (bs.length, if cF (n : Int) = true then 1 else 0) := by
    intro n hn
    match n, hn with
    | 0, _ => intro x h; exact ⟨_, rfl, (Option.some.inj h).symm⟩
    | 1, _ => intro x h; exact ⟨_, rfl, (Option.some.inj h).symm⟩
    | 2, _ => intro x h; exact ⟨_, rfl, (Option.some.inj h).symm⟩
    | 3, _ => intro x h; exact ⟨_, rfl, (Option.some.inj h).symm⟩
    | 4, _ => intro x h; exact ⟨_, rfl, (Option.some.inj h).symm⟩
    | 5, _ => intro x h; exact ⟨_, rfl, (Option.some.inj h).symm⟩
    | 6, _ => intro x h; exact ⟨_, rfl, (Option.some.inj h).symm⟩
    | 7, _ => intro x h; exact ⟨_, rfl, (Option.some.inj h).symm⟩
    | 8, _ => intro x h; exact ⟨_, rfl, (Option.some.inj h).symm⟩
    | 9, _ => intro x h; exact ⟨_, rfl, (Option.some.inj h).symm⟩
    | 10, _ => intro x h; exact ⟨_, rfl, (Option.some.inj h).symm⟩
    | 11, _ => intro x h; exact ⟨_, rfl, (Option.some.inj h).symm⟩
    | 12, _ => intro x h; exact ⟨_, rfl, (Option.some.inj h).symm⟩
    | 13, _ => intro x h; exact ⟨_, rfl, (Option.some.inj h).symm⟩
    | 14, _ => intro x h; exact ⟨_, rfl, (Option.some.inj h).symm⟩
    | 15, _ => intro x h; exact ⟨_, rfl, (Option.some.inj h).symm⟩
    | 16, _ => intro x h; exact ⟨_, rfl, (Option.some.inj h).symm⟩
    | 17, _ => intro x h; exact ⟨_, rfl, (Option.some.inj h).symm⟩
    | 18, _ => intro x h; exact ⟨_, rfl, (Option.some.inj h).symm⟩
    | 19, _ => intro x h; exact ⟨_, rfl, (Option.some.inj h).symm⟩
    | n + 20, hn => exact absurd hn (by omega)
  obtain ⟨bs, h1, h2⟩ := key n hn x h
  exact ⟨bs, h1, h2, by omega, by omega⟩
theorem DP (p : Int) : (mh.lookup p).isSome = cF p := by
  unfold mh cF
  by_cases h1 : p = 8
  . subst h1; rfl
  . by_cases h2 : p = 10
    . subst h2; rfl
    . by_cases h3 : p = 16
      . subst h3; rfl
      . simp [List.lookup, h1, h2, h3, show (p == 8) = false from beq_eq_false_iff_ne.mpr h1, show (p == 10) = false from beq_eq_false_iff_ne.mpr h2, show (p == 16) = false from beq_eq_false_iff_ne.mpr h3]
theorem HQ (h : PyFlat.okCall PyVbemah.shape c) : ∃ t : T3, okT t /\ c = cM t /\ PyFlat.put1 c = gg t := by
  obtain ⟨p, a, xs, rfl, hs⟩ := h
  obtain ⟨bs, h1, h2, _, _⟩ := uJ hs
  obtain ⟨e1, e2⟩ := Prod.mk.inj h2
  by_cases hr : cF p = true
  . rw [Vj hr] at e2
    match xs, e2 with
    | [r], _ =>
      refine ⟨(p, a, r), ⟨?_, fun z => absurd hr (by rw [z]; exact VD)⟩, ?_, ?_⟩
      . show PyVbemah.shape p = some (a.length, if cF p = true then 1 else 0)
        rw [Vj hr]; exact hs
      . unfold cM; rw [Vj hr]
      . unfold gg; rw [Vj hr]
        show (p :: a) ++ ((r.length : Int) :: r ++ []) = _
        simp
  . rw [Vh hr] at e2
    match xs, e2 with
    | [], _ =>
      refine ⟨(p, a, []), ⟨?_, fun _ => rfl⟩, ?_, ?_⟩
      . show PyVbemah.shape p = some (a.length, if cF p = true then 1 else 0)
        rw [Vh hr]; exact hs
      . unfold cM; rw [Vh hr]
      . unfold gg; rw [Vh hr]
        show (p :: a) ++ [] = _
        simp
theorem Aq : ∀ (cs : List (List (List Int))), (∀ c ∈ cs, PyFlat.okCall PyVbemah.shape c) -> ∃ ts : List T3, PyFlat.put cs = ts.flatMap gg /\ cs = ts.map cM /\ ∀ t ∈ ts, okT t
  | [], _ => ⟨[], rfl, rfl, by simp⟩
  | c :: r, h => by
    obtain ⟨ts, h1, h2, h3⟩ := Aq r fun x hx => h x (Vs _ hx)
    obtain ⟨t, g1, g2, g3⟩ := HQ (h c Vv)
    refine ⟨t :: ts, ?_, ?_, ?_⟩
    . show PyFlat.put1 c ++ PyFlat.put r = _
      rw [g3, h1]; rfl
    . rw [g2, h2]; rfl
    . intro x hx
      rcases mem_cons.mp hx with rfl | hx
      . exact g1
      . exact h3 x hx
def inB (b : List Int) (n : Int) : Bool := decide (b.getD 0 0 <= n) && decide (n <= b.getD 1 0)
def tp (b : List Int) (r : List Int) : Bool := decide ((r.length : Int) <= b.getD 0 0) && r.all fun n => decide (b.getD 1 0 <= n) && decide (n <= b.getD 2 0)
def dc (t : T3) : Bool := match qc.lookup t.1 with
  | none => false
  | some bs => ((range (min t.2.1.length bs.length)).all fun i => inB (bs.getD i []) (t.2.1.getD i 0)) && match mh.lookup t.1 with
    | none => true
    | some b => tp b t.2.2
end RV
namespace RV
open Vbemah
theorem tV {motive : T3 -> Prop} (ok : okT t)
    (h0 : ∀ u d, motive (0, [u, d], [])) (h1 : ∀ d q p e r w, motive (1, [d, q, p, e, r, w], [])) (h2 : ∀ n, motive (2, [n], [])) (h3 : ∀ d q, motive (3, [d, q], [])) (h4 : motive (4, [], [])) (h5 : motive (5, [], [])) (h6 : ∀ n, motive (6, [n], [])) (h7 : ∀ d, motive (7, [d], []))
    (h8 : ∀ d xs, motive (8, [d], xs)) (h9 : ∀ t, motive (9, [t], [])) (DQ : ∀ ts, motive (10, [], ts)) (BU : ∀ n, motive (11, [n], [])) (BV : ∀ n q, motive (12, [n, q], [])) (BW : ∀ k, motive (13, [k], [])) (BX : motive (14, [], [])) (DR : motive (15, [], [])) (DS : ∀ ys, motive (16, [], ys)) (DT : ∀ k, motive (17, [k], [])) (DU : motive (18, [], [])) (DV : motive (19, [], [])) : motive t := by
  obtain ⟨k, ns, r⟩ := t
  obtain ⟨hs, hr⟩ := ok
  dsimp only at hs hr
  obtain ⟨bs, hb, hx, k0, k1⟩ := uJ hs
  have hl : ns.length = bs.length := (Prod.mk.inj hx).1
  clear hx hs
  have len0 : ∀ {l : List Int}, l.length = 0 -> l = [] := fun h => List.length_eq_zero_iff.mp h
  have uK : ∀ {l : List Int}, l.length = 1 -> ∃ a, l = [a] := fun {l} h => List.length_eq_one_iff.mp h
  have Kb : ∀ {l : List Int}, l.length = 2 -> ∃ a b, l = [a, b] := fun {l} h => match l, h with | [a, b], _ => ⟨a, b, rfl⟩
  have Pc : ∀ {l : List Int}, l.length = 6 -> ∃ a b c d e f, l = [a, b, c, d, e, f] := fun {l} h => match l, h with | [a, b, c, d, e, f], _ => ⟨a, b, c, d, e, f, rfl⟩
  obtain ⟨n, hn, rfl⟩ : ∃ n : Nat, n < 20 /\ k = n := ⟨k.toNat, by omega, by omega⟩
  match n, hn with
  | 0, _ => obtain rfl := Option.some.inj hb; obtain ⟨a, b, rfl⟩ := Kb hl; obtain rfl := hr rfl; exact h0 a b
  | 1, _ => obtain rfl := Option.some.inj hb; obtain ⟨a, b, c, d, e, f, rfl⟩ := Pc hl; obtain rfl := hr rfl; exact h1 a b c d e f
  | 2, _ => obtain rfl := Option.some.inj hb; obtain ⟨a, rfl⟩ := uK hl; obtain rfl := hr rfl; exact h2 a
  | 3, _ => obtain rfl := Option.some.inj hb; obtain ⟨a, b, rfl⟩ := Kb hl; obtain rfl := hr rfl; exact h3 a b
  | 4, _ => obtain rfl := Option.some.inj hb; obtain rfl := len0 hl; obtain rfl := hr rfl; exact h4
  | 5, _ => obtain rfl := Option.some.inj hb; obtain rfl := len0 hl; obtain rfl := hr rfl; exact h5
  | 6, _ => obtain rfl := Option.some.inj hb; obtain ⟨a, rfl⟩ := uK hl; obtain rfl := hr rfl; exact h6 a
  | 7, _ => obtain rfl := Option.some.inj hb; obtain ⟨a, rfl⟩ := uK hl; obtain rfl := hr rfl; exact h7 a
  | 8, _ => obtain rfl := Option.some.inj hb; obtain ⟨a, rfl⟩ := uK hl; exact h8 a r
  | 9, _ => obtain rfl := Option.some.inj hb; obtain ⟨a, rfl⟩ := uK hl; obtain rfl := hr rfl; exact h9 a
  | 10, _ => obtain rfl := Option.some.inj hb; obtain rfl := len0 hl; exact DQ r
  | 11, _ => obtain rfl := Option.some.inj hb; obtain ⟨a, rfl⟩ := uK hl; obtain rfl := hr rfl; exact BU a
  | 12, _ => obtain rfl := Option.some.inj hb; obtain ⟨a, b, rfl⟩ := Kb hl; obtain rfl := hr rfl; exact BV a b
  | 13, _ => obtain rfl := Option.some.inj hb; obtain ⟨a, rfl⟩ := uK hl; obtain rfl := hr rfl; exact BW a
  | 14, _ => obtain rfl := Option.some.inj hb; obtain rfl := len0 hl; obtain rfl := hr rfl; exact BX
  | 15, _ => obtain rfl := Option.some.inj hb; obtain rfl := len0 hl; obtain rfl := hr rfl; exact DR
  | 16, _ => obtain rfl := Option.some.inj hb; obtain rfl := len0 hl; exact DS r
  | 17, _ => obtain rfl := Option.some.inj hb; obtain ⟨a, rfl⟩ := uK hl; obtain rfl := hr rfl; exact DT a
  | 18, _ => obtain rfl := Option.some.inj hb; obtain rfl := len0 hl; obtain rfl := hr rfl; exact DU
  | 19, _ => obtain rfl := Option.some.inj hb; obtain rfl := len0 hl; obtain rfl := hr rfl; exact DV
  | n + 20, hn => exact absurd hn (by omega)
theorem HR (ok : okT t) : PyVbemah.whole (cM t) = cM t :=
  tV (motive := fun t => PyVbemah.whole (cM t) = cM t) ok (fun _ _ => rfl) (fun _ _ _ _ _ _ => rfl) (fun _ => rfl) (fun _ _ => rfl) rfl rfl (fun _ => rfl) (fun _ => rfl) (fun _ _ => rfl) (fun _ => rfl) (fun _ => rfl) (fun _ => rfl) (fun _ _ => rfl) (fun _ => rfl) rfl rfl (fun _ => rfl) (fun _ => rfl) rfl rfl
theorem Ar {l : List Int} (h : PyVbemah.answers_asked l = true) : ∃ ts : List T3, l = ts.flatMap gg /\ (∀ t ∈ ts, okT t) /\ ts.length <= 400 /\ (∀ t ∈ ts, VbemahNeutral.asked1 (cM t) = true) /\ PyVbemah.answers l = PyFlat.told (PyFlat.played Vbemah.stepNumbers Vbemah.start (ts.map cM)) := by
  unfold PyVbemah.answers_asked PyVbemah.calls at h
  cases e : PyFlat.calls PyVbemah.shape l.length l with
  | none => rw [e] at h; cases h
  | some cs =>
    rw [e] at h
    dsimp only at h
    obtain ⟨hp, hok⟩ := PyFlat.put_calls _ _ _ e
    obtain ⟨ts, h1, h2, h3⟩ := Aq cs hok
    have em : cs.map PyVbemah.whole = cs := by
      rw [h2, Vz]
      exact VU fun t ht => HR (h3 t ht)
    rw [em] at h
    obtain ⟨g1, g2⟩ := and_eq_true_iff.mp h
    obtain ⟨g3, g4⟩ := and_eq_true_iff.mp g2
    refine ⟨ts, hp.trans h1, h3, ?_, ?_, ?_⟩
    . have := Vn g1
      rw [h2, Vg] at this
      exact this
    . intro t ht
      refine all_eq_true.mp g3 _ ?_
      rw [h2]
      exact mem_map_of_mem ht
    . unfold PyVbemah.answers PyVbemah.calls
      rw [e]
      dsimp only
      rw [em, h2]
      rfl
def bp (t : T3) : Call := match decode (cM t) with
  | some c => c
  | none => .buy
theorem B5 (n : Nat) (lo hi : Int) (r : List Int) : tp [(n : Int), lo, hi] r = (decide (r.length <= n) && r.all fun x => within x lo hi) := by
  unfold tp
  congr 1
  simp
theorem As (x : Int) : bitOk x = within x 0 1 := by
  unfold bitOk within
  by_cases h0 : x = 0
  . subst h0; rfl
  . by_cases h1 : x = 1
    . subst h1; rfl
    . rw [show (x == 0) = false from beq_eq_false_iff_ne.mpr h0, show (x == 1) = false from beq_eq_false_iff_ne.mpr h1]
      by_cases h2 : 0 <= x
      . rw [Vw h2, VN (by omega)]; rfl
      . rw [VN h2]; rfl
theorem w60 {x : Int} (h : VbemahNeutral.whole60 x = true) : within x (-1000000000000000000) 1000000000000000000 = true := h
theorem Kc (ok : okT t) (ha : VbemahNeutral.asked1 (cM t) = true) : decode (cM t) = some (bp t) /\ inRange (bp t) = dc t := by
  revert ha
  refine tV (motive := fun t => VbemahNeutral.asked1 (cM t) = true -> decode (cM t) = some (bp t) /\ inRange (bp t) = dc t) ok ?_ ?_ ?_ ?_ ?_ ?_ ?_ ?_ ?_ ?_ ?_ ?_ ?_ ?_ ?_ ?_ ?_ ?_ ?_ ?_
  . intro u d _
    refine ⟨rfl, ?_⟩
    show (within u 0 TMAX && within d 0 TMAX) = ((within u 0 100000000000 && (within d 0 100000000000 && true)) && true)
    simp [TMAX]
  . intro d q p e r w _
    refine ⟨rfl, ?_⟩
    show (bitOk d && within q 1 QMAX && within p 0 PMAX && within e (-PMAX) PMAX && within r 1 QMAX && bitOk w) = ((within d 0 1 && (within q 1 1000000000 && (within p 0 1000000 && (within e (-1000000) 1000000 && (within r 1 1000000000 && (within w 0 1 && true)))))) && true)
    rw [As, As]
    simp [QMAX, PMAX, Bool.and_assoc]
  . intro n ha
    refine ⟨rfl, ?_⟩
    show true = ((within n (-1000000000000000000) 1000000000000000000 && true) && true)
    rw [w60 ha]; rfl
  . intro d q _
    refine ⟨rfl, ?_⟩
    show (bitOk d && within q 0 TMAX) = ((within d 0 1 && (within q 0 100000000000 && true)) && true)
    rw [As]; simp [TMAX]
  . intro _; exact ⟨rfl, rfl⟩
  . intro _; exact ⟨rfl, rfl⟩
  . intro n ha
    refine ⟨rfl, ?_⟩
    show true = ((within n (-1000000000000000000) 1000000000000000000 && true) && true)
    rw [w60 ha]; rfl
  . intro d _
    refine ⟨rfl, ?_⟩
    show bitOk d = ((within d 0 1 && true) && true)
    rw [As]; simp
  . intro d xs _
    refine ⟨rfl, ?_⟩
    show (bitOk d && decide (xs.length <= MOST) && xs.all fun x => within x 0 QMAX) = ((within d 0 1 && true) && tp [((24 : Nat) : Int), 0, 1000000000] xs)
    rw [B5, As]; simp [MOST, QMAX, Bool.and_assoc]; rfl
  . intro x _
    refine ⟨rfl, ?_⟩
    show within x (-TMAX) TMAX = ((within x (-100000000000) 100000000000 && true) && true)
    simp [TMAX]
  . intro xs _
    refine ⟨rfl, ?_⟩
    show (decide (xs.length <= QUARTERS) && xs.all fun t => within t (-TMAX) TMAX) = (true && tp [((96 : Nat) : Int), -100000000000, 100000000000] xs)
    rw [B5]; simp [QUARTERS, TMAX]; rfl
  . intro n ha
    refine ⟨rfl, ?_⟩
    show true = ((within n (-1000000000000000000) 1000000000000000000 && true) && true)
    rw [w60 ha]; rfl
  . intro n q ha
    refine ⟨rfl, ?_⟩
    show within q 0 QMAX = ((within n (-1000000000000000000) 1000000000000000000 && (within q 0 1000000000 && true)) && true)
    rw [w60 (and_eq_true_iff.mp ha).1]; simp [QMAX]
  . intro k _
    refine ⟨rfl, ?_⟩
    show within k 1 1000 = ((within k 1 1000 && true) && true)
    simp
  . intro _; exact ⟨rfl, rfl⟩
  . intro _; exact ⟨rfl, rfl⟩
  . intro xs _
    refine ⟨rfl, ?_⟩
    show (decide (xs.length <= MOST) && xs.all fun y => within y (-QMAX) QMAX) = (true && tp [((24 : Nat) : Int), -1000000000, 1000000000] xs)
    rw [B5]; simp [MOST, QMAX]; rfl
  . intro k _
    refine ⟨rfl, ?_⟩
    show within k 1 QUARTERS = ((within k 1 96 && true) && true)
    simp [QUARTERS]
  . intro _; exact ⟨rfl, rfl⟩
  . intro _; exact ⟨rfl, rfl⟩
end RV
open PySem PySem.Spec PyProof.Rows
namespace L2
abbrev Key := Sum Int Str
def xT : Key -> Value -> Bool
  | .inl k, v => Value.isInt k v
  | .inr x, v => Value.isStrOf x v
def Pd (w : World) : Key -> Int
  | .inl k => hashInt k
  | .inr x => hashStr w x
theorem cn : ∀ {k : Key} {v : Value}, xT k v = true -> (∃ i t, k = Sum.inl i /\ v = Value.int i t) \/ (∃ x t, k = Sum.inr x /\ v = Value.str x t)
  | .inl i, v, h => by
    obtain ⟨t, e⟩ := Value.isInt_shape (k := i) (v := v) h
    exact .inl ⟨i, t, rfl, e⟩
  | .inr x, v, h => by
    obtain ⟨t, e⟩ := Value.isStrOf_shape (x := x) (v := v) h
    exact .inr ⟨x, t, rfl, e⟩
theorem rg (i : Int) (t : Tok) : xT (.inl i) (.int i t) = true := by simp [xT, Value.isInt]
theorem EI (x : Str) (t : Tok) : xT (.inr x) (.str x t) = true := by simp [xT, Value.isStrOf]
theorem Kd (a b : Int) : decide ((Sum.inl a : Key) = Sum.inl b) = (a == b) := by
  by_cases e : a = b
  . subst e; simp
  . have h : ¬ (Sum.inl a : Key) = Sum.inl b := fun q => e (Sum.inl.inj q)
    rw [VN h]
    exact (beq_eq_false_iff_ne.mpr e).symm
theorem Ke (a b : Str) : decide ((Sum.inr a : Key) = Sum.inr b) = decide (a = b) := by
  by_cases e : a = b
  . subst e; simp
  . have h : ¬ (Sum.inr a : Key) = Sum.inr b := fun q => e (Sum.inr.inj q)
    rw [VN h, VN e]
theorem Kg (a : Int) (b : Str) : decide ((Sum.inl a : Key) = Sum.inr b) = false := VN (fun q => nomatch q)
theorem Kh (a : Str) (b : Int) : decide ((Sum.inr a : Key) = Sum.inl b) = false := VN (fun q => nomatch q)
def bU (prog : Program) (w : World) : PySem.KeyKind prog w Key where
  is := xT
  hash := Pd w
  inj := fun v a b ha hb => by
    rcases cn ha with ⟨i, t, rfl, rfl⟩ | ⟨x, t, rfl, rfl⟩
    . rcases cn hb with ⟨j, u, rfl, e⟩ | ⟨y, u, rfl, e⟩
      . injection e with e1 _; rw [e1]
      . exact nomatch e
    . rcases cn hb with ⟨j, u, rfl, e⟩ | ⟨y, u, rfl, e⟩
      . exact nomatch e
      . injection e with e1 _; rw [e1]
  byValue := fun k v h => by
    rcases cn h with ⟨i, t, rfl, rfl⟩ | ⟨x, t, rfl, rfl⟩ <;> rfl
  pyHash := fun hv h => by
    rcases cn hv with ⟨i, t, rfl, rfl⟩ | ⟨x, t, rfl, rfl⟩
    . exact wpAny_pyHash_int h
    . exact wpAny_pyHash_str h
  eqBool := fun hu hv h => by
    rcases cn hu with ⟨i, t, rfl, rfl⟩ | ⟨x, t, rfl, rfl⟩
    . rcases cn hv with ⟨j, u, rfl, rfl⟩ | ⟨y, u, rfl, rfl⟩
      . rw [Kd] at h; exact wpAny_eqBool_int h
      . rw [Kg] at h; exact SeqAt.EqAt.int_str i t y u _ _ _ _ h
    . rcases cn hv with ⟨j, u, rfl, rfl⟩ | ⟨y, u, rfl, rfl⟩
      . rw [Kh] at h; exact SeqAt.EqAt.str_int x t j u _ _ _ _ h
      . rw [Ke] at h; exact wpAny_eqBool_str h
  «strs» := fun k x t v h => by
    rcases cn h with ⟨i, u, rfl, e⟩ | ⟨y, u, rfl, e⟩
    . exact nomatch e
    . injection e with e1 _
      subst e1
      cases v <;> rfl
theorem Au (prog : Program) (w : World) (i : Int) (t : Tok) : (bU prog w).is (.inl i) (.int i t) = true := rg i t
theorem Av (prog : Program) (w : World) (x : Str) (t : Tok) : (bU prog w).is (.inr x) (.str x t) = true := EI x t
end L2
namespace L2
inductive V where
  | non | bl (b : Bool) | int (i : Int) | str (x : Str) | Aw (b : Array UInt8) | Oj (b : UInt64) | ref (a : Addr) | ty (n : String)
  deriving DecidableEq
def RelV : V -> Value -> Prop
  | .non, u => u = Value.none
  | .bl b, u => u = Value.bool b
  | .int i, u => ∃ t, u = Value.int i t
  | .str x, u => ∃ t, u = Value.str x t
  | .Aw b, u => ∃ t, u = Value.bytes b t
  | .Oj b, u => ∃ t, u = Value.float b t
  | .ref a, u => u = Value.ref a
  | .ty n, u => u = Value.type n
abbrev Vals : List V -> List Value -> Prop := Paired RelV
theorem Vals.length (r : Vals xs us) : xs.length = us.length := Paired.length r
theorem Vals.get : ∀ {xs : List V} {us : List Value} {i : Nat} {x : V}, Vals xs us -> xs[i]? = some x -> ∃ u, us[i]? = some u /\ RelV x u
  | _, _, _, _, .nil, e => by simp at e
  | _, _, 0, _, .cons r _, e => by simp at e; subst e; exact ⟨_, rfl, r⟩
  | _, _, i + 1, x, .cons _ t, e => by
    obtain ⟨u, h1, h2⟩ := Vals.get (i := i) (x := x) t (by simpa using e)
    exact ⟨u, by simpa using h1, h2⟩
theorem Vals.set (r : RelV x u) : ∀ {xs : List V} {us : List Value} (i : Nat), Vals xs us -> Vals (xs.set i x) (us.set i u)
  | _, _, _, .nil => .nil
  | _, _, 0, .cons _ t => .cons r t
  | _, _, i + 1, .cons q t => .cons q (Vals.set r i t)
theorem Vals.append : ∀ {xs ys : List V} {us ws : List Value}, Vals xs us -> Vals ys ws -> Vals (xs ++ ys) (us ++ ws)
  | _, _, _, _, .nil, s => s
  | _, _, _, _, .cons r t, s => .cons r (Vals.append t s)
theorem Vals.take : ∀ {xs : List V} {us : List Value} (n : Nat), Vals xs us -> Vals (xs.take n) (us.take n)
  | _, _, 0, _ => .nil
  | _, _, _ + 1, .nil => .nil
  | _, _, n + 1, .cons r t => .cons r (Vals.take n t)
theorem Vals.drop : ∀ {xs : List V} {us : List Value} (n : Nat), Vals xs us -> Vals (xs.drop n) (us.drop n)
  | _, _, 0, r => r
  | _, _, _ + 1, .nil => .nil
  | _, _, n + 1, .cons _ t => Vals.drop n t
def kq : Option V -> Option Value -> Prop
  | some v, some u => RelV v u
  | none, none => True
  | _, _ => False
def KV {κ : Type} : List (κ × V) -> List (κ × Value) -> Prop := Paired fun (p : κ × V) (q : κ × Value) => p.1 = q.1 /\ RelV p.2 q.2
def kV : Key -> V
  | .inl i => .int i
  | .inr x => .str x
inductive HO where
  | lst (xs : List V)
  | tup (xs : List V)
  | dK (aQ : List (Key × V)) | dT (aQ : List (List Key × V))
  | set (S : Int -> Bool) (n : Nat)
  | ins (C dx : Addr) (fs : List (Str × V))
  | own (x : Addr)
  | xd (fs : List (Str × V))
  | met (f x : Addr)
  | rng (lo hi : Int)
  | frz (o : Obj) (u : HO)
  | tbl (ps : Array Value)
  | ext (φ : Heap -> Prop)
abbrev Hp := Addr -> Option HO
def upd (H : Hp) (a : Addr) (o : HO) : Hp := fun b => if b = a then some o else H b
theorem aA : upd H a o a = some o := by unfold upd; rw [Vj rfl]
theorem aM {a b : Addr} (h : b ≠ a) : upd H a o b = H b := by unfold upd; rw [Vh h]
theorem eE {H : Hp} {o u : HO} (h : H a = some o) (h' : H b = some u) (d : o ≠ u) : a ≠ b := by
  intro e; subst e; rw [h] at h'; exact d (Option.some.inj h')
theorem aF {H : Hp} {o : HO} (h : H a = some o) (h' : H b = none) : a ≠ b := by
  intro e; subst e; rw [h] at h'; cases h'
section
variable (P : Program) (w : World)
def cq (H : Hp) (h : Heap) (a : Addr) : HO -> Prop
  | .lst xs => xs.length <= sizeLine /\ ∃ (aK : List Value) (n : Nat), Vals xs aK /\ h.get? a = some { cls := .type "list", data := .seq aK.toArray n }
  | .tup xs => xs.length <= sizeLine /\ ∃ aK : List Value, Vals xs aK /\ IsTup h a aK.toArray
  | .dK aQ => aQ.length <= sizeLine /\ (a == sysModules) = false /\ ∃ vs, KV aQ vs /\ h.DictOf (bU P w) a vs
  | .dT aQ => aQ.length <= sizeLine /\ (a == sysModules) = false /\ ∃ xs : List (List Key × Addr × Value),
      Paired (fun (p : List Key × V) (q : List Key × Addr × Value) => p.1 = q.1 /\ H q.2.1 = some (.tup (p.1.map kV)) /\ RelV p.2 q.2.2) aQ xs /\
      ∃ o es ep, h.get? a = some o /\ o.ExactDict /\ o.data = .dict es ep /\ es.toList = xs.map (entryOfKey (tupleKind (bU P w))) /\ (xs.map (·.1)).Nodup
  | .set S n => h.SetOf (intKind P w) a S n
  | .ins C dx fs => H dx = some (.own a) /\ fs.length <= 1000 /\ dx ≠ a /\ h.get? a = some (instObj C dx) /\
      ∃ mA, h.Ns1 dx mA /\ (∀ f, kq (fs.lookup f) (mA f)) /\ PySem.Within mA (fs.map (·.1))
  | .own _ => ∃ o, h.get? a = some o
  | .xd fs => ∃ mA, h.Ns1 a mA /\ ∀ f, kq (fs.lookup f) (mA f)
  | .rng lo hi => ∃ t u v, h.get? a = some { cls := .type "range", data := .fields #[.int lo t, .int hi u, .int 1 v] }
  | .frz o u => h.get? a = some o /\ cq H h a u
  | .tbl ps => h.get? a = some { cls := .none, data := .fields ps }
  | .met f x => h.get? a = some (methodObj (.ref f) (.ref x))
  | .ext φ => φ h /\ (∃ o, h.get? a = some o) /\ ∀ h1 h2 : Heap, φ h1 -> (∀ o, h1.get? a = some o -> h2.get? a = some o) -> φ h2
def HOk (H : Hp) (h : Heap) : Prop := ∀ a o, H a = some o -> cq P w H h a o
end
section
variable {P : Program} {w : World} {H H' : Hp} {h h' : Heap} {a : Addr} {o : HO}
theorem cq.lt (x : cq P w H h a o) : a < h.objs.size := by
  cases o with
  | lst xs => obtain ⟨_, _, _, _, e⟩ := x; exact Vu e
  | tup xs => obtain ⟨_, _, _, p⟩ := x; exact p.lt
  | dK aQ => obtain ⟨_, _, _, _, o, _, _, e, _⟩ := x; exact Vu e
  | dT aQ => obtain ⟨_, _, _, _, o, _, _, e, _⟩ := x; exact Vu e
  | set S n => obtain ⟨o, _, _, _, e, _⟩ := x; exact Vu e
  | ins C dx fs => obtain ⟨_, _, _, e, _⟩ := x; exact Vu e
  | own y => obtain ⟨_, e⟩ := x; exact Vu e
  | xd fs => obtain ⟨_, ⟨_, _, _, e, _⟩, _⟩ := x; exact Vu e
  | rng lo hi => obtain ⟨_, _, _, e⟩ := x; exact Vu e
  | frz ob u => obtain ⟨e, _⟩ := x; exact Vu e
  | tbl ps => exact Vu (show h.get? a = some _ from x)
  | met f y => exact Vu (show h.get? a = some _ from x)
  | ext φ => obtain ⟨_, ⟨_, e⟩, _⟩ := x; exact Vu e
theorem Paired.uL {α β : Type} {F G : α -> β -> Prop} : ∀ {l₁ : List α} {l₂ : List β}, Paired F l₁ l₂ -> (∀ a b, F a b -> G a b) -> Paired G l₁ l₂
  | _, _, .nil, _ => .nil
  | _, _, .cons r t, f => .cons (f _ _ r) (Paired.uL t f)
theorem cq.g8 (x : cq P w H h a o) (k : ∀ b u, (b = a \/ H b = some (.own a)) -> h.get? b = some u -> h'.get? b = some u)
    (ho : ∀ b, H b = some (.own a) -> H' b = some (.own a)) (ht : ∀ b xs, H b = some (.tup xs) -> H' b = some (.tup xs)) : cq P w H' h' a o := by
  induction o with
  | lst xs => obtain ⟨z, aK, n, r, e⟩ := x; exact ⟨z, aK, n, r, k _ _ (.inl rfl) e⟩
  | tup xs => obtain ⟨z, aK, r, ob, e, c⟩ := x; exact ⟨z, aK, r, ob, k _ _ (.inl rfl) e, c⟩
  | dK aQ => obtain ⟨z, y, vs, r, ob, es, ep, e, c⟩ := x; exact ⟨z, y, vs, r, ob, es, ep, k _ _ (.inl rfl) e, c⟩
  | dT aQ =>
    obtain ⟨z, y, xs, r, ob, es, ep, e, c⟩ := x
    exact ⟨z, y, xs, Paired.uL r fun p q z => ⟨z.1, ht _ _ z.2.1, z.2.2⟩, ob, es, ep, k _ _ (.inl rfl) e, c⟩
  | set S n => obtain ⟨ob, es, ep, t, e, c⟩ := x; exact ⟨ob, es, ep, t, k _ _ (.inl rfl) e, c⟩
  | ins C dx fs =>
    obtain ⟨d, z, ne, e, mA, ⟨od, es, ep, e2, c⟩, r⟩ := x
    exact ⟨ho _ d, z, ne, k _ _ (.inl rfl) e, mA, ⟨od, es, ep, k _ _ (.inr d) e2, c⟩, r⟩
  | own y => obtain ⟨ob, e⟩ := x; exact ⟨ob, k _ _ (.inl rfl) e⟩
  | xd fs => obtain ⟨mA, ⟨od, es, ep, e, c⟩, r⟩ := x; exact ⟨mA, ⟨od, es, ep, k _ _ (.inl rfl) e, c⟩, r⟩
  | rng lo hi => obtain ⟨t, u, v, e⟩ := x; exact ⟨t, u, v, k _ _ (.inl rfl) e⟩
  | frz ob u ih => obtain ⟨e, q⟩ := x; exact ⟨k _ _ (.inl rfl) e, ih q⟩
  | tbl ps =>
    have e : h.get? a = some { cls := .none, data := .fields ps } := x
    show h'.get? a = some { cls := .none, data := .fields ps }
    exact k a _ (.inl rfl) e
  | met f y =>
    have e : h.get? a = some (methodObj (.ref f) (.ref y)) := x
    show h'.get? a = some (methodObj (.ref f) (.ref y))
    exact k a _ (.inl rfl) e
  | ext φ => obtain ⟨p, ⟨o, e⟩, st⟩ := x; exact ⟨st _ _ p fun o q => k _ _ (.inl rfl) q, ⟨o, k _ _ (.inl rfl) e⟩, st⟩
theorem HOk.lt (x : HOk P w H h) (e : H a = some o) : a < h.objs.size := (x a o e).lt
theorem HOk.fresh (x : HOk P w H h) (e : h.objs.size <= a) : H a = none := by
  cases q : H a with
  | none => rfl
  | some u => exact absurd (VI (x.lt q) e) (VO _)
theorem HOk.kept (x : HOk P w H h) (k : ∀ b u, h.get? b = some u -> h'.get? b = some u) : HOk P w H h' := fun a o e =>
  (x a o e).g8 (fun b u _ q => k b u q) (fun _ q => q) fun _ _ q => q
theorem HOk.laid (x : HOk P w H h) (k : ∀ b u, h.get? b = some u -> h'.get? b = some u) (hp : h.objs.size <= a) (new : cq P w (upd H a o) h' a o) : HOk P w (upd H a o) h' := fun b u e => by
  have hn := x.fresh hp
  by_cases hb : b = a
  . subst hb; rw [aA] at e; cases e; exact new
  . rw [aM hb] at e
    exact (x b u e).g8 (fun c v _ q => k c v q) (fun c q => by rw [aM (aF q hn)]; exact q) fun c xs q => by rw [aM (aF q hn)]; exact q
end
def Rd (H : Hp) (a : Addr) (u : HO) : Prop := H a = some u \/ ∃ o, H a = some (.frz o u)
theorem Rd.ok (r : Rd H a u) (x : HOk P w H h) : cq P w H h a u := by
  rcases r with r | ⟨o, r⟩
  . exact x a u r
  . obtain ⟨_, q⟩ := x a _ r
    exact q
def Mut : Option HO -> Prop
  | some (.lst _) => True
  | some (.dK _) => True
  | some (.dT _) => True
  | some (.set _ _) => True
  | some (.ins _ _ _) => True
  | some (.ext _) => True
  | _ => False
section
variable {P : Program} {w : World} {H : Hp} {h h' : Heap} {x e : Addr} {o' : HO}
theorem HOk.write (ok : HOk P w H h) (mu : Mut (H x)) (he : e = x \/ H e = some (.own x)) (k : ∀ b u, b ≠ e -> h.get? b = some u -> h'.get? b = some u) (Mf : ∃ u, h'.get? e = some u)
    (new : cq P w (upd H x o') h' x o') : HOk P w (upd H x o') h' := fun b u q => by
  have Mz : ∀ c y, H c = some (.own y) -> c ≠ x := fun c y r z => by subst z; rw [r] at mu; exact mu
  have Pe : ∀ c xs, H c = some (.tup xs) -> c ≠ x := fun c xs r z => by subst z; rw [r] at mu; exact mu
  by_cases hb : b = x
  . subst hb; rw [aA] at q; cases q; exact new
  . rw [aM hb] at q
    by_cases Ki : b = e
    . have q' : H b = some (.own x) := by
        rcases he with z | z
        . exact absurd (Ki.trans z) hb
        . rw [Ki]; exact z
      rw [q] at q'; cases q'
      obtain ⟨v, hv⟩ := Mf
      exact ⟨v, by rw [Ki]; exact hv⟩
    . refine (ok b u q).g8 (fun c v hc r => k c v ?_ r) (fun c r => by rw [aM (Mz c b r)]; exact r) fun c xs r => by rw [aM (Pe c xs r)]; exact r
      rcases hc with rfl | hc
      . exact Ki
      . rintro rfl
        rcases he with z | z
        . exact Mz c b hc z
        . rw [hc] at z; cases z; exact hb rfl
end
structure Un (fs ex : List Addr) (H H' : Hp) (h h' : Heap) : Prop where
  keep : ∀ b o, h.get? b = some o -> H b = none -> b ∉ fs -> b ∉ ex -> h'.get? b = some o
  slot : ∀ b o, h.get? b = some o -> H b = none -> b ∈ fs -> b ∉ ex -> ∃ sl, h'.get? b = some { o with slots := sl }
  free : ∀ b o, h.get? b = some o -> H b = none -> b ∉ ex -> H' b = none
  there : ∀ b o, h.get? b = some o -> b ∉ ex -> ∃ o', h'.get? b = some o'
  yJ : ∀ b xs, H b = some (.tup xs) -> H' b = some (.tup xs)
  wM : ∀ b o u, H b = some (.frz o u) -> H' b = some (.frz o u)
  wN : ∀ b ps, H b = some (.tbl ps) -> ∃ more, H' b = some (.tbl (ps ++ more))
section
variable {fs FU ex ex' : List Addr} {H H1 H2 : Hp} {h h1 h2 h' : Heap} {a x e : Addr} {o : HO}
theorem Un.any (u : Un fs ex H H1 h h1) {b : Addr} {ob : Obj} (q : h.get? b = some ob) (n : H b = none) (hx : b ∉ ex) : ∃ sl, h1.get? b = some { ob with slots := sl } := by
  by_cases hb : b ∈ fs
  . exact u.slot b ob q n hb hx
  . exact ⟨ob.slots, u.keep b ob q n hb hx⟩
theorem Un.kept (k : ∀ b u, h.get? b = some u -> h'.get? b = some u) : Un fs ex H H h h' :=
  ⟨fun b ob q _ _ _ => k b ob q, fun b ob q _ _ _ => ⟨ob.slots, k b ob q⟩, fun _ _ _ n _ => n, fun b ob q _ => ⟨ob, k b ob q⟩, fun _ _ q => q, fun _ _ _ q => q, fun _ ps q => ⟨#[], by rw [q]; simp⟩⟩
theorem Un.refl : Un fs ex H H h h := Un.kept fun _ _ q => q
theorem Un.laid (k : ∀ b u, h.get? b = some u -> h'.get? b = some u) (hp : h.objs.size <= a) (hn : H a = none) : Un fs ex H (upd H a o) h h' where
  keep := fun b u q _ _ _ => k b u q
  slot := fun b u q _ _ _ => ⟨u.slots, k b u q⟩
  free := fun b u q n _ => by rw [aM (Vp (VI (Vu q) hp))]; exact n
  there := fun b u q _ => ⟨u, k b u q⟩
  yJ := fun b xs q => by rw [aM (aF q hn)]; exact q
  wM := fun b u xs q => by rw [aM (aF q hn)]; exact q
  wN := fun b ps q => ⟨#[], by rw [aM (aF q hn), q]; simp⟩
theorem Un.write (mu : Mut (H x)) (he : e = x \/ H e = some (.own x)) (k : ∀ b u, b ≠ e -> h.get? b = some u -> h'.get? b = some u) (Mf : ∃ u, h'.get? e = some u) : Un fs ex H (upd H x o) h h' := by
  have hx : ∀ b, H b = none -> b ≠ x := fun b n z => by subst z; rw [n] at mu; exact mu
  have hb : ∀ b, H b = none -> b ≠ e := fun b n z => by
    subst z
    rcases he with r | r
    . exact hx b n r
    . rw [n] at r; cases r
  have hm : ∀ b u, H b = some u -> ¬ Mut (some u) -> b ≠ x := fun b u q nm z => by subst z; rw [q] at mu; exact nm mu
  refine ⟨fun b u q n _ _ => k b u (hb b n) q, fun b u q n _ _ => ⟨u.slots, k b u (hb b n) q⟩, fun b u q n _ => by rw [aM (hx b n)]; exact n, fun b u q _ => ?_,
    fun b xs q => by rw [aM (hm b _ q fun z => z)]; exact q, fun b u xs q => by rw [aM (hm b _ q fun z => z)]; exact q, fun b ps q => ⟨#[], by rw [aM (hm b _ q fun z => z), q]; simp⟩⟩
  by_cases Ki : b = e
  . subst Ki; exact Mf
  . exact ⟨u, k b u Ki q⟩
end
def trk (h : Heap) (H : Hp) : List Addr := (range h.objs.size).filter fun a => (H a).isSome
def yK (h : Heap) (H : Hp) : Heap := PySem.W.hideAll h (trk h H)
theorem EJ (h : Heap) (H : Hp) : (yK h H).objs.size = h.objs.size := PySem.W.hideAll_size _ _
theorem FV {h : Heap} {H : Hp} {b : Addr} {o : Obj} (e : h.get? b = some o) (n : H b = none) : (yK h H).get? b = some o :=
  PySem.W.hideAll_get _ e fun hm => by
    have q : (H b).isSome = true := (mem_filter.mp hm).2
    rw [n] at q; simp at q
theorem HS {b : Addr} {o : Obj} (e : (yK h H).get? b = some o) : h.get? b = some o /\ H b = none := by
  have e' : h.get? b = some o := PySem.W.of_hideAll (trk h H) e
  refine ⟨e', ?_⟩
  cases q : H b with
  | none => rfl
  | some x =>
    have hm : b ∈ trk h H := mem_filter.mpr ⟨mem_range.mpr (Vu e'), by simp [q]⟩
    have z : (yK h H).get? b = none := PySem.W.hideAll_none (trk h H) hm
    rw [z] at e; cases e
end L2
namespace L2
structure Mod (K : FG) (mg : SV) (base : Heap) : Prop where
  kin : K.In base
  glob : base.Ns mainGlobals mg
  blt : ∃ mb, base.Ns builtinsNs mb /\ ∀ x : Str, x ≠ "__name__" -> mb x = bootBuiltins x
  nolimit : base.NoLimit
structure Cx where
  prog : Program
  w : World
  K : FG
  mg : SV
  base : Heap
  A : Around
  N : List Str
  s_0 : Shared
  H_0 : Hp
  env : Env
  outer : List Env
  stack : List Env
  ex : List Addr
  fn : Str -> Bool
  calm : Bool
  pn : List (Addr × Obj)
  xe : Value -> Shared -> Prop
def frs (l : List Env) : List Addr := l.filterMap (·.frame)
abbrev Cx.fs (X : Cx) : List Addr := frs X.outer
def Vis (sc : Scope) (x : Str) : Prop := sc.names.lookup x = some .local \/ sc.names.lookup x = some .cell \/ sc.names.lookup x = some .free
def Loc (sc : Scope) (x : Str) : Prop := sc.names.lookup x = some .local \/ sc.names.lookup x = some .cell
def Look (env : Env) (h : Heap) (m : SV) (x : Str) (u : Value) : Prop :=
  (env.kindOf x = some .local /\ m x = some u) \/ ((env.kindOf x = some .cell \/ env.kindOf x = some .free) /\ ∃ c, env.cells.lookup x = some c /\ h.IsCell c (some u))
structure Cx.Ok (X : Cx) : Prop where
  mod : Mod X.K X.mg X.base
  kind : X.env.scope.kind = .function
  glob : X.env.globals = mainGlobals
  blt : X.env.builtins = builtinsNs
  above : X.s_0.heap.objs.size <= X.env.locals
  inj : ∀ x y c, X.env.cells.lookup x = some c -> X.env.cells.lookup y = some c -> x = y
  has : ∀ x, (X.env.kindOf x = some .cell \/ X.env.kindOf x = some .free) -> ∃ c, X.env.cells.lookup x = some c
  cab : ∀ x c, X.fn x = true -> X.env.cells.lookup x = some c -> X.s_0.heap.objs.size <= c
  hd : X.calm = true -> X.A.handled = none
  frames : X.A.frames = some X.stack
  stk : X.stack = X.outer \/ (X.stack = X.env :: X.outer /\ X.env.frame = some X.env.locals)
  exf : ∀ b ∈ X.ex, b ≠ X.env.locals /\ ∀ x c, X.env.cells.lookup x = some c -> c ≠ b
  bs : ∀ b o, X.base.get? b = some o -> X.s_0.heap.get? b = some o /\ X.H_0 b = none
  bsz : X.base.objs.size <= X.s_0.heap.objs.size
  FW : ∀ b o, X.base.get? b = some o -> b ∉ X.ex
  FX : ∀ b ∈ X.ex, b ∉ X.fs
  rh : X.s_0.heap.FunFrames X.base X.outer
  frf : ∀ b ∈ X.fs, X.H_0 b = none
structure Inv (X : Cx) (pins : List (Addr × Obj)) (σ : List (Option V)) (H : Hp) (s : Shared) : Prop where
  ok : X.Ok
  os : s.os = X.s_0.os
  bare : AllBare s.gens
  base : Un X.fs X.ex X.H_0 H X.s_0.heap s.heap
  loc : ∃ m, s.heap.Ns X.env.locals m /\ ∀ (i : Nat) (x : Str) (v : V), X.N[i]? = some x -> σ[i]? = some (some v) -> Vis X.env.scope x -> ∃ u, RelV v u /\ Look X.env s.heap m x u
  cell : ∀ x c, X.env.cells.lookup x = some c -> ∃ v, s.heap.IsCell c v
  free : H X.env.locals = none
  jN : ∀ x c, X.env.cells.lookup x = some c -> H c = none
  pin : ∀ p ∈ X.pn ++ pins, s.heap.get? p.1 = some p.2 /\ H p.1 = none /\ p.1 ≠ X.env.locals /\ p.1 ∉ X.fs /\ ∀ v, p.2.data ≠ .cell v
  hok : HOk X.prog X.w H s.heap
  len : σ.length = X.N.length
section
variable {X : Cx} {pins : List (Addr × Obj)} {σ : List (Option V)} {H H' : Hp} {s : Shared} {h' : Heap}
theorem Cx.Ok.Pf (ok : X.Ok) {b : Addr} {o : Obj} (e : X.base.get? b = some o) : b ∉ X.fs := fun hb => by
  have := (ok.rh.mem hb).1
  rw [e] at this; cases this
theorem Inv.bs (I : Inv X pins σ H s) : ∀ b o, X.base.get? b = some o -> s.heap.get? b = some o /\ H b = none := fun b o e =>
  ⟨I.base.keep b o (I.ok.bs b o e).1 (I.ok.bs b o e).2 (I.ok.Pf e) (I.ok.FW b o e), I.base.free b o (I.ok.bs b o e).1 (I.ok.bs b o e).2 (I.ok.FW b o e)⟩
theorem Inv.bk (I : Inv X pins σ H s) : ∀ b o, X.base.get? b = some o -> s.heap.get? b = some o := fun b o e => (I.bs b o e).1
theorem Inv.mod (I : Inv X pins σ H s) : Mod X.K X.mg X.base := I.ok.mod
theorem Inv.kIn (I : Inv X pins σ H s) : X.K.In s.heap := I.ok.mod.kin.keeps I.bk
theorem Inv.nolimit (I : Inv X pins σ H s) : s.heap.NoLimit := I.ok.mod.nolimit.keeps I.bk
theorem Inv.fr (I : Inv X pins σ H s) : ∃ m, Fr X.base X.env.locals s.heap m :=
  let ⟨m, hn, _⟩ := I.loc
  ⟨m, hn, I.bk, VH I.ok.bsz I.ok.above⟩
theorem Inv.lt (I : Inv X pins σ H s) : X.env.locals < s.heap.objs.size := let ⟨_, hn, _⟩ := I.loc; hn.lt
theorem Inv.sz (I : Inv X pins σ H s) : X.s_0.heap.objs.size <= s.heap.objs.size := VH I.ok.above (le_of_lt I.lt)
theorem Inv.MA (I : Inv X pins σ H s) {a : Addr} (h : s.heap.objs.size <= a) : a ∉ X.fs := fun hb => by
  obtain ⟨_, o, ho, _⟩ := I.ok.rh.mem hb
  exact absurd (VI (Vu ho) (VH I.sz h)) (VO _)
theorem Inv.cne (I : Inv X pins σ H s) : ∀ x c, X.env.cells.lookup x = some c -> c ≠ X.env.locals := fun x c e z => by
  obtain ⟨v, o, ho, hd⟩ := I.cell x c e
  obtain ⟨m, ⟨o', es, ep, wO, Pg, _⟩, _⟩ := I.loc
  rw [z, wO] at ho; cases ho; rw [Pg] at hd; cases hd
theorem Inv.rh (I : Inv X pins σ H s) : s.heap.FunFrames X.base X.outer := by
  have all : ∀ (l : List Env), (∀ b ∈ frs l, b ∈ X.fs) -> X.s_0.heap.FunFrames X.base l -> s.heap.FunFrames X.base l := by
    intro l
    induction l with
    | nil => intro _ _; trivial
    | cons env r ih =>
      intro hs hl
      obtain ⟨hk, ⟨L, o, hf, hn, ho, hd⟩, hr⟩ := hl
      have hL : L ∈ X.fs := hs L (by unfold frs; rw [List.filterMap_cons, hf]; exact Vv)
      obtain ⟨sl, e⟩ := I.base.slot L o ho (I.ok.frf L hL) hL fun z => I.ok.FX L z hL
      exact ⟨hk, ⟨L, _, hf, hn, e, hd⟩, ih (fun b hb => hs b (by unfold frs; rw [List.filterMap_cons, hf]; exact Vs _ hb)) hr⟩
  exact all X.outer (fun _ hb => hb) I.ok.rh
theorem Inv.stack (I : Inv X pins σ H s) : s.heap.FunFrames X.base X.stack := by
  rcases I.ok.stk with e | ⟨e, hf⟩
  . rw [e]; exact I.rh
  . rw [e]
    obtain ⟨m, hn, _⟩ := I.loc
    refine .cons (by rw [I.ok.kind]; decide) hf hn ?_ I.rh
    exact Heap.get?_none_of_le (VH I.ok.bsz I.ok.above)
theorem Inv.B6 (I : Inv X pins σ H s) : ∀ b ∈ frs X.stack, b ∈ X.env.locals :: X.fs := fun b hb => by
  rcases I.ok.stk with e | ⟨e, hf⟩
  . rw [e] at hb; exact Vs _ hb
  . rw [e] at hb
    unfold frs at hb
    rw [List.filterMap_cons, hf] at hb
    exact hb
theorem Inv.DW (I : Inv X pins σ H s) : ∀ b ∈ frs X.stack, H b = none := fun b hb => by
  rcases mem_cons.mp (I.B6 b hb) with e | hb
  . rw [e]; exact I.free
  . obtain ⟨_, o, ho, _⟩ := I.ok.rh.mem hb
    exact I.base.free b o ho (I.ok.frf b hb) fun z => I.ok.FX b z hb
theorem Inv.step {g' : Array GenState} {t' : Nat} {d' : Drawn} {ch : List Addr} (I : Inv X pins σ H s)
    (Fu : ∀ b ∈ ch, (b ∈ X.ex \/ X.s_0.heap.objs.size <= b) /\ b ≠ X.env.locals /\ (∀ x c, X.env.cells.lookup x = some c -> c ≠ b) /\ ∀ p ∈ X.pn ++ pins, p.1 ≠ b)
    (keep : ∀ b o, b ≠ X.env.locals -> b ∉ X.fs -> b ∉ ch -> s.heap.get? b = some o -> H b = none -> h'.get? b = some o)
    (slot : ∀ b o, b ≠ X.env.locals -> b ∈ X.fs -> b ∉ ch -> s.heap.get? b = some o -> H b = none -> ∃ sl, h'.get? b = some { o with slots := sl }) (free : ∀ b o, b ∉ ch -> s.heap.get? b = some o -> H b = none -> H' b = none)
    (there : ∀ b o, b ∉ ch -> s.heap.get? b = some o -> ∃ o', h'.get? b = some o')
    (yJ : ∀ b xs, H b = some (.tup xs) -> H' b = some (.tup xs)) (wM : ∀ b o u, H b = some (.frz o u) -> H' b = some (.frz o u)) (wN : ∀ b ps, H b = some (.tbl ps) -> ∃ more, H' b = some (.tbl (ps ++ more)))
    (ns : ∀ m, s.heap.Ns X.env.locals m -> h'.Ns X.env.locals m) (hok : HOk X.prog X.w H' h') (hg : AllBare g') :
    Inv X pins σ H' { s with heap := h', gens := g', drawn := d', toks := t' } := by
  have Rv : ∀ b o, X.s_0.heap.get? b = some o -> b ≠ X.env.locals := fun b o e => Vp (VI (Vu e) I.ok.above)
  have Ol : ∀ b o, X.s_0.heap.get? b = some o -> b ∉ X.ex -> b ∉ ch := fun b o e hx hb => by
    rcases (Fu b hb).1 with z | z
    . exact hx z
    . exact absurd (VI (Vu e) z) (VO _)
  have cellK : ∀ x c, X.env.cells.lookup x = some c -> ∀ v, s.heap.IsCell c v -> h'.IsCell c v := fun x c e v ⟨o, ho, hd⟩ => by
    have MB : c ∉ ch := fun z => (Fu c z).2.2.1 x c e rfl
    by_cases hc : c ∈ X.fs
    . obtain ⟨sl, q⟩ := slot c o (I.cne x c e) hc MB ho (I.jN x c e)
      exact ⟨_, q, hd⟩
    . exact ⟨o, keep c o (I.cne x c e) hc MB ho (I.jN x c e), hd⟩
  refine ⟨I.ok, I.os, hg, ⟨fun b o e n hb hx => ?_, fun b o e n hb hx => ?_, fun b o e n hx => ?_, fun b o e hx => ?_, fun b xs e => yJ b xs (I.base.yJ b xs e), fun b o xs e => wM b o xs (I.base.wM b o xs e), fun b ps e => ?_⟩, ?_, fun x c e => ?_, ?_, fun x c e => ?_, fun p hp => ?_, hok, I.len⟩
  . exact keep b o (Rv b o e) hb (Ol b o e hx) (I.base.keep b o e n hb hx) (I.base.free b o e n hx)
  . obtain ⟨sl, e1⟩ := I.base.slot b o e n hb hx
    obtain ⟨SU, e2⟩ := slot b _ (Rv b o e) hb (Ol b o e hx) e1 (I.base.free b o e n hx)
    exact ⟨SU, e2⟩
  . obtain ⟨o', e1⟩ := I.base.there b o e hx
    exact free b o' (Ol b o e hx) e1 (I.base.free b o e n hx)
  . obtain ⟨o', e1⟩ := I.base.there b o e hx
    exact there b o' (Ol b o e hx) e1
  . obtain ⟨m1, e1⟩ := I.base.wN b ps e
    obtain ⟨m2, e2⟩ := wN b _ e1
    exact ⟨m1 ++ m2, by rw [e2, Array.append_assoc]⟩
  . obtain ⟨m, hn, hl⟩ := I.loc
    refine ⟨m, ns m hn, fun i x v e1 e2 e3 => ?_⟩
    obtain ⟨u, r, l⟩ := hl i x v e1 e2 e3
    refine ⟨u, r, ?_⟩
    rcases l with l | ⟨k, c, e, z⟩
    . exact .inl l
    . exact .inr ⟨k, c, e, cellK x c e _ z⟩
  . obtain ⟨v, z⟩ := I.cell x c e
    exact ⟨v, cellK x c e v z⟩
  . obtain ⟨m, ⟨o, _, _, ho, _⟩, _⟩ := I.loc
    exact free _ o (fun z => (Fu _ z).2.1 rfl) ho I.free
  . obtain ⟨v, o, ho, hd⟩ := I.cell x c e
    exact free c o (fun z => (Fu c z).2.2.1 x c e rfl) ho (I.jN x c e)
  . obtain ⟨e, n, ne, nf, d⟩ := I.pin p hp
    have MB : p.1 ∉ ch := fun z => (Fu p.1 z).2.2.2 p hp rfl
    exact ⟨keep p.1 p.2 ne nf MB e n, free p.1 p.2 MB e n, ne, nf, d⟩
theorem Inv.un {t' : Nat} (I : Inv X pins σ H s) (u : Un X.fs [] H H' s.heap h') (hok : HOk X.prog X.w H' h') : Inv X pins σ H' { s with heap := h', toks := t' } := by
  obtain ⟨m, ⟨o, es, ep, ho, r⟩, _⟩ := id I.loc
  obtain ⟨sl, hL⟩ := u.any ho I.free (by simp)
  exact I.step (g' := s.gens) (d' := s.drawn) (ch := []) (fun _ z => nomatch z) (fun b o _ hb _ e n => u.keep b o e n hb (by simp)) (fun b o _ hb _ e n => u.slot b o e n hb (by simp)) (fun b o _ e n => u.free b o e n (by simp)) (fun b o _ e => u.there b o e (by simp)) u.yJ u.wM u.wN (fun m' hm => by
    obtain ⟨o', Ph, Pj, wO, r'⟩ := hm
    rw [ho] at wO; cases wO
    exact ⟨_, Ph, Pj, hL, r'⟩) hok I.bare
theorem Inv.call {g' : Array GenState} {t' : Nat} {d' : Drawn} (I : Inv X pins σ H s) (u : Un (frs X.stack) ch H H' s.heap h') (hok : HOk X.prog X.w H' h') (hg : AllBare g')
    (Fu : ∀ b ∈ ch, (b ∈ X.ex \/ X.s_0.heap.objs.size <= b) /\ b ≠ X.env.locals /\ (∀ x c, X.env.cells.lookup x = some c -> c ≠ b) /\ ∀ p ∈ X.pn ++ pins, p.1 ≠ b) :
    Inv X pins σ H' { s with heap := h', gens := g', drawn := d', toks := t' } := by
  obtain ⟨m, ⟨o, es, ep, ho, r⟩, _⟩ := id I.loc
  obtain ⟨sl, hL⟩ := u.any ho I.free fun z => (Fu _ z).2.1 rfl
  exact I.step (ch := ch) Fu (fun b o hL hb hc e n => u.keep b o e n (fun z => (mem_cons.mp (I.B6 b z)).elim hL hb) hc) (fun b o _ _ hc e n => u.any e n hc) (fun b o hc e n => u.free b o e n hc) (fun b o hc e => u.there b o e hc) u.yJ u.wM u.wN (fun m' hm => by
    obtain ⟨o', Ph, Pj, wO, r'⟩ := hm
    rw [ho] at wO; cases wO
    exact ⟨_, Ph, Pj, hL, r'⟩) hok hg
theorem Inv.turned {t' : Nat} {it : Addr} (I : Inv X pins σ H s) (k : ∀ b o, b ≠ it -> s.heap.get? b = some o -> h'.get? b = some o) (hn : H it = none) (hL : it ≠ X.env.locals)
    (h1 : it ∈ X.ex \/ X.s_0.heap.objs.size <= it) (h2 : ∀ x c, X.env.cells.lookup x = some c -> c ≠ it) (h3 : ∀ p ∈ X.pn ++ pins, p.1 ≠ it) : Inv X pins σ H { s with heap := h', toks := t' } := by
  have JC : ∀ b u, H b = some u -> b ≠ it := fun b u e z => by rw [z, hn] at e; cases e
  refine I.step (g' := s.gens) (d' := s.drawn) (ch := [it]) (fun b hb => ?_) (fun b o _ _ hc e _ => k b o (fun z => hc (by simp [z])) e) (fun b o _ _ hc e _ => ⟨o.slots, k b o (fun z => hc (by simp [z])) e⟩) (fun _ _ _ _ n => n)
    (fun b o hc e => ⟨o, k b o (fun z => hc (by simp [z])) e⟩) (fun _ _ e => e) (fun _ _ _ e => e) (fun b ps e => ⟨#[], by rw [e]; simp⟩) (fun m hm => ?_) (fun b u e => ?_) I.bare
  . have e : b = it := by simpa using hb
    subst e
    exact ⟨h1, hL, h2, h3⟩
  . obtain ⟨o, es, ep, ho, r⟩ := hm
    exact ⟨o, es, ep, k _ o (Ne.symm hL) ho, r⟩
  . refine (I.hok b u e).g8 (fun c v hc q => k c v ?_ q) (fun _ q => q) fun _ _ q => q
    rcases hc with z | z
    . rw [z]; exact JC b u e
    . exact JC c _ z
theorem Inv.tok (I : Inv X pins σ H s) (t : Nat) : Inv X pins σ H { s with toks := t } := I.un (h' := s.heap) (t' := t) Un.refl I.hok
theorem Inv.kept {t' : Nat} (I : Inv X pins σ H s) (k : ∀ b u, s.heap.get? b = some u -> h'.get? b = some u) : Inv X pins σ H { s with heap := h', toks := t' } := I.un (Un.kept k) (I.hok.kept k)
theorem Inv.laid {a : Addr} {t' : Nat} (I : Inv X pins σ H s) (k : ∀ b u, s.heap.get? b = some u -> h'.get? b = some u) (hp : s.heap.objs.size <= a) (new : cq X.prog X.w (upd H a o) h' a o) :
    Inv X pins σ (upd H a o) { s with heap := h', toks := t' } := I.un (Un.laid k hp (I.hok.fresh hp)) (I.hok.laid k hp new)
theorem Inv.write {e : Addr} {t' : Nat} (I : Inv X pins σ H s) (mu : Mut (H x)) (he : e = x \/ H e = some (.own x)) (k : ∀ b u, b ≠ e -> s.heap.get? b = some u -> h'.get? b = some u) (Mf : ∃ u, h'.get? e = some u)
    (new : cq X.prog X.w (upd H x o) h' x o) : Inv X pins σ (upd H x o) { s with heap := h', toks := t' } := I.un (Un.write mu he k Mf) (I.hok.write mu he k Mf new)
theorem Inv.weak {σ' : List (Option V)} (I : Inv X pins σ H s) (hl : σ'.length = σ.length) (w : ∀ (i : Nat) v, σ'[i]? = some (some v) -> σ[i]? = some (some v)) : Inv X pins σ' H s :=
  ⟨I.ok, I.os, I.bare, I.base, let ⟨m, hn, MC⟩ := I.loc; ⟨m, hn, fun i x v e1 e2 e3 => MC i x v e1 (w i v e2) e3⟩, I.cell, I.free, I.jN, I.pin, I.hok, hl.trans I.len⟩
theorem Inv.qd {xU : List (Addr × Obj)} (I : Inv X pins σ H s) (h : ∀ p ∈ xU, s.heap.get? p.1 = some p.2 /\ H p.1 = none /\ p.1 ≠ X.env.locals /\ p.1 ∉ X.fs /\ ∀ v, p.2.data ≠ .cell v) : Inv X xU σ H s :=
  ⟨I.ok, I.os, I.bare, I.base, I.loc, I.cell, I.free, I.jN, fun p hp => (mem_append.mp hp).elim (fun z => I.pin p (Wd _ z)) (h p), I.hok, I.len⟩
theorem uM {N : List Str} (hN : N.Nodup) {i j : Nat} {x : Str} (a : N[i]? = some x) (b : N[j]? = some x) : i = j := by
  obtain ⟨h1, e1⟩ := List.getElem?_eq_some_iff.mp a
  obtain ⟨h2, e2⟩ := List.getElem?_eq_some_iff.mp b
  exact (List.getElem_inj hN).mp (e1.trans e2.symm)
theorem xV {M : Model} {i : Nat} {x : Str} {Q : Unit -> Shared -> Prop} (I : Inv X pins σ H s) (hN : X.N.Nodup) (hi : X.N[i]? = some x) (hx : Loc X.env.scope x) (r : RelV v u)
    (h : ∀ s', Inv X pins (σ.set i (some v)) H s' -> (∃ a, Heap.SameBut a s.heap s'.heap /\ (a = X.env.locals \/ X.env.cells.lookup x = some a)) -> Q () s') (hf : X.fn x = true \/ X.env.scope.names.lookup x = some .local := by first | exact .inl rfl | exact .inr rfl | assumption) : wpAny M A (storeName X.env x u) Q E s := by
  obtain ⟨m, hn, hl⟩ := id I.loc
  have Pk : (X.env.scope.kind == .class || (X.env.scope.kind == .module && X.env.locals != X.env.globals)) = false := by rw [I.ok.kind]; rfl
  have hiσ : i < σ.length := by rw [I.len]; exact (List.getElem?_eq_some_iff.mp hi).1
  have cne := I.cne
  have tracked : ∀ {a : Addr} {h' : Heap}, (∃ o, s.heap.get? a = some o /\ H a = none) -> Heap.SameBut a s.heap h' -> HOk X.prog X.w H h' := fun {a h'} ha hs b ob e => by
    obtain ⟨_, _, sM⟩ := ha
    refine (I.hok b ob e).g8 (fun c w' hc q => (hs.2 c ?_).trans q) (fun _ q => q) fun _ _ q => q
    rintro rfl
    rcases hc with rfl | hc
    . rw [sM] at e; cases e
    . rw [sM] at hc; cases hc
  rcases hx with hk | hk
  . refine wpAny_storeName_local hk hn (fun h' HU hs => ?_) Pk
    obtain ⟨oL, _, _, Pl, _⟩ := id hn
    refine h _ ⟨I.ok, I.os, I.bare, ⟨fun b o e n hb hx => ?_, fun b o e n hb hx => ?_, I.base.free, fun b o e hx => ?_, I.base.yJ, I.base.wM, I.base.wN⟩, ⟨_, HU, fun j y v' e1 e2 e3 => ?_⟩, fun y c e => ?_, I.free, I.jN, fun p hp => ?_, tracked ⟨oL, Pl, I.free⟩ hs, by simpa using I.len⟩ ⟨_, hs, .inl rfl⟩
    . exact (hs.2 b (Vp (VI (Vu e) I.ok.above))).trans (I.base.keep b o e n hb hx)
    . obtain ⟨sl, e1⟩ := I.base.slot b o e n hb hx
      exact ⟨sl, (hs.2 b (Vp (VI (Vu e) I.ok.above))).trans e1⟩
    . obtain ⟨o', e1⟩ := I.base.there b o e hx
      exact ⟨o', (hs.2 b (Vp (VI (Vu e) I.ok.above))).trans e1⟩
    . by_cases hj : j = i
      . subst hj
        rw [hi] at e1; cases e1
        rw [Wh hiσ] at e2
        cases e2
        exact ⟨u, r, .inl ⟨hk, by simp⟩⟩
      . rw [We (Ne.symm hj)] at e2
        obtain ⟨u', r', q⟩ := hl j y v' e1 e2 e3
        refine ⟨u', r', ?_⟩
        rcases q with ⟨k, e⟩ | ⟨k, c, e, z⟩
        . refine .inl ⟨k, ?_⟩
          have : y ≠ x := fun e => hj (uM hN e1 (e ▸ hi))
          simp [this, e]
        . exact .inr ⟨k, c, e, z.sameBut hs (cne y c e)⟩
    . obtain ⟨w', z⟩ := I.cell y c e
      exact ⟨w', z.sameBut hs (cne y c e)⟩
    . obtain ⟨e, n, ne, nf, d⟩ := I.pin p hp
      exact ⟨(hs.2 p.1 ne).trans e, n, ne, nf, d⟩
  . have Pn : X.fn x = true := by
      rcases hf with z | z
      . exact z
      . rw [z] at hk; cases hk
    obtain ⟨c, hc⟩ := I.ok.has x (.inl hk)
    obtain ⟨w', z⟩ := I.cell x c hc
    refine wpAny_storeName_cell I.ok.kind hk hc z (fun h' B7 hs => ?_)
    obtain ⟨oc, Om, Po⟩ := id z
    refine h { s with heap := h' } ⟨I.ok, I.os, I.bare, ⟨fun b o e n hb hx => ?_, fun b o e n hb hx => ?_, I.base.free, fun b o e hx => ?_, I.base.yJ, I.base.wM, I.base.wN⟩, ⟨m, hn.sameBut hs (Ne.symm (cne x c hc)), fun j y v' e1 e2 e3 => ?_⟩, fun y c' e => ?_, I.free, I.jN, fun p hp => ?_, tracked ⟨oc, Om, I.jN x c hc⟩ hs, by simpa using I.len⟩ ⟨c, hs, .inr hc⟩
    . exact (hs.2 b (Vp (VI (Vu e) (I.ok.cab x c Pn hc)))).trans (I.base.keep b o e n hb hx)
    . obtain ⟨sl, e1⟩ := I.base.slot b o e n hb hx
      exact ⟨sl, (hs.2 b (Vp (VI (Vu e) (I.ok.cab x c Pn hc)))).trans e1⟩
    . obtain ⟨o', e1⟩ := I.base.there b o e hx
      exact ⟨o', (hs.2 b (Vp (VI (Vu e) (I.ok.cab x c Pn hc)))).trans e1⟩
    . by_cases hj : j = i
      . subst hj
        rw [hi] at e1; cases e1
        rw [Wh hiσ] at e2
        cases e2
        exact ⟨u, r, .inr ⟨.inl hk, c, hc, B7⟩⟩
      . rw [We (Ne.symm hj)] at e2
        obtain ⟨u', r', q⟩ := hl j y v' e1 e2 e3
        refine ⟨u', r', ?_⟩
        rcases q with q | ⟨k, c', e, z'⟩
        . exact .inl q
        . refine .inr ⟨k, c', e, z'.sameBut hs ?_⟩
          rintro rfl
          exact hj (uM hN e1 (I.ok.inj _ _ _ e hc ▸ hi))
    . by_cases Oo : c' = c
      . subst Oo; exact ⟨_, B7⟩
      . obtain ⟨w2, z2⟩ := I.cell y c' e
        exact ⟨w2, z2.sameBut hs Oo⟩
    . obtain ⟨e, n, ne, nf, d⟩ := I.pin p hp
      refine ⟨(hs.2 p.1 ?_).trans e, n, ne, nf, d⟩
      intro q
      rw [q, Om] at e
      have q' : oc = p.2 := Option.some.inj e
      exact d w' (by rw [<- q']; exact Po)
theorem uN {M : Model} {i : Nat} {x : Str} {Q : Unit -> Shared -> Prop} (I : Inv X pins σ H s) (hN : X.N.Nodup) (hi : X.N[i]? = some x) (hx : Loc X.env.scope x) (r : RelV v u)
    (h : ∀ s', Inv X pins (σ.set i (some v)) H s' -> Q () s') (hf : X.fn x = true \/ X.env.scope.names.lookup x = some .local := by first | exact .inl rfl | exact .inr rfl | assumption) : wpAny M A (storeName X.env x u) Q E s :=
  xV I hN hi hx r (fun s' I' _ => h s' I') hf
theorem Inv.MD {s' : Shared} (I : Inv X pins σ H s) (ho : s'.os = s.os) (u : Un (frs X.stack) ch H H' s.heap s'.heap) (hok : HOk X.prog X.w H' s'.heap) (hg : AllBare s'.gens)
    (Fu : ∀ b ∈ ch, (b ∈ X.ex \/ X.s_0.heap.objs.size <= b) /\ b ≠ X.env.locals /\ (∀ x c, X.env.cells.lookup x = some c -> c ≠ b) /\ ∀ p ∈ X.pn ++ pins, p.1 ≠ b) : Inv X pins σ H' s' := by
  obtain ⟨h', g', d', t', o'⟩ := s'
  have e : o' = s.os := ho
  subst e
  exact I.call (g' := g') (t' := t') (d' := d') u hok hg Fu
end
abbrev XK := Value -> Option Addr -> Hp -> Prop
abbrev St := List (Option V)
abbrev VK := V -> Hp -> Prop
abbrev TE := St -> Hp -> VK -> Prop
abbrev TT := St -> Hp -> (Bool -> Hp -> Prop) -> Prop
abbrev TA := St -> Hp -> (List V -> Hp -> Prop) -> Prop
structure Ends where
  nx : St -> Hp -> Prop
  rt : VK
  bk : St -> Hp -> Prop := fun _ _ => False
  ct : St -> Hp -> Prop := fun _ _ => False
abbrev TS := Ends -> St -> Hp -> Prop
def EP (X : Cx) (pins : List (Addr × Obj)) (σ : St) (Q : VK) (u : Value) (s' : Shared) : Prop := ∃ v H', Inv X pins σ H' s' /\ RelV v u /\ Q v H'
def TP (X : Cx) (pins : List (Addr × Obj)) (σ : St) (Q : Bool -> Hp -> Prop) (b : Bool) (s' : Shared) : Prop := ∃ H', Inv X pins σ H' s' /\ Q b H'
def AP (X : Cx) (pins : List (Addr × Obj)) (σ : St) (Q : List V -> Hp -> Prop) (us : List Value) (s' : Shared) : Prop := ∃ vs H', Inv X pins σ H' s' /\ Vals vs us /\ Q vs H'
def SP (X : Cx) (pins : List (Addr × Obj)) (D : Ends) (f : Flow) (s' : Shared) : Prop :=
  match f with
  | .next => ∃ σ' H', Inv X pins σ' H' s' /\ D.nx σ' H'
  | .brk => ∃ σ' H', Inv X pins σ' H' s' /\ D.bk σ' H'
  | .cont => ∃ σ' H', Inv X pins σ' H' s' /\ D.ct σ' H'
  | .ret u => ∃ v σ' H', Inv X pins σ' H' s' /\ RelV v u /\ D.rt v H'
def PE (X : Cx) (e : Expr) (t : TE) : Prop :=
  ∀ (pins : List (Addr × Obj)) (s : Shared) (σ : St) (H : Hp) (Q : VK), Inv X pins σ H s -> t σ H Q -> wpAny (model X.prog X.w) X.A (eval e X.env) (EP X pins σ Q) X.xe s
def PT (X : Cx) (e : Expr) (t : TT) : Prop :=
  ∀ (pins : List (Addr × Obj)) (s : Shared) (σ : St) (H : Hp) (Q : Bool -> Hp -> Prop), Inv X pins σ H s -> t σ H Q -> wpAny (model X.prog X.w) X.A (isTrue e X.env (eval e X.env)) (TP X pins σ Q) X.xe s
def PW (X : Cx) (e : Expr) (t : TT) : Prop :=
  ∀ (whole : Sem Value) (pins : List (Addr × Obj)) (s : Shared) (σ : St) (H : Hp) (Q : Bool -> Hp -> Prop), Inv X pins σ H s -> t σ H Q -> wpAny (model X.prog X.w) X.A (isTrue e X.env whole) (TP X pins σ Q) X.xe s
theorem PW.pt (h : PW X e t) : PT X e t := h _
def PA (X : Cx) (es : List Expr) (t : TA) : Prop :=
  ∀ (pos : Pos) (pins : List (Addr × Obj)) (s : Shared) (σ : St) (H : Hp) (Q : List V -> Hp -> Prop), Inv X pins σ H s -> t σ H Q -> wpAny (model X.prog X.w) X.A (spliced (backTo pos (starEach es X.env))) (AP X pins σ Q) X.xe s
def PS (X : Cx) (st : Stmt) (t : TS) : Prop :=
  ∀ (pins : List (Addr × Obj)) (s : Shared) (σ : St) (H : Hp) (D : Ends), Inv X pins σ H s -> t D σ H -> wpAny (model X.prog X.w) X.A (exec st X.env) (SP X pins D) X.xe s
def PSs (X : Cx) (st : List Stmt) (t : TS) : Prop :=
  ∀ (pins : List (Addr × Obj)) (s : Shared) (σ : St) (H : Hp) (D : Ends), Inv X pins σ H s -> t D σ H -> wpAny (model X.prog X.w) X.A (execs st X.env) (SP X pins D) X.xe s
theorem thn {α : Type} {t : Sem α} {Q Q' : α -> Shared -> Prop} {M : Model} (h : wpAny M A t Q E s) (hQ : ∀ a s, Q a s -> Q' a s) : wpAny M A t Q' E s := VP h hQ fun _ _ x => x
end L2
namespace L2
section
variable {X : Cx}
theorem bin (ha : PE X a ta) (hb : PE X b tb) {H : Hp} {R : V -> V -> Hp -> Prop} (I : Inv X pins σ H s) (h : ta σ H fun x H1 => tb σ H1 fun y H2 => R x y H2)
    {α : Type} {Q : α -> Shared -> Prop} {f : Value -> Value -> Sem α}
    (hf : ∀ v u s2 x y H2, Inv X pins σ H2 s2 -> RelV x v -> RelV y u -> R x y H2 -> wpAny (model X.prog X.w) X.A (f v u) Q X.xe s2) :
    wpAny (model X.prog X.w) X.A (eval a X.env) (fun v s₁ => wpAny (model X.prog X.w) X.A (eval b X.env) (fun u s₂ => wpAny (model X.prog X.w) X.A (f v u) Q X.xe s₂) X.xe s₁) X.xe s := by
  refine thn (ha pins s σ H _ I h) fun v s1 ⟨x, H1, I1, r1, q1⟩ => ?_
  refine thn (hb pins s1 σ H1 _ I1 q1) fun u s2 ⟨y, H2, I2, r2, q2⟩ => ?_
  exact hf v u s2 x y H2 I2 r1 r2 q2
def ai (i : Nat) : TE := fun σ H Q => ∃ v, σ[i]? = some (some v) /\ Q v H
def tC (v : V) : TE := fun _ H Q => Q v H
theorem Kj {i : Nat} {x : Str} (hN : X.N[i]? = some x) (hv : Vis X.env.scope x) (hd : (x == ("__debug__" : Str)) = false := by decide) (Fv : (x == ("__classdict__" : Str)) = false := by decide) : PE X (.Name x pos) (ai i) := by
  intro pins s σ H Q I h
  obtain ⟨v, e, h⟩ := h
  obtain ⟨m, hn, hl⟩ := I.loc
  obtain ⟨u, r, l⟩ := hl i x v hN e hv
  have fin : EP X pins σ Q u s := ⟨v, H, I, r, h⟩
  rcases l with ⟨hk, hm⟩ | ⟨hk, c, hc, xW⟩
  . exact wpAny_Name (wpAny_loadName_local I.ok.kind hk hn hm fin) hd
  . rcases hk with hk | hk
    . exact wpAny_Name (wpAny_loadName_cell I.ok.kind hk hc xW fin) hd
    . exact wpAny_Name (wpAny_loadName_free I.ok.kind hk hc xW fin Fv) hd
theorem aD {i j pos} : PE X (.Constant (.int i) j pos) (tC (.int i)) := fun _ _ _ H _ I h => wpAny_Constant_int ⟨.int i, H, I.tok _, ⟨_, rfl⟩, h⟩
theorem mj {b j pos} : PE X (.Constant (.bool b) j pos) (tC (.bl b)) := fun _ _ _ H _ I h => Constant_bool ⟨.bl b, H, I, rfl, h⟩
theorem yL {j pos} : PE X (.Constant .none j pos) (tC .non) := fun _ _ _ H _ I h => Constant_none ⟨.non, H, I, rfl, h⟩
def Gl (X : Cx) (x : Str) : Prop := X.env.kindOf x = some .globalImplicit
theorem tW {H : Hp} {u : Value} {Q : Value -> Shared -> Prop} (I : Inv X pins σ H s) (hg : Gl X x) (hm : X.mg x = some u) (h : Q u s)
    (hd : (x == ("__debug__" : Str)) = false := by decide) : wpAny (model X.prog X.w) X.A (eval (.Name x pos) X.env) Q E s :=
  Calls.Name_function_global I.ok.kind hg (Calls.loadGlobal_global (by rw [I.ok.glob]; exact I.mod.glob.keeps I.bk) hm h) hd
theorem ku {H : Hp} {u : Value} {Q : Value -> Shared -> Prop} (I : Inv X pins σ H s) (hg : Gl X x) (hm : X.mg x = none) (hv : bootBuiltins x = some u) (h : Q u s)
    (hn : x ≠ "__name__" := by decide) (hd : (x == ("__debug__" : Str)) = false := by decide) : wpAny (model X.prog X.w) X.A (eval (.Name x pos) X.env) Q E s := by
  obtain ⟨mb, h1, h2⟩ := I.mod.blt
  exact Calls.Name_function_global I.ok.kind hg (Calls.loadGlobal_builtin (by rw [I.ok.glob]; exact I.mod.glob.keeps I.bk) hm (by rw [I.ok.blt]; exact h1.keeps I.bk) ((h2 x hn).trans hv) h) hd
theorem dj {u : Value} (hg : Gl X x) (hm : X.mg x = some u) (r : RelV v u) (hd : (x == ("__debug__" : Str)) = false := by decide) : PE X (.Name x pos) (tC v) :=
  fun _ _ _ H _ I h => tW I hg hm ⟨v, H, I, r, h⟩ hd
variable {a b : Expr} {ta tb : TE} {pos : Pos}
def PC (X : Cx) (op : CmpOp) (a b : Expr) (t : TE) : Prop :=
  ∀ (pins : List (Addr × Obj)) (s : Shared) (σ : St) (H : Hp) (Q : VK), Inv X pins σ H s -> t σ H Q ->
    wpAny (model X.prog X.w) X.A (eval a X.env) (fun v s₁ => wpAny (model X.prog X.w) X.A (eval b X.env) (fun u s₂ => wpAny (model X.prog X.w) X.A (compareOp op v u) (EP X pins σ Q) X.xe s₂) X.xe s₁) X.xe s
def tB (t : TE) : TT := fun σ H Q => t σ H fun x H1 => ∃ c, x = .bl c /\ Q c H1
theorem Kk {op : CmpOp} (h : PC X op a b t) (h1 : behindInMarks op b = false := by first | exact FY _ (by decide) (by decide) | rfl) : PE X (.Compare a [op] [b] pos) t := fun pins s σ H Q I hw => wpAny_Compare1 (h pins s σ H Q I hw) h1
theorem FZ {op : CmpOp} (h : PC X op a b t) (h1 : behindInMarks op b = false := by first | exact FY _ (by decide) (by decide) | rfl) : PT X (.Compare a [op] [b] pos) (tB t) := by
  intro pins s σ H Q I hw
  refine wpAny_isTrue_Compare1 (thn (h pins s σ H _ I hw) fun v s1 h1 => thn h1 fun u s2 h2 => thn h2 fun c s3 ⟨x, H1, I1, r1, q1⟩ => ?_) h1
  obtain ⟨d, rfl, q⟩ := q1
  cases r1
  exact V6 ⟨H1, I1, q⟩
theorem dW (h : PE X e t) (he : ∀ whole, isTrue e X.env whole = (do let v <- whole; standAt e.pos; holding [v] (truthy v)) := by intro _; rfl) : PT X e (tB t) := by
  intro pins s σ H Q I hw
  refine isTrue_plain (thn (h pins s σ H _ I hw) fun v s1 ⟨x, H1, I1, r1, q1⟩ => ?_) (he _)
  obtain ⟨d, rfl, q⟩ := q1
  cases r1
  exact V6 ⟨H1, I1, q⟩
variable {tA Oq : TT} {rest : List Expr}
def Ax (t u : TT) : TT := fun σ H Q => t σ H fun c H1 => if c = true then u σ H1 Q else Q false H1
def tOr (t u : TT) : TT := fun σ H Q => t σ H fun c H1 => if c = true then Q true H1 else u σ H1 Q
def yM (t : TT) : TT := fun σ H Q => t σ H fun c H1 => Q (!c) H1
theorem qe (ha : PT X a tA) : PW X (.BoolOp .And [a] pos) tA := by
  intro wh pins s σ H Q I h
  refine isTrue_and (thn (ha pins s σ H Q I h) fun c s1 e => ?_)
  cases c with
  | true => exact isTrue_and_nil e
  | false => exact e
theorem B8 (ha : PT X a tA) : PW X (.BoolOp .Or [a] pos) tA := by
  intro wh pins s σ H Q I h
  refine isTrue_or (thn (ha pins s σ H Q I h) fun c s1 e => ?_)
  cases c with
  | false => exact isTrue_or_nil e
  | true => exact e
theorem uO (ha : PT X a tA) (hb : PW X (.BoolOp .And (b :: rest) pos) Oq) : PW X (.BoolOp .And (a :: b :: rest) pos) (Ax tA Oq) := by
  intro wh pins s σ H Q I h
  refine isTrue_and (thn (ha pins s σ H _ I h) fun c s1 ⟨H1, I1, q1⟩ => ?_)
  cases c with
  | true => exact hb wh pins s1 σ H1 Q I1 q1
  | false => exact ⟨H1, I1, q1⟩
theorem F0 (ha : PT X a tA) (hb : PW X (.BoolOp .Or (b :: rest) pos) Oq) : PW X (.BoolOp .Or (a :: b :: rest) pos) (tOr tA Oq) := by
  intro wh pins s σ H Q I h
  refine isTrue_or (thn (ha pins s σ H _ I h) fun c s1 ⟨H1, I1, q1⟩ => ?_)
  cases c with
  | true => exact ⟨H1, I1, q1⟩
  | false => exact hb wh pins s1 σ H1 Q I1 q1
theorem oI (ha : PT X a tA) : PT X (.UnaryOp .Not a pos) (yM tA) := by
  intro pins s σ H Q I h
  exact isTrue_not (ha pins s σ H (fun c H1 => Q (!c) H1) I h)
def Kl (ta tb : TE) : TE := fun σ H Q => ta σ H fun x H1 => ∃ c, x = .bl c /\ if c = true then Q (.bl true) H1 else tb σ H1 Q
theorem Km {op} (h : PE X a t) : PE X (.BoolOp op [a] pos) t := fun pins s σ H Q I hw => BoolOp_one (h pins s σ H Q I hw)
theorem ME (ha : PE X a ta) (hb : PE X (.BoolOp .Or (b :: rest) pos) tb) : PE X (.BoolOp .Or (a :: b :: rest) pos) (Kl ta tb) := by
  intro pins s σ H Q I h
  refine BoolOp_or (thn (ha pins s σ H _ I h) fun v s1 ⟨x, H1, I1, r1, q1⟩ => ?_)
  obtain ⟨c, rfl, q1⟩ := q1
  cases r1
  refine V6 ?_
  cases c with
  | false => exact hb pins s1 σ H1 Q I1 q1
  | true => exact ⟨.bl true, H1, I1, rfl, q1⟩
def tIf (t : TT) (ta tb : TE) : TE := fun σ H Q => t σ H fun c H1 => if c = true then ta σ H1 Q else tb σ H1 Q
theorem jO (hc : PT X c tA) (ha : PE X a ta) (hb : PE X b tb) : PE X (.IfExp c a b pos) (tIf tA ta tb) := by
  intro pins s σ H Q I h
  refine wpAny_IfExp (thn (hc pins s σ H _ I h) fun d s1 ⟨H1, I1, q1⟩ => ?_)
  cases d with
  | true => exact ha pins s1 σ H1 Q I1 q1
  | false => exact hb pins s1 σ H1 Q I1 q1
end
end L2
namespace L2
def SqL (K : FG) (H : Hp) (a : Addr) (xs : List V) : Prop :=
  Rd H a (.lst xs) \/
    ∃ (o : Obj) (aK : Array Value) (n : Nat), K.lookup a = some o /\ o.cls = .type "list" /\ o.dict = none /\ o.data = .seq aK n /\ aK.size <= sizeLine /\ Vals xs aK.toList
def SqT (K : FG) (H : Hp) (a : Addr) (xs : List V) : Prop :=
  Rd H a (.tup xs) \/
    ∃ (o : Obj) (aK : Array Value) (n : Nat), K.lookup a = some o /\ o.cls = .type "tuple" /\ o.data = .seq aK n /\ aK.size <= sizeLine /\ Vals xs aK.toList
def Pp : Value -> Option V
  | .none => some .non
  | .bool b => some (.bl b)
  | .int i _ => some (.int i)
  | .str x _ => some (.str x)
  | .bytes b _ => some (.Aw b)
  | .float b _ => some (.Oj b)
  | .ref a => some (.ref a)
  | .type n => some (.ty n)
  | _ => none
theorem RelV.abs (r : RelV x u) : Pp u = some x := by
  cases x with
  | non => cases r; rfl
  | bl _ => cases r; rfl
  | int _ => obtain ⟨t, rfl⟩ := r; rfl
  | str _ => obtain ⟨t, rfl⟩ := r; rfl
  | Aw _ => obtain ⟨t, rfl⟩ := r; rfl
  | Oj _ => obtain ⟨t, rfl⟩ := r; rfl
  | ref _ => cases r; rfl
  | ty _ => cases r; rfl
theorem RelV.inj (r : RelV x u) (q : RelV y u) : x = y := Option.some.inj (r.abs.symm.trans q.abs)
theorem Vals.inj : ∀ {xs ys : List V} {us : List Value}, Vals xs us -> Vals ys us -> xs = ys
  | _, _, _, .nil, .nil => rfl
  | _, _, _, .cons r t, .cons r' t' => by rw [r.inj r', Vals.inj t t']
section
variable {X : Cx} {pins : List (Addr × Obj)} {σ : St} {H : Hp} {s : Shared} {a : Addr} {xs ys : List V}
theorem SqL.of {K : FG} (h : H a = some (.lst xs)) : SqL K H a xs := .inl (.inl h)
theorem SqT.of {K : FG} (h : H a = some (.tup xs)) : SqT K H a xs := .inl (.inl h)
theorem Inv.list (I : Inv X pins σ H s) (h : SqL X.K H a xs) : ∃ aK : List Value, Vals xs aK /\ PlainL s.heap a aK.toArray /\ xs.length <= sizeLine := by
  rcases h with h | ⟨o, aK, n, hk, hc, hd, hs, hz, r⟩
  . obtain ⟨z, aK, n, r, e⟩ := h.ok I.hok
    exact ⟨aK, r, ⟨_, n, e, rfl, rfl, rfl⟩, z⟩
  . refine ⟨aK.toList, r, ⟨o, n, I.kIn a o hk, hc, hd, by simpa using hs⟩, ?_⟩
    have e := r.length
    simp only [length_toList] at e
    omega
theorem Inv.tuple (I : Inv X pins σ H s) (h : SqT X.K H a xs) : ∃ aK : List Value, Vals xs aK /\ IsTup s.heap a aK.toArray /\ xs.length <= sizeLine := by
  rcases h with h | ⟨o, aK, n, hk, hc, hs, hz, r⟩
  . obtain ⟨z, aK, r, p⟩ := h.ok I.hok
    exact ⟨aK, r, p, z⟩
  . refine ⟨aK.toList, r, ⟨o, I.kIn a o hk, hc, n, by simpa using hs⟩, ?_⟩
    have e := r.length
    simp only [length_toList] at e
    omega
theorem Inv.uP (I : Inv X pins σ H s) (h : SqL X.K H a xs) (h' : SqL X.K H a ys) : xs = ys := by
  obtain ⟨aK, r, ⟨o, n, e, _, _, d⟩, _⟩ := I.list h
  obtain ⟨its', r', ⟨o', n', e', _, _, d'⟩, _⟩ := I.list h'
  rw [e] at e'; cases e'
  rw [d] at d'
  injection d' with d1 _
  have : aK = its' := by simpa using congrArg Array.toList d1
  subst this
  exact r.inj r'
theorem Inv.EK (I : Inv X pins σ H s) (h : SqT X.K H a xs) (h' : SqT X.K H a ys) : xs = ys := by
  obtain ⟨aK, r, ⟨o, e, _, n, d⟩, _⟩ := I.tuple h
  obtain ⟨its', r', ⟨o', e', _, n', d'⟩, _⟩ := I.tuple h'
  rw [e] at e'; cases e'
  rw [d] at d'
  injection d' with d1 _
  have : aK = its' := by simpa using congrArg Array.toList d1
  subst this
  exact r.inj r'
end
abbrev Cx.wQ (X : Cx) (E : Value -> Shared -> Prop) : Cx := { X with xe := E }
abbrev Cx.nox (X : Cx) : Cx := X.wQ fun _ _ => False
theorem Cx.Ok.wQ {X : Cx} (ok : X.Ok) (E : Value -> Shared -> Prop) : (X.wQ E).Ok :=
  ⟨ok.mod, ok.kind, ok.glob, ok.blt, ok.above, ok.inj, ok.has, ok.cab, ok.hd, ok.frames, ok.stk, ok.exf, ok.bs, ok.bsz, ok.FW, ok.FX, ok.rh, ok.frf⟩
theorem Cx.Ok.ml {X : Cx} (ok : (X.wQ E).Ok) : X.Ok :=
  ⟨ok.mod, ok.kind, ok.glob, ok.blt, ok.above, ok.inj, ok.has, ok.cab, ok.hd, ok.frames, ok.stk, ok.exf, ok.bs, ok.bsz, ok.FW, ok.FX, ok.rh, ok.frf⟩
section
variable {X : Cx} {pins : List (Addr × Obj)} {σ : St} {H : Hp} {s : Shared} {E : Value -> Shared -> Prop}
theorem Inv.wQ (I : Inv X pins σ H s) (E : Value -> Shared -> Prop) : Inv (X.wQ E) pins σ H s := ⟨I.ok.wQ E, I.os, I.bare, I.base, I.loc, I.cell, I.free, I.jN, I.pin, I.hok, I.len⟩
theorem Inv.ml (I : Inv (X.wQ E) pins σ H s) : Inv X pins σ H s := ⟨I.ok.ml, I.os, I.bare, I.base, I.loc, I.cell, I.free, I.jN, I.pin, I.hok, I.len⟩
theorem SP.ml {f : Flow} (h : SP (X.wQ E) pins D f s') : SP X pins D f s' := by
  cases f with
  | next => obtain ⟨σ', H', I, q⟩ := h; exact ⟨σ', H', I.ml, q⟩
  | brk => obtain ⟨σ', H', I, q⟩ := h; exact ⟨σ', H', I.ml, q⟩
  | cont => obtain ⟨σ', H', I, q⟩ := h; exact ⟨σ', H', I.ml, q⟩
  | ret u => obtain ⟨v, σ', H', I, r, q⟩ := h; exact ⟨v, σ', H', I.ml, r, q⟩
theorem PSs.nox {st : List Stmt} (h : PSs X.nox st t) : PSs X st t := fun pins s σ H D I hw =>
  VP (h pins s σ H D (I.wQ _) hw) (fun _ _ q => q.ml) fun _ _ z => False.elim z
end
section
variable {X : Cx} {st : Stmt} {rest : List Stmt} {t u : TS} {e : Expr} {te : TE} {pos : Pos}
def bN : TS := fun D σ H => D.nx σ H
def aH (t u : TS) : TS := fun D σ H => t { D with nx := u D } σ H
theorem bf : PSs X [] bN := fun _ _ σ H _ I h => wpAny_execs_nil ⟨σ, H, I, h⟩
theorem ak (h1 : PS X st t) (h2 : PSs X rest u) : PSs X (st :: rest) (aH t u) := by
  intro pins s σ H D I h
  refine wpAny_execs_cons (thn (h1 pins s σ H { D with nx := u D } I h) fun f s1 q => ?_)
  cases f with
  | next =>
    obtain ⟨σ', H', I', q⟩ := q
    exact h2 pins s1 σ' H' D I' q
  | ret v => exact q
  | brk => exact q
  | cont => exact q
theorem az (h1 : PS X st t) : PSs X [st] t := by
  intro pins s σ H D I h
  refine wpAny_execs_cons (thn (h1 pins s σ H D I h) fun f s1 q => ?_)
  cases f with
  | next => exact wpAny_execs_nil q
  | ret v => exact q
  | brk => exact q
  | cont => exact q
def yN : TS := fun D σ H => D.bk σ H
theorem Ay : PS X (.Break pos) yN := fun _ _ σ H _ I h => wpAny_Break ⟨σ, H, I, h⟩
theorem Inv.quiet {H : Hp} (I : Inv X pins σ H s) : interactive X.env = false := by simp [interactive, I.ok.kind]
def d9 (te : TE) : TS := fun D σ H => te σ H fun _ H1 => D.nx σ H1
theorem cV (he : PE X e te) (hs : swapsWith e none pos.line X.env = pure false := by rfl) : PS X (.Expr e pos) (d9 te) := by
  intro pins s σ H D I h
  exact wpAny_Expr_any (thn (he pins s σ H _ I h) fun v s1 ⟨x, H1, I1, r1, q1⟩ => ⟨σ, H1, I1, q1⟩) I.quiet hs
def aX (te : TE) : TS := fun D σ H => te σ H D.rt
theorem aJ (he : PE X e te) : PS X (.Return (some e) pos) (aX te) := by
  intro pins s σ H D I h
  exact wpAny_Return_some (thn (he pins s σ H _ I h) fun v s1 ⟨x, H1, I1, r1, q1⟩ => ⟨x, σ, H1, I1, r1, q1⟩)
def cT (c : TT) (t u : TS) : TS := fun D σ H => c σ H fun b H1 => if b = true then t D σ H1 else u D σ H1
theorem bY (hc : PT X c tc) (ha : PSs X a t) (hb : PSs X b u) : PS X (.If c a b pos) (cT tc t u) := by
  intro pins s σ H D I h
  refine wpAny_If (thn (hc pins s σ H _ I h) fun d s1 ⟨H1, I1, q1⟩ => ?_)
  cases d with
  | true => exact ha pins s1 σ H1 D I1 q1
  | false => exact hb pins s1 σ H1 D I1 q1
end
abbrev TG := V -> St -> Hp -> (St -> Hp -> Prop) -> Prop
abbrev TGs := List V -> St -> Hp -> (St -> Hp -> Prop) -> Prop
def PG (X : Cx) (target : Expr) (t : TG) : Prop :=
  ∀ (pins : List (Addr × Obj)) (s : Shared) (σ : St) (H : Hp) (v : V) (u : Value) (Q : St -> Hp -> Prop), Inv X pins σ H s -> RelV v u -> t v σ H Q ->
    wpAny (model X.prog X.w) X.A (assign target X.env u) (fun _ s' => ∃ σ' H', Inv X pins σ' H' s' /\ Q σ' H') X.xe s
def PGs (X : Cx) (ts : List Expr) (t : TGs) : Prop :=
  ∀ (pins : List (Addr × Obj)) (s : Shared) (σ : St) (H : Hp) (vs : List V) (us : List Value) (Q : St -> Hp -> Prop), Inv X pins σ H s -> Vals vs us -> t vs σ H Q ->
    wpAny (model X.prog X.w) X.A (assignInOrder ((assignEach ts X.env).map (·.2)) us) (fun _ s' => ∃ σ' H', Inv X pins σ' H' s' /\ Q σ' H') X.xe s
abbrev B9 := V -> V -> V -> Hp -> (Hp -> Prop) -> Prop
def Kn (X : Cx) (t : B9) : Prop :=
  ∀ (pins : List (Addr × Obj)) (s : Shared) (σ : St) (H : Hp) (o i v : V) (ov iv u : Value) (Q : Hp -> Prop), Inv X pins σ H s -> RelV o ov -> RelV i iv -> RelV v u -> t o i v H Q ->
    wpAny (model X.prog X.w) X.A (setItem ov iv u) (fun _ s' => ∃ H', Inv X pins σ H' s' /\ Q H') X.xe s
abbrev TIp := V -> V -> Hp -> VK -> Prop
def PIp (X : Cx) (op : Operator) (t : TIp) : Prop :=
  ∀ (pins : List (Addr × Obj)) (s : Shared) (σ : St) (H : Hp) (x y : V) (v u : Value) (Q : VK), Inv X pins σ H s -> RelV x v -> RelV y u -> t x y H Q ->
    wpAny (model X.prog X.w) X.A (inplaceOp op v u) (EP X pins σ Q) X.xe s
section
variable {X : Cx} {pos : Pos}
def aC (i : Nat) : TG := fun v σ H Q => Q (σ.set i (some v)) H
theorem DX {i : Nat} {x : Str} (hN : X.N.Nodup) (hi : X.N[i]? = some x) (hx : Loc X.env.scope x) (hf : X.fn x = true \/ X.env.scope.names.lookup x = some .local := by first | exact .inl rfl | exact .inr rfl | assumption) : PG X (.Name x pos) (aC i) := by
  intro pins s σ H v u Q I r h
  exact wpAny_assign_Name (uN I hN hi hx r (fun s' I' => ⟨_, H, I', h⟩) hf)
def je : TGs := fun vs σ H Q => vs = [] /\ Q σ H
def bA (t : TG) (u : TGs) : TGs := fun vs σ H Q => ∃ v r, vs = v :: r /\ t v σ H fun σ' H' => u r σ' H' Q
theorem dm : PGs X [] je := by
  intro pins s σ H vs us Q I r h
  obtain ⟨e, h⟩ := h
  subst e
  cases r
  exact assignInOrder_nil ⟨σ, H, I, h⟩
theorem bb {u : TGs} (h1 : PG X e t) (h2 : PGs X es u)
    (hs : (assignEach (e :: es) X.env).map (·.2) = assign e X.env :: (assignEach es X.env).map (·.2) := by rfl) : PGs X (e :: es) (bA t u) := by
  intro pins s σ H vs us Q I r h
  obtain ⟨v, vr, e1, h⟩ := h
  subst e1
  cases r with
  | cons r rr =>
    rw [hs]
    refine assignInOrder_cons (thn (h1 pins s σ H _ _ _ I r h) fun _ s1 ⟨σ1, H1, I1, q1⟩ => ?_)
    exact h2 pins s1 σ1 H1 _ _ Q I1 rr q1
def jf (K : FG) (n : Nat) (t : TGs) : TG := fun v σ H Q => ∃ a xs, v = .ref a /\ SqT K H a xs /\ xs.length = n /\ t xs σ H Q
theorem fi {k : Nat} {t : TGs} {n : Nat} (hc : X.calm = true) (h : PGs X es t)
    (hn : (assignEach es X.env).length = n := by rfl) (Az : (assignEach es X.env).findIdx? (·.1) = none := by rfl) : PG X (.Tuple es k pos) (jf X.K n t) := by
  intro pins s σ H v u Q I r hw
  obtain ⟨a, xs, e1, hq, hl, hw⟩ := hw
  subst e1
  cases r
  obtain ⟨aK, rv, ht, hz⟩ := I.tuple hq
  refine assign_Tuple_tuple (I.ok.hd hc) ht (by simp [hn, <- hl, rv.length]) Az fun h' hx => ?_
  have I1 : Inv X pins σ H { s with heap := h' } := I.kept (t' := s.toks) fun b o e => hx b o (Vp (Vu e)) e
  exact h pins _ σ H xs _ Q I1 (by simpa using rv) hw
def F1 (to ti : TE) (t : B9) : TG := fun v σ H Q => to σ H fun o H1 => ti σ H1 fun i H2 => t o i v H2 fun H3 => Q σ H3
theorem Ca {t : B9} (ho : PE X o to) (hi : PE X i ti) (hs : Kn X t)
    (ha : ∀ v, assign (.Subscript o i pos) X.env v = (do
      let ov <- holding [v] (eval o X.env)
      let iv <- holding [v, ov] (eval i X.env)
      standAt pos
      holding [v, ov, iv] (setItem ov iv v)
      release [v, ov, iv] []) := by intro _; rfl) : PG X (.Subscript o i pos) (F1 to ti t) := by
  intro pins s σ H v u Q I r h
  rw [ha]
  refine Vi (V7 (thn (ho pins s σ H _ I h) fun ov s1 ⟨x, H1, I1, r1, q1⟩ => ?_))
  refine Vi (V7 (thn (hi pins s1 σ H1 _ I1 q1) fun iv s2 ⟨y, H2, I2, r2, q2⟩ => ?_))
  refine Vi (wpAny_standAt (Vi (V7 (thn (hs pins s2 σ H2 x y v ov iv u _ I2 r1 r2 r q2) fun _ s3 ⟨H3, I3, q3⟩ => ?_))))
  exact wpAny_release ⟨σ, H3, I3, q3⟩
def br (te : TE) (g : TG) : TS := fun D σ H => te σ H fun x H1 => g x σ H1 D.nx
theorem Cb (he : PE X e te) (hg : PG X tg g) (hs : swapsWithSole [tg] e pos.line X.env = pure false := by rfl) (hw : swappedStores [tg] e X.env = pure none := by rfl)
    (h1 : (assignEach [tg] X.env).map (·.2) = [assign tg X.env] := by rfl) : PS X (.Assign [tg] e pos) (br te g) := by
  intro pins s σ H D I h
  refine wpAny_Assign_stores (thn (he pins s σ H _ I h) fun v s1 ⟨x, H1, I1, r1, q1⟩ => ?_) hs hw
  rw [h1]
  exact thn (hg pins s1 σ H1 x v _ I1 r1 q1) fun _ s2 q => q
theorem Ko {i : Nat} {x : Str} (hN : X.N.Nodup) (hi : X.N[i]? = some x) (hx : Loc X.env.scope x) (he : PE X e te) (hs : swapsWith e (some (.Name x pos')) pos.line X.env = pure false := by rfl) (hf : X.fn x = true \/ X.env.scope.names.lookup x = some .local := by first | exact .inl rfl | exact .inr rfl | assumption) :
    PS X (.Assign [.Name x pos'] e pos) (br te (aC i)) := by
  intro pins s σ H D I h
  refine wpAny_Assign_Name (thn (he pins s σ H _ I h) fun v s1 ⟨y, H1, I1, r1, q1⟩ => ?_) hs
  exact uN I1 hN hi hx r1 (fun s2 I2 => ⟨_, H1, I2, q1⟩) hf
def Cc (i : Nat) (te : TE) (ti : TIp) : TS := fun D σ H => ∃ x, σ[i]? = some (some x) /\ te σ H fun y H1 => ti x y H1 fun z H2 => D.nx (σ.set i (some z)) H2
theorem uQ {i : Nat} {x : Str} {op : Operator} {ti : TIp} (hN : X.N.Nodup) (hi : X.N[i]? = some x) (hx : Loc X.env.scope x) (he : PE X e te) (ho : PIp X op ti) (hf : X.fn x = true \/ X.env.scope.names.lookup x = some .local := by first | exact .inl rfl | exact .inr rfl | assumption) :
    PS X (.AugAssign (.Name x pos') op e pos) (Cc i te ti) := by
  intro pins s σ H D I h
  obtain ⟨v, e1, h⟩ := h
  obtain ⟨m, hn, hl⟩ := I.loc
  have SW : Vis X.env.scope x := by rcases hx with k | k; exact .inl k; exact .inr (.inl k)
  obtain ⟨u, r, l⟩ := hl i x v hi e1 SW
  refine wpAny_AugAssign_Name ?_
  have go : wpAny (model X.prog X.w) X.A (eval e X.env) (fun w s₂ => wpAny (model X.prog X.w) X.A (inplaceOp op u w) (fun r s₃ => wpAny (model X.prog X.w) X.A (storeName X.env x r) (fun _ => SP X pins D .next) X.xe s₃) X.xe s₂) X.xe s := by
    refine thn (he pins s σ H _ I h) fun w s1 ⟨y, H1, I1, r1, q1⟩ => ?_
    refine thn (ho pins s1 σ H1 v y u w _ I1 r r1 q1) fun z s2 ⟨zv, H2, I2, r2, q2⟩ => ?_
    exact uN I2 hN hi hx r2 (fun s3 I3 => ⟨_, H2, I3, q2⟩) hf
  rcases l with ⟨hk, hm⟩ | ⟨hk, c, hc, xW⟩
  . exact wpAny_loadName_local I.ok.kind hk hn hm go
  . rcases hk with hk | hk
    . exact wpAny_loadName_cell I.ok.kind hk hc xW go
    . rcases hx with k | k
      . have : X.env.scope.names.lookup x = some .free := hk
        rw [k] at this; cases this
      . have : X.env.scope.names.lookup x = some .free := hk
        rw [k] at this; cases this
def F2 (to ti te : TE) (Cd : V -> V -> Hp -> VK -> Prop) (Kq : TIp) (Ce : B9) : TS := fun D σ H => to σ H fun o H1 => ti σ H1 fun i H2 => Cd o i H2 fun x H3 => te σ H3 fun y H4 => Kq x y H4 fun z H5 => Ce o i z H5 fun H6 => D.nx σ H6
def MF (X : Cx) (t : V -> V -> Hp -> VK -> Prop) : Prop :=
  ∀ (pins : List (Addr × Obj)) (s : Shared) (σ : St) (H : Hp) (o i : V) (ov iv : Value) (Q : VK), Inv X pins σ H s -> RelV o ov -> RelV i iv -> t o i H Q ->
    wpAny (model X.prog X.w) X.A (getItem ov iv) (EP X pins σ Q) X.xe s
theorem HV {Cd : V -> V -> Hp -> VK -> Prop} {Kq : TIp} {Ce : B9} {op : Operator} (ho : PE X o to) (hi : PE X i ti) (hg : MF X Cd) (he : PE X e te) (hp : PIp X op Kq) (hs : Kn X Ce)
    (ha : ∀ ov iv new, augStore i ov iv new = (do holding [new, ov, iv] (setItem ov iv new); release [new, ov, iv] []; pure .next) := by intros; rfl) : PS X (.AugAssign (.Subscript o i AA) op e pos) (F2 to ti te Cd Kq Ce) := by
  intro pins s σ H D I h
  refine wpAny_AugAssign_SubscriptAny (thn (ho pins s σ H _ I h) fun ov s1 ⟨x1, H1, I1, r1, q1⟩ => ?_) ha
  refine thn (hi pins s1 σ H1 _ I1 q1) fun iv s2 ⟨x2, H2, I2, r2, q2⟩ => ?_
  refine thn (hg pins s2 σ H2 x1 x2 ov iv _ I2 r1 r2 q2) fun old s3 ⟨x3, H3, I3, r3, q3⟩ => ?_
  refine thn (he pins s3 σ H3 _ I3 q3) fun v s4 ⟨x4, H4, I4, r4, q4⟩ => ?_
  refine thn (hp pins s4 σ H4 x3 x4 old v _ I4 r3 r4 q4) fun new s5 ⟨x5, H5, I5, r5, q5⟩ => ?_
  exact thn (hs pins s5 σ H5 x1 x2 x5 ov iv new _ I5 r1 r2 r5 q5) fun _ s6 ⟨H6, I6, q6⟩ => ⟨σ, H6, I6, q6⟩
def ipI (f : Int -> Int -> Int) : TIp := fun x y H Q => ∃ i j, x = .int i /\ y = .int j /\ Q (.int (f i j)) H
theorem Cf : PIp X .Add (ipI fun i j => i + j) := by
  intro pins s σ H x y v u Q I r1 r2 h
  obtain ⟨i, j, e1, e2, q⟩ := h
  subst e1; subst e2
  obtain ⟨t, rfl⟩ := r1
  obtain ⟨t', rfl⟩ := r2
  exact iadd_int ⟨.int _, H, I.tok _, ⟨_, rfl⟩, q⟩
theorem Cg : PIp X .Sub (ipI fun i j => i - j) := by
  intro pins s σ H x y v u Q I r1 r2 h
  obtain ⟨i, j, e1, e2, q⟩ := h
  subst e1; subst e2
  obtain ⟨t, rfl⟩ := r1
  obtain ⟨t', rfl⟩ := r2
  exact isub_int ⟨.int _, H, I.tok _, ⟨_, rfl⟩, q⟩
end
section
variable {X : Cx} {pos : Pos}
def Ci (c : TT) (tb : TS) : TS := fun D σ H => ∃ W : Nat -> St -> Hp -> Prop, (∃ m, W m σ H) /\ ∀ m σ H, W m σ H ->
  c σ H fun b H1 => if b = true then ∃ N : St -> Hp -> Prop, (∀ σ' H', N σ' H' -> ∃ m', m' < m /\ W m' σ' H') /\ tb { D with nx := N, ct := N, bk := D.nx } σ H1 else D.nx σ H1
theorem F3 (hp : PassesOwn (model X.prog X.w) X.A X.env X.xe) (hc : PT X c tc) (hb : PSs X body tb) : PS X (.While c body [] pos) (Ci tc tb) := by
  intro pins s σ H D I h
  obtain ⟨W, ⟨m0, w0⟩, turn⟩ := h
  refine wpAny_While (codeAny_whileLoop (fun n s' => ∃ σ' H', Inv X pins σ' H' s' /\ W n σ' H') ?_ m0 ⟨σ, H, I, w0⟩)
  rintro n s1 ⟨σ1, H1, I1, w1⟩
  refine wpAny_passesOwn hp (thn (hc pins s1 σ1 H1 _ I1 (turn n σ1 H1 w1)) fun b s2 ⟨H2, I2, q2⟩ => ?_)
  cases b with
  | true =>
    obtain ⟨N, hN, q2⟩ := q2
    rw [Vj rfl]
    refine wpAny_passesOwn hp (thn (hb pins s2 σ1 H2 _ I2 q2) fun f s3 q3 => ?_)
    cases f with
    | next =>
      obtain ⟨σ3, H3, I3, n3⟩ := q3
      obtain ⟨m', hm, w3⟩ := hN σ3 H3 n3
      exact ⟨m', hm, σ3, H3, I3, w3⟩
    | cont =>
      obtain ⟨σ3, H3, I3, n3⟩ := q3
      obtain ⟨m', hm, w3⟩ := hN σ3 H3 n3
      exact ⟨m', hm, σ3, H3, I3, w3⟩
    | brk => exact q3
    | ret v => exact q3
  | false =>
    rw [Vh VD]
    exact wpAny_execs_nil ⟨σ1, H2, I2, q2⟩
end
structure It where
  go : Nat -> Hp -> Prop
  yld : Nat -> Hp -> V -> Hp -> Prop
  stop : Nat -> Hp -> Prop
def oJ (X : Cx) (pins : List (Addr × Obj)) (H : Hp) (b : Addr) : Prop :=
  H b = none /\ b ≠ X.env.locals /\ b ∉ X.fs /\ (b ∈ X.ex \/ X.s_0.heap.objs.size <= b) /\ (∀ x c, X.env.cells.lookup x = some c -> c ≠ b) /\ ∀ p ∈ X.pn ++ pins, p.1 ≠ b
theorem Inv.Cj {H H' : Hp} {b : Addr} (I : Inv X pins σ H s) (hb : s.heap.objs.size <= b) (hn : H' b = none) : oJ X pins H' b := by
  refine ⟨hn, ne_of_gt (VI I.lt hb), I.MA hb, .inr (VH I.sz hb), fun x c e z => ?_, fun p hp z => ?_⟩
  . obtain ⟨v, q⟩ := I.cell x c e
    exact absurd (VI q.lt (by rw [z]; exact hb)) (VO _)
  . exact absurd (VI (Vu (I.pin p hp).1) (by rw [z]; exact hb)) (VO _)
structure Turn (P : Program) (w : World) (K : FG) (tg : Expr) (J : It) (fp : List Addr) (it : Addr) (tn : Nat -> Heap -> Prop) : Prop where
  mem : it ∈ fp
  obj : ∀ i h, tn i h -> ∀ b ∈ fp, ∃ o, h.get? b = some o /\ ∀ v, o.data ≠ .cell v
  keep : ∀ i h h', tn i h -> (∀ b ∈ fp, ∀ o, h.get? b = some o -> h'.get? b = some o) -> tn i h'
  item : ∀ (X : Cx), X.prog = P -> X.w = w -> X.K = K -> X.calm = true -> ∀ (i : Nat) (pins : List (Addr × Obj)) (s : Shared) (σ : St) (H : Hp) (E : Value -> Shared -> Prop), Inv X pins σ H s -> (∀ b ∈ fp, oJ X pins H b) -> tn i s.heap -> J.go i H ->
    wpAny (model P w) X.A (pyNext (.ref it)) (fun r s1 => ∃ u, r = some u /\
      wpAny (model P w) X.A (letOwnedTupleGo tg (.ref it) u) (fun _ s2 => ∃ x H', Inv X pins σ H' s2 /\ RelV x u /\ J.yld i H x H' /\ tn (i + 1) s2.heap /\ ∀ b ∈ fp, H' b = none) E s1) E s
  done : ∀ (X : Cx), X.prog = P -> X.w = w -> X.K = K -> X.calm = true -> ∀ (i : Nat) (pins : List (Addr × Obj)) (s : Shared) (σ : St) (H : Hp) (E : Value -> Shared -> Prop), Inv X pins σ H s -> (∀ b ∈ fp, oJ X pins H b) -> tn i s.heap -> J.stop i H ->
    wpAny (model P w) X.A (pyNext (.ref it)) (fun r s1 => r = none /\ Inv X pins σ H s1) E s
  self : ∀ (A : Around) (i : Nat) (s : Shared) (Q : Value -> Shared -> Prop) (E : Value -> Shared -> Prop), tn i s.heap -> Q (.ref it) s -> wpAny (model P w) A (pyIter (.ref it)) Q E s
abbrev TI := St -> Hp -> (It -> Hp -> Prop) -> Prop
def PIE (X : Cx) (pins : List (Addr × Obj)) (σ : St) (tg : Expr) (R : It -> Hp -> Prop) (Pq : Value) (s2 : Shared) : Prop :=
  ∃ (it : Addr) (fp : List Addr) (tn : Nat -> Heap -> Prop) (J : It) (H' : Hp), Pq = .ref it /\ Inv X pins σ H' s2 /\ Turn X.prog X.w X.K tg J fp it tn /\ tn 0 s2.heap /\ (∀ b ∈ fp, oJ X pins H' b) /\ R J H'
def PI (X : Cx) (tg iter : Expr) (wi : TI) : Prop :=
  ∀ (pins : List (Addr × Obj)) (s : Shared) (σ : St) (H : Hp) (R : It -> Hp -> Prop), Inv X pins σ H s -> wi σ H R ->
    wpAny (model X.prog X.w) X.A (eval iter X.env) (fun v s1 => wpAny (model X.prog X.w) X.A (pyIter v) (PIE X pins σ tg R) X.xe s1) X.xe s
theorem JD {M : Model} {s : Shared} {it : Addr} {o : Obj} {n : String} {vs : Array Value} {Q : Unit -> Shared -> Prop} (ho : s.heap.get? it = some o) (hc : o.cls = .type n) (hd : o.data = .fields vs)
    (hn : ["enumerate", "zip", "dict_itemiterator", "dict_reverseitemiterator", "odict_iterator", "itertools.zip_longest", "itertools.pairwise"].contains n = false) (hQ : Q () s) : wpAny M A (letOwnedTupleGo tg (.ref it) u) Q E s := by
  unfold letOwnedTupleGo
  cases tg <;> first
    | exact Vo hQ
    | (cases u <;> first
        | exact Vo hQ
        | (refine Vi (wpAny_load ho ?_)
           rw [hc, hd]
           show wpAny M A (if (["enumerate", "zip", "dict_itemiterator", "dict_reverseitemiterator", "odict_iterator", "itertools.zip_longest", "itertools.pairwise"].contains n && vs[0]? == some (rawInt _)) = true then _ else _) Q E s
           rw [Vh (by intro h; rw [hn, Bool.false_and] at h; cases h)]
           exact Vo hQ))
def Itl (K : FG) (a : Addr) : It :=
  ⟨fun i H => ∃ xs x, SqL K H a xs /\ xs[i]? = some x, fun i H x H' => H' = H /\ ∀ xs, SqL K H a xs -> xs[i]? = some x, fun i H => ∃ xs, SqL K H a xs /\ xs.length <= i⟩
def Itt (K : FG) (a : Addr) : It :=
  ⟨fun i H => ∃ xs x, SqT K H a xs /\ xs[i]? = some x, fun i H x H' => H' = H /\ ∀ xs, SqT K H a xs -> xs[i]? = some x, fun i H => ∃ xs, SqT K H a xs /\ xs.length <= i⟩
theorem EL {K : FG} (a it : Addr) : Turn P w K tg (Itl K a) [it] it (fun i h => h.IsListIter it a i) where
  mem := by simp
  obj := fun i h st b hb => by
    have e : b = it := by simpa using hb
    subst e
    obtain ⟨o, e, c, d⟩ := st
    exact ⟨o, e, fun v z => by rw [d] at z; cases z⟩
  keep := fun i h h' st k => st.at fun o e => k it (by simp) o e
  item := by
    intro X hP hw hK hc i pins s σ H E I hf st hg
    subst hP hw hK
    obtain ⟨xs, x, hq, hx⟩ := hg
    obtain ⟨aK, rv, p, hz⟩ := I.list hq
    obtain ⟨u, hu, ru⟩ := rv.get hx
    obtain ⟨f0, f1, f2, f3, f4, f5⟩ := hf it (by simp)
    refine wpAny_pyNext_list_item st p.isList (x := u) (by simpa using hu) fun h' tX sb => ?_
    have I1 : Inv X pins σ H { s with heap := h' } := I.turned (t' := s.toks) (fun b o hb e => (sb.2 b hb).trans e) f0 f1 f3 f4 f5
    obtain ⟨o, e, c, d⟩ := id tX
    exact ⟨u, rfl, JD (s := { s with heap := h' }) e c d (by decide) ⟨x, H, I1, ru, ⟨rfl, fun ys hy => by rw [I.uP hy hq]; exact hx⟩, tX, fun b hb => (hf b hb).1⟩⟩
  done := by
    intro X hP hw hK hc i pins s σ H E I hf st hg
    subst hP hw hK
    obtain ⟨xs, hq, hx⟩ := hg
    obtain ⟨aK, rv, p, hz⟩ := I.list hq
    obtain ⟨f0, f1, f2, f3, f4, f5⟩ := hf it (by simp)
    have hl := rv.length
    exact wpAny_pyNext_list_end (I.ok.hd hc) st p.isList (by simp; omega) fun h' eb => ⟨rfl, I.turned (t' := s.toks) (fun b o hb e => eb b o hb e) f0 f1 f3 f4 f5⟩
  self := fun _ _ _ _ _ st h => wpAny_pyIter_listiter st h
theorem Ck {K : FG} (a it : Addr) : Turn P w K tg (Itt K a) [it] it (fun i h => h.IsTupleIter it a i) where
  mem := by simp
  obj := fun i h st b hb => by
    have e : b = it := by simpa using hb
    subst e
    obtain ⟨o, e, c, d⟩ := st
    exact ⟨o, e, fun v z => by rw [d] at z; cases z⟩
  keep := fun i h h' st k => st.at fun o e => k it (by simp) o e
  item := by
    intro X hP hw hK hc i pins s σ H E I hf st hg
    subst hP hw hK
    obtain ⟨xs, x, hq, hx⟩ := hg
    obtain ⟨aK, rv, p, hz⟩ := I.tuple hq
    obtain ⟨u, hu, ru⟩ := rv.get hx
    obtain ⟨f0, f1, f2, f3, f4, f5⟩ := hf it (by simp)
    refine wpAny_pyNext_tuple_item st (show s.heap.IsTuple a aK.toArray from p) (x := u) (by simpa using hu) fun h' tX sb => ?_
    have I1 : Inv X pins σ H { s with heap := h' } := I.turned (t' := s.toks) (fun b o hb e => (sb.2 b hb).trans e) f0 f1 f3 f4 f5
    obtain ⟨o, e, c, d⟩ := id tX
    exact ⟨u, rfl, JD (s := { s with heap := h' }) e c d (by decide) ⟨x, H, I1, ru, ⟨rfl, fun ys hy => by rw [I.EK hy hq]; exact hx⟩, tX, fun b hb => (hf b hb).1⟩⟩
  done := by
    intro X hP hw hK hc i pins s σ H E I hf st hg
    subst hP hw hK
    obtain ⟨xs, hq, hx⟩ := hg
    obtain ⟨aK, rv, p, hz⟩ := I.tuple hq
    obtain ⟨f0, f1, f2, f3, f4, f5⟩ := hf it (by simp)
    have hl := rv.length
    exact wpAny_pyNext_tuple_end (I.ok.hd hc) st (show s.heap.IsTuple a aK.toArray from p) (by simp; omega) fun h' eb => ⟨rfl, I.turned (t' := s.toks) (fun b o hb e => eb b o hb e) f0 f1 f3 f4 f5⟩
  self := fun _ _ _ _ _ st h => wpAny_pyIter_tupleiter st h
end L2
namespace L2
section
variable {X : Cx} {tg : Expr}
def bO (K : FG) (tl : TE) : TI := fun σ H R => tl σ H fun x H1 => ∃ a, x = .ref a /\ (∃ xs, SqL K H1 a xs) /\ R (Itl K a) H1
def Kr (K : FG) (tl : TE) : TI := fun σ H R => tl σ H fun x H1 => ∃ a, x = .ref a /\ (∃ xs, SqT K H1 a xs) /\ R (Itt K a) H1
theorem bg {tl : TE} (hl : PE X l tl) : PI X tg l (bO X.K tl) := by
  intro pins s σ H R I h
  refine thn (hl pins s σ H _ I h) fun v s1 ⟨x, H1, I1, r1, q1⟩ => ?_
  obtain ⟨a, e, ⟨xs, hq⟩, q⟩ := q1
  subst e
  cases r1
  obtain ⟨aK, rv, p, hz⟩ := I1.list hq
  refine wpAny_pyIter_list p.isList ?_
  refine ⟨s1.heap.objs.size, [s1.heap.objs.size], _, _, H1, rfl, I1.kept (t' := s1.toks) fun b o e => Vm _ e, EL a _, ⟨_, VA _ rfl, rfl, rfl⟩, fun b hb => ?_, q⟩
  have e : b = s1.heap.objs.size := by simpa using hb
  subst e
  exact I1.Cj (Vq _) (I1.hok.fresh (Vq _))
theorem Ks {tl : TE} (hl : PE X l tl) : PI X tg l (Kr X.K tl) := by
  intro pins s σ H R I h
  refine thn (hl pins s σ H _ I h) fun v s1 ⟨x, H1, I1, r1, q1⟩ => ?_
  obtain ⟨a, e, ⟨xs, hq⟩, q⟩ := q1
  subst e
  cases r1
  obtain ⟨aK, rv, p, hz⟩ := I1.tuple hq
  refine wpAny_pyIter_tuple (show s1.heap.IsTuple a aK.toArray from p) ?_
  refine ⟨s1.heap.objs.size, [s1.heap.objs.size], _, _, H1, rfl, I1.kept (t' := s1.toks) fun b o e => Vm _ e, Ck a _, ⟨_, VA _ rfl, rfl, rfl⟩, fun b hb => ?_, q⟩
  have e : b = s1.heap.objs.size := by simpa using hb
  subst e
  exact I1.Cj (Vq _) (I1.hok.fresh (Vq _))
def lX (wi : TI) (g : TG) (tb : TS) : TS := fun D σ H => wi σ H fun J H1 => ∃ W : Nat -> Nat -> St -> Hp -> Prop, (∃ m, W 0 m σ H1) /\ ∀ i m σ H, W i m σ H ->
  (J.stop i H /\ D.nx σ H) \/ (J.go i H /\ ∃ N : St -> Hp -> Prop, (∀ σ' H', N σ' H' -> ∃ m', m' < m /\ W (i + 1) m' σ' H') /\ ∀ x H', J.yld i H x H' -> g x σ H' fun σ2 H2 => tb { D with nx := N, ct := N, bk := D.nx } σ2 H2)
def uR (fp : List Addr) (h : Heap) : List (Addr × Obj) := fp.filterMap fun b => (h.get? b).map fun o => (b, o)
theorem oK {fp : List Addr} {h : Heap} {b : Addr} {o : Obj} (hb : b ∈ fp) (e : h.get? b = some o) : (b, o) ∈ uR fp h := List.mem_filterMap.mpr ⟨b, hb, by rw [e]; rfl⟩
theorem EM {p : Addr × Obj} (hp : p ∈ uR fp h) : p.1 ∈ fp /\ h.get? p.1 = some p.2 := by
  obtain ⟨b, hb, e⟩ := List.mem_filterMap.mp hp
  cases q : h.get? b with
  | none => rw [q] at e; cases e
  | some o =>
    rw [q] at e
    have e' : (b, o) = p := Option.some.inj e
    subst e'
    exact ⟨hb, q⟩
theorem Inv.pinned {H : Hp} {fp : List Addr} (I : Inv X pins σ H s) (hf : ∀ b ∈ fp, oJ X pins H b) (ho : ∀ b ∈ fp, ∃ o, s.heap.get? b = some o /\ ∀ v, o.data ≠ .cell v) : Inv X (pins ++ uR fp s.heap) σ H s :=
  I.qd fun p hp => (mem_append.mp hp).elim (fun z => I.pin p (VR _ z)) fun z => by
    obtain ⟨hb, e⟩ := EM z
    obtain ⟨f0, f1, f2, _⟩ := hf p.1 hb
    obtain ⟨o, e', d⟩ := ho p.1 hb
    rw [e] at e'; cases e'
    exact ⟨e, f0, f1, f2, d⟩
theorem Inv.f6 {pins pl : List (Addr × Obj)} {σ : St} {H : Hp} {s : Shared} (I : Inv X (pins ++ pl) σ H s) : Inv X pins σ H s := I.qd fun p hp => I.pin p (VR _ (Wd _ hp))
theorem dX {wi : TI} (hp : PassesOwn (model X.prog X.w) X.A X.env X.xe) (hc : X.calm = true) (hi : PI X tg iter wi) (hg : PG X tg g) (hb : PSs X body tb)
    (hs : ∀ x, foldedSetIterable iter X.env x = pure x := by intro _; rfl) : PS X (.For tg iter body [] pos) (lX wi g tb) := by
  intro pins s σ H D I h
  refine wpAny_For (thn (hi pins s σ H _ I h) fun v s1 h1 => thn h1 fun Pq s2 h2 => ?_) hs
  obtain ⟨it, fp, tn, J, H2, e, I2, T, Ot, f2, W, ⟨m0, w0⟩, turn⟩ := h2
  subst e
  have Cm : ∀ {H' : Hp}, (∀ b ∈ fp, H' b = none) -> ∀ b ∈ fp, oJ X pins H' b := fun hn b hb => ⟨hn b hb, (f2 b hb).2⟩
  refine codeAny_forLoop_any (fun n s' => ∃ i σ' H', Inv X pins σ' H' s' /\ tn i s'.heap /\ (∀ b ∈ fp, H' b = none) /\ W i n σ' H') ?_ m0 ⟨0, σ, H2, I2, Ot, fun b hb => (f2 b hb).1, w0⟩
  rintro n s3 ⟨i, σ3, H3, I3, Ou, Rw, w3⟩
  rcases turn i n σ3 H3 w3 with ⟨stop, qn⟩ | ⟨go, N, hN, step⟩
  . refine wpAny_passesOwn hp (thn (T.done X rfl rfl rfl hc i pins s3 σ3 H3 X.xe I3 (Cm Rw) Ou stop) fun r s4 ⟨hr, I4⟩ => ?_)
    subst hr
    exact wpAny_execs_nil ⟨σ3, H3, I4, qn⟩
  . refine wpAny_passesOwn hp (thn (T.item X rfl rfl rfl hc i pins s3 σ3 H3 X.xe I3 (Cm Rw) Ou go) fun r s4 ⟨u, hr, h4⟩ => ?_)
    subst hr
    refine wpAny_passesOwn hp (thn h4 fun _ s5 ⟨x, H5, I5, r5, y5, Mg, SX⟩ => ?_)
    have SY := I5.pinned (Cm SX) (T.obj _ _ Mg)
    refine wpAny_passesOwn hp (thn (hg _ s5 σ3 H5 x u _ SY r5 (step x H5 y5)) fun _ s6 ⟨σ6, H6, I6, q6⟩ => ?_)
    refine wpAny_passesOwn hp (thn (hb _ s6 σ6 H6 _ I6 q6) fun f s7 q7 => ?_)
    have again : ∀ {σ7 : St} {H7 : Hp}, Inv X (pins ++ uR fp s5.heap) σ7 H7 s7 -> N σ7 H7 -> ∃ m, m < n /\ ∃ i σ' H', Inv X pins σ' H' s7 /\ tn i s7.heap /\ (∀ b ∈ fp, H' b = none) /\ W i m σ' H' := fun {σ7 H7} I7 n7 => by
      obtain ⟨m', hm, w7⟩ := hN σ7 H7 n7
      refine ⟨m', hm, i + 1, σ7, H7, I7.f6, T.keep _ _ _ Mg fun b hb o e => (I7.pin (b, o) (VR _ (VR _ (oK hb e)))).1, fun b hb => ?_, w7⟩
      obtain ⟨o, e, d⟩ := T.obj _ _ Mg b hb
      exact (I7.pin (b, o) (VR _ (VR _ (oK hb e)))).2.1
    cases f with
    | next => obtain ⟨σ7, H7, I7, n7⟩ := q7; exact again I7 n7
    | cont => obtain ⟨σ7, H7, I7, n7⟩ := q7; exact again I7 n7
    | brk => obtain ⟨σ7, H7, I7, q7⟩ := q7; exact ⟨σ7, H7, I7.f6, q7⟩
    | ret v => obtain ⟨x7, σ7, H7, I7, r7, q7⟩ := q7; exact ⟨x7, σ7, H7, I7.f6, r7, q7⟩
end
end L2
namespace L2
abbrev R2 := V -> V -> Hp -> VK -> Prop
def OpR (X : Cx) (f : Value -> Value -> Sem Value) (r : R2) : Prop :=
  ∀ (pins : List (Addr × Obj)) (s : Shared) (σ : St) (H : Hp) (x y : V) (v u : Value) (Q : VK), Inv X pins σ H s -> RelV x v -> RelV y u -> r x y H Q ->
    wpAny (model X.prog X.w) X.A (f v u) (EP X pins σ Q) X.xe s
def UnR (X : Cx) (f : Value -> Sem Value) (r : V -> Hp -> VK -> Prop) : Prop :=
  ∀ (pins : List (Addr × Obj)) (s : Shared) (σ : St) (H : Hp) (x : V) (v : Value) (Q : VK), Inv X pins σ H s -> RelV x v -> r x H Q ->
    wpAny (model X.prog X.w) X.A (f v) (EP X pins σ Q) X.xe s
def mm (X : Cx) (f : Value) (r : List V -> Hp -> VK -> Prop) : Prop :=
  ∀ (pins : List (Addr × Obj)) (s : Shared) (σ : St) (H : Hp) (xs : List V) (us : List Value) (Q : VK), Inv X pins σ H s -> Vals xs us -> r xs H Q ->
    wpAny (model X.prog X.w) X.A (call f us) (EP X pins σ Q) X.xe s
def tOp (r : R2) (ta tb : TE) : TE := fun σ H Q => ta σ H fun x H1 => tb σ H1 fun y H2 => r x y H2 Q
def tUn (r : V -> Hp -> VK -> Prop) (ta : TE) : TE := fun σ H Q => ta σ H fun x H1 => r x H1 Q
def rI (C : Int -> Int -> Prop) (g : Int -> Int -> V) : R2 := fun x y H Q => ∃ i j, x = .int i /\ y = .int j /\ C i j /\ Q (g i j) H
def rI0 (g : Int -> Int -> V) : R2 := fun x y H Q => ∃ i j, x = .int i /\ y = .int j /\ Q (g i j) H
def rU (g : Int -> V) : V -> Hp -> VK -> Prop := fun x H Q => ∃ i, x = .int i /\ Q (g i) H
section
variable {X : Cx} {a b c : Expr} {ta tb tc : TE} {pos : Pos}
theorem Kt (ha : PE X a ta) (hb : PE X b tb) {H : Hp} {R : V -> V -> Hp -> Prop} (I : Inv X pins σ H s)
    (h : ta σ H fun x H1 => tb σ H1 fun y H2 => R x y H2) {f : Value -> Value -> Sem Value}
    (hf : ∀ v u s2 x y H2, Inv X pins σ H2 s2 -> RelV x v -> RelV y u -> R x y H2 -> wpAny (model X.prog X.w) X.A (f v u) Q X.xe s2) :
    wpAny (model X.prog X.w) X.A (eval a X.env) (fun v s₁ => wpAny (model X.prog X.w) X.A (eval b X.env) (fun u s₂ => wpAny (model X.prog X.w) X.A (f v u) Q X.xe s₂) X.xe s₁) X.xe s := by
  refine thn (ha pins s σ H _ I h) fun v s1 ⟨x, H1, I1, r1, q1⟩ => ?_
  refine thn (hb pins s1 σ H1 _ I1 q1) fun u s2 ⟨y, H2, I2, r2, q2⟩ => ?_
  exact hf v u s2 x y H2 I2 r1 r2 q2
theorem bB {op : Operator} (ho : OpR X (binaryOp op) r) (ha : PE X a ta) (hb : PE X b tb) : PE X (.BinOp a op b pos) (tOp r ta tb) := by
  intro pins s σ H Q I h
  exact wpAny_BinOp (Kt ha hb I h fun v u s2 x y H2 I2 rx ry q => ho pins s2 σ H2 x y v u Q I2 rx ry q)
theorem dC {op : UnaryOp} {r : V -> Hp -> VK -> Prop} (ho : UnR X (unaryOp op) r) (ha : PE X a ta) : PE X (.UnaryOp op a pos) (tUn r ta) := by
  intro pins s σ H Q I h
  exact UnaryOp_ (thn (ha pins s σ H _ I h) fun v s1 ⟨x, H1, I1, r1, q1⟩ => ho pins s1 σ H1 x v Q I1 r1 q1)
theorem opI {f : Value -> Value -> Sem Value} {C : Int -> Int -> Prop} {g : Int -> Int -> Int}
    (rule : ∀ (i j : Int) (t u : Tok) (s : Shared) (Q : Value -> Shared -> Prop) (E : Value -> Shared -> Prop), C i j -> Q (.int (g i j) s.toks) { s with toks := s.toks + 1 } -> wpAny (model X.prog X.w) X.A (f (.int i t) (.int j u)) Q E s) :
    OpR X f (rI C fun i j => .int (g i j)) := by
  intro pins s σ H x y v u Q I rx ry h
  obtain ⟨i, j, rfl, rfl, hc, q⟩ := h
  obtain ⟨t, rfl⟩ := rx
  obtain ⟨t', rfl⟩ := ry
  exact rule i j t t' s _ _ hc ⟨.int (g i j), H, I.tok _, ⟨_, rfl⟩, q⟩
theorem MG {f : Value -> Value -> Sem Value} {g : Int -> Int -> Int}
    (rule : ∀ (i j : Int) (t u : Tok) (s : Shared) (Q : Value -> Shared -> Prop) (E : Value -> Shared -> Prop), Q (.int (g i j) s.toks) { s with toks := s.toks + 1 } -> wpAny (model X.prog X.w) X.A (f (.int i t) (.int j u)) Q E s) :
    OpR X f (rI0 fun i j => .int (g i j)) := by
  intro pins s σ H x y v u Q I rx ry h
  obtain ⟨i, j, rfl, rfl, q⟩ := h
  obtain ⟨t, rfl⟩ := rx
  obtain ⟨t', rfl⟩ := ry
  exact rule i j t t' s _ _ ⟨.int (g i j), H, I.tok _, ⟨_, rfl⟩, q⟩
theorem HW {f : Value -> Value -> Sem Value} {g : Int -> Int -> Bool}
    (rule : ∀ (i j : Int) (t u : Tok) (s : Shared) (Q : Value -> Shared -> Prop) (E : Value -> Shared -> Prop), Q (.bool (g i j)) s -> wpAny (model X.prog X.w) X.A (f (.int i t) (.int j u)) Q E s) :
    OpR X f (rI0 fun i j => .bl (g i j)) := by
  intro pins s σ H x y v u Q I rx ry h
  obtain ⟨i, j, rfl, rfl, q⟩ := h
  obtain ⟨t, rfl⟩ := rx
  obtain ⟨t', rfl⟩ := ry
  exact rule i j t t' s _ _ ⟨.bl (g i j), H, I, rfl, q⟩
def kz (i j : Int) : Prop := (-(2 ^ 64) < i /\ i < 2 ^ 64) \/ (-(2 ^ 64) < j /\ j < 2 ^ 64)
theorem kz.ok {i j : Int} (h : kz i j) : IntMulOk i j := by
  rcases h with ⟨h1, h2⟩ | ⟨h1, h2⟩
  . exact .of_left (intBits_le_64 h1 h2)
  . exact .of_right (intBits_le_64 h1 h2)
theorem gh : OpR X (binaryOp .Add) (rI0 fun i j => .int (i + j)) := MG fun _ _ _ _ _ _ _ q => add_int q
theorem jg : OpR X (binaryOp .Sub) (rI0 fun i j => .int (i - j)) := MG fun _ _ _ _ _ _ _ q => sub_int q
theorem jh : OpR X (binaryOp .Mult) (rI kz fun i j => .int (i * j)) := opI fun _ _ _ _ _ _ _ hc q => mul_int q hc.ok
theorem unI {f : Value -> Sem Value} {g : Int -> Int}
    (rule : ∀ (i : Int) (t : Tok) (s : Shared) (Q : Value -> Shared -> Prop) (E : Value -> Shared -> Prop), Q (.int (g i) s.toks) { s with toks := s.toks + 1 } -> wpAny (model X.prog X.w) X.A (f (.int i t)) Q E s) :
    UnR X f (rU fun i => .int (g i)) := by
  intro pins s σ H x v Q I rx h
  obtain ⟨i, rfl, q⟩ := h
  obtain ⟨t, rfl⟩ := rx
  exact rule i t s _ _ ⟨.int (g i), H, I.tok _, ⟨_, rfl⟩, q⟩
theorem cj : UnR X (unaryOp .USub) (rU fun i => .int (-i)) := unI fun _ _ _ _ _ q => neg_int q
end
def HX : V -> V -> Bool
  | .non, .non => true | .non, .int _ => true | .int _, .non => true | .non, .bl _ => true | .bl _, .non => true | .non, .str _ => true | .str _, .non => true
  | .int _, .int _ => true | .bl _, .bl _ => true | .str _, .str _ => true | .Aw _, .Aw _ => true
  | .int _, .str _ => true | .str _, .int _ => true | .bl _, .str _ => true | .str _, .bl _ => true
  | _, _ => false
def rEq : R2 := fun x y H Q => HX x y = true /\ Q (.bl (decide (x = y))) H
def rNe : R2 := fun x y H Q => HX x y = true /\ Q (.bl (!decide (x = y))) H
theorem DY {i j : Int} : decide (V.int i = V.int j) = (i == j) := by
  rw [Bool.eq_iff_iff]
  simp
theorem F4 {i j : Bool} : decide (V.bl i = V.bl j) = (i == j) := by
  rw [Bool.eq_iff_iff]
  simp
theorem DZ : decide (V.str i = V.str j) = (i == j) := by
  rw [Bool.eq_iff_iff]
  simp
theorem D0 {i j : Array UInt8} : decide (V.Aw i = V.Aw j) = (i.toList == j.toList) := by
  rw [Bool.eq_iff_iff]
  cases i
  cases j
  simp
section
variable {X : Cx} {a b c : Expr} {ta tb tc : TE} {pos : Pos}
theorem bG {H : Hp} {Q : VK} {k k' : Bool} (I : Inv X pins σ H s) (q : Q (.bl k) H) (e : k = k') : EP X pins σ Q (.bool k') s := by
  subst e
  exact ⟨.bl k, H, I, rfl, q⟩
theorem qf : OpR X (compareOp .Eq) rEq := by
  intro pins s σ H x y v u Q I rx ry h
  obtain ⟨hs, q⟩ := h
  cases x with
  | non =>
    cases rx
    cases y with
    | non => cases ry; exact PySem.EqNone.eq_none_none (bG I q (by simp))
    | bl j => cases ry; exact PySem.EqNone.eq_none_bool (bG I q (by simp))
    | int j => obtain ⟨t', rfl⟩ := ry; exact PySem.EqNone.eq_none_int (bG I q (by simp))
    | str j => obtain ⟨t', rfl⟩ := ry; exact PySem.EqNone.eq_none_str (bG I q (by simp))
    | _ => exact absurd (show false = true from hs) VD
  | bl i =>
    cases rx
    cases y with
    | non => cases ry; exact PySem.EqNone.eq_bool_none (bG I q (by simp))
    | bl j => cases ry; exact eq_bool (bG I q F4)
    | str j => obtain ⟨t', rfl⟩ := ry; exact PySem.EqMixed.eq_bool_str (bG I q (by simp))
    | _ => exact absurd (show false = true from hs) VD
  | int i =>
    obtain ⟨t, rfl⟩ := rx
    cases y with
    | non => cases ry; exact PySem.EqNone.eq_int_none (bG I q (by simp))
    | int j => obtain ⟨t', rfl⟩ := ry; exact eq_int (bG I q DY)
    | str j => obtain ⟨t', rfl⟩ := ry; exact PySem.EqMixed.eq_int_str (bG I q (by simp))
    | _ => exact absurd (show false = true from hs) VD
  | str i =>
    obtain ⟨t, rfl⟩ := rx
    cases y with
    | non => cases ry; exact PySem.EqNone.eq_str_none (bG I q (by simp))
    | bl j => cases ry; exact PySem.EqMixed.eq_str_bool (bG I q (by simp))
    | int j => obtain ⟨t', rfl⟩ := ry; exact PySem.EqMixed.eq_str_int (bG I q (by simp))
    | str j => obtain ⟨t', rfl⟩ := ry; exact eq_str (bG I q DZ)
    | _ => exact absurd (show false = true from hs) VD
  | Aw i =>
    obtain ⟨t, rfl⟩ := rx
    cases y with
    | Aw j => obtain ⟨t', rfl⟩ := ry; exact PySem.W.eq_bytes (bG I q D0)
    | _ => exact absurd (show false = true from hs) VD
  | _ => cases y <;> exact absurd (show false = true from hs) VD
theorem D9 : OpR X (compareOp .NotEq) rNe := by
  intro pins s σ H x y v u Q I rx ry h
  obtain ⟨hs, q⟩ := h
  cases x with
  | non =>
    cases rx
    cases y with
    | non => cases ry; exact PySem.EqNone.ne_none_none (bG I q (by simp))
    | bl j => cases ry; exact PySem.EqNone.ne_none_bool (bG I q (by simp))
    | int j => obtain ⟨t', rfl⟩ := ry; exact PySem.EqNone.ne_none_int (bG I q (by simp))
    | str j => obtain ⟨t', rfl⟩ := ry; exact PySem.EqNone.ne_none_str (bG I q (by simp))
    | _ => exact absurd (show false = true from hs) VD
  | bl i =>
    cases rx
    cases y with
    | non => cases ry; exact PySem.EqNone.ne_bool_none (bG I q (by simp))
    | bl j => cases ry; exact ne_bool (bG I q (congrArg not F4))
    | str j => obtain ⟨t', rfl⟩ := ry; exact PySem.EqMixed.ne_bool_str (bG I q (by simp))
    | _ => exact absurd (show false = true from hs) VD
  | int i =>
    obtain ⟨t, rfl⟩ := rx
    cases y with
    | non => cases ry; exact PySem.EqNone.ne_int_none (bG I q (by simp))
    | int j => obtain ⟨t', rfl⟩ := ry; exact ne_int (bG I q (congrArg not DY))
    | str j => obtain ⟨t', rfl⟩ := ry; exact PySem.EqMixed.ne_int_str (bG I q (by simp))
    | _ => exact absurd (show false = true from hs) VD
  | str i =>
    obtain ⟨t, rfl⟩ := rx
    cases y with
    | non => cases ry; exact PySem.EqNone.ne_str_none (bG I q (by simp))
    | bl j => cases ry; exact PySem.EqMixed.ne_str_bool (bG I q (by simp))
    | int j => obtain ⟨t', rfl⟩ := ry; exact PySem.EqMixed.ne_str_int (bG I q (by simp))
    | str j => obtain ⟨t', rfl⟩ := ry; exact ne_str (bG I q (congrArg not DZ))
    | _ => exact absurd (show false = true from hs) VD
  | Aw i =>
    obtain ⟨t, rfl⟩ := rx
    cases y with
    | Aw j => obtain ⟨t', rfl⟩ := ry; exact PySem.W.ne_bytes (bG I q (congrArg not D0))
    | _ => exact absurd (show false = true from hs) VD
  | _ => cases y <;> exact absurd (show false = true from hs) VD
theorem qg : OpR X (compareOp .Lt) (rI0 fun i j => .bl (decide (i < j))) := HW fun _ _ _ _ _ _ _ q => lt_int q
theorem xX : OpR X (compareOp .LtE) (rI0 fun i j => .bl (decide (i <= j))) := HW fun _ _ _ _ _ _ _ q => le_int q
theorem oj : OpR X (compareOp .Gt) (rI0 fun i j => .bl (decide (j < i))) := HW fun _ _ _ _ _ _ _ q => gt_int q
theorem AB : OpR X (compareOp .GtE) (rI0 fun i j => .bl (decide (j <= i))) := HW fun _ _ _ _ _ _ _ q => ge_int q
theorem Cn : OpR X (compareOp .Is) (fun x y H Q => y = .non /\ Q (.bl (decide (x = .non))) H) := by
  intro pins s σ H x y v u Q I rx ry h
  obtain ⟨rfl, q⟩ := h
  cases ry
  refine is_none_gen (bG I q ?_)
  cases x <;> first
    | (cases rx; rfl)
    | (obtain ⟨t, rfl⟩ := rx; rfl)
theorem bh (b : Expr) {op : CmpOp} (h : op ≠ .In := by decide) (h2 : op ≠ .NotIn := by decide) : behindInMarks op b = false := by
  have e1 : (op == CmpOp.In) = false := by cases op <;> first | rfl | exact absurd rfl h
  have e2 : (op == CmpOp.NotIn) = false := by cases op <;> first | rfl | exact absurd rfl h2
  cases b <;> simp [behindInMarks, e1, e2]
theorem tY {op : CmpOp} (ho : OpR X (compareOp op) r) (ha : PE X a ta) (hb : PE X b tb) (hm : behindInMarks op b = false) : PE X (.Compare a [op] [b] pos) (tOp r ta tb) := by
  intro pins s σ H Q I h
  exact wpAny_Compare1 (Kt ha hb I h fun v u s2 x y H2 I2 rx ry q => ho pins s2 σ H2 x y v u Q I2 rx ry q) hm
def bC (t : TE) : TT := fun σ H Q => t σ H fun x H' => ∃ k, x = .bl k /\ Q k H'
theorem aU {op : CmpOp} (ho : OpR X (compareOp op) r) (ha : PE X a ta) (hb : PE X b tb) (hm : behindInMarks op b = false) : PT X (.Compare a [op] [b] pos) (bC (tOp r ta tb)) := by
  intro pins s σ H Q I h
  refine wpAny_isTrue_Compare1 (thn (ha pins s σ H _ I h) fun v s1 ⟨x, H1, I1, r1, q1⟩ => thn (hb pins s1 σ H1 _ I1 q1) fun u s2 ⟨y, H2, I2, r2, q2⟩ =>
    thn (ho pins s2 σ H2 x y v u _ I2 r1 r2 q2) fun c s3 ⟨z, H3, I3, r3, k, e, q3⟩ => ?_) hm
  subst e
  cases r3
  exact V6 ⟨H3, I3, q3⟩
def rj (r r' : R2) (ta tb tc : TE) : TE := fun σ H Q => ta σ H fun x H1 => tb σ H1 fun y H2 => r x y H2 fun z H3 => ∃ k, z = .bl k /\
  (if k = true then tc σ H3 fun w' H4 => r' y w' H4 Q else Q (.bl false) H3)
theorem AD {op Ku : CmpOp} (ho : OpR X (compareOp op) r) (wO : OpR X (compareOp Ku) r') (ha : PE X a ta) (hb : PE X b tb) (hc : PE X c tc)
    (hm : lastMarks [op, Ku] [b, c] = false := by with_unfolding_all rfl) : PE X (.Compare a [op, Ku] [b, c] pos) (rj r r' ta tb tc) := by
  intro pins s σ H Q I h
  refine Compare_chain (thn (ha pins s σ H _ I h) fun v s1 ⟨x, H1, I1, r1, q1⟩ => chain_link (thn (hb pins s1 σ H1 _ I1 q1) fun u s2 ⟨y, H2, I2, r2, q2⟩ =>
    thn (ho pins s2 σ H2 x y v u _ I2 r1 r2 q2) fun d s3 ⟨z, H3, I3, r3, k, e, q3⟩ => ?_)) hm
  subst e
  cases r3
  refine V6 ?_
  cases k with
  | false => exact ite_ff ⟨.bl false, H3, I3, rfl, q3⟩
  | true => exact ite_tt (chain_last (thn (hc pins s3 σ H3 _ I3 q3) fun w' s4 ⟨z', H4, I4, r4, q4⟩ => wO pins s4 σ H4 y z' u w' Q I4 r2 r4 q4))
theorem F5 {op Ku : CmpOp} (ho : OpR X (compareOp op) r) (wO : OpR X (compareOp Ku) r') (ha : PE X a ta) (hb : PE X b tb) (hc : PE X c tc)
    (hm : lastMarks [op, Ku] [b, c] = false := by with_unfolding_all rfl) : PT X (.Compare a [op, Ku] [b, c] pos) (bC (rj r r' ta tb tc)) := by
  intro pins s σ H Q I h
  refine isTrue_chain (thn (ha pins s σ H _ I h) fun v s1 ⟨x, H1, I1, r1, q1⟩ => test_link (thn (hb pins s1 σ H1 _ I1 q1) fun u s2 ⟨y, H2, I2, r2, q2⟩ =>
    thn (ho pins s2 σ H2 x y v u _ I2 r1 r2 q2) fun d s3 ⟨z, H3, I3, r3, k, e, q3⟩ => ?_)) hm
  subst e
  cases r3
  refine V6 ?_
  cases k with
  | false =>
    obtain ⟨k', e', q'⟩ := q3
    cases e'
    exact ite_ff ⟨H3, I3, q'⟩
  | true =>
    refine ite_tt (test_last (thn (hc pins s3 σ H3 _ I3 q3) fun w' s4 ⟨z', H4, I4, r4, q4⟩ => thn (wO pins s4 σ H4 y z' u w' _ I4 r2 r4 q4) fun d' s5 ⟨z2, H5, I5, r5, k2, e2, q5⟩ => ?_))
    subst e2
    cases r5
    exact V6 ⟨H5, I5, q5⟩
theorem uS : (sizeLine : Nat) < 2 ^ 63 := by rw [Vr]; decide
theorem vals1 {x : V} (r : Vals [x] us) : ∃ u, us = [u] /\ RelV x u := by
  cases r with
  | cons r1 r2 => cases r2; exact ⟨_, rfl, r1⟩
theorem vals2 {x y : V} (r : Vals [x, y] us) : ∃ u w', us = [u, w'] /\ RelV x u /\ RelV y w' := by
  cases r with
  | cons r1 r2 =>
    cases r2 with
    | cons r3 r4 => cases r4; exact ⟨_, _, rfl, r1, r3⟩
theorem AE : mm X (.builtin "abs") (fun xs H Q => ∃ i, xs = [.int i] /\ Q (.int (if i < 0 then -i else i)) H) := by
  intro pins s σ H xs us Q I r h
  obtain ⟨i, rfl, q⟩ := h
  obtain ⟨u, rfl, t, rfl⟩ := vals1 r
  exact call_abs_int fun u tk => ⟨.int (if i < 0 then -i else i), H, I.tok _, ⟨_, rfl⟩, q⟩
theorem rm (hc : X.calm = true) : mm X (.builtin "max") (fun xs H Q => ∃ i j, xs = [.int i, .int j] /\ Q (.int (if j > i then j else i)) H) := by
  intro pins s σ H xs us Q I r h
  obtain ⟨i, j, rfl, q⟩ := h
  obtain ⟨u, w', rfl, ⟨t, rfl⟩, ⟨t', rfl⟩⟩ := vals2 r
  refine max_two_ints (I.ok.hd hc) fun h' tk k => ⟨_, H, I.kept k, ?_, q⟩
  by_cases hj : j > i
  . rw [Vj hj, Vj hj]; exact ⟨_, rfl⟩
  . rw [Vh hj, Vh hj]; exact ⟨_, rfl⟩
theorem g0 (hc : X.calm = true) : mm X (.builtin "min") (fun xs H Q => ∃ i j, xs = [.int i, .int j] /\ Q (.int (if j < i then j else i)) H) := by
  intro pins s σ H xs us Q I r h
  obtain ⟨i, j, rfl, q⟩ := h
  obtain ⟨u, w', rfl, ⟨t, rfl⟩, ⟨t', rfl⟩⟩ := vals2 r
  refine min_two_ints (I.ok.hd hc) fun h' tk k => ⟨_, H, I.kept k, ?_, q⟩
  by_cases hj : j < i
  . rw [Vj hj, Vj hj]; exact ⟨_, rfl⟩
  . rw [Vh hj, Vh hj]; exact ⟨_, rfl⟩
end
end L2
namespace L2
structure Co (h : Heap) (x dx C : Addr) (mA : SV) : Prop where
  obj : h.get? x = some (instObj C dx)
  ns : h.Ns1 dx mA
  ne : dx ≠ x
theorem EN {h : Heap} (n : h.Ns1 dx mA) : ∃ od, h.get? dx = some od /\ ∀ name, lookIn name od = some (mA name) := by
  obtain ⟨o, es, ep, ho, hd, hk, _, hm⟩ := n
  refine ⟨o, ho, fun name => ?_⟩
  have e := hm name
  unfold nsFind findBy at e
  rw [<- Array.find?_toList] at e
  unfold lookIn
  rw [hd]
  dsimp only
  split
  . rename_i y q
    rw [q] at e
    exact congrArg some e
  . rename_i q
    rw [q] at e
    have a : es.toList.any (·.refKey) = false := by
      rw [List.any_eq_false]
      intro y hy
      obtain ⟨z, t, Pr⟩ := hk y (Array.mem_toList_iff.mp hy)
      simp [DictEntry.refKey, Pr]
    have a' : ¬ es.toList.any (·.refKey) = true := by rw [a]; exact VD
    rw [Vh a']
    exact congrArg some e
theorem Co.look (I : Co h x dx C mA) : ∃ od, PySem.W.InstAt h x (instObj C dx) C (some od) /\ ∀ name, lookIn name od = some (mA name) :=
  let ⟨od, ho, hl⟩ := EN I.ns
  ⟨od, ⟨I.obj, rfl, rfl, ho⟩, hl⟩
section
variable {prog : Program} {w : World} {A : Around} {E : Value -> Shared -> Prop} {s : Shared} {K : FG} {x dx C f : Addr} {mA : SV} {name : Str} {v : Value}
theorem get_map {expr : Bool} {Q : Value -> Shared -> Prop} (X : K.In s.heap) (I : Co s.heap x dx C mA) (hg : plainGet K C name = true) (hh : hasDictIn K C = true)
    (ha : findIn K (.ref C) name = some none) (hv : mA name = some v) (Kv : handedIn v = true) (h : Q v { s with toks := s.toks + 1 }) :
    wpAny (model prog w) A (getAttr (.ref x) name expr) Q E s := by
  obtain ⟨od, J, hl⟩ := I.look
  exact PySem.W.get_value X J (plainGet_of hg).1 (PySem.W.findObj_own hh ha rfl (by rw [hl, hv])) Kv h
theorem F6 {pl : Sem Bool} {Q : Value × List Value -> Shared -> Prop} (X : K.In s.heap) (I : Co s.heap x dx C mA) (hg : plainGet K C name = true)
    (hf : findIn K (.ref C) name = some (some (.ref f))) (ht : isFn K (.ref f) = true) (hv : mA name = none) (h : Q (.ref f, [.ref x]) s) :
    wpAny (model prog w) A (getMethod (.ref x) name pl) Q E s := by
  obtain ⟨od, J, hl⟩ := I.look
  exact PySem.W.method_fn X J (plainGet_of hg).1 (plainGet_of hg).2 hf (beq_iff_eq.mp ht) (by show (lookIn name od).map (·.isSome) = some false; rw [hl, hv]; rfl) h
theorem HY {Q : Unit -> Shared -> Prop} (X : K.In s.heap) (I : Co s.heap x dx C mA)
    (hs : findIn K (.ref C) "__setattr__" = some (some (.builtin "object.__setattr__"))) (hp : plainOver K C = true) (ht : takerIn K C name = some none) (hh : hasDictIn K C = true)
    (hw : PySem.Within mA ns) (hsz : ns.length <= sizeLine)
    (h : ∀ h', Co h' x dx C (fun y => if y = name then some v else mA y) -> Heap.SameBut dx s.heap h' -> Q () { s with heap := h', toks := s.toks + 2 }) :
    wpAny (model prog w) A (setAttr (.ref x) name v) Q E s := by
  obtain ⟨od, J, hl⟩ := I.look
  refine PySem.W.set_plain X J hs (PySem.W.osa_open (s := { s with toks := s.toks + 1 }) (r := none) X J hp ht fun b => ?_)
  obtain ⟨cd, hc, Pg⟩ := PySem.W.any_some hh
  have hx : s.heap.get? x = some ⟨.ref C, some dx, .plain, #[]⟩ := I.obj
  refine Vi (Vo (Vi (Vi (wpAny_loadPart hx (Vi (Looks.here (s := { s with toks := s.toks + 1 }) (PySem.W.looks_clsIn X hc) ?_))))))
  rw [Pg]
  refine Vo (a := some dx) (Vi (Vo (Vi ?_)))
  refine wpAny_nsSet1 (s := { s with toks := s.toks + 1 }) I.ns fun h' z7 Mh => ?_
  obtain ⟨oD, esD, epD, S1, S2, S3⟩ := z7.count (PySem.Within.cons name v hw)
  refine Vi (wpAny_lookBehind S1 (by rw [S2]; exact pastItsLine_dict (VH S3 (by rw [VC]; omega))) ?_)
  exact Vo (h _ ⟨(Mh.2 _ (Ne.symm I.ne)).trans I.obj, z7, I.ne⟩ Mh)
theorem F7 {R : Result -> Shared -> Prop} {vs : List Value} {kw : List (Str × Value)} (X : K.In s.heap) (hm : makesIn K C = true)
    (hi : findIn K (.ref C) "__init__" = some (some (.ref f))) (hf : typeIn K (.ref f) = some (.type "function"))
    (h : codeAny (model prog w) (A.under (.builtin "type.__call__" ⟨.ref C :: vs, kw⟩)) (.call (.ref f) ⟨.ref (s.heap.objs.size + 1) :: vs, kw⟩) (PySem.W.InitBack (s.heap.objs.size + 1) R)
      { s with heap := (s.heap.push emptyDict).push (instObj C s.heap.objs.size) }) :
    codeAny (model prog w) A (.call (.ref C) ⟨vs, kw⟩) R s := by
  obtain ⟨hh, g, d, t, os⟩ := s
  exact PySem.W.make_core (PySem.W.makes_of X hm) (PySem.W.looks_findIn X hi) (fun self => PySem.W.bind_fn X self hf) (.inl rfl) h
end
def bS (f : Str) (v : V) : List (Str × V) -> List (Str × V)
  | [] => [(f, v)]
  | (g, x) :: r => if g = f then (g, v) :: r else (g, x) :: bS f v r
theorem sN (f g : Str) (v : V) : ∀ fs : List (Str × V), (bS f v fs).lookup g = if g = f then some v else fs.lookup g
  | [] => by
    show List.lookup g [(f, v)] = _
    by_cases h : g = f
    . have hb : (g == f) = true := beq_iff_eq.mpr h
      simp only [List.lookup, hb, Vj h]
    . have hb : (g == f) = false := beq_eq_false_iff_ne.mpr h
      simp only [List.lookup, hb, Vh h]
  | (k, x) :: r => by
    have ih := sN f g v r
    rw [show bS f v ((k, x) :: r) = (if k = f then (k, v) :: r else (k, x) :: bS f v r) from rfl]
    by_cases hk : k = f
    . rw [Vj hk]
      by_cases h : g = k
      . have hb : (g == k) = true := beq_iff_eq.mpr h
        simp only [List.lookup, hb, Vj (h.trans hk)]
      . have hb : (g == k) = false := beq_eq_false_iff_ne.mpr h
        simp only [List.lookup, hb, Vh (fun e : g = f => h (e.trans hk.symm))]
    . rw [Vh hk]
      by_cases h : g = k
      . have hb : (g == k) = true := beq_iff_eq.mpr h
        simp only [List.lookup, hb, Vh (fun e : g = f => hk (h.symm.trans e))]
      . have hb : (g == k) = false := beq_eq_false_iff_ne.mpr h
        simp only [List.lookup, hb]
        exact ih
theorem rn (f : Str) (v : V) : ∀ fs : List (Str × V), f ∈ (bS f v fs).map (·.1) /\ ∀ g, g ∈ fs.map (·.1) -> g ∈ (bS f v fs).map (·.1)
  | [] => ⟨by simp [bS], fun g h => by simp at h⟩
  | (k, x) :: r => by
    obtain ⟨i1, i2⟩ := rn f v r
    rw [show bS f v ((k, x) :: r) = (if k = f then (k, v) :: r else (k, x) :: bS f v r) from rfl]
    by_cases hk : k = f
    . rw [Vj hk]
      subst hk
      exact ⟨by simp, fun g h => by simpa using h⟩
    . rw [Vh hk]
      refine ⟨?_, fun g h => ?_⟩
      . rw [Vy]
        exact Vs _ i1
      . rw [Vy] at h ⊢
        rcases mem_cons.mp h with e | e
        . exact mem_cons.mpr (.inl e)
        . exact Vs _ (i2 g e)
theorem sO (f : Str) (v : V) : ∀ fs : List (Str × V), (bS f v fs).length <= fs.length + 1
  | [] => by simp [bS]
  | (k, x) :: r => by
    have ih := sO f v r
    rw [show bS f v ((k, x) :: r) = (if k = f then (k, v) :: r else (k, x) :: bS f v r) from rfl]
    by_cases hk : k = f
    . rw [Vj hk, VC, VC]; omega
    . rw [Vh hk, VC, VC]; omega
theorem kq.some_of {v : V} {o : Option Value} (r : kq (some v) o) : ∃ u, o = some u /\ RelV v u := by
  cases o with
  | none => exact (show False from r).elim
  | some u => exact ⟨u, rfl, r⟩
theorem kq.none_of {o : Option Value} (r : kq none o) : o = none := by
  cases o with
  | none => rfl
  | some u => exact (show False from r).elim
theorem EO (r : RelV v u) : handedIn u = true := by
  cases v with
  | non => cases (show u = Value.none from r); rfl
  | bl b => cases (show u = Value.bool b from r); rfl
  | int i => obtain ⟨t, e⟩ := (show ∃ t, u = Value.int i t from r); cases e; rfl
  | str x => obtain ⟨t, e⟩ := (show ∃ t, u = Value.str x t from r); cases e; rfl
  | Aw b => obtain ⟨t, e⟩ := (show ∃ t, u = Value.bytes b t from r); cases e; rfl
  | Oj b => obtain ⟨t, e⟩ := (show ∃ t, u = Value.float b t from r); cases e; rfl
  | ref a => cases (show u = Value.ref a from r); rfl
  | ty n => cases (show u = Value.type n from r); rfl
section
variable {P : Program} {w : World} {H H' : Hp} {h h' : Heap} {a C dx : Addr} {fs FU : List (Str × V)}
theorem yO (hok : HOk P w H h) (e : H a = some (.ins C dx fs)) : ∃ mA, Co h a dx C mA /\ (∀ f, kq (fs.lookup f) (mA f)) /\ PySem.Within mA (fs.map (·.1)) /\ fs.length <= 1000 /\ H dx = some (.own a) := by
  obtain ⟨d, z, ne, ob, mA, n, r, q⟩ := (show cq P w H h a (.ins C dx fs) from hok a _ e)
  exact ⟨mA, ⟨ob, n, ne⟩, r, q, z, d⟩
end
structure Cls (K : FG) (C : Addr) : Prop where
  pg : plainGet K C Str.empty = true
  hd : hasDictIn K C = true
  po : plainOver K C = true
  sa : findIn K (.ref C) "__setattr__" = some (some (.builtin "object.__setattr__"))
theorem Cls.get {K : FG} (c : Cls K C) (f : Str) : plainGet K C f = true := c.pg
def fj (K : FG) (C : Addr) (f : Str) : Prop := findIn K (.ref C) f = some none
theorem fj.MH {K : FG} (n : fj K C f) : takerIn K C f = some none := by
  unfold takerIn
  rw [show findIn K (.ref C) f = some none from n]
  rfl
structure Meth (K : FG) (C : Addr) (m : Str) (f : Addr) : Prop where
  at_ : findIn K (.ref C) m = some (some (.ref f))
  fn : isFn K (.ref f) = true
  kp : keepIn K (.ref f) = true
section
variable {X : Cx} {pins : List (Addr × Obj)} {σ : St} {H : Hp} {s : Shared} {a C dx : Addr} {fs : List (Str × V)} {f : Str} {v : V} {A : Around} {E : Value -> Shared -> Prop}
theorem uT {b : Bool} {Q : Value -> Shared -> Prop} (I : Inv X pins σ H s) (e : H a = some (.ins C dx fs)) (c : Cls X.K C) (n : fj X.K C f) (l : fs.lookup f = some v)
    (h : ∀ u s', Inv X pins σ H s' -> RelV v u -> Q u s') : wpAny (model X.prog X.w) A (getAttr (.ref a) f b) Q E s := by
  obtain ⟨mA, O, r, _, _, _⟩ := yO I.hok e
  obtain ⟨u, hu, ru⟩ := kq.some_of (v := v) (o := mA f) (by rw [<- l]; exact r f)
  exact get_map I.kIn O (c.get f) c.hd n hu (EO ru) (h u _ (I.tok _) ru)
theorem uU {pl : Sem Bool} {Q : Value × List Value -> Shared -> Prop} (I : Inv X pins σ H s) (e : H a = some (.ins C dx fs)) (c : Cls X.K C) (k : Meth X.K C m g) (l : fs.lookup m = none)
    (h : Q (.ref g, [.ref a]) s) : wpAny (model X.prog X.w) A (getMethod (.ref a) m pl) Q E s := by
  obtain ⟨mA, O, r, _, _, _⟩ := yO I.hok e
  have hn : mA m = none := kq.none_of (by rw [<- l]; exact r m)
  exact F6 I.kIn O (c.get m) k.at_ k.fn hn h
theorem uV {Q : Unit -> Shared -> Prop} (I : Inv X pins σ H s) (e : H a = some (.ins C dx fs)) (c : Cls X.K C) (n : fj X.K C f) (hl : fs.length < 1000) (ry : RelV y u)
    (h : ∀ s', Inv X pins σ (upd H a (.ins C dx (bS f y fs))) s' -> Q () s') : wpAny (model X.prog X.w) A (setAttr (.ref a) f u) Q E s := by
  obtain ⟨mA, O, r, wi, _, ho⟩ := yO I.hok e
  have hz : (fs.map (·.1)).length <= sizeLine := by rw [Vg, Vr]; omega
  refine HY I.kIn O c.sa c.po n.MH c.hd wi hz fun h' O' sb => h _ ?_
  have hd : ∃ o, h'.get? dx = some o := let ⟨o, _, _, e', _⟩ := O'.ns; ⟨o, e'⟩
  refine I.write (x := a) (e := dx) (by rw [e]; exact True.intro) (.inr ho) (fun b q hb z => (sb.2 b hb).trans z) hd ?_
  refine ⟨by rw [aM O.ne]; exact ho, ?_, O.ne, O'.obj, _, O'.ns, fun g => ?_, fun g hg => ?_⟩
  . have := sO f y fs; omega
  . show kq ((bS f y fs).lookup g) (if g = f then some u else mA g)
    rw [sN]
    by_cases q : g = f
    . rw [Vj q, Vj q]; exact ry
    . rw [Vh q, Vh q]; exact r g
  . by_cases q : g = f
    . rw [q]; exact (rn f y fs).1
    . refine (rn f y fs).2 g (wi g fun z => hg ?_)
      show (if g = f then some u else mA g) = none
      rw [Vh q]; exact z
theorem Inv.made (I : Inv X pins σ H s) : Inv X pins σ (upd (upd H s.heap.objs.size (.own (s.heap.objs.size + 1))) (s.heap.objs.size + 1) (.ins C s.heap.objs.size []))
    { s with heap := (s.heap.push emptyDict).push (instObj C s.heap.objs.size) } := by
  have e1 : (s.heap.push emptyDict).get? s.heap.objs.size = some emptyDict := VA s.heap rfl
  have e2 : ((s.heap.push emptyDict).push (instObj C s.heap.objs.size)).get? (s.heap.objs.size + 1) = some (instObj C s.heap.objs.size) := by
    have := VA (s.heap.push emptyDict) (o := instObj C s.heap.objs.size) rfl
    rwa [VE] at this
  have e3 : (s.heap.push emptyDict).Ns s.heap.objs.size (fun _ => none) := ⟨emptyDict, #[], _, e1, rfl, (fun e he => absurd he (by simp)), fun _ => rfl⟩
  have I1 := I.laid (a := s.heap.objs.size) (o := .own (s.heap.objs.size + 1)) (h' := s.heap.push emptyDict) (t' := s.toks) (fun b u q => Vm _ q) (Vq _) ⟨_, e1⟩
  refine I1.laid (a := s.heap.objs.size + 1) (o := .ins C s.heap.objs.size []) (t' := s.toks) (fun b u q => Vm _ q) (le_of_eq (VE _ _)) ?_
  have ne : s.heap.objs.size ≠ s.heap.objs.size + 1 := Vp (Nat.lt_succ_self _)
  refine ⟨by rw [aM ne, aA], VF _, ne, e2, fun _ => none, (Heap.Ns1.of_empty e3).at fun o q => Vm _ q, fun _ => True.intro, fun y hy => absurd rfl hy⟩
theorem HZ {env : Env} (hb : attributeBase e f env (eval e env) = eval e env)
    (h : wpAny (model prog w) A (eval e env) (fun o s₁ => wpAny (model prog w) A (getAttr o f true) Q E s₁) E s) : wpAny (model prog w) A (eval (.Attribute e f pos) env) Q E s :=
  Attribute_any_ h (by rw [arm_eval_Attribute, hb])
end
def aI (K : FG) (ta : TE) (f : Str) : TE := fun σ H Q => ta σ H fun x H1 => ∃ a C dx fs v, x = .ref a /\ H1 a = some (.ins C dx fs) /\ Cls K C /\ fj K C f /\ fs.lookup f = some v /\ Q v H1
def cg (K : FG) (ta tv : TE) (f : Str) : TS := fun D σ H => tv σ H fun y H1 => ta σ H1 fun x H2 => ∃ a C dx fs, x = .ref a /\ H2 a = some (.ins C dx fs) /\ Cls K C /\ fj K C f /\ fs.length < 1000 /\
  D.nx σ (upd H2 a (.ins C dx (bS f y fs)))
def MI (X : Cx) (op : Operator) (rd : V -> V -> Hp -> VK -> Prop) : Prop :=
  ∀ (pins : List (Addr × Obj)) (s : Shared) (σ : St) (H : Hp) (x y : V) (u v : Value) (Q : VK), Inv X pins σ H s -> RelV x u -> RelV y v -> rd x y H Q -> wpAny (model X.prog X.w) X.A (inplaceOp op u v) (EP X pins σ Q) X.xe s
def nu (K : FG) (ta tv : TE) (rd : V -> V -> Hp -> VK -> Prop) (f : Str) : TS := fun D σ H => ta σ H fun x H1 => ∃ a C dx fs v, x = .ref a /\ H1 a = some (.ins C dx fs) /\ Cls K C /\ fj K C f /\ fs.lookup f = some v /\
  tv σ H1 fun y H2 => rd v y H2 fun z H3 => ∃ Kw FU, H3 a = some (.ins C Kw FU) /\ FU.length < 1000 /\ D.nx σ (upd H3 a (.ins C Kw (bS f z FU)))
section
variable {X : Cx} {o e value : Expr} {f : Str} {pos pos' AA : Pos} {ta tv : TE}
theorem ax (he : PE X e ta) (hb : attributeBase e f X.env (eval e X.env) = eval e X.env) : PE X (.Attribute e f pos) (aI X.K ta f) := by
  intro pins s σ H Q I h
  refine HZ hb (thn (he pins s σ H _ I h) fun u s1 ⟨x, H1, I1, rx, a, C, dx, fs, v, ex, ea, c, n, l, q⟩ => ?_)
  subst ex
  obtain rfl : u = Value.ref a := rx
  exact uT I1 ea c n l fun u' s2 I2 ru => ⟨v, H1, I2, ru, q⟩
theorem a7 (ha : PE X o ta) (hv : PE X value tv) (hs : swapsWith value (some (.Attribute o f pos')) pos.line X.env = pure false) : PS X (.Assign [.Attribute o f pos'] value pos) (cg X.K ta tv f) := by
  intro pins s σ H D I h
  refine plainObj_wpAny_Assign_Attribute (thn (hv pins s σ H _ I h) fun u s1 ⟨y, H1, I1, ry, q⟩ => thn (ha pins s1 σ H1 _ I1 q) fun ov s2 ⟨x, H2, I2, rx, a, C, dx, fs, ex, ea, c, n, l, q2⟩ => ?_) hs
  subst ex
  obtain rfl : ov = Value.ref a := rx
  exact uV I2 ea c n l ry fun s3 I3 => ⟨σ, _, I3, q2⟩
theorem rq {op : Operator} {rd : V -> V -> Hp -> VK -> Prop} (ha : PE X o ta) (hv : PE X value tv) (S4 : MI X op rd) : PS X (.AugAssign (.Attribute o f AA) op value pos) (nu X.K ta tv rd f) := by
  intro pins s σ H D I h
  refine wpAny_AugAssign_AttributeAny (thn (ha pins s σ H _ I h) fun ov s1 ⟨x, H1, I1, rx, a, C, dx, fs, v, ex, ea, c, n, l, q⟩ => ?_)
  subst ex
  obtain rfl : ov = Value.ref a := rx
  refine uT I1 ea c n l fun u s2 I2 ru => thn (hv pins s2 σ H1 _ I2 q) fun w3 s3 ⟨y, H2, I3, ry, q3⟩ => thn (S4 pins s3 σ H2 v y u w3 _ I3 ru ry q3) fun w4 s4 ⟨z, H3, I4, rz, Kw, FU, Ov, l', q4⟩ => ?_
  exact uV I4 Ov c n l' rz fun s5 I5 => ⟨σ, _, I5, q4⟩
def F8 : V -> V -> Hp -> VK -> Prop := fun x y H Q => ∃ i j, x = .int i /\ y = .int j /\ Q (.int (i + j)) H
theorem Cp : MI X .Add F8 := by
  rintro pins s σ H x y u v Q I rx ry ⟨i, j, rfl, rfl, q⟩
  obtain ⟨t, rfl⟩ := (show ∃ t, u = Value.int i t from rx)
  obtain ⟨t', rfl⟩ := (show ∃ t', v = Value.int j t' from ry)
  exact PyProof.Rows.iadd_int ⟨.int (i + j), H, I.tok _, ⟨_, rfl⟩, q⟩
theorem JE {pl : Sem Bool} {H : Hp} (he : PE X e te) (I : Inv X pins σ H s)
    (h : te σ H fun x H1 => ∃ a C dx fs g, x = .ref a /\ H1 a = some (.ins C dx fs) /\ Cls X.K C /\ Meth X.K C m g /\ fs.lookup m = none /\
      ∀ s1, Inv X pins σ H1 s1 -> wpAny (model X.prog X.w) X.A (callWith pos (.ref g) [.ref a] (backTo pos (starEach args X.env)) (backToKw pos (keywordEach [] X.env))) Q X.xe s1)
    (ht : eval (.Call (.Attribute e m apos) args [] pos) X.env = (do
      let ov <- eval e X.env
      standAt apos.atName
      let (f, first) <- holding [ov] (getMethod ov m pl)
      callWith pos f first (backTo pos (starEach args X.env)) (backToKw pos (keywordEach [] X.env)))) :
    wpAny (model X.prog X.w) X.A (eval (.Call (.Attribute e m apos) args [] pos) X.env) Q X.xe s := by
  refine methodCall_KW (pl := pl) (thn (he pins s σ H _ I h) fun u s1 ⟨x, H1, I1, rx, a, C, dx, fs, g, ex, ea, c, k, l, q⟩ => ?_) ht
  subst ex
  obtain rfl : u = Value.ref a := rx
  exact uU I1 ea c k l (q s1 I1)
end
section
variable {X : Cx} {pins : List (Addr × Obj)} {σ : St} {H : Hp} {s : Shared} {A : Around} {E : Value -> Shared -> Prop} {Q : Value -> Shared -> Prop} {c : Value} {b : Bool}
end
end L2
namespace L2
structure c7 (k : Nat) (A : Around) : Prop where
  hd : A.handled = none
  dp : A.depth + 3 * k + 5 < recursionLimit
  un : A.units + 16 * k + 200 < cLine
theorem c7.mono {j k : Nat} (r : c7 k A) (h : j <= k) : c7 j A := ⟨r.hd, by have := r.dp; omega, by have := r.un; omega⟩
theorem c7.deeper {k : Nat} (r : c7 (k + 1) A) (env : Env) : c7 k (A.deeper env) :=
  ⟨r.hd, by have := r.dp; show A.depth + 1 + 3 * k + 5 < _; omega, by have := r.un; show A.units + 3 + 16 * k + 200 < _; omega⟩
theorem Cq {A : Around} {C : Addr} {us : List Value} {kw : List (Str × Value)} : (A.under (.builtin "type.__call__" ⟨.ref C :: us, kw⟩)).depth = A.depth + 1 := by
  first | rfl | simp [Around.under, Code.weight, Code.isCreation, Code.isGuard, Code.isCaller, Code.frames, Code.isFrame, guardIds]
theorem Cr {A : Around} {C : Addr} {us : List Value} {kw : List (Str × Value)} : (A.under (.builtin "type.__call__" ⟨.ref C :: us, kw⟩)).units = A.units + 1 := by
  first | rfl | simp [Around.under, Code.cUnits, Code.frames, Code.isFrame]
theorem c7.make {k : Nat} (r : c7 (k + 1) A) (C : Addr) (us : List Value) (kw : List (Str × Value)) : c7 k (A.under (.builtin "type.__call__" ⟨.ref C :: us, kw⟩)) :=
  ⟨r.hd, by have := r.dp; rw [Cq]; omega, by have := r.un; rw [Cr]; omega⟩
theorem c7.depth {k : Nat} (r : c7 k A) : A.depth < recursionLimit := by have := r.dp; omega
theorem c7.units {k : Nat} (r : c7 k A) : A.units + 64 < cLine := by have := r.un; omega
def aE : TA := fun _ H Q => Q [] H
def aj (ta : TE) (tr : TA) : TA := fun σ H Q => ta σ H fun x H1 => tr σ H1 fun xs H2 => Q (x :: xs) H2
section
variable {X : Cx} {e : Expr} {es : List Expr} {te : TE} {t : TA} {pos : Pos}
theorem aw : PA X [] aE := fun _ _ _ _ H Q I h => Calls.spliced_nil ⟨[], H, I, .nil, h⟩
theorem af (ha : PE X e te) (hr : PA X es t) (hs : starEach (e :: es) X.env = (false, eval e X.env) :: starEach es X.env := by rfl) : PA X (e :: es) (aj te t) := by
  intro pos pins s σ H Q I h
  rw [hs]
  show wpAny _ _ (spliced ((false, eval e X.env) :: backTo pos (starEach es X.env))) _ _ s
  refine Wi (thn (ha pins s σ H _ I h) fun u s1 ⟨x, H1, I1, r1, q1⟩ => ?_)
  exact thn (hr pos pins s1 σ H1 _ I1 q1) fun us s2 ⟨xs, H2, I2, r2, q2⟩ => ⟨x :: xs, H2, I2, .cons r1 r2, q2⟩
def yP (t : TA) : TE := fun σ H Q => t σ H fun xs H1 => xs.length <= sizeLine /\ ∀ p, H1 p = none -> Q (.ref p) (upd H1 p (.tup xs))
def bH (t : TA) : TE := fun σ H Q => t σ H fun xs H1 => xs.length <= sizeLine /\ ∀ p, H1 p = none -> Q (.ref p) (upd H1 p (.lst xs))
theorem rA {x1} (h : PA X es t) : PE X (.Tuple es x1 pos) (yP t) := by
  intro pins s σ H Q I hq
  refine wpAny_Tuple_spliced (thn (h pos pins s σ H _ I hq) fun us s1 ⟨xs, H1, I1, r, z, q⟩ => ⟨by rw [<- r.length]; exact z, ?_⟩)
  have hf : H1 s1.heap.objs.size = none := I1.hok.fresh (Vq _)
  refine ⟨.ref s1.heap.objs.size, upd H1 s1.heap.objs.size (.tup xs), I1.laid (t' := s1.toks) (fun b u e => Vm _ e) (Vq _) ?_, rfl, q _ hf⟩
  exact ⟨z, us, r, ⟨_, VA _ rfl, rfl, _, rfl⟩⟩
theorem aP (h : PA X es t) : PE X (.List es pos) (bH t) := by
  intro pins s σ H Q I hq
  refine wpAny_List_spliced (thn (h pos pins s σ H _ I hq) fun us s1 ⟨xs, H1, I1, r, z, q⟩ => ⟨by rw [<- r.length]; exact z, ?_⟩)
  have hf : H1 s1.heap.objs.size = none := I1.hok.fresh (Vq _)
  refine ⟨.ref s1.heap.objs.size, upd H1 s1.heap.objs.size (.lst xs), I1.laid (t' := s1.toks) (fun b u e => Vm _ e) (Vq _) ?_, rfl, q _ hf⟩
  exact ⟨z, us, 0, r, VA _ rfl⟩
end
abbrev Sp := List V -> Hp -> VK -> XK -> Prop
abbrev CXT := List Env -> Hp -> Shared -> XK -> Value -> Shared -> Prop
structure Ct (P : Program) (w : World) (K : FG) (mg : SV) (base : Heap) (A : Around) (outer : List Env) (s : Shared) (H : Hp) : Prop where
  frames : A.frames = some outer
  mod : Mod K mg base
  bs : ∀ b o, base.get? b = some o -> s.heap.get? b = some o /\ H b = none
  bsz : base.objs.size <= s.heap.objs.size
  rh : s.heap.FunFrames base outer
  frf : ∀ b ∈ frs outer, H b = none
  hok : HOk P w H s.heap
  bare : AllBare s.gens
def CE (outer : List Env) (P : Program) (w : World) (H : Hp) (s : Shared) (Q : VK) (u : Value) (s' : Shared) : Prop :=
  ∃ v H', s'.os = s.os /\ AllBare s'.gens /\ Un (frs outer) [] H H' s.heap s'.heap /\ HOk P w H' s'.heap /\ RelV v u /\ Q v H'
def CR (CX : CXT) (outer : List Env) (P : Program) (w : World) (H : Hp) (s : Shared) (Q : VK) (E : XK) (r : Result) (s' : Shared) : Prop :=
  match r with
  | .ok (.ret u) => CE outer P w H s Q u s'
  | .ok _ => False
  | .error e => CX outer H s E e s'
structure cA (P : Program) (w : World) (K : FG) (mg : SV) (base : Heap) (CX : CXT) (k : Nat) (f : Addr) (fd : FuncData) (ps : List Str) (sp : Sp) : Prop where
  len : ∀ vs H Q E, sp vs H Q E -> vs.length = ps.length
  run : ∀ (A : Around) (outer : List Env) (s : Shared) (H : Hp) (args : Args) (us : List Value) (vs : List V) (Q : VK) (E : XK), c7 k A -> Ct P w K mg base A outer s H -> BindsTo s fd args (ps.zip us) -> Vals vs us -> sp vs H Q E ->
    codeAny (model P w) A (.call (.ref f) args) (CR CX outer P w H s Q E) s
theorem cA.mono {K : FG} {j k : Nat} (F : cA P w K mg base CX j f fd ps sp) (h : j <= k) :
    cA P w K mg base CX k f fd ps sp := ⟨F.len, fun A outer s H args us vs Q E hr => F.run A outer s H args us vs Q E (hr.mono h)⟩
theorem Ct.make {K : FG} (e : Ct P w K mg base A outer s H) (C : Addr) (us : List Value) (kw : List (Str × Value)) :
    Ct P w K mg base (A.under (.builtin "type.__call__" ⟨.ref C :: us, kw⟩)) outer s H := ⟨by first | exact e.frames | (simpa [Around.under, Code.envs, Code.isFrame, pushEnvs] using e.frames), e.mod, e.bs, e.bsz, e.rh, e.frf, e.hok, e.bare⟩
section
variable {X : Cx} {pins : List (Addr × Obj)} {σ : St} {H : Hp} {s s' : Shared}
theorem Inv.Kx (I : Inv X pins σ H s) : Ct X.prog X.w X.K X.mg X.base X.A X.stack s H :=
  ⟨I.ok.frames, I.ok.mod, I.bs, VH I.ok.bsz I.sz, I.stack, I.DW, I.hok, I.bare⟩
theorem Inv.after (I : Inv X pins σ H s) (h : CE X.stack X.prog X.w H s Q u s') : EP X pins σ Q u s' := by
  obtain ⟨v, H', os, bare, un, hok, r, q⟩ := h
  obtain ⟨hh, g, d, t, S5⟩ := s'
  obtain rfl : S5 = s.os := os
  exact ⟨v, H', I.call (h' := hh) (g' := g) (d' := d) (t' := t) (ch := []) un hok bare (fun b z => absurd z (by simp)), r, q⟩
end
def a0 (sp : Sp) (wU : List V) (E : XK) (t : TA) : TE := fun σ H Q => t σ H fun vs H1 => sp (vs ++ wU) H1 Q E
def AF (C : Addr) (m : Str) (sp : Sp) (wU : List V) (E : XK) (ta : TE) (t : TA) : TE := fun σ H Q => ta σ H fun x H1 => ∃ a dx fs, x = .ref a /\ H1 a = some (.ins C dx fs) /\ fs.lookup m = none /\
  t σ H1 fun vs H2 => sp (x :: (vs ++ wU)) H2 Q E
def g9 (C : Addr) (sp : Sp) (wU : List V) (E : XK) (t : TA) : TE := fun σ H Q => t σ H fun vs H1 => ∀ x dx, H1 x = none -> H1 dx = none -> dx ≠ x ->
  sp (.ref x :: (vs ++ wU)) (upd (upd H1 dx (.own x)) x (.ins C dx [])) (fun v H2 => v = .non /\ Q (.ref x) H2) E
def Binds (K : FG) (fd : FuncData) (ps : List Str) (ds : List Value) : Prop :=
  ∀ (s : Shared) (us : List Value), K.In s.heap -> (us ++ ds).length = ps.length -> BindsTo s fd ⟨us, []⟩ (ps.zip (us ++ ds))
theorem Binds.all {K : FG} {ps : List Str} (h : ∀ us : List Value, us.length = ps.length -> bindArgs fd ⟨us, []⟩ = pure (ps.zip us)) : Binds K fd ps [] := fun s us _ hl => by
  rw [append_nil] at hl ⊢
  exact .of_eq (h us hl)
def Passes (CX : CXT) (X : Cx) (E : XK) : Prop := ∀ (pins : List (Addr × Obj)) (σ : St) (H : Hp) (s : Shared) (e : Value) (s' : Shared), Inv X pins σ H s -> CX X.stack H s E e s' -> X.xe e s'
section
variable {X : Cx} {CX : CXT} {k : Nat} {f C : Addr} {fd : FuncData} {ps : List Str} {sp : Sp} {wU : List V} {ds : List Value} {E : XK} {x m : Str} {p pos apos : Pos} {e o : Expr} {es : List Expr} {ta : TE} {t : TA}
theorem Cu {H : Hp} (F : cA X.prog X.w X.K X.mg X.base CX k f fd ps sp) (hr : c7 k X.A) (hb : Binds X.K fd ps ds) (hd : Vals wU ds) (hx : Passes CX X E)
    (I : Inv X pins σ H s) (r : Vals vs us) (h : sp (vs ++ wU) H Q E) : wpAny (model X.prog X.w) X.A (call (.ref f) us) (EP X pins σ Q) X.xe s := by
  have r2 : Vals (vs ++ wU) (us ++ ds) := r.append hd
  have hl : (us ++ ds).length = ps.length := by rw [<- r2.length]; exact F.len _ _ _ _ h
  refine wpAny_call (codeAny_mono (F.run X.A X.stack s H ⟨us, []⟩ (us ++ ds) (vs ++ wU) Q E hr I.Kx (hb s us I.kIn hl) r2 h) fun r s' hq => ?_)
  cases r with
  | error e => exact hx pins σ H s e s' I hq
  | ok fl =>
    cases fl with
    | ret u => exact I.after hq
    | next => exact False.elim hq
    | brk => exact False.elim hq
    | cont => exact False.elim hq
theorem Ia (F : cA X.prog X.w X.K X.mg X.base CX k f fd ps sp) (hr : c7 k X.A) (hg : Gl X x) (hm : X.mg x = some (.ref f)) (hk : keepIn X.K (.ref f) = true) (hb : Binds X.K fd ps ds) (hd : Vals wU ds) (hx : Passes CX X E)
    (ha : PA X (e :: es) t) (AG : (x == ("__debug__" : Str)) = false := by decide) (he : starEach (e :: es) X.env = (false, eval e X.env) :: starEach es X.env := by rfl) (iH : (backTo pos (starEach es X.env)).any (·.1) = false := by rfl) :
    PE X (.Call (.Name x p) (e :: es) [] pos) (a0 sp wU E t) := by
  intro pins s σ H Q I h
  refine Wg (tW I hg hm ?_ AG)
  refine callWith_K (h₀ := X.base) I.ok.mod.kin hk (thn (ha pos pins s σ H _ I h) fun us s1 ⟨vs, H1, I1, r, q⟩ => ⟨I1.kIn, ?_⟩) he iH
  exact Cu F hr hb hd hx I1 r q
theorem Ib {pl : Sem Bool} (he : PE X o ta) (c : Cls X.K C) (hm : Meth X.K C m f) (F : cA X.prog X.w X.K X.mg X.base CX k f fd ps sp) (hr : c7 k X.A) (hb : Binds X.K fd ps ds) (hd : Vals wU ds) (hx : Passes CX X E) (ha : PA X (e :: es) t)
    (Az : starEach (e :: es) X.env = (false, eval e X.env) :: starEach es X.env := by rfl) (iH : (backTo pos (starEach es X.env)).any (·.1) = false := by rfl)
    (ht : eval (.Call (.Attribute o m apos) (e :: es) [] pos) X.env = (do
      let ov <- eval o X.env
      standAt apos.atName
      let (f, first) <- holding [ov] (getMethod ov m pl)
      callWith pos f first (backTo pos (starEach (e :: es) X.env)) (backToKw pos (keywordEach [] X.env))) := by rfl) :
    PE X (.Call (.Attribute o m apos) (e :: es) [] pos) (AF C m sp wU E ta t) := by
  intro pins s σ H Q I h
  refine methodCall_KW (pl := pl) (thn (he pins s σ H _ I h) fun u s1 ⟨x, H1, I1, rx, a, dx, fs, ex, ea, l, q⟩ => ?_) ht
  subst ex
  obtain rfl : u = Value.ref a := rx
  refine uU I1 ea c hm l ?_
  refine callWith_K (first := [.ref a]) (h₀ := X.base) I.ok.mod.kin hm.kp (thn (ha pos pins s1 σ H1 _ I1 q) fun us s2 ⟨vs, H2, I2, r, q2⟩ => ⟨I2.kIn, ?_⟩) Az iH
  exact Cu (us := .ref a :: us) (vs := .ref a :: vs) F hr hb hd hx I2 (.cons rfl r) q2
structure Mk (K : FG) (C f : Addr) : Prop where
  makes : makesIn K C = true
  init : findIn K (.ref C) "__init__" = some (some (.ref f))
  fn : isFn K (.ref f) = true
  kp : keepIn K (.ref C) = true
theorem AH {H : Hp} {Q : VK} (M : Mk X.K C f) (F : cA X.prog X.w X.K X.mg X.base CX k f fd ps sp) (hr : c7 (k + 1) X.A) (hb : Binds X.K fd ps ds) (hd : Vals wU ds)
    (hx : Passes CX X E) (I : Inv X pins σ H s) (r : Vals vs us)
    (h : ∀ x dx, H x = none -> H dx = none -> dx ≠ x -> sp (.ref x :: (vs ++ wU)) (upd (upd H dx (.own x)) x (.ins C dx [])) (fun v H2 => v = .non /\ Q (.ref x) H2) E) :
    wpAny (model X.prog X.w) X.A (call (.ref C) us) (EP X pins σ Q) X.xe s := by
  have hq := h (s.heap.objs.size + 1) s.heap.objs.size (I.hok.fresh (Nat.le_succ _)) (I.hok.fresh (Vq _)) (Vp (Nat.lt_succ_self _))
  have I2 := Inv.made (C := C) I
  have r2 : Vals (V.ref (s.heap.objs.size + 1) :: (vs ++ wU)) (Value.ref (s.heap.objs.size + 1) :: (us ++ ds)) := .cons rfl (r.append hd)
  have hl : (Value.ref (s.heap.objs.size + 1) :: us ++ ds).length = ps.length := by
    have e := r2.length
    rw [F.len _ _ _ _ hq] at e
    exact e.symm
  refine wpAny_call (F7 (f := f) I.kIn M.makes M.init (beq_iff_eq.mp M.fn) (codeAny_mono (F.run _ X.stack _ _ ⟨Value.ref (s.heap.objs.size + 1) :: us, []⟩ (Value.ref (s.heap.objs.size + 1) :: (us ++ ds)) _ _ E (hr.make C us [])
    (I2.Kx.make C us []) (hb _ (Value.ref (s.heap.objs.size + 1) :: us) I2.kIn hl) r2 hq) fun r s' JF => ?_))
  cases r with
  | error e => exact hx pins σ _ _ e s' I2 JF
  | ok fl =>
    cases fl with
    | ret u =>
      obtain ⟨v, H', I3, rv, ev, q3⟩ := I2.after JF
      subst ev
      exact ⟨rv, ⟨V.ref (s.heap.objs.size + 1), H', I3, rfl, q3⟩⟩
    | next => exact False.elim JF
    | brk => exact False.elim JF
    | cont => exact False.elim JF
theorem Ic (M : Mk X.K C f) (F : cA X.prog X.w X.K X.mg X.base CX k f fd ps sp) (hr : c7 (k + 1) X.A) (hg : Gl X x) (hm : X.mg x = some (.ref C)) (hb : Binds X.K fd ps ds) (hd : Vals wU ds) (hx : Passes CX X E)
    (ha : PA X (e :: es) t) (AG : (x == ("__debug__" : Str)) = false := by decide) (he : starEach (e :: es) X.env = (false, eval e X.env) :: starEach es X.env := by rfl) (iH : (backTo pos (starEach es X.env)).any (·.1) = false := by rfl) :
    PE X (.Call (.Name x p) (e :: es) [] pos) (g9 C sp wU E t) := by
  intro pins s σ H Q I h
  refine Wg (tW I hg hm ?_ AG)
  refine callWith_K (h₀ := X.base) I.ok.mod.kin M.kp (thn (ha pos pins s σ H _ I h) fun us s1 ⟨vs, H1, I1, r, q⟩ => ⟨I1.kIn, ?_⟩) he iH
  exact AH M F hr hb hd hx I1 r q
theorem F9 (M : Mk X.K C f) (F : cA X.prog X.w X.K X.mg X.base CX k f fd ps sp) (hr : c7 (k + 1) X.A) (hg : Gl X x) (hm : X.mg x = some (.ref C)) (hb : Binds X.K fd ps ds) (hd : Vals wU ds) (hx : Passes CX X E)
    (AG : (x == ("__debug__" : Str)) = false := by decide) : PE X (.Call (.Name x p) [] [] pos) (g9 C sp wU E aE) := by
  intro pins s σ H Q I h
  refine Wg (tW I hg hm ?_ AG)
  exact PySem.W.callWith_K0 I.kIn M.kp (AH (us := []) M F hr hb hd hx I .nil h)
end
section
variable {X : Cx} {CX : CXT} {k : Nat} {f C : Addr} {fd : FuncData} {ps ks : List Str} {sp : Sp} {E : XK} {x m : Str} {p pos apos ER : Pos} {e o : Expr} {es : List Expr} {kws : List Keyword} {te ta : TE} {t tk : TA} {nm : Option Str}
variable {g : List Value -> List Value -> List Value} {gV : List V -> List V -> List V}
end
structure aG (N P : List Str) (sc : Scope) : Prop where
  kind : sc.kind = .function
  co : sc.isCoroutine = false
  gen : sc.isGenerator = false
  nd : N.Nodup
  pre : N.take P.length = P
  par : ∀ x ∈ P, sc.names.lookup x = some .local \/ sc.names.lookup x = some .cell
  Kz : ∀ y ∈ sc.names, y.2 ≠ .free
theorem xY {kindOf : Str -> Option NameKind} {x : Str} : ∀ {binds : List (Str × Value)} {m : SV}, (∀ v, (x, v) ∉ binds) -> bindL kindOf binds m x = m x
  | [], _, _ => rfl
  | (n, v) :: r, m, h => by
    unfold bindL
    rw [xY fun w hw => h w (Vs _ hw)]
    split
    . have : x ≠ n := by rintro rfl; exact h v Vv
      simp [this]
    . rfl
theorem xZ {kindOf : Str -> Option NameKind} {x : Str} : ∀ {binds : List (Str × Value)} {m : SV}, (∀ v, (x, v) ∉ binds) -> bindC kindOf binds m x = m x
  | [], _, _ => rfl
  | (n, v) :: r, m, h => by
    unfold bindC
    rw [xZ fun w hw => h w (Vs _ hw)]
    split
    . rfl
    . have : x ≠ n := by rintro rfl; exact h v Vv
      simp [this]
theorem yb {kindOf : Str -> Option NameKind} {x : Str} {v : Value} : ∀ {P : List Str} {vs : List Value} {i : Nat} {m : SV}, P.Nodup -> P[i]? = some x -> vs[i]? = some v -> kindOf x = some .local ->
    bindL kindOf (P.zip vs) m x = some v
  | [], _, _, _, _, h, _, _ => by simp at h
  | _ :: _, [], _, _, _, _, h, _ => by simp at h
  | p :: P, w :: vs, 0, m, nd, h1, h2, hk => by
    simp at h1 h2; subst h1; subst h2
    show bindL kindOf ((p, w) :: P.zip vs) m p = _
    unfold bindL
    rw [xY fun v hv => (nodup_cons.mp nd).1 (of_mem_zip hv).1, Vj hk]
    simp
  | p :: P, w :: vs, i + 1, m, nd, h1, h2, hk => by
    show bindL kindOf ((p, w) :: P.zip vs) m x = _
    unfold bindL
    exact yb (i := i) (nodup_cons.mp nd).2 (by simpa using h1) (by simpa using h2) hk
theorem yc {kindOf : Str -> Option NameKind} {x : Str} {v : Value} : ∀ {P : List Str} {vs : List Value} {i : Nat} {m : SV}, P.Nodup -> P[i]? = some x -> vs[i]? = some v -> kindOf x ≠ some .local ->
    bindC kindOf (P.zip vs) m x = some v
  | [], _, _, _, _, h, _, _ => by simp at h
  | _ :: _, [], _, _, _, _, h, _ => by simp at h
  | p :: P, w :: vs, 0, m, nd, h1, h2, hk => by
    simp at h1 h2; subst h1; subst h2
    show bindC kindOf ((p, w) :: P.zip vs) m p = _
    unfold bindC
    rw [xZ fun v hv => (nodup_cons.mp nd).1 (of_mem_zip hv).1, Vh hk]
    simp
  | p :: P, w :: vs, i + 1, m, nd, h1, h2, hk => by
    show bindC kindOf ((p, w) :: P.zip vs) m x = _
    unfold bindC
    exact yc (i := i) (nodup_cons.mp nd).2 (by simpa using h1) (by simpa using h2) hk
def start (N : List Str) (vs : List V) : St := vs.map some ++ List.replicate (N.length - vs.length) none
def AI (CX : CXT) (P : Program) (w : World) (K : FG) (mg : SV) (base : Heap) (N : List Str) (qual : Str) (scope : Scope) (f : Addr) (cd : Value) (A : Around) (outer : List Env) (s : Shared) (H : Hp) (E : XK) : Cx where
  prog := P
  w := w
  K := K
  mg := mg
  base := base
  A := A.deeper (envOfC qual scope s.heap.objs.size f cd)
  N := N
  s_0 := s
  H_0 := H
  env := envOfC qual scope s.heap.objs.size f cd
  outer := outer
  stack := envOfC qual scope s.heap.objs.size f cd :: outer
  ex := []
  calm := true
  fn := fun _ => true
  pn := []
  xe := fun e s' => wpAny (model P w) (A.deeper (envOfC qual scope s.heap.objs.size f cd)) (leaving (envOfC qual scope s.heap.objs.size f cd) e) (fun _ HE => CX outer H s E e HE) (fun e' HE => CX outer H s E e' HE) s'
theorem AJ {sc : Scope} {n : Nat} (h : sc.names.lookup x = some .cell) : ∃ c, (cellsFrom n sc.names []).lookup x = some c := by
  have q := cellsFrom_some sc.names n [] (.inl h)
  exact Option.isSome_iff_exists.mp q
theorem ES {K : FG} {A : Around} {vs : List V}
    (S : aG N ps scope) (hd : A.handled = none) (e0 : Ct P w K mg base A outer s H) (hl : vs.length = ps.length) (r : Vals vs us)
    (x : InCallC s s.heap.objs.size (bindL (envOfC qual scope s.heap.objs.size f cd).kindOf (ps.zip us) fun _ => none) (cellsFrom (s.heap.objs.size + 1) scope.names []) (bindC (envOfC qual scope s.heap.objs.size f cd).kindOf (ps.zip us) fun _ => none) s1) :
    Inv (AI CX P w K mg base N qual scope f cd A outer s H E) [] (start N vs) H s1 := by
  have iH : ps.length <= N.length := by have := congrArg List.length S.pre; rw [length_take] at this; omega
  obtain ⟨h1, tk, rfl, hk⟩ := x.done
  have KA : ∀ b : Addr, b ∉ (AI CX P w K mg base N qual scope f cd A outer s H E).ex := fun b z => absurd (show b ∈ ([] : List Addr) from z) (by simp)
  refine ⟨⟨e0.mod, S.kind, rfl, rfl, Vq _, fun y z c h1 h2 => ?_, fun y hy => ?_, fun y c _ h => ?_, fun _ => hd, Around.frames_deeper e0.frames, .inr ⟨rfl, rfl⟩, fun b z => absurd z (KA b), e0.bs, e0.bsz, fun b _ _ => KA b, fun b z => absurd z (KA b), e0.rh, e0.frf⟩,
    rfl, e0.bare, Un.kept hk, ⟨_, x.toInCall.ns, fun i y v h1 h2 h3 => ?_⟩, fun y c h => ⟨_, x.cell y c h⟩, e0.hok.fresh (Vq _), fun y c h => ?_, fun p hp => absurd (show p ∈ ([] : List (Addr × Obj)) from hp) (by simp), e0.hok.kept hk, ?_⟩
  . exact name_of_addr x.apart (VM h1) (VM h2)
  . have hy : scope.names.lookup y = some .cell \/ scope.names.lookup y = some .free := hy
    rcases hy with hy | hy
    . exact AJ hy
    . exact absurd rfl (S.Kz _ (VM hy))
  . exact le_of_lt (x.above y c (VM h))
  . have hi : i < vs.length := by
      unfold start at h2
      by_cases hi : i < vs.length
      . exact hi
      . rw [List.getElem?_append_right (by simpa using hi)] at h2
        rw [List.getElem?_replicate] at h2
        split at h2 <;> cases h2
    have ha : vs[i]? = some v := by
      unfold start at h2
      rw [List.getElem?_append_left (by simpa using hi), Vt] at h2
      cases e : vs[i]? with
      | none => rw [e] at h2; cases h2
      | some a => rw [e] at h2; cases h2; rfl
    obtain ⟨u, hu, rv⟩ := r.get ha
    have hp : ps[i]? = some y := by
      rw [<- S.pre, List.getElem?_take_of_lt (by omega)]; exact h1
    have Rx : ps.Nodup := by rw [<- S.pre]; exact S.nd.sublist (List.take_sublist _ _)
    refine ⟨u, rv, ?_⟩
    rcases S.par y (VG hp) with k | k
    . exact .inl ⟨k, yb Rx hp hu k⟩
    . obtain ⟨c, e⟩ := AJ (n := s.heap.objs.size + 1) k
      refine .inr ⟨.inl k, c, e, ?_⟩
      have q := x.cell y c e
      rw [yc Rx hp hu (by show scope.names.lookup y ≠ _; rw [k]; decide)] at q
      exact q
  . exact e0.hok.fresh (le_of_lt (x.above y c (VM h)))
  . unfold start
    show _ = N.length
    rw [VB, Vg, List.length_replicate]
    omega
theorem JG {K : FG} {k : Nat} {kV oc : Value} {an od : Option Addr}
    {AK : Array (Option Value)} {N ps : List Str} {sp : Sp} (lk : K.lookup f = some ⟨oc, od, .func (fnOf name qual params body scope dV kV doc pm an bJ ct), AK⟩) (Fv : codeIn K bJ qual = true) (S : aG N ps scope)
    (len : ∀ vs H Q E, sp vs H Q E -> vs.length = ps.length)
    (jP : ∀ (A : Around) (outer : List Env) (s : Shared) (H : Hp) (vs : List V) (Q : VK) (E : XK), c7 k (A.deeper (envOfC qual scope s.heap.objs.size f bJ)) -> sp vs H Q E ->
      ∃ t, PSs (AI CX P w K mg base N qual scope f bJ A outer s H E) body t /\ t { nx := fun _ H' => Q .non H', rt := Q } (start N vs) H) :
    cA P w K mg base CX (k + 1) f (fnOf name qual params body scope dV kV doc pm an bJ ct) ps sp := by
  refine ⟨len, fun A outer s H args us vs Q E hr e0 hb r HF => ?_⟩
  have hl := len _ _ _ _ HF
  have KX : K.In s.heap := e0.mod.kin.keeps fun b o e => (e0.bs b o e).1
  have lim : s.heap.NoLimit := e0.mod.nolimit.keeps fun b o e => (e0.bs b o e).1
  have MJ : ∀ y ∈ ps.zip us, scope.names.lookup y.1 = some .local \/ (scope.names.lookup y.1 = some .cell /\ ((cellsFrom (s.heap.objs.size + 1) scope.names []).lookup y.1).isSome = true) := fun ⟨n, v⟩ hy => by
    rcases S.par n (of_mem_zip hy).1 with q | q
    . exact .inl q
    . exact .inr ⟨q, cellsFrom_some _ _ _ (.inl q)⟩
  refine codeAny_call_function hr.depth (KX _ _ lk) rfl S.co S.gen rfl (PySem.W.codeRec_of KX Fv) (hb _ _ _ _ ?_)
  refine wpAny_newFunctionEnv_cells S.kind MJ fun env he s1 x => ?_
  subst he
  refine ⟨lim.keeps x.toInCall.keep, codeAny_func ?_⟩
  obtain ⟨t, ht, hq⟩ := jP A outer s H vs Q E (hr.deeper _) HF
  have I : Inv (AI CX P w K mg base N qual scope f bJ A outer s H E) [] (start N vs) H s1 := ES S hr.hd e0 hl r x
  refine VP (ht [] s1 (start N vs) H _ I hq) (fun fl s' hs => ?_) fun e s' hs => hs
  have fin : ∀ {σ' : St} {H' : Hp} {v : V} {u : Value}, Inv (AI CX P w K mg base N qual scope f bJ A outer s H E) [] σ' H' s' -> RelV v u -> Q v H' -> CE outer P w H s Q u s' :=
    fun {σ' H' v u} J rv q => ⟨v, H', J.os, J.bare, J.base, J.hok, rv, q⟩
  cases fl with
  | ret u =>
    obtain ⟨v, σ', H', J, rv, q⟩ := hs
    exact fin J rv q
  | next =>
    obtain ⟨σ', H', J, q⟩ := hs
    exact fin (v := V.non) (u := Value.none) J rfl q
  | brk =>
    obtain ⟨_, _, _, q⟩ := hs
    exact False.elim q
  | cont =>
    obtain ⟨_, _, _, q⟩ := hs
    exact False.elim q
end L2
namespace L2
section
variable {X : Cx} {x : Str} {p pos : Pos} {e : Expr} {es : List Expr} {t : TA} {id T : String} {r : List V -> Hp -> VK -> Prop}
def tCB (r : List V -> Hp -> VK -> Prop) (t : TA) : TE := fun σ H Q => t σ H fun vs H1 => r vs H1 Q
theorem aL (hc : mm X (.builtin id) r) (hg : Gl X x) (hm : X.mg x = none) (hv : bootBuiltins x = some (.builtin id)) (ha : PA X (e :: es) t) (hn : x ≠ "__name__" := by decide) (AG : (x == ("__debug__" : Str)) = false := by decide)
    (he : starEach (e :: es) X.env = (false, eval e X.env) :: starEach es X.env := by rfl) (iH : (backTo pos (starEach es X.env)).any (·.1) = false := by rfl) : PE X (.Call (.Name x p) (e :: es) [] pos) (tCB r t) := by
  intro pins s σ H Q I h
  refine Wg (ku I hg hm hv ?_ hn AG)
  exact PyProof.Rows.callWith_builtin1 (thn (ha pos pins s σ H _ I h) fun us s1 ⟨vs, H1, I1, r1, q1⟩ => hc pins s1 σ H1 vs us Q I1 r1 q1) he iH
theorem ET (hc : mm X (.type T) r) (hg : Gl X x) (hm : X.mg x = none) (hv : bootBuiltins x = some (.type T)) (ha : PA X (e :: es) t) (hn : x ≠ "__name__" := by decide) (AG : (x == ("__debug__" : Str)) = false := by decide)
    (he : starEach (e :: es) X.env = (false, eval e X.env) :: starEach es X.env := by rfl) (iH : (backTo pos (starEach es X.env)).any (·.1) = false := by rfl) : PE X (.Call (.Name x p) (e :: es) [] pos) (tCB r t) := by
  intro pins s σ H Q I h
  refine Wg (ku I hg hm hv ?_ hn AG)
  exact Wo (thn (ha pos pins s σ H _ I h) fun us s1 ⟨vs, H1, I1, r1, q1⟩ => hc pins s1 σ H1 vs us Q I1 r1 q1) he iH
end
end L2
namespace HT
open PySem PyProof.Rows
def lexLt : List Int -> List Int -> Bool
  | [], [] => false
  | [], _ :: _ => true
  | _ :: _, [] => false
  | x :: xs, y :: ys => if x = y then lexLt xs ys else decide (x < y)
theorem dY (x y : Int) (xs ys : List Int) : lexLt (x :: xs) (y :: ys) = if x = y then lexLt xs ys else decide (x < y) := rfl
theorem wV : lexLt [] [] = false := rfl
theorem uW (y : Int) (ys : List Int) : lexLt [] (y :: ys) = true := rfl
theorem uX (x : Int) (xs : List Int) : lexLt (x :: xs) [] = false := rfl
theorem AL (A : Around) (s : Shared) (a : Int) (t : Tok) (c : Int) (u : Tok) : ∃ e, SeqAt.EqAt A s (.int a t) (.int c u) e /\ (e = true ↔ a = c) :=
  ⟨(a == c), SeqAt.EqAt.int_int a t c u, by simp⟩
theorem Ga (A : Around) (s : Shared) (a : Int) (t : Tok) (c : Int) (u : Tok) (prog : Program) (w : World) (E : Value -> Shared -> Prop) (Q : Value -> Shared -> Prop) (h : Q (.bool (decide (a < c))) s) :
    wpAny (model prog w) A (richCompare .Lt (.int a t) (.int c u)) Q E s :=
  (PyProof.Rows.lt_int h : wpAny (model prog w) A (compareOp .Lt (.int a t) (.int c u)) Q E s)
section
open PySem.SeqAt
open PySem.AutoSeq1 (wpAny_loadPart')
open PySem.MeetsSeq PySem.MeetsSeq2 PySem.MeetsSeq3
theorem wW (l b : Addr) (items bL : Array Value) (n n2 : Nat) (dd Cv : Option Addr) (sl Cw : Array (Option Value)) (ns ms : List Int) (hi : IntsAre items.toList ns) (hj : IntsAre bL.toList ms) :
    Meets (Builtin.«tuple.__lt__» ⟨[.ref l, .ref b], []⟩)
      (fun _ R s => s.heap.get? l = some { cls := .type "tuple", dict := dd, data := .seq items n, slots := sl } /\ s.heap.get? b = some { cls := .type "tuple", dict := Cv, data := .seq bL n2, slots := Cw } /\
        R (.ok (.ret (.bool (lexLt ns ms)))) s) :=
  .of_wp fun prog w A R s h => by
    obtain ⟨hp, g, d, tk, os⟩ := s; obtain ⟨hl, hb, h⟩ := h
    have f2 := AutoSeq1.sub_tuple_tuple
    have z1 : items.size = ns.length := by rw [<- hi.length]; simp
    have z2 : bL.size = ms.length := by rw [<- hj.length]; simp
    wp_walk using VX hl, VX hb, wpAny_forIn_list _ (fun rest b s' => b.1 = none /\ s' = ⟨hp, g, d, tk, os⟩ /\ ∃ (vs ws : List Value) (Mi Mj : List Int), rest = vs.zip ws /\
      IntsAre vs Mi /\ IntsAre ws Mj /\ Mi.length + bL.size = Mj.length + items.size /\ R (.ok (.ret (.bool (lexLt Mi Mj)))) ⟨hp, g, d, tk, os⟩) _
    case turn =>
      rintro ⟨y, x⟩ rest b s' ⟨yd, rfl, vs, ws, Mi, Mj, hz, Pt, Ie, hlen, hR⟩
      cases Pt with
      | nil => rw [List.zip_nil_left] at hz; cases hz
      | cons a t Pu =>
        cases Ie with
        | nil => rw [List.zip_nil_right] at hz; cases hz
        | cons c u Pw =>
          rw [List.zip_cons_cons] at hz
          injection hz with S6 MK
          injection S6 with hy hx
          subst hy hx
          rw [dY] at hR
          simp only [VC] at hlen
          obtain ⟨e, he, Gb⟩ := AL A.in1 ⟨hp, g, d, tk, os⟩ a t c u
          refine Vi (he prog w _ _ ?_)
          cases e with
          | true =>
            rw [Vj (Gb.mp rfl)] at hR
            wp_walk
            exact ⟨rfl, rfl, _, _, _, _, MK, Pu, Pw, by omega, hR⟩
          | false =>
            rw [Vh (fun q => absurd (Gb.mpr q) VD)] at hR
            have Px := Ga A.in1 ⟨hp, g, d, tk, os⟩ a t c u prog w
            wp_walk using Px
            exact ⟨_, rfl, by simpa using hR⟩
    case fin =>
      rintro ⟨b1, b2⟩ s' ⟨yd, rfl, vs, ws, Mi, Mj, hz, Pt, Ie, hlen, hR⟩
      simp only at yd
      subst yd
      have hv : lexLt Mi Mj = decide (items.size < bL.size) := by
        cases Pt with
        | nil =>
          cases Ie with
          | nil =>
            simp only [length_nil] at hlen
            rw [wV]
            exact (VN (by omega)).symm
          | cons c u hw =>
            simp only [length_nil, VC] at hlen
            rw [uW]
            exact (Vw (by omega)).symm
        | cons a t hv =>
          cases Ie with
          | nil =>
            simp only [length_nil, VC] at hlen
            rw [uX]
            exact (VN (by omega)).symm
          | cons c u hw =>
            rw [List.zip_cons_cons] at hz
            cases hz
      rw [hv] at hR
      wp_walk
      exact ⟨_, rfl, by simpa [Builtin.Tuple.tupleCompareSizes] using hR⟩
    case h =>
      exact ⟨rfl, rfl, items.toList, bL.toList, ns, ms, rfl, hi, hj, by omega, h⟩
end
section
variable {prog : Program} {w : World} {A : Around} {E : Value -> Shared -> Prop} {s : Shared}
theorem Cy {items bL : Array Value} {ns ms : List Int} {Q : Value -> Shared -> Prop} (hl : IsTup s.heap l items) (hb : IsTup s.heap b bL) (hi : IntsAre items.toList ns) (hj : IntsAre bL.toList ms)
    (hu : A.units < cLine) (h : Q (.bool (lexLt ns ms)) s) : wpAny (model prog w) A (compareOp .Lt (.ref l) (.ref b)) Q E s := by
  obtain ⟨⟨cls, dd, data, sl⟩, ho, hc, n, hd⟩ := id hl
  obtain ⟨⟨KC, Cv, data2, Cw⟩, Ea, wJ, n2, hd2⟩ := id hb
  simp only at hc hd wJ hd2
  subst hc hd wJ hd2
  exact richCompare_meets_room (op := .Lt) ⟨_, ho, rfl⟩ ⟨_, Ea, rfl⟩ PySem.F.slot_tuple_lt PySem.F.entry_tuple_lt (PySem.F.args_tuple_lt_2 _ _) (wW l b items bL n n2 dd Cv sl Cw ns ms hi hj)
    ⟨ho, Ea, show Value.bool (lexLt ns ms) ≠ Value.notImplemented /\ Q (.bool (lexLt ns ms)) s from ⟨(fun x => nomatch x), h⟩⟩ hu
theorem Ig {vs ws : List Value} {Q : Value -> Shared -> Prop} (ht : IsTup s.heap t vs.toArray) (hb : IsTup s.heap b ws.toArray) (hv : vs ≠ [])
    (h1 : ws = [] -> Q (.ref t) s) (h2 : ws ≠ [] -> Q (.ref s.heap.objs.size) { s with heap := s.heap.push { cls := .type "tuple", data := .seq (vs ++ ws).toArray } })
    (hsz : vs.length + ws.length <= sizeLine) : wpAny (model prog w) A (binaryOp .Add (.ref t) (.ref b)) Q E s := by
  obtain ⟨⟨cls, dd, data, sl⟩, ho, hc, n, hd⟩ := id ht
  obtain ⟨⟨KC, Cv, data2, Cw⟩, Ea, wJ, n2, hd2⟩ := id hb
  simp only at hc hd wJ hd2
  subst hc hd wJ hd2
  have e : vs.toArray ++ ws.toArray = (vs ++ ws).toArray := by simp
  by_cases hw : ws = []
  . exact concat_meets ⟨_, ho, rfl⟩ ⟨_, Ea, rfl⟩ noFill_tuple_add seq_tuple_add slot_tuple_add entry_tuple_add (args_tuple_add_2 _ _)
      (tuple_addW1 t b vs.toArray ws.toArray n n2 dd Cv sl Cw (by simpa using hv) (by simp [hw])) ⟨ho, Ea, h1 hw⟩
  . refine concat_meets ⟨_, ho, rfl⟩ ⟨_, Ea, rfl⟩ noFill_tuple_add seq_tuple_add slot_tuple_add entry_tuple_add (args_tuple_add_2 _ _)
      (tuple_addW2 t b vs.toArray ws.toArray n n2 dd Cv sl Cw (by simpa using hv) (by simpa using hw) (by rw [Vx, Vx]; exact hsz)) ⟨ho, Ea, ?_⟩
    rw [e]
    exact h2 hw
def sIx (n d : Nat) : Option Int -> Nat
  | none => d
  | some v => if v < 0 then (v + (n : Int)).toNat else min v.toNat n
end
end HT
namespace L2
abbrev TO := St -> Hp -> (Option Int -> Hp -> Prop) -> Prop
def PO (X : Cx) (e : Option Expr) (t : TO) : Prop :=
  ∀ (pins : List (Addr × Obj)) (s : Shared) (σ : St) (H : Hp) (Q : Option Int -> Hp -> Prop), Inv X pins σ H s -> t σ H Q ->
    wpAny (model X.prog X.w) X.A (evalPart e X.env) (fun u s' => ∃ o H', Inv X pins σ H' s' /\ IsPart u o /\ Q o H') X.xe s
def ye (t : TE) : TO := fun σ H Q => t σ H fun x H1 => ∃ i, x = .int i /\ Q (some i) H1
theorem intsAre_of {ns : List Int} : ∀ {us : List Value}, Vals (ns.map V.int) us -> IntsAre us ns := by
  induction ns with
  | nil => intro us r; rw [map_nil] at r; cases r; exact .nil
  | cons n ns ih =>
    intro us r
    rw [Vy] at r
    cases r with
    | cons r1 r2 =>
      obtain ⟨t, e⟩ := r1
      subst e
      exact .cons n t (ih r2)
section
variable {X : Cx} {e : Expr} {te : TE} {lo hi : Option Expr} {tl th : TO} {pos p2 : Pos}
theorem tZ (h : PE X e te) : PO X (some e) (ye te) := by
  intro pins s σ H Q I hw
  rw [evalPart_some]
  refine thn (h pins s σ H _ I hw) fun u s1 ⟨x, H1, I1, r1, q1⟩ => ?_
  obtain ⟨i, rfl, q⟩ := q1
  obtain ⟨t, rfl⟩ := r1
  exact ⟨some i, H1, I1, .int i t, q⟩
def SlR (X : Cx) (r : V -> Option Int -> Option Int -> Hp -> VK -> Prop) : Prop :=
  ∀ (pins : List (Addr × Obj)) (s : Shared) (σ : St) (H : Hp) (x : V) (v vl vu : Value) (lo hi : Option Int) (sl : Addr) (Q : VK), Inv X pins σ H s -> RelV x v -> s.heap.IsSliceOf sl vl vu .none -> IsPart vl lo -> IsPart vu hi -> r x lo hi H Q ->
    ∃ T id, typeLookup (.type T) "__getitem__" = pure (some (.builtin id)) /\ s.TypeIs v T /\ wpAny (model X.prog X.w) X.A (getItem v (.ref sl)) (EP X pins σ Q) X.xe s
def tSl (r : V -> Option Int -> Option Int -> Hp -> VK -> Prop) (te : TE) (tl th : TO) : TE := fun σ H Q => te σ H fun x H1 => tl σ H1 fun l H2 => th σ H2 fun u H3 => r x l u H3 Q
theorem AM {r : V -> Option Int -> Option Int -> Hp -> VK -> Prop} (hr : SlR X r) (he : PE X e te) (hl : PO X lo tl) (hu : PO X hi th) : PE X (.Subscript e (.Slice lo hi none p2) pos) (tSl r te tl th) := by
  intro pins s σ H Q I h
  refine Subscript_ (thn (he pins s σ H _ I h) fun v s1 ⟨x, H1, I1, r1, q1⟩ => ?_)
  refine wpAny_Slice (thn (hl pins s1 σ H1 _ I1 q1) fun vl s2 ⟨l, H2, I2, pl, q2⟩ => thn (hu pins s2 σ H2 _ I2 q2) fun vu s3 ⟨u, H3, I3, pu, q3⟩ => ?_)
  rw [evalPart_none]
  refine Vo ?_
  have I4 : Inv X pins σ H3 { s3 with heap := s3.heap.push { cls := .type "slice", data := .fields #[vl, vu, .none] } } := I3.kept (t' := s3.toks) fun b ob q => Vm _ q
  obtain ⟨T, id, hT, ht, hg⟩ := hr pins { s3 with heap := s3.heap.push { cls := .type "slice", data := .fields #[vl, vu, .none] } } σ H3 x v vl vu l u s3.heap.objs.size Q I4 r1 (Heap.IsSliceOf.new ..) pl pu q3
  show wpAny (model X.prog X.w) X.A (subscriptTail e (.Slice lo hi none p2) v (.ref s3.heap.objs.size)) (EP X pins σ Q) X.xe { s3 with heap := s3.heap.push { cls := .type "slice", data := .fields #[vl, vu, .none] } }
  exact tail_any (ops := [.ref s3.heap.objs.size, v]) ht hT hg (by with_unfolding_all rfl)
def yQ (xs : List V) (lo hi : Option Int) : List V := (xs.drop (HT.sIx xs.length 0 lo)).take (HT.sIx xs.length xs.length hi - HT.sIx xs.length 0 lo)
theorem AN (xs : List V) (lo hi : Option Int) : (yQ xs lo hi).length <= xs.length := by
  unfold yQ
  rw [length_take, List.length_drop]
  omega
def ML (K : FG) : R2 := fun x y H Q => ∃ a b xs ys, x = .ref a /\ y = .ref b /\ SqT K H a xs /\ SqT K H b ys /\ xs ≠ [] /\ xs.length + ys.length <= sizeLine /\
  (ys = [] -> Q (.ref a) H) /\ (ys ≠ [] -> ∀ p, H p = none -> Q (.ref p) (upd H p (.tup (xs ++ ys))))
theorem Vals.yR (r : Vals xs us) : us = [] ↔ xs = [] := by
  cases r with
  | nil => simp
  | cons _ _ => simp
theorem Ih : OpR X (binaryOp .Add) (ML X.K) := by
  intro pins s σ H x y v u Q I rx ry h
  obtain ⟨a, b, xs, ys, rfl, rfl, ha, hb, hx, hz, q1, q2⟩ := h
  cases rx
  cases ry
  obtain ⟨aK, r1, p1, _⟩ := I.tuple ha
  obtain ⟨uY, r2, p2, _⟩ := I.tuple hb
  refine HT.Ig p1 p2 (fun z => hx (r1.yR.mp z)) (fun z => ⟨.ref a, H, I, rfl, q1 (r2.yR.mp z)⟩) (fun z => ?_) (by rw [<- r1.length, <- r2.length]; exact hz)
  refine ⟨.ref s.heap.objs.size, _, I.laid (t' := s.toks) (o := .tup (xs ++ ys)) (fun b ob q => Vm _ q) (Vq _) ?_, rfl, q2 (fun w => z (r2.yR.mpr w)) _ (I.hok.fresh (Vq _))⟩
  exact ⟨by rw [VB]; exact hz, _, r1.append r2, IsTup.new _ _⟩
end
end L2
namespace L2
def ixN (n : Nat) (i : Int) : Option Nat := if 0 <= i then (if i < n then some i.toNat else none) else if -(n : Int) <= i then some (i + n).toNat else none
def atI {α : Type} (xs : List α) (i : Int) : Option α := (ixN xs.length i).bind fun j => xs[j]?
theorem Eb {n : Nat} {i : Int} {j : Nat} (h : ixN n i = some j) : seqIndex? i n = some j /\ j < n /\ -(n : Int) <= i /\ i < n := by
  unfold ixN at h
  by_cases h0 : 0 <= i
  . rw [Vj h0] at h
    by_cases h1 : i < n
    . rw [Vj h1] at h
      have e : i.toNat = j := Option.some.inj h
      exact ⟨by rw [seqIndex_of h0 h1, e], by omega, by omega, h1⟩
    . rw [Vh h1] at h; cases h
  . rw [Vh h0] at h
    by_cases h1 : -(n : Int) <= i
    . rw [Vj h1] at h
      have e : (i + n).toNat = j := Option.some.inj h
      exact ⟨by rw [seqIndex_neg (by omega) h1, e], by omega, h1, by omega⟩
    . rw [Vh h1] at h; cases h
theorem yS {α : Type} {xs : List α} {i : Int} {v : α} (h : atI xs i = some v) : ∃ j, seqIndex? i xs.length = some j /\ xs[j]? = some v /\ j < xs.length /\ -(xs.length : Int) <= i /\ i < xs.length := by
  unfold atI at h
  cases e : ixN xs.length i with
  | none => rw [e] at h; cases h
  | some j =>
    rw [e] at h
    obtain ⟨h1, h2, h3, h4⟩ := Eb e
    exact ⟨j, h1, h, h2, h3, h4⟩
theorem Ec {α : Type} {xs : List α} {j : Nat} {v : α} (h : xs[j]? = some v) : atI xs (j : Int) = some v := by
  have hj : j < xs.length := (List.getElem?_eq_some_iff.mp h).1
  have e : ixN xs.length (j : Int) = some j := by
    unfold ixN
    rw [Vj (by omega), Vj (by omega)]; simp
  unfold atI; rw [e]; exact h
def Ii (b : Expr) : Prop := ∀ o i, subscripted b false o i = operate [o, i] (getItem o i)
def IxR (X : Cx) (r : R2) : Prop :=
  ∀ (value slice : Expr) (pins : List (Addr × Obj)) (s : Shared) (σ : St) (H : Hp) (x y : V) (v u : Value) (Q : VK), Inv X pins σ H s -> RelV x v -> RelV y u -> r x y H Q ->
    subscripted slice false v u = operate [v, u] (getItem v u) -> wpAny (model X.prog X.w) X.A (subscriptTail value slice v u) (EP X pins σ Q) X.xe s
def MtR (X : Cx) (id : String) (r : V -> List V -> Hp -> VK -> Prop) : Prop :=
  ∀ (pins : List (Addr × Obj)) (s : Shared) (σ : St) (H : Hp) (x : V) (xs : List V) (v : Value) (us : List Value) (Q : VK), Inv X pins σ H s -> RelV x v -> Vals xs us -> r x xs H Q ->
    wpAny (model X.prog X.w) X.A (call (.builtin id) (v :: us)) (EP X pins σ Q) X.xe s
section
variable {X : Cx} {a b : Expr} {ta tb : TE} {pos : Pos}
theorem bD (hr : IxR X r) (ha : PE X a ta) (hb : PE X b tb) (hs : Ii b) : PE X (.Subscript a b pos) (tOp r ta tb) := by
  intro pins s σ H Q I h
  exact Subscript_ (Kt ha hb I h fun v u s2 x y H2 I2 rx ry q => hr a b pins s2 σ H2 x y v u Q I2 rx ry q (hs _ _))
def b9 (K : FG) : R2 := fun x y H Q => ∃ p xs i v, x = .ref p /\ y = .int i /\ SqL K H p xs /\ atI xs i = some v /\ Q v H
def Cz (K : FG) : R2 := fun x y H Q => ∃ p xs i v, x = .ref p /\ y = .int i /\ SqT K H p xs /\ atI xs i = some v /\ Q v H
theorem aV : IxR X (b9 X.K) := by
  intro value slice pins s σ H x y v u Q I rx ry h hs
  obtain ⟨p, xs, i, z, rfl, rfl, hq, he, q⟩ := h
  cases rx
  obtain ⟨t, rfl⟩ := ry
  obtain ⟨aK, r, pl, hz⟩ := I.list hq
  obtain ⟨j, h1, h2, h3, h4, h5⟩ := yS he
  obtain ⟨w, ew, EU⟩ := r.get h2
  have hl := r.length
  have hn := uS
  have fin : EP X pins σ Q w s := ⟨z, H, I, EU, q⟩
  by_cases h0 : 0 <= i
  . have hj : i.toNat = j := by
      rw [seqIndex_of h0 h5] at h1
      exact Option.some.inj h1
    exact item_listR pl.isList h0 (by omega) (by rw [hj]; simpa using ew) fin hs
  . have hj : (i + (aK.toArray.size : Int)).toNat = j := by
      rw [seqIndex_neg (by omega) h4] at h1
      rw [Vx, <- hl]
      exact Option.some.inj h1
    exact subscriptTail_builtinR (x := w) pl.isList.typeIs slot_list_getitem.lookup
      (wpAny_getItem_list_neg (Q := fun r s' => r = w /\ EP X pins σ Q r s') pl.isList (by omega) (by rw [Vx] <;> omega) (by omega) (by rw [hj]; simpa using ew) ⟨rfl, fin⟩) hs
theorem uZ : IxR X (Cz X.K) := by
  intro value slice pins s σ H x y v u Q I rx ry h hs
  obtain ⟨p, xs, i, z, rfl, rfl, hq, he, q⟩ := h
  cases rx
  obtain ⟨t, rfl⟩ := ry
  obtain ⟨aK, r, pl, hz⟩ := I.tuple hq
  obtain ⟨j, h1, h2, h3, h4, h5⟩ := yS he
  obtain ⟨w, ew, EU⟩ := r.get h2
  have hl := r.length
  have hn := uS
  have fin : EP X pins σ Q w s := ⟨z, H, I, EU, q⟩
  exact subscriptTail_builtinR (x := w) pl.typeIs slot_tuple_getitem.lookup
    (getItem_tuple (j := j) (Q := fun r s' => r = w /\ EP X pins σ Q r s') pl (by omega) (by omega) (by rw [Vx, <- hl]; exact h1) (by simpa using ew) ⟨rfl, fin⟩) hs
theorem CA (aK : List Value) (n j : Nat) (u : Value) : Obj.mapSeq (·.setIfInBounds j u) { cls := .type "list", data := .seq aK.toArray n } = { cls := .type "list", data := .seq (aK.set j u).toArray n } := by
  simp [Obj.mapSeq]
theorem Inv.lst {H : Hp} (I : Inv X pins σ H s) (h : H p = some (.lst xs)) :
    ∃ (aK : List Value) (n : Nat), Vals xs aK /\ s.heap.get? p = some { cls := .type "list", data := .seq aK.toArray n } /\ xs.length <= sizeLine := by
  obtain ⟨z, aK, n, r, e⟩ := I.hok p _ h
  exact ⟨aK, n, r, e, z⟩
theorem Inv.KG {H : Hp} {aK its' : List Value} {n n' : Nat} {f : Obj -> Obj} (I : Inv X pins σ H s) (h : H p = some (.lst xs))
    (ho : s.heap.get? p = some { cls := .type "list", data := .seq aK.toArray n }) (hf : f { cls := .type "list", data := .seq aK.toArray n } = { cls := .type "list", data := .seq its'.toArray n' }) (r : Vals ys its') (hz : ys.length <= sizeLine) (t : Nat) :
    Inv X pins σ (upd H p (.lst ys)) { s with heap := s.heap.update p f, toks := t } := by
  have e : (s.heap.update p f).get? p = some { cls := .type "list", data := .seq its'.toArray n' } := by
    rw [Wj f ho (by rw [hf] <;> rfl), hf]
  refine I.write (x := p) (e := p) (by rw [h]; trivial) (.inl rfl) (fun b u hb q => (VS _ _ (Ne.symm hb)).trans q) ⟨_, e⟩ ?_
  exact ⟨hz, its', n', r, e⟩
def yf : V -> V -> V -> Hp -> (Hp -> Prop) -> Prop := fun o i v H Q => ∃ p xs k j, o = .ref p /\ i = .int k /\ H p = some (.lst xs) /\ ixN xs.length k = some j /\ Q (upd H p (.lst (xs.set j v)))
theorem set_list : Kn X yf := by
  intro pins s σ H o i v ov iv u Q I ro ri rv h
  obtain ⟨p, xs, k, j, rfl, rfl, hp, hj, q⟩ := h
  cases ro
  obtain ⟨t, rfl⟩ := ri
  obtain ⟨aK, n, r, ho, hz⟩ := I.lst hp
  obtain ⟨h1, h2, h3, h4⟩ := Eb hj
  have hl := r.length
  have hn := uS
  have I' : Inv X pins σ (upd H p (.lst (xs.set j v))) { s with heap := s.heap.update p (Obj.mapSeq (·.setIfInBounds j u)) } :=
    I.KG hp ho (CA aK n j u) (r.set rv j) (by rw [length_set]; exact hz) s.toks
  by_cases h0 : 0 <= k
  . have hk : k.toNat = j := by
      rw [seqIndex_of h0 h4] at h1
      exact Option.some.inj h1
    exact PySem.W.ki_setAt ho h0 (by omega) (by rw [Vx, <- hl]; exact h4) (by rw [hk]; exact ⟨_, I', q⟩)
  . have hk : (k + (aK.toArray.size : Int)).toNat = j := by
      rw [seqIndex_neg (by omega) h3] at h1
      rw [Vx, <- hl]
      exact Option.some.inj h1
    exact PySem.W.ki_setBack ho (by omega) (by rw [Vx, <- hl]; exact h3) (by omega) (by rw [hk]; exact ⟨_, I', q⟩)
theorem yT (lo hi : Option Int) (n : Nat) : (sliceBounds lo hi none n).1 = ((HT.sIx n 0 lo : Nat) : Int) /\ (sliceBounds lo hi none n).2.1 = ((HT.sIx n n hi : Nat) : Int) /\ (sliceBounds lo hi none n).2.2 = 1 := by
  refine ⟨?_, ?_, rfl⟩
  . cases lo with
    | none => simp [sliceBounds, HT.sIx]
    | some i =>
      simp only [sliceBounds, HT.sIx, Option.getD_none, show (1 : Int) > 0 by decide, if_true]
      by_cases h : i < 0
      . simp only [h, if_true] <;> omega
      . simp only [h, if_false] <;> omega
  . cases hi with
    | none => simp [sliceBounds, HT.sIx]
    | some i =>
      simp only [sliceBounds, HT.sIx, Option.getD_none, show (1 : Int) > 0 by decide, if_true]
      by_cases h : i < 0
      . simp only [h, if_true] <;> omega
      . simp only [h, if_false] <;> omega
theorem wX (aK : List Value) (lo hi : Option Int) : slicePick aK.toArray lo hi none = ((aK.drop (HT.sIx aK.length 0 lo)).take (HT.sIx aK.length aK.length hi - HT.sIx aK.length 0 lo)).toArray := by
  obtain ⟨h1, h2, h3⟩ := yT lo hi aK.toArray.size
  unfold slicePick
  rw [h1, h2, h3]
  simp only [sliceRange_one, pick_run, Vx] <;> rfl
def Ij (K : FG) : V -> Option Int -> Option Int -> Hp -> VK -> Prop := fun x lo hi H Q => ∃ a xs, x = .ref a /\ SqL K H a xs /\ ∀ p, H p = none -> Q (.ref p) (upd H p (.lst (yQ xs lo hi)))
theorem Ed : SlR X (Ij X.K) := by
  intro pins s σ H x v vl vu lo hi sl Q I rx hs pl pu h
  obtain ⟨a, xs, rfl, hx, q⟩ := h
  cases rx
  obtain ⟨aK, r, ht, hz⟩ := I.list hx
  have hlen := r.length
  refine ⟨"list", _, slot_list_getitem.lookup, ht.isList.typeIs, ?_⟩
  refine wpAny_getItem_list_slice ht.isList hs pl pu .none (by simp) ?_ (by rw [Vx] <;> omega)
  rw [wX, <- hlen]
  refine ⟨.ref s.heap.objs.size, _, I.laid (t' := s.toks) (o := .lst (yQ xs lo hi)) (fun b ob q => Vm _ q) (Vq _) ?_, rfl, q _ (I.hok.fresh (Vq _))⟩
  exact ⟨VH (AN xs lo hi) hz, _, 0, (r.drop (HT.sIx xs.length 0 lo)).take (HT.sIx xs.length xs.length hi - HT.sIx xs.length 0 lo), VA _ rfl⟩
def sP : V -> Bool
  | .non => true
  | .bl _ => true
  | .int _ => true
  | .str _ => true
  | _ => false
def eqV : V -> V -> Bool
  | .non, .non => true
  | .bl a, .bl b => a == b
  | .bl a, .int b => (if a then 1 else 0) == b
  | .int a, .bl b => a == (if b then 1 else 0)
  | .int a, .int b => a == b
  | .str a, .str b => a == b
  | _, _ => false
theorem KH (ry : RelV y u) (rx : RelV x v) (fy : sP y = true) (fx : sP x = true) : SeqAt.EqAt A s u v (eqV y x) := by
  cases y with
  | non =>
    cases ry
    cases x with
    | non => cases rx; exact SeqAt.EqAt.same _
    | bl b => cases rx; exact SeqAt.EqAt.none_bool b
    | int b => obtain ⟨t, rfl⟩ := rx; exact SeqAt.EqAt.none_int b t
    | str b => obtain ⟨t, rfl⟩ := rx; exact SeqAt.EqAt.none_str b t
    | _ => exact absurd (show false = true from fx) VD
  | bl a =>
    cases ry
    cases x with
    | non => cases rx; exact SeqAt.EqAt.bool_none a
    | bl b => cases rx; exact SeqAt.EqAt.bool_bool a b
    | int b => obtain ⟨t, rfl⟩ := rx; exact SeqAt.EqAt.bool_int a b t
    | str b => obtain ⟨t, rfl⟩ := rx; exact SeqAt.EqAt.bool_str a b t
    | _ => exact absurd (show false = true from fx) VD
  | int a =>
    obtain ⟨t', rfl⟩ := ry
    cases x with
    | non => cases rx; exact SeqAt.EqAt.int_none a t'
    | bl b => cases rx; exact SeqAt.EqAt.int_bool a t' b
    | int b => obtain ⟨t, rfl⟩ := rx; exact SeqAt.EqAt.int_int a t' b t
    | str b => obtain ⟨t, rfl⟩ := rx; exact SeqAt.EqAt.int_str a t' b t
    | _ => exact absurd (show false = true from fx) VD
  | str a =>
    obtain ⟨t', rfl⟩ := ry
    cases x with
    | non => cases rx; exact SeqAt.EqAt.str_none a t'
    | bl b => cases rx; exact SeqAt.EqAt.str_bool a t' b
    | int b => obtain ⟨t, rfl⟩ := rx; exact SeqAt.EqAt.str_int a t' b t
    | str b => obtain ⟨t, rfl⟩ := rx; exact SeqAt.EqAt.str_str a t' b t
    | _ => exact absurd (show false = true from fx) VD
  | _ => exact absurd (show false = true from fy) VD
def eqU (x : V) (u : Value) : Bool := match u with
  | .none => eqV .non x
  | .bool b => eqV (.bl b) x
  | .int i _ => eqV (.int i) x
  | .str z _ => eqV (.str z) x
  | _ => false
theorem Gd (r : RelV y u) (f : sP y = true) : eqU x u = eqV y x := by
  cases y with
  | non => cases r; rfl
  | bl b => cases r; rfl
  | int i => obtain ⟨t, rfl⟩ := r; rfl
  | str z => obtain ⟨t, rfl⟩ := r; rfl
  | _ => exact absurd (show false = true from f) VD
theorem yU : ∀ {xs : List V} {us : List Value}, Vals xs us -> xs.all sP = true -> us.any (eqU x) = xs.any fun y => eqV y x
  | _, _, .nil, _ => rfl
  | y :: xs, u :: us, .cons r t, f => by
    rw [all_cons, VV] at f
    rw [any_cons, any_cons, Gd r f.1, yU t f.2]
theorem u0 (rx : RelV x v) (fx : sP x = true) : ∀ {xs : List V} {us : List Value}, Vals xs us -> xs.all sP = true -> ∀ u ∈ us, SeqAt.EqAt A s u v (eqU x u)
  | _, _, .nil, _ => fun u hu => by cases hu
  | y :: xs, u :: us, .cons r t, f => fun u' hu => by
    rw [all_cons, VV] at f
    rcases mem_cons.mp hu with rfl | hu
    . rw [Gd r f.1]; exact KH r rx f.1 fx
    . exact u0 rx fx t f.2 u' hu
def inV (x : V) (xs : List V) : Bool := xs.any fun y => eqV y x
def rIn (K : FG) (neg : Bool) : R2 := fun x y H Q => ∃ p xs, y = .ref p /\ (SqL K H p xs \/ SqT K H p xs) /\ sP x = true /\ xs.all sP = true /\ Q (.bl (if neg then !inV x xs else inV x xs)) H
theorem yg : OpR X (compareOp .In) (rIn X.K false) := by
  intro pins s σ H x y v u Q I rx ry h
  obtain ⟨p, xs, rfl, hq, fx, fs, q⟩ := h
  cases ry
  rcases hq with hq | hq
  . obtain ⟨aK, r, pl, hz⟩ := I.list hq
    refine SeqAt.in_listAt (eqU x) pl.isList (fun w hw => u0 rx fx r fs w (by simpa using hw)) ⟨.bl _, H, I, rfl, ?_⟩
    rw [show aK.toArray.any (eqU x) = aK.any (eqU x) by simp, yU r fs]
    exact q
  . obtain ⟨aK, r, pl, hz⟩ := I.tuple hq
    refine SeqAt.in_tupleAt (eqU x) pl (fun w hw => u0 rx fx r fs w (by simpa using hw)) ⟨.bl _, H, I, rfl, ?_⟩
    rw [show aK.toArray.any (eqU x) = aK.any (eqU x) by simp, yU r fs]
    exact q
theorem aY : mm X (.builtin "len") (fun xs H Q => ∃ p ys, xs = [.ref p] /\ (SqL X.K H p ys \/ SqT X.K H p ys) /\ Q (.int ys.length) H) := by
  intro pins s σ H xs us Q I r h
  obtain ⟨p, ys, rfl, hq, q⟩ := h
  obtain ⟨u, rfl, rx⟩ := vals1 r
  cases rx
  have hn := uS
  rcases hq with hq | hq
  . obtain ⟨aK, r', pl, hz⟩ := I.list hq
    have hlen := r'.length
    exact Calls.call_len_list pl.isList (by simp only [Vx] <;> omega) ⟨.int ys.length, H, I.tok _, ⟨s.toks + 1, by rw [Vx, hlen]⟩, q⟩
  . obtain ⟨aK, r', pl, hz⟩ := I.tuple hq
    have hlen := r'.length
    exact len_tuple pl (by simp only [Vx] <;> omega) ⟨.int ys.length, H, I.tok _, ⟨s.toks + 1, by rw [Vx, hlen]⟩, q⟩
theorem yV : mm X (.type "list") (fun xs H Q => ∃ p ys, xs = [.ref p] /\ (SqL X.K H p ys \/ SqT X.K H p ys) /\ ∀ l, H l = none -> Q (.ref l) (upd H l (.lst ys))) := by
  intro pins s σ H xs us Q I r h
  obtain ⟨p, ys, rfl, hq, q⟩ := h
  obtain ⟨u, rfl, rx⟩ := vals1 r
  cases rx
  have fin : ∀ (aK : List Value), Vals ys aK -> ys.length <= sizeLine -> ∀ (h' : Heap) (c' : Nat), (∀ b o', s.heap.get? b = some o' -> h'.get? b = some o') ->
      h'.get? s.heap.objs.size = some { cls := .type "list", dict := none, data := .seq aK.toArray c', slots := #[] } -> EP X pins σ Q (.ref s.heap.objs.size) { s with heap := h' } := fun aK r' hz h' c' kp e =>
    ⟨.ref s.heap.objs.size, _, I.laid (t' := s.toks) kp (Vq _) (show cq X.prog X.w _ h' _ (.lst ys) from ⟨hz, aK, c', r', e⟩), rfl, q _ (I.hok.fresh (Vq _))⟩
  rcases hq with hq | hq
  . obtain ⟨aK, r', pl, hz⟩ := I.list hq
    have hlen := r'.length
    obtain ⟨o, ho, hc, n, hd⟩ := pl.isList
    exact call_list_seq p (.inl rfl) ho hc hd (fun h' c' kp e => fin aK r' hz h' c' kp e) (by simp only [Vx] <;> omega)
  . obtain ⟨aK, r', pl, hz⟩ := I.tuple hq
    have hlen := r'.length
    obtain ⟨o, ho, hc, n, hd⟩ := pl
    exact call_list_seq p (.inr rfl) ho hc hd (fun h' c' kp e => fin aK r' hz h' c' kp e) (by simp only [Vx] <;> omega)
def tyV (K : FG) (T : String) (x : V) (H : Hp) : Prop := match x with
  | .str _ => T = "str"
  | .int _ => T = "int"
  | .ref p => (T = "list" /\ ∃ xs, SqL K H p xs) \/ (T = "tuple" /\ ∃ o, K.lookup p = some o /\ o.cls = .type "tuple" /\ o.dict = none) \/
      (T = "dict" /\ ((∃ aQ, H p = some (.dK aQ)) \/ ∃ aQ, H p = some (.dT aQ))) \/ (T = "set" /\ ∃ S n, H p = some (.set S n))
  | _ => False
theorem KI {H : Hp} {T : String} (I : Inv X pins σ H s) (r : RelV x v) (ty : tyV X.K T x H) :
    s.TypeIs v T /\ ∀ a, v = .ref a -> ∃ ob, s.heap.get? a = some ob /\ ob.dict = none := by
  cases x with
  | str z =>
    obtain ⟨t, rfl⟩ := r
    cases (show T = "str" from ty)
    exact ⟨typeIs_str s z t, fun _ e => nomatch e⟩
  | int i =>
    obtain ⟨t, rfl⟩ := r
    cases (show T = "int" from ty)
    exact ⟨typeIs_int s i t, fun _ e => nomatch e⟩
  | ref p =>
    cases r
    rcases ty with ⟨rfl, xs, hq⟩ | ⟨rfl, o, hk, hc, hd⟩ | ⟨rfl, hk⟩ | ⟨rfl, S, n, hk⟩
    . obtain ⟨aK, _, pl, _⟩ := I.list hq
      refine ⟨pl.isList.typeIs, fun a e => ?_⟩
      cases e
      obtain ⟨o, n, e, c, hd, _⟩ := pl
      exact ⟨o, e, hd⟩
    . refine ⟨⟨o, I.kIn p o hk, hc⟩, fun a e => ?_⟩
      cases e
      exact ⟨o, I.kIn _ o hk, hd⟩
    . have z : ∃ o, s.heap.get? p = some o /\ o.ExactDict := by
        rcases hk with ⟨aQ, hk⟩ | ⟨aQ, hk⟩
        . obtain ⟨_, _, _, _, o, _, _, e, ex, _⟩ := I.hok p _ hk
          exact ⟨o, e, ex⟩
        . obtain ⟨_, _, _, _, o, _, _, e, ex, _⟩ := I.hok p _ hk
          exact ⟨o, e, ex⟩
      obtain ⟨o, e, ex⟩ := z
      refine ⟨⟨o, e, ex.1⟩, fun a e2 => ?_⟩
      cases e2
      exact ⟨o, e, ex.2.1⟩
    . obtain ⟨o, _, _, _, e, ex, _⟩ := I.hok p _ hk
      refine ⟨⟨o, e, ex.1⟩, fun a e2 => ?_⟩
      cases e2
      exact ⟨o, e, ex.2.1⟩
  | _ => exact False.elim ty
def tBM (K : FG) (T : String) (r : V -> List V -> Hp -> VK -> Prop) (to : TE) (t : TA) : TE := fun σ H Q => to σ H fun x H1 => tyV K T x H1 /\ t σ H1 fun xs H2 => r x xs H2 Q
variable {o e : Expr} {es : List Expr} {to : TE} {t : TA} {name : Str} {apos mn : Pos} {T id : String} {r : V -> List V -> Hp -> VK -> Prop}
theorem om (pa : PlainAttrs T) (slot : Slot T name id) (S7 : typeOf (.builtin id) = pure (.type "method_descriptor")) (hm : MtR X id r) (ho : PE X o to) (ha : PA X (e :: es) t)
    (MM : attributeBase o name X.env (eval o X.env) = eval o X.env := by rfl)
    (Py : ((backTo mn (starEach (e :: es) X.env)).all (fun x => !x.1) && (backToKw mn (keywordEach [] X.env)).all (fun x => x.1.isSome)
      && decide ((e :: es).length + ([] : List Keyword).length + (if ([] : List Keyword).isEmpty then 0 else 1) < 30)) = true := by rfl)
    (MN : (apos.endLine == mn.line) = true := by rfl) (hs : starEach (e :: es) X.env = (false, eval e X.env) :: starEach es X.env := by rfl) (KJ : (backTo mn (starEach es X.env)).any (·.1) = false := by rfl) :
    PE X (.Call (.Attribute o name apos) (e :: es) [] mn) (tBM X.K T r to t) := by
  intro pins s σ H Q I h
  refine wpAny_Call_method_late MM Py MN rfl (thn (ho pins s σ H _ I h) fun v s1 ⟨x, H1, I1, r1, ty, q1⟩ => ?_)
  obtain ⟨h1, h2⟩ := KI I1 r1 ty
  refine ⟨T, id, pa, slot, S7, h1, h2, ?_⟩
  have hA := ha mn pins s1 σ H1 _ I1 q1
  rw [hs] at hA ⊢
  refine Calls.callWith_builtin (by show (false || (backTo mn (starEach es X.env)).any (·.1)) = false; rw [KJ] <;> rfl) (Calls.evalArgs_plain ?_)
  exact thn hA fun us s2 ⟨vs, H2, I2, r2, q2⟩ => hm pins s2 σ H2 x vs v us Q I2 r1 r2 q2
end
end L2
namespace L2
def MtM (X : Cx) (id : String) (r : V -> List V -> Hp -> VK -> Prop) : Prop :=
  ∀ (pins : List (Addr × Obj)) (s : Shared) (σ : St) (H : Hp) (x : V) (xs : List V) (v : Value) (us : List Value) (Q : VK), Inv X pins σ H s -> RelV x v -> Vals xs us -> r x xs H Q ->
    wpAny (model X.prog X.w) X.A (call (.builtin id) (v :: us)) (EP X pins σ Q) X.xe s
theorem Vals.one : ∀ {x : V} {us : List Value}, Vals [x] us -> ∃ u, us = [u] /\ RelV x u
  | _, _, .cons r .nil => ⟨_, rfl, r⟩
section
variable {X : Cx} {pins : List (Addr × Obj)} {σ : St} {H : Hp} {s : Shared} {l b : Addr} {xs ys zs : List V}
theorem Inv.MO {aK its' : List Value} {n : Nat} {f : Array Value -> Array Value} {t' : Nat} (I : Inv X pins σ H s) (hH : H l = some (.lst xs))
    (e : s.heap.get? l = some { cls := .type "list", data := .seq aK.toArray n }) (hf : f aK.toArray = its'.toArray) (hv : Vals ys its') (hz : ys.length <= sizeLine) :
    Inv X pins σ (upd H l (.lst ys)) { s with heap := s.heap.update l (Obj.mapSeq f), toks := t' } := by
  have q := PySem.IsL.update e f
  rw [hf] at q
  refine I.write (x := l) (e := l) (by rw [hH]; exact trivial) (.inl rfl) (fun b' u hb hu => (VS s.heap (Obj.mapSeq f) (Ne.symm hb)).trans hu) ⟨_, q⟩ ?_
  exact ⟨hz, its', _, hv, q⟩
theorem Inv.Pz {t' : Nat} (I : Inv X pins σ H s) (hv : Vals ys aK) (hz : ys.length <= sizeLine) :
    Inv X pins σ (upd H s.heap.objs.size (.lst ys)) { s with heap := s.heap.push { cls := .type "list", data := .seq aK.toArray }, toks := t' } :=
  I.laid (fun _ _ q => Vm _ q) (Vq _) ⟨hz, aK, 0, hv, VA _ rfl⟩
theorem Inv.fresh (I : Inv X pins σ H s) : H s.heap.objs.size = none := I.hok.fresh (Vq _)
theorem Inv.Ge (I : Inv X pins σ H s) (hH : H l = some (.lst xs)) : xs.length <= sizeLine /\ ∃ (aK : List Value) (n : Nat), Vals xs aK /\ xs.length = aK.length /\ s.heap.get? l = some { cls := .type "list", data := .seq aK.toArray n } := by
  obtain ⟨z, aK, n, r, e⟩ := I.hok l _ hH
  exact ⟨z, aK, n, r, r.length, e⟩
theorem Gf {n : Nat} (h : n <= sizeLine) : Builtin.List.listTooLong n = false := by
  unfold Builtin.List.listTooLong
  exact VN (by omega)
end
section
variable {X : Cx}
def dI : V -> List V -> Hp -> VK -> Prop := fun x vs H Q => ∃ l xs y, x = .ref l /\ vs = [y] /\ H l = some (.lst xs) /\ xs.length < sizeLine /\ Q .non (upd H l (.lst (xs ++ [y])))
theorem fk : MtM X "list.append" dI := by
  intro pins s σ H x vs v us Q I rx rv h
  obtain ⟨l, xs, y, rfl, rfl, hH, hz, q⟩ := h
  cases rx
  obtain ⟨u, rfl, ru⟩ := rv.one
  obtain ⟨z, aK, n, r, hl, e⟩ := I.Ge hH
  refine call_meets F.slot_list_append ⟨_, e, rfl⟩ F.entry_list_append (F.args_list_append_2 _ _) (PySem.list_append l aK.toArray n u (by rw [Vx]; omega)) ⟨e, ?_⟩
  refine ⟨.non, _, I.MO (its' := aK ++ [u]) hH e (by simp) (r.append (.cons ru .nil)) ?_, rfl, q⟩
  rw [VB, List.length_singleton]
  omega
def nv : V -> List V -> Hp -> VK -> Prop := fun x vs H Q => ∃ l b xs zs, x = .ref l /\ vs = [.ref b] /\ H l = some (.lst xs) /\ H b = some (.lst zs) /\ xs.length + zs.length <= sizeLine /\ Q .non (upd H l (.lst (xs ++ zs)))
theorem rB : MtM X "list.extend" nv := by
  intro pins s σ H x vs v us Q I rx rv h
  obtain ⟨l, b, xs, zs, rfl, rfl, hH, hB, hz, q⟩ := h
  cases rx
  obtain ⟨u, rfl, ru⟩ := rv.one
  cases ru
  obtain ⟨z, aK, n, r, hl, e⟩ := I.Ge hH
  obtain ⟨z2, uY, n2, r2, yW, e2⟩ := I.Ge hB
  have hsz : aK.toArray.size + uY.toArray.size <= sizeLine := by rw [Vx, Vx]; omega
  have MP : ¬ (!aK.toArray.isEmpty && Builtin.List.listTooLong (aK.toArray.size + uY.toArray.size)) = true := by
    rw [Gf hsz, Bool.and_false]
    exact VD
  refine call_meets F.slot_list_extend ⟨_, e, rfl⟩ F.entry_list_extend (F.args_list_extend_2 _ _)
    (AutoSeq1.list_extend_list_list_0 l aK.toArray n b uY.toArray n2 MP (by rw [Vx]; omega) (by omega)) ⟨e, e2, ?_⟩
  refine ⟨.non, _, I.MO (its' := aK ++ uY) hH e (by simp) (r.append r2) ?_, rfl, q⟩
  rw [VB]
  omega
def qh : R2 := fun x y H Q => ∃ l b xs zs, x = .ref l /\ y = .ref b /\ H l = some (.lst xs) /\ H b = some (.lst zs) /\ xs.length + zs.length <= sizeLine /\ ∀ p, H p = none -> Q (.ref p) (upd H p (.lst (xs ++ zs)))
theorem gi : OpR X (binaryOp .Add) qh := by
  intro pins s σ H x y v u Q I rx ry h
  obtain ⟨l, b, xs, zs, rfl, rfl, hH, hB, hz, q⟩ := h
  cases rx
  cases ry
  obtain ⟨z, aK, n, r, hl, e⟩ := I.Ge hH
  obtain ⟨z2, uY, n2, r2, yW, e2⟩ := I.Ge hB
  refine PySem.P.add_list e e2 ?_ (by rw [Vx, Vx]; omega)
  have ea : aK.toArray ++ uY.toArray = (aK ++ uY).toArray := by simp
  rw [ea]
  exact ⟨.ref _, _, I.Pz (t' := s.toks) (r.append r2) (by rw [VB]; omega), rfl, q _ I.fresh⟩
end
section
variable {prog : Program} {w : World} {A : Around} {E : Value -> Shared -> Prop} {s : Shared}
end
section
variable {X : Cx}
end
end L2
namespace L2
theorem Vals.ints : ∀ {ns : List Int} {us : List Value}, Vals (ns.map V.int) us -> IntsAre us ns
  | [], us, h => by
    rw [map_nil] at h
    cases h
    exact IntsAre.nil
  | n :: ns, us, h => by
    rw [Vy] at h
    cases h with
    | cons r t =>
      obtain ⟨k, rfl⟩ := r
      exact IntsAre.cons n k (Vals.ints t)
theorem Vals.bls : ∀ {bs : List Bool} {us : List Value}, Vals (bs.map V.bl) us -> us = bs.map Value.bool
  | [], us, h => by
    rw [map_nil] at h
    cases h
    rfl
  | b :: bs, us, h => by
    rw [Vy] at h
    cases h with
    | cons r t =>
      cases r
      rw [Vals.bls t, Vy]
theorem Vals.Ik (r : Vals [V.ref a] us) : us = [Value.ref a] := by
  cases r with
  | cons r t =>
    cases t
    cases r
    rfl
section
variable {prog : Program} {w : World} {A : Around} {E : Value -> Shared -> Prop} {s : Shared} {l : Addr} {aK : List Value} {ns : List Int} {Q : Value -> Shared -> Prop}
theorem Il (hh : A.handled = none) (hl : s.heap.IsList l aK.toArray) (hi : IntsAre aK ns)
    (h : ∀ h' tk t', (∀ b o, s.heap.get? b = some o -> h'.get? b = some o) -> Q (.int ns.sum t') { s with heap := h', toks := tk }) : wpAny (model prog w) A (call (.builtin "sum") [.ref l]) Q E s := by
  obtain ⟨xs, e⟩ := hi.allInts.items
  have hn : numsOf (intItems xs).toList = ns := by rw [<- e]; exact hi.numsOf
  rw [nums_intItems] at hn
  rw [e] at hl
  refine PySem.sum_intListG hh hl fun h' tk t' hk => ?_
  have := h h' tk t' hk
  rw [preSum_eq, List.take_of_length_le (by simp), hn]; exact this
end
section
variable {X : Cx}
def oM (K : FG) : List V -> Hp -> VK -> Prop := fun vs H Q => ∃ (a : Addr) (ns : List Int), vs = [V.ref a] /\ SqL K H a (ns.map V.int) /\ Q (.int ns.sum) H
theorem fm (hc : X.calm = true) : mm X (.builtin "sum") (oM X.K) := by
  intro pins s σ H vs us Q I r h
  obtain ⟨a, ns, rfl, hs, q⟩ := h
  obtain ⟨aK, rv, hl, _⟩ := I.list hs
  rw [Vals.Ik r]
  exact Il (I.ok.hd hc) hl.isList rv.ints fun h' tk t' hk => ⟨.int _, H, I.kept hk, ⟨_, rfl⟩, q⟩
end
section
variable {X : Cx}
end
section
variable {X : Cx}
end
theorem AO {s : Shared} {items : Array Value} {Q : Value -> Shared -> Prop} (hl : s.heap.IsList l items)
    (h : ∀ s₂ : Shared, s₂ = { s with heap := s.heap.push { cls := .type "list_iterator", data := .fields #[.ref l, .int 0 0] } } ->
      (s₂.heap.IsListIter s.heap.objs.size l 0 /\ s₂.heap.IsList l items) -> l ≠ s.heap.objs.size -> Q (.ref s.heap.objs.size) s₂) : wpAny (model prog w) A (pyIter (.ref l)) Q E s := by
  have cN : l < s.heap.objs.size := by obtain ⟨_, e, _⟩ := hl; exact Vu e
  exact wpAny_pyIter_list hl (h _ rfl ⟨⟨_, VA _ rfl, rfl, rfl⟩, hl.push _⟩ (Vp cN))
theorem AQ {bs : List Bool} {aK : List Value} (e : aK = bs.map Value.bool) :
    TruthOf prog w A (fun i v => aK.toArray[i]? = some v) (fun i => bs.getD i false) := fun i v s Q E hv hq => by
  have Kv : aK[i]? = some v := by simpa using hv
  rw [e, Vt] at Kv
  obtain ⟨b, hb, rfl⟩ := Option.map_eq_some_iff.mp Kv
  have hg : bs.getD i false = b := by rw [List.getD_eq_getElem?_getD, hb] <;> rfl
  have JF : Q (bs.getD i false) s := hq
  rw [hg] at JF
  exact V6 JF
theorem any_range : ∀ bs : List Bool, (range bs.length).any (fun i => bs.getD i false) = bs.any id
  | [] => rfl
  | b :: bs => by
    rw [VC, List.range_succ_eq_map, any_cons, List.any_map, any_cons, <- any_range bs]
    all_goals rfl
theorem all_range : ∀ bs : List Bool, (range bs.length).all (fun i => bs.getD i false) = bs.all id
  | [] => rfl
  | b :: bs => by
    rw [VC, List.range_succ_eq_map, all_cons, all_map, all_cons, <- all_range bs]
    all_goals rfl
section
variable {X : Cx}
def KL (K : FG) : List V -> Hp -> VK -> Prop := fun vs H Q => ∃ (a : Addr) (bs : List Bool), vs = [V.ref a] /\ SqL K H a (bs.map V.bl) /\ Q (.bl (bs.all id)) H
theorem Gg (hc : X.calm = true) : mm X (.builtin "all") (KL X.K) := by
  intro pins s σ H vs us Q I r h
  obtain ⟨a, bs, rfl, hs, q⟩ := h
  obtain ⟨aK, rv, hl, _⟩ := I.list hs
  rw [Vals.Ik r]
  have hb := rv.bls
  refine call_all_walk (AO hl.isList fun s₂ e2 st qi => ?_)
  subst e2
  refine ⟨_, _, _, _, _, _, _, rfl, Walks.list (A := X.A.in1) (I.ok.hd hc) _ a qi aK.toArray, st, AQ hb, fun h' tk hk => ?_⟩
  refine ⟨.bl _, H, I.kept fun b o eo => hk b o (fun BZ => ?_) (Vm _ eo), ?_, q⟩
  . rcases mem_cons.mp BZ with e1 | BZ
    . exact absurd (e1 ▸ Vu eo) (VO _)
    . cases BZ
  . show Value.bool _ = Value.bool _
    rw [<- all_range, hb, Vx, Vg]
end
mutual
inductive Dp (K : FG) (H : Hp) : V -> PyData -> Prop
  | non : Dp K H .non .none
  | bl (b : Bool) : Dp K H (.bl b) (.bool b)
  | int (i : Int) : Dp K H (.int i) (.int i)
  | str (x : Str) : Dp K H (.str x) (.str x)
  | lst {a : Addr} {xs : List V} {ds : List PyData} : SqL K H a xs -> yh K H xs ds -> Dp K H (.ref a) (.list ds)
  | tup {a : Addr} {xs : List V} {ds : List PyData} : SqT K H a xs -> yh K H xs ds -> Dp K H (.ref a) (.tuple ds)
inductive yh (K : FG) (H : Hp) : List V -> List PyData -> Prop
  | nil : yh K H [] []
  | cons {v : V} {vs : List V} {d : PyData} {ds : List PyData} : Dp K H v d -> yh K H vs ds -> yh K H (v :: vs) (d :: ds)
end
section
variable {X : Cx} {pins : List (Addr × Obj)} {σ : St} {H : Hp} {s : Shared}
mutual
theorem Dp.reads (I : Inv X pins σ H s) : ∀ (d : PyData) (v : V) (u : Value), Dp X.K H v d -> RelV v u -> ∃ as, Reads s.heap u d as
  | .none, _, _, h, r => by
    cases h
    cases r
    exact ⟨_, Reads.none⟩
  | .bool b, _, _, h, r => by
    cases h
    cases r
    exact ⟨_, Reads.bool b⟩
  | .int i, _, _, h, r => by
    cases h
    obtain ⟨t, rfl⟩ := r
    exact ⟨_, Reads.int i t⟩
  | .str x, _, _, h, r => by
    cases h
    obtain ⟨t, rfl⟩ := r
    exact ⟨_, Reads.str x t⟩
  | .list ds, _, _, h, r => by
    cases h with
    | lst hs ha =>
      cases r
      obtain ⟨aK, rv, ⟨o, n, ho, hc, _, hd⟩, _⟩ := I.list hs
      obtain ⟨as, hr⟩ := Dp.readsAll I ds _ aK ha rv
      exact ⟨_, Reads.list ho hc hd hr⟩
  | .tuple ds, _, _, h, r => by
    cases h with
    | tup hs ha =>
      cases r
      obtain ⟨aK, rv, ⟨o, ho, hc, n, hd⟩, _⟩ := I.tuple hs
      obtain ⟨as, hr⟩ := Dp.readsAll I ds _ aK ha rv
      exact ⟨_, Reads.tuple ho hc hd hr⟩
  | .dict _, _, _, h, _ => by cases h
theorem Dp.readsAll (I : Inv X pins σ H s) : ∀ (ds : List PyData) (vs : List V) (us : List Value), yh X.K H vs ds -> Vals vs us -> ∃ as, ReadsAll s.heap us ds as
  | [], _, _, h, r => by
    cases h
    cases r
    exact ⟨_, ReadsAll.nil⟩
  | d :: ds, _, _, h, r => by
    cases h with
    | cons h1 h2 =>
      cases r with
      | cons r1 r2 =>
        obtain ⟨as, q1⟩ := Dp.reads I d _ _ h1 r1
        obtain ⟨bs, q2⟩ := Dp.readsAll I ds _ _ h2 r2
        exact ⟨_, ReadsAll.cons q1 q2⟩
end
end
section
variable {X : Cx}
def KN (K : FG) : R2 := fun x y H Q => ∃ d e, Dp K H x d /\ Dp K H y e /\ SeqAt.shaped d = true /\ SeqAt.shaped e = true /\ Q (.bl (PyData.eqv d e)) H
theorem KO (hu : X.A.units + 64 < cLine) : OpR X (compareOp .Eq) (KN X.K) := by
  intro pins s σ H x y v u Q I rx ry h
  obtain ⟨d, e, hd, he, sd, se, q⟩ := h
  obtain ⟨as, r1⟩ := Dp.reads I d x v hd rx
  obtain ⟨bs, r2⟩ := Dp.reads I e y u he ry
  exact SeqAt.compareEq_shaped r1 r2 sd se hu ⟨.bl _, H, I, rfl, q⟩
end
end L2
namespace L2
abbrev Gh (h : Heap) (c : Addr) (v : Option Value) : Prop := h.IsCell c v
def PB (scope sc : Scope) : Scope :=
  { scope with names := scope.names.map fun (n, k) => if (k == .free && sc.kind == .function && sc.names.lookup n == some .cell) then (n, .cell) else (n, k) }
def a9 (cells : List (Str × Addr)) : List (Str × NameKind) -> List (Str × Addr) -> List (Str × Addr)
  | [], acc => acc
  | (n, k) :: r, acc => if k == .free then a9 cells r ((n, (cells.lookup n).getD 0) :: acc) else a9 cells r acc
theorem qj (env : Env) (f : Str × NameKind -> List (Str × Addr) -> Sem (ForInStep (List (Str × Addr))))
    (hf : ∀ n k c, f (n, k) c = if k == .free then (do let a <- cellOf env n; pure (.yield ((n, a) :: c))) else pure (.yield c)) :
    ∀ (names : List (Str × NameKind)) (acc : List (Str × Addr)), (∀ y ∈ names, y.2 = .free -> ∃ c, env.cells.lookup y.1 = some c) -> forIn names acc f = pure (a9 env.cells names acc)
  | [], acc, _ => by rw [List.forIn_nil]; rfl
  | (n, k) :: r, acc, h => by
    rw [List.forIn_cons, hf]
    have ih := fun acc => qj env f hf r acc fun y hy => h y (Vs _ hy)
    unfold a9
    by_cases hk : (k == NameKind.free) = true
    . rw [Vj hk, Vj hk]
      obtain ⟨c, hc⟩ := h (n, k) Vv (by simpa using hk)
      have e : cellOf env n = pure c := by unfold cellOf; rw [hc]
      rw [e]
      have e2 : (env.cells.lookup n).getD 0 = c := by rw [hc]; rfl
      rw [e2]
      exact ih _
    . rw [Vh hk, Vh hk]
      exact ih _
theorem u5 {scope : Scope} {env : Env} (h : ∀ y ∈ scope.names, y.2 = .free -> ∃ c, env.cells.lookup y.1 = some c) : closureFor scope env = pure (a9 env.cells scope.names []) := by
  simp only [closureFor]
  rw [qj env _ (fun n k c => rfl) scope.names [] h]
  rfl
theorem mem_lookup {α : Type} : ∀ {l : List (Str × α)} {n : Str} {c : α}, (n, c) ∈ l -> ∃ c', l.lookup n = some c'
  | (k, v) :: r, n, c, h => by
    rw [lookup_cons]
    cases hb : n == k with
    | true => exact ⟨_, rfl⟩
    | false =>
      rcases mem_cons.mp h with e | h
      . cases e; simp at hb
      . exact mem_lookup h
theorem ee {cells : List (Str × Addr)} : ∀ {names : List (Str × NameKind)} {acc : List (Str × Addr)} {n : Str} {c : Addr}, (n, c) ∈ a9 cells names acc -> (n, c) ∈ acc \/ ((n, .free) ∈ names /\ c = (cells.lookup n).getD 0)
  | [], _, _, _, h => .inl h
  | (m, k) :: r, acc, n, c, h => by
    unfold a9 at h
    split at h
    . rename_i hk
      have hk : k = .free := by simpa using hk
      rcases ee h with h | ⟨h1, h2⟩
      . rcases mem_cons.mp h with e | h
        . cases e; exact .inr ⟨hk ▸ Vv, rfl⟩
        . exact .inl h
      . exact .inr ⟨Vs _ h1, h2⟩
    . rcases ee h with h | ⟨h1, h2⟩
      . exact .inl h
      . exact .inr ⟨Vs _ h1, h2⟩
theorem mq {cells : List (Str × Addr)} : ∀ {names : List (Str × NameKind)} {acc : List (Str × Addr)} {p : Str × Addr}, p ∈ acc -> p ∈ a9 cells names acc
  | [], _, _, h => h
  | (m, k) :: r, acc, p, h => by
    unfold a9
    split
    . exact mq (Vs _ h)
    . exact mq h
theorem iM {cells : List (Str × Addr)} : ∀ {names : List (Str × NameKind)} {acc : List (Str × Addr)} {n : Str}, (n, .free) ∈ names -> (n, (cells.lookup n).getD 0) ∈ a9 cells names acc
  | (m, k) :: r, acc, n, h => by
    unfold a9
    rcases mem_cons.mp h with e | h
    . cases e
      exact mq Vv
    . split
      . exact iM h
      . exact iM h
theorem jQ : ∀ {names : List (Str × NameKind)} {h : Heap} {acc : List (Str × Addr)} {x : Str} {c : Addr}, (x, c) ∈ cellsFrom h.objs.size names acc ->
    (x, c) ∈ acc \/ ((x, .cell) ∈ names /\ h.objs.size <= c /\ Gh (pushCells h names) c none)
  | [], _, _, _, _, h => .inl h
  | (n, k) :: r, h, acc, x, c, hm => by
    unfold cellsFrom at hm
    unfold pushCells
    split at hm
    . rename_i hk
      rw [Vj hk]
      have hk : k = .cell := by simpa using hk
      rw [<- VE h { cls := .type "cell", data := .cell none }] at hm
      rcases jQ hm with hm | ⟨h1, h2, h3⟩
      . rcases mem_cons.mp hm with e | hm
        . cases e
          exact .inr ⟨hk ▸ Vv, Vq _, _, pushCells_keeps r _ _ _ (VA _ rfl), rfl⟩
        . exact .inl hm
      . rw [VE] at h2
        exact .inr ⟨Vs _ h1, le_of_succ_le h2, h3⟩
    . rename_i hk
      rw [Vh hk]
      rcases jQ hm with hm | ⟨h1, h2, h3⟩
      . exact .inl hm
      . exact .inr ⟨Vs _ h1, h2, h3⟩
theorem ny : ∀ {names : List (Str × NameKind)} {n : Nat} {acc : List (Str × Addr)} {p : Str × Addr}, p ∈ acc -> p ∈ cellsFrom n names acc
  | [], _, _, _, h => h
  | (m, k) :: r, n, acc, p, h => by
    unfold cellsFrom
    split
    . exact ny (Vs _ h)
    . exact ny h
theorem rC : ∀ {names : List (Str × NameKind)} {n : Nat} {acc : List (Str × Addr)} {x : Str}, (x, .cell) ∈ names -> ∃ c, (x, c) ∈ cellsFrom n names acc
  | (m, k) :: r, n, acc, x, h => by
    unfold cellsFrom
    rcases mem_cons.mp h with e | h
    . cases e
      exact ⟨n, ny Vv⟩
    . split
      . exact rC h
      . exact rC h
theorem rD : ∀ {names : List (Str × NameKind)} {h : Heap} {acc : List (Str × Addr)} {x y : Str} {c : Addr}, (∀ p ∈ acc, p.2 < h.objs.size) -> (∀ x y c, (x, c) ∈ acc -> (y, c) ∈ acc -> x = y) ->
    (x, c) ∈ cellsFrom h.objs.size names acc -> (y, c) ∈ cellsFrom h.objs.size names acc -> x = y
  | [], _, _, _, _, _, _, hi, h1, h2 => hi _ _ _ h1 h2
  | (n, k) :: r, h, acc, x, y, c, hl, hi, h1, h2 => by
    unfold cellsFrom at h1 h2
    split at h1
    . rename_i hk
      rw [Vj hk] at h2
      rw [<- VE h { cls := .type "cell", data := .cell none }] at h1 h2
      refine rD (h := h.push _) (fun p hp => ?_) (fun x y c a b => ?_) h1 h2
      . rw [VE]
        rcases mem_cons.mp hp with rfl | hp
        . exact Nat.lt_succ_self _
        . exact VW (hl p hp)
      . rcases mem_cons.mp a with e | a <;> rcases mem_cons.mp b with e' | b
        . cases e; cases e'; rfl
        . cases e; exact absurd (hl _ b) (VO _)
        . cases e'; exact absurd (hl _ a) (VO _)
        . exact hi _ _ _ a b
    . rename_i hk
      rw [Vh hk] at h2
      exact rD hl hi h1 h2
theorem AR {M : Model} {s : Shared} {globals : Addr} {closure : List (Str × Addr)} {qual : Str} {func : Option Addr} {code : Value} {around : Env} {builtins : Addr} {Q : Env -> Shared -> Prop}
    (h : Q (newEnv scope s.heap.objs.size globals (cellsFrom (s.heap.objs.size + 1) scope.names closure) qual func code (some around) builtins)
      { s with heap := pushCells (s.heap.push { cls := .type "dict", data := .dict #[] }) scope.names }) :
    wpAny M A (newFunctionEnv scope globals closure [] qual func code (some around) builtins) Q E s := by
  simp only [newFunctionEnv, Option.isSome_some, if_true]
  refine Vi (wpAny_alloc ?_)
  refine Vi (wpAny_layCells _ (fun n k c => rfl) scope.names closure _ _ ?_)
  rw [show ({ s with heap := s.heap.push { cls := .type "dict", data := .dict #[] } } : Shared).heap.objs.size = s.heap.objs.size + 1 from VE ..]
  rw [List.forIn_nil]
  exact Vi (Vo (Vo h))
theorem mr {sc : Scope} : ∀ {names : List (Str × NameKind)} {x : Str} {k : NameKind},
    (names.map fun (n, k) => if (k == NameKind.free && sc.kind == .function && sc.names.lookup n == some .cell) then (n, NameKind.cell) else (n, k)).lookup x = some k ->
    ∃ k', names.lookup x = some k' /\ (k = k' \/ (k' = .free /\ k = .cell))
  | [], _, _, h => by simp at h
  | (n, k₀) :: r, x, k, h => by
    have ih := @mr sc r x k
    have h' : List.lookup x ((if (k₀ == NameKind.free && sc.kind == .function && sc.names.lookup n == some .cell) = true then (n, NameKind.cell) else (n, k₀)) :: (r.map _)) = some k := h
    cases hx : x == n with
    | true =>
      simp only [lookup_cons, hx]
      by_cases hc : (k₀ == NameKind.free && sc.kind == .function && sc.names.lookup n == some .cell) = true
      . rw [Vj hc] at h'
        simp only [lookup_cons, hx] at h'
        cases h'
        simp only [VV, beq_iff_eq] at hc
        exact ⟨k₀, rfl, .inr ⟨hc.1.1, rfl⟩⟩
      . rw [Vh hc] at h'
        simp only [lookup_cons, hx] at h'
        cases h'
        exact ⟨_, rfl, .inl rfl⟩
    | false =>
      simp only [lookup_cons, hx]
      by_cases hc : (k₀ == NameKind.free && sc.kind == .function && sc.names.lookup n == some .cell) = true
      . rw [Vj hc] at h'
        simp only [lookup_cons, hx] at h'
        exact ih h'
      . rw [Vh hc] at h'
        simp only [lookup_cons, hx] at h'
        exact ih h'
structure AS (N : List Str) (sc scope : Scope) (own : List (Str × Nat)) : Prop where
  kind : scope.kind = .function
  uniq : ∀ y ∈ scope.names, scope.names.lookup y.1 = some y.2
  ix : ∀ p ∈ own, N[p.2]? = some p.1
  free : ∀ y ∈ scope.names, y.2 = .free -> sc.names.lookup y.1 = some .cell \/ sc.names.lookup y.1 = some .free
  own : ∀ y ∈ scope.names, y.2 = .local \/ y.2 = .cell -> y.1 ∈ own.map (·.1) \/ y.1 ∉ N
def wipe (σ : St) : List Nat -> St
  | [] => σ
  | v :: vs => (wipe σ vs).set v none
theorem mv (σ : St) : ∀ vs : List Nat, (wipe σ vs).length = σ.length
  | [] => rfl
  | v :: vs => by unfold wipe; rw [length_set, mv σ vs]
theorem rE {i : Nat} {x : V} : ∀ {vs : List Nat}, (wipe σ vs)[i]? = some (some x) -> σ[i]? = some (some x) /\ i ∉ vs
  | [], h => ⟨h, by simp⟩
  | v :: vs, h => by
    unfold wipe at h
    by_cases hi : v = i
    . subst hi
      by_cases hv : v < (wipe σ vs).length
      . rw [Wh hv] at h; cases h
      . rw [VL (by simpa using hv)] at h; cases h
    . rw [We hi] at h
      obtain ⟨h1, h2⟩ := rE h
      exact ⟨h1, by simp only [mem_cons, not_or]; exact ⟨fun e => hi e.symm, h2⟩⟩
abbrev Cx.blk (X : Cx) (s : Shared) (H : Hp) (scope : Scope) (eA : Env) (fp : List Addr) : Cx := { X with s_0 := s, H_0 := H, env := eA, outer := X.stack, ex := fp, fn := fun x => scope.names.lookup x == some .cell, pn := [], xe := fun _ _ => False }
section
variable {X : Cx} {pins : List (Addr × Obj)} {σ : St} {H : Hp} {s : Shared}
theorem AU {fp : List Addr} (I : Inv X pins σ H s) (ok : AS X.N X.env.scope scope own) (hN : X.N.Nodup) (Ml : ∀ b ∈ fp, oJ X pins H b /\ b < s.heap.objs.size) :
    Inv (X.blk s H scope (compEnvC scope (cellsFrom (s.heap.objs.size + 1) scope.names (a9 X.env.cells scope.names [])) s.heap.objs.size X.env) fp) [] (wipe σ (own.map (·.2))) H { s with heap := pushCells (s.heap.push { cls := .type "dict", data := .dict #[] }) scope.names } := by
  have sM : ∀ y ∈ scope.names, y.2 = .free -> ∃ c, X.env.cells.lookup y.1 = some c := fun y hy e => by
    rcases ok.free y hy e with k | k
    . exact I.ok.has _ (.inl k)
    . exact I.ok.has _ (.inr k)
  generalize AV : compEnvC scope (cellsFrom (s.heap.objs.size + 1) scope.names (a9 X.env.cells scope.names [])) s.heap.objs.size X.env = eA
  have kp : ∀ b o, s.heap.get? b = some o -> (pushCells (s.heap.push { cls := .type "dict", data := .dict #[] }) scope.names).get? b = some o := fun b o e => pushCells_keeps _ _ _ _ (Vm _ e)
  have hL : eA.locals = s.heap.objs.size := by rw [<- AV]; rfl
  have HG : eA.cells = cellsFrom (s.heap.objs.size + 1) scope.names (a9 X.env.cells scope.names []) := by rw [<- AV]; rfl
  have PD : eA.scope = PB scope X.env.scope := by rw [<- AV]; rfl
  rw [<- VE s.heap { cls := .type "dict", data := .dict #[] }] at HG
  have cm : ∀ {y c}, (y, c) ∈ a9 X.env.cells scope.names [] -> X.env.cells.lookup y = some c /\ c < s.heap.objs.size := fun {y c} hm => by
    rcases ee hm with hm | ⟨h1, rfl⟩
    . cases hm
    . obtain ⟨c, hc⟩ := sM _ h1 rfl
      rw [hc]
      obtain ⟨w, z⟩ := I.cell _ _ hc
      exact ⟨rfl, z.lt⟩
  have mem : ∀ {y c}, eA.cells.lookup y = some c -> (X.env.cells.lookup y = some c /\ c < s.heap.objs.size) \/ (s.heap.objs.size + 1 <= c /\ Gh (pushCells (s.heap.push { cls := .type "dict", data := .dict #[] }) scope.names) c none) := fun {y c} e => by
    rw [HG] at e
    rcases jQ (VM e) with hm | ⟨_, h2, h3⟩
    . exact .inl (cm hm)
    . rw [VE] at h2; exact .inr ⟨h2, h3⟩
  have look : ∀ {y}, scope.names.lookup y = some .free -> ∃ c, eA.cells.lookup y = some c /\ X.env.cells.lookup y = some c := fun {y} hl => by
    have hy : (y, NameKind.free) ∈ scope.names := VM hl
    obtain ⟨c', e'⟩ := mem_lookup (ny (names := scope.names) (n := (s.heap.push { cls := .type "dict", data := .dict #[] }).objs.size) (iM (cells := X.env.cells) (acc := []) hy))
    rw [<- HG] at e'
    refine ⟨c', e', ?_⟩
    rw [HG] at e'
    rcases jQ (VM e') with hm | ⟨h1, _, _⟩
    . exact (cm hm).1
    . have := ok.uniq _ h1
      rw [hl] at this; cases this
  have S8 : (X.blk s H scope eA fp).Ok := by
    refine ⟨I.ok.mod, by show eA.scope.kind = _; rw [PD]; exact ok.kind, by show eA.globals = _; rw [<- AV]; exact I.ok.glob, by show eA.builtins = _; rw [<- AV]; exact I.ok.blt, by show s.heap.objs.size <= eA.locals; rw [hL]; exact Vq _,
      fun y z c e1 e2 => ?_, fun y hy => ?_, fun y c z e => ?_, I.ok.hd, I.ok.frames, .inl rfl, fun b hb => ⟨?_, fun y c e z => ?_⟩, I.bs, VH I.ok.bsz I.sz, fun b o e hb => ?_, fun b hb z => ?_, I.stack, I.DW⟩
    . have e1 : eA.cells.lookup y = some c := e1
      have e2 : eA.cells.lookup z = some c := e2
      rw [HG] at e1 e2
      refine rD (fun p hp => ?_) (fun y z c a b => I.ok.inj y z c (cm a).1 (cm b).1) (VM e1) (VM e2)
      rw [VE]
      exact VW (cm (y := p.1) (c := p.2) hp).2
    . show ∃ c, eA.cells.lookup y = some c
      have key : ∀ k, eA.kindOf y = some k -> (k = .cell \/ k = .free) -> ∃ c, eA.cells.lookup y = some c := fun k hk KP => by
        unfold Env.kindOf at hk
        rw [PD] at hk
        obtain ⟨k', e, r⟩ := mr hk
        have : k' = .cell \/ k' = .free := by
          rcases r with rfl | ⟨rfl, _⟩
          . exact KP
          . exact .inr rfl
        rcases this with rfl | rfl
        . obtain ⟨c, hm⟩ := rC (n := (s.heap.push { cls := .type "dict", data := .dict #[] }).objs.size) (acc := a9 X.env.cells scope.names []) (VM e)
          obtain ⟨c', e'⟩ := mem_lookup hm
          exact ⟨c', by rw [HG]; exact e'⟩
        . obtain ⟨c, h1, _⟩ := look e
          exact ⟨c, h1⟩
      rcases hy with hy | hy
      . exact key _ hy (.inl rfl)
      . exact key _ hy (.inr rfl)
    . have z : (scope.names.lookup y == some NameKind.cell) = true := z
      have z : scope.names.lookup y = some .cell := by simpa using z
      have e : eA.cells.lookup y = some c := e
      rw [HG] at e
      rcases jQ (VM e) with hm | ⟨_, h2, _⟩
      . rcases ee hm with hm | ⟨h1, _⟩
        . cases hm
        . have q := ok.uniq _ h1
          rw [z] at q; cases q
      . rw [VE] at h2
        exact le_of_succ_le h2
    . show b ≠ eA.locals
      rw [hL]; exact Vp (Ml b hb).2
    . have e : eA.cells.lookup y = some c := e
      rcases mem e with ⟨h1, _⟩ | ⟨h1, _⟩
      . exact (Ml b hb).1.2.2.2.2.1 y c h1 z
      . have h2 : s.heap.objs.size + 1 <= b := by rw [<- z]; exact h1
        exact absurd (VI (Ml b hb).2 (le_of_succ_le h2)) (VO _)
    . rcases (Ml b hb).1.2.2.2.1 with z | z
      . exact I.ok.FW b o e z
      . exact absurd (VI (Vu e) (VH I.ok.bsz z)) (VO _)
    . rcases mem_cons.mp (I.B6 b z) with z | z
      . exact (Ml b hb).1.2.1 z
      . exact (Ml b hb).1.2.2.1 z
  refine ⟨S8, rfl, I.bare, Un.kept kp, ⟨fun _ => none, ?_, fun i y av e1 e2 e3 => ?_⟩, fun y c e => ?_, ?_, fun y c e => ?_, fun p hp => ?_, I.hok.kept kp, by rw [mv]; exact I.len⟩
  . show Heap.Ns _ eA.locals _
    rw [hL]
    exact Heap.Ns.keeps (Heap.Ns.new ..) fun b o e => pushCells_keeps _ _ _ _ e
  . obtain ⟨e2, qi⟩ := rE e2
    have Mm : scope.names.lookup y = some .free /\ (eA.kindOf y = some .cell \/ eA.kindOf y = some .free) := by
      have key : ∀ k, eA.scope.names.lookup y = some k -> k = .local \/ k = .cell \/ k = .free -> scope.names.lookup y = some .free /\ (eA.kindOf y = some .cell \/ eA.kindOf y = some .free) := fun k hk KP => by
        have Ry := hk
        rw [PD] at hk
        obtain ⟨k', e, r⟩ := mr hk
        have no : ¬ (k' = .local \/ k' = .cell) := fun hh => by
          rcases ok.own _ (VM e) hh with e' | e'
          . obtain ⟨p, hp, PF⟩ := mem_map.mp e'
            have e3 := ok.ix p hp
            have : p.1 = y := PF
            rw [this] at e3
            exact qi (mem_map.mpr ⟨p, hp, uM hN e3 e1⟩)
          . exact e' (VG e1)
        rcases r with rfl | ⟨rfl, rfl⟩
        . rcases KP with rfl | rfl | rfl
          . exact absurd (.inl rfl) no
          . exact absurd (.inr rfl) no
          . exact ⟨e, .inr Ry⟩
        . exact ⟨e, .inl Ry⟩
      have e3 : Vis eA.scope y := e3
      rcases e3 with e3 | e3 | e3
      . exact key _ e3 (.inl rfl)
      . exact key _ e3 (.inr (.inl rfl))
      . exact key _ e3 (.inr (.inr rfl))
    obtain ⟨m, hn, hl⟩ := I.loc
    have PH : Vis X.env.scope y := (ok.free _ (VM Mm.1) rfl).elim (fun k => .inr (.inl k)) (fun k => .inr (.inr k))
    obtain ⟨w, r, q⟩ := hl i y av e1 e2 PH
    refine ⟨w, r, .inr ⟨Mm.2, ?_⟩⟩
    obtain ⟨c, h1, h2⟩ := look Mm.1
    rcases q with ⟨k, _⟩ | ⟨_, c', e', z⟩
    . have k : X.env.scope.names.lookup y = some .local := k
      rcases ok.free _ (VM Mm.1) rfl with k' | k' <;> rw [show X.env.scope.names.lookup y = _ from k'] at k <;> cases k
    . rw [h2] at e'; cases e'
      exact ⟨c, h1, z.keeps kp⟩
  . have e : eA.cells.lookup y = some c := e
    rcases mem e with ⟨h1, _⟩ | ⟨_, z⟩
    . obtain ⟨w, z⟩ := I.cell y c h1
      exact ⟨w, z.keeps kp⟩
    . exact ⟨_, z⟩
  . show H eA.locals = none
    rw [hL]; exact I.hok.fresh (Vq _)
  . have e : eA.cells.lookup y = some c := e
    rcases mem e with ⟨h1, _⟩ | ⟨h1, _⟩
    . exact I.jN y c h1
    . exact I.hok.fresh (le_of_succ_le h1)
  . exact absurd (show p ∈ ([] : List (Addr × Obj)) ++ [] from hp) (by simp)
theorem KQ {Q : Value -> Shared -> Prop} (I : Inv X pins σ H s) (hD : H D = some (.lst xs)) (hz : xs.length < sizeLine) (r : RelV y v)
    (h : ∀ s', Inv X pins σ (upd H D (.lst (xs ++ [y]))) s' -> Q .none s') : wpAny (model X.prog X.w) X.A (call (.builtin "list.append") [.ref D, v]) Q E s := by
  obtain ⟨Rz, aK, n, ri, e⟩ := I.hok D _ hD
  have hl := ri.length
  refine append_at (hsz := by rw [Vx]; omega) e fun h' sb wO => ?_
  refine h { s with heap := h' } (I.write (t' := s.toks) (by rw [hD]; trivial) (.inl rfl) (fun b u hb q => (sb.2 b hb).trans q) ⟨_, wO⟩ ⟨by rw [VB]; exact hz, aK ++ [v], n + 1, ri.append (.cons r .nil), ?_⟩)
  rw [wO]
  simp
def PTs (X : Cx) (ifs : List Expr) (t : TT) : Prop :=
  ∀ (pins : List (Addr × Obj)) (s : Shared) (σ : St) (H : Hp) (Q : Bool -> Hp -> Prop), Inv X pins σ H s -> t σ H Q ->
    wpAny (model X.prog X.w) X.A (forIn ifs true fun c r => if r = true then do let ok <- isTrue c X.env (eval c X.env); pure (ForInStep.yield ok) else pure (ForInStep.yield r)) (TP X pins σ Q) X.xe s
def ff : TT := fun _ H Q => Q true H
theorem bK : PTs X [] ff := fun _ _ _ H _ I h => wpAny_tests_nil ⟨H, I, h⟩
theorem gF (h : PT X c t) : PTs X [c] t := fun pins s σ H Q I hw => wpAny_tests_one (h pins s σ H Q I hw)
end
theorem EV {α : Type} {t : Sem α} {Q Q' : α -> Shared -> Prop} {M : Model} (h : wpAny M A t Q (fun _ _ => False) s) (hQ : ∀ a s, Q a s -> Q' a s) : wpAny M A t Q' E s := VP h hQ fun _ _ z => False.elim z
theorem yX {R : Result -> Shared -> Prop} {iter : Expr} {acc : Value} {env : Env} (I : Nat -> Shared -> Prop)
    (turn : ∀ n s, I n s -> wpAny (model prog w) A (pyNext it) (fun r s₁ => match r with
      | none => R (.ok .next) s₁
      | some v => wpAny (model prog w) A (letOwnedTupleGo target it v) (fun _ s₁' => wpAny (model prog w) A (assign target env v) (fun _ s₂ =>
          wpAny (model prog w) A (forIn ifs true fun c r => if r = true then do let ok <- isTrue c env (eval c env); pure (ForInStep.yield ok) else pure (ForInStep.yield r)) (fun ok s₃ =>
            if ok = true then wpAny (model prog w) A (eval elt env) (fun x s₄ =>
              wpAny (model prog w) A (call (.builtin "list.append") [acc, x]) (fun _ s₅ => ∃ m, m < n /\ I m s₅) (notedBy (model prog w) A env fun e s' => R (.error e) s') s₄) (notedBy (model prog w) A env fun e s' => R (.error e) s') s₃
            else ∃ m, m < n /\ I m s₃) (notedBy (model prog w) A env fun e s' => R (.error e) s') s₂) (notedBy (model prog w) A env fun e s' => R (.error e) s') s₁') (notedBy (model prog w) A env fun e s' => R (.error e) s') s₁) (notedBy (model prog w) A env fun e s' => R (.error e) s') s)
    (n : Nat) (h : I n s) :
    codeAny (model prog w) A (.compLoop (.ListComp elt [⟨target, iter, ifs, 0⟩] scope pos) 0 it acc env) R s := by
  refine codeAny_loop rfl I (fun n s hI => ?_) n h
  show wpAny _ A ((compTurn (.ListComp elt [⟨target, iter, ifs, 0⟩] scope pos) 0 it acc env).onRaise (fun x => do noteFrame x env; theTreesLotGoes x)) _ _ s
  refine wpAny_noted ?_
  rw [compTurn_list]
  refine Vi (wpAny_standAt (Vi (VP (turn n s hI) (fun r s₁ h₁ => ?_) fun _ _ h' => h')))
  cases r with
  | none => exact Vo h₁
  | some v =>
    refine Vi (VP h₁ (fun _ s₁' h₁' => ?_) fun _ _ h' => h')
    refine Vi (VP h₁' (fun _ s₂ h₂ => Vi (VP h₂ (fun ok s₃ h₃ => ?_) fun _ _ h' => h')) fun _ _ h' => h')
    cases ok with
    | false => exact Vo ⟨rfl, h₃⟩
    | true =>
      exact Vi (Vi (VP h₃ (fun x s₄ h₄ => Vi (VP h₄ (fun _ s₅ h₅ => Vo (Vo ⟨rfl, h₅⟩)) fun _ _ h' => h')) fun _ _ h' => h'))
section
variable {X : Cx}
def tLc (wi : TI) (g : TG) (tt : TT) (te : TE) (vs : List Nat) : TE := fun σ H Q => wi σ H fun J H1 => ∀ D, H1 D = none -> ∃ W : Nat -> Nat -> Hp -> Prop, (∃ m, W 0 m (upd H1 D (.lst []))) /\ ∀ i m H, W i m H ->
  (J.stop i H /\ Q (.ref D) H) \/ (J.go i H /\ ∃ Nx : Hp -> Prop, (∀ H', Nx H' -> ∃ m', m' < m /\ W (i + 1) m' H') /\ ∀ x H', J.yld i H x H' -> g x (wipe σ vs) H' fun σ2 H2 => wipe σ2 vs = wipe σ vs /\ tt σ2 H2 fun b H3 =>
    if b = true then te σ2 H3 fun y H4 => ∃ acc, H4 D = some (.lst acc) /\ acc.length < sizeLine /\ Nx (upd H4 D (.lst (acc ++ [y]))) else Nx H3)
theorem Ee {H : Hp} {wi : TI} {use : Option (Value -> Sem Unit)} {Qf : Value -> Shared -> Prop}
    (hc : X.calm = true) (hN : X.N.Nodup) (I : Inv X pins σ H s) (hi : PI X tg iter wi) (ok : AS X.N X.env.scope scope own)
    (hg : ∀ (s : Shared) (H : Hp) (C : Addr) (cl : List (Str × Addr)) (fp : List Addr), PG (X.blk s H scope (compEnvC scope cl C X.env) fp) tg g) (ht : ∀ (s : Shared) (H : Hp) (C : Addr) (cl : List (Str × Addr)) (fp : List Addr), PTs (X.blk s H scope (compEnvC scope cl C X.env) fp) ifs tt)
    (he : ∀ (s : Shared) (H : Hp) (C : Addr) (cl : List (Str × Addr)) (fp : List Addr), PE (X.blk s H scope (compEnvC scope cl C X.env) fp) elt te) (hs : ∀ x, foldedSetIterable iter X.env x = pure x)
    (h : tLc wi g tt te (own.map (·.2)) σ H Q)
    (S9 : ∀ D C s' m H', Inv X pins σ H' s' -> Q (.ref D) H' -> s'.heap.Ns C m -> oJ X pins H' C -> compPost (model X.prog X.w) X.A X.xe use Qf (.ref D) C (.ok .next) s') :
    wpAny (model X.prog X.w) X.A (comprehension (.ListComp elt [⟨tg, iter, ifs, 0⟩] scope pos) scope X.env pos' (newList []) false (eval iter X.env) use) Qf X.xe s := by
  have sM : ∀ y ∈ scope.names, y.2 = .free -> ∃ c, X.env.cells.lookup y.1 = some c := fun y hy e => by
    rcases ok.free y hy e with k | k
    . exact I.ok.has _ (.inl k)
    . exact I.ok.has _ (.inr k)
  refine wpAny_comprehension_free (use := use) rfl hs (u5 sM) ok.kind (fun y hy e => by rw [ok.uniq y hy, e])
    (thn (hi pins s σ H _ I h) fun xv s1 hx => thn hx fun Pq s2 h2 => ?_)
  obtain ⟨it, fp, tn, J, H2, e, I2, T, Ot, f2, q⟩ := h2
  subst e
  refine wpAny_newObj_type (AR ?_) (by show 0 <= sizeLine; decide)
  generalize hD : s2.heap.objs.size = D
  have Ta : H2 D = none := I2.hok.fresh (le_of_eq hD)
  obtain ⟨W, ⟨m0, w0⟩, turn⟩ := q D Ta
  generalize MQ : ({ s2 with heap := s2.heap.push { cls := .type "list", data := .seq ([] : List Value).toArray } } : Shared) = s3
  have I3 : Inv X pins σ (upd H2 D (.lst [])) s3 := by
    rw [<- MQ]
    refine I2.laid (t' := s2.toks) (fun b o e => Vm _ e) (le_of_eq hD) ⟨VF _, [], 0, .nil, ?_⟩
    rw [<- hD]
    exact VA _ rfl
  have h3 : s3.heap = s2.heap.push { cls := .type "list", data := .seq ([] : List Value).toArray } := by rw [<- MQ]
  have sz : ∀ b ∈ fp, b < s2.heap.objs.size := fun b hb => by
    obtain ⟨o, e, _⟩ := T.obj _ _ Ot b hb
    exact Vu e
  have f3 : ∀ b ∈ fp, oJ X pins (upd H2 D (.lst [])) b /\ b < s3.heap.objs.size := fun b hb => by
    have cN := sz b hb
    refine ⟨⟨?_, (f2 b hb).2⟩, by rw [h3, VE]; exact VW cN⟩
    rw [aM (by rw [<- hD]; exact Vp cN)]
    exact (f2 b hb).1
  have Ou : tn 0 s3.heap := T.keep _ _ _ Ot fun b _ o e => by rw [h3]; exact Vm _ e
  have I4 := AU I3 ok hN f3
  have pg := hg s3 (upd H2 D (.lst [])) s3.heap.objs.size (cellsFrom (s3.heap.objs.size + 1) scope.names (a9 X.env.cells scope.names [])) fp
  have pt := ht s3 (upd H2 D (.lst [])) s3.heap.objs.size (cellsFrom (s3.heap.objs.size + 1) scope.names (a9 X.env.cells scope.names [])) fp
  have pe := he s3 (upd H2 D (.lst [])) s3.heap.objs.size (cellsFrom (s3.heap.objs.size + 1) scope.names (a9 X.env.cells scope.names [])) fp
  show codeAny _ _ (.compStart (.ListComp elt [⟨tg, iter, ifs, 0⟩] scope pos) 0 (.ref it) (.ref D) (compEnvC scope (cellsFrom (s3.heap.objs.size + 1) scope.names (a9 X.env.cells scope.names [])) s3.heap.objs.size X.env)) (compPost (model X.prog X.w) X.A X.xe use Qf (.ref D) s3.heap.objs.size) { s3 with heap := pushCells (s3.heap.push { cls := .type "dict", data := .dict #[] }) scope.names }
  have RA : ∀ b ∈ fp, (upd H2 D (.lst [])) b = none := fun b hb => (f3 b hb).1.1
  generalize Ow : compEnvC scope (cellsFrom (s3.heap.objs.size + 1) scope.names (a9 X.env.cells scope.names [])) s3.heap.objs.size X.env = ce at I4 pg pt pe ⊢
  have cL : ce.locals = s3.heap.objs.size := by subst Ow; rfl
  generalize hH3 : upd H2 D (.lst []) = H3 at I3 I4 pg pt pe w0 RA f3
  generalize Tb : ({ s3 with heap := pushCells (s3.heap.push { cls := .type "dict", data := .dict #[] }) scope.names } : Shared) = s4 at I4 ⊢
  have RB : tn 0 s4.heap := T.keep _ _ _ Ou fun b _ o e => by rw [<- Tb]; exact pushCells_keeps _ _ _ _ (Vm _ e)
  have Cm : ∀ {σ' : St} {H' : Hp} {s' : Shared}, Inv (X.blk s3 H3 scope ce fp) [] σ' H' s' -> (∀ b ∈ fp, H' b = none) -> ∀ b ∈ fp, oJ (X.blk s3 H3 scope ce fp) [] H' b := fun {σ' H' s'} I' hn b hb =>
    ⟨hn b hb, (I'.ok.exf b hb).1, I'.ok.FX b hb, .inl hb, fun x c e => (I'.ok.exf b hb).2 x c e, fun p hp => absurd (show p ∈ ([] : List (Addr × Obj)) ++ [] from hp) (by simp)⟩
  have loop : codeAny (model X.prog X.w) X.A (.compLoop (.ListComp elt [⟨tg, iter, ifs, 0⟩] scope pos) 0 (.ref it) (.ref D) ce) (compPost (model X.prog X.w) X.A X.xe use Qf (.ref D) s3.heap.objs.size) s4 := by
    refine yX (fun n s' => ∃ i H', Inv (X.blk s3 H3 scope ce fp) [] (wipe σ (own.map (·.2))) H' s' /\ tn i s'.heap /\ (∀ b ∈ fp, H' b = none) /\ W i n H') ?_ m0 ⟨0, H3, I4, RB, RA, w0⟩
    rintro n s5 ⟨i, H5, I5, Mg, n5, w5⟩
    rcases turn i n H5 w5 with ⟨stop, qq⟩ | ⟨go, Nx, Tc, step⟩
    . have td := T.done (X.blk s3 H3 scope ce fp) rfl rfl rfl hc i [] s5 _ H5 (fun _ _ => False) I5 (Cm I5 n5) Mg stop
      refine EV td fun r s6 ⟨hr, I6⟩ => ?_
      subst hr
      have I7 : Inv X pins σ H5 s6 := I3.MD (ch := fp) I6.os I6.base I6.hok I6.bare fun b hb => ⟨(f3 b hb).1.2.2.2.1, (f3 b hb).1.2.1, (f3 b hb).1.2.2.2.2.1, (f3 b hb).1.2.2.2.2.2⟩
      have nC : H5 s3.heap.objs.size = none := by
        have z : H5 ce.locals = none := I6.free
        rw [cL] at z
        exact z
      obtain ⟨m, hn, _⟩ := I6.loc
      have hn : s6.heap.Ns ce.locals m := hn
      rw [cL] at hn
      exact S9 D s3.heap.objs.size s6 m H5 I7 qq hn (I3.Cj (Vq _) nC)
    . have ti := T.item (X.blk s3 H3 scope ce fp) rfl rfl rfl hc i [] s5 _ H5 (fun _ _ => False) I5 (Cm I5 n5) Mg go
      refine EV ti fun r s6 ⟨u, hr, h6⟩ => ?_
      subst hr
      refine EV h6 fun _ s7 ⟨x, H7, I7, r7, y7, PJ, n7⟩ => ?_
      have Td := I7.pinned (Cm I7 n7) (T.obj _ _ PJ)
      refine EV (pg _ s7 _ H7 x u _ Td r7 (step x H7 y7)) fun _ s8 ⟨σ8, H8, I8, Ox, q8⟩ => ?_
      refine EV (pt _ s8 σ8 H8 _ I8 q8) fun b s9 ⟨H9, I9, q9⟩ => ?_
      have fin : ∀ {s' : Shared} {H' : Hp}, Inv (X.blk s3 H3 scope ce fp) ([] ++ uR fp s7.heap) σ8 H' s' -> Nx H' -> ∃ m, m < n /\ ∃ i H', Inv (X.blk s3 H3 scope ce fp) [] (wipe σ (own.map (·.2))) H' s' /\ tn i s'.heap /\ (∀ b ∈ fp, H' b = none) /\ W i m H' := fun {s' H'} I' nx => by
        obtain ⟨m', hm, w'⟩ := Tc H' nx
        have MR : ∀ b ∈ fp, ∀ o, s7.heap.get? b = some o -> s'.heap.get? b = some o /\ H' b = none := fun b hb o e =>
          let z := I'.pin (b, o) (VR _ (VR _ (oK hb e)))
          ⟨z.1, z.2.1⟩
        have hl : (wipe σ (own.map (·.2))).length = σ8.length := by rw [<- Ox, mv]
        refine ⟨m', hm, i + 1, H', (I'.f6 (pins := [])).weak hl (fun j v e => ?_), T.keep _ _ _ PJ fun b hb o e => (MR b hb o e).1, fun b hb => ?_, w'⟩
        . rw [<- Ox] at e
          exact (rE e).1
        . obtain ⟨o, e, _⟩ := T.obj _ _ PJ b hb
          exact (MR b hb o e).2
      cases b with
      | false =>
        simp only [V3, if_false] at q9 ⊢
        exact fin I9 q9
      | true =>
        simp only [if_true] at q9 ⊢
        refine EV (pe _ s9 σ8 H9 _ I9 q9) fun z s10 ⟨yv, RE, Te, Tf, acc, PL, PM, nx⟩ => ?_
        exact KQ (X := X.blk s3 H3 scope ce fp) Te PL PM Tf fun s11 Tg => fin Tg nx
  exact codeAny_compStart_list loop (T.self X.A 0 _ _ _ RB loop)
theorem eF {wi : TI} (hc : X.calm = true) (hN : X.N.Nodup) (hi : PI X tg iter wi) (ok : AS X.N X.env.scope scope own)
    (hg : ∀ (s : Shared) (H : Hp) (C : Addr) (cl : List (Str × Addr)) (fp : List Addr), PG (X.blk s H scope (compEnvC scope cl C X.env) fp) tg g) (ht : ∀ (s : Shared) (H : Hp) (C : Addr) (cl : List (Str × Addr)) (fp : List Addr), PTs (X.blk s H scope (compEnvC scope cl C X.env) fp) ifs tt)
    (he : ∀ (s : Shared) (H : Hp) (C : Addr) (cl : List (Str × Addr)) (fp : List Addr), PE (X.blk s H scope (compEnvC scope cl C X.env) fp) elt te) (hs : ∀ x, foldedSetIterable iter X.env x = pure x := by intro _; rfl) :
    PE X (.ListComp elt [⟨tg, iter, ifs, 0⟩] scope pos) (tLc wi g tt te (own.map (·.2))) := by
  intro pins s σ H Q I h
  rw [eval_ListComp]
  refine Ee hc hN I hi ok hg ht he hs h fun D C s' m H' I' q hn f => ⟨m, hn, fun yi sb => ?_⟩
  obtain ⟨f0, f1, f2, f3, f4, f5⟩ := f
  exact ⟨.ref D, H', I'.turned (t' := s'.toks) (fun b o hb e => (sb.2 b hb).trans e) f0 f1 f3 f4 f5, rfl, q⟩
theorem cG {i : Nat} {y : Str} {tg iter : Expr} {ifs : List Expr} {MS : Pos} {wi : TI} (hc : X.calm = true) (hN : X.N.Nodup) (hy : X.N[i]? = some y) (MT : X.env.scope.names.lookup y = some .local)
    (Th : swapsWith (.ListComp elt [⟨tg, iter, ifs, 0⟩] scope pos) (some (.Name y py)) MS.line X.env = pure true) (hi : PI X tg iter wi) (ok : AS X.N X.env.scope scope own)
    (hg : ∀ (s : Shared) (H : Hp) (C : Addr) (cl : List (Str × Addr)) (fp : List Addr), PG (X.blk s H scope (compEnvC scope cl C X.env) fp) tg g) (ht : ∀ (s : Shared) (H : Hp) (C : Addr) (cl : List (Str × Addr)) (fp : List Addr), PTs (X.blk s H scope (compEnvC scope cl C X.env) fp) ifs tt)
    (he : ∀ (s : Shared) (H : Hp) (C : Addr) (cl : List (Str × Addr)) (fp : List Addr), PE (X.blk s H scope (compEnvC scope cl C X.env) fp) elt te) (hs : ∀ x, foldedSetIterable iter X.env x = pure x := by intro _; rfl) :
    PS X (.Assign [.Name y py] (.ListComp elt [⟨tg, iter, ifs, 0⟩] scope pos) MS) (br (tLc wi g tt te (own.map (·.2))) (aC i)) := by
  intro pins s σ H D I h
  rw [exec_Assign_Name_used _ _ _ _ Th]
  refine Vi (wpAny_standAt (Vi ?_))
  show wpAny _ X.A (do let _ <- comprehension (.ListComp elt [⟨tg, iter, ifs, 0⟩] scope pos) scope X.env (firstIterPos [⟨tg, iter, ifs, 0⟩] pos) (newList []) false (eval iter X.env) (some (assign (.Name y py) X.env))) _ _ s
  have h : tLc wi g tt te (own.map (·.2)) σ H (fun x H1 => aC i x σ H1 D.nx) := h
  refine Vi (thn (Ee (Qf := fun _ s' => SP X pins D .next s') hc hN I hi ok hg ht he hs h fun L C s' m H' I' q hn f => ?_) fun _ s' hq => Vo (Vo hq))
  show wpAny _ _ (assign (.Name y py) X.env (.ref L)) _ _ _
  refine wpAny_assign_Name (xV (v := V.ref L) I' hN hy (.inl MT) rfl (fun s2 I2 ⟨a, sb, ha⟩ => ?_) (.inr MT))
  obtain ⟨f0, f1, f2, f3, f4, f5⟩ := f
  have Ti : C ≠ a := by
    rcases ha with z | z
    . rw [z]; exact f1
    . exact fun e => f4 y a z e.symm
  refine ⟨m, hn.sameBut sb Ti, fun h3 Tj => ?_⟩
  exact ⟨_, H', I2.turned (t' := s2.toks) (fun b o hb e => (Tj.2 b hb).trans e) f0 f1 f3 f4 f5, q⟩
theorem dt {gs : List Comprehension} {scope : Scope} {pos py : Pos} {l : Nat} {env : Env} (hk : env.scope.kind = .function) (hy : env.scope.names.lookup y = some .local) (hl : (py.line == pos.line) = true)
    (ha : (scope.names.any fun (n, k) => n == y && (k == .local || k == .cell)) = false) : swapsWith (.ListComp elt gs scope pos) (some (.Name y py)) l env = pure true := by
  have ky : env.kindOf y = some .local := hy
  have hb : env.blockKind = .function := by unfold Env.blockKind; rw [hk]; rfl
  unfold swapsWith
  simp only [hb, ky, ha, Expr.pos, hl]
  rfl
end
def MU (N : List Str) (sc scope : Scope) (own : List (Str × Nat)) : Bool :=
  (match scope.kind with | .function => true | _ => false) && (scope.names.all fun y => decide (scope.names.lookup y.1 = some y.2)) && (own.all fun p => decide (N[p.2]? = some p.1)) &&
    (scope.names.all fun y => match y.2 with
      | .free => (match sc.names.lookup y.1 with | some .cell => true | some .free => true | _ => false)
      | .local => decide (y.1 ∈ own.map (·.1)) || decide (y.1 ∉ N)
      | .cell => decide (y.1 ∈ own.map (·.1)) || decide (y.1 ∉ N)
      | _ => true)
theorem aW (h : MU N sc scope own = true) : AS N sc scope own := by
  unfold MU at h
  simp only [VV, all_eq_true, decide_eq_true_eq] at h
  obtain ⟨⟨⟨h1, h2⟩, h3⟩, h4⟩ := h
  refine ⟨?_, h2, h3, fun y hy e => ?_, fun y hy e => ?_⟩
  . split at h1
    . assumption
    . cases h1
  . have q := h4 y hy
    simp only [e] at q
    split at q <;> first | exact .inl (by assumption) | exact .inr (by assumption) | cases q
  . have q := h4 y hy
    rcases e with e | e <;> (simp only [e, Bool.or_eq_true, decide_eq_true_eq] at q; exact q)
end L2
namespace L2
section
variable {prog : Program} {w : World} {A : Around} {R : Result -> Shared -> Prop} {s : Shared} {elt t0 i0 t1 i1 : Expr} {ifs0 ifs1 : List Expr} {scope : Scope} {pos : Pos} {it acc : Value} {env : Env}
end
section
variable {X : Cx}
end
end L2
namespace L2
section
variable {κ : Type} [DecidableEq κ]
def f7 (aQ : List (κ × V)) (k : κ) : Option V := (aQ.find? fun kv => decide (kv.1 = k)).map (·.2)
def putK (aQ : List (κ × V)) (k : κ) (v : V) : List (κ × V) :=
  if (aQ.any fun kv => decide (kv.1 = k)) = true then aQ.map (fun kv => if kv.1 = k then (kv.1, v) else kv) else aQ ++ [(k, v)]
theorem cO {p : κ × V} {r : List (κ × V)} {k : κ} (e : p.1 = k) : f7 (p :: r) k = some p.2 := by simp [f7, find?_cons, e]
theorem cP {p : κ × V} {r : List (κ × V)} {k : κ} (e : ¬ p.1 = k) : f7 (p :: r) k = f7 r k := by simp [f7, find?_cons, e]
theorem qk (k : κ) : ∀ aQ : List (κ × V), (aQ.any fun kv => decide (kv.1 = k)) = (f7 aQ k).isSome
  | [] => rfl
  | p :: r => by
    rw [any_cons]
    by_cases e : p.1 = k
    . simp only [cO e, Vw e, Bool.true_or, Option.isSome_some]
    . rw [cP e, VN e, Bool.false_or]; exact qk k r
theorem AW (k j : κ) (y : V) : ∀ aQ : List (κ × V), f7 (aQ.map fun kv => if kv.1 = k then (kv.1, y) else kv) j = (f7 aQ j).map fun x => if j = k then y else x
  | [] => rfl
  | p :: r => by
    have ih := AW k j y r
    rw [Vy]
    by_cases h : p.1 = k
    . rw [Vj h]
      by_cases e : p.1 = j
      . rw [cO (p := (p.1, y)) e, cO e, Option.map_some, Vj (e.symm.trans h)]
      . rw [cP (p := (p.1, y)) e, cP e, ih]
    . rw [Vh h]
      by_cases e : p.1 = j
      . rw [cO (p := p) e, cO e, Option.map_some, Vh (fun z => h (e.trans z))]
      . rw [cP (p := p) e, cP e, ih]
theorem yj (k j : κ) (y : V) : ∀ aQ : List (κ × V), f7 aQ k = none -> f7 (aQ ++ [(k, y)]) j = if j = k then some y else f7 aQ j
  | [], _ => by
    by_cases e : k = j
    . rw [Vj e.symm]; exact cO (p := (k, y)) e
    . rw [Vh (fun z => e z.symm)]; exact cP (p := (k, y)) e
  | p :: r, hn => by
    rw [List.cons_append]
    have hk : ¬ p.1 = k := fun z => by rw [cO z] at hn; cases hn
    rw [cP hk] at hn
    have ih := yj k j y r hn
    by_cases e : p.1 = j
    . rw [cO e, cO e, Vh (fun z => hk (e.trans z))]
    . rw [cP e, cP e, ih]
theorem AX (aQ : List (κ × V)) (k j : κ) (y : V) : f7 (putK aQ k y) j = if j = k then some y else f7 aQ j := by
  unfold putK
  by_cases a : (aQ.any fun kv => decide (kv.1 = k)) = true
  . rw [Vj a, AW]
    rw [qk] at a
    by_cases e : j = k
    . obtain ⟨x, hx⟩ := Option.isSome_iff_exists.mp a
      rw [Vj e, e, hx, Option.map_some, Vj rfl]
    . rw [Vh e]
      cases f7 aQ j with
      | none => rfl
      | some x => rw [Option.map_some, Vh e]
  . rw [Vh a]
    refine yj k j y aQ ?_
    rw [qk] at a
    cases q : f7 aQ k with
    | none => rfl
    | some x => rw [q] at a; exact (a rfl).elim
theorem sQ (aQ : List (κ × V)) (k : κ) (v : V) : (putK aQ k v).length <= aQ.length + 1 := by
  unfold putK
  split
  . rw [Vg]; omega
  . rw [VB, VC, length_nil]; omega
theorem kq.rF {o : Option V} {u : Option Value} (r : kq o u) : o.isSome = u.isSome := by
  cases o with
  | none => cases u with
    | none => rfl
    | some _ => exact (show False from r).elim
  | some _ => cases u with
    | none => exact (show False from r).elim
    | some _ => rfl
theorem kq.getD {o : Option V} {u : Option Value} (r : kq o u) (rd : RelV d d') : RelV (o.getD d) (u.getD d') := by
  cases o with
  | none => cases u with
    | none => exact rd
    | some _ => exact (show False from r).elim
  | some _ => cases u with
    | none => exact (show False from r).elim
    | some _ => exact r
theorem KV.val {aQ : List (κ × V)} {vs : List (κ × Value)} (r : KV aQ vs) (k : κ) : kq (f7 aQ k) (valueAt vs k) := by
  unfold KV at r
  induction r with
  | nil => exact True.intro
  | @cons p q ps qs h t ih =>
    obtain ⟨h1, h2⟩ := h
    by_cases e : p.1 = k
    . have e' : q.1 = k := h1.symm.trans e
      have b : valueAt (q :: qs) k = some q.2 := by simp [valueAt, find?_cons, e']
      rw [cO e, b]; exact h2
    . have e' : ¬ q.1 = k := fun z => e (h1.trans z)
      have b : valueAt (q :: qs) k = valueAt qs k := by simp [valueAt, find?_cons, e']
      rw [cP e, b]; exact ih
theorem KV.any {aQ : List (κ × V)} {vs : List (κ × Value)} (r : KV aQ vs) (k : κ) : (aQ.any fun kv => decide (kv.1 = k)) = vs.any fun kv => decide (kv.1 = k) := by
  unfold KV at r
  induction r with
  | nil => rfl
  | cons h t ih => rw [any_cons, any_cons, ih, h.1]
theorem KV.KR {aQ : List (κ × V)} {vs : List (κ × Value)} (r : KV aQ vs) (k : κ) {y : V} {u : Value} (ry : RelV y u) :
    KV (aQ.map fun kv => if kv.1 = k then (kv.1, y) else kv) (vs.map fun kv => if kv.1 = k then (kv.1, u) else kv) := by
  unfold KV at r ⊢
  induction r with
  | nil => exact .nil
  | @cons p q ps qs h t ih =>
    rw [Vy, Vy]
    refine .cons ?_ ih
    obtain ⟨h1, h2⟩ := h
    by_cases e : p.1 = k
    . rw [Vj e, Vj (h1.symm.trans e)]; exact ⟨h1, ry⟩
    . rw [Vh e, Vh (fun z => e (h1.trans z))]; exact ⟨h1, h2⟩
theorem KV.put {aQ : List (κ × V)} {vs : List (κ × Value)} (r : KV aQ vs) (k : κ) {y : V} {u : Value} (ry : RelV y u) : KV (putK aQ k y) (stored vs k u) := by
  unfold putK stored
  rw [r.any k]
  by_cases e : (vs.any fun kv => decide (kv.1 = k)) = true
  . rw [Vj e, Vj e]; exact r.KR k ry
  . rw [Vh e, Vh e]; exact Paired.snoc r ⟨rfl, ry⟩
theorem KV.length {aQ : List (κ × V)} {vs : List (κ × Value)} (r : KV aQ vs) : aQ.length = vs.length := Paired.length r
end
theorem Gi {k : Key} (r : RelV (kV k) u) : (bU P w).is k u = true := by
  cases k with
  | inl i => obtain ⟨t, e⟩ := (show ∃ t, u = Value.int i t from r); subst e; exact Au P w i t
  | inr x => obtain ⟨t, e⟩ := (show ∃ t, u = Value.str x t from r); subst e; exact Av P w x t
theorem yk : ∀ {ks : List Key} {us : List Value}, Vals (ks.map kV) us -> ItemsAre (bU P w) ks us
  | [], _, r => by rw [map_nil] at r; cases r; exact .nil
  | k :: ks, _, r => by
    rw [Vy] at r
    cases r with
    | cons h t => exact .cons (Gi h) (yk t)
abbrev KT (H : Hp) : List (List Key × V) -> List (List Key × Addr × Value) -> Prop := Paired fun p q => p.1 = q.1 /\ H q.2.1 = some (.tup (p.1.map kV)) /\ RelV p.2 q.2.2
theorem KT.val {aQ : List (List Key × V)} {xs : List (List Key × Addr × Value)} (r : KT H aQ xs) (k : List Key) : kq (f7 aQ k) ((atKey xs k).map (·.2)) := by
  induction r with
  | nil => exact True.intro
  | @cons p q ps qs h t ih =>
    obtain ⟨h1, _, h2⟩ := h
    by_cases e : p.1 = k
    . have e' : q.1 = k := h1.symm.trans e
      have b : atKey (q :: qs) k = some q.2 := by simp [atKey, find?_cons, e']
      rw [cO e, b]; exact h2
    . have e' : ¬ q.1 = k := fun z => e (h1.trans z)
      have b : atKey (q :: qs) k = atKey qs k := by simp [atKey, find?_cons, e']
      rw [cP e, b]; exact ih
theorem KT.KR {aQ : List (List Key × V)} {xs : List (List Key × Addr × Value)} (r : KT H aQ xs) (k : List Key) {y : V} {u : Value} (ry : RelV y u) :
    KT H (aQ.map fun kv => if kv.1 = k then (kv.1, y) else kv) (xs.map (putAt k u)) := by
  induction r with
  | nil => exact .nil
  | @cons p q ps qs h t ih =>
    rw [Vy, Vy]
    refine .cons ?_ ih
    obtain ⟨h1, h2, h3⟩ := h
    unfold putAt
    by_cases e : p.1 = k
    . rw [Vj e, Vj (h1.symm.trans e)]; exact ⟨h1, h2, ry⟩
    . rw [Vh e, Vh (fun z => e (h1.trans z))]; exact ⟨h1, h2, h3⟩
theorem KT.put {aQ : List (List Key × V)} {xs : List (List Key × Addr × Value)} (r : KT H aQ xs) (k : List Key) {b : Addr} {y : V} {u : Value} (hb : H b = some (.tup (k.map kV))) (ry : RelV y u) :
    KT H (putK aQ k y) (storedH xs k b u) := by
  have e : (aQ.any fun kv => decide (kv.1 = k)) = (atKey xs k).isSome := by
    rw [qk, (r.val k).rF, Option.isSome_map]
  unfold putK storedH
  rw [e]
  by_cases q : (atKey xs k).isSome = true
  . rw [Vj q, Vj q]; exact r.KR k ry
  . rw [Vh q, Vh q]; exact Paired.snoc r ⟨rfl, hb, ry⟩
theorem KT.keeps {H' : Hp} {aQ : List (List Key × V)} {xs : List (List Key × Addr × Value)} (r : KT H aQ xs) (ht : ∀ b ys, H b = some (.tup ys) -> H' b = some (.tup ys)) : KT H' aQ xs :=
  Paired.uL r fun _ _ z => ⟨z.1, ht _ _ z.2.1, z.2.2⟩
section
variable {P : Program} {w : World} {H : Hp} {h : Heap} {a : Addr}
theorem JH (ok : HOk P w H h) (e : Rd H a u) : cq P w H h a u := e.ok ok
theorem Gj {aQ : List (Key × V)} (ok : HOk P w H h) (e : Rd H a (.dK aQ)) : aQ.length <= sizeLine /\ (a == sysModules) = false /\ ∃ vs, KV aQ vs /\ h.DictOf (bU P w) a vs :=
  show cq P w H h a (.dK aQ) from JH ok e
theorem MV {aQ : List (Key × V)} (ok : HOk P w H h) (e : H a = some (.dK aQ)) : aQ.length <= sizeLine /\ (a == sysModules) = false /\ ∃ vs, KV aQ vs /\ h.DictOf (bU P w) a vs := Gj ok (.inl e)
theorem CB {ks : List Key} (ok : HOk P w H h) (e : H a = some (.tup (ks.map kV))) : (tupleKind (bU P w)).is h ks a := by
  obtain ⟨_, aK, r, o, h1, h2, n, h3⟩ := (show cq P w H h a (.tup (ks.map kV)) from ok a _ e)
  exact ⟨o, aK.toArray, n, h1, h2, h3, by simpa using yk r⟩
theorem Gk {aQ : List (List Key × V)} (ok : HOk P w H h) (e : Rd H a (.dT aQ)) : aQ.length <= sizeLine /\ (a == sysModules) = false /\
    ∃ xs, KT H aQ xs /\ h.DictOfH (tupleKind (bU P w)) a xs := by
  obtain ⟨z, y, xs, r, o, es, ep, h1, h2, h3, h4, h5⟩ := (show cq P w H h a (.dT aQ) from JH ok e)
  refine ⟨z, y, xs, r, o, es, ep, h1, h2, h3, h4, fun x hx => ?_, h5⟩
  have all : ∀ {l : List (List Key × V)} {m : List (List Key × Addr × Value)}, KT H l m -> ∀ x ∈ m, (tupleKind (bU P w)).is h x.1 x.2.1 := by
    intro l m q
    induction q with
    | nil => intro x hx; exact nomatch hx
    | @cons p q ps qs hq t ih =>
      intro x hx
      rcases mem_cons.mp hx with e | hx
      . subst e
        exact CB ok (by rw [<- hq.1]; exact hq.2.1)
      . exact ih x hx
  exact all r x hx
theorem MW {aQ : List (List Key × V)} (ok : HOk P w H h) (e : H a = some (.dT aQ)) : aQ.length <= sizeLine /\ (a == sysModules) = false /\
    ∃ xs, KT H aQ xs /\ h.DictOfH (tupleKind (bU P w)) a xs := Gk ok (.inl e)
end
def CF (H : Hp) (a : Addr) (y : V) (r : Option V) : Prop :=
  (∃ aQ k, Rd H a (.dK aQ) /\ y = kV k /\ r = f7 aQ k) \/ ∃ aQ k b, Rd H a (.dT aQ) /\ y = .ref b /\ H b = some (.tup (k.map kV)) /\ r = f7 aQ k
def EW (H : Hp) (a : Addr) (y v : V) (H' : Hp) : Prop :=
  (∃ aQ k, H a = some (.dK aQ) /\ y = kV k /\ aQ.length < sizeLine /\ H' = upd H a (.dK (putK aQ k v))) \/
  ∃ aQ k b, H a = some (.dT aQ) /\ y = .ref b /\ H b = some (.tup (k.map kV)) /\ aQ.length < sizeLine /\ H' = upd H a (.dT (putK aQ k v))
theorem CF.k {H : Hp} {aQ : List (Key × V)} {k : Key} (e : H a = some (.dK aQ)) : CF H a (kV k) (f7 aQ k) := .inl ⟨aQ, k, .inl e, rfl, rfl⟩
theorem EW.k {H : Hp} {aQ : List (Key × V)} {k : Key} {v : V} (e : H a = some (.dK aQ)) (hl : aQ.length < sizeLine) : EW H a (kV k) v (upd H a (.dK (putK aQ k v))) := .inl ⟨aQ, k, e, rfl, hl, rfl⟩
section
variable {X : Cx} {pins : List (Addr × Obj)} {σ : St} {H : Hp} {s : Shared} {a : Addr} {y v : V} {u r : Value} {o : Option V} {A : Around} {E : Value -> Shared -> Prop}
theorem Inv.big (I : Inv X pins σ H s) : sysModules < s.heap.objs.size := by
  have h : mainGlobals < s.heap.objs.size := (I.mod.glob.keeps I.bk).lt
  exact Nat.lt_trans (by decide) h
theorem EX {Q : Value -> Shared -> Prop} (hu : A.units + 1 < cLine) (I : Inv X pins σ H s) (g : CF H a y (some v)) (ry : RelV y u) (h : ∀ w' s', Inv X pins σ H s' -> RelV v w' -> Q w' s') :
    wpAny (model X.prog X.w) A (getItem (.ref a) u) Q E s := by
  rcases g with ⟨aQ, k, e, ey, l⟩ | ⟨aQ, k, b, e, ey, eb, l⟩
  . subst ey
    obtain ⟨z, hd, vs, rel, dd⟩ := Gj I.hok e
    obtain ⟨w', hw, EU⟩ := kq.some_of (v := v) (o := valueAt vs k) (by rw [l]; exact rel.val k)
    exact wpAny_getItem_of (Gi ry) dd.mapOf hw (h w' _ (I.tok _) EU)
  . subst ey
    cases (show u = Value.ref b from ry)
    obtain ⟨z, hd, xs, rel, dd⟩ := Gk I.hok e
    obtain ⟨w', hw, EU⟩ := kq.some_of (v := v) (o := (atKey xs k).map (·.2)) (by rw [l]; exact rel.val k)
    obtain ⟨p, hp, Tn⟩ := Option.map_eq_some_iff.mp hw
    refine wpAny_getItem_heap (tupleKind_room_in1 hu) (CB I.hok eb) dd hp ?_
    rw [Tn]
    exact h w' _ (I.tok _) EU
theorem Ef {t' : Nat} (I : Inv X pins σ H s) (mu : Mut (H a)) (hs : Heap.SameBut a s.heap h') (he : ∃ q, h'.get? a = some q) (new : cq X.prog X.w (upd H a ob) h' a ob) :
    Inv X pins σ (upd H a ob) { s with heap := h', toks := t' } :=
  I.write (x := a) (e := a) mu (.inl rfl) (fun b q hb z => (hs.2 b hb).trans z) he new
theorem KS {h' : Heap} {aQ : List (Key × V)} {vs : List (Key × Value)} (z : aQ.length <= sizeLine) (hd : (a == sysModules) = false) (rel : KV aQ vs) (dd : h'.DictOf (bU P w) a vs) :
    cq P w H' h' a (.dK aQ) := ⟨z, hd, vs, rel, dd⟩
theorem EY {Q : Unit -> Shared -> Prop} (hu : A.units + 1 < cLine) (I : Inv X pins σ H s) (g : EW H a y v H') (ry : RelV y u) (rv : RelV v r) (h : ∀ s', Inv X pins σ H' s' -> Q () s') :
    wpAny (model X.prog X.w) A (setItem (.ref a) u r) Q E s := by
  rcases g with ⟨aQ, k, e, ey, l, eH⟩ | ⟨aQ, k, b, e, ey, eb, l, eH⟩
  . subst ey eH
    obtain ⟨z, hd, vs, rel, dd⟩ := MV I.hok e
    have hz : vs.length <= sizeLine := by rw [<- rel.length]; exact z
    have hl : (putK aQ k v).length <= sizeLine := by have := sQ aQ k v; omega
    refine wpAny_setItem_pairs (hsz := hz) (Gi ry) dd fun h' Oy hs => h _ ?_
    have he : ∃ q, h'.get? a = some q := let ⟨q, _, _, hq, _⟩ := Oy; ⟨q, hq⟩
    exact Ef I (by rw [e]; exact True.intro) hs he (KS hl hd (rel.put k rv) Oy)
  . subst ey eH
    cases (show u = Value.ref b from ry)
    obtain ⟨z, hd, xs, rel, dd⟩ := MW I.hok e
    have hz : xs.length <= sizeLine := by rw [<- Paired.length rel]; exact z
    have hl : (putK aQ k v).length <= sizeLine := by have := sQ aQ k v; omega
    refine wpAny_setItem_heap (hsz := hz) (tupleKind_room_in1 hu) (CB I.hok eb) dd fun h' Oy hs => h _ ?_
    obtain ⟨q, es, ep, hq, h2, h3, h4, _, h5⟩ := Oy
    refine Ef I (by rw [e]; exact True.intro) hs ⟨q, hq⟩ ⟨hl, hd, _, (rel.put k eb rv).keeps fun c ys ec => ?_, q, es, ep, hq, h2, h3, h4, h5⟩
    rw [aM (eE ec e (fun z => nomatch z))]
    exact ec
end
section
variable {X : Cx} {pins : List (Addr × Obj)} {σ : St} {H : Hp} {s : Shared} {a : Addr} {aQ : List (Key × V)} {k : Key} {u : Value} {A : Around} {E : Value -> Shared -> Prop}
end
def KU (i : Expr) : Prop := ∀ ov iv, subscripted i false ov iv = operate [ov, iv] (getItem ov iv)
theorem Eg {env : Env} {T id : String} 
    (hl : typeLookup (.type T) "__getitem__" = pure (some (.builtin id))) (hs : KU slice)
    (h : wpAny (model prog w) A (eval value env) (fun o s₁ => wpAny (model prog w) A (eval slice env) (fun i s₂ => s₂.TypeIs o T /\ wpAny (model prog w) A (getItem o i) Q E s₂) E s₁) E s) :
    wpAny (model prog w) A (eval (.Subscript value slice pos) env) Q E s := by
  refine Subscript_ (VP h (fun o s₁ h₁ => VP h₁ (fun i s₂ h₂ => ?_) fun _ _ x => x) fun _ _ x => x)
  obtain ⟨hT, h₂⟩ := h₂
  unfold subscriptTail
  refine Vi ?_
  rw [getitemInPython_of_ne hT.not_modules]
  refine Vi (wpAny_specialOf hT hl ?_)
  have fin : wpAny (model prog w) A (subscripted slice false o i) (fun r s₃ => wpAny (model prog w) A (letTemporaryGo value o r >>= fun _ => pure r) Q E s₃) E s₂ := by
    rw [hs o i]
    exact wpAny_operating (VP h₂ (fun r s₃ h₃ => Vi (wpAny_letTemporaryGo (Vo h₃))) fun _ _ x => x)
  first
    | exact Vo (Vi fin)
    | exact Vi (Vo (Vi fin))
    | exact Vi fin
theorem AY {H : Hp} {o : Option V} (I : Inv X pins σ H s) (g : CF H a y o) : s.TypeIs (.ref a) "dict" := by
  rcases g with ⟨aQ, k, e, _, _⟩ | ⟨aQ, k, b, e, _, _, _⟩
  . obtain ⟨_, _, vs, _, dd⟩ := Gj I.hok e
    exact dd.typeIs
  . obtain ⟨_, _, xs, _, dd⟩ := Gk I.hok e
    exact dd.typeIs
def Gm (td ty : TE) : TE := fun σ H Q => td σ H fun x H1 => ty σ H1 fun y H2 => ∃ a v, x = .ref a /\ CF H2 a y (some v) /\ Q v H2
def Gn (td ty tv : TE) : TS := fun D σ H => tv σ H fun v H1 => td σ H1 fun x H2 => ty σ H2 fun y H3 => ∃ a H4, x = .ref a /\ EW H3 a y v H4 /\ D.nx σ H4
section
variable {X : Cx} {o i e value : Expr} {pos pos' AA : Pos} {td ty tv : TE}
theorem Im (hu : X.A.units + 1 < cLine) (ho : PE X o td) (hi : PE X i ty) (hs : KU i) : PE X (.Subscript o i pos) (Gm td ty) := by
  intro pins s σ H Q I h
  refine Eg PySem.F.slot_dict_getitem.lookup hs (thn (ho pins s σ H _ I h) fun u s1 ⟨x, H1, I1, rx, q1⟩ => thn (hi pins s1 σ H1 _ I1 q1) fun iv s2 ⟨y, H2, I2, ry, a, v, ex, g, q2⟩ => ?_)
  subst ex
  obtain rfl : u = Value.ref a := rx
  exact ⟨AY I2 g, EX hu I2 g ry fun w' s3 I3 EU => ⟨v, H2, I3, EU, q2⟩⟩
theorem Io (hu : X.A.units + 1 < cLine) (ho : PE X o td) (hi : PE X i ty) (hv : PE X value tv) (hs : swapsWith value (some (.Subscript o i pos')) pos.line X.env = pure false) :
    PS X (.Assign [.Subscript o i pos'] value pos) (Gn td ty tv) := by
  intro pins s σ H D I h
  refine wpAny_Assign_Subscript (thn (hv pins s σ H _ I h) fun r s1 ⟨v, H1, I1, rv, q1⟩ => thn (ho pins s1 σ H1 _ I1 q1) fun u s2 ⟨x, H2, I2, rx, q2⟩ => thn (hi pins s2 σ H2 _ I2 q2) fun iv s3 ⟨y, H3, I3, ry, a, H4, ex, g, q3⟩ => ?_) hs
  subst ex
  obtain rfl : u = Value.ref a := rx
  exact EY hu I3 g ry rv fun s4 I4 => ⟨σ, H4, I4, q3⟩
end
theorem Gp (h : Heap) (hb : sysModules < h.objs.size) : cq P w H (h.push { cls := .type "dict", data := .dict #[] }) h.objs.size (.dK []) :=
  ⟨VF _, beq_eq_false_iff_ne.mpr (Ne.symm (Vp hb)), [], .nil, Heap.DictOf.new h⟩
def Gq : TE := fun _ H Q => ∀ p, H p = none -> Q (.ref p) (upd H p (.dK []))
section
variable {X : Cx} {pos : Pos}
theorem Gr : PE X (.Dict [] [] pos) Gq := fun pins s σ H Q I h =>
  wpAny_Dict_empty ⟨.ref s.heap.objs.size, _, I.laid (a := s.heap.objs.size) (o := .dK []) (t' := s.toks) (fun _ _ q => Vm _ q) (Vq _) (Gp s.heap I.big), rfl, h _ (I.hok.fresh (Vq _))⟩
end
structure M2 (X : Cx) (o : Expr) (m : Str) (apos : Pos) (e f : Expr) (mn : Pos) : Prop where
  base : attributeBase o m X.env (eval o X.env) = eval o X.env
  few : ((backTo mn (starEach [e, f] X.env)).all (fun x => !x.1) && (backToKw mn (keywordEach [] X.env)).all (fun x => x.1.isSome)
    && decide (([e, f] : List Expr).length + ([] : List Keyword).length + (if ([] : List Keyword).isEmpty then 0 else 1) < 30)) = true
  line : (apos.endLine == mn.line) = true
  trees : backTo mn (starEach [e, f] X.env) = [(false, eval e X.env), (false, eval f X.env)]
section
variable {X : Cx} {pins : List (Addr × Obj)} {σ : St} {H : Hp} {s : Shared} {a : Addr} {y d : V} {u r : Value} {o : Option V} {A : Around} {E : Value -> Shared -> Prop}
end
section
variable {X : Cx} {o e f : Expr} {apos mn : Pos} {td ty tx : TE}
end
section
variable {X : Cx} {pins : List (Addr × Obj)} {σ : St} {H : Hp} {s : Shared} {a : Addr} {aQ : List (Key × V)} {A : Around} {E : Value -> Shared -> Prop}
end
section
variable {X : Cx} {pins : List (Addr × Obj)} {σ : St} {H : Hp} {s : Shared} {a : Addr} {y : V} {u : Value} {A : Around} {E : Value -> Shared -> Prop}
end
end L2
namespace L2
section
variable {prog : Program} {w : World} {A : Around} {E : Value -> Shared -> Prop}
end
section
variable {X : Cx}
end
end L2
namespace L2
section
variable {X : Cx} {pins : List (Addr × Obj)} {σ : St} {H : Hp} {s : Shared} {h' : Heap}
theorem Inv.Ip {t' : Nat} {ch : List Addr} (I : Inv X pins σ H s) (k : ∀ b o, b ∉ ch -> s.heap.get? b = some o -> h'.get? b = some o) (hf : ∀ b ∈ ch, oJ X pins H b) : Inv X pins σ H { s with heap := h', toks := t' } := by
  have JC : ∀ b u, H b = some u -> b ∉ ch := fun b u e z => by
    have q := (hf b z).1
    rw [q] at e; cases e
  refine I.step (g' := s.gens) (d' := s.drawn) (ch := ch) (fun b hb => ⟨(hf b hb).2.2.2.1, (hf b hb).2.1, (hf b hb).2.2.2.2.1, (hf b hb).2.2.2.2.2⟩) (fun b o _ _ hc e _ => k b o hc e) (fun b o _ _ hc e _ => ⟨o.slots, k b o hc e⟩)
    (fun _ _ _ _ n => n) (fun b o hc e => ⟨o, k b o hc e⟩) (fun _ _ e => e) (fun _ _ _ e => e) (fun b ps e => ⟨#[], by rw [e]; simp⟩) (fun m hm => ?_) (fun b u e => ?_) I.bare
  . obtain ⟨o, es, ep, ho, r⟩ := hm
    exact ⟨o, es, ep, k _ o (fun z => (hf _ z).2.1 rfl) ho, r⟩
  . refine (I.hok b u e).g8 (fun c v hc q => k c v ?_ q) (fun _ q => q) fun _ _ q => q
    rcases hc with z | z
    . rw [z]; exact JC b u e
    . exact JC c _ z
theorem Inv.yl {t' : Nat} {ch : List Addr} {T : Addr} (I : Inv X pins σ H s) (k : ∀ b o, b ∉ ch -> s.heap.get? b = some o -> h'.get? b = some o) (hf : ∀ b ∈ ch, oJ X pins H b) (hT : s.heap.objs.size <= T)
    (new : cq X.prog X.w (upd H T ob) h' T ob) : Inv X pins σ (upd H T ob) { s with heap := h', toks := t' } := by
  have hn : H T = none := I.hok.fresh hT
  have JC : ∀ b u, H b = some u -> b ∉ ch := fun b u e z => by
    have q := (hf b z).1
    rw [q] at e; cases e
  refine I.step (g' := s.gens) (d' := s.drawn) (ch := ch) (fun b hb => ⟨(hf b hb).2.2.2.1, (hf b hb).2.1, (hf b hb).2.2.2.2.1, (hf b hb).2.2.2.2.2⟩) (fun b o _ _ hc e _ => k b o hc e) (fun b o _ _ hc e _ => ⟨o.slots, k b o hc e⟩)
    (fun b o _ e n => ?_) (fun b o hc e => ⟨o, k b o hc e⟩) (fun b xs e => ?_) (fun b o u e => ?_) (fun b ps e => ⟨#[], ?_⟩) (fun m hm => ?_) (fun b u e => ?_) I.bare
  . rw [aM (Vp (VI (Vu e) hT))]; exact n
  . rw [aM (aF e hn)]; exact e
  . rw [aM (aF e hn)]; exact e
  . rw [aM (aF e hn), e]; simp
  . obtain ⟨o, es, ep, ho, r⟩ := hm
    exact ⟨o, es, ep, k _ o (fun z => (hf _ z).2.1 rfl) ho, r⟩
  . by_cases hb : b = T
    . subst hb
      rw [aA] at e
      cases e
      exact new
    . rw [aM hb] at e
      refine (I.hok b u e).g8 (fun c v hc q => k c v ?_ q) (fun c q => by rw [aM (aF q hn)]; exact q) fun c xs q => by rw [aM (aF q hn)]; exact q
      rcases hc with z | z
      . rw [z]; exact JC b u e
      . exact JC c _ z
end
section
variable {X : Cx}
end
section
variable {X : Cx} {tg : Expr}
end
section
variable {X : Cx} {tg : Expr}
end
section
variable {prog : Program} {w : World} {A : Around} {E : Value -> Shared -> Prop} {s : Shared}
end
section
variable {X : Cx} {pins : List (Addr × Obj)} {σ : St} {H : Hp} {s : Shared} {d : Addr} {o : Obj}
end
section
variable {P : Program} {w : World} {K : FG} {tg : Expr} {d : Addr} {o : Obj} {es : Array DictEntry} {ep : Nat}
end
section
variable {X : Cx} {tg e : Expr} {td : TE} {apos mn : Pos}
end
def Ite (K : FG) (a : Addr) : It :=
  ⟨fun i H => ∃ (xs : List V) (x : V), SqL K H a xs /\ xs[i]? = some x, fun i H v H' => ∃ T x, v = .ref T /\ H T = none /\ H' = upd H T (.tup [.int (i : Nat), x]) /\ ∀ xs, SqL K H a xs -> xs[i]? = some x, fun i H => ∃ xs : List V, SqL K H a xs /\ xs.length <= i⟩
theorem EZ {K : FG} {kk : Nat} (a e it : Addr) :
    Turn P w K (.Tuple elts kk AA) (Ite K a) [e, it] e (fun i h => (∃ old, IsEnum h e it ((i : Nat) : Int) old) /\ h.IsListIter it a i /\ e ≠ it) where
  mem := by simp
  obj := fun i h st b hb => by
    obtain ⟨⟨old, he⟩, ⟨o, ho, hc, hd⟩, _⟩ := st
    have e' : b = e \/ b = it := by simpa using hb
    rcases e' with z | z
    . rw [z]; exact ⟨_, he, fun v q => nomatch q⟩
    . rw [z]; exact ⟨o, ho, fun v q => by rw [hd] at q; cases q⟩
  keep := fun i h h' st k => let ⟨⟨old, he⟩, hi, qi⟩ := st; ⟨⟨old, k e (by simp) _ he⟩, hi.at fun o q => k it (by simp) o q, qi⟩
  item := by
    intro X hP hw hK hc i pins s σ H E I hf st hg
    subst hP hw hK
    obtain ⟨⟨old, he⟩, hit, qi⟩ := st
    obtain ⟨xs, x, hq, hx⟩ := hg
    obtain ⟨aK, rv, p, hz⟩ := I.list hq
    obtain ⟨u, hu, ru⟩ := rv.get hx
    have RF : e < s.heap.objs.size := Vu he
    have Oz : it < s.heap.objs.size := by obtain ⟨_, q, _⟩ := hit; exact Vu q
    refine wpAny_pyNext_enum_item he hit p.isList (x := u) (by simpa using hu) qi fun h' ho PN hT hsz hk => ?_
    refine ⟨_, rfl, wpAny_letOwnedTupleGo_enum (s := { s with heap := h', toks := s.toks + 1 }) ho fun yi To sb => ?_⟩
    have E1 : yi.get? s.heap.objs.size = some { cls := .type "tuple", data := .seq #[.int i s.toks, u] } := (sb.2 _ (ne_of_gt RF)).trans hT
    have new : cq X.prog X.w (upd H s.heap.objs.size (.tup [.int (i : Nat), x])) yi s.heap.objs.size (.tup [.int (i : Nat), x]) :=
      ⟨by show 2 <= sizeLine; decide, [.int i s.toks, u], .cons ⟨_, rfl⟩ (.cons ru .nil), ⟨_, E1, rfl, _, rfl⟩⟩
    have I1 : Inv X pins σ (upd H s.heap.objs.size (.tup [.int (i : Nat), x])) { s with heap := yi, toks := s.toks + 1 } :=
      I.yl (ch := [e, it]) (fun b ob hb q => (sb.2 b (fun z => hb (by simp [z]))).trans (hk b ob (fun z => hb (by simp [z])) (fun z => hb (by simp [z])) q)) hf (Vq _) new
    refine ⟨.ref s.heap.objs.size, _, I1, rfl, ⟨_, x, rfl, I.hok.fresh (Vq _), rfl, fun ys hy => by rw [I.uP hy hq]; exact hx⟩, ⟨⟨u, ?_⟩, PN.at fun o q => (sb.2 it (Ne.symm qi)).trans q, qi⟩, fun b hb => ?_⟩
    . have e1 : ((i + 1 : Nat) : Int) = (i : Int) + 1 := by omega
      rw [e1]; exact To
    . have yd : b < s.heap.objs.size := by
        have e' : b = e \/ b = it := by simpa using hb
        rcases e' with z | z
        . rw [z]; exact RF
        . rw [z]; exact Oz
      rw [aM (Vp yd)]
      exact (hf b hb).1
  done := by
    intro X hP hw hK hc i pins s σ H E I hf st hg
    subst hP hw hK
    obtain ⟨⟨old, he⟩, hit, qi⟩ := st
    obtain ⟨xs, hq, hx⟩ := hg
    obtain ⟨aK, rv, p, hz⟩ := I.list hq
    obtain ⟨f0, f1, f2, f3, f4, f5⟩ := hf it (by simp)
    have hl := rv.length
    exact wpAny_pyNext_enum_end (I.ok.hd hc) he hit p.isList (by simp; omega) fun h' eb => ⟨rfl, I.turned (t' := s.toks) (fun b o hb q => eb b o hb q) f0 f1 f3 f4 f5⟩
  self := fun A i s Q E st h => let ⟨⟨_, he⟩, _⟩ := st; wpAny_pyIter_enum he h
def AZ (K : FG) (ta : TA) : TI := fun σ H R => ta σ H fun vs H1 => ∃ a xs, vs = [.ref a] /\ SqL K H1 a xs /\ R (Ite K a) H1
theorem yY {e : Expr} {p : Pos} {kk : Nat} (hg : Gl X "enumerate") (hm : X.mg "enumerate" = none) (ha : PA X [e] ta) (hs : starEach [e] X.env = [(false, eval e X.env)] := by rfl) :
    PI X (.Tuple elts kk AA) (.Call (.Name "enumerate" p) [e] [] pos) (AZ X.K ta) := by
  intro pins s σ H R I h
  refine Call_ (ku I hg hm boot_enumerate (Wo (thn (ha pos pins s σ H _ I h) fun us s1 ⟨vs, H1, I1, r1, q1⟩ => ?_) hs rfl))
  obtain ⟨a, xs, ex, hq, q⟩ := q1
  subst ex
  cases r1 with
  | cons r rr =>
    cases rr
    cases r
    obtain ⟨aK, rv, p', hz⟩ := I1.list hq
    refine call_enumerate_list p'.isList fun h' he hit hsz hk => wpAny_pyIter_enum he ?_
    have I2 : Inv X pins σ H1 { s1 with heap := h' } := I1.kept (t' := s1.toks) hk
    refine ⟨s1.heap.objs.size + 1, [s1.heap.objs.size + 1, s1.heap.objs.size], _, _, H1, rfl, I2, EZ a (s1.heap.objs.size + 1) s1.heap.objs.size, ⟨⟨.none, he⟩, hit, succ_ne_self _⟩, fun b hb => ?_, q⟩
    have e' : b = s1.heap.objs.size + 1 \/ b = s1.heap.objs.size := by simpa using hb
    have hle : s1.heap.objs.size <= b := by
      rcases e' with z | z
      . rw [z]; exact le_add_right _ _
      . rw [z]; exact Vq _
    exact I1.Cj hle (I1.hok.fresh hle)
theorem ym : bootBuiltins "zip" = some (.type "zip") := by decide +kernel
end L2
section
namespace PQ
open PySem PyProof.Rows
end PQ
end
section
namespace TL
open PySem PySem.Builtin PySem.Builtin.Str PySem.StrLaws
end TL
end
namespace L2
section
variable {X : Cx} {pins : List (Addr × Obj)} {σ : St} {H : Hp} {s : Shared} {Q : VK}
end
section
variable {X : Cx}
end
section
variable {X : Cx} {o e : Expr} {to te : TE}
end
end L2
namespace L2
section
variable {X : Cx}
end
end L2
namespace Tp
open PySem PySem.W PySem.Calls PyProof.Rows
section
variable {prog : Program} {w : World} {A : Around} {E : Value -> Shared -> Prop} {s : Shared} {K : Frag}
end
end Tp
namespace L2
end L2
namespace L2
end L2
namespace L2
def inClass (s : Stmt) (j : Nat) : Stmt := match s with
  | .ClassDef _ _ _ body _ _ _ _ _ _ _ => body.getD j (.Pass ⟨0, 0, 0, 0⟩)
  | _ => .Pass ⟨0, 0, 0, 0⟩
def iN (s : Stmt) : Arguments := match s with
  | .FunctionDef _ a _ _ _ _ _ _ _ _ => a
  | _ => { posonlyargs := [], args := [], vararg := none, kwonlyargs := [], kw_defaults := [], kwarg := none, defaults := [] }
def dJ (s : Stmt) : List Stmt := match s with
  | .FunctionDef _ _ b _ _ _ _ _ _ _ => b
  | _ => []
def aB (s : Stmt) : Scope := match s with
  | .FunctionDef _ _ _ _ _ _ sc _ _ _ => sc
  | _ => { kind := .function, names := [], isGenerator := false, isCoroutine := false }
abbrev CX0 : CXT := fun _ _ _ _ _ _ => False
abbrev E0 : XK := fun _ _ _ => False
theorem A0 : Passes CX0 X E0 := fun _ _ _ _ _ _ _ h => h.elim
structure Fun (K : FG) (x qual : Str) (st : Stmt) (f : Addr) (fd : FuncData) : Prop where
  ex : ∃ (oc : Value) (od : Option Addr) (kV doc pm : Value) (an : Option Addr) (bJ ct : Value) (AK : Array (Option Value)),
    fd = fnOf x qual (iN st) (dJ st) (aB st) .none kV doc pm an bJ ct /\ K.lookup f = some ⟨oc, od, .func fd, AK⟩ /\ codeIn K bJ qual = true
  kp : keepIn K (.ref f) = true
section
variable {P : Program} {w : World} {K : FG} {mg : SV} {base : Heap}
theorem Fun.ok {st : Stmt} {k : Nat} {sp : Sp} (F : Fun K x qual st f fd) (S : aG N ps (aB st)) (len : ∀ vs H Q E, sp vs H Q E -> vs.length = ps.length)
    (jP : ∀ (bJ : Value) (A : Around) (outer : List Env) (s : Shared) (H : Hp) (vs : List V) (Q : VK) (E : XK), c7 k (A.deeper (envOfC qual (aB st) s.heap.objs.size f bJ)) -> sp vs H Q E ->
      ∃ t, PSs (AI CX0 P w K mg base N qual (aB st) f bJ A outer s H E).nox (dJ st) t /\ t { nx := fun _ H' => Q .non H', rt := Q } (start N vs) H) : cA P w K mg base CX0 (k + 1) f fd ps sp := by
  obtain ⟨oc, od, kV, doc, pm, an, bJ, ct, AK, rfl, lk, Fv⟩ := F.ex
  refine JG lk Fv S len fun A outer s H vs Q E hr HF => ?_
  obtain ⟨t, h, q⟩ := jP bJ A outer s H vs Q E hr HF
  exact ⟨t, h.nox, q⟩
theorem Fun.binds {st : Stmt} {ps : List Str} (F : Fun K x qual st f fd)
    (h : ∀ (kV doc pm : Value) (an : Option Addr) (bJ ct : Value) (us : List Value), us.length = ps.length -> bindArgs (fnOf x qual (iN st) (dJ st) (aB st) .none kV doc pm an bJ ct) ⟨us, []⟩ = pure (ps.zip us)) : Binds K fd ps [] := by
  obtain ⟨oc, od, kV, doc, pm, an, bJ, ct, AK, rfl, lk, Fv⟩ := F.ex
  exact .all (h kV doc pm an bJ ct)
theorem Gs {st : Stmt} {oc : Value} {od an : Option Addr} {AK : Array (Option Value)} {kV doc pm bJ ct : Value} (l : K.lookup f = some ⟨oc, od, .func (fnOf x qual (iN st) (dJ st) (aB st) .none kV doc pm an bJ ct), AK⟩)
    (c : codeIn K bJ qual = true) (k : keepIn K (.ref f) = true) : Fun K x qual st f (fnOf x qual (iN st) (dJ st) (aB st) .none kV doc pm an bJ ct) := ⟨⟨oc, od, kV, doc, pm, an, bJ, ct, AK, rfl, l, c⟩, k⟩
end
theorem JI {k : Nat} (hr : c7 k A) : A.units + 1 < cLine := lt_of_le_of_lt (Nat.add_le_add_left (by decide : 1 <= 64) _) hr.units
section
variable {X : Cx}
theorem pv (i : Nat) {x : Str} (hN : X.N[i]? = some x := by rfl) (hv : Vis X.env.scope x := by first | exact Or.inl rfl | exact Or.inr (Or.inl rfl) | exact Or.inr (Or.inr rfl)) (hd : (x == ("__debug__" : Str)) = false := by decide)
    (Fv : (x == ("__classdict__" : Str)) = false := by decide) : PE X (.Name x pos) (ai i) := Kj hN hv hd Fv
end
theorem oO {A B : Prop} (h : B) : if false = true then A else B := by
  rw [Vh VD]
  exact h
theorem oP {A B : Prop} (h : A) : if true = true then A else B := by
  rw [Vj rfl]
  exact h
theorem bX {c A B : Prop} [Decidable c] (h1 : c -> A) (h2 : ¬ c -> B) : if c then A else B := by
  by_cases h : c
  . rw [Vj h]
    exact h1 h
  . rw [Vh h]
    exact h2 h
section
variable {κ : Type} [DecidableEq κ]
end
end L2
section
namespace L2
open PySem.W (WData Codec OpenSpec Well WellAll ReadsW ReadsAllW)
mutual
inductive Dw (K : FG) (H : Hp) : V -> WData -> Prop
  | non : Dw K H .non .none
  | bl (b : Bool) : Dw K H (.bl b) (.bool b)
  | int (i : Int) : Dw K H (.int i) (.int i)
  | str (x : Str) : Dw K H (.str x) (.str x)
  | Aw (b : Array UInt8) : Dw K H (.Aw b) (.bytes b.toList)
  | lst {a : Addr} {xs : List V} {ds : List WData} : SqL K H a xs -> iO K H xs ds -> Dw K H (.ref a) (.list ds)
  | tup {a : Addr} {xs : List V} {ds : List WData} : SqT K H a xs -> iO K H xs ds -> Dw K H (.ref a) (.tuple ds)
inductive iO (K : FG) (H : Hp) : List V -> List WData -> Prop
  | nil : iO K H [] []
  | cons {v : V} {vs : List V} {d : WData} {ds : List WData} : Dw K H v d -> iO K H vs ds -> iO K H (v :: vs) (d :: ds)
end
theorem Eh {K : FG} : ∀ ns : List Int, iO K H (ns.map V.int) (ns.map WData.int)
  | [] => .nil
  | n :: r => .cons (.int n) (Eh r)
theorem Ei {K : FG} : ∀ (ns : List Int) (xs : List V), iO K H xs (ns.map WData.int) -> xs = ns.map V.int
  | [], xs, h => by
    cases h
    rfl
  | n :: r, xs, h => by
    cases h with
    | cons h1 h2 =>
      cases h1
      rw [Ei r _ h2] <;> rfl
section
variable {P : Program} {w : World} {K : FG} {H : Hp} {h : Heap} {R : WRecords} {cl : Str -> Option Addr}
theorem KW (hok : HOk P w H h) (KX : K.In h) (q : SqL K H a xs) : ∃ (aK : List Value) (o : Obj) (n : Nat), Vals xs aK /\ h.get? a = some o /\ o.cls = .type "list" /\ o.data = .seq aK.toArray n := by
  rcases q with q | ⟨o, aK, n, e, hc, _, hd, _, hv⟩
  . obtain ⟨_, aK, n, hv, e⟩ := (show cq P w H h a (.lst xs) from q.ok hok)
    exact ⟨aK, _, n, hv, e, rfl, rfl⟩
  . exact ⟨aK.toList, o, n, hv, KX _ _ e, hc, by simp [hd]⟩
theorem KY (hok : HOk P w H h) (KX : K.In h) (q : SqT K H a xs) : ∃ (aK : List Value) (o : Obj) (n : Nat), Vals xs aK /\ h.get? a = some o /\ o.cls = .type "tuple" /\ o.data = .seq aK.toArray n := by
  rcases q with q | ⟨o, aK, n, e, hc, hd, _, hv⟩
  . obtain ⟨_, aK, hv, o, e, hc, n, hd⟩ := (show cq P w H h a (.tup xs) from q.ok hok)
    exact ⟨aK, o, n, hv, e, hc, hd⟩
  . exact ⟨aK.toList, o, n, hv, KX _ _ e, hc, by simp [hd]⟩
mutual
theorem Dw.reads (hok : HOk P w H h) (KX : K.In h) : ∀ (d : WData) (v : V) (u : Value), Dw K H v d -> RelV v u -> ∃ as, ReadsW R cl h u d as
  | .none, _, _, x, r => by
    cases x
    cases r
    exact ⟨_, ReadsW.none⟩
  | .bool b, _, _, x, r => by
    cases x
    cases r
    exact ⟨_, ReadsW.bool b⟩
  | .int i, _, _, x, r => by
    cases x
    obtain ⟨t, rfl⟩ := r
    exact ⟨_, ReadsW.int i t⟩
  | .str s, _, _, x, r => by
    cases x
    obtain ⟨t, rfl⟩ := r
    exact ⟨_, ReadsW.str s t⟩
  | .bytes b, _, _, x, r => by
    cases x
    obtain ⟨t, rfl⟩ := r
    exact ⟨_, ReadsW.bytes _ t⟩
  | .list ds, _, _, x, r => by
    cases x with
    | lst hs ha =>
      cases r
      obtain ⟨aK, o, n, rv, ho, hc, hd⟩ := KW hok KX hs
      obtain ⟨as, hr⟩ := Dw.readsAll hok KX ds _ aK ha rv
      exact ⟨_, ReadsW.list ho hc hd hr⟩
  | .tuple ds, _, _, x, r => by
    cases x with
    | tup hs ha =>
      cases r
      obtain ⟨aK, o, n, rv, ho, hc, hd⟩ := KY hok KX hs
      obtain ⟨as, hr⟩ := Dw.readsAll hok KX ds _ aK ha rv
      exact ⟨_, ReadsW.tuple ho hc hd hr⟩
  | .float _, _, _, x, _ => by cases x
  | .dict _, _, _, x, _ => by cases x
  | .bytearray _, _, _, x, _ => by cases x
  | .set _, _, _, x, _ => by cases x
  | .frozenset _, _, _, x, _ => by cases x
  | .obj _ _, _, _, x, _ => by cases x
theorem Dw.readsAll (hok : HOk P w H h) (KX : K.In h) : ∀ (ds : List WData) (vs : List V) (us : List Value), iO K H vs ds -> Vals vs us -> ∃ as, ReadsAllW R cl h us ds as
  | [], _, _, x, r => by
    cases x
    cases r
    exact ⟨_, ReadsAllW.nil⟩
  | d :: ds, _, _, x, r => by
    cases x with
    | cons h1 h2 =>
      cases r with
      | cons r1 r2 =>
        obtain ⟨as, q1⟩ := Dw.reads hok KX d _ _ h1 r1
        obtain ⟨bs, q2⟩ := Dw.readsAll hok KX ds _ _ h2 r2
        exact ⟨_, ReadsAllW.cons q1 q2⟩
end
end
mutual
def plW : WData -> Bool
  | .none => true
  | .bool _ => true
  | .int _ => true
  | .str _ => true
  | .bytes _ => true
  | .list xs => tu xs
  | .tuple xs => tu xs
  | _ => false
def tu : List WData -> Bool
  | [] => true
  | x :: r => plW x && tu r
end
theorem A1 {α : Type} {f : α -> WData} (h : ∀ a, plW (f a) = true) : ∀ l : List α, tu (l.map f) = true
  | [] => rfl
  | x :: r => by
    show (plW (f x) && tu (r.map f)) = true
    rw [h x, A1 h r] <;> rfl
theorem mw : ∀ (c : Codec) (a : c.denote), plW (c.enc a) = true
  | .unit, _ => rfl
  | .bool, _ => rfl
  | .int _ _, _ => rfl
  | .nat _ _, _ => rfl
  | .u8, _ => rfl
  | .bytes _ _, _ => rfl
  | .text _ _ _ _, _ => rfl
  | .list _ _ c, a => A1 (fun x => mw c x) a
  | .pair c d, a => by
    show (plW (c.enc a.1) && (plW (d.enc a.2) && true)) = true
    rw [mw c a.1, mw d a.2] <;> rfl
  | .triple c d e, a => by
    show (plW (c.enc a.1) && (plW (d.enc a.2.1) && (plW (e.enc a.2.2) && true))) = true
    rw [mw c a.1, mw d a.2.1, mw e a.2.2] <;> rfl
  | .option c, none => rfl
  | .option c, some x => mw c x
theorem yn : ∀ (cs : List Codec) (a : Codec.denoteAll cs), tu (Codec.encAll cs a) = true
  | [], _ => rfl
  | c :: cs, a => by
    show (plW (c.enc a.1) && tu (Codec.encAll cs a.2)) = true
    rw [mw c a.1, yn cs a.2] <;> rfl
theorem oQ : ∀ {xs : List WData} {d : WData}, d ∈ xs -> d.weight <= WData.weightAll xs
  | [], d, h => absurd h (by simp)
  | x :: r, d, h => by
    show d.weight <= x.weight + 1 + WData.weightAll r
    rcases mem_cons.mp h with e | m
    . rw [e]
      omega
    . have z := oQ m
      omega
def toV : Value -> V
  | .none => .non
  | .bool b => .bl b
  | .int i _ => .int i
  | .str x _ => .str x
  | .bytes b _ => .Aw b
  | .ref a => .ref a
  | _ => .non
def OkU (A : List Addr) : Value -> Prop
  | .none => True
  | .bool _ => True
  | .int _ _ => True
  | .str _ _ => True
  | .bytes _ _ => True
  | .ref a => a ∈ A
  | _ => False
theorem OkU.mono {A B : List Addr} (h : ∀ a ∈ A, a ∈ B) : ∀ {u : Value}, OkU A u -> OkU B u := fun {u} x => by
  cases u with
  | ref a => exact h a x
  | none => trivial
  | bool b => trivial
  | int i t => trivial
  | str s t => trivial
  | bytes b t => trivial
  | _ => exact False.elim x
theorem Gu (x : OkU A u) : RelV (toV u) u := by
  cases u with
  | ref a => rfl
  | none => rfl
  | bool b => rfl
  | int i t => exact ⟨t, rfl⟩
  | str s t => exact ⟨t, rfl⟩
  | bytes b t => exact ⟨t, rfl⟩
  | _ => exact False.elim x
theorem jR : ∀ {vs : List Value}, (∀ u ∈ vs, OkU A u) -> Vals (vs.map toV) vs
  | [], _ => .nil
  | u :: r, h => .cons (Gu (h u (Vv ..))) (jR fun x hx => h x (Vs _ hx))
def my (h : Heap) (A : List Addr) (a : Addr) : Prop := ∃ vs : List Value, vs.length <= sizeLine /\ (∀ u ∈ vs, OkU A u) /\
  (h.get? a = some { cls := .type "list", data := .seq vs.toArray } \/ h.get? a = some { cls := .type "tuple", data := .seq vs.toArray })
theorem my.mono {A B : List Addr} {a : Addr} (k : ∀ a ∈ A, a ∈ B) (x : my h A a) : my h B a := by
  obtain ⟨vs, h1, h2, h3⟩ := x
  exact ⟨vs, h1, fun u hu => (h2 u hu).mono k, h3⟩
theorem iP {P : Params} : ∀ {vs : List Value} {ds : List WData}, WellAll P h vs ds -> vs.length = ds.length
  | _, _, .nil => rfl
  | _, _, .cons _ b => by
    show _ + 1 = _ + 1
    rw [iP b]
theorem yo {P : Params} {ds : List WData} (x : Well P h v (.list ds)) : ∃ (a : Addr) (vs : List Value), v = .ref a /\ h.get? a = some { cls := .type "list", data := .seq vs.toArray } /\ WellAll P h vs ds := by
  cases x with
  | list ho dF => exact ⟨_, _, rfl, ho, dF⟩
theorem u6 {P : Params} {ds : List WData} (x : Well P h v (.tuple ds)) : ∃ (a : Addr) (vs : List Value), v = .ref a /\ h.get? a = some { cls := .type "tuple", data := .seq vs.toArray } /\ WellAll P h vs ds := by
  cases x with
  | tuple ho dF => exact ⟨_, _, rfl, ho, dF⟩
theorem yp {P : Params} {d : WData} {ds : List WData} (x : WellAll P h us (d :: ds)) : ∃ (v : Value) (vs : List Value), us = v :: vs /\ Well P h v d /\ WellAll P h vs ds := by
  cases x with
  | cons a b => exact ⟨_, _, rfl, a, b⟩
theorem Ej {n : Nat} (h : n <= 1048576) : n <= sizeLine := VH h (by decide)
section
variable {P : Params} {h : Heap}
mutual
theorem Gv : ∀ (d : WData) (v : Value), Well P h v d -> plW d = true -> d.weight <= 1048576 -> ∃ A : List Addr, OkU A v /\ ∀ a ∈ A, my h A a
  | .none, _, x, _, _ => by
    cases x
    exact ⟨[], trivial, fun a m => absurd m (by simp)⟩
  | .bool b, _, x, _, _ => by
    cases x
    exact ⟨[], trivial, fun a m => absurd m (by simp)⟩
  | .int i, _, x, _, _ => by
    cases x
    exact ⟨[], trivial, fun a m => absurd m (by simp)⟩
  | .str s, _, x, _, _ => by
    cases x
    exact ⟨[], trivial, fun a m => absurd m (by simp)⟩
  | .bytes b, _, x, _, _ => by
    cases x
    exact ⟨[], trivial, fun a m => absurd m (by simp)⟩
  | .list ds, _, x, p, z => by
    obtain ⟨a, vs, rfl, ho, dF⟩ := yo x
    have z2 : WData.weightAll ds <= 1048576 := z
    obtain ⟨A, h1, h2⟩ := qm ds _ dF p fun d hd => VH (oQ hd) z2
    have k : ∀ b ∈ A, b ∈ a :: A := fun b hb => Vs _ hb
    refine ⟨a :: A, Vv .., fun b hb => ?_⟩
    rcases mem_cons.mp hb with e | m
    . rw [e]
      exact ⟨vs, Ej (by rw [iP dF]; exact VH (PySem.W.length_le_weightAllW ds) z2), fun u hu => (h1 u hu).mono k, .inl ho⟩
    . exact (h2 b m).mono k
  | .tuple ds, _, x, p, z => by
    obtain ⟨a, vs, rfl, ho, dF⟩ := u6 x
    have z2 : WData.weightAll ds <= 1048576 := z
    obtain ⟨A, h1, h2⟩ := qm ds _ dF p fun d hd => VH (oQ hd) z2
    have k : ∀ b ∈ A, b ∈ a :: A := fun b hb => Vs _ hb
    refine ⟨a :: A, Vv .., fun b hb => ?_⟩
    rcases mem_cons.mp hb with e | m
    . rw [e]
      exact ⟨vs, Ej (by rw [iP dF]; exact VH (PySem.W.length_le_weightAllW ds) z2), fun u hu => (h1 u hu).mono k, .inr ho⟩
    . exact (h2 b m).mono k
  | .float _, _, _, p, _ => noConfusion (show false = true from p)
  | .dict _, _, _, p, _ => noConfusion (show false = true from p)
  | .bytearray _, _, _, p, _ => noConfusion (show false = true from p)
  | .set _, _, _, p, _ => noConfusion (show false = true from p)
  | .frozenset _, _, _, p, _ => noConfusion (show false = true from p)
  | .obj _ _, _, _, p, _ => noConfusion (show false = true from p)
theorem qm : ∀ (ds : List WData) (vs : List Value), WellAll P h vs ds -> tu ds = true -> (∀ d ∈ ds, d.weight <= 1048576) -> ∃ A : List Addr, (∀ u ∈ vs, OkU A u) /\ ∀ a ∈ A, my h A a
  | [], _, x, _, _ => by
    cases x
    exact ⟨[], fun u m => absurd m (by simp), fun a m => absurd m (by simp)⟩
  | d :: ds, _, x, p, z => by
    obtain ⟨v, vs, rfl, x1, x2⟩ := yp x
    have q : plW d = true /\ tu ds = true := and_eq_true_iff.mp p
    obtain ⟨A, a1, a2⟩ := Gv d v x1 q.1 (z d (Vv ..))
    obtain ⟨B, b1, b2⟩ := qm ds vs x2 q.2 fun e he => z e (Vs _ he)
    have kA : ∀ b ∈ A, b ∈ A ++ B := fun b hb => mem_append.mpr (.inl hb)
    have kB : ∀ b ∈ B, b ∈ A ++ B := fun b hb => mem_append.mpr (.inr hb)
    refine ⟨A ++ B, fun u hu => ?_, fun b hb => ?_⟩
    . rcases mem_cons.mp hu with e | m
      . rw [e]
        exact a1.mono kA
      . exact (b1 u m).mono kB
    . rcases mem_append.mp hb with m | m
      . exact (a2 b m).mono kA
      . exact (b2 b m).mono kB
end
end
def Iq (o : Obj) : Option HO := match o.data with
  | .seq vs _ => if (o.cls == Value.type "list") = true then some (.frz o (.lst (vs.toList.map toV))) else some (.frz o (.tup (vs.toList.map toV)))
  | _ => none
def iI (K : FG) (h : Heap) (A : List Addr) : Hp := fun b => if b ∈ A then (if (K.lookup b).isNone = true then (h.get? b).bind Iq else none) else none
def MX (H : Hp) : Prop := ∀ b, H b = none \/ ∃ o u, H b = some (.frz o u)
theorem A2 (vs : List Value) : Iq { cls := .type "list", data := .seq vs.toArray } = some (.frz { cls := .type "list", data := .seq vs.toArray } (.lst (vs.map toV))) := by
  show (if (Value.type "list" == Value.type "list") = true then some (HO.frz { cls := .type "list", data := .seq vs.toArray } (.lst (vs.toArray.toList.map toV))) else some (HO.frz { cls := .type "list", data := .seq vs.toArray } (.tup (vs.toArray.toList.map toV)))) = _
  rw [Vj (beq_self_eq_true _)]
theorem A3 (vs : List Value) : Iq { cls := .type "tuple", data := .seq vs.toArray } = some (.frz { cls := .type "tuple", data := .seq vs.toArray } (.tup (vs.map toV))) := by
  show (if (Value.type "tuple" == Value.type "list") = true then some (HO.frz { cls := .type "tuple", data := .seq vs.toArray } (.lst (vs.toArray.toList.map toV))) else some (HO.frz { cls := .type "tuple", data := .seq vs.toArray } (.tup (vs.toArray.toList.map toV)))) = _
  rw [Vh (by decide)]
section
variable {P : Program} {w : World} {K : FG} {h : Heap} {A : List Addr}
theorem t4 {b : Addr} {o : Obj} (hb : b ∈ A) (hk : K.lookup b = none) (e : h.get? b = some o) : iI K h A b = Iq o := by
  unfold iI
  rw [Vj hb, hk, Vj (show (none : Option Obj).isNone = true from rfl), e] <;> rfl
theorem Ir {u : HO} (q : iI K h A b = some u) : b ∈ A /\ K.lookup b = none := by
  unfold iI at q
  by_cases hb : b ∈ A
  . rw [Vj hb] at q
    cases hk : K.lookup b with
    | none => exact ⟨hb, rfl⟩
    | some o =>
      rw [hk, Vh (by simp)] at q
      cases q
  . rw [Vh hb] at q
    cases q
theorem qo (ar : ∀ a ∈ A, my h A a) {u : HO} (q : iI K h A b = some u) : K.lookup b = none /\ ∃ vs : List Value, vs.length <= sizeLine /\ (∀ u ∈ vs, OkU A u) /\
    ((h.get? b = some { cls := .type "list", data := .seq vs.toArray } /\ u = .frz { cls := .type "list", data := .seq vs.toArray } (.lst (vs.map toV))) \/
     (h.get? b = some { cls := .type "tuple", data := .seq vs.toArray } /\ u = .frz { cls := .type "tuple", data := .seq vs.toArray } (.tup (vs.map toV)))) := by
  obtain ⟨hb, hk⟩ := Ir q
  obtain ⟨vs, h1, h2, h3⟩ := ar b hb
  refine ⟨hk, vs, h1, h2, ?_⟩
  rcases h3 with e | e
  . rw [t4 hb hk e, A2] at q
    exact .inl ⟨e, (Option.some.inj q).symm⟩
  . rw [t4 hb hk e, A3] at q
    exact .inr ⟨e, (Option.some.inj q).symm⟩
theorem E2 (ar : ∀ a ∈ A, my h A a) : MX (iI K h A) := fun b => by
  cases q : iI K h A b with
  | none => exact .inl rfl
  | some u =>
    obtain ⟨_, vs, _, _, ⟨_, e⟩ | ⟨_, e⟩⟩ := qo ar q
    . exact .inr ⟨_, _, by rw [e]⟩
    . exact .inr ⟨_, _, by rw [e]⟩
theorem t5 {c c' : Value} {vs us : List Value} (e : (some { cls := c, data := .seq vs.toArray } : Option Obj) = some { cls := c', data := .seq us.toArray }) : c = c' /\ vs = us := by
  have e1 := Option.some.inj e
  have e2 : c = c' := congrArg Obj.cls e1
  have e3 : Data.seq vs.toArray = Data.seq us.toArray := congrArg Obj.data e1
  injection e3 with e4
  refine ⟨e2, ?_⟩
  have e5 := congrArg Array.toList e4
  simpa using e5
theorem PR (KX : K.In h) (ar : ∀ a ∈ A, my h A a) {a : Addr} {vs : List Value} (ha : a ∈ A) (e : h.get? a = some { cls := .type "list", data := .seq vs.toArray }) : (∀ u ∈ vs, OkU A u) /\ SqL K (iI K h A) a (vs.map toV) := by
  obtain ⟨us, h1, h2, h3⟩ := ar a ha
  have hu : us = vs := by
    rcases h3 with q | q
    . rw [e] at q
      exact (t5 q).2.symm
    . rw [e] at q
      exact absurd (Value.type.inj (t5 q).1) (by decide)
  subst hu
  refine ⟨h2, ?_⟩
  cases hk : K.lookup a with
  | none => exact .inl (.inr ⟨_, by rw [t4 ha hk e, A2]⟩)
  | some o =>
    have e2 := KX a o hk
    rw [e] at e2
    obtain rfl := Option.some.inj e2
    exact .inr ⟨_, us.toArray, _, hk, rfl, rfl, rfl, by rw [Vx]; exact h1, by simpa using jR h2⟩
theorem PU (KX : K.In h) (ar : ∀ a ∈ A, my h A a) {a : Addr} {vs : List Value} (ha : a ∈ A) (e : h.get? a = some { cls := .type "tuple", data := .seq vs.toArray }) : (∀ u ∈ vs, OkU A u) /\ SqT K (iI K h A) a (vs.map toV) := by
  obtain ⟨us, h1, h2, h3⟩ := ar a ha
  have hu : us = vs := by
    rcases h3 with q | q
    . rw [e] at q
      exact absurd (Value.type.inj (t5 q).1) (by decide)
    . rw [e] at q
      exact (t5 q).2.symm
  subst hu
  refine ⟨h2, ?_⟩
  cases hk : K.lookup a with
  | none => exact .inl (.inr ⟨_, by rw [t4 ha hk e, A3]⟩)
  | some o =>
    have e2 := KX a o hk
    rw [e] at e2
    obtain rfl := Option.some.inj e2
    exact .inr ⟨_, us.toArray, _, hk, rfl, rfl, by rw [Vx]; exact h1, by simpa using jR h2⟩
mutual
theorem KZ {Pm : Params} (KX : K.In h) (ar : ∀ a ∈ A, my h A a) : ∀ (d : WData) (v : Value), Well Pm h v d -> plW d = true -> OkU A v -> Dw K (iI K h A) (toV v) d
  | .none, _, x, _, _ => by
    cases x
    exact .non
  | .bool b, _, x, _, _ => by
    cases x
    exact .bl b
  | .int i, _, x, _, _ => by
    cases x
    exact .int i
  | .str s, _, x, _, _ => by
    cases x
    exact .str s
  | .bytes b, _, x, _, _ => by
    cases x
    have z := Dw.Aw (K := K) (H := iI K h A) b.toArray
    exact z
  | .list ds, _, x, p, hu => by
    obtain ⟨a, vs, rfl, ho, dF⟩ := yo x
    obtain ⟨h2, hs⟩ := PR KX ar hu ho
    exact .lst hs (yZ KX ar ds _ dF p h2)
  | .tuple ds, _, x, p, hu => by
    obtain ⟨a, vs, rfl, ho, dF⟩ := u6 x
    obtain ⟨h2, hs⟩ := PU KX ar hu ho
    exact .tup hs (yZ KX ar ds _ dF p h2)
  | .float _, _, _, p, _ => noConfusion (show false = true from p)
  | .dict _, _, _, p, _ => noConfusion (show false = true from p)
  | .bytearray _, _, _, p, _ => noConfusion (show false = true from p)
  | .set _, _, _, p, _ => noConfusion (show false = true from p)
  | .frozenset _, _, _, p, _ => noConfusion (show false = true from p)
  | .obj _ _, _, _, p, _ => noConfusion (show false = true from p)
theorem yZ {Pm : Params} (KX : K.In h) (ar : ∀ a ∈ A, my h A a) : ∀ (ds : List WData) (vs : List Value), WellAll Pm h vs ds -> tu ds = true -> (∀ u ∈ vs, OkU A u) -> iO K (iI K h A) (vs.map toV) ds
  | [], _, x, _, _ => by
    cases x
    exact .nil
  | d :: ds, _, x, p, hu => by
    obtain ⟨v, vs, rfl, x1, x2⟩ := yp x
    have q : plW d = true /\ tu ds = true := and_eq_true_iff.mp p
    exact .cons (KZ KX ar d v x1 q.1 (hu _ (Vv ..))) (yZ KX ar ds vs x2 q.2 fun u m => hu u (Vs _ m))
end
end
theorem u7 {ds : List WData} (h : WData.layableAll ds = true) : ∀ d ∈ ds, d.weight <= 1048576 := fun d hd =>
  (PySem.W.layableW_iff.mp (all_eq_true.mp h d hd)).2.2
theorem u9 : ∀ (cs : List Codec) (a : Codec.denoteAll cs), (Codec.encAll cs a).length = cs.length
  | [], _ => rfl
  | c :: cs, a => by
    show (Codec.encAll cs a.2).length + 1 = cs.length + 1
    rw [u9 cs a.2]
end L2
end
namespace RV
structure Src where
  tup : Bool
  at_ : Addr
  xs : Array Value
def Src.Has (c : Src) (h : Heap) : Prop := if c.tup = true then h.IsTuple c.at_ c.xs else h.IsList c.at_ c.xs
def Src.It (c : Src) (h : Heap) (i : Addr) (k : Nat) : Prop := if c.tup = true then h.IsTupleIter i c.at_ k else h.IsListIter i c.at_ k
theorem Src.Has.keep {c : Src} {h' : Heap} (x : c.Has h) (k : ∀ o, h.get? c.at_ = some o -> h'.get? c.at_ = some o) : c.Has h' := by
  unfold Src.Has at x ⊢
  split
  . rename_i e
    rw [Vj e] at x
    obtain ⟨o, ho, r⟩ := x
    exact ⟨o, k o ho, r⟩
  . rename_i e
    rw [Vh e] at x
    obtain ⟨o, ho, r⟩ := x
    exact ⟨o, k o ho, r⟩
theorem Src.It.keep {c : Src} {h' : Heap} {n : Nat} (x : c.It h i n) (k : ∀ o, h.get? i = some o -> h'.get? i = some o) : c.It h' i n := by
  unfold Src.It at x ⊢
  split
  . rename_i e
    rw [Vj e] at x
    obtain ⟨o, ho, r⟩ := x
    exact ⟨o, k o ho, r⟩
  . rename_i e
    rw [Vh e] at x
    obtain ⟨o, ho, r⟩ := x
    exact ⟨o, k o ho, r⟩
theorem Src.It.obj {c : Src} {n : Nat} (x : c.It h i n) : ∃ o vs, h.get? i = some o /\ o.data = .fields vs := by
  unfold Src.It at x
  split at x
  . obtain ⟨o, ho, _, d⟩ := x
    exact ⟨o, _, ho, d⟩
  . obtain ⟨o, ho, _, d⟩ := x
    exact ⟨o, _, ho, d⟩
theorem Src.Has.obj {c : Src} (x : c.Has h) : ∃ o, h.get? c.at_ = some o := by
  unfold Src.Has at x
  split at x
  . obtain ⟨o, ho, _⟩ := x
    exact ⟨o, ho⟩
  . obtain ⟨o, ho, _⟩ := x
    exact ⟨o, ho⟩
section
variable {prog : Program} {w : World} {A : Around} {E : Value -> Shared -> Prop} {s : Shared}
theorem wY {i : Nat} {items : Array Value} {x : Value} {Q : Value -> Shared -> Prop} (hit : s.heap.IsTupleIter it t i) (ht : s.heap.IsTuple t items) (hx : items[i]? = some x)
    (hQ : ∀ h', h'.IsTupleIter it t (i + 1) -> Heap.SameBut it s.heap h' -> Q x { s with heap := h' }) : wpAny (model prog w) A (Builtin.SmallTypes.nextOf (.ref it)) Q E s := by
  obtain ⟨o, ho, hc, hd⟩ := id hit
  obtain ⟨ol, PV, _, nl, PX⟩ := ht
  unfold Builtin.SmallTypes.nextOf
  refine Vi (wpAny_callSpecial?_slot (name := Str.ofString "__next__") hit.typeIs F.slot_tuple_iterator_next (wpAny_call_entry F.slot_tuple_iterator_next hit.typeIs F.entry_tuple_iterator_next ?_ (F.args_tuple_iterator_next_1 _)))
  show wpAny _ _ (field (.ref it) 0 >>= _) _ _ s
  refine Vi (V2 ho hd (x := .ref t) rfl ?_)
  rw [Vh (show ¬ ((Value.ref t == Value.none) = true) from VD)]
  refine Vi (V2 ho hd (x := .int i 0) rfl ?_)
  refine Vi (VY PV PX ?_)
  simp only [Int.toNat_natCast, hx]
  refine Vi (wpAny_setField ho hd (by simp) (Vo ⟨x, rfl, Vo (hQ _ ?_ (Heap.SameBut.update ..))⟩))
  exact ⟨_, Wj _ ho (Obj.isFreed_of_fields (Obj.data_mapFields hd _)), (Obj.cls_mapFields ..).trans hc, by rw [Obj.data_mapFields hd]; simp [rawInt]⟩
theorem y6 {i : Nat} {items : Array Value} (hh : A.handled = none) (hit : s.heap.IsTupleIter it t i) (ht : s.heap.IsTuple t items) (hx : items[i]? = none)
    (hE : ∀ h' e, Heap.ExtBut it s.heap h' -> (∃ o, h'.get? e = some o /\ o.cls = .type "StopIteration") -> E (.ref e) { s with heap := h' }) : wpAny (model prog w) A (Builtin.SmallTypes.nextOf (.ref it)) Q E s := by
  obtain ⟨o, ho, hc, hd⟩ := id hit
  obtain ⟨ol, PV, _, nl, PX⟩ := ht
  unfold Builtin.SmallTypes.nextOf
  refine Vi (wpAny_callSpecial?_slot (name := Str.ofString "__next__") hit.typeIs F.slot_tuple_iterator_next (wpAny_call_entry F.slot_tuple_iterator_next hit.typeIs F.entry_tuple_iterator_next ?_ (F.args_tuple_iterator_next_1 _)))
  show wpAny _ _ (field (.ref it) 0 >>= _) _ _ s
  refine Vi (V2 ho hd (x := .ref t) rfl ?_)
  rw [Vh (show ¬ ((Value.ref t == Value.none) = true) from VD)]
  refine Vi (V2 ho hd (x := .int i 0) rfl ?_)
  refine Vi (VY PV PX ?_)
  simp only [Int.toNat_natCast, hx]
  refine Vi (wpAny_rule (Vi (wpAny_setField ho hd (by simp) (Vi ?_))))
  simp only [newExc, newTuple]
  refine Vi (wpAny_newObj_type ?_ (by size_fits))
  refine Vi (m := firstArgMember _ _) (wpAny_of_eq (a := Value.none) (by first | rfl | (simp only [firstArgMember]; rfl)) ?_)
  refine wpAny_newObj_type ?_ (by size_fits)
  simp only [raiseNew]
  refine Vi (wpAny_handled ?_)
  first | rw [show A.in1.handled = none from hh] | rw [hh]
  exact Vi (Vo (wpAny_throw (hE _ _ (((Heap.SameBut.update ..).extBut.push _).push _) ⟨_, VA _ rfl, rfl⟩)))
theorem Src.item {c : Src} {k : Nat} {x : Value} {Q : Value -> Shared -> Prop} (hi : c.It s.heap i k) (hc : c.Has s.heap) (hx : c.xs[k]? = some x) (hQ : ∀ h', c.It h' i (k + 1) -> Heap.SameBut i s.heap h' -> Q x { s with heap := h' }) :
    wpAny (model prog w) A (Builtin.SmallTypes.nextOf (.ref i)) Q E s := by
  unfold Src.It at hi hQ
  unfold Src.Has at hc
  split at hi
  . rename_i e
    rw [Vj e] at hc
    exact wY hi hc hx fun h' a b => hQ h' (by rw [Vj e]; exact a) b
  . rename_i e
    rw [Vh e] at hc
    exact wpAny_nextOf_list_item hi hc hx fun h' a b => hQ h' (by rw [Vh e]; exact a) b
theorem Src.done {c : Src} {k : Nat} (hh : A.handled = none) (hi : c.It s.heap i k) (hc : c.Has s.heap) (hx : c.xs[k]? = none)
    (hE : ∀ h' e, Heap.ExtBut i s.heap h' -> (∃ o, h'.get? e = some o /\ o.cls = .type "StopIteration") -> E (.ref e) { s with heap := h' }) : wpAny (model prog w) A (Builtin.SmallTypes.nextOf (.ref i)) Q E s := by
  unfold Src.It at hi
  unfold Src.Has at hc
  split at hi
  . rename_i e
    rw [Vj e] at hc
    exact y6 hh hi hc hx hE
  . rename_i e
    rw [Vh e] at hc
    exact wpAny_nextOf_list_end hh hi hc hx hE
end
structure ZA (z TI TO : Addr) (aK : List Addr) (cs : List Src) : Prop where
  zTI : TI ≠ z
  zTO : TO ≠ z
  TIO : TI ≠ TO
  iz : ∀ i ∈ aK, i ≠ z
  iTI : ∀ i ∈ aK, i ≠ TI
  iTO : ∀ i ∈ aK, i ≠ TO
  nd : aK.Nodup
  cz : ∀ c ∈ cs, c.at_ ≠ z
  cTO : ∀ c ∈ cs, c.at_ ≠ TO
  ci : ∀ c ∈ cs, c.at_ ∉ aK
  len : aK.length = cs.length
abbrev gB (vs : Array Value) : Obj := { cls := .type "tuple", data := .seq vs }
structure ZSt (h : Heap) (z TI TO : Addr) (aK : List Addr) (cs : List Src) (k : Nat) (f0 : Value) : Prop where
  zip : IsZip h z TI TO f0
  ti : h.get? TI = some (gB (aK.map Value.ref).toArray)
  to : ∃ ts : Array Value, ts.size = aK.length /\ h.get? TO = some (gB ts)
  it : ∀ (m : Nat) (i : Addr) (c : Src), aK[m]? = some i -> cs[m]? = some c -> c.It h i k
theorem JJ {l : List Addr} (hN : l.Nodup) {i j : Nat} {x : Addr} (a : l[i]? = some x) (b : l[j]? = some x) : i = j := by
  obtain ⟨h1, e1⟩ := List.getElem?_eq_some_iff.mp a
  obtain ⟨h2, e2⟩ := List.getElem?_eq_some_iff.mp b
  exact (List.getElem_inj hN).mp (e1.trans e2.symm)
section
variable {prog : Program} {w : World} {A : Around} {E : Value -> Shared -> Prop} {s : Shared} {z TI TO : Addr} {aK : List Addr} {cs : List Src} {k : Nat}
structure CG (h₀ h : Heap) (z TI TO : Addr) (aK : List Addr) (cs : List Src) (k j : Nat) (vs : List Value) : Prop where
  size : h.objs.size = h₀.objs.size
  zip : IsZip h z TI TO .ellipsis
  to : ∃ ts : Array Value, ts.size = aK.length /\ h.get? TO = some (gB ts) /\ ∀ m, m < j -> ts[m]? = vs[m]?
  old : ∀ (m : Nat) (i : Addr) (c : Src), aK[m]? = some i -> cs[m]? = some c -> j <= m -> c.It h i k
  new : ∀ (m : Nat) (i : Addr) (c : Src), aK[m]? = some i -> cs[m]? = some c -> m < j -> c.It h i (k + 1)
  kept : ∀ b o, b ≠ z -> b ≠ TO -> b ∉ aK -> h₀.get? b = some o -> h.get? b = some o
theorem CG.step {j : Nat} {i : Addr} {c : Src} {x : Value} {ts : Array Value} (D : ZA z TI TO aK cs) (M : CG h₀ h z TI TO aK cs k j vs) (hi : aK[j]? = some i) (hc : cs[j]? = some c) (hv : vs[j]? = some x)
    (i2 : c.It h2 i (k + 1)) (s2 : Heap.SameBut i h h2) (HH : ts.size = aK.length) (h2TO : h2.get? TO = some (gB ts)) (y8 : ∀ m, m < j -> ts[m]? = vs[m]?) (s3 : Heap.SameBut TO h2 h3) (hT : h3.get? TO = some (gB (ts.setIfInBounds j x))) :
    CG h₀ h3 z TI TO aK cs k (j + 1) vs := by
  have hm : i ∈ aK := VG hi
  have hj : j < aK.length := (List.getElem?_eq_some_iff.mp hi).1
  refine ⟨by rw [s3.1, s2.1]; exact M.size, (s3.2 _ (Ne.symm D.zTO)).trans ((s2.2 _ (Ne.symm (D.iz i hm))).trans M.zip), ⟨_, by simpa using HH, hT, fun m cN => ?_⟩, fun m i' c' e1 e2 hle => ?_, fun m i' c' e1 e2 cN => ?_, fun b o n1 n2 n3 e => ?_⟩
  . by_cases e : m = j
    . subst e
      rw [hv, Array.getElem?_setIfInBounds_self_of_lt (by omega)]
    . rw [Array.getElem?_setIfInBounds_ne (fun q => e q.symm)]
      exact y8 m (by omega)
  . have ne : i' ≠ i := fun q => by
      have := JJ D.nd e1 (by rw [q]; exact hi)
      omega
    exact (M.old m i' c' e1 e2 (by omega)).keep fun o e => (s3.2 _ (D.iTO i' (VG e1))).trans ((s2.2 _ ne).trans e)
  . by_cases e : m = j
    . subst e
      rw [hi] at e1
      rw [hc] at e2
      cases e1
      cases e2
      exact i2.keep fun o e => (s3.2 _ (D.iTO i hm)).trans e
    . have ne : i' ≠ i := fun q => e (JJ D.nd e1 (by rw [q]; exact hi))
      exact (M.new m i' c' e1 e2 (by omega)).keep fun o e => (s3.2 _ (D.iTO i' (VG e1))).trans ((s2.2 _ ne).trans e)
  . exact (s3.2 b n2).trans ((s2.2 b (fun q => n3 (by rw [q]; exact hm))).trans (M.kept b o n1 n2 n3 e))
theorem Ek {T : Addr} {ts : Array Value} {j : Nat} {Q : Unit -> Shared -> Prop} (hT : s.heap.get? T = some (gB ts)) (hz : ts.size <= 100)
    (h : ∀ h', h'.get? T = some (gB (ts.setIfInBounds j x)) -> Heap.SameBut T s.heap h' -> Q () { s with heap := h' }) : wpAny (model prog w) A (updateSeq T (·.setIfInBounds j x)) Q E s := by
  refine wpAny_updateSeq hT rfl (h _ ?_ (Heap.SameBut.update ..)) (by rw [Vr]; omega) (by rw [Array.size_setIfInBounds, Vr]; omega)
  rw [Wj _ hT rfl]
  simp [Obj.mapSeq, gB]
theorem E3 {vs : List Value} {Q : Value -> Shared -> Prop} (D : ZA z TI TO aK cs) (hn : 0 < aK.length) (z7 : aK.length <= 100) (st : ZSt s.heap z TI TO aK cs k .none) (has : ∀ c ∈ cs, c.Has s.heap) (hl : vs.length = aK.length) (hx : ∀ (m : Nat) (c : Src), cs[m]? = some c -> c.xs[k]? = vs[m]?)
    (hQ : ∀ h', ZSt h' z TI TO aK cs (k + 1) (rawInt s.heap.objs.size) -> h'.get? s.heap.objs.size = some (gB vs.toArray) -> h'.objs.size = s.heap.objs.size + 1 -> (∀ b o, b ≠ z -> b ≠ TO -> b ∉ aK -> s.heap.get? b = some o -> h'.get? b = some o) -> Q (.ref s.heap.objs.size) { s with heap := h' }) :
    wpAny (model prog w) A (Builtin.«zip.__next__» ⟨[.ref z], []⟩) (fun fin s' => ∃ v, fin = .done (.ret v) /\ Q v s') E s := by
  obtain ⟨hz, HI, ⟨PY, K0, Iu⟩, hit⟩ := st
  show wpAny _ _ (field (.ref z) 2 >>= _) _ _ _
  refine Vi (V2 hz rfl (x := .bool false) rfl ?_)
  show wpAny _ _ (field (.ref z) 3 >>= _) _ _ _
  refine Vi (V2 hz rfl (x := .ref TI) rfl ?_)
  refine Vi (VY HI rfl ?_)
  have K1 : ((aK.map Value.ref).toArray).isEmpty = false := by
    cases aK with
    | nil => simp at hn
    | cons _ _ => rfl
  simp only [K1, V3, if_false]
  show wpAny _ _ (Builtin.SmallTypes.ownedTupleIsFree (.ref z) >>= _) _ _ _
  refine Vi ?_
  unfold Builtin.SmallTypes.ownedTupleIsFree
  refine Vi (V2 hz rfl (x := .none) rfl (Vo ?_))
  simp only [if_true]
  refine Vi (wpAny_rule ?_)
  refine Vi (V2 hz rfl (x := .ref TO) rfl ?_)
  refine Vi (wpAny_setField_rec hz (by simp) fun h1 K2 A4 => ?_)
  replace K2 : IsZip h1 z TI TO .ellipsis := K2
  have M0 : CG s.heap h1 z TI TO aK cs k 0 vs := ⟨A4.1, K2, ⟨PY, K0, (A4.2 _ D.zTO).trans Iu, fun m hm => absurd hm (VJ _)⟩, fun m i c e1 e2 _ => (hit m i c e1 e2).keep fun o e => (A4.2 _ (D.iz i (VG e1))).trans e, fun m _ _ _ _ hm => absurd hm (VJ _), fun b o n1 _ _ e => (A4.2 b n1).trans e⟩
  refine Vi (wpAny_forIn_list _ (fun rest b s' => b.1 = none /\ ∃ j h', j <= aK.length /\ rest = ((aK.map Value.ref).drop j).zipIdx j /\ s' = { s with heap := h' } /\ CG s.heap h' z TI TO aK cs k j vs) _ ?turn ?fin _ _ ?init)
  case init =>
    refine ⟨rfl, 0, h1, VF _, ?_, rfl, M0⟩
    simp
  case turn =>
    rintro ⟨iv, m⟩ rest b s' ⟨hb, j, h', hj, hr, rfl, M⟩
    have cN : j < aK.length := by
      apply Classical.byContradiction
      intro q
      have : (aK.map Value.ref).drop j = [] := List.drop_eq_nil_iff.mpr (by rw [Vg]; omega)
      rw [this] at hr
      cases hr
    have hd : (aK.map Value.ref).drop j = Value.ref aK[j] :: (aK.map Value.ref).drop (j + 1) := by
      rw [V8 (by rw [Vg]; exact cN), getElem_map]
    rw [hd, zipIdx_cons] at hr
    injection hr with PZ P0
    injection PZ with e1 e2
    subst e1 e2
    have hi : aK[m]? = some aK[m] := Vl cN
    obtain ⟨c, hc⟩ : ∃ c, cs[m]? = some c := ⟨_, Vl (by have := D.len; omega)⟩
    obtain ⟨x, hv⟩ : ∃ x, vs[m]? = some x := ⟨_, Vl (by omega)⟩
    have P1 : c.xs[k]? = some x := (hx m c hc).trans hv
    have cm := VG hc
    have Iv : c.Has h' := (has c cm).keep fun o e => M.kept _ o (D.cz c cm) (D.cTO c cm) (D.ci c cm) e
    obtain ⟨ts, HH, Mn, y8⟩ := M.to
    refine Vi (wpAny_onRaise ?_)
    show wpAny _ _ (Builtin.SmallTypes.nextOf (.ref aK[m]) >>= _) _ _ _
    refine Vi (Src.item (M.old m _ c hi hc (Vq _)) Iv P1 fun h2 i2 s2 => Vo ?_)
    have E1 : h2.get? TO = some (gB ts) := (s2.2 _ (Ne.symm (D.iTO _ (getElem_mem cN)))).trans Mn
    refine Vi (VY E1 rfl ?_)
    refine Vi (Ek E1 (by omega) fun h3 P4 s3 => ?_)
    refine Vi (wpAny_letGo (Vo ⟨rfl, m + 1, h3, cN, P0, rfl, M.step D hi hc hv i2 s2 HH E1 y8 s3 P4⟩))
  case fin =>
    rintro ⟨b1, b2⟩ s' ⟨hb, j, h', hj, hr, rfl, M⟩
    have P5 : j = aK.length := by
      apply Classical.byContradiction
      intro q
      have cN : j < aK.length := by omega
      rw [V8 (by rw [Vg]; exact cN), zipIdx_cons] at hr
      cases hr
    subst P5
    simp only at hb
    subst hb
    obtain ⟨ts, HH, Mn, y8⟩ := M.to
    have RG : ts.toList = vs := by
      apply V0
      intro m
      rw [getElem?_toList]
      by_cases hm : m < aK.length
      . exact y8 m hm
      . rw [Array.getElem?_eq_none (by omega), VL (by omega)]
    refine Vi (VY Mn rfl ?_)
    refine Vi (wpAny_newTuple ?_ (by rw [RG, hl, Vr]; omega))
    have MY : z < h'.objs.size := Vu M.zip
    show wpAny _ _ (Builtin.SmallTypes.ownedTupleHandOut (.ref z) (.ref h'.objs.size) >>= _) _ _ _
    refine Vi ?_
    unfold Builtin.SmallTypes.ownedTupleHandOut
    have Tq : IsZip (h'.push (gB ts.toList.toArray)) z TI TO .ellipsis := Vm _ M.zip
    refine Vi (wpAny_setField_rec Tq (by simp) fun h7 P6 P7 => ?_)
    replace P6 : IsZip h7 z TI TO (rawInt h'.objs.size) := P6
    refine wpAny_setField_rec P6 (by simp) fun h8 OA P8 => ?_
    replace OA : IsZip h8 z TI TO (rawInt h'.objs.size) := OA
    have up : ∀ b o, b ≠ z -> h'.get? b = some o -> h8.get? b = some o := fun b o n1 e => (P8.2 b n1).trans ((P7.2 b n1).trans (Vm _ e))
    have P9 : h8.get? h'.objs.size = some (gB ts.toList.toArray) := (P8.2 _ (ne_of_gt MY)).trans ((P7.2 _ (ne_of_gt MY)).trans (VA _ rfl))
    have MZ : h8.objs.size = h'.objs.size + 1 := by rw [P8.1, P7.1, VE]
    refine Vo ⟨_, rfl, ?_⟩
    have Qc : h'.get? TI = some (gB (aK.map Value.ref).toArray) := M.kept TI _ D.zTI D.TIO (fun q => D.iTI TI q rfl) HI
    rw [M.size] at OA P9 MZ ⊢
    rw [RG] at P9
    exact hQ h8 ⟨OA, up TI _ D.zTI Qc, ⟨ts, HH, up TO _ D.zTO Mn⟩, fun m i c e1 e2 => (M.new m i c e1 e2 (List.getElem?_eq_some_iff.mp e1).1).keep fun o e => up i o (D.iz i (VG e1)) e⟩ P9 MZ fun b o n1 n2 n3 e => up b o n1 (M.kept b o n1 n2 n3 e)
theorem Gw {m : Nat} {vs : List Value} {Q : PySem.Fin -> Shared -> Prop} (hh : A.handled = none) (D : ZA z TI TO aK cs) (z7 : aK.length <= 100) (st : ZSt s.heap z TI TO aK cs k .none) (has : ∀ c ∈ cs, c.Has s.heap) (hm : m < aK.length) (hl : m <= vs.length)
    (hx : ∀ (j : Nat) (c : Src), cs[j]? = some c -> j < m -> c.xs[k]? = vs[j]?) (Gx : ∀ c : Src, cs[m]? = some c -> c.xs[k]? = none)
    (hE : ∀ h' e, (∀ b o, b ≠ z -> b ≠ TO -> b ∉ aK -> s.heap.get? b = some o -> h'.get? b = some o) -> (∃ o, h'.get? e = some o /\ o.cls = .type "StopIteration") -> E (.ref e) { s with heap := h' }) :
    wpAny (model prog w) A (Builtin.«zip.__next__» ⟨[.ref z], []⟩) Q E s := by
  obtain ⟨hz, HI, ⟨PY, K0, Iu⟩, hit⟩ := st
  show wpAny _ _ (field (.ref z) 2 >>= _) _ _ _
  refine Vi (V2 hz rfl (x := .bool false) rfl ?_)
  show wpAny _ _ (field (.ref z) 3 >>= _) _ _ _
  refine Vi (V2 hz rfl (x := .ref TI) rfl ?_)
  refine Vi (VY HI rfl ?_)
  have K1 : ((aK.map Value.ref).toArray).isEmpty = false := by
    cases aK with
    | nil => simp at hm
    | cons _ _ => rfl
  simp only [K1, V3, if_false]
  show wpAny _ _ (Builtin.SmallTypes.ownedTupleIsFree (.ref z) >>= _) _ _ _
  refine Vi ?_
  unfold Builtin.SmallTypes.ownedTupleIsFree
  refine Vi (V2 hz rfl (x := .none) rfl (Vo ?_))
  simp only [if_true]
  refine Vi (wpAny_rule ?_)
  refine Vi (V2 hz rfl (x := .ref TO) rfl ?_)
  refine Vi (wpAny_setField_rec hz (by simp) fun h1 K2 A4 => ?_)
  replace K2 : IsZip h1 z TI TO .ellipsis := K2
  have M0 : CG s.heap h1 z TI TO aK cs k 0 vs := ⟨A4.1, K2, ⟨PY, K0, (A4.2 _ D.zTO).trans Iu, fun m hm => absurd hm (VJ _)⟩, fun m i c e1 e2 _ => (hit m i c e1 e2).keep fun o e => (A4.2 _ (D.iz i (VG e1))).trans e, fun m _ _ _ _ hm => absurd hm (VJ _), fun b o n1 _ _ e => (A4.2 b n1).trans e⟩
  refine Vi (wpAny_forIn_list _ (fun rest b s' => b.1 = none /\ ∃ j h', j <= m /\ rest = ((aK.map Value.ref).drop j).zipIdx j /\ s' = { s with heap := h' } /\ CG s.heap h' z TI TO aK cs k j vs) _ ?turn ?fin _ _ ?init)
  case init =>
    refine ⟨rfl, 0, h1, VF _, ?_, rfl, M0⟩
    simp
  case turn =>
    rintro ⟨iv, q⟩ rest b s' ⟨hb, j, h', hj, hr, rfl, M⟩
    have cN : j < aK.length := by omega
    have hd : (aK.map Value.ref).drop j = Value.ref aK[j] :: (aK.map Value.ref).drop (j + 1) := by
      rw [V8 (by rw [Vg]; exact cN), getElem_map]
    rw [hd, zipIdx_cons] at hr
    injection hr with PZ P0
    injection PZ with e1 e2
    subst e1 e2
    have hi : aK[q]? = some aK[q] := Vl cN
    obtain ⟨c, hc⟩ : ∃ c, cs[q]? = some c := ⟨_, Vl (by have := D.len; omega)⟩
    have cm := VG hc
    have Iv : c.Has h' := (has c cm).keep fun o e => M.kept _ o (D.cz c cm) (D.cTO c cm) (D.ci c cm) e
    have im : aK[q] ∈ aK := getElem_mem cN
    by_cases Tr : q = m
    . subst Tr
      refine Vi (wpAny_onRaise ?_)
      show wpAny _ _ (Builtin.SmallTypes.nextOf (.ref aK[q]) >>= _) _ _ _
      refine Vi (Src.done hh (M.old q _ c hi hc (Vq _)) Iv (Gx c hc) fun h2 e s2 he => ?_)
      obtain ⟨oe, Qe, Ow⟩ := he
      have RH : IsZip h2 z TI TO .ellipsis := s2 _ _ (Ne.symm (D.iz _ im)) M.zip
      have Ts : e ≠ z := fun x => by subst x; rw [RH] at Qe; cases Qe; simp at Ow
      refine wpAny_setField_rec RH (by simp) fun h3 _ MQ => hE h3 e (fun b o n1 n2 n3 x => (MQ.2 b n1).trans (s2 b o (fun y => n3 (by rw [y]; exact im)) (M.kept b o n1 n2 n3 x))) ⟨oe, (MQ.2 _ Ts).trans Qe, Ow⟩
    . have M1 : q < m := by omega
      obtain ⟨x, hv⟩ : ∃ x, vs[q]? = some x := ⟨_, Vl (by omega)⟩
      have P1 : c.xs[k]? = some x := (hx q c hc M1).trans hv
      obtain ⟨ts, HH, Mn, y8⟩ := M.to
      refine Vi (wpAny_onRaise ?_)
      show wpAny _ _ (Builtin.SmallTypes.nextOf (.ref aK[q]) >>= _) _ _ _
      refine Vi (Src.item (M.old q _ c hi hc (Vq _)) Iv P1 fun h2 i2 s2 => Vo ?_)
      have E1 : h2.get? TO = some (gB ts) := (s2.2 _ (Ne.symm (D.iTO _ im))).trans Mn
      refine Vi (VY E1 rfl ?_)
      refine Vi (Ek E1 (by omega) fun h3 P4 s3 => ?_)
      refine Vi (wpAny_letGo (Vo ⟨rfl, q + 1, h3, M1, P0, rfl, M.step D hi hc hv i2 s2 HH E1 y8 s3 P4⟩))
  case fin =>
    rintro b s' ⟨hb, j, h', hj, hr, rfl, M⟩
    rw [V8 (by rw [Vg]; omega), zipIdx_cons] at hr
    cases hr
theorem CH {vs : List Value} {Q : Option Value -> Shared -> Prop} (D : ZA z TI TO aK cs) (hn : 0 < aK.length) (z7 : aK.length <= 100) (st : ZSt s.heap z TI TO aK cs k .none) (has : ∀ c ∈ cs, c.Has s.heap) (hl : vs.length = aK.length) (hx : ∀ (m : Nat) (c : Src), cs[m]? = some c -> c.xs[k]? = vs[m]?)
    (hQ : ∀ h', ZSt h' z TI TO aK cs (k + 1) (rawInt s.heap.objs.size) -> h'.get? s.heap.objs.size = some (gB vs.toArray) -> h'.objs.size = s.heap.objs.size + 1 -> (∀ b o, b ≠ z -> b ≠ TO -> b ∉ aK -> s.heap.get? b = some o -> h'.get? b = some o) -> Q (some (.ref s.heap.objs.size)) { s with heap := h' }) :
    wpAny (model prog w) A (pyNext (.ref z)) Q E s := by
  have hT : s.TypeIs (.ref z) "zip" := ⟨_, st.zip, rfl⟩
  unfold pyNext
  exact Vi (wpAny_attempt (wpAny_callSpecial?_slot (name := Str.ofString "__next__") hT F.slot_zip_next
    (wpAny_call_entry F.slot_zip_next hT F.entry_zip_next (E3 D hn z7 st has hl hx fun h' a1 a2 a3 a4 => Vo (hQ h' a1 a2 a3 a4)) (F.args_zip_next_1 _))))
theorem E4 {m : Nat} {vs : List Value} {Q : Option Value -> Shared -> Prop} (hh : A.handled = none) (D : ZA z TI TO aK cs) (z7 : aK.length <= 100) (st : ZSt s.heap z TI TO aK cs k .none) (has : ∀ c ∈ cs, c.Has s.heap) (hm : m < aK.length) (hl : m <= vs.length)
    (hx : ∀ (j : Nat) (c : Src), cs[j]? = some c -> j < m -> c.xs[k]? = vs[j]?) (Gx : ∀ c : Src, cs[m]? = some c -> c.xs[k]? = none)
    (hQ : ∀ h', (∀ b o, b ≠ z -> b ≠ TO -> b ∉ aK -> s.heap.get? b = some o -> h'.get? b = some o) -> Q none { s with heap := h' }) : wpAny (model prog w) A (pyNext (.ref z)) Q E s := by
  have hT : s.TypeIs (.ref z) "zip" := ⟨_, st.zip, rfl⟩
  unfold pyNext
  refine Vi (wpAny_attempt (wpAny_callSpecial?_slot (name := Str.ofString "__next__") hT F.slot_zip_next
    (wpAny_call_entry F.slot_zip_next hT F.entry_zip_next (Gw (A := A.in1) hh D z7 st has hm hl hx Gx fun h' e hk he => ?_) (F.args_zip_next_1 _))))
  obtain ⟨o, ho, hc⟩ := he
  exact Vi (wpAny_isInstance (T := "StopIteration") (b := true) ⟨o, ho, hc⟩ isSubtype_stop (Vo (hQ _ hk)))
theorem goZ {elts : List Expr} {x1 : Nat} {pos : Pos} {T : Addr} {Q : Unit -> Shared -> Prop} (D : ZA z TI TO aK cs) (st : ZSt s.heap z TI TO aK cs k (rawInt T)) (hQ : ∀ h', ZSt h' z TI TO aK cs k .none -> Heap.SameBut z s.heap h' -> Q () { s with heap := h' }) :
    wpAny (model prog w) A (letOwnedTupleGo (.Tuple elts x1 pos) (.ref z) (.ref T)) Q E s := by
  obtain ⟨hz, HI, ⟨ts, HH, Iu⟩, hit⟩ := st
  exact wpAny_letOwnedTupleGo_zip hz fun h' Rz wL => hQ h' ⟨Rz, (wL.2 _ D.zTI).trans HI, ⟨ts, HH, (wL.2 _ D.zTO).trans Iu⟩, fun m i c e1 e2 => (hit m i c e1 e2).keep fun o e => (wL.2 _ (D.iz i (VG e1))).trans e⟩ wL
end
def Src.jS (c : Src) : Obj := if c.tup = true then { cls := .type "tuple_iterator", data := .fields #[.ref c.at_, .int 0 0] } else { cls := .type "list_iterator", data := .fields #[.ref c.at_, .int 0 0] }
theorem Src.live (c : Src) : c.jS.isFreed = false := by
  unfold Src.jS
  split <;> rfl
theorem Src.iter {s : Shared} {c : Src} {Q : Value -> Shared -> Prop} (hc : c.Has s.heap) (h : Q (.ref s.heap.objs.size) { s with heap := s.heap.push c.jS }) : wpAny (model prog w) A (pyIter (.ref c.at_)) Q E s := by
  unfold Src.Has at hc
  unfold Src.jS at h
  split at hc
  . rename_i e
    rw [Vj e] at h
    exact wpAny_pyIter_tuple hc h
  . rename_i e
    rw [Vh e] at h
    exact wpAny_pyIter_list hc h
theorem Src.mz {c : Src} {h : Heap} {i : Addr} (e : h.get? i = some c.jS) : c.It h i 0 := by
  unfold Src.jS at e
  unfold Src.It
  split
  . rename_i q
    rw [Vj q] at e
    exact ⟨_, e, rfl, rfl⟩
  . rename_i q
    rw [Vh q] at e
    exact ⟨_, e, rfl, rfl⟩
theorem Src.Has.push {c : Src} (x : c.Has h) (o : Obj) : c.Has (h.push o) := x.keep fun _ e => Vm _ e
abbrev zp1 (h : Heap) (c : Src) : Heap := h.push c.jS
abbrev zp2 (h : Heap) (c d : Src) : Heap := (zp1 h c).push d.jS
abbrev zq3 (h : Heap) (c d : Src) : Heap := (zp2 h c d).push { cls := .type "tuple", data := .seq #[.ref h.objs.size, .ref (zp1 h c).objs.size] }
abbrev zq4 (h : Heap) (c d : Src) : Heap := (zq3 h c d).push { cls := .type "tuple", data := .seq #[.none, .none] }
abbrev zq5 (h : Heap) (c d : Src) : Heap := (zq4 h c d).push { cls := .type "zip", data := .fields #[.none, .bool false, .bool false, .ref (zp2 h c d).objs.size, .ref (zq3 h c d).objs.size] }
theorem Gy (c d : Src) : Meets (Builtin.«zip.__new__» ⟨[.type "zip", .ref c.at_, .ref d.at_], []⟩) (fun _ R s => c.Has s.heap /\ d.Has s.heap /\ R (.ok (.ret (.ref (zq4 s.heap c d).objs.size))) { s with heap := zq5 s.heap c d }) :=
  .of_wp fun prog w A R s h => by
    obtain ⟨hp, g, dr, tk, os⟩ := s; obtain ⟨h1, h2, h⟩ := h
    have Qg := sub_zip
    have k1 : c.Has (Shared.heap ⟨hp, g, dr, tk, os⟩) := h1
    have k2 : d.Has (Shared.heap ⟨hp.push c.jS, g, dr, tk, os⟩) := h2.push _
    wp_walk using Src.iter k1, Src.iter k2
    exact ⟨_, rfl, h⟩
theorem E5 {s : Shared} {c d : Src} {Q : Value -> Shared -> Prop} (h1 : c.Has s.heap) (h2 : d.Has s.heap)
    (h : ∀ h', ZSt h' (s.heap.objs.size + 4) (s.heap.objs.size + 2) (s.heap.objs.size + 3) [s.heap.objs.size, s.heap.objs.size + 1] [c, d] 0 .none -> (∀ b o, s.heap.get? b = some o -> h'.get? b = some o) -> Q (.ref (s.heap.objs.size + 4)) { s with heap := h' }) :
    wpAny (model prog w) A (call (.type "zip") [.ref c.at_, .ref d.at_]) Q E s := by
  refine callType_new F.called_zip (by decide) (F.typeCall_zip_2 _ _) (F.newCall_zip_2 _ _) (fun obj => F.args_object_init_3 obj _ _) F.entry_zip_new (Gy c d) ⟨h1, h2, ?_⟩
  have z1 : (zp1 s.heap c).objs.size = s.heap.objs.size + 1 := VE ..
  have z2 : (zp2 s.heap c d).objs.size = s.heap.objs.size + 2 := by rw [VE, z1]
  have z3 : (zq3 s.heap c d).objs.size = s.heap.objs.size + 3 := by rw [VE, z2]
  have z4 : (zq4 s.heap c d).objs.size = s.heap.objs.size + 4 := by rw [VE, z3]
  have g5 : (zq5 s.heap c d).get? (zq4 s.heap c d).objs.size = some _ := VA _ rfl
  have g4 : (zq5 s.heap c d).get? (zq3 s.heap c d).objs.size = some _ := Vm _ (VA _ rfl)
  have g3 : (zq5 s.heap c d).get? (zp2 s.heap c d).objs.size = some _ := Vm _ (Vm _ (VA _ rfl))
  have g2 : (zq5 s.heap c d).get? (zp1 s.heap c).objs.size = some _ := Vm _ (Vm _ (Vm _ (VA _ d.live)))
  have g1 : (zq5 s.heap c d).get? s.heap.objs.size = some _ := Vm _ (Vm _ (Vm _ (Vm _ (VA _ c.live))))
  show _ /\ _
  rw [z2, z3, z4] at g5
  rw [z1, z2] at g3
  rw [z3] at g4
  rw [z1] at g2
  rw [z4]
  refine ⟨⟨_, g5, rfl⟩, h _ ⟨g5, g3, ⟨#[.none, .none], rfl, g4⟩, fun m i c' e1 e2 => ?_⟩ fun b o x => Vm _ (Vm _ (Vm _ (Vm _ (Vm _ x))))⟩
  match m, e1, e2 with
  | 0, e1, e2 =>
    cases e1
    cases e2
    exact Src.mz g1
  | 1, e1, e2 =>
    cases e1
    cases e2
    exact Src.mz g2
  | m + 2, e1, e2 => simp at e1
abbrev zp3 (h : Heap) (c d e : Src) : Heap := (zp2 h c d).push e.jS
abbrev zr4 (h : Heap) (c d e : Src) : Heap := (zp3 h c d e).push { cls := .type "tuple", data := .seq #[.ref h.objs.size, .ref (zp1 h c).objs.size, .ref (zp2 h c d).objs.size] }
abbrev zr5 (h : Heap) (c d e : Src) : Heap := (zr4 h c d e).push { cls := .type "tuple", data := .seq #[.none, .none, .none] }
abbrev zr6 (h : Heap) (c d e : Src) : Heap := (zr5 h c d e).push { cls := .type "zip", data := .fields #[.none, .bool false, .bool false, .ref (zp3 h c d e).objs.size, .ref (zr4 h c d e).objs.size] }
theorem Gz (c d e : Src) : Meets (Builtin.«zip.__new__» ⟨[.type "zip", .ref c.at_, .ref d.at_, .ref e.at_], []⟩) (fun _ R s => c.Has s.heap /\ d.Has s.heap /\ e.Has s.heap /\ R (.ok (.ret (.ref (zr5 s.heap c d e).objs.size))) { s with heap := zr6 s.heap c d e }) :=
  .of_wp fun prog w A R s h => by
    obtain ⟨hp, g, dr, tk, os⟩ := s; obtain ⟨h1, h2, h3, h⟩ := h
    have Qg := sub_zip
    have k1 : c.Has (Shared.heap ⟨hp, g, dr, tk, os⟩) := h1
    have k2 : d.Has (Shared.heap ⟨hp.push c.jS, g, dr, tk, os⟩) := h2.push _
    have k3 : e.Has (Shared.heap ⟨(hp.push c.jS).push d.jS, g, dr, tk, os⟩) := (h3.push _).push _
    wp_walk using Src.iter k1, Src.iter k2, Src.iter k3
    exact ⟨_, rfl, h⟩
theorem wZ (a b c : Value) : checkTypeCall "zip" ⟨[a, b, c], []⟩ = pure () := by kernel_rfl
theorem y9 (a b c : Value) : checkBuiltinCall "zip.__new__" ⟨[.type "zip", a, b, c], []⟩ = pure () := by kernel_rfl
theorem CI (a b c d : Value) : argsOk "object.__init__" ⟨[a, b, c, d], []⟩ := by
  unfold argsOk; rw [signature?_of (id := "object.__init__") (n := ['_', '_', 't', 'i', 'n', 'i', '_', '_']) (o := ['t', 'c', 'e', 'j', 'b', 'o']) (by kernel_rfl) F.owner_object]; kernel_rfl
theorem E6 {s : Shared} {c d f : Src} {Q : Value -> Shared -> Prop} (h1 : c.Has s.heap) (h2 : d.Has s.heap) (h3 : f.Has s.heap)
    (h : ∀ h', ZSt h' (s.heap.objs.size + 5) (s.heap.objs.size + 3) (s.heap.objs.size + 4) [s.heap.objs.size, s.heap.objs.size + 1, s.heap.objs.size + 2] [c, d, f] 0 .none -> (∀ b o, s.heap.get? b = some o -> h'.get? b = some o) -> Q (.ref (s.heap.objs.size + 5)) { s with heap := h' }) :
    wpAny (model prog w) A (call (.type "zip") [.ref c.at_, .ref d.at_, .ref f.at_]) Q E s := by
  refine callType_new F.called_zip (by decide) (wZ _ _ _) (y9 _ _ _) (fun obj => CI obj _ _ _) F.entry_zip_new (Gz c d f) ⟨h1, h2, h3, ?_⟩
  have z1 : (zp1 s.heap c).objs.size = s.heap.objs.size + 1 := VE ..
  have z2 : (zp2 s.heap c d).objs.size = s.heap.objs.size + 2 := by rw [VE, z1]
  have z3 : (zp3 s.heap c d f).objs.size = s.heap.objs.size + 3 := by rw [VE, z2]
  have z4 : (zr4 s.heap c d f).objs.size = s.heap.objs.size + 4 := by rw [VE, z3]
  have z5 : (zr5 s.heap c d f).objs.size = s.heap.objs.size + 5 := by rw [VE, z4]
  have g6 : (zr6 s.heap c d f).get? (zr5 s.heap c d f).objs.size = some _ := VA _ rfl
  have g5 : (zr6 s.heap c d f).get? (zr4 s.heap c d f).objs.size = some _ := Vm _ (VA _ rfl)
  have g4 : (zr6 s.heap c d f).get? (zp3 s.heap c d f).objs.size = some _ := Vm _ (Vm _ (VA _ rfl))
  have g3 : (zr6 s.heap c d f).get? (zp2 s.heap c d).objs.size = some _ := Vm _ (Vm _ (Vm _ (VA _ f.live)))
  have g2 : (zr6 s.heap c d f).get? (zp1 s.heap c).objs.size = some _ := Vm _ (Vm _ (Vm _ (Vm _ (VA _ d.live))))
  have g1 : (zr6 s.heap c d f).get? s.heap.objs.size = some _ := Vm _ (Vm _ (Vm _ (Vm _ (Vm _ (VA _ c.live)))))
  show _ /\ _
  rw [z3, z4, z5] at g6
  rw [z1, z2, z3] at g4
  rw [z4] at g5
  rw [z2] at g3
  rw [z1] at g2
  rw [z5]
  refine ⟨⟨_, g6, rfl⟩, h _ ⟨g6, g4, ⟨#[.none, .none, .none], rfl, g5⟩, fun m i c' e1 e2 => ?_⟩ fun b o x => Vm _ (Vm _ (Vm _ (Vm _ (Vm _ (Vm _ x)))))⟩
  match m, e1, e2 with
  | 0, e1, e2 =>
    cases e1
    cases e2
    exact Src.mz g1
  | 1, e1, e2 =>
    cases e1
    cases e2
    exact Src.mz g2
  | 2, e1, e2 =>
    cases e1
    cases e2
    exact Src.mz g3
  | m + 3, e1, e2 => simp at e1
end RV
namespace RV
open L2
abbrev St := L2.St
def jT : HO -> Bool
  | .tbl _ => true
  | _ => false
def yq (c : Addr) (q : Str) : HO := .ext fun h => h.CodeRec (.ref c) q
class bM where
  q : Addr -> Str
def Tab [bM] (H : Hp) (P : Addr) : Prop :=
  ∃ ps, H P = some (.tbl ps) /\ TriplesOk ps.toList /\ ∀ pos cv, codeAmong pos ps.toList = some cv -> ∃ c, cv = .ref c /\ H c = some (yq c (bM.q P))
variable [bM]
structure KpX (F : List Addr) (H H' : Hp) : Prop where
  all : ∀ b o, H b = some o -> jT o = false -> b ∉ F -> H' b = some o
  tab : ∀ t, Tab H t -> Tab H' t
abbrev Kp (H H' : Hp) : Prop := KpX [] H H'
theorem KpX.get (k : KpX F H H') {o : HO} (e : H b = some o) (h : jT o = false := by rfl) (hb : b ∉ F := by simp) : H' b = some o := k.1 b o e h hb
theorem Kp.refl (H : Hp) : Kp H H := ⟨fun _ _ e _ _ => e, fun _ t => t⟩
theorem KpX.trans (a : KpX F H H1) (b : KpX F H1 H2) : KpX F H H2 := ⟨fun c o e h hc => b.1 c o (a.1 c o e h hc) h hc, fun t x => b.2 t (a.2 t x)⟩
theorem KpX.mono {G : List Addr} (a : KpX F H H1) (h : ∀ b ∈ F, b ∈ G) : KpX G H H1 := ⟨fun c o e i hc => a.1 c o e i fun z => hc (h c z), a.2⟩
theorem KpX.x (a : Kp H H1) : KpX F H H1 := KpX.mono a (by simp)
theorem Kp.new {H : Hp} (hp : H p = none) : Kp H (upd H p o) := by
  refine ⟨fun b u e _ _ => by rw [aM (aF e hp)]; exact e, fun t ⟨ps, h1, h2, h3⟩ => ⟨ps, by rw [aM (aF h1 hp)]; exact h1, h2, fun pos cv e => ?_⟩⟩
  obtain ⟨c, h4, h5⟩ := h3 pos cv e
  exact ⟨c, h4, by rw [aM (aF h5 hp)]; exact h5⟩
def CJ : HO -> Bool
  | .tbl _ => false
  | .ext _ => false
  | _ => true
theorem KpX.write {H : Hp} {u : HO} (ha : H a = some u) (hu : CJ u = true) : KpX [a] H (upd H a o) := by
  refine ⟨fun b v e _ hb => by rw [aM (by simpa using hb)]; exact e, fun t ⟨ps, h1, h2, h3⟩ => ⟨ps, ?_, h2, fun pos cv e => ?_⟩⟩
  . rw [aM (eE h1 ha (by intro z; rw [<- z] at hu; cases hu))]; exact h1
  . obtain ⟨c, h4, h5⟩ := h3 pos cv e
    exact ⟨c, h4, by rw [aM (eE h5 ha (by intro z; rw [<- z] at hu; cases hu))]; exact h5⟩
theorem KpX.over {u : HO} (k : Kp H H1) (hn : H a = none) (ha : H1 a = some u) (hu : CJ u = true) : Kp H (upd H1 a o) := by
  have w := KpX.write (o := o) ha hu
  exact ⟨fun b v e i _ => w.1 b v (k.1 b v e i (by simp)) i (by simpa using aF e hn), fun t x => w.2 t (k.2 t x)⟩
theorem KpX.bI {K : FG} (k : KpX F H H') (h : SqL K H a xs) (hF : a ∉ F := by simp) : SqL K H' a xs := by
  rcases h with (h | ⟨o, h⟩) | h
  . exact .inl (.inl (k.1 _ _ h rfl hF))
  . exact .inl (.inr ⟨o, k.1 _ _ h rfl hF⟩)
  . exact .inr h
theorem KpX.tw {K : FG} (k : KpX F H H') (h : SqT K H a xs) (hF : a ∉ F := by simp) : SqT K H' a xs := by
  rcases h with (h | ⟨o, h⟩) | h
  . exact .inl (.inl (k.1 _ _ h rfl hF))
  . exact .inl (.inr ⟨o, k.1 _ _ h rfl hF⟩)
  . exact .inr h
structure Wk (J : It) (g : TG) (n : Nat) (Ok : Hp -> Prop) (put : Nat -> St -> St) : Prop where
  go : ∀ i H, i < n -> Ok H -> J.go i H
  stop : ∀ H, Ok H -> J.stop n H
  step : ∀ i H x H', i < n -> Ok H -> J.yld i H x H' -> ∀ (σ : St) (Qk : St -> Hp -> Prop), (∀ H2, Kp H H2 -> Qk (put i σ) H2) -> g x σ H' Qk
theorem GA {J : It} {n : Nat} {Ok : Hp -> Prop} {put : Nat -> St -> St} {tb : TS} {D : Ends} {H : Hp} (w : Wk J g n Ok put) (Pv : Nat -> St -> Hp -> Prop) (h0 : Pv 0 σ H) (hok : ∀ i σ H, i <= n -> Pv i σ H -> Ok H)
    (hs : ∀ i σ H H2, i < n -> Pv i σ H -> Kp H H2 -> tb { D with nx := Pv (i + 1), ct := Pv (i + 1), bk := D.nx } (put i σ) H2) (hd : ∀ σ H, Pv n σ H -> D.nx σ H) :
    ∃ W : Nat -> Nat -> St -> Hp -> Prop, (∃ m, W 0 m σ H) /\ ∀ i m σ H, W i m σ H ->
      (J.stop i H /\ D.nx σ H) \/ (J.go i H /\ ∃ N : St -> Hp -> Prop, (∀ σ' H', N σ' H' -> ∃ m', m' < m /\ W (i + 1) m' σ' H') /\ ∀ x H', J.yld i H x H' -> g x σ H' fun σ2 H2 => tb { D with nx := N, ct := N, bk := D.nx } σ2 H2) := by
  refine ⟨fun i m σ H => m = n - i /\ i <= n /\ Pv i σ H, ⟨n, by simp, VF _, h0⟩, ?_⟩
  rintro i m σ H ⟨rfl, hi, p⟩
  have q := hok i σ H hi p
  by_cases cN : i < n
  . refine .inr ⟨w.go i H cN q, Pv (i + 1), fun σ' H' p' => ⟨n - (i + 1), by omega, rfl, cN, p'⟩, fun x H' y => ?_⟩
    exact w.step i H x H' cN q y σ _ fun H2 k => hs i σ H H2 cN p k
  . have e : i = n := by omega
    subst e
    exact .inl ⟨w.stop H q, hd σ H p⟩
def cQ (sel : Nat -> Bool) (n : Nat) : List Nat := (range n).filter sel
theorem va (sel : Nat -> Bool) (n : Nat) : cQ sel (n + 1) = cQ sel n ++ (if sel n = true then [n] else []) := by
  unfold cQ
  rw [range_succ, filter_append]
  cases h : sel n <;> simp [h]
theorem jU (sel : Nat -> Bool) (n : Nat) : (cQ sel n).length <= n := by
  unfold cQ
  exact VH (Wf _ _) (by simp)
theorem GB {J : It} {n : Nat} {Ok : Hp -> Prop} {put : Nat -> St -> St} {tt : TT} {te : TE} {vs : List Nat} {H1 : Hp} {Qd : Hp -> Prop} (w : Wk J g n Ok put) (hD : H1 D = none) (hok : ∀ H, Kp H1 H -> Ok H)
    (za : ∀ i, wipe (put i (wipe σ vs)) vs = wipe σ vs) (hn : n < sizeLine) (sel : Nat -> Bool) (R : Nat -> V -> Hp -> Prop) (mono : ∀ i y H H' acc, KpX [D] H H' -> H D = some (.lst acc) -> R i y H -> R i y H')
    (turn : ∀ i H' acc (Ky : V -> Hp -> Prop) (Kf : Hp -> Prop), i < n -> Kp H1 H' -> H' D = some (.lst acc) -> (∀ y H3, Kp H' H3 -> sel i = true -> R i y H3 -> Ky y H3) -> (∀ H3, Kp H' H3 -> sel i = false -> Kf H3) ->
      tt (put i (wipe σ vs)) H' fun b H2 => if b = true then te (put i (wipe σ vs)) H2 Ky else Kf H2)
    (done : ∀ H' ys, Kp H1 H' -> H' D = some (.lst ys) -> Paired (fun i y => R i y H') (cQ sel n) ys -> Qd H') :
    ∃ W : Nat -> Nat -> Hp -> Prop, (∃ m, W 0 m (upd H1 D (.lst []))) /\ ∀ i m H, W i m H ->
      (J.stop i H /\ Qd H) \/ (J.go i H /\ ∃ Nx : Hp -> Prop, (∀ H', Nx H' -> ∃ m', m' < m /\ W (i + 1) m' H') /\ ∀ x H', J.yld i H x H' -> g x (wipe σ vs) H' fun σ2 H2 => wipe σ2 vs = wipe σ vs /\ tt σ2 H2 fun b H3 =>
        if b = true then te σ2 H3 fun y H4 => ∃ acc, H4 D = some (.lst acc) /\ acc.length < sizeLine /\ Nx (upd H4 D (.lst (acc ++ [y]))) else Nx H3) := by
  refine ⟨fun i m H => m = n - i /\ i <= n /\ Kp H1 H /\ ∃ ys, H D = some (.lst ys) /\ Paired (fun i y => R i y H) (cQ sel i) ys, ⟨n, by simp, VF _, Kp.new hD, [], aA, .nil⟩, ?_⟩
  rintro i m H ⟨rfl, hi, k, ys, hl, hp⟩
  have q := hok H k
  have pm : ∀ {l : List Nat} {zs : List V} {Ha Hb : Hp}, Paired (fun i y => R i y Ha) l zs -> (∀ i y, R i y Ha -> R i y Hb) -> Paired (fun i y => R i y Hb) l zs := fun hp f => Paired.uL hp f
  by_cases cN : i < n
  . refine .inr ⟨w.go i H cN q, fun H' => i + 1 <= n /\ Kp H1 H' /\ ∃ ys, H' D = some (.lst ys) /\ Paired (fun i y => R i y H') (cQ sel (i + 1)) ys, fun H' p' => ⟨n - (i + 1), by omega, rfl, p'⟩, fun x H' y => ?_⟩
    refine w.step i H x H' cN q y _ _ fun H2 k2 => ⟨za i, ?_⟩
    have yW : H2 D = some (.lst ys) := k2.get hl
    refine turn i H2 ys _ _ cN (k.trans k2) yW (fun z H3 k3 hs r => ?_) fun H3 k3 hs => ?_
    . have Fw : H3 D = some (.lst ys) := k3.get yW
      have lenY : ys.length = (cQ sel i).length := (Paired.length hp).symm
      refine ⟨ys, Fw, by have := jU sel i; omega, cN, ((k.trans k2).trans k3).over hD Fw rfl, ys ++ [z], aA, ?_⟩
      have kD : KpX [D] H3 (upd H3 D (.lst (ys ++ [z]))) := KpX.write Fw rfl
      rw [va, hs, Vj rfl]
      have h1 : Paired (fun i y => R i y (upd H3 D (.lst (ys ++ [z])))) (cQ sel i) ys := pm hp fun j y r' => mono j y _ _ _ ((k2.trans k3).x.trans kD) hl r'
      have h2 : R i z (upd H3 D (.lst (ys ++ [z]))) := mono i z _ _ _ kD Fw r
      have app : ∀ {l : List Nat} {zs : List V}, Paired (fun i y => R i y (upd H3 D (.lst (ys ++ [z])))) l zs -> Paired (fun i y => R i y (upd H3 D (.lst (ys ++ [z])))) (l ++ [i]) (zs ++ [z]) := by
        intro l zs hp
        induction hp with
        | nil => exact .cons h2 .nil
        | cons r _ ih => exact .cons r ih
      exact app h1
    . have Fw : H3 D = some (.lst ys) := k3.get yW
      refine ⟨cN, (k.trans k2).trans k3, ys, Fw, ?_⟩
      rw [va, hs]
      simp only [V3, if_false, append_nil]
      exact pm hp fun j y r' => mono j y _ _ _ (k2.trans k3).x hl r'
  . have e : i = n := by omega
    subst e
    exact .inl ⟨w.stop H q, done H ys k hl hp⟩
section
variable {K : FG}
theorem kC {xs : List V} {j : Nat} : Wk (Itl K a) (aC j) xs.length (fun H => SqL K H a xs) (fun i σ => σ.set j xs[i]?) where
  go := fun i H hi h => ⟨xs, xs[i], h, by simp [hi]⟩
  stop := fun H h => ⟨xs, h, Vq _⟩
  step := fun i H x H' hi h y σ Qk hq => by
    obtain ⟨e, y⟩ := y
    subst e
    have := hq _ (Kp.refl _)
    rw [y xs h] at this
    exact this
theorem K3 {xs : List V} {j : Nat} : Wk (Itt K a) (aC j) xs.length (fun H => SqT K H a xs) (fun i σ => σ.set j xs[i]?) where
  go := fun i H hi h => ⟨xs, xs[i], h, by simp [hi]⟩
  stop := fun H h => ⟨xs, h, Vq _⟩
  step := fun i H x H' hi h y σ Qk hq => by
    obtain ⟨e, y⟩ := y
    subst e
    have := hq _ (Kp.refl _)
    rw [y xs h] at this
    exact this
theorem El {xs : List V} {j k : Nat} : Wk (Ite K a) (jf K 2 (bA (aC j) (bA (aC k) je))) xs.length (fun H => SqL K H a xs) (fun i σ => (σ.set j (some (.int (i : Nat)))).set k xs[i]?) where
  go := fun i H hi h => ⟨xs, xs[i], h, by simp [hi]⟩
  stop := fun H h => ⟨xs, h, Vq _⟩
  step := fun i H x H' hi h y σ Qk hq => by
    obtain ⟨T, z, e, hT, e2, y⟩ := y
    subst e e2
    refine ⟨T, _, rfl, SqT.of aA, rfl, .int (i : Nat), [z], rfl, z, [], rfl, rfl, ?_⟩
    have := hq _ (Kp.new (o := .tup [.int (i : Nat), z]) hT)
    rw [y xs h] at this
    exact this
end
end RV
namespace RV
open L2
theorem w8 {A : Around} {s : Shared} {Q : List Value -> Shared -> Prop} {n : Nat} {t u v : Tok} (hh : A.handled = none) (hr : IsRange s.heap r 0 (n : Int) 1 t u v) (hlen : n <= 2 ^ 20)
    (h : ∀ h' tk (acc : Array Value), (∀ b o, s.heap.get? b = some o -> h'.get? b = some o) -> ItemsOf (fun i v => ∃ t, v = .int (0 + i * 1) t) acc n -> Q acc.toList { s with heap := h', toks := tk }) :
    wpAny (model prog w) A (collect (.ref r)) Q E s := by
  have Tt : Builtin.Range.small 0 (n : Int) 1 = true := small_one (by omega) (by omega) (by omega) (by omega)
  have hsz : Builtin.Range.rangeSize 0 (n : Int) 1 = (n : Int) := by rw [rangeSize_one]; split <;> omega
  unfold collect
  refine Vi (wpAny_runValue (V4 entry_proto_collect' ?_))
  rw [V5 PySem.F.plain_proto_collect _]
  show wpAny _ A.in1 (newList [] >>= fun l => again (.builtin "list.__iadd__" ⟨[l, .ref r], []⟩)) _ _ s
  refine Vi (wpAny_newObj_type ?_)
  refine Vo ⟨V1 PySem.F.plain_list_iadd _, V4 entry_list_iadd' ?_⟩
  rw [V5 PySem.F.plain_list_iadd _]
  have hS₁ : (s.heap.push { cls := .type "list", data := .seq ([] : List Value).toArray }).get? s.heap.objs.size = some { cls := .type "list", data := .seq #[] } := VA _ rfl
  show wpAny _ A.in1 (Builtin.List.listExtendWith (.ref s.heap.objs.size) (.ref r) (.ref s.heap.objs.size)) _ _ _
  have key := wpAny_extend_range (A := A) (prog := prog) (w := w) (s := { s with heap := s.heap.push { cls := .type "list", data := .seq ([] : List Value).toArray } })
    (R := fun (q : Result) (s' : Shared) => ∃ (h' : Heap) (tk : Nat) (A5 : Array Value) (c' : Nat), q = .ok (.ret (.ref s.heap.objs.size)) /\ s' = { s with heap := h', toks := tk } /\
      (∀ b o, s.heap.get? b = some o -> h'.get? b = some o) /\ h'.get? s.heap.objs.size = some { cls := .type "list", dict := none, data := .seq A5 c', slots := #[] } /\ ItemsOf (fun i v => ∃ t, v = .int (0 + i * 1) t) A5 n)
    hh (Vm _ hr) Tt hsz (by omega) s.heap.objs.size (.ref s.heap.objs.size) 0 hS₁
    (fun h' tk A5 c' hk M3 vc => ⟨h', tk, A5, c', rfl, rfl, fun b o e => hk b o (Vp (Vu e)) (Vm _ e), M3, vc⟩)
  refine VP key (fun fin s' x => ?_) fun e s' x => ?_
  . cases fin with
    | done f =>
      obtain ⟨h', tk, A5, c', e, rfl, hk, M3, vc⟩ := x
      cases e
      show wpAny _ A (load s.heap.objs.size >>= _) _ _ _
      refine Vi (wpAny_load M3 ?_)
      exact Vo (h h' tk A5 hk vc)
    | again c₁ =>
      refine ⟨x.1, codeAny_mono x.2 fun q s₂ y => ?_⟩
      obtain ⟨h', tk, A5, c', rfl, rfl, hk, M3, vc⟩ := y
      show wpAny _ A (load s.heap.objs.size >>= _) _ _ _
      refine Vi (wpAny_load M3 ?_)
      exact Vo (h h' tk A5 hk vc)
  . obtain ⟨_, _, _, _, e', _⟩ := x
    cases e'
structure A6 (X : Cx) (name qual : Str) (params : Arguments) (body : Expr) (scope : Scope) (x : Str) (caps : List (Str × Nat)) : Prop where
  kind : scope.kind = .function
  co : scope.isCoroutine = false
  gen : scope.isGenerator = false
  par : scope.names.lookup x = some .local
  GC : ∀ y ∈ scope.names, y.2 ≠ .cell
  uniq : ∀ y ∈ scope.names, scope.names.lookup y.1 = some y.2
  free : ∀ y ∈ scope.names, y.2 = .free -> X.env.scope.names.lookup y.1 = some .cell \/ X.env.scope.names.lookup y.1 = some .free
  caps : ∀ c ∈ caps, scope.names.lookup c.1 = some .free /\ X.N[c.2]? = some c.1
  bind : ∀ (u : Value) (cl : List (Str × Addr)) (pm bJ ct : Value), bindArgs (kla_fn name qual params body scope cl pm bJ ct) ⟨[u], []⟩ = pure [(x, u)]
def A7 (X : Cx) (N : List Str) (qual : Str) (scope : Scope) (f : Addr) (cd : Value) (cl : List (Str × Addr)) (A : Around) (s : Shared) (H : Hp) : Cx where
  prog := X.prog
  w := X.w
  K := X.K
  mg := X.mg
  base := X.base
  A := A.deeper (envX qual scope s.heap.objs.size f cd cl)
  N := N
  s_0 := s
  H_0 := H
  env := envX qual scope s.heap.objs.size f cd cl
  outer := X.stack
  stack := envX qual scope s.heap.objs.size f cd cl :: X.stack
  ex := []
  fn := fun _ => false
  calm := true
  pn := []
  xe := fun _ _ => False
def A8 (σ : St) (v : V) (caps : List (Str × Nat)) : St := some v :: caps.map fun c => σ.getD c.2 none
section
variable {X : Cx} {pins : List (Addr × Obj)} {σ : St} {H : Hp} {s : Shared}
theorem A9 {cells : List (Str × Addr)} {names : List (Str × NameKind)} {y : Str} {c : Addr} (hm : (y, NameKind.free) ∈ names) (hc : cells.lookup y = some c) : (a9 cells names []).lookup y = some c := by
  obtain ⟨c', e⟩ := mem_lookup (iM (cells := cells) (acc := []) hm)
  rcases ee (VM e) with z | ⟨_, z⟩
  . cases z
  . rw [e, z, hc]; rfl
theorem Iw {A : Around} {f : Addr} 
    (I : Inv X pins σ H s) (Mm : A.frames = some X.stack) (hh : A.handled = none) (Tu : A.depth < recursionLimit)
    (hf : s.heap.get? f = some (kla_obj name qual params body scope (a9 X.env.cells scope.names []) pm c' ct)) (lQ : s.heap.CodeRec (.ref c') qual)
    (L : A6 X name qual params body scope x caps) (jP : PE (A7 X (x :: caps.map (·.1)) qual scope f (.ref c') (a9 X.env.cells scope.names []) A s H) body te) (rv : RelV v u) (h : te (A8 σ v caps) H Q) :
    codeAny (model X.prog X.w) A (.call (.ref f) ⟨[u], []⟩) (fun r s' => ∃ u', r = .ok (.ret u') /\ CE X.stack X.prog X.w H s Q u' s') s := by
  refine PySem.W.kla_callFunE Tu hf rfl L.co L.gen rfl lQ ?_
  show wpAny _ A.in1 (bindArgs (kla_fn name qual params body scope (a9 X.env.cells scope.names []) pm (.ref c') ct) ⟨[u], []⟩) _ _ _
  rw [L.bind]
  refine Vo (wpAny_newFunctionEnv L.GC (fun y hy => ?_) (fun h₁ OB RI => ⟨I.nolimit.fresh _ RI, ?_⟩) L.kind)
  . obtain rfl : y = (x, u) := mem_singleton.mp hy
    exact L.par
  have hk₁ : ∀ b o, s.heap.get? b = some o -> h₁.get? b = some o := fun b o e => RI.extBut b o (Vp (Vu e)) (Vm _ e)
  show codeAny _ _ (.expr body (envX qual scope s.heap.objs.size f (.ref c') (a9 X.env.cells scope.names []))) _ _
  have e0 := I.Kx
  have OC : ∀ {y : Str} {c : Addr}, (a9 X.env.cells scope.names []).lookup y = some c -> X.env.cells.lookup y = some c := fun {y c} e => by
    rcases ee (VM e) with z | ⟨z, z2⟩
    . cases z
    . have fr := L.free (y, .free) z rfl
      obtain ⟨c2, e2⟩ := I.ok.has y (by rcases fr with q | q; exact .inl q; exact .inr q)
      rw [z2, e2]; rfl
  have zb : ∀ {y : Str}, scope.names.lookup y = some .free -> (y, NameKind.free) ∈ scope.names := fun {y} e => VM e
  have J : Inv (A7 X (x :: caps.map (·.1)) qual scope f (.ref c') (a9 X.env.cells scope.names []) A s H) [] (A8 σ v caps) H { s with heap := h₁, toks := s.toks + 1 } := by
    refine ⟨⟨e0.mod, L.kind, rfl, rfl, Vq _, fun y z c h1 h2 => I.ok.inj y z c (OC h1) (OC h2), fun y hy => ?_, fun y c hy _ => ?_, fun _ => hh, Around.frames_deeper Mm, .inr ⟨rfl, rfl⟩, fun b z => ?_, e0.bs, e0.bsz, fun b _ _ z => ?_, fun b z => ?_, e0.rh, e0.frf⟩,
      rfl, e0.bare, Un.kept hk₁, ⟨_, OB, fun i y v' h1 h2 h3 => ?_⟩, fun y c h => ?_, e0.hok.fresh (Vq _), fun y c h => I.jN y c (OC h), fun p hp => ?_, e0.hok.kept hk₁, ?_⟩
    . have hy : scope.names.lookup y = some .cell \/ scope.names.lookup y = some .free := hy
      rcases hy with hy | hy
      . exact absurd rfl (L.GC _ (VM hy))
      . have fr := L.free (y, .free) (zb hy) rfl
        obtain ⟨c2, e2⟩ := I.ok.has y (by rcases fr with q | q; exact .inl q; exact .inr q)
        exact ⟨c2, A9 (zb hy) e2⟩
    . cases (show false = true from hy)
    . exact absurd (show b ∈ ([] : List Addr) from z) (by simp)
    . exact absurd (show b ∈ ([] : List Addr) from z) (by simp)
    . exact absurd (show b ∈ ([] : List Addr) from z) (by simp)
    . cases i with
      | zero =>
        have ey : x = y := Option.some.inj h1
        subst ey
        have ev : v = v' := Option.some.inj (Option.some.inj h2)
        subst ev
        refine ⟨u, rv, .inl ⟨L.par, ?_⟩⟩
        show ([(x, u)] : List (Str × Value)).reverse.lookup x = some u
        simp
      | succ j =>
        have h1 : (caps.map (·.1))[j]? = some y := h1
        have h2 : (caps.map fun c => σ.getD c.2 none)[j]? = some (some v') := h2
        rw [Vt] at h1 h2
        cases e : caps[j]? with
        | none => rw [e] at h1; cases h1
        | some cp =>
          rw [e] at h1 h2
          have ey : cp.1 = y := Option.some.inj h1
          have ev : σ.getD cp.2 none = some v' := Option.some.inj h2
          subst ey
          obtain ⟨K4, hN⟩ := L.caps cp (VG e)
          have Mh : σ[cp.2]? = some (some v') := by
            unfold List.getD at ev
            cases q : σ[cp.2]? with
            | none => rw [q] at ev; cases ev
            | some z => rw [q] at ev; exact congrArg some ev
          have fr := L.free (cp.1, .free) (zb K4) rfl
          obtain ⟨m, hn, hl⟩ := I.loc
          obtain ⟨u2, r2, lk⟩ := hl cp.2 cp.1 v' hN Mh (by rcases fr with q | q; exact .inr (.inl q); exact .inr (.inr q))
          refine ⟨u2, r2, .inr ⟨.inr K4, ?_⟩⟩
          rcases lk with ⟨k, _⟩ | ⟨_, c2, e2, xW⟩
          . have k : X.env.scope.names.lookup cp.1 = some .local := k
            rcases fr with q | q
            . have q : X.env.scope.names.lookup cp.1 = some .cell := q
              rw [k] at q; cases q
            . have q : X.env.scope.names.lookup cp.1 = some .free := q
              rw [k] at q; cases q
          . refine ⟨c2, A9 (zb K4) e2, ?_⟩
            obtain ⟨o, ho, hd⟩ := xW
            exact ⟨o, hk₁ _ _ ho, hd⟩
    . obtain ⟨v2, o, ho, hd⟩ := I.cell y c (OC h)
      exact ⟨v2, o, hk₁ _ _ ho, hd⟩
    . exact absurd (show p ∈ ([] : List (Addr × Obj)) from hp) (by simp)
    . show (some v :: caps.map fun c => σ.getD c.2 none).length = (x :: caps.map (·.1)).length
      simp
  refine PySem.W.kla_codeExpr (VP (jP [] _ (A8 σ v caps) H Q J h) (fun u' s' hq => ?_) fun _ _ z => False.elim z)
  obtain ⟨v', H', J', r', q'⟩ := hq
  exact ⟨u', rfl, v', H', J'.os, J'.bare, J'.base, J'.hok, r', q'⟩
theorem Inv.adopt (I : Inv X pins σ H s) (hf : oJ X pins H D) (hs : X.s_0.heap.objs.size <= D) (new : cq X.prog X.w (upd H D o) s.heap D o) : Inv X pins σ (upd H D o) s := by
  obtain ⟨f0, f1, f2, f3, f4, f5⟩ := hf
  have ne : ∀ b u, H b = some u -> b ≠ D := fun b u e z => by rw [z, f0] at e; cases e
  have b0 := I.base
  refine ⟨I.ok, I.os, I.bare, ⟨b0.keep, b0.slot, fun b ob q n hx => ?_, b0.there, fun b xs q => ?_, fun b u xs q => ?_, fun b ps q => ?_⟩, I.loc, I.cell, ?_, fun x c e => ?_, fun p hp => ?_, fun b u e => ?_, I.len⟩
  . have hb : b ≠ D := fun z => by
      have h2 := Vu q
      rw [z] at h2
      exact absurd (VI h2 hs) (VO _)
    rw [aM hb]; exact b0.free b ob q n hx
  . have z := b0.yJ b xs q
    rw [aM (ne _ _ z)]; exact z
  . have z := b0.wM b u xs q
    rw [aM (ne _ _ z)]; exact z
  . obtain ⟨m, z⟩ := b0.wN b ps q
    exact ⟨m, by rw [aM (ne _ _ z)]; exact z⟩
  . rw [aM (Ne.symm f1)]; exact I.free
  . rw [aM (f4 x c e)]; exact I.jN x c e
  . obtain ⟨a1, a2, a3⟩ := I.pin p hp
    exact ⟨a1, by rw [aM (f5 p hp)]; exact a2, a3⟩
  . by_cases hb : b = D
    . subst hb
      rw [aA] at e
      cases e
      exact new
    . rw [aM hb] at e
      exact (I.hok b u e).g8 (fun c v _ q => q) (fun c q => by rw [aM (ne _ _ q)]; exact q) fun c xs q => by rw [aM (ne _ _ q)]; exact q
end
end RV
namespace RV
open L2
variable [bM]
local macro_rules | `(tactic| walk_at "o") => `(tactic| (first | exact Or.inl rfl | exact Or.inr rfl))
local macro_rules | `(tactic| walk_at "s") => `(tactic| (exact ⟨rfl, rfl, rfl, by decide +kernel, rfl, by decide +kernel, by decide +kernel⟩))
local macro_rules | `(tactic| walk_at "n") => `(tactic| ((intro vs H Q E h; repeat (first | exact congrArg List.length h.1 | obtain ⟨_, h⟩ := h))))
local macro_rules | `(tactic| walk_at "m") => `(tactic| ((intro vs H Q E h; obtain ⟨_, _, _, e, hl, _⟩ := h; rw [e, VC, hl]; rfl)))
local macro_rules | `(tactic| walk_at "b") => `(tactic| ((intro _ _ _ _ _ _ us hl; first | exact (match us, hl with | [_], _ => rfl) | exact (match us, hl with | [_, _], _ => rfl) | exact (match us, hl with | [_, _, _], _ => rfl) | exact (match us, hl with | [_, _, _, _], _ => rfl) | exact (match us, hl with | [_, _, _, _, _], _ => rfl) | exact (match us, hl with | [_, _, _, _, _, _], _ => rfl) | exact (match us, hl with | [_, _, _, _, _, _, _], _ => rfl) | exact (match us, hl with | [_, _, _, _, _, _, _, _], _ => rfl))))
theorem Ba {α β : Type} {R : α -> β -> Prop} {m m' : List β} (hp : m'.Perm m) : ∀ {l : List α}, Paired R l m -> ∃ l', l'.Perm l /\ Paired R l' m' := by
  induction hp with
  | nil =>
    intro l h
    cases h
    exact ⟨[], .refl _, .nil⟩
  | cons x _ ih =>
    intro l h
    cases h with
    | cons r t =>
      obtain ⟨l', p, q⟩ := ih t
      exact ⟨_ :: l', p.cons _, .cons r q⟩
  | swap x y m =>
    intro l h
    cases h with
    | cons r t =>
      cases t with
      | cons r2 t2 => exact ⟨_ :: _ :: _, .swap .., .cons r2 (.cons r t2)⟩
  | trans _ _ Qh Qj =>
    intro l h
    obtain ⟨l1, p1, q1⟩ := Qj h
    obtain ⟨l2, p2, q2⟩ := Qh q1
    exact ⟨l2, p2.trans p1, q2⟩
theorem vd {α β γ δ : Type} {R : α -> β -> Prop} {S : γ -> δ -> Prop} : ∀ {l : List α} {m : List β} {l2 : List γ} {m2 : List δ}, Paired R l m -> Paired S l2 m2 -> Paired (fun (a : α × γ) (b : β × δ) => R a.1 b.1 /\ S a.2 b.2) (l.zip l2) (m.zip m2)
  | _, _, _, _, .nil, _ => .nil
  | _, _, _, _, .cons _ _, .nil => .nil
  | _, _, _, _, .cons r t, .cons r2 t2 => .cons ⟨r, r2⟩ (vd t t2)
theorem ve {α β : Type} {R : α -> β -> Prop} : ∀ {l : List α} {m : List β} {i : Nat} {b : β}, Paired R l m -> m[i]? = some b -> ∃ a, l[i]? = some a /\ R a b
  | _, _, _, _, .nil, h => by simp at h
  | _, _, 0, _, .cons r _, h => by
    have e := Option.some.inj h
    subst e
    exact ⟨_, rfl, r⟩
  | _, _, i + 1, _, .cons _ t, h => ve (i := i) t h
theorem sR {α β : Type} {R : α -> β -> Prop} : ∀ {l : List α} {m : List β} {i : Nat} {a : α}, Paired R l m -> l[i]? = some a -> ∃ b, m[i]? = some b /\ R a b
  | _, _, _, _, .nil, h => by simp at h
  | _, _, 0, _, .cons r _, h => by
    have e := Option.some.inj h
    subst e
    exact ⟨_, rfl, r⟩
  | _, _, i + 1, _, .cons _ t, h => sR (i := i) t h
theorem iQ {α β : Type} {R : α -> β -> Prop} {a : α} {b : β} (h : R a b) : ∀ {l : List α} {m : List β}, Paired R l m -> Paired R (l ++ [a]) (m ++ [b])
  | _, _, .nil => .cons h .nil
  | _, _, .cons r t => .cons r (iQ h t)
abbrev jV : Nat -> Bool := fun _ => false
def vf (H : Hp) (k : List Int) (u : Value) : Prop := ∃ p, u = Value.ref p /\ H p = some (.tup (k.map V.int))
theorem oo : ∀ {k : List Int} {us : List Value} {i : Nat}, Vals (k.map V.int) us -> tupItems jV i us = some (k.map Sum.inl)
  | [], _, _, r => by
    cases r
    rfl
  | x :: k, _, i, r => by
    cases r with
    | cons r t =>
      obtain ⟨tk, rfl⟩ := r
      show (if jV i = true then none else (tupItems jV (i + 1) _).map (Sum.inl x :: ·)) = _
      rw [Vh (by simp [jV]), oo t]
      rfl
section
variable {X : Cx} {pins : List (Addr × Obj)} {σ : St} {H : Hp} {s : Shared}
theorem Em (I : Inv X pins σ H s) {k : List Int} (h : vf H k u) : ∃ p o aK n, u = .ref p /\ s.heap.get? p = some o /\ o.cls = .type "tuple" /\ o.data = .seq aK n /\ Vals (k.map V.int) aK.toList := by
  obtain ⟨p, rfl, e⟩ := h
  obtain ⟨_, aK, rv, o, ho, hc, n, hd⟩ := (show cq X.prog X.w H s.heap p (.tup (k.map V.int)) from I.hok p _ e)
  exact ⟨p, o, aK.toArray, n, rfl, ho, hc, hd, by simpa using rv⟩
theorem vg (I : Inv X pins σ H s) {k : List Int} (h : vf H k u) : PyProof.Rows.G.tupKeyC s.heap jV u = some (k.map Sum.inl) := by
  obtain ⟨p, o, aK, n, rfl, ho, hc, hd, rv⟩ := Em I h
  have h1 : PyProof.Rows.G.isTupObj s.heap (.ref p) = true := by
    unfold PyProof.Rows.G.isTupObj
    simp only [ho, hc]
    rfl
  unfold PyProof.Rows.G.tupKeyC
  rw [Vj h1]
  unfold tupKey
  simp only [ho, hd]
  exact oo rv
theorem yr (I : Inv X pins σ H s) : ∀ {ks : List (List Int)} {us : List Value}, (∀ k ∈ ks, k ≠ []) -> Paired (vf H) ks us -> ∃ fs, TupsOf s.heap jV us fs
  | _, _, _, .nil => ⟨[], .nil⟩
  | k :: ks, u :: us, qi, .cons r t => by
    obtain ⟨fs, q⟩ := yr I (fun k hk => qi k (Vs _ hk)) t
    obtain ⟨p, o, aK, n, rfl, ho, hc, hd, rv⟩ := Em I r
    cases k with
    | nil => exact absurd rfl (qi [] Vv)
    | cons x k =>
      cases hi : aK.toList with
      | nil => rw [hi] at rv; cases rv
      | cons f rest =>
        rw [hi] at rv
        cases rv with
        | cons r0 _ =>
          obtain ⟨tk, rfl⟩ := r0
          have h0 : aK[0]? = some (Value.int x tk) := by
            rw [<- getElem?_toList, hi]; rfl
          exact ⟨_ :: fs, .cons ⟨p, o, aK, n, rfl, ho, hc, hd, h0, fun _ => ⟨x, tk, rfl⟩, fun z => by cases z⟩ q⟩
structure Own (X : Cx) (pins : List (Addr × Obj)) (b : Addr) : Prop where
  old : X.s_0.heap.objs.size <= b
  ne : ∀ p ∈ X.pn ++ pins, p.1 ≠ b
theorem Inv.Bb {o : Obj} {b : Addr} (I : Inv X pins σ H s) (hb : s.heap.get? b = some o) (hd : ∀ v, o.data ≠ .cell v) : ∀ x c, X.env.cells.lookup x = some c -> c ≠ b := fun x c e z => by
  obtain ⟨v, o', ho, hv⟩ := I.cell x c e
  rw [z, hb] at ho
  cases ho
  exact hd v hv
theorem Inv.En {o o' : Obj} {b : Addr} {h' : Heap} {t' : Nat} (I : Inv X (pins ++ [(b, o)]) σ H s) (w : Own X pins b) (hs : ∀ c u, c ≠ b -> s.heap.get? c = some u -> h'.get? c = some u) (hb : h'.get? b = some o') (hd : ∀ v, o'.data ≠ .cell v) :
    Inv X (pins ++ [(b, o')]) σ H { s with heap := h', toks := t' } := by
  obtain ⟨q1, q2, q3, q4, q5⟩ := I.pin (b, o) (by simp)
  have I1 : Inv X pins σ H { s with heap := h', toks := t' } := I.f6.turned hs q2 q3 (.inr w.old) (Inv.Bb I q1 q5) w.ne
  refine I1.qd fun p hp => ?_
  rcases mem_append.mp hp with z | z
  . exact I1.pin p (VR _ z)
  . obtain rfl := mem_singleton.mp z
    exact ⟨hb, q2, q3, q4, hd⟩
theorem Inv.zc {o : Obj} {h' : Heap} {t' : Nat} {b : Addr} (I : Inv X pins σ H s) (hk : ∀ c u, s.heap.get? c = some u -> h'.get? c = some u) (hb : s.heap.objs.size <= b) (ho : h'.get? b = some o) (hd : ∀ v, o.data ≠ .cell v) :
    Inv X (pins ++ [(b, o)]) σ H { s with heap := h', toks := t' } /\ Own X pins b := by
  have I1 : Inv X pins σ H { s with heap := h', toks := t' } := I.kept hk
  have hn : H b = none := I.hok.fresh hb
  refine ⟨I1.qd fun p hp => ?_, ⟨VH I.sz hb, fun p hp z => ?_⟩⟩
  . rcases mem_append.mp hp with z | z
    . exact I1.pin p (VR _ z)
    . obtain rfl := mem_singleton.mp z
      exact ⟨ho, hn, ne_of_gt (VI I.lt hb), I.MA hb, hd⟩
  . have h2 := Vu (I.pin p hp).1
    rw [z] at h2
    exact absurd (VI h2 hb) (VO _)
end
theorem fq {n : String} {xs : Array Value} {e : Nat} : ∀ v, (seqObj n xs e).data ≠ .cell v := fun v z => by cases z
section
variable {X : Cx} {pins : List (Addr × Obj)} {σ : St} {A : Around} {E : Value -> Shared -> Prop}
theorem E7 {H : Hp} {f D : Addr} {fo : Obj} {n : Nat} {vs : List Value} {ks : List (List Int)} {P : PySem.Fin -> Shared -> Prop}
    (I : Inv X (pins ++ [(f, fo)] ++ [(D, seqObj "list" vs.toArray n)]) σ H s) (wD : Own X (pins ++ [(f, fo)]) D) (rv : Vals xs vs) (hl : ks.length = xs.length) (hz : xs.length <= 1000) (qi : ∀ k ∈ ks, k ≠ [])
    (turn : ∀ (i : Nat) (v : V) (u : Value) (k : List Int) (xU : List (Addr × Obj)) (s' : Shared) (H' : Hp), xs[i]? = some v -> RelV v u -> ks[i]? = some k -> Inv X (pins ++ [(f, fo)] ++ xU) σ H' s' -> Kp H H' ->
      wpAny (model X.prog X.w) A (call (.ref f) [u]) (fun w HE => ∃ Ql, Inv X (pins ++ [(f, fo)] ++ xU) σ Ql HE /\ Kp H' Ql /\ vf Ql k w) (fun _ _ => False) s')
    (done : ∀ (s' : Shared) (H' : Hp) (ps : List (List Int × V)), Inv X pins σ (upd H' D (.lst (ps.map (·.2)))) s' -> Kp H H' -> H' D = none -> ps.Perm (ks.zip xs) ->
      ps.Pairwise (fun a b => PyProof.Rows.lexLt itemOrd (b.1.map Sum.inl) (a.1.map Sum.inl) = false) -> P (.done (.ret .none)) s') :
    wpAny (model X.prog X.w) A (ksk_tree D (.ref f) false) P E s := by
  have Tv : vs.length = xs.length := rv.length.symm
  have Iy : vs.length <= sizeLine := by rw [Vr]; omega
  have ho := (I.pin (D, seqObj "list" vs.toArray n) (by simp)).1
  have s1 := Heap.SameBut.update s.heap D (Obj.mapSeq fun _ => (#[] : Array Value))
  obtain ⟨e1, OD⟩ : ∃ e1, (s.heap.update D (Obj.mapSeq fun _ => (#[] : Array Value))).get? D = some (seqObj "list" #[] e1) := ⟨_, get?_update_seq ho fun _ => #[]⟩
  unfold ksk_tree
  refine Vi (listItems_at ho rfl ?_)
  refine Vi (listUpdate_at ho rfl ?_ (by rw [Vx]; exact Iy) (VF _))
  refine Vi (seqEpoch_at OD rfl ?_)
  refine Vi (wpAny_newTuple ?_ (by show vs.length <= _; exact Iy))
  refine Vi (wpAny_newList ?_ (VF _))
  refine V7 ?_
  have I1 := Inv.En (t' := s.toks) I wD (fun c u hc e => (s1.2 c hc).trans e) OD fq
  have I2 : Inv X (pins ++ [(f, fo)] ++ [(D, seqObj "list" #[] e1)]) σ H { s with heap := (s.heap.update D (Obj.mapSeq fun _ => (#[] : Array Value))).push (seqObj "tuple" vs.toArray 0) } := I1.kept (t' := s.toks) fun c u e => Vm _ e
  obtain ⟨I3, wK⟩ := Inv.zc (t' := s.toks) (h' := ((s.heap.update D (Obj.mapSeq fun _ => (#[] : Array Value))).push (seqObj "tuple" vs.toArray 0)).push (seqObj "list" #[] 0)) I2 (fun c u e => Vm _ e) (Vq _) (o := seqObj "list" #[] 0) (VA _ rfl) fq
  show wpAny (model X.prog X.w) A (ksk_rest D (.ref f) false vs.toArray e1 (.ref ((s.heap.update D (Obj.mapSeq fun _ => (#[] : Array Value))).push (seqObj "tuple" vs.toArray 0)).objs.size)) P E
    { s with heap := ((s.heap.update D (Obj.mapSeq fun _ => (#[] : Array Value))).push (seqObj "tuple" vs.toArray 0)).push (seqObj "list" #[] 0) }
  generalize ((s.heap.update D (Obj.mapSeq fun _ => (#[] : Array Value))).push (seqObj "tuple" vs.toArray 0)).objs.size = kS at I3 wK ⊢
  generalize ({ s with heap := ((s.heap.update D (Obj.mapSeq fun _ => (#[] : Array Value))).push (seqObj "tuple" vs.toArray 0)).push (seqObj "list" #[] 0) } : Shared) = s3 at I3 ⊢
  unfold ksk_rest
  refine Vi (wpAny_rule ?_)
  first
    | rw [List.forIn_toArray]
    | (rw [<- Array.forIn_toList]; simp only [List.toList_toArray])
    | rw [<- Array.forIn_toList]
  refine Vi (ksk_fold (fun i s' => ∃ H' kA e, Inv X (pins ++ [(f, fo)] ++ [(D, seqObj "list" #[] e1)] ++ [(kS, seqObj "list" kA e)]) σ H' s' /\ Kp H H' /\ Paired (vf H') (ks.take i) kA.toList) vs 0 s3
    ⟨H, #[], 0, I3, Kp.refl _, by simpa using Paired.nil⟩ ?step ?fin)
  case step =>
    rintro j u s' hu ⟨H', kA, e, J, kp, pk⟩
    simp only [Nat.zero_add] at pk ⊢
    have hj : j < vs.length := (List.getElem?_eq_some_iff.mp hu).1
    obtain ⟨k, hk⟩ : ∃ k, ks[j]? = some k := ⟨_, Vl (by omega)⟩
    obtain ⟨v, hv⟩ : ∃ v, xs[j]? = some v := ⟨_, Vl (by omega)⟩
    obtain ⟨u2, OE, Tw⟩ := rv.get hv
    rw [hu] at OE
    cases OE
    have J' : Inv X (pins ++ [(f, fo)] ++ ([(D, seqObj "list" #[] e1)] ++ [(kS, seqObj "list" kA e)])) σ H' s' := by rw [<- append_assoc]; exact J
    refine Vi (wpAny_attempt (VP (turn j v u k _ s' H' hv Tw hk J' kp) (fun w HE he => ?_) fun _ _ hF => hF.elim))
    obtain ⟨H2, J2, z8, kw⟩ := he
    rw [<- append_assoc] at J2
    have Mo := (J2.pin (kS, seqObj "list" kA e) (by simp)).1
    have s2 := Heap.SameBut.update HE.heap kS (Obj.mapSeq (·.push w))
    obtain ⟨c2, wJ⟩ : ∃ c2, (HE.heap.update kS (Obj.mapSeq (·.push w))).get? kS = some (seqObj "list" (kA.push w) c2) := ⟨_, get?_update_seq Mo (·.push w)⟩
    have lk : kA.size <= 1000 := by
      have h2 : (ks.take j).length = kA.toList.length := Paired.length pk
      rw [length_take, length_toList (xs := kA)] at h2
      omega
    try dsimp only
    refine Vi (listUpdate_at Mo rfl ?_ (by rw [Vr]; omega) (VH (le_of_eq (Array.size_push ..)) (by rw [Vr]; omega)))
    refine Vo ⟨rfl, H2, kA.push w, c2, Inv.En (t' := HE.toks) J2 wK (fun c u hc e => (s2.2 c hc).trans e) wJ fq, kp.trans z8, ?_⟩
    have ek : ks.take (j + 1) = ks.take j ++ [k] := by rw [take_add_one, hk]; rfl
    rw [ek, Array.toList_push]
    exact iQ kw (Paired.uL pk fun a b ⟨p, e1, e2⟩ => ⟨p, e1, z8.get e2⟩)
  case fin =>
    rintro s4 ⟨H4, kA, e, J, kp, pk⟩
    have pk : Paired (vf H4) ks kA.toList := by
      have e3 : ks.take (0 + vs.length) = ks := List.take_of_length_le (by omega)
      rw [e3] at pk
      exact pk
    have Mo := (J.pin (kS, seqObj "list" kA e) (by simp)).1
    have hDo := (J.pin (D, seqObj "list" #[] e1) (by simp)).1
    have Qm : kA.size = vs.length := by
      have h2 : ks.length = kA.toList.length := Paired.length pk
      rw [length_toList (xs := kA)] at h2
      omega
    have OF : (kA.zip vs.toArray).size = vs.length := by rw [Array.size_zip, Qm, Vx, min_self]
    try dsimp only
    refine Vi (listItems_at Mo rfl ?_)
    have tail : ∀ st : SortSt, (arrOf st).Perm (kA.zip vs.toArray) -> failedOf st = none -> SortedToK (PyProof.Rows.G.tupKindC s4.heap jV) (arrOf st) (kA.zip vs.toArray).size ->
        wpAny (model X.prog X.w) A (ksk_tail D false e1 (.ref kS) st) P E s4 := by
      intro st hp Qn Tx
      have M4 : (arrOf st).size = vs.length := by rw [hp.size_eq, OF]
      have u1 := Heap.SameBut.update s4.heap kS (Obj.mapSeq fun _ => (#[] : Array Value))
      obtain ⟨d1, bZ⟩ : ∃ d1, (s4.heap.update kS (Obj.mapSeq fun _ => (#[] : Array Value))).get? kS = some (seqObj "list" #[] d1) := ⟨_, get?_update_seq Mo fun _ => #[]⟩
      have J1 := Inv.En (t' := s4.toks) J wK (fun c u hc e => (u1.2 c hc).trans e) bZ fq
      have J2 := J1.f6
      have Mp := (J2.pin (D, seqObj "list" #[] e1) (by simp)).1
      have u2 := Heap.SameBut.update (s4.heap.update kS (Obj.mapSeq fun _ => (#[] : Array Value))) D (Obj.mapSeq fun _ => (arrOf st).map (·.2))
      obtain ⟨d2, hd2⟩ : ∃ d2, ((s4.heap.update kS (Obj.mapSeq fun _ => (#[] : Array Value))).update D (Obj.mapSeq fun _ => (arrOf st).map (·.2))).get? D = some (seqObj "list" ((arrOf st).map (·.2)) d2) := ⟨_, get?_update_seq Mp fun _ => (arrOf st).map (·.2)⟩
      have J3 := Inv.En (t' := s4.toks) J2 wD (fun c u hc e => (u2.2 c hc).trans e) hd2 fq
      unfold ksk_tail
      try dsimp only
      refine Vi (listUpdate_at Mo rfl ?_ (by rw [Qm]; exact Iy) (VF _))
      refine Vi (wpAny_letGo ?_)
      refine Vi (seqEpoch_at Mp rfl ?_)
      refine Vi (listUpdate_at Mp rfl ?_ (VF _) (VH (le_of_eq (by simp only [V3, if_false]; rw [size_map, M4])) (by omega)))
      rw [Qn]
      simp only [bne_self_eq_false, V3, if_false]
      have iH : (arrOf st).toList.Perm (kA.toList.zip vs) := by
        have := Array.perm_iff_toList_perm.mp hp
        rw [ksk_zip] at this
        exact this
      obtain ⟨ps, pp, pq⟩ := Ba iH (vd pk rv)
      have Oi : Vals (ps.map (·.2)) ((arrOf st).map (·.2)).toList := by
        rw [Array.toList_map]
        have : ∀ {l : List (List Int × V)} {m : List Keyed}, Paired (fun (a : List Int × V) (b : Value × Value) => vf H4 a.1 b.1 /\ RelV a.2 b.2) l m -> Vals (l.map (·.2)) (m.map (·.2)) := by
          intro l m h
          induction h with
          | nil => exact .nil
          | cons r _ ih => exact .cons r.2 ih
        exact this pq
      obtain ⟨q1, q2, q3, q4, q5⟩ := J3.pin (D, seqObj "list" ((arrOf st).map (·.2)) d2) (by simp)
      have J4 : Inv X pins σ H4 { s4 with heap := (s4.heap.update kS (Obj.mapSeq fun _ => (#[] : Array Value))).update D (Obj.mapSeq fun _ => (arrOf st).map (·.2)) } := J3.f6.f6
      have fp : oJ X pins H4 D := ⟨q2, q3, q4, .inr wD.old, Inv.Bb J3 q1 q5, fun p hp => wD.ne p (by
        rcases mem_append.mp hp with z | z
        . exact Wd _ z
        . exact VR _ (Wd _ z))⟩
      have new : cq X.prog X.w (upd H4 D (.lst (ps.map (·.2)))) ((s4.heap.update kS (Obj.mapSeq fun _ => (#[] : Array Value))).update D (Obj.mapSeq fun _ => (arrOf st).map (·.2))) D (.lst (ps.map (·.2))) := by
        refine ⟨?_, ((arrOf st).map (·.2)).toList, d2, Oi, by rw [Array.toArray_toList]; exact hd2⟩
        rw [Oi.length, length_toList, size_map, M4]
        exact Iy
      refine Vo (done _ H4 ps (Inv.adopt J4 fp wD.old new) kp q2 pp ?_)
      refine List.pairwise_iff_getElem.mpr fun i j hi hj RJ => ?_
      have lp : ps.length = (arrOf st).size := by
        have := Paired.length pq
        rw [length_toList] at this
        exact this
      have kk : ∀ (i : Nat) (hi : i < ps.length), KK (PyProof.Rows.G.tupKindC s4.heap jV) (arrOf st) i = ps[i].1.map Sum.inl := by
        intro i hi
        obtain ⟨b, hb, r, _⟩ := sR pq (Vl hi)
        unfold KK
        rw [getElem?_toList] at hb
        rw [hb]
        show (PyProof.Rows.G.tupKeyC s4.heap jV b.1).getD _ = _
        rw [vg J r]
        rfl
      have := Tx i j (le_of_lt RJ) (by rw [OF]; omega)
      rw [kk i hi, kk j hj] at this
      exact this
    unfold ksk_end
    try dsimp only
    simp only [V3, if_false]
    by_cases h2 : vs.toArray.size < 2
    . rw [Vj h2, Vj h2]
      refine Vi (Vo ?_)
      rw [StateT.run_pure]
      refine Vi (Vo ?_)
      try dsimp only
      refine tail (SortSt.mk' general' (kA.zip vs.toArray) #[] 7 none) (Array.Perm.refl _) rfl ?_
      intro i j RJ hj
      rw [OF] at hj
      rw [Vx] at h2
      have : i = j := by omega
      subst this
      exact KeyOrd.kle_refl _
    . rw [Vh h2, Vh h2]
      rw [Vx] at h2
      obtain ⟨fs, ht⟩ := yr J qi pk
      have Qn : fs.length = kA.toList.length := PyProof.Rows.G.TupsOf.length ht
      refine Vi ?_
      have RK := tup_kind (M := model X.prog X.w) (A := A) (E := E) (s := s4) (shape := jV) (vs := kA.toList) (fs := fs) (Q := fun kd s' => kd = tuples' true /\ s' = s4) (by rw [Qn, length_toList, Qm]; omega) ht ⟨rfl, rfl⟩
      rw [Array.toArray_toList] at RK
      refine VP RK (fun kd s5 hq => ?_) fun _ _ e => e
      obtain ⟨rfl, rfl⟩ := hq
      have keysOf : KeysOf (PyProof.Rows.G.tupKindC s5.heap jV) (kA.zip vs.toArray) := by
        intro p hp
        rw [ksk_zip] at hp
        obtain ⟨i, hi, e⟩ := mem_iff_getElem.mp (of_mem_zip hp).1
        obtain ⟨k, _, r⟩ := ve pk (i := i) (b := p.1) (by rw [Vl hi, e])
        exact ⟨_, vg J r⟩
      refine Vi (VP (PyProof.Rows.G.wpS_sortRunsSt (κ := PyProof.Rows.G.tupKindC s5.heap jV) (kd := tuples' true) (a₀ := kA.zip vs.toArray) (st := SortSt.mk' (tuples' true) (kA.zip vs.toArray) #[] 7 none)
        (Q := fun _ tX => (arrOf tX).Perm (kA.zip vs.toArray) /\ failedOf tX = none /\ SortedToK (PyProof.Rows.G.tupKindC s5.heap jV) (arrOf tX) (kA.zip vs.toArray).size)
        (PyProof.Rows.G.tupC_ltAt true (PyProof.Rows.G.KeepsTups.refl _)) keysOf ⟨Array.Perm.refl _, rfl, rfl⟩ rfl (Stable.refl _) (by rw [OF]; omega) fun tX a1 a2 a3 _ => ⟨a1, a2, a3⟩) ?_ fun _ _ e => e)
      rintro ⟨⟨⟩, tX⟩ s' ⟨rfl, hp, hf, hs⟩
      try dsimp only
      exact tail tX hp hf hs
end
theorem w9 {a b : Int} {c cv : Value} (l : List Value) (h : TriplesOk l) (e : codeAmong pos (l ++ [rawInt a, rawInt b, c]) = some cv) : codeAmong pos l = some cv \/ cv = c := by
  fun_induction TriplesOk l with
  | case1 =>
    simp only [List.nil_append, codeAmong, rawInt] at e
    split at e
    . exact .inr (Option.some.inj e).symm
    . cases e
  | case2 a' t b' u x rest ih =>
    simp only [List.cons_append, codeAmong] at e ⊢
    split at e
    . rename_i hc
      rw [Vj hc]; exact .inl e
    . rename_i hc
      rw [Vh hc]; exact ih h e
  | case3 l h1 h2 => exact h.elim
section
variable {X : Cx} {pins : List (Addr × Obj)} {σ : St} {H : Hp} {s : Shared} {E : Value -> Shared -> Prop}
theorem Inv.grow {ps more : Array Value} {h' : Heap} {t' : Nat} (I : Inv X pins σ H s) (hP : H P = some (.tbl ps)) (hx : ∀ b o, b ≠ P -> s.heap.get? b = some o -> h'.get? b = some o) (OG : h'.get? P = some { cls := .none, data := .fields (ps ++ more) }) :
    Inv X pins σ (upd H P (.tbl (ps ++ more))) { s with heap := h', toks := t' } := by
  have ne : ∀ {b : Addr}, H b = none -> b ≠ P := fun {b} n z => by rw [z, hP] at n; cases n
  refine I.un ⟨fun b o e n _ _ => hx b o (ne n) e, fun b o e n _ _ => ⟨o.slots, hx b o (ne n) e⟩, fun b o e n _ => by rw [aM (ne n)]; exact n, fun b o e _ => ?_, fun b xs e => ?_, fun b o u e => ?_, fun b qs e => ?_⟩ fun b u e => ?_
  . by_cases hb : b = P
    . rw [hb]; exact ⟨_, OG⟩
    . exact ⟨o, hx b o hb e⟩
  . rw [aM (eE e hP (by intro z; cases z))]; exact e
  . rw [aM (eE e hP (by intro z; cases z))]; exact e
  . by_cases hb : b = P
    . subst hb
      rw [hP] at e
      cases e
      exact ⟨more, aA⟩
    . exact ⟨#[], by rw [aM hb, e]; simp⟩
  . by_cases hb : b = P
    . subst hb
      rw [aA] at e
      cases e
      exact OG
    . rw [aM hb] at e
      refine (I.hok b u e).g8 (fun c v hc q => hx c v ?_ q) (fun c q => ?_) fun c xs q => ?_
      . rcases hc with z | z
        . rw [z]; exact hb
        . exact eE z hP (by intro z; cases z)
      . rw [aM (eE q hP (by intro z; cases z))]; exact q
      . rw [aM (eE q hP (by intro z; cases z))]; exact q
def Bm (mg : SV) (base : Heap) : Prop := ∃ bm ob, mg "__builtins__" = some (.ref bm) /\ bm ≠ builtinsNs /\ base.get? bm = some ob /\ ob.cls = .type "module" /\ ob.dict = some builtinsNs /\ ob.data = .plain
theorem Bc {params : Arguments} {scope : Scope} {Q : Value -> Shared -> Prop} (I : Inv X pins σ H s) (hT : Tab H P) (hq : bM.q P = X.env.qual ++ "<lambda>") (lQ : X.env.code = .ref c)
    (hC : ∀ h, X.K.In h -> CodeHd h c P) (hB : Bm X.mg X.base) (hd : params.defaults = []) (M5 : params.kw_defaults = []) (sM : ∀ y ∈ scope.names, y.2 = .free -> X.env.scope.names.lookup y.1 = some .cell \/ X.env.scope.names.lookup y.1 = some .free)
    (h : ∀ s' H' f c' ct pm, Inv X (pins ++ [(f, kla_obj "<lambda>" (X.env.qual ++ "<lambda>") params body scope (a9 X.env.cells scope.names []) pm c' ct)]) σ H' s' -> Kp H H' -> H' c' = some (yq c' (X.env.qual ++ "<lambda>")) -> Q (.ref f) s') :
    wpAny (model X.prog X.w) X.A (eval (.Lambda params body scope n8) X.env) Q E s := by
  obtain ⟨ps, hP, ht, Tz⟩ := hT
  obtain ⟨bm, ob, b1, b2, b3, b4, b5, b6⟩ := hB
  have OH : s.heap.get? P = some (tabObj ps) := I.hok P _ hP
  have hg : s.heap.Ns mainGlobals X.mg := I.mod.glob.keeps I.bk
  have HG : closureFor scope X.env = pure (a9 X.env.cells scope.names []) := u5 fun y hy e => by
    rcases sM y hy e with k | k
    . exact I.ok.has _ (.inl k)
    . exact I.ok.has _ (.inr k)
  have TC : mainGlobals ≠ P := fun q => by
    obtain ⟨o, es, ep, e, hd, _⟩ := hg
    rw [q, OH] at e; cases e; cases hd
  have Iz := I.bk _ _ b3
  have Qp : bm ≠ P := fun q => by
    rw [q, OH] at Iz; cases Iz; cases b4
  have TF : bm ≠ mainGlobals := fun q => by
    obtain ⟨o, es, ep, e, hd, _⟩ := hg
    rw [<- q, Iz] at e; cases e; rw [hd] at b6; cases b6
  have hb : s.heap.BuiltinsAt X.mg P := ⟨bm, ob, b1, b2, TF, Qp, Iz, b4, b5, b6⟩
  rw [arm_eval_Lambda, defaultsOf_eq, hd, M5]
  show wpAny _ _ (do let dv <- evalAll ([] : List (Sem Value)); let TH <- holding dv (evalAllOpt []); makeFunction "<lambda>" (X.env.qual ++ "<lambda>") params (.expr body) scope X.env dv TH [] n8 n8.line) Q E s
  refine Vi (Vo (Vi (V7 (Vo ?_))))
  have fin : ∀ {h' : Heap} {tk : Nat} {H' : Hp} {c' : Addr} {ct pm : Value}, Inv X pins σ H' { s with heap := h', toks := tk } -> Kp H H' -> H' c' = some (yq c' (X.env.qual ++ "<lambda>")) ->
      Q (.ref h'.objs.size) { s with heap := h'.push (kla_obj "<lambda>" (X.env.qual ++ "<lambda>") params body scope (a9 X.env.cells scope.names []) pm c' ct), toks := tk } := by
    intro h' tk H' c' ct pm J kp hc
    exact h _ H' _ c' ct pm (Inv.zc (t' := tk) J (fun b o e => Vm _ e) (Vq _) (VA _ rfl) fun v z => by cases z).1 kp hc
  cases e : codeAmong n8 ps.toList with
  | none =>
    refine PySem.W.kla_makeFunction (mg := X.mg) HG I.ok.glob hg lQ (hC _ I.kIn) OH ht e TC hb fun c' ct h' tk hx Qq cN M6 OG => ?_
    have J1 : Inv X pins σ (upd H P (.tbl (ps ++ #[rawInt n8.line, rawInt n8.col, .ref c']))) { s with heap := h', toks := tk } := Inv.grow I hP hx OG
    have GD : H c' = none := I.hok.fresh Qq
    have RM : c' ≠ P := fun z => by rw [z, hP] at GD; cases GD
    obtain ⟨oc, Om⟩ : ∃ o, h'.get? c' = some o := by
      obtain ⟨_, o, _, _, e2, ho, _⟩ := M6
      cases e2
      exact ⟨o, ho⟩
    have n1 : (upd H P (.tbl (ps ++ #[rawInt n8.line, rawInt n8.col, .ref c']))) c' = none := by rw [aM RM]; exact GD
    have fp : oJ X pins (upd H P (.tbl (ps ++ #[rawInt n8.line, rawInt n8.col, .ref c']))) c' := I.Cj Qq n1
    have J2 := Inv.adopt (o := yq c' (X.env.qual ++ "<lambda>")) J1 fp (VH I.sz Qq) ⟨M6, ⟨oc, Om⟩, fun h1 h2 ⟨a, o, vs, t, e1, e2, e3⟩ k => by
      cases e1
      exact ⟨_, o, vs, t, rfl, k o e2, e3⟩⟩
    refine fin J2 ⟨fun b o eb hi _ => ?_, fun P2 E1 => ?_⟩ aA
    . have Qp : b ≠ P := eE eb hP (by intro z; rw [z] at hi; cases hi)
      rw [aM (aF eb GD), aM Qp]; exact eb
    . obtain ⟨qs, g1, g2, g3⟩ := E1
      by_cases RN : P2 = P
      . subst RN
        rw [hP] at g1
        cases g1
        refine ⟨ps ++ #[rawInt n8.line, rawInt n8.col, .ref c'], by rw [aM (Ne.symm RM), aA], ?_, fun pos cv e2 => ?_⟩
        . rw [Array.toList_append]; exact PySem.TriplesOk_snoc _ _ _ _ ht
        . rw [Array.toList_append] at e2
          rcases w9 _ ht e2 with z | z
          . obtain ⟨c2, z1, z2⟩ := g3 pos cv z
            refine ⟨c2, z1, ?_⟩
            rw [aM (aF z2 GD), aM (eE z2 hP (by intro z; cases z))]; exact z2
          . exact ⟨c', z, by rw [aA, hq]⟩
      . refine ⟨qs, by rw [aM (aF g1 GD), aM RN]; exact g1, g2, fun pos cv e2 => ?_⟩
        obtain ⟨c2, z1, z2⟩ := g3 pos cv e2
        refine ⟨c2, z1, ?_⟩
        rw [aM (aF z2 GD), aM (eE z2 hP (by intro z; cases z))]; exact z2
  | some cv =>
    obtain ⟨c', rfl, B7⟩ := Tz n8 cv e
    rw [hq] at B7
    refine PySem.W.kla_makeFunctionHit (mg := X.mg) HG I.ok.glob hg lQ (hC _ I.kIn) OH ht e hb fun ct h' tk hk hsz => ?_
    exact fin (I.kept hk) (Kp.refl _) B7
theorem GF (I : Inv X pins σ H s) (h : H c = some (yq c q)) : s.heap.CodeRec (.ref c) q := (I.hok c _ h).1
end
def iR (K : FG) (σ : St) (te : TE) (caps : List (Str × Nat)) (P : Addr) (xs : List V) (H1 : Hp) (Q : VK) : Prop :=
  ∃ (ks : List (List Int)), xs.length <= 1000 /\ ks.length = xs.length /\ (∀ k ∈ ks, k ≠ []) /\ Tab H1 P /\
    (∀ (i : Nat) (v : V) (k : List Int) (H2 : Hp) (Ky : VK), xs[i]? = some v -> ks[i]? = some k -> Kp H1 H2 -> (∀ p H3, Kp H2 H3 -> H3 p = some (.tup (k.map V.int)) -> Ky (.ref p) H3) -> te (A8 σ v caps) H2 Ky) /\
    ∀ (H' : Hp) (D : Addr) (ps : List (List Int × V)), Kp H1 H' -> H' D = none -> ps.Perm (ks.zip xs) -> ps.Pairwise (fun a b => PyProof.Rows.lexLt itemOrd (b.1.map Sum.inl) (a.1.map Sum.inl) = false) -> Q (.ref D) (upd H' D (.lst (ps.map (·.2))))
def CK (K : FG) (ta te : TE) (caps : List (Str × Nat)) (P : Addr) : TE := fun σ H Q => ta σ H fun x H1 => ∃ a xs, x = .ref a /\ SqL K H1 a xs /\ iR K σ te caps P xs H1 Q
section
variable {X : Cx} {pins : List (Addr × Obj)} {σ : St} {H : Hp} {s : Shared} {E : Value -> Shared -> Prop}
theorem vh {f : Addr} {k : Nat}
    (hr : c7 (k + 1) X.A) (L : A6 X "<lambda>" (X.env.qual ++ "<lambda>") params body scope x caps)
    (jP : ∀ (f : Addr) (cd : Value) (cl : List (Str × Addr)) (A : Around) (s : Shared) (H : Hp), PE (A7 X (x :: caps.map (·.1)) (X.env.qual ++ "<lambda>") scope f cd cl A s H) body te)
    (I : Inv X (pins ++ [(f, kla_obj "<lambda>" (X.env.qual ++ "<lambda>") params body scope (a9 X.env.cells scope.names []) pm c' ct)]) σ H s) (B7 : H c' = some (yq c' (X.env.qual ++ "<lambda>"))) (Mq : Kp H1 H) (rv : Vals xs vs)
    (h : iR X.K σ te caps P xs H1 Q) :
    wpAny (model X.prog X.w) X.A.in1 (do let l <- newList vs; let _ <- holding [l] (call (.builtin "list.sort") [l] [(Str.ofString "key", .ref f)]); ret l) (fun fin s' => ∃ v, fin = .done (.ret v) /\ EP X pins σ Q v s') E s := by
  obtain ⟨ks, hz, hl, qi, hT, turn, done⟩ := h
  have Tv : vs.length = xs.length := rv.length.symm
  refine Vi (wpAny_newList ?_ (by rw [Vr]; omega))
  obtain ⟨I2, wD⟩ := Inv.zc (t' := s.toks) (h' := s.heap.push (seqObj "list" vs.toArray 0)) I (fun c u e => Vm _ e) (Vq _) (o := seqObj "list" vs.toArray 0) (VA _ rfl) fq
  have Pl : (s.heap.push (seqObj "list" vs.toArray 0)).get? s.heap.objs.size = some (seqObj "list" vs.toArray 0) := VA _ rfl
  refine Vi (V7 (wpAny_call_entry_kw slot_list_sort ⟨_, Pl, rfl⟩ entry_list_sort ?body (ksk_l1 _ _)))
  case body =>
    rw [ksk_t1]
    refine E7 (ks := ks) I2 wD rv hl hz qi (fun i v u k2 xU s' H' hv ru hk J kp => ?_) fun s' H' ps J kp hn pp pw => ⟨.none, rfl, Vo ⟨_, rfl, .ref _, _, J, rfl, done H' _ ps (Mq.trans kp) hn pp pw⟩⟩
    have TJ := (J.pin (f, kla_obj "<lambda>" (X.env.qual ++ "<lambda>") params body scope (a9 X.env.cells scope.names []) pm c' ct) (by simp)).1
    refine wpAny_call (codeAny_mono (Iw (te := te) (caps := caps) (x := x) (Q := fun w H3 => Kp H' H3 /\ ∃ p, w = .ref p /\ H3 p = some (.tup (k2.map V.int))) J (show X.A.in1.in1.frames = some X.stack from J.ok.frames) hr.hd (by have := hr.dp; show X.A.depth < _; omega) TJ (GF J (kp.get B7)) L (jP _ _ _ _ _ _) ru
      (turn i v k2 H' _ hv hk (Mq.trans kp) fun p H3 k3 e3 => ⟨k3, p, rfl, e3⟩)) fun r HE hq => ?_)
    obtain ⟨u', rfl, ce⟩ := hq
    obtain ⟨v', H3, J3, r3, k3, p, rfl, e3⟩ := J.after ce
    exact ⟨H3, J3, k3, p, r3, e3⟩
theorem GG {k : Nat} {p ER : Pos} (hg : Gl X "sorted") (hm : X.mg "sorted" = none) (ha : PE X e ta) (hr : c7 (k + 1) X.A)
    (L : A6 X "<lambda>" (X.env.qual ++ "<lambda>") params body scope x caps) (jP : ∀ (f : Addr) (cd : Value) (cl : List (Str × Addr)) (A : Around) (s : Shared) (H : Hp), PE (A7 X (x :: caps.map (·.1)) (X.env.qual ++ "<lambda>") scope f cd cl A s H) body te)
    (hq : bM.q P = X.env.qual ++ "<lambda>") (lQ : X.env.code = .ref c) (hC : ∀ h, X.K.In h -> CodeHd h c P) (hB : Bm X.mg X.base) (hd : params.defaults = []) (M5 : params.kw_defaults = [])
    (Az : starEach [e] X.env = [(false, eval e X.env)] := by rfl) :
    PE X (.Call (.Name "sorted" p) [e] [⟨some "key", .Lambda params body scope n8, ER⟩] pos) (CK X.K ta te caps P) := by
  intro pins s σ H Q I h
  refine Wg (ku I hg hm boot_sorted ?_)
  refine callWith_kw ?_ (by rw [Az]; rfl) (by rw [Az]; rfl)
  rw [Az]
  show wpAny _ _ (spliced ((false, eval e X.env) :: [])) _ _ s
  refine Wi (thn (ha pins s σ H _ I h) fun u s1 ⟨x0, H1, I1, rx, a, xs, ev, hs, q⟩ => Calls.spliced_nil ?_)
  have q2 : iR X.K σ te caps P xs H1 Q := q
  obtain ⟨ks, hz, hl, qi, hT, turn, done⟩ := id q2
  subst ev
  obtain rfl : u = Value.ref a := rx
  show wpAny _ _ (evalAll [(do let v <- eval (.Lambda params body scope n8) X.env; standAt pos; pure v)]) _ _ s1
  refine wpAny_evalAll_cons (Vi (Bc I1 hT hq lQ hC hB hd M5 L.free fun s2 H2 f c' ct pm I2 kp B7 => Vi (wpAny_standAt (Vo (wpAny_evalAll_nil ?_)))))
  show wpAny _ _ (call (.builtin "sorted") [.ref a] [(Str.ofString "key", .ref f)]) _ _ s2
  refine call_function_entry_kw kind_sorted plain_sorted entry_sorted (ksk_s1 _ _) ?_
  unfold Builtin.«sorted»
  refine Vi (m := checkCount "sorted" 1 1 _) (Vo ?_)
  obtain ⟨aK, rv, iH, Iy⟩ := I2.list (kp.bI hs)
  refine Vi (collect_list iH.isList ?_ (by rw [<- rv.length]; exact Iy))
  have I3 : Inv X (pins ++ [(f, kla_obj "<lambda>" (X.env.qual ++ "<lambda>") params body scope (a9 X.env.cells scope.names []) pm c' ct)]) σ H2 { s2 with heap := (s2.heap.push (seqObj "list" #[] 0)).update s2.heap.objs.size (Obj.mapSeq (· ++ aK.toArray)) } :=
    I2.kept (t' := s2.toks) fun b o e => by
      rw [Heap.get?_update_ne _ _ _ _ (Vp (Vu e))]
      exact Vm _ e
  exact vh hr L jP I3 B7 kp rv q2
end
theorem rG : ∀ a : List Int, HT.lexLt a a = false
  | [] => rfl
  | x :: a => by rw [HT.dY, Vj rfl]; exact rG a
theorem vk : ∀ {a b c : List Int}, HT.lexLt a b = true -> HT.lexLt b c = true -> HT.lexLt a c = true
  | [], [], _, h, _ => by cases h
  | [], _ :: _, [], _, h => by cases h
  | [], _ :: _, _ :: _, _, _ => rfl
  | _ :: _, [], _, h, _ => by cases h
  | _ :: _, _ :: _, [], _, h => by cases h
  | x :: a, y :: b, z :: c, h1, h2 => by
    rw [HT.dY] at h1 h2 ⊢
    by_cases e1 : x = y
    . subst e1
      rw [Vj rfl] at h1
      by_cases e2 : x = z
      . subst e2
        rw [Vj rfl] at h2 ⊢
        exact vk h1 h2
      . rw [Vh e2] at h2 ⊢
        exact h2
    . rw [Vh e1] at h1
      have l1 := Vn h1
      by_cases e2 : y = z
      . subst e2
        rw [Vh e1]
        exact h1
      . rw [Vh e2] at h2
        have l2 := Vn h2
        rw [Vh (by omega)]
        exact Vw (by omega)
theorem kE {bt : Nat -> Nat -> Bool} (J6 : ∀ i, bt i i = false) (tr : ∀ i j k, bt i j = true -> bt j k = true -> bt i k = true) : ∀ k, argBest bt k <= k /\ ∀ j, j <= k -> bt j (argBest bt k) = false
  | 0 => ⟨Vq _, fun j hj => by
    obtain rfl : j = 0 := by omega
    exact J6 0⟩
  | k + 1 => by
    obtain ⟨h1, h2⟩ := kE J6 tr k
    unfold argBest
    cases hb : bt (k + 1) (argBest bt k) with
    | true =>
      rw [Vj rfl]
      refine ⟨Vq _, fun j hj => ?_⟩
      by_cases e : j = k + 1
      . rw [e]; exact J6 _
      . cases q : bt j (k + 1) with
        | false => rfl
        | true =>
          have := tr _ _ _ q hb
          rw [h2 j (by omega)] at this
          cases this
    | false =>
      rw [Vh VD]
      refine ⟨by omega, fun j hj => ?_⟩
      by_cases e : j = k + 1
      . rw [e]; exact hb
      . exact h2 j (by omega)
section
open PySem.SeqAt
open PySem.AutoSeq1 (wpAny_loadPart')
open PySem.MeetsSeq PySem.MeetsSeq2 PySem.MeetsSeq3
theorem Eo {us : Array Value} {ns : List Int} (hi : IntsAre us.toList ns) {i : Nat} (h : i < us.size) : ∃ n t, ns[i]? = some n /\ us[i]? = some (.int n t) := by
  have hl := hi.length
  rw [length_toList] at hl
  obtain ⟨t, ht⟩ := hi.get i ns[i] (Vl (by omega))
  exact ⟨_, t, Vl (by omega), by rw [<- getElem?_toList]; exact ht⟩
theorem IA (l b : Addr) (items bL : Array Value) (n n2 : Nat) (dd Cv : Option Addr) (sl Cw : Array (Option Value)) (ns ms : List Int) (hi : IntsAre items.toList ns) (hj : IntsAre bL.toList ms) (k : Nat) :
    ∀ i : Nat, items.size - i = k -> i <= items.size -> i <= bL.size -> Meets (Builtin.«list.__eq__.loop» ⟨[.ref l, .ref b, rawInt i, rawInt 4], []⟩)
      (fun _ R s => s.heap.get? l = some { cls := .type "list", dict := dd, data := .seq items n, slots := sl } /\ s.heap.get? b = some { cls := .type "list", dict := Cv, data := .seq bL n2, slots := Cw } /\
        R (.ok (.ret (.bool (HT.lexLt (ms.drop i) (ns.drop i))))) s) := by
  have z1 : items.size = ns.length := by rw [<- hi.length]; simp
  have z2 : bL.size = ms.length := by rw [<- hj.length]; simp
  induction k with
  | zero =>
    intro i hk h1 h2 prog w A R s h
    obtain ⟨hp, g, d, tk, os⟩ := s; obtain ⟨hl, hb, h⟩ := h
    have e1 : items[((i : Nat) : Int).toNat]? = none := by simp; omega
    have ed : ns.drop i = [] := List.drop_eq_nil_iff.mpr (by omega)
    have ev : HT.lexLt (ms.drop i) [] = decide (items.size > bL.size) := by
      rw [VN (by omega)]
      cases ms.drop i <;> rfl
    rw [ed, ev] at h
    wp_walk using VX hl, VX hb
    rw [e1]
    wp_walk using VX hl, VX hb
    exact h
  | succ k ih =>
    intro i hk h1 h2 prog w A R s h
    obtain ⟨hp, g, d, tk, os⟩ := s; obtain ⟨hl, hb, h⟩ := h
    have cN : i < items.size := by omega
    obtain ⟨x, t, ex, ux⟩ := Eo hi cN
    have e1 : items[((i : Nat) : Int).toNat]? = some (.int x t) := ux
    have dx : ns.drop i = x :: ns.drop (i + 1) := by
      obtain ⟨q, e⟩ := List.getElem?_eq_some_iff.mp ex
      rw [V8 q, e]
    wp_walk using VX hl, VX hb
    rw [e1]
    by_cases K5 : i < bL.size
    . obtain ⟨y, u, ey, uy⟩ := Eo hj K5
      have e2 : bL[((i : Nat) : Int).toNat]? = some (.int y u) := uy
      have dy : ms.drop i = y :: ms.drop (i + 1) := by
        obtain ⟨q, e⟩ := List.getElem?_eq_some_iff.mp ey
        rw [V8 q, e]
      rw [dx, dy, HT.dY] at h
      rw [e2]
      obtain ⟨e, he, Gb⟩ := HT.AL A.in1 ⟨hp, g, d, tk, os⟩ x t y u
      refine Vi (he prog w _ _ ?_)
      cases e with
      | true =>
        rw [Vj (Gb.mp rfl).symm] at h
        have hc : ((i : Int) + 1) = ((i + 1 : Nat) : Int) := by omega
        wp_walk
        rw [hc]
        exact ⟨V1 plain_eq_loop _, V4 entry_eq_loop (by
          rw [V5 plain_eq_loop _]
          exact ih (i + 1) (by omega) (by omega) (by omega) prog w A R _ ⟨hl, hb, h⟩)⟩
      | false =>
        rw [Vh (fun q => absurd (Gb.mpr q.symm) VD)] at h
        have Px : ∀ (E : Value -> Shared -> Prop) (Q : Value -> Shared -> Prop), Q (.bool (decide (y < x))) ⟨hp, g, d, tk, os⟩ -> wpAny (model prog w) A.in1 (richCompare .Gt (.int x t) (.int y u)) Q E ⟨hp, g, d, tk, os⟩ :=
          fun E Q hq => (PyProof.Rows.gt_int hq : wpAny (model prog w) A.in1 (compareOp .Gt (.int x t) (.int y u)) Q E _)
        wp_walk using VX hl, VX hb
        rw [e1, e2]
        wp_walk using Px
        exact h
    . have e2 : bL[((i : Nat) : Int).toNat]? = none := by simp; omega
      have dy : ms.drop i = [] := List.drop_eq_nil_iff.mpr (by omega)
      have ev : HT.lexLt [] (x :: ns.drop (i + 1)) = decide (items.size > bL.size) := by
        rw [Vw (by omega)]; rfl
      rw [dx, dy, ev] at h
      rw [e2]
      wp_walk using VX hl, VX hb
      exact h
theorem zd (l b : Addr) (items bL : Array Value) (n n2 : Nat) (dd Cv : Option Addr) (sl Cw : Array (Option Value)) (ns ms : List Int) (hi : IntsAre items.toList ns) (hj : IntsAre bL.toList ms) :
    Meets (Builtin.«list.__gt__» ⟨[.ref l, .ref b], []⟩)
      (fun _ R s => s.heap.get? l = some { cls := .type "list", dict := dd, data := .seq items n, slots := sl } /\ s.heap.get? b = some { cls := .type "list", dict := Cv, data := .seq bL n2, slots := Cw } /\
        R (.ok (.ret (.bool (HT.lexLt ms ns)))) s) := by
  intro prog w A R s h
  obtain ⟨hp, g, d, tk, os⟩ := s; obtain ⟨hl, hb, h⟩ := h
  have f3 := AutoSeq1.sub_list_list
  wp_walk using VX hl, VX hb
  exact ⟨V1 plain_eq_loop _, V4 entry_eq_loop (by
    rw [V5 plain_eq_loop _]
    exact IA l b items bL n n2 dd Cv sl Cw ns ms hi hj _ 0 rfl (VF _) (VF _) prog w A R _ ⟨hl, hb, by simpa using h⟩)⟩
end
theorem GH {A : Around} {s : Shared} {items bL : Array Value} {ns ms : List Int} {Q : Value -> Shared -> Prop} (hl : s.heap.IsList l items) (hb : s.heap.IsList b bL) (hi : IntsAre items.toList ns) (hj : IntsAre bL.toList ms)
    (hu : A.units < cLine) (h : Q (.bool (HT.lexLt ms ns)) s) : wpAny (model prog w) A (richCompare .Gt (.ref l) (.ref b)) Q E s := by
  obtain ⟨⟨cls, dd, data, sl⟩, ho, hc, n, hd⟩ := id hl
  obtain ⟨⟨KC, Cv, data2, Cw⟩, Ea, wJ, n2, hd2⟩ := id hb
  simp only at hc hd wJ hd2
  subst hc hd wJ hd2
  exact richCompare_meets_room (op := .Gt) ⟨_, ho, rfl⟩ ⟨_, Ea, rfl⟩ PySem.F.slot_list_gt PySem.F.entry_list_gt (PySem.F.args_list_gt_2 _ _) (zd l b items bL n n2 dd Cv sl Cw ns ms hi hj)
    ⟨ho, Ea, show Value.bool (HT.lexLt ms ns) ≠ Value.notImplemented /\ Q (.bool (HT.lexLt ms ns)) s from ⟨(fun x => nomatch x), h⟩⟩ hu
def Ep (prog : Program) (w : World) (A : Around) (op : CmpOp) (OK : Heap -> Prop) (P : Nat -> Value -> Prop) (bt : Nat -> Nat -> Bool) : Prop :=
  ∀ i j vi vj (s : Shared) (Q E : Value -> Shared -> Prop), OK s.heap -> P i vi -> P j vj -> Q (.bool (bt i j)) s -> wpAny (model prog w) A (richCompare op vi vj) Q E s
section
variable {prog : Program} {w : World} {A : Around} {R : Result -> Shared -> Prop} {I S : Addr} {fp wr : List Addr} {n : Nat} {P : Nat -> Value -> Prop} {St : Nat -> Heap -> Prop} {OK : Heap -> Prop} {bt : Nat -> Nat -> Bool} {kw : List (Str × Value)}
abbrev store (vs : Array Value) (c : Nat) : Obj := { cls := .type "list", dict := none, data := .seq vs c, slots := #[] }
theorem M7 (W : Walks prog w A.in1 I fp wr n P St) (hS : S ∉ fp) (g8 : ∀ h h', OK h -> (∀ b o, b ∉ wr -> b ≠ S -> h.get? b = some o -> h'.get? b = some o) -> OK h') (cmp : Ep prog w A.in1 .Lt OK P bt) :
    ∀ (k j : Nat) (s : Shared) (vb : Value) (c : Nat), n - (j + 1) = k -> j + 1 <= n -> OK s.heap -> St (j + 1) s.heap -> P (argBest bt j) vb -> s.heap.get? S = some (store #[vb, vb] c) ->
    (∀ v h' tk, P (argBest bt (n - 1)) v -> (∀ b o, b ∉ wr -> b ≠ S -> s.heap.get? b = some o -> h'.get? b = some o) -> R (.ok (.ret v)) { s with heap := h', toks := tk }) ->
    codeAny (model prog w) A (.builtin "min.loop" ⟨[.ref I, .none, .ref S], kw⟩) R s := by
  have nw : S ∉ wr := fun h => hS (W.sub _ h)
  have nm : (toString "min" ++ toString ".loop" : String) = "min.loop" := by decide
  intro k
  induction k with
  | zero =>
    intro j s vb c hk hj ok st hv hs hR
    obtain rfl : n = j + 1 := by omega
    refine V4 entry_min_loop ?_
    rw [V5 V9 _]
    show wpAny _ A.in1 (seqItems? (.ref S) >>= _) _ _ s
    refine Vi (VY hs rfl ?_)
    show wpAny _ A.in1 (tryCatch (pyNext (.ref I)) _ >>= _) _ _ s
    refine Vi (Wc (W.done s _ _ st fun h' tk keep => ?_))
    have wL := keep S _ nw hs
    show wpAny _ A.in1 (updateSeq S (fun _ => #[]) >>= _) _ _ _
    refine Vi (wpAny_updateSeq wL rfl (Vi (wpAny_letGo (Vo ?_))))
    exact hR vb _ tk hv fun b o hb rH e => (VS _ _ (Ne.symm rH)).trans (keep b o hb e)
  | succ k ih =>
    intro j s vb c hk hj ok st hv hs hR
    refine V4 entry_min_loop ?_
    rw [V5 V9 _]
    show wpAny _ A.in1 (seqItems? (.ref S) >>= _) _ _ s
    refine Vi (VY hs rfl ?_)
    show wpAny _ A.in1 (tryCatch (pyNext (.ref I)) _ >>= _) _ _ s
    refine Vi (Wc (W.item (j + 1) s _ _ (by omega) st fun v h' tk hp tX keep => ?_))
    have wL := keep S _ nw hs
    have GI : OK h' := g8 _ _ ok fun b o hb _ e => keep b o hb e
    show wpAny _ A.in1 (tryCatch (holding [v, v] (richCompare .Lt v vb >>= _)) _ >>= _) _ _ _
    refine Vi (Wc (V7 (Vi (cmp (j + 1) (argBest bt j) v vb _ _ _ GI hp hv ?_))))
    refine Vi (V7 (V6 (Vi (wpAny_letGo (Vo ?_)))))
    cases hb : bt (j + 1) (argBest bt j) with
    | true =>
      simp only [if_true]
      refine Vi (wpAny_updateSeq wL rfl (Vi (wpAny_letGo ?_)))
      rw [nm]
      refine Vo ⟨V1 V9 _, ih (j + 1) _ v _ (by omega) (by omega) (g8 _ _ GI fun b o _ rH e => (VS _ _ (Ne.symm rH)).trans e) (W.frame _ _ _ tX fun b K6 o e => ?_) (by simp only [argBest, hb, if_true]; exact hp) (Wj _ wL rfl)
        fun v' yi vm GJ mB => hR v' yi vm GJ fun b o Bd rH e => mB b o Bd rH ((VS _ _ (Ne.symm rH)).trans (keep b o Bd e))⟩
      exact (VS _ _ (fun h : S = b => hS (by rw [h]; exact K6))).trans e
    | false =>
      simp only [V3, if_false]
      refine Vi (wpAny_letGo ?_)
      rw [nm]
      exact Vo ⟨V1 V9 _, ih (j + 1) _ vb c (by omega) (by omega) GI tX (by simp only [argBest, hb, V3, if_false]; exact hv) wL
        fun v' yi vm GJ mB => hR v' yi vm GJ fun b o Bd rH e => mB b o Bd rH (keep b o Bd e)⟩
theorem Be (W : Walks prog w A.in1 I fp wr n P St) (hS : S ∉ fp) (g8 : ∀ h h', OK h -> (∀ b o, b ∉ wr -> b ≠ S -> h.get? b = some o -> h'.get? b = some o) -> OK h') (cmp : Ep prog w A.in1 .Lt OK P bt) (hn : 0 < n) {s : Shared} {c : Nat} (ok : OK s.heap) (st : St 0 s.heap)
    (hs : s.heap.get? S = some (store #[] c)) (hR : ∀ v h' tk, P (argBest bt (n - 1)) v -> (∀ b o, b ∉ wr -> b ≠ S -> s.heap.get? b = some o -> h'.get? b = some o) -> R (.ok (.ret v)) { s with heap := h', toks := tk }) :
    codeAny (model prog w) A (.builtin "min.loop" ⟨[.ref I, .none, .ref S], kw⟩) R s := by
  have nw : S ∉ wr := fun h => hS (W.sub _ h)
  have nm : (toString "min" ++ toString ".loop" : String) = "min.loop" := by decide
  refine V4 entry_min_loop ?_
  rw [V5 V9 _]
  show wpAny _ A.in1 (seqItems? (.ref S) >>= _) _ _ s
  refine Vi (VY hs rfl ?_)
  show wpAny _ A.in1 (tryCatch (pyNext (.ref I)) _ >>= _) _ _ s
  refine Vi (Wc (W.item 0 s _ _ hn st fun v h' tk hp tX keep => ?_))
  have wL := keep S _ nw hs
  have GI : OK h' := g8 _ _ ok fun b o hb _ e => keep b o hb e
  show wpAny _ A.in1 (updateSeq S (fun _ => #[v, v]) >>= _) _ _ _
  refine Vi (wpAny_updateSeq wL rfl ?_)
  rw [nm]
  refine Vo ⟨V1 V9 _, M7 W hS g8 cmp _ 0 _ v _ rfl hn (g8 _ _ GI fun b o _ rH e => (VS _ _ (Ne.symm rH)).trans e) (W.frame _ _ _ tX fun b K6 o e => ?_) hp (Wj _ wL rfl)
    fun v' yi vm GJ mB => hR v' yi vm GJ fun b o Bd rH e => mB b o Bd rH ((VS _ _ (Ne.symm rH)).trans (keep b o Bd e))⟩
  exact (VS _ _ (fun h : S = b => hS (by rw [h]; exact K6))).trans e
theorem IB (W : Walks prog w A.in1 I fp wr 0 P St) (hS : S ∉ fp) {s : Shared} {c : Nat} {TK : Str} (st : St 0 s.heap) (hs : s.heap.get? S = some (store #[] c))
    (hR : ∀ h' tk, (∀ b o, b ∉ wr -> s.heap.get? b = some o -> h'.get? b = some o) -> R (.ok (.ret d)) { s with heap := h', toks := tk }) :
    codeAny (model prog w) A (.builtin "min.loop" ⟨[.ref I, .none, .ref S], [(TK, d)]⟩) R s := by
  refine V4 entry_min_loop ?_
  rw [V5 V9 _]
  show wpAny _ A.in1 (seqItems? (.ref S) >>= _) _ _ s
  refine Vi (VY hs rfl ?_)
  show wpAny _ A.in1 (tryCatch (pyNext (.ref I)) _ >>= _) _ _ s
  refine Vi (Wc (W.done s _ _ st fun h' tk keep => ?_))
  show wpAny _ A.in1 (do rule _; ret d) _ _ _
  exact Vi (wpAny_rule (Vo (hR h' tk keep)))
theorem M8 (W : Walks prog w A.in1 I fp wr n P St) (hS : S ∉ fp) (g8 : ∀ h h', OK h -> (∀ b o, b ∉ wr -> b ≠ S -> h.get? b = some o -> h'.get? b = some o) -> OK h') (cmp : Ep prog w A.in1 .Gt OK P bt) :
    ∀ (k j : Nat) (s : Shared) (vb : Value) (c : Nat), n - (j + 1) = k -> j + 1 <= n -> OK s.heap -> St (j + 1) s.heap -> P (argBest bt j) vb -> s.heap.get? S = some (store #[vb, vb] c) ->
    (∀ v h' tk, P (argBest bt (n - 1)) v -> (∀ b o, b ∉ wr -> b ≠ S -> s.heap.get? b = some o -> h'.get? b = some o) -> R (.ok (.ret v)) { s with heap := h', toks := tk }) ->
    codeAny (model prog w) A (.builtin "max.loop" ⟨[.ref I, .none, .ref S], kw⟩) R s := by
  have nw : S ∉ wr := fun h => hS (W.sub _ h)
  have nm : (toString "max" ++ toString ".loop" : String) = "max.loop" := by decide
  intro k
  induction k with
  | zero =>
    intro j s vb c hk hj ok st hv hs hR
    obtain rfl : n = j + 1 := by omega
    refine V4 entry_max_loop ?_
    rw [V5 plain_max_loop _]
    show wpAny _ A.in1 (seqItems? (.ref S) >>= _) _ _ s
    refine Vi (VY hs rfl ?_)
    show wpAny _ A.in1 (tryCatch (pyNext (.ref I)) _ >>= _) _ _ s
    refine Vi (Wc (W.done s _ _ st fun h' tk keep => ?_))
    have wL := keep S _ nw hs
    show wpAny _ A.in1 (updateSeq S (fun _ => #[]) >>= _) _ _ _
    refine Vi (wpAny_updateSeq wL rfl (Vi (wpAny_letGo (Vo ?_))))
    exact hR vb _ tk hv fun b o hb rH e => (VS _ _ (Ne.symm rH)).trans (keep b o hb e)
  | succ k ih =>
    intro j s vb c hk hj ok st hv hs hR
    refine V4 entry_max_loop ?_
    rw [V5 plain_max_loop _]
    show wpAny _ A.in1 (seqItems? (.ref S) >>= _) _ _ s
    refine Vi (VY hs rfl ?_)
    show wpAny _ A.in1 (tryCatch (pyNext (.ref I)) _ >>= _) _ _ s
    refine Vi (Wc (W.item (j + 1) s _ _ (by omega) st fun v h' tk hp tX keep => ?_))
    have wL := keep S _ nw hs
    have GI : OK h' := g8 _ _ ok fun b o hb _ e => keep b o hb e
    show wpAny _ A.in1 (tryCatch (holding [v, v] (richCompare .Gt v vb >>= _)) _ >>= _) _ _ _
    refine Vi (Wc (V7 (Vi (cmp (j + 1) (argBest bt j) v vb _ _ _ GI hp hv ?_))))
    refine Vi (V7 (V6 (Vi (wpAny_letGo (Vo ?_)))))
    cases hb : bt (j + 1) (argBest bt j) with
    | true =>
      simp only [if_true]
      refine Vi (wpAny_updateSeq wL rfl (Vi (wpAny_letGo ?_)))
      rw [nm]
      refine Vo ⟨V1 plain_max_loop _, ih (j + 1) _ v _ (by omega) (by omega) (g8 _ _ GI fun b o _ rH e => (VS _ _ (Ne.symm rH)).trans e) (W.frame _ _ _ tX fun b K6 o e => ?_) (by simp only [argBest, hb, if_true]; exact hp) (Wj _ wL rfl)
        fun v' yi vm GJ mB => hR v' yi vm GJ fun b o Bd rH e => mB b o Bd rH ((VS _ _ (Ne.symm rH)).trans (keep b o Bd e))⟩
      exact (VS _ _ (fun h : S = b => hS (by rw [h]; exact K6))).trans e
    | false =>
      simp only [V3, if_false]
      refine Vi (wpAny_letGo ?_)
      rw [nm]
      exact Vo ⟨V1 plain_max_loop _, ih (j + 1) _ vb c (by omega) (by omega) GI tX (by simp only [argBest, hb, V3, if_false]; exact hv) wL
        fun v' yi vm GJ mB => hR v' yi vm GJ fun b o Bd rH e => mB b o Bd rH (keep b o Bd e)⟩
theorem GK (W : Walks prog w A.in1 I fp wr n P St) (hS : S ∉ fp) (g8 : ∀ h h', OK h -> (∀ b o, b ∉ wr -> b ≠ S -> h.get? b = some o -> h'.get? b = some o) -> OK h') (cmp : Ep prog w A.in1 .Gt OK P bt) (hn : 0 < n) {s : Shared} {c : Nat} (ok : OK s.heap) (st : St 0 s.heap)
    (hs : s.heap.get? S = some (store #[] c)) (hR : ∀ v h' tk, P (argBest bt (n - 1)) v -> (∀ b o, b ∉ wr -> b ≠ S -> s.heap.get? b = some o -> h'.get? b = some o) -> R (.ok (.ret v)) { s with heap := h', toks := tk }) :
    codeAny (model prog w) A (.builtin "max.loop" ⟨[.ref I, .none, .ref S], kw⟩) R s := by
  have nw : S ∉ wr := fun h => hS (W.sub _ h)
  have nm : (toString "max" ++ toString ".loop" : String) = "max.loop" := by decide
  refine V4 entry_max_loop ?_
  rw [V5 plain_max_loop _]
  show wpAny _ A.in1 (seqItems? (.ref S) >>= _) _ _ s
  refine Vi (VY hs rfl ?_)
  show wpAny _ A.in1 (tryCatch (pyNext (.ref I)) _ >>= _) _ _ s
  refine Vi (Wc (W.item 0 s _ _ hn st fun v h' tk hp tX keep => ?_))
  have wL := keep S _ nw hs
  have GI : OK h' := g8 _ _ ok fun b o hb _ e => keep b o hb e
  show wpAny _ A.in1 (updateSeq S (fun _ => #[v, v]) >>= _) _ _ _
  refine Vi (wpAny_updateSeq wL rfl ?_)
  rw [nm]
  refine Vo ⟨V1 plain_max_loop _, M8 W hS g8 cmp _ 0 _ v _ rfl hn (g8 _ _ GI fun b o _ rH e => (VS _ _ (Ne.symm rH)).trans e) (W.frame _ _ _ tX fun b K6 o e => ?_) hp (Wj _ wL rfl)
    fun v' yi vm GJ mB => hR v' yi vm GJ fun b o Bd rH e => mB b o Bd rH ((VS _ _ (Ne.symm rH)).trans (keep b o Bd e))⟩
  exact (VS _ _ (fun h : S = b => hS (by rw [h]; exact K6))).trans e
end
section
variable {X : Cx}
theorem rJ {pins : List (Addr × Obj)} {σ : St} {H : Hp} {s : Shared} {a : Addr} {aK : List Value} {A : Around} {E : Value -> Shared -> Prop} {Q : Value -> Shared -> Prop} (hl : s.heap.IsList a aK.toArray)
    (h : a ≠ s.heap.objs.size -> ((s.heap.push { cls := .type "list_iterator", data := .fields #[.ref a, .int 0 0] }).IsListIter s.heap.objs.size a 0 /\ (s.heap.push { cls := .type "list_iterator", data := .fields #[.ref a, .int 0 0] }).IsList a aK.toArray) ->
      Q (.ref s.heap.objs.size) { s with heap := s.heap.push { cls := .type "list_iterator", data := .fields #[.ref a, .int 0 0] } }) : wpAny (model X.prog X.w) A (pyIter (.ref a)) Q E s := by
  refine AO hl fun s2 e st qi => ?_
  subst e
  exact h qi st
def JK (K : FG) : List V -> Hp -> VK -> Prop := fun vs H Q => ∃ (a : Addr) (ps : List Addr) (ks : List (List Int)), vs = [V.ref a] /\ SqL K H a (ps.map V.ref) /\ Paired (fun p k => SqT K H p (k.map V.int)) ps ks /\ 0 < ps.length /\
  ∀ (i : Nat) p k, ps[i]? = some p -> ks[i]? = some k -> (∀ k' ∈ ks, HT.lexLt k' k = false) -> Q (.ref p) H
theorem cb {α β : Type} {R : α -> β -> Prop} : ∀ {l : List α} {m : List β} {i : Nat} {a : α}, Paired R l m -> l[i]? = some a -> ∃ b, m[i]? = some b /\ R a b
  | _, _, _, _, .nil, h => by simp at h
  | _, _, 0, _, .cons r _, h => by
    have e := Option.some.inj h
    subst e
    exact ⟨_, rfl, r⟩
  | _, _, i + 1, _, .cons _ t, h => cb (i := i) t h
theorem nz {ps : List Addr} (r : Vals (ps.map V.ref) aK) {i : Nat} {v : Value} (h : aK.toArray[i]? = some v) : ∃ p, ps[i]? = some p /\ v = .ref p := by
  have h' : aK[i]? = some v := by simpa using h
  have hl := r.length
  rw [Vg] at hl
  have hi : i < ps.length := by
    have := (List.getElem?_eq_some_iff.mp h').1
    omega
  obtain ⟨u, e, ru⟩ := r.get (i := i) (x := .ref ps[i]) (by rw [Vt, Vl hi]; rfl)
  rw [h'] at e
  cases e
  exact ⟨_, Vl hi, ru⟩
theorem E8 (hc : X.calm = true) (hu : X.A.units + 64 < cLine) : mm X (.builtin "min") (JK X.K) := by
  intro pins s σ H vs us Q I r h
  obtain ⟨a, ps, ks, rfl, hs, pk, hn, q⟩ := h
  obtain ⟨aK, rv, hl, hz⟩ := I.list hs
  rw [Vals.Ik r]
  have hlen : aK.length = ps.length := by rw [<- rv.length, Vg]
  have hk : ks.length = ps.length := (Paired.length pk).symm
  have nm : (toString "min" ++ toString ".loop" : String) = "min.loop" := by decide
  refine call_function_tree kind_min plain_min entry_min (PySem.F.args_min1 _) ?_
  show wpAny _ X.A.in1 (Builtin.Builtins.bindParams "min" ["key", "default"] 0 ⟨[], []⟩ >>= _) _ _ s
  refine Vi (wpAny_of_eq (show Builtin.Builtins.bindParams "min" ["key", "default"] 0 ⟨[], []⟩ = pure [none, none] from rfl) ?_)
  refine Vi (Vo (Vi (rJ (X := X) (pins := pins) (σ := σ) (H := H) hl.isList fun qi st => Vi (wpAny_newObj_type ?_))))
  rw [nm]
  let bt : Nat -> Nat -> Bool := fun i j => HT.lexLt (ks.getD i []) (ks.getD j [])
  have W := Walks.list (prog := X.prog) (w := X.w) (A := X.A.in1) (I.ok.hd hc) s.heap.objs.size a qi aK.toArray
  have hal : a < s.heap.objs.size := hl.lt
  refine Vo ⟨V1 V9 _, Be (bt := bt) (OK := fun h' => ∀ (i : Nat) p k, ps[i]? = some p -> ks[i]? = some k -> ∃ us, IsTup h' p us /\ IntsAre us.toList k /\ p < s.heap.objs.size) W (S := (s.heap.push { cls := .type "list_iterator", data := .fields #[.ref a, .int 0 0] }).objs.size) ?_ ?_ ?_ (by rw [Vx, hlen]; exact hn) ?_ (W.frame _ _ _ st fun b _ o e => Vm _ e) (VA _ rfl) fun v h' tk hp keep => ?_⟩
  . rw [VE]
    intro hm
    simp only [mem_cons, VT, or_false] at hm
    rcases hm with e | e
    . exact absurd e (succ_ne_self _)
    . exact absurd (e ▸ VW hal) (VO _)
  . intro h1 h2 ok keep i p k e1 e2
    obtain ⟨us, ht, hi, cN⟩ := ok i p k e1 e2
    obtain ⟨o, ho, hx⟩ := ht
    exact ⟨us, ⟨o, keep p o (by simp only [mem_singleton]; exact Vp cN) (by rw [VE]; exact Vp (VW cN)) ho, hx⟩, hi, cN⟩
  . intro i j vi vj s' Q' E' ok hi hj hq
    obtain ⟨p, e1, rfl⟩ := nz rv hi
    obtain ⟨p2, e2, rfl⟩ := nz rv hj
    obtain ⟨k, e3, _⟩ := cb pk e1
    obtain ⟨k2, e4, _⟩ := cb pk e2
    obtain ⟨us, t1, i1, _⟩ := ok i p k e1 e3
    obtain ⟨TM, t2, i2, _⟩ := ok j p2 k2 e2 e4
    have eq : bt i j = HT.lexLt k k2 := by
      show HT.lexLt (ks.getD i []) (ks.getD j []) = _
      simp [List.getD, e3, e4]
    rw [eq] at hq
    exact HT.Cy t1 t2 i1 i2 (by show X.A.units + 1 < _; omega) hq
  . intro i p k e1 e2
    obtain ⟨k', e3, hT⟩ := cb pk e1
    rw [e2] at e3
    cases e3
    obtain ⟨us, r2, ht, _⟩ := I.tuple hT
    have i2 : IntsAre us.toArray.toList k := intsAre_of r2
    have cN : p < s.heap.objs.size := ht.lt
    obtain ⟨o, ho, hx⟩ := ht
    exact ⟨us.toArray, ⟨o, Vm _ (Vm _ ho), hx⟩, i2, cN⟩
  . obtain ⟨p, e1, rfl⟩ := nz rv hp
    obtain ⟨k, e3, _⟩ := cb pk e1
    obtain ⟨b1, b2⟩ := kE (bt := bt) (fun i => rG _) (fun i j k h1 h2 => vk h1 h2) (aK.toArray.size - 1)
    refine ⟨.ref p, H, I.kept fun b o e => keep b o (by simp only [mem_singleton]; exact Vp (Vu e)) (by rw [VE]; exact Vp (VW (Vu e))) (Vm _ (Vm _ e)), rfl, q _ p k e1 e3 fun k' KP => ?_⟩
    obtain ⟨j, hj, e⟩ := mem_iff_getElem.mp KP
    have := b2 j (by rw [Vx]; omega)
    have this : HT.lexLt (ks.getD j []) (ks.getD (argBest bt (aK.toArray.size - 1)) []) = false := this
    simp only [List.getD, Vl hj, e3, e, Option.getD_some] at this
    exact this
def JL (K : FG) : List V -> Hp -> VK -> Prop := fun vs H Q => ∃ (a : Addr) (ps : List Addr) (ks : List (List Int)), vs = [V.ref a] /\ SqL K H a (ps.map V.ref) /\ Paired (fun p k => SqL K H p (k.map V.int)) ps ks /\ 0 < ps.length /\
  ∀ (i : Nat) p k, ps[i]? = some p -> ks[i]? = some k -> (∀ k' ∈ ks, HT.lexLt k k' = false) -> Q (.ref p) H
theorem E9 (hc : X.calm = true) (hu : X.A.units + 64 < cLine) : mm X (.builtin "max") (JL X.K) := by
  intro pins s σ H vs us Q I r h
  obtain ⟨a, ps, ks, rfl, hs, pk, hn, q⟩ := h
  obtain ⟨aK, rv, hl, hz⟩ := I.list hs
  rw [Vals.Ik r]
  have hlen : aK.length = ps.length := by rw [<- rv.length, Vg]
  have hk : ks.length = ps.length := (Paired.length pk).symm
  have nm : (toString "max" ++ toString ".loop" : String) = "max.loop" := by decide
  refine call_function_tree PySem.F.kind_max PySem.F.plain_max PySem.F.entry_max (PySem.F.args_max1 _) ?_
  show wpAny _ X.A.in1 (Builtin.Builtins.bindParams "max" ["key", "default"] 0 ⟨[], []⟩ >>= _) _ _ s
  refine Vi (wpAny_of_eq (show Builtin.Builtins.bindParams "max" ["key", "default"] 0 ⟨[], []⟩ = pure [none, none] from rfl) ?_)
  refine Vi (Vo (Vi (rJ (X := X) (pins := pins) (σ := σ) (H := H) hl.isList fun qi st => Vi (wpAny_newObj_type ?_))))
  rw [nm]
  let bt : Nat -> Nat -> Bool := fun i j => HT.lexLt (ks.getD j []) (ks.getD i [])
  have W := Walks.list (prog := X.prog) (w := X.w) (A := X.A.in1) (I.ok.hd hc) s.heap.objs.size a qi aK.toArray
  have hal : a < s.heap.objs.size := hl.lt
  refine Vo ⟨V1 plain_max_loop _, GK (bt := bt) (OK := fun h' => ∀ (i : Nat) p k, ps[i]? = some p -> ks[i]? = some k -> ∃ us, h'.IsList p us /\ IntsAre us.toList k /\ p < s.heap.objs.size) W (S := (s.heap.push { cls := .type "list_iterator", data := .fields #[.ref a, .int 0 0] }).objs.size) ?_ ?_ ?_ (by rw [Vx, hlen]; exact hn) ?_ (W.frame _ _ _ st fun b _ o e => Vm _ e) (VA _ rfl) fun v h' tk hp keep => ?_⟩
  . rw [VE]
    intro hm
    simp only [mem_cons, VT, or_false] at hm
    rcases hm with e | e
    . exact absurd e (succ_ne_self _)
    . exact absurd (e ▸ VW hal) (VO _)
  . intro h1 h2 ok keep i p k e1 e2
    obtain ⟨us, ht, hi, cN⟩ := ok i p k e1 e2
    obtain ⟨o, ho, hx⟩ := ht
    exact ⟨us, ⟨o, keep p o (by simp only [mem_singleton]; exact Vp cN) (by rw [VE]; exact Vp (VW cN)) ho, hx⟩, hi, cN⟩
  . intro i j vi vj s' Q' E' ok hi hj hq
    obtain ⟨p, e1, rfl⟩ := nz rv hi
    obtain ⟨p2, e2, rfl⟩ := nz rv hj
    obtain ⟨k, e3, _⟩ := cb pk e1
    obtain ⟨k2, e4, _⟩ := cb pk e2
    obtain ⟨us, t1, i1, _⟩ := ok i p k e1 e3
    obtain ⟨TM, t2, i2, _⟩ := ok j p2 k2 e2 e4
    have eq : bt i j = HT.lexLt k2 k := by
      show HT.lexLt (ks.getD j []) (ks.getD i []) = _
      simp [List.getD, e3, e4]
    rw [eq] at hq
    exact GH t1 t2 i1 i2 (by show X.A.units + 1 < _; omega) hq
  . intro i p k e1 e2
    obtain ⟨k', e3, hT⟩ := cb pk e1
    rw [e2] at e3
    cases e3
    obtain ⟨us, r2, ht, _⟩ := I.list hT
    have cN : p < s.heap.objs.size := ht.lt
    obtain ⟨o, ho, hx⟩ := ht.isList
    exact ⟨us.toArray, ⟨o, Vm _ (Vm _ ho), hx⟩, by simpa using r2.ints, cN⟩
  . obtain ⟨p, e1, rfl⟩ := nz rv hp
    obtain ⟨k, e3, _⟩ := cb pk e1
    obtain ⟨b1, b2⟩ := kE (bt := bt) (fun i => rG _) (fun i j k h1 h2 => vk h2 h1) (aK.toArray.size - 1)
    refine ⟨.ref p, H, I.kept fun b o e => keep b o (by simp only [mem_singleton]; exact Vp (Vu e)) (by rw [VE]; exact Vp (VW (Vu e))) (Vm _ (Vm _ e)), rfl, q _ p k e1 e3 fun k' KP => ?_⟩
    obtain ⟨j, hj, e⟩ := mem_iff_getElem.mp KP
    have := b2 j (by rw [Vx]; omega)
    have this : HT.lexLt (ks.getD (argBest bt (aK.toArray.size - 1)) []) (ks.getD j []) = false := this
    simp only [List.getD, Vl hj, e3, e, Option.getD_some] at this
    exact this
end
def SqS (K : FG) (H : Hp) (c : Bool × Addr) (xs : List V) : Prop := if c.1 = true then SqT K H c.2 xs else SqL K H c.2 xs
abbrev bare (c : Bool × Addr) : Src := ⟨c.1, c.2, #[]⟩
def vn (K : FG) (cs : List (Bool × Addr)) : It :=
  ⟨fun i H => ∃ qp : List (List V), Paired (SqS K H) cs qp /\ ∀ xs ∈ qp, i < xs.length,
    fun i H v H' => ∃ (T : Addr) (ys : List V), v = .ref T /\ H T = none /\ H' = upd H T (.tup ys) /\ ys.length = cs.length /\ ∀ qp : List (List V), Paired (SqS K H) cs qp -> Paired (fun (xs : List V) (y : V) => xs[i]? = some y) qp ys,
    fun i H => ∃ qp : List (List V), Paired (SqS K H) cs qp /\ ∃ xs ∈ qp, xs.length <= i⟩
section
variable {X : Cx} {pins : List (Addr × Obj)} {σ : St} {H : Hp} {s : Shared}
theorem IC (I : Inv X pins σ H s) {c : Bool × Addr} (h : SqS X.K H c xs) (h2 : SqS X.K H c ys) : xs = ys := by
  unfold SqS at h h2
  split at h
  . rename_i e
    rw [Vj e] at h2
    obtain ⟨aK, r, ⟨o, e1, _, n, d⟩, _⟩ := I.tuple h
    obtain ⟨uY, r2, ⟨o2, e2, _, n2, d2⟩, _⟩ := I.tuple h2
    rw [e1] at e2
    cases e2
    rw [d] at d2
    injection d2 with q
    have q2 : aK = uY := by
      have := congrArg Array.toList q
      simpa using this
    subst q2
    exact r.inj r2
  . rename_i e
    rw [Vh e] at h2
    exact I.uP h h2
theorem Bf (I : Inv X pins σ H s) : ∀ {cs : List (Bool × Addr)} {qp Qr : List (List V)}, Paired (SqS X.K H) cs qp -> Paired (SqS X.K H) cs Qr -> qp = Qr
  | _, _, _, .nil, .nil => rfl
  | _, _, _, .cons a t, .cons b u => by rw [IC I a b, Bf I t u]
theorem qr (I : Inv X pins σ H s) : ∀ {cs : List (Bool × Addr)} {qp : List (List V)}, Paired (SqS X.K H) cs qp -> ∃ ss : List Src, ss.map (fun c => (c.tup, c.at_)) = cs /\ (∀ c ∈ ss, c.Has s.heap) /\ Paired (fun (c : Src) (xs : List V) => Vals xs c.xs.toList) ss qp
  | _, _, .nil => ⟨[], rfl, fun _ h => (by cases h), .nil⟩
  | (t, a) :: _, _, .cons h r => by
    obtain ⟨ss, e, has, pv⟩ := qr I r
    cases t with
    | true =>
      obtain ⟨aK, rv, ht, _⟩ := I.tuple (show SqT X.K H a _ from h)
      refine ⟨⟨true, a, aK.toArray⟩ :: ss, by rw [Vy, e], fun c hc => ?_, .cons (by simpa using rv) pv⟩
      rcases mem_cons.mp hc with rfl | hc
      . exact (show s.heap.IsTuple a aK.toArray from ht)
      . exact has c hc
    | false =>
      obtain ⟨aK, rv, hl, _⟩ := I.list (show SqL X.K H a _ from h)
      refine ⟨⟨false, a, aK.toArray⟩ :: ss, by rw [Vy, e], fun c hc => ?_, .cons (by simpa using rv) pv⟩
      rcases mem_cons.mp hc with rfl | hc
      . exact (show s.heap.IsList a aK.toArray from hl.isList)
      . exact has c hc
theorem Bg {i : Nat} : ∀ {ss : List Src} {qp : List (List V)}, Paired (fun (c : Src) (xs : List V) => Vals xs c.xs.toList) ss qp -> (∀ xs ∈ qp, i < xs.length) ->
    ∃ (vs : List Value) (ys : List V), vs.length = ss.length /\ (∀ (m : Nat) (c : Src), ss[m]? = some c -> c.xs[i]? = vs[m]?) /\ Vals ys vs /\ Paired (fun (xs : List V) (y : V) => xs[i]? = some y) qp ys
  | _, _, .nil, _ => ⟨[], [], rfl, fun m c e => by simp at e, .nil, .nil⟩
  | c :: _, xs :: _, .cons r t, h => by
    obtain ⟨vs, ys, e1, e2, e3, e4⟩ := Bg t fun x hx => h x (Vs _ hx)
    have hx : xs[i]? = some (xs[i]'(h xs Vv)) := Vl _
    obtain ⟨u, hu, ru⟩ := r.get hx
    refine ⟨u :: vs, _ :: ys, by rw [VC, VC, e1], fun m c' e => ?_, .cons ru e3, .cons hx e4⟩
    cases m with
    | zero =>
      cases e
      rw [<- getElem?_toList]
      exact hu
    | succ m => exact e2 m c' e
theorem yt {i : Nat} : ∀ {ss : List Src} {qp : List (List V)}, Paired (fun (c : Src) (xs : List V) => Vals xs c.xs.toList) ss qp -> (∃ xs ∈ qp, xs.length <= i) ->
    ∃ (m : Nat) (vs : List Value), m < ss.length /\ m <= vs.length /\ (∀ (j : Nat) (c : Src), ss[j]? = some c -> j < m -> c.xs[i]? = vs[j]?) /\ ∀ c : Src, ss[m]? = some c -> c.xs[i]? = none
  | _, _, .nil, h => by
    obtain ⟨xs, hx, _⟩ := h
    cases hx
  | c :: ss, xs :: _, .cons r t, h => by
    have hl := r.length
    by_cases cN : xs.length <= i
    . refine ⟨0, [], by simp, Vq _, fun j c' _ hj => absurd hj (VJ _), fun c' e => ?_⟩
      cases e
      rw [<- getElem?_toList]
      exact VL (by omega)
    . obtain ⟨ys, hy, MT⟩ := h
      have hy : ys ∈ _ := (mem_cons.mp hy).resolve_left fun e => cN (by rw [<- e]; exact MT)
      obtain ⟨m, vs, h1, h2, h3, h4⟩ := yt t ⟨ys, hy, MT⟩
      obtain ⟨u, hu⟩ : ∃ u, c.xs.toList[i]? = some u := ⟨_, Vl (by omega)⟩
      refine ⟨m + 1, u :: vs, by rw [VC]; omega, by rw [VC]; omega, fun j c' e hj => ?_, fun c' e => h4 c' e⟩
      cases j with
      | zero =>
        cases e
        rw [<- getElem?_toList]
        exact hu
      | succ j => exact h3 j c' e (by omega)
end
theorem ZSt.re {TI TO : Addr} {ss ID : List Src} {k : Nat} (st : ZSt h z TI TO aK ss k f0) (e : ss.map (fun c => (c.tup, c.at_)) = ID.map (fun c => (c.tup, c.at_))) : ZSt h z TI TO aK ID k f0 := by
  refine ⟨st.zip, st.ti, st.to, fun m i c e1 e2 => ?_⟩
  have h1 : (ID.map (fun c => (c.tup, c.at_)))[m]? = some (c.tup, c.at_) := by rw [Vt, e2]; rfl
  rw [<- e, Vt] at h1
  obtain ⟨d, hd, q⟩ := Option.map_eq_some_iff.mp h1
  have := st.it m i d e1 hd
  unfold Src.It at this ⊢
  have q1 : d.tup = c.tup := congrArg Prod.fst q
  have q2 : d.at_ = c.at_ := congrArg Prod.snd q
  rw [q1, q2] at this
  exact this
theorem ZA.re {TI TO : Addr} {ss ID : List Src} (D : ZA z TI TO aK ss) (e : ss.map (fun c => (c.tup, c.at_)) = ID.map (fun c => (c.tup, c.at_))) : ZA z TI TO aK ID := by
  have hm : ∀ c ∈ ID, ∃ d ∈ ss, d.at_ = c.at_ := fun c hc => by
    have h1 : (c.tup, c.at_) ∈ ID.map (fun c => (c.tup, c.at_)) := mem_map.mpr ⟨c, hc, rfl⟩
    rw [<- e] at h1
    obtain ⟨d, hd, q⟩ := mem_map.mp h1
    exact ⟨d, hd, congrArg Prod.snd q⟩
  have hl : ss.length = ID.length := by have := congrArg List.length e; simpa using this
  exact ⟨D.zTI, D.zTO, D.TIO, D.iz, D.iTI, D.iTO, D.nd, fun c hc => by obtain ⟨d, hd, q⟩ := hm c hc; rw [<- q]; exact D.cz d hd, fun c hc => by obtain ⟨d, hd, q⟩ := hm c hc; rw [<- q]; exact D.cTO d hd,
    fun c hc => by obtain ⟨d, hd, q⟩ := hm c hc; rw [<- q]; exact D.ci d hd, by rw [D.len, hl]⟩
theorem yu {K : FG} {kk : Nat} {cs : List (Bool × Addr)} {z TI TO : Addr} {aK : List Addr} (D : ZA z TI TO aK (cs.map bare)) (hn : 0 < aK.length) (z7 : aK.length <= 100) :
    Turn P w K (.Tuple elts kk AA) (vn K cs) (z :: TI :: TO :: aK) z (fun i h => ZSt h z TI TO aK (cs.map bare) i .none) where
  mem := Vv
  obj := fun i h st b hb => by
    obtain ⟨hz, HI, ⟨ts, _, Iu⟩, hit⟩ := st
    rcases mem_cons.mp hb with rfl | hb
    . exact ⟨_, hz, fun v q => nomatch q⟩
    rcases mem_cons.mp hb with rfl | hb
    . exact ⟨_, HI, fun v q => nomatch q⟩
    rcases mem_cons.mp hb with rfl | hb
    . exact ⟨_, Iu, fun v q => nomatch q⟩
    obtain ⟨m, hm, e⟩ := mem_iff_getElem.mp hb
    have Mr : m < (cs.map bare).length := by rw [<- D.len]; exact hm
    obtain ⟨o, vs, ho, hd⟩ := (hit m b _ (by rw [Vl hm, e]) (Vl Mr)).obj
    exact ⟨o, ho, fun v q => by rw [hd] at q; cases q⟩
  keep := fun i h h' st k => by
    obtain ⟨hz, HI, ⟨ts, h1, Iu⟩, hit⟩ := st
    exact ⟨k z (by simp) _ hz, k TI (by simp) _ HI, ⟨ts, h1, k TO (by simp) _ Iu⟩, fun m i c e1 e2 => (hit m i c e1 e2).keep fun o e => k i (by simp [VG e1]) o e⟩
  item := by
    intro X hP hw hK hc i pins s σ H E I hf st hg
    subst hP hw hK
    obtain ⟨qp, pq, cN⟩ := hg
    obtain ⟨ss, es, has, pv⟩ := qr I pq
    obtain ⟨vs, ys, l1, hx, rv, py⟩ := Bg pv cN
    have Fx : (cs.map bare).map (fun c => (c.tup, c.at_)) = ss.map (fun c => (c.tup, c.at_)) := by rw [es, Vz]; exact (VU fun _ _ => rfl).trans (map_id _)
    have D' := D.re Fx
    have Qs : ss.length = aK.length := D'.len.symm
    have Iy : z < s.heap.objs.size := Vu st.zip
    have Qt : TO < s.heap.objs.size := let ⟨_, _, e⟩ := st.to; Vu e
    have Qu : ∀ b ∈ aK, b < s.heap.objs.size := fun b hb => by
      obtain ⟨m, hm, e⟩ := mem_iff_getElem.mp hb
      have Mr : m < (cs.map bare).length := by rw [<- D.len]; exact hm
      obtain ⟨o, _, ho, _⟩ := (st.it m b _ (by rw [Vl hm, e]) (Vl Mr)).obj
      exact Vu ho
    refine CH D' hn z7 (st.re Fx) has (by rw [l1, Qs]) hx fun h' tX hT hsz hk => ?_
    refine ⟨_, rfl, goZ (s := { s with heap := h' }) D' tX fun yi Qw sb => ?_⟩
    have E1 : yi.get? s.heap.objs.size = some (gB vs.toArray) := (sb.2 _ (ne_of_gt Iy)).trans hT
    have Qx : ys.length = cs.length := by rw [rv.length, l1]; have := congrArg List.length es; simpa using this
    have new : cq X.prog X.w (upd H s.heap.objs.size (.tup ys)) yi s.heap.objs.size (.tup ys) := ⟨by rw [rv.length, l1, Qs, Vr]; omega, vs, rv, ⟨_, E1, rfl, _, rfl⟩⟩
    have I1 : Inv X pins σ (upd H s.heap.objs.size (.tup ys)) { s with heap := yi } :=
      I.yl (t' := s.toks) (ch := z :: TI :: TO :: aK) (fun c o hb q => (sb.2 c (fun q' => hb (by simp [q']))).trans (hk c o (fun q' => hb (by simp [q'])) (fun q' => hb (by simp [q'])) (fun q' => hb (by simp [q'])) q)) hf (Vq _) new
    refine ⟨.ref s.heap.objs.size, _, I1, rfl, ⟨_, ys, rfl, I.hok.fresh (Vq _), rfl, Qx, fun Qr hy => by rw [Bf I hy pq]; exact py⟩, Qw.re Fx.symm, fun c Fy => ?_⟩
    have K5 : c < s.heap.objs.size := by
      rcases mem_cons.mp Fy with rfl | Fy
      . exact Iy
      rcases mem_cons.mp Fy with rfl | Fy
      . exact Vu st.ti
      rcases mem_cons.mp Fy with rfl | Fy
      . exact Qt
      exact Qu c Fy
    rw [aM (Vp K5)]
    exact (hf c Fy).1
  done := by
    intro X hP hw hK hc i pins s σ H E I hf st hg
    subst hP hw hK
    obtain ⟨qp, pq, Gx⟩ := hg
    obtain ⟨ss, es, has, pv⟩ := qr I pq
    obtain ⟨m, vs, h1, h2, h3, h4⟩ := yt pv Gx
    have Fx : (cs.map bare).map (fun c => (c.tup, c.at_)) = ss.map (fun c => (c.tup, c.at_)) := by rw [es, Vz]; exact (VU fun _ _ => rfl).trans (map_id _)
    have D' := D.re Fx
    have Qs : ss.length = aK.length := D'.len.symm
    exact E4 (I.ok.hd hc) D' z7 (st.re Fx) has (by omega) h2 h3 h4 fun h' hk => ⟨rfl, I.Ip (t' := s.toks) (ch := z :: TI :: TO :: aK) (fun c o hb q =>
      hk c o (fun q' => hb (by simp [q'])) (fun q' => hb (by simp [q'])) (fun q' => hb (by simp [q'])) q) hf⟩
  self := fun A i s Q E st h => wpAny_pyIter_zip st.zip h
def jW (K : FG) (ta : TA) (ts : List Bool) : TI := fun σ H R => ta σ H fun vs H1 => ∃ (as : List Addr) (qp : List (List V)), vs = as.map V.ref /\ as.length = ts.length /\ Paired (SqS K H1) (ts.zip as) qp /\ R (vn K (ts.zip as)) H1
theorem iS {e e2 : Expr} {p : Pos} {kk : Nat} {t1 t2 : Bool} (hg : Gl X "zip") (hm : X.mg "zip" = none) (ha : PA X [e, e2] ta)
    (hs : starEach [e, e2] X.env = (false, eval e X.env) :: starEach [e2] X.env := by rfl) (iH : (backTo pos (starEach [e2] X.env)).any (·.1) = false := by rfl) :
    PI X (.Tuple elts kk AA) (.Call (.Name "zip" p) [e, e2] [] pos) (jW X.K ta [t1, t2]) := by
  intro pins s σ H R I h
  refine Call_ (ku I hg hm ym (Wo (thn (ha pos pins s σ H _ I h) fun us s1 ⟨vs, H1, I1, r1, q1⟩ => ?_) hs iH))
  obtain ⟨as, qp, ex, hl, pq, q⟩ := q1
  match as, hl with
  | [a, b], _ =>
    subst ex
    obtain ⟨ss, es, has, pv⟩ := qr I1 pq
    have : ∃ c d : Src, ss = [c, d] /\ c.tup = t1 /\ c.at_ = a /\ d.tup = t2 /\ d.at_ = b := by
      have e1 : ss.map (fun c => (c.tup, c.at_)) = [(t1, a), (t2, b)] := es
      match ss, e1 with
      | [c, d], e1 =>
        simp only [Vy, map_nil, List.cons.injEq, Prod.mk.injEq, and_true] at e1
        exact ⟨c, d, rfl, e1.1.1, e1.1.2, e1.2.1, e1.2.2⟩
    obtain ⟨c, d, rfl, c1, c2, d1, d2⟩ := this
    have eu : us = [.ref c.at_, .ref d.at_] := by
      cases r1 with
      | cons r rr =>
        cases rr with
        | cons r' rr =>
          cases rr
          cases r
          cases r'
          rw [c2, d2]
    subst eu
    have hc := has c (by simp)
    have hd := has d (by simp)
    have la : c.at_ < s1.heap.objs.size := let ⟨_, e⟩ := hc.obj; Vu e
    have lb : d.at_ < s1.heap.objs.size := let ⟨_, e⟩ := hd.obj; Vu e
    refine E5 hc hd fun h' st hk => wpAny_pyIter_zip st.zip ?_
    have I2 : Inv X pins σ H1 { s1 with heap := h' } := I1.kept (t' := s1.toks) hk
    have Fx : ([c, d] : List Src).map (fun c => (c.tup, c.at_)) = (([t1, t2].zip [a, b]).map bare).map (fun c => (c.tup, c.at_)) := by simp [c1, c2, d1, d2]
    have D : ZA (s1.heap.objs.size + 4) (s1.heap.objs.size + 2) (s1.heap.objs.size + 3) [s1.heap.objs.size, s1.heap.objs.size + 1] [c, d] := by
      have K7 : (c.at_ : Nat) < s1.heap.objs.size := la
      have K8 : (d.at_ : Nat) < s1.heap.objs.size := lb
      generalize s1.heap.objs.size = N at K7 K8
      refine ⟨Vp (add_lt_add_left (by decide : 2 < 4) N), Vp (add_lt_add_left (by decide : 3 < 4) N), Vp (add_lt_add_left (by decide : 2 < 3) N), ?_, ?_, ?_, by simp, ?_, ?_, ?_, rfl⟩
      . intro i hi
        simp only [mem_cons, VT, or_false] at hi
        rcases hi with rfl | rfl
        . exact Vp (by omega)
        . exact Vp (by omega)
      . intro i hi
        simp only [mem_cons, VT, or_false] at hi
        rcases hi with rfl | rfl
        . exact Vp (by omega)
        . exact Vp (by omega)
      . intro i hi
        simp only [mem_cons, VT, or_false] at hi
        rcases hi with rfl | rfl
        . exact Vp (by omega)
        . exact Vp (by omega)
      . intro x hx
        simp only [mem_cons, VT, or_false] at hx
        rcases hx with rfl | rfl
        . exact Vp (VI K7 (by omega))
        . exact Vp (VI K8 (by omega))
      . intro x hx
        simp only [mem_cons, VT, or_false] at hx
        rcases hx with rfl | rfl
        . exact Vp (VI K7 (by omega))
        . exact Vp (VI K8 (by omega))
      . intro x hx hi
        simp only [mem_cons, VT, or_false] at hx hi
        have cN : (x.at_ : Nat) < N := by
          rcases hx with rfl | rfl
          . exact K7
          . exact K8
        rcases hi with e | e
        . exact absurd e (Vp cN)
        . exact absurd e (Vp (VW cN))
    refine ⟨s1.heap.objs.size + 4, [s1.heap.objs.size + 4, s1.heap.objs.size + 2, s1.heap.objs.size + 3, s1.heap.objs.size, s1.heap.objs.size + 1], _, _, H1, rfl, I2, yu (D.re Fx) (by simp) (by simp), st.re Fx, fun x hx => ?_, q⟩
    have hle : s1.heap.objs.size <= x := by
      simp only [mem_cons, VT, or_false] at hx
      rcases hx with rfl | rfl | rfl | rfl | rfl
      . exact le_add_right _ _
      . exact le_add_right _ _
      . exact le_add_right _ _
      . exact Vq _
      . exact le_add_right _ _
    exact I1.Cj hle (I1.hok.fresh hle)
theorem Er {e e2 e3 : Expr} {p : Pos} {kk : Nat} {t1 t2 t3 : Bool} (hg : Gl X "zip") (hm : X.mg "zip" = none) (ha : PA X [e, e2, e3] ta)
    (hs : starEach [e, e2, e3] X.env = (false, eval e X.env) :: starEach [e2, e3] X.env := by rfl) (iH : (backTo pos (starEach [e2, e3] X.env)).any (·.1) = false := by rfl) :
    PI X (.Tuple elts kk AA) (.Call (.Name "zip" p) [e, e2, e3] [] pos) (jW X.K ta [t1, t2, t3]) := by
  intro pins s σ H R I h
  refine Call_ (ku I hg hm ym (Wo (thn (ha pos pins s σ H _ I h) fun us s1 ⟨vs, H1, I1, r1, q1⟩ => ?_) hs iH))
  obtain ⟨as, qp, ex, hl, pq, q⟩ := q1
  match as, hl with
  | [a, b, g], _ =>
    subst ex
    obtain ⟨ss, es, has, pv⟩ := qr I1 pq
    have : ∃ c d f : Src, ss = [c, d, f] /\ (c.tup = t1 /\ c.at_ = a) /\ (d.tup = t2 /\ d.at_ = b) /\ (f.tup = t3 /\ f.at_ = g) := by
      have e1 : ss.map (fun c => (c.tup, c.at_)) = [(t1, a), (t2, b), (t3, g)] := es
      match ss, e1 with
      | [c, d, f], e1 =>
        simp only [Vy, map_nil, List.cons.injEq, Prod.mk.injEq, and_true] at e1
        exact ⟨c, d, f, rfl, e1.1, e1.2.1, e1.2.2⟩
    obtain ⟨c, d, f, rfl, ⟨c1, c2⟩, ⟨d1, d2⟩, ⟨f1, f2⟩⟩ := this
    have eu : us = [.ref c.at_, .ref d.at_, .ref f.at_] := by
      cases r1 with
      | cons r rr =>
        cases rr with
        | cons r' rr =>
          cases rr with
          | cons TN rr =>
            cases rr
            cases r
            cases r'
            cases TN
            rw [c2, d2, f2]
    subst eu
    have hc := has c (by simp)
    have hd := has d (by simp)
    have hf := has f (by simp)
    have la : c.at_ < s1.heap.objs.size := let ⟨_, e⟩ := hc.obj; Vu e
    have lb : d.at_ < s1.heap.objs.size := let ⟨_, e⟩ := hd.obj; Vu e
    have lg : f.at_ < s1.heap.objs.size := let ⟨_, e⟩ := hf.obj; Vu e
    refine E6 hc hd hf fun h' st hk => wpAny_pyIter_zip st.zip ?_
    have I2 : Inv X pins σ H1 { s1 with heap := h' } := I1.kept (t' := s1.toks) hk
    have Fx : ([c, d, f] : List Src).map (fun c => (c.tup, c.at_)) = (([t1, t2, t3].zip [a, b, g]).map bare).map (fun c => (c.tup, c.at_)) := by simp [c1, c2, d1, d2, f1, f2]
    have D : ZA (s1.heap.objs.size + 5) (s1.heap.objs.size + 3) (s1.heap.objs.size + 4) [s1.heap.objs.size, s1.heap.objs.size + 1, s1.heap.objs.size + 2] [c, d, f] := by
      have K7 : (c.at_ : Nat) < s1.heap.objs.size := la
      have K8 : (d.at_ : Nat) < s1.heap.objs.size := lb
      have RP : (f.at_ : Nat) < s1.heap.objs.size := lg
      generalize s1.heap.objs.size = N at K7 K8 RP
      have mi : ∀ i ∈ ([N, N + 1, N + 2] : List Nat), i <= N + 2 := by
        intro i hi
        simp only [mem_cons, VT, or_false] at hi
        omega
      have mx : ∀ x ∈ [c, d, f], (x.at_ : Nat) < N := by
        intro x hx
        simp only [mem_cons, VT, or_false] at hx
        rcases hx with rfl | rfl | rfl
        . exact K7
        . exact K8
        . exact RP
      refine ⟨Vp (add_lt_add_left (by decide : 3 < 5) N), Vp (add_lt_add_left (by decide : 4 < 5) N), Vp (add_lt_add_left (by decide : 3 < 4) N), fun i hi => Vp (lt_of_le_of_lt (mi i hi) (by omega)), fun i hi => Vp (lt_of_le_of_lt (mi i hi) (by omega)), fun i hi => Vp (lt_of_le_of_lt (mi i hi) (by omega)), by simp,
        fun x hx => Vp (VI (mx x hx) (by omega)), fun x hx => Vp (VI (mx x hx) (by omega)), ?_, rfl⟩
      intro x hx hi
      have cN := mx x hx
      simp only [mem_cons, VT, or_false] at hi
      rcases hi with e | e | e
      . exact absurd e (Vp cN)
      . exact absurd e (Vp (VW cN))
      . exact absurd e (Vp (VW (VW cN)))
    refine ⟨s1.heap.objs.size + 5, [s1.heap.objs.size + 5, s1.heap.objs.size + 3, s1.heap.objs.size + 4, s1.heap.objs.size, s1.heap.objs.size + 1, s1.heap.objs.size + 2], _, _, H1, rfl, I2, yu (D.re Fx) (by simp) (by simp), st.re Fx, fun x hx => ?_, q⟩
    have hle : s1.heap.objs.size <= x := by
      simp only [mem_cons, VT, or_false] at hx
      rcases hx with rfl | rfl | rfl | rfl | rfl | rfl
      . exact le_add_right _ _
      . exact le_add_right _ _
      . exact le_add_right _ _
      . exact Vq _
      . exact le_add_right _ _
      . exact le_add_right _ _
    exact I1.Cj hle (I1.hok.fresh hle)
section
variable {K : FG}
theorem ze {t1 t2 : Bool} {a b : Addr} {xs ys : List V} {j k : Nat} : Wk (vn K [(t1, a), (t2, b)]) (jf K 2 (bA (aC j) (bA (aC k) je))) (min xs.length ys.length) (fun H => SqS K H (t1, a) xs /\ SqS K H (t2, b) ys) (fun i σ => (σ.set j xs[i]?).set k ys[i]?) where
  go := fun i H hi h => ⟨[xs, ys], .cons h.1 (.cons h.2 .nil), fun z hz => by
    simp only [mem_cons, VT, or_false] at hz
    rcases hz with rfl | rfl <;> omega⟩
  stop := fun H h => ⟨[xs, ys], .cons h.1 (.cons h.2 .nil), by
    by_cases e : xs.length <= ys.length
    . exact ⟨xs, by simp, by omega⟩
    . exact ⟨ys, by simp, by omega⟩⟩
  step := fun i H x H' hi h y σ Qk hq => by
    obtain ⟨T, zs, e, hT, e2, hl, y⟩ := y
    subst e e2
    have py := y [xs, ys] (.cons h.1 (.cons h.2 .nil))
    cases py with
    | cons y1 py =>
      cases py with
      | cons y2 py =>
        cases py
        refine ⟨T, _, rfl, SqT.of aA, rfl, _, _, rfl, _, [], rfl, rfl, ?_⟩
        rw [y1, y2] at hq
        exact hq _ (Kp.new hT)
theorem Es {t1 t2 t3 : Bool} {a b c : Addr} {xs ys zs : List V} {j k l : Nat} : Wk (vn K [(t1, a), (t2, b), (t3, c)]) (jf K 3 (bA (aC j) (bA (aC k) (bA (aC l) je)))) (min xs.length (min ys.length zs.length)) (fun H => SqS K H (t1, a) xs /\ SqS K H (t2, b) ys /\ SqS K H (t3, c) zs)
    (fun i σ => ((σ.set j xs[i]?).set k ys[i]?).set l zs[i]?) where
  go := fun i H hi h => ⟨[xs, ys, zs], .cons h.1 (.cons h.2.1 (.cons h.2.2 .nil)), fun z hz => by
    simp only [mem_cons, VT, or_false] at hz
    rcases hz with rfl | rfl | rfl <;> omega⟩
  stop := fun H h => ⟨[xs, ys, zs], .cons h.1 (.cons h.2.1 (.cons h.2.2 .nil)), by
    by_cases e : xs.length <= min ys.length zs.length
    . exact ⟨xs, by simp, by omega⟩
    . by_cases e2 : ys.length <= zs.length
      . exact ⟨ys, by simp, by omega⟩
      . exact ⟨zs, by simp, by omega⟩⟩
  step := fun i H x H' hi h y σ Qk hq => by
    obtain ⟨T, us, e, hT, e2, hl, y⟩ := y
    subst e e2
    have py := y [xs, ys, zs] (.cons h.1 (.cons h.2.1 (.cons h.2.2 .nil)))
    cases py with
    | cons y1 py =>
      cases py with
      | cons y2 py =>
        cases py with
        | cons y3 py =>
          cases py
          refine ⟨T, _, rfl, SqT.of aA, rfl, _, _, rfl, _, _, rfl, _, [], rfl, rfl, ?_⟩
          rw [y1, y2, y3] at hq
          exact hq _ (Kp.new hT)
end
def JM (K : FG) : R2 := fun x y H Q => ∃ a b xs ys, x = .ref a /\ y = .ref b /\ SqT K H a xs /\ SqT K H b ys /\ ys ≠ [] /\ xs.length + ys.length <= sizeLine /\ (xs = [] -> Q (.ref b) H) /\ (xs ≠ [] -> ∀ p, H p = none -> Q (.ref p) (upd H p (.tup (xs ++ ys))))
theorem IF : OpR X (binaryOp .Add) (JM X.K) := by
  intro pins s σ H x y v u Q I rx ry h
  obtain ⟨a, b, xs, ys, rfl, rfl, ha, hb, hy, hz, q0, q1⟩ := h
  by_cases hx : xs = []
  . subst hx
    cases rx
    cases ry
    obtain ⟨aK, r1, p1, _⟩ := I.tuple ha
    obtain ⟨uY, r2, p2, _⟩ := I.tuple hb
    cases r1
    obtain ⟨⟨cls, dd, data, sl⟩, ho, hc, n, hd⟩ := id p1
    obtain ⟨⟨KC, Cv, data2, Cw⟩, Ea, wJ, n2, hd2⟩ := id p2
    simp only at hc hd wJ hd2
    subst hc hd wJ hd2
    exact concat_meets ⟨_, ho, rfl⟩ ⟨_, Ea, rfl⟩ noFill_tuple_add seq_tuple_add slot_tuple_add entry_tuple_add (args_tuple_add_2 _ _)
      (tuple_addW0 a b _ _ n n2 dd Cv sl Cw (by simp)) ⟨ho, Ea, .ref b, H, I, rfl, q0 rfl⟩
  . exact Ih pins s σ H (.ref a) (.ref b) v u Q I rx ry ⟨a, b, xs, ys, rfl, rfl, ha, hb, hx, hz, fun e => absurd e hy, fun _ => q1 hx⟩
def CM (P : Program) (w : World) (K : FG) (mg : SV) (base : Heap) (k : Nat) (tf : TE) (t : TA) : TE := fun σ H Q => tf σ H fun x H1 => ∃ (f : Addr) (fd : FuncData) (ps : List Str) (sp : Sp), x = .ref f /\ cA P w K mg base CX0 k f fd ps sp /\ keepIn K (.ref f) = true /\ Binds K fd ps [] /\
  t σ H1 fun vs H2 => sp vs H2 Q E0
theorem GL {k : Nat} {e : Expr} {es : List Expr} (hf : PE X fe tf) (hr : c7 k X.A) (ha : PA X (e :: es) t)
    (he : starEach (e :: es) X.env = (false, eval e X.env) :: starEach es X.env := by rfl) (iH : (backTo pos (starEach es X.env)).any (·.1) = false := by rfl)
    (TQ : eval (.Call fe (e :: es) [] pos) X.env = (do callWith pos (<- eval fe X.env) [] (backTo pos (starEach (e :: es) X.env)) (backToKw pos (keywordEach [] X.env))) := by rfl) :
    PE X (.Call fe (e :: es) [] pos) (CM X.prog X.w X.K X.mg X.base k tf t) := by
  intro pins s σ H Q I h
  refine Call_ (thn (hf pins s σ H _ I h) fun u s1 ⟨x, H1, I1, rx, f, fd, ps, sp, ex, F, hk, hb, q⟩ => ?_) TQ
  subst ex
  obtain rfl : u = Value.ref f := rx
  refine callWith_K (h₀ := X.base) I.ok.mod.kin hk (thn (ha pos pins s1 σ H1 _ I1 q) fun us s2 ⟨vs, H2, I2, r, q2⟩ => ⟨I2.kIn, ?_⟩) he iH
  exact Cu F hr hb .nil A0 I2 r (by rw [append_nil]; exact q2)
structure KD (X : Cx) (a : Addr) (aQ : List (Int × V)) : Prop where
  sys : (a == sysModules) = false
  len : aQ.length <= 1000
  dict : ∀ h, X.K.In h -> ∃ vs, KV (aQ.map fun x => ((Sum.inl x.1 : Key), x.2)) vs /\ h.DictOf (bU X.prog X.w) a vs
def de (aQ : List (Int × V)) (i : Int) : Option V := f7 (aQ.map fun x => ((Sum.inl x.1 : Key), x.2)) (Sum.inl i)
theorem nA {i : Int} (r : RelV (.int i) u) : (bU P w).is (Sum.inl i) u = true := by
  obtain ⟨t, rfl⟩ := r
  exact rg i t
section
variable {X : Cx} {o i e f : Expr} {pos apos mn : Pos} {td ty tx : TE}
def vo (X : Cx) (td ty : TE) : TE := fun σ H Q => td σ H fun x H1 => ty σ H1 fun y H2 => ∃ a aQ k v, x = .ref a /\ KD X a aQ /\ y = .int k /\ de aQ k = some v /\ Q v H2
theorem zf (ho : PE X o td) (hi : PE X i ty) (hs : KU i) : PE X (.Subscript o i pos) (vo X td ty) := by
  intro pins s σ H Q I h
  refine Eg PySem.F.slot_dict_getitem.lookup hs (thn (ho pins s σ H _ I h) fun u s1 ⟨x, H1, I1, rx, q1⟩ => thn (hi pins s1 σ H1 _ I1 q1) fun iv s2 ⟨y, H2, I2, ry, a, aQ, k, v, ex, kd, ey, l, q2⟩ => ?_)
  subst ex ey
  obtain rfl : u = Value.ref a := rx
  obtain ⟨vs, rel, dd⟩ := kd.dict _ I2.kIn
  obtain ⟨w', hw, EU⟩ := kq.some_of (v := v) (o := valueAt vs (Sum.inl k)) (by rw [<- l]; exact rel.val (Sum.inl k))
  exact ⟨dd.typeIs, wpAny_getItem_of (nA ry) dd.mapOf hw ⟨v, H2, I2.tok _, EU, q2⟩⟩
def Fb (X : Cx) (neg : Bool) (ty td : TE) : TE := fun σ H Q => ty σ H fun y H1 => td σ H1 fun x H2 => ∃ a aQ k, x = .ref a /\ KD X a aQ /\ y = .int k /\ Q (.bl (if neg = true then !(de aQ k).isSome else (de aQ k).isSome)) H2
theorem K9 (hi : PE X i ty) (ho : PE X o td) : PC X .In i o (Fb X false ty td) := by
  intro pins s σ H Q I h
  refine thn (hi pins s σ H _ I h) fun iv s1 ⟨y, H1, I1, ry, q1⟩ => thn (ho pins s1 σ H1 _ I1 q1) fun u s2 ⟨x, H2, I2, rx, a, aQ, k, ex, kd, ey, q2⟩ => ?_
  subst ex ey
  obtain rfl : u = Value.ref a := rx
  obtain ⟨vs, rel, dd⟩ := kd.dict _ I2.kIn
  refine wpAny_in_of (nA ry) kd.sys dd.mapOf ?_
  rw [<- (rel.val (Sum.inl k)).rF]
  exact ⟨.bl _, H2, I2.tok _, rfl, q2⟩
theorem yw (hi : PE X i ty) (ho : PE X o td) : PC X .NotIn i o (Fb X true ty td) := by
  intro pins s σ H Q I h
  refine thn (hi pins s σ H _ I h) fun iv s1 ⟨y, H1, I1, ry, q1⟩ => thn (ho pins s1 σ H1 _ I1 q1) fun u s2 ⟨x, H2, I2, rx, a, aQ, k, ex, kd, ey, q2⟩ => ?_
  subst ex ey
  obtain rfl : u = Value.ref a := rx
  obtain ⟨vs, rel, dd⟩ := kd.dict _ I2.kIn
  refine wpAny_notIn_of (nA ry) kd.sys dd.mapOf ?_
  rw [<- (rel.val (Sum.inl k)).rF]
  exact ⟨.bl _, H2, I2.tok _, rfl, q2⟩
def CN (X : Cx) (td ty tx : TE) : TE := fun σ H Q => td σ H fun x H1 => ∃ a aQ, x = .ref a /\ KD X a aQ /\ ty σ H1 fun y H2 => tx σ H2 fun z H3 => ∃ k, y = .int k /\ Q ((de aQ k).getD z) H3
theorem GN (ho : PE X o td) (he : PE X e ty) (hf : PE X f tx) (m : M2 X o "get" apos e f mn) : PE X (.Call (.Attribute o "get" apos) [e, f] [] mn) (CN X td ty tx) := by
  intro pins s σ H Q I h
  refine wpAny_Call_method m.base m.few m.line PySem.F.plainAttrs_dict slot_dict_get PySem.F.type_dict_get (thn (ho pins s σ H _ I h) fun u s1 ⟨x, H1, I1, rx, a, aQ, ex, kd, q1⟩ => ?_)
  subst ex
  obtain rfl : u = Value.ref a := rx
  obtain ⟨vs1, rel1, RR⟩ := kd.dict _ I1.kIn
  refine ⟨RR.typeIs, fun b q => ?_, ?_⟩
  . cases q
    obtain ⟨ob, _, _, h1, h2, _⟩ := RR
    exact ⟨ob, h1, h2.2.1⟩
  rw [m.trees]
  refine Calls.callWith_builtin rfl (Calls.evalArgs_plain (Wi (thn (he pins s1 σ H1 _ I1 q1) fun iv s2 ⟨y, H2, I2, ry, q2⟩ =>
    Wi (thn (hf pins s2 σ H2 _ I2 q2) fun fv s3 ⟨z, H3, I3, rz, k, ey, q3⟩ => Calls.spliced_nil ?_))))
  subst ey
  obtain ⟨vs, rel, dd⟩ := kd.dict _ I3.kIn
  refine call_meetsIn slot_dict_get dd.typeIs PySem.F.entry_dict_get (PySem.F.args_dict_get_3 _ _ _) (meets_dict_get_default (bU X.prog X.w) a (nA ry) kd.sys fv) ⟨_, dd.mapOf, _, H3, I3.tok _, ?_, q3⟩
  exact (rel.val (Sum.inl k)).getD rz
end
theorem Fc (a v : Value) : argsOk "min" ⟨[a], [(Str.ofString "default", v)]⟩ := by unfold argsOk; kernel_rfl
def JN (K : FG) (ta td : TE) : TE := fun σ H Q => ta σ H fun x H1 => td σ H1 fun d H2 => ∃ (a : Addr) (ns : List Int), x = .ref a /\ SqL K H2 a (ns.map V.int) /\ (ns = [] -> Q d H2) /\ ∀ m, m ∈ ns -> (∀ y, y ∈ ns -> m <= y) -> Q (.int m) H2
theorem IG {X : Cx} {p ER : Pos} (hc : X.calm = true) (hg : Gl X "min") (hm : X.mg "min" = none) (ha : PE X e ta) (hd : PE X d td) (Az : starEach [e] X.env = [(false, eval e X.env)] := by rfl) :
    PE X (.Call (.Name "min" p) [e] [⟨some "default", d, ER⟩] pos) (JN X.K ta td) := by
  intro pins s σ H Q I h
  refine Wg (ku I hg hm (show bootBuiltins "min" = some (.builtin "min") by decide +kernel) ?_)
  refine callWith_kw ?_ (by rw [Az]; rfl) (by rw [Az]; rfl)
  rw [Az]
  show wpAny _ _ (spliced ((false, eval e X.env) :: [])) _ _ s
  refine Wi (thn (ha pins s σ H _ I h) fun u s1 ⟨x0, H1, I1, rx, q1⟩ => Calls.spliced_nil ?_)
  show wpAny _ _ (evalAll [(do let v <- eval d X.env; standAt pos; pure v)]) _ _ s1
  refine wpAny_evalAll_cons (Vi (thn (hd pins s1 σ H1 _ I1 q1) fun dv s2 ⟨dV, H2, I2, rd, a, ns, ex, hs, q0, q⟩ => Vi (wpAny_standAt (Vo (wpAny_evalAll_nil ?_)))))
  subst ex
  obtain rfl : u = Value.ref a := rx
  show wpAny _ _ (call (.builtin "min") [.ref a] [(Str.ofString "default", dv)]) _ _ s2
  obtain ⟨aK, rv, hl, hz⟩ := I2.list hs
  have nm : (toString "min" ++ toString ".loop" : String) = "min.loop" := by decide
  have hlen : aK.length = ns.length := by rw [<- rv.length, Vg]
  refine kmk_tree kind_min plain_min entry_min (Fc _ _) ?_
  show wpAny _ X.A.in1 (Builtin.Builtins.bindParams "min" ["key", "default"] 0 ⟨[], [(Str.ofString "default", dv)]⟩ >>= _) _ _ s2
  refine Vi (wpAny_of_eq (show Builtin.Builtins.bindParams "min" ["key", "default"] 0 ⟨[], [(Str.ofString "default", dv)]⟩ = pure [none, some dv] from rfl) ?_)
  refine Vi (Vo (Vi (rJ (X := X) (pins := pins) (σ := σ) (H := H2) hl.isList fun qi st => Vi (wpAny_newObj_type ?_))))
  rw [nm]
  have W := Walks.list (prog := X.prog) (w := X.w) (A := X.A.in1) (I2.ok.hd hc) s2.heap.objs.size a qi aK.toArray
  have hal : a < s2.heap.objs.size := hl.lt
  have hS : (s2.heap.push { cls := .type "list_iterator", data := .fields #[.ref a, .int 0 0] }).objs.size ∉ [s2.heap.objs.size, a] := by
    rw [VE]
    intro hm
    simp only [mem_cons, VT, or_false] at hm
    rcases hm with e | e
    . exact absurd e (succ_ne_self _)
    . exact absurd (e ▸ VW hal) (VO _)
  have old : ∀ {h' : Heap}, (∀ b o, b ∉ [s2.heap.objs.size] -> b ≠ (s2.heap.push { cls := .type "list_iterator", data := .fields #[.ref a, .int 0 0] }).objs.size -> ((s2.heap.push { cls := .type "list_iterator", data := .fields #[.ref a, .int 0 0] }).push { cls := .type "list", data := .seq ([] : List Value).toArray }).get? b = some o -> h'.get? b = some o) ->
      ∀ b o, s2.heap.get? b = some o -> h'.get? b = some o := fun {h'} keep b o e => keep b o (by simp only [mem_singleton]; exact Vp (Vu e)) (by rw [VE]; exact Vp (VW (Vu e))) (Vm _ (Vm _ e))
  by_cases hn : ns = []
  . subst hn
    have e0 : aK = [] := List.eq_nil_of_length_eq_zero hlen
    subst e0
    refine Vo ⟨V1 V9 _, IB W hS (W.frame _ _ _ st fun b _ o e => Vm _ e) (VA _ rfl) fun h' tk keep => ?_⟩
    exact ⟨dV, H2, I2.kept (old fun b o hb _ e => keep b o hb e), rd, q0 rfl⟩
  . have Qy : 0 < ns.length := List.length_pos_iff.mpr hn
    have val : ∀ (i : Nat) (v : Value), aK.toArray[i]? = some v -> ∃ t, v = .int (ns.getD i 0) t := fun i v hv => by
      have hi := rv.ints
      have Kv : aK[i]? = some v := by simpa using hv
      have Oz : i < ns.length := by have := (List.getElem?_eq_some_iff.mp Kv).1; omega
      obtain ⟨t, ht⟩ := hi.get i ns[i] (Vl Oz)
      rw [Kv] at ht
      cases ht
      exact ⟨t, by simp [List.getD, Vl Oz]⟩
    refine Vo ⟨V1 V9 _, Be (bt := fun i j => decide (ns.getD i 0 < ns.getD j 0)) (OK := fun _ => True) W hS (fun _ _ _ _ => trivial)
      (fun i j vi vj s' Q' E' _ hi hj hq => CmpOf.ints_lt (fun i => ns.getD i 0) val i j vi vj s' Q' E' hi hj hq) (by rw [Vx, hlen]; exact Qy) trivial (W.frame _ _ _ st fun b _ o e => Vm _ e) (VA _ rfl) fun v h' tk hp keep => ?_⟩
    obtain ⟨t, rfl⟩ := val _ v hp
    obtain ⟨b1, b2⟩ := kE (bt := fun i j => decide (ns.getD i 0 < ns.getD j 0)) (fun i => by simp) (fun i j k h1 h2 => by
      have a1 := Vn h1
      have a2 := Vn h2
      exact Vw (by omega)) (aK.toArray.size - 1)
    have hb : argBest (fun i j => decide (ns.getD i 0 < ns.getD j 0)) (aK.toArray.size - 1) < ns.length := by rw [Vx] at b1 ⊢; omega
    refine ⟨.int _, H2, I2.kept (old keep), ⟨t, rfl⟩, q _ ?_ fun y hy => ?_⟩
    . generalize argBest (fun i j => decide (ns.getD i 0 < ns.getD j 0)) (aK.toArray.size - 1) = bi at hb ⊢
      have e3 : ns.getD bi 0 = ns[bi] := by simp [List.getD, Vl hb]
      rw [e3]
      exact getElem_mem hb
    . obtain ⟨j, hj, e⟩ := mem_iff_getElem.mp hy
      have := b2 j (by rw [Vx]; omega)
      have h3 : ¬ (ns.getD j 0 < ns.getD (argBest (fun i j => decide (ns.getD i 0 < ns.getD j 0)) (aK.toArray.size - 1)) 0) := of_decide_eq_false this
      have e2 : ns.getD j 0 = y := by simp [List.getD, Vl hj, e]
      rw [e2] at h3
      omega
def CP (K : FG) (ta te : TE) (caps : List (Str × Nat)) (P : Addr) : TE := fun σ H Q => ta σ H fun x H1 => ∃ n : Nat, x = .int n /\ n <= 1000 /\ iR K σ te caps P ((range n).map fun i => V.int (i : Nat)) H1 Q
theorem GO {X : Cx} {k : Nat} {p ER rp : Pos} (M9 : X.calm = true) (hg : Gl X "sorted") (hm : X.mg "sorted" = none) (TR : Gl X "range") (TU : X.mg "range" = none) (ha : PE X e ta) (hr : c7 (k + 1) X.A)
    (L : A6 X "<lambda>" (X.env.qual ++ "<lambda>") params body scope x caps) (jP : ∀ (f : Addr) (cd : Value) (cl : List (Str × Addr)) (A : Around) (s : Shared) (H : Hp), PE (A7 X (x :: caps.map (·.1)) (X.env.qual ++ "<lambda>") scope f cd cl A s H) body te)
    (hq : bM.q P = X.env.qual ++ "<lambda>") (lQ : X.env.code = .ref c) (hC : ∀ h, X.K.In h -> CodeHd h c P) (hB : Bm X.mg X.base) (hd : params.defaults = []) (M5 : params.kw_defaults = [])
    (Az : starEach [Expr.Call (.Name "range" rp) [e] [] La] X.env = [(false, eval (.Call (.Name "range" rp) [e] [] La) X.env)] := by rfl) (Na : starEach [e] X.env = [(false, eval e X.env)] := by rfl) :
    PE X (.Call (.Name "sorted" p) [.Call (.Name "range" rp) [e] [] La] [⟨some "key", .Lambda params body scope n8, ER⟩] pos) (CP X.K ta te caps P) := by
  intro pins s σ H Q I h
  refine Wg (ku I hg hm boot_sorted ?_)
  refine callWith_kw ?_ (by rw [Az]; rfl) (by rw [Az]; rfl)
  rw [Az]
  show wpAny _ _ (spliced ((false, eval (.Call (.Name "range" rp) [e] [] La) X.env) :: [])) _ _ s
  refine Wi (Call_ (ku I TR TU boot_range (Wo ?_ Na rfl)))
  rw [Na]
  show wpAny _ _ (spliced ((false, eval e X.env) :: [])) _ _ s
  refine Wi (thn (ha pins s σ H _ I h) fun u s1 ⟨x0, H1, I1, rx, n, ev, hn, q⟩ => Calls.spliced_nil ?_)
  have q2 : iR X.K σ te caps P ((range n).map fun i => V.int (i : Nat)) H1 Q := q
  obtain ⟨ks, hz, hl, qi, hT, turn, done⟩ := id q2
  subst ev
  obtain ⟨t, rfl⟩ := rx
  refine call_range_1 (Calls.spliced_nil ?_)
  obtain ⟨I2, wR⟩ := Inv.zc (t' := s1.toks + 1 + 1) (h' := s1.heap.push { cls := .type "range", data := .fields #[.int 0 s1.toks, .int n t, .int 1 (s1.toks + 1)] }) I1 (fun b o e => Vm _ e) (Vq _) (o := { cls := .type "range", data := .fields #[.int 0 s1.toks, .int n t, .int 1 (s1.toks + 1)] }) (VA _ rfl) (fun v z => by cases z)
  show wpAny _ _ (evalAll [(do let v <- eval (.Lambda params body scope n8) X.env; standAt pos; pure v)]) _ _ _
  refine wpAny_evalAll_cons (Vi (Bc I2 hT hq lQ hC hB hd M5 L.free fun s2 H2 f c' ct pm I3 kp B7 => Vi (wpAny_standAt (Vo (wpAny_evalAll_nil ?_)))))
  show wpAny _ _ (call (.builtin "sorted") [.ref s1.heap.objs.size] [(Str.ofString "key", .ref f)]) _ _ s2
  refine call_function_entry_kw kind_sorted plain_sorted entry_sorted (ksk_s1 _ _) ?_
  unfold Builtin.«sorted»
  refine Vi (m := checkCount "sorted" 1 1 _) (Vo ?_)
  have TV := (I3.pin (s1.heap.objs.size, _) (VR _ (Wd _ (VR _ (mem_singleton.mpr rfl))))).1
  refine Vi (w8 (n := n) (I3.ok.hd M9) TV (by omega) fun h' tk acc hk vc => ?_)
  have I4 : Inv X (pins ++ [(f, kla_obj "<lambda>" (X.env.qual ++ "<lambda>") params body scope (a9 X.env.cells scope.names []) pm c' ct)]) σ H2 { s2 with heap := h', toks := tk } :=
    (I3.kept hk).qd fun r hr => (I3.kept (t' := tk) hk).pin r (VR _ (by
      rcases mem_append.mp hr with z | z
      . exact Wd _ (Wd _ z)
      . exact VR _ z))
  have rv : Vals ((range n).map fun i => V.int (i : Nat)) acc.toList := by
    have lk : ∀ (l : List Nat) (us : List Value), l.length = us.length -> (∀ (j : Nat) (i : Nat) (u : Value), l[j]? = some i -> us[j]? = some u -> ∃ t, u = Value.int (i : Nat) t) -> Vals (l.map fun i => V.int (i : Nat)) us := by
      intro l
      induction l with
      | nil =>
        intro us hl _
        cases us with
        | nil => exact .nil
        | cons _ _ => simp at hl
      | cons i l ih =>
        intro us hl hj
        cases us with
        | nil => simp at hl
        | cons u us => exact .cons (hj 0 i u rfl rfl) (ih us (by simpa using hl) fun j i' u' e1 e2 => hj (j + 1) i' u' e1 e2)
    refine lk _ _ (by rw [Vk, length_toList, vc.1]) fun j i u e1 e2 => ?_
    rw [getElem?_toList] at e2
    obtain ⟨t, ht⟩ := vc.2 j u e2
    have P5 : j < n := by have := (List.getElem?_eq_some_iff.mp e1).1; simpa using this
    rw [Wb P5] at e1
    cases e1
    exact ⟨t, by rw [ht]; simp⟩
  exact vh hr L jP I4 B7 kp rv q2
def Fn (P : Program) (w : World) (K : FG) (mg : SV) (base : Heap) (x : Str) (ps : List Str) (k : Nat) (sp : Sp) : Prop :=
  ∃ f fd, mg x = some (.ref f) /\ cA P w K mg base CX0 k f fd ps sp /\ keepIn K (.ref f) = true /\ Binds K fd ps []
theorem Nb {X : Cx} {k j : Nat} {e : Expr} {es : List Expr} (h : Fn X.prog X.w X.K X.mg X.base x ps k sp) (hr : c7 j X.A) (IH : k <= j) (hg : Gl X x) (ha : PA X (e :: es) t) (AG : (x == ("__debug__" : Str)) = false := by decide)
    (he : starEach (e :: es) X.env = (false, eval e X.env) :: starEach es X.env := by rfl) (iH : (backTo pos (starEach es X.env)).any (·.1) = false := by rfl) : PE X (.Call (.Name x p) (e :: es) [] pos) (a0 sp [] E0 t) := by
  obtain ⟨f, fd, h1, h2, h3, h4⟩ := h
  exact Ia h2 (hr.mono IH) hg h1 h3 h4 .nil A0 ha AG he iH
def Mkr (P : Program) (w : World) (K : FG) (mg : SV) (base : Heap) (x : Str) (C : Addr) (ps : List Str) (k : Nat) (sp : Sp) : Prop :=
  mg x = some (.ref C) /\ ∃ f fd, Mk K C f /\ cA P w K mg base CX0 k f fd ps sp /\ Binds K fd ps []
theorem vp {X : Cx} {k j : Nat} {e : Expr} {es : List Expr} (h : Mkr X.prog X.w X.K X.mg X.base x C ps k sp) (hr : c7 j X.A) (IH : k + 1 <= j) (hg : Gl X x) (ha : PA X (e :: es) t) (AG : (x == ("__debug__" : Str)) = false := by decide)
    (he : starEach (e :: es) X.env = (false, eval e X.env) :: starEach es X.env := by rfl) (iH : (backTo pos (starEach es X.env)).any (·.1) = false := by rfl) : PE X (.Call (.Name x p) (e :: es) [] pos) (g9 C sp [] E0 t) := by
  obtain ⟨h0, f, fd, h1, h2, h3⟩ := h
  exact Ic h1 h2 (hr.mono IH) hg h0 h3 .nil A0 ha AG he iH
theorem Lb {X : Cx} {k j : Nat} (h : Mkr X.prog X.w X.K X.mg X.base x C ps k sp) (hr : c7 j X.A) (IH : k + 1 <= j) (hg : Gl X x) (AG : (x == ("__debug__" : Str)) = false := by decide) :
    PE X (.Call (.Name x p) [] [] pos) (g9 C sp [] E0 aE) := by
  obtain ⟨h0, f, fd, h1, h2, h3⟩ := h
  exact F9 h1 h2 (hr.mono IH) hg h0 h3 .nil A0 AG
def yx (C : Addr) (n : Nat) (fs : List V -> List (Str × V)) : Sp := fun vs H Q _ => ∃ (p dx : Addr) (as : List V), vs = .ref p :: as /\ as.length = n /\ H p = some (.ins C dx []) /\ ∀ H', H' p = some (.ins C dx (fs as)) -> KpX [p] H H' -> Q .non H'
theorem KpX.made {H : Hp} {x : Addr} (nx : H x = none) (nd : H dx = none) (ne : dx ≠ x) (k : KpX [x] (upd (upd H dx (.own x)) x (.ins C dx [])) H2) : Kp H H2 := by
  have Nc : (upd H dx (.own x)) x = none := by rw [aM (Ne.symm ne)]; exact nx
  have k0 : Kp H (upd (upd H dx (.own x)) x (.ins C dx [])) := (Kp.new nd).trans (Kp.new Nc)
  exact ⟨fun b o e i _ => k.all b o (k0.all b o e i (by simp)) i (by simpa using aF e nx), fun t z => k.tab t (k0.tab t z)⟩
theorem GP {n : Nat} {fs : List V -> List (Str × V)} {as : List V} {H1 : Hp} {Q : VK} (hl : as.length = n) (h : ∀ x H2, H1 x = none -> (∃ dx, H2 x = some (.ins C dx (fs as))) -> Kp H1 H2 -> Q (.ref x) H2) :
    ∀ x dx, H1 x = none -> H1 dx = none -> dx ≠ x -> yx C n fs (.ref x :: (as ++ [])) (upd (upd H1 dx (.own x)) x (.ins C dx [])) (fun v H2 => v = .non /\ Q (.ref x) H2) E0 :=
  fun x dx nx nd ne => ⟨x, dx, as, by rw [append_nil], hl, aA, fun H' e k => ⟨rfl, h x H' nx ⟨dx, e⟩ (KpX.made nx nd ne k)⟩⟩
theorem KpX.II {H : Hp} (h : H a = some (.ins C dx fs)) : KpX [a] H (upd H a (.ins C dx FU)) := KpX.write h rfl
theorem Lc {i : Int} (h1 : -1000000000000 <= i) (h2 : i <= 1000000000000) (j : Int) : kz i j := .inl ⟨by omega, by omega⟩
structure Bn (mg : SV) : Prop where
  sum : mg "sum" = none
  zg : mg "min" = none
  GQ : mg "max" = none
  Ld : mg "abs" = none
  len : mg "len" = none
  zh : mg "sorted" = none
  vq : mg "zip" = none
  kF : mg "enumerate" = none
  GR : mg "range" = none
  JO : mg "list" = none
  Le : mg "all" = none
theorem boot_sum : bootBuiltins "sum" = some (.builtin "sum") := by decide +kernel
theorem boot_min : bootBuiltins "min" = some (.builtin "min") := by decide +kernel
theorem boot_max : bootBuiltins "max" = some (.builtin "max") := by decide +kernel
theorem boot_abs : bootBuiltins "abs" = some (.builtin "abs") := by decide +kernel
theorem boot_all : bootBuiltins "all" = some (.builtin "all") := by decide +kernel
theorem boot_list : bootBuiltins "list" = some (.type "list") := by decide +kernel
abbrev Lf : List V -> Hp -> VK -> Prop := fun xs H Q => ∃ i, xs = [.int i] /\ Q (.int (if i < 0 then -i else i)) H
abbrev Bh : List V -> Hp -> VK -> Prop := fun xs H Q => ∃ i j, xs = [.int i, .int j] /\ Q (.int (if j > i then j else i)) H
abbrev vt : List V -> Hp -> VK -> Prop := fun xs H Q => ∃ i j, xs = [.int i, .int j] /\ Q (.int (if j < i then j else i)) H
abbrev jX (K : FG) : List V -> Hp -> VK -> Prop := fun xs H Q => ∃ p ys, xs = [.ref p] /\ (SqL K H p ys \/ SqT K H p ys) /\ Q (.int ys.length) H
abbrev IJ (K : FG) : List V -> Hp -> VK -> Prop := fun xs H Q => ∃ p ys, xs = [.ref p] /\ (SqL K H p ys \/ SqT K H p ys) /\ ∀ l, H l = none -> Q (.ref l) (upd H l (.lst ys))
abbrev IK : R2 := fun x y H Q => y = .non /\ Q (.bl (decide (x = .non))) H
def Mth (P : Program) (w : World) (K : FG) (mg : SV) (base : Heap) (C : Addr) (m : Str) (ps : List Str) (k : Nat) (sp : Sp) : Prop :=
  Cls K C /\ ∃ f fd, Meth K C m f /\ cA P w K mg base CX0 k f fd ps sp /\ Binds K fd ps []
theorem GS {X : Cx} {k j : Nat} {e : Expr} {es : List Expr} {pl : Sem Bool} (h : Mth X.prog X.w X.K X.mg X.base C m ps k sp) (ho : PE X o to) (hr : c7 j X.A) (IH : k <= j) (ha : PA X (e :: es) t)
    (Az : starEach (e :: es) X.env = (false, eval e X.env) :: starEach es X.env := by rfl) (iH : (backTo pos (starEach es X.env)).any (·.1) = false := by rfl)
    (ht : eval (.Call (.Attribute o m apos) (e :: es) [] pos) X.env = (do
      let ov <- eval o X.env
      standAt apos.atName
      let (f, first) <- holding [ov] (getMethod ov m pl)
      callWith pos f first (backTo pos (starEach (e :: es) X.env)) (backToKw pos (keywordEach [] X.env))) := by rfl) : PE X (.Call (.Attribute o m apos) (e :: es) [] pos) (AF C m sp [] E0 to t) := by
  obtain ⟨h0, f, fd, h1, h2, h3⟩ := h
  exact Ib ho h0 h1 h2 (hr.mono IH) h3 .nil A0 ha Az iH ht
theorem psS (i : Nat) {X : Cx} {pos : Pos} {x : Str} (hN : X.N.Nodup) (he : PE X e te) (hi : X.N[i]? = some x := by rfl) (hx : Loc X.env.scope x := by walk_at "o") (hs : swapsWith e (some (.Name x pos')) pos.line X.env = pure false := by rfl) (hf : X.fn x = true \/ X.env.scope.names.lookup x = some .local := by first | exact .inl rfl | exact .inr rfl | assumption) :
    PS X (.Assign [.Name x pos'] e pos) (br te (aC i)) := Ko (i := i) hN hi hx he hs hf
theorem pgN (i : Nat) {X : Cx} {x : Str} (hN : X.N.Nodup) (hi : X.N[i]? = some x := by rfl) (hx : Loc X.env.scope x := by walk_at "o") (hf : X.fn x = true \/ X.env.scope.names.lookup x = some .local := by first | exact .inl rfl | exact .inr rfl | assumption) : PG X (.Name x pos) (aC i) := DX (i := i) hN hi hx hf
theorem pgB (i : Nat) {X : Cx} {x : Str} (hN : X.N.Nodup) (hi : X.N[i]? = some x := by rfl) (hx : Loc X.env.scope x := by walk_at "o") (hf : X.fn x = true \/ X.env.scope.names.lookup x = some .local := by exact .inr rfl) : PG X (.Name x pos) (aC i) := DX (i := i) hN hi hx hf
theorem pF {X : Cx} {k j : Nat} {e : Expr} {es : List Expr} (h : Fn X.prog X.w X.K X.mg X.base x ps k sp) (hr : c7 j X.A) (ha : PA X (e :: es) t) (IH : k <= j := by decide) (hg : Gl X x := by rfl) (AG : (x == ("__debug__" : Str)) = false := by decide)
    (he : starEach (e :: es) X.env = (false, eval e X.env) :: starEach es X.env := by rfl) (iH : (backTo pos (starEach es X.env)).any (·.1) = false := by rfl) : PE X (.Call (.Name x p) (e :: es) [] pos) (a0 sp [] E0 t) := Nb h hr IH hg ha AG he iH
theorem GU : MF X (b9 X.K) := by
  intro pins s σ H o i ov iv Q I ro ri h
  obtain ⟨p, xs, i, z, rfl, rfl, hq, he, q⟩ := h
  cases ro
  obtain ⟨t, rfl⟩ := ri
  obtain ⟨aK, r, pl, hz⟩ := I.list hq
  obtain ⟨j, h1, h2, h3, h4, h5⟩ := yS he
  obtain ⟨w, ew, EU⟩ := r.get h2
  have hl := r.length
  have hn := uS
  have fin : EP X pins σ Q w s := ⟨z, H, I, EU, q⟩
  by_cases h0 : 0 <= i
  . have hj : i.toNat = j := by
      rw [seqIndex_of h0 h5] at h1
      exact Option.some.inj h1
    exact wpAny_getItem_list pl.isList h0 (by omega) (by rw [hj]; simpa using ew) fin
  . have hj : (i + (aK.toArray.size : Int)).toNat = j := by
      rw [seqIndex_neg (by omega) h4] at h1
      rw [Vx, <- hl]
      exact Option.some.inj h1
    exact wpAny_getItem_list_neg pl.isList (by omega) (by rw [Vx] <;> omega) (by omega) (by rw [hj]; simpa using ew) fin
def Nd (N : List Str) (sc scope : Scope) (x : Str) (caps : List (Str × Nat)) : Bool :=
  (match scope.kind with | .function => true | _ => false) && !scope.isCoroutine && !scope.isGenerator && decide (scope.names.lookup x = some .local) && (scope.names.all fun y => decide (scope.names.lookup y.1 = some y.2)) && (caps.all fun c => decide (scope.names.lookup c.1 = some .free) && decide (N[c.2]? = some c.1)) &&
    (scope.names.all fun y => match y.2 with
      | .free => (match sc.names.lookup y.1 with | some .cell => true | some .free => true | _ => false)
      | .cell => false
      | _ => true)
theorem Bi {X : Cx} (h : Nd X.N X.env.scope scope x caps = true := by rfl)
    (hb : ∀ (u : Value) (cl : List (Str × Addr)) (pm bJ ct : Value), bindArgs (kla_fn name qual params body scope cl pm bJ ct) ⟨[u], []⟩ = pure [(x, u)] := by intros; rfl) : A6 X name qual params body scope x caps := by
  unfold Nd at h
  simp only [VV, all_eq_true, decide_eq_true_eq, not_eq_true'] at h
  obtain ⟨⟨⟨⟨⟨⟨h1, h2⟩, h3⟩, h4⟩, h5⟩, h6⟩, h7⟩ := h
  refine ⟨?_, h2, h3, h4, fun y hy e => ?_, h5, fun y hy e => ?_, fun c hc => h6 c hc, hb⟩
  . cases hk : scope.kind <;> rw [hk] at h1 <;> first | rfl | cases h1
  . have := h7 y hy
    rw [e] at this
    cases this
  . have := h7 y hy
    rw [e] at this
    dsimp only at this
    cases hl : X.env.scope.names.lookup y.1 with
    | none => rw [hl] at this; cases this
    | some k =>
      rw [hl] at this
      cases k <;> first | exact .inl rfl | exact .inr rfl | cases this
structure Rec (K : FG) (C : Addr) (fl : List Str) : Prop where
  cl : Cls K C
  no : ∀ f ∈ fl, fj K C f
def RecAt (C : Addr) (H : Hp) (a : Addr) (fs : List (Str × V)) : Prop := ∃ dx, H a = some (.ins C dx fs)
theorem KpX.recAt (k : KpX F H H') (h : RecAt C H a fs) (hF : a ∉ F := by simp) : RecAt C H' a fs := let ⟨dx, e⟩ := h; ⟨dx, k.get e rfl hF⟩
def Nf (K : FG) (f : Str) (x : V) (H : Hp) (Q : VK) : Prop := ∃ a C dx fs v, x = .ref a /\ H a = some (.ins C dx fs) /\ Cls K C /\ fj K C f /\ fs.lookup f = some v /\ Q v H
def Ng (K : FG) (f : Str) (x v : V) (H : Hp) (Qk : Hp -> Prop) : Prop := ∃ a C dx fs, x = .ref a /\ H a = some (.ins C dx fs) /\ Cls K C /\ fj K C f /\ fs.length < 1000 /\ Qk (upd H a (.ins C dx (bS f v fs)))
theorem ba {K : FG} {f : Str} {H : Hp} {Qk : Hp -> Prop} (hp : H p = some (.ins C dx fs)) (R : Rec K C fl) (hm : f ∈ fl) (hl : decide (fs.length < 1000) = true) (q : ∀ H', H' = upd H p (.ins C dx (bS f v fs)) -> H' p = some (.ins C dx (bS f v fs)) -> KpX [p] H H' -> Qk H') : Ng K f (.ref p) v H Qk :=
  ⟨p, C, dx, fs, rfl, hp, R.cl, R.no f hm, Vn hl, q _ rfl aA (KpX.II hp)⟩
def Nw (H : Hp) (a : Addr) : Prop := ∀ o, H a = some o -> jT o = true
theorem Nw.of {H : Hp} (h : H a = none) : Nw H a := fun o e => by rw [h] at e; cases e
theorem KpX.nw (k : Kp H H1) (h : Nw H1 a) : Nw H a := fun o e => by
  cases q : jT o with
  | true => rfl
  | false => exact (h o (k.get e q)).symm.trans q |>.symm ▸ rfl
theorem Nw.ne {o : HO} (h : Nw H a) (e : H b = some o) (ho : jT o = false := by rfl) : b ≠ a := by
  rintro rfl
  rw [h o e] at ho
  cases ho
theorem KpX.yy {u : HO} (k : Kp H H1) (hn : Nw H a) (ha : H1 a = some u) (hu : CJ u = true) : Kp H (upd H1 a o) := by
  have w := KpX.write (o := o) ha hu
  exact ⟨fun b v e i _ => w.1 b v (k.1 b v e i (by simp)) i (by simpa using hn.ne e i), fun t x => w.2 t (k.2 t x)⟩
section
variable {K : FG} {σ : St} {H : Hp} {Q : VK} {D : Ends}
theorem CS {f : Str} {v : V} (h : RecAt C H a fs) (R : Rec K C fl) (hm : f ∈ fl) (l : fs.lookup f = some v) (q : Q v H) : Nf K f (.ref a) H Q :=
  let ⟨dx, e⟩ := h
  ⟨a, C, dx, fs, v, rfl, e, R.cl, R.no f hm, l, q⟩
theorem GV {i : Nat} {v : V} (h : σ[i]? = some (some v)) (q : Q v H) : ai i σ H Q := ⟨v, h, q⟩
theorem Bj (q : Q v H) : tC v σ H Q := q
theorem Nh {r : R2} {ta tb : TE} (q : ta σ H fun x H1 => tb σ H1 fun y H2 => r x y H2 Q) : tOp r ta tb σ H Q := q
theorem Ni {r : V -> Hp -> VK -> Prop} {ta : TE} (q : ta σ H fun x H1 => r x H1 Q) : tUn r ta σ H Q := q
theorem Lg {ta : TE} (q : ta σ H fun x H1 => Nf K f x H1 Q) : aI K ta f σ H Q := q
theorem Nj {g : Int -> V} {i : Int} (q : Q (g i) H) : rU g (.int i) H Q := ⟨i, rfl, q⟩
theorem Lh {g : Int -> Int -> V} {i j : Int} (q : Q (g i j) H) : rI0 g (.int i) (.int j) H Q := ⟨i, j, rfl, rfl, q⟩
theorem kG {g : Int -> Int -> V} {i j : Int} (c : -1000000000000 <= i /\ i <= 1000000000000) (q : Q (g i j) H) : rI kz g (.int i) (.int j) H Q := ⟨i, j, rfl, rfl, Lc c.1 c.2 j, q⟩
theorem Nk (s : HX x y = true) (q : Q (.bl (decide (x = y))) H) : rEq x y H Q := ⟨s, q⟩
theorem Nl (s : HX x y = true) (q : Q (.bl (!decide (x = y))) H) : rNe x y H Q := ⟨s, q⟩
theorem IM {t : TE} {Qb : Bool -> Hp -> Prop} (q : t σ H fun x H' => ∃ k, x = .bl k /\ Qb k H') : bC t σ H Qb := q
theorem JP {t : TE} {Qb : Bool -> Hp -> Prop} (q : t σ H fun x H' => ∃ k, x = .bl k /\ Qb k H') : tB t σ H Qb := q
theorem JQ {c : Bool} {Qb : Bool -> Prop} (q : Qb c) : ∃ k, V.bl c = .bl k /\ Qb k := ⟨c, rfl, q⟩
theorem Li {t : TT} {Qb : Bool -> Hp -> Prop} (q : t σ H fun c H1 => Qb (!c) H1) : yM t σ H Qb := q
theorem Lj {t u : TT} {Qb : Bool -> Hp -> Prop} (q : t σ H fun c H1 => if c = true then u σ H1 Qb else Qb false H1) : Ax t u σ H Qb := q
theorem Nm {t u : TT} {Qb : Bool -> Hp -> Prop} (q : t σ H fun c H1 => if c = true then Qb true H1 else u σ H1 Qb) : tOr t u σ H Qb := q
theorem JR {t : TT} {ta tb : TE} (q : t σ H fun c H1 => if c = true then ta σ H1 Q else tb σ H1 Q) : tIf t ta tb σ H Q := q
theorem GW {r r' : R2} {ta tb tc : TE} (q : ta σ H fun x H1 => tb σ H1 fun y H2 => r x y H2 fun z H3 => ∃ k, z = .bl k /\ (if k = true then tc σ H3 fun w' H4 => r' y w' H4 Q else Q (.bl false) H3)) : rj r r' ta tb tc σ H Q := q
theorem Lk {t u : TS} (q : t { D with nx := u D } σ H) : aH t u D σ H := q
theorem eG (q : D.nx σ H) : bN D σ H := q
theorem Ll {te : TE} {g : TG} (q : te σ H fun x H1 => g x σ H1 D.nx) : br te g D σ H := q
theorem vv {i : Nat} {v : V} {Qk : St -> Hp -> Prop} (q : Qk (σ.set i (some v)) H) : aC i v σ H Qk := q
theorem oR {te : TE} (q : te σ H D.rt) : aX te D σ H := q
theorem Et {te : TE} (q : te σ H fun _ H1 => D.nx σ H1) : d9 te D σ H := q
theorem Lm {c : TT} {t u : TS} (q : c σ H fun b H1 => if b = true then t D σ H1 else u D σ H1) : cT c t u D σ H := q
theorem Ln {i : Nat} {te : TE} {ti : TIp} {x : V} (h : σ[i]? = some (some x)) (q : te σ H fun y H1 => ti x y H1 fun z H2 => D.nx (σ.set i (some z)) H2) : Cc i te ti D σ H := ⟨x, h, q⟩
theorem Lo {f : Int -> Int -> Int} {i j : Int} (q : Q (.int (f i j)) H) : ipI f (.int i) (.int j) H Q := ⟨i, j, rfl, rfl, q⟩
theorem CT {Qa : List V -> Hp -> Prop} (q : Qa [] H) : aE σ H Qa := q
theorem zi {ta : TE} {tr : TA} {Qa : List V -> Hp -> Prop} (q : ta σ H fun x H1 => tr σ H1 fun xs H2 => Qa (x :: xs) H2) : aj ta tr σ H Qa := q
theorem Nn {r : List V -> Hp -> VK -> Prop} {t : TA} (q : t σ H fun vs H1 => r vs H1 Q) : tCB r t σ H Q := q
theorem IP (i j : Int) : (if j < i then j else i) = min i j := by split <;> omega
theorem IQ (i j : Int) : (if j > i then j else i) = max i j := by split <;> omega
theorem IS {i j : Int} (q : Q (.int (min i j)) H) : vt [.int i, .int j] H Q := ⟨i, j, rfl, by rw [IP]; exact q⟩
theorem IU {i j : Int} (q : Q (.int (max i j)) H) : Bh [.int i, .int j] H Q := ⟨i, j, rfl, by rw [IQ]; exact q⟩
theorem Lp {i : Int} (q : Q (.int (if i < 0 then -i else i)) H) : Lf [.int i] H Q := ⟨i, rfl, q⟩
theorem IV {sp : Sp} {t : TA} (q : t σ H fun vs H1 => sp (vs ++ []) H1 Q E0) : a0 sp [] E0 t σ H Q := q
theorem bj {i : Nat} {v : V} (h : SqL K H p xs) (e : xs[i]? = some v) (q : Q v H) : b9 K (.ref p) (.int (i : Nat)) H Q := ⟨p, xs, i, v, rfl, rfl, h, Ec e, q⟩
theorem GX {t : TA} (q : t σ H fun xs H1 => xs.length <= sizeLine /\ ∀ p, H1 p = none -> Q (.ref p) (upd H1 p (.lst xs))) : bH t σ H Q := q
theorem Lq {t : TA} (q : t σ H fun xs H1 => xs.length <= sizeLine /\ ∀ p, H1 p = none -> Q (.ref p) (upd H1 p (.tup xs))) : yP t σ H Q := q
theorem IW {ta tv : TE} (q : tv σ H fun y H1 => ta σ H1 fun x H2 => Ng K f x y H2 (D.nx σ)) : cg K ta tv f D σ H := q
theorem vw (q : D.bk σ H) : yN D σ H := q
theorem IX {to ti : TE} {t : B9} {Qk : St -> Hp -> Prop} (q : to σ H fun o H1 => ti σ H1 fun i H2 => t o i v H2 fun H3 => Qk σ H3) : F1 to ti t v σ H Qk := q
theorem qt {i : Nat} {Qk : Hp -> Prop} (h : H p = some (.lst xs)) (hi : i < xs.length) (q : Qk (upd H p (.lst (xs.set i v)))) : yf (.ref p) (.int (i : Nat)) v H Qk :=
  ⟨p, xs, i, i, rfl, rfl, h, by unfold ixN; rw [Vj (by omega), Vj (by omega)]; simp, q⟩
theorem IY {to ti te : TE} {Cd : V -> V -> Hp -> VK -> Prop} {Kq : TIp} {Ce : B9} (q : to σ H fun o H1 => ti σ H1 fun i H2 => Cd o i H2 fun x H3 => te σ H3 fun y H4 => Kq x y H4 fun z H5 => Ce o i z H5 fun H6 => D.nx σ H6) : F2 to ti te Cd Kq Ce D σ H := q
theorem JS {T : String} {r : V -> List V -> Hp -> VK -> Prop} {to : TE} {t : TA} (q : to σ H fun x H1 => tyV K T x H1 /\ t σ H1 fun xs H2 => r x xs H2 Q) : tBM K T r to t σ H Q := q
theorem Lr {ta tb : TE} (q : ta σ H fun x H1 => ∃ c, x = .bl c /\ if c = true then Q (.bl true) H1 else tb σ H1 Q) : Kl ta tb σ H Q := q
def Np (X : Cx) (neg : Bool) (y x : V) (H : Hp) (Q : VK) : Prop := ∃ a aQ k, x = .ref a /\ KD X a aQ /\ y = .int k /\ Q (.bl (if neg = true then !(de aQ k).isSome else (de aQ k).isSome)) H
theorem Ls {neg : Bool} {ty td : TE} (q : ty σ H fun y H1 => td σ H1 fun x H2 => Np X neg y x H2 Q) : Fb X neg ty td σ H Q := q
theorem CV {neg : Bool} {aQ : List (Int × V)} {k : Int} (kd : KD X a aQ) (q : Q (.bl (if neg = true then !(de aQ k).isSome else (de aQ k).isSome)) H) : Np X neg (.int k) (.ref a) H Q := ⟨a, aQ, k, rfl, kd, rfl, q⟩
def JT (X : Cx) (x y : V) (H : Hp) (Q : VK) : Prop := ∃ a aQ k v, x = .ref a /\ KD X a aQ /\ y = .int k /\ de aQ k = some v /\ Q v H
theorem I0 {td ty : TE} (q : td σ H fun x H1 => ty σ H1 fun y H2 => JT X x y H2 Q) : vo X td ty σ H Q := q
theorem zj {aQ : List (Int × V)} {k : Int} {v : V} (kd : KD X a aQ) (l : de aQ k = some v) (q : Q v H) : JT X (.ref a) (.int k) H Q := ⟨a, aQ, k, v, rfl, kd, rfl, l, q⟩
def GY (X : Cx) (x : V) (ty tx : TE) (σ : St) (H : Hp) (Q : VK) : Prop := ∃ a aQ, x = .ref a /\ KD X a aQ /\ ty σ H fun y H2 => tx σ H2 fun z H3 => ∃ k, y = .int k /\ Q ((de aQ k).getD z) H3
theorem GZ {td : TE} (q : td σ H fun x H1 => GY X x ty tx σ H1 Q) : CN X td ty tx σ H Q := q
theorem G0 {aQ : List (Int × V)} {ty tx : TE} (kd : KD X a aQ) (q : ty σ H fun y H2 => tx σ H2 fun z H3 => ∃ k, y = .int k /\ Q ((de aQ k).getD z) H3) : GY X (.ref a) ty tx σ H Q := ⟨a, aQ, rfl, kd, q⟩
theorem Nq {r : V -> Option Int -> Option Int -> Hp -> VK -> Prop} {te : TE} {tl th : TO} (q : te σ H fun x H1 => tl σ H1 fun l H2 => th σ H2 fun u H3 => r x l u H3 Q) : tSl r te tl th σ H Q := q
theorem Ja {t : TE} {Qo : Option Int -> Hp -> Prop} (q : t σ H fun x H1 => ∃ i, x = .int i /\ Qo (some i) H1) : ye t σ H Qo := q
theorem Lu {j : Int} {Qi : Int -> Prop} (q : Qi j) : ∃ i, V.int j = .int i /\ Qi i := ⟨j, rfl, q⟩
theorem JU {lo hi : Option Int} (h : SqL K H a xs) (q : ∀ p, H p = none -> Q (.ref p) (upd H p (.lst (yQ xs lo hi)))) : Ij K (.ref a) lo hi H Q := ⟨a, xs, rfl, h, q⟩
theorem vx {i : Nat} {v : V} (h : SqT K H p xs) (e : xs[i]? = some v) (q : Q v H) : Cz K (.ref p) (.int (i : Nat)) H Q := ⟨p, xs, i, v, rfl, rfl, h, Ec e, q⟩
theorem oS {y : V} (h : H l = some (.lst xs)) (hz : xs.length < sizeLine) (q : Q .non (upd H l (.lst (xs ++ [y])))) : dI (.ref l) [y] H Q := ⟨l, xs, y, rfl, rfl, h, hz, q⟩
theorem CW (h : H l = some (.lst xs)) (hb : H b = some (.lst zs)) (hz : xs.length + zs.length <= sizeLine) (q : Q .non (upd H l (.lst (xs ++ zs)))) : nv (.ref l) [.ref b] H Q := ⟨l, b, xs, zs, rfl, rfl, h, hb, hz, q⟩
theorem df (h : SqL K H l xs) (q : Q (.int xs.length) H) : jX K [.ref l] H Q := ⟨l, xs, rfl, .inl h, q⟩
theorem Jb (h : SqT K H l xs) (q : Q (.int xs.length) H) : jX K [.ref l] H Q := ⟨l, xs, rfl, .inr h, q⟩
end
theorem Lv {x : V} {Q : VK} (q : Q (.bl (decide (x = .non))) H) : IK x .non H Q := ⟨rfl, q⟩
def MkR (C : Addr) (sp : Sp) (vs : List V) (H1 : Hp) (Q : VK) : Prop := ∀ x dx, H1 x = none -> H1 dx = none -> dx ≠ x -> sp (.ref x :: (vs ++ [])) (upd (upd H1 dx (.own x)) x (.ins C dx [])) (fun v H2 => v = .non /\ Q (.ref x) H2) E0
theorem Jc {t : TA} {H : Hp} (q : t σ H fun vs H1 => MkR C sp vs H1 Q) : g9 C sp [] E0 t σ H Q := q
theorem oT {n : Nat} {fs : List V -> List (Str × V)} {as : List V} {H1 : Hp} {Q : VK} (hl : as.length = n) (h : ∀ x H2, H1 x = none -> RecAt C H2 x (fs as) -> Kp H1 H2 -> Q (.ref x) H2) : MkR C (yx C n fs) as H1 Q := GP hl h
section
variable {K : FG} {σ : St} {H : Hp} {Q : VK} {D : Ends}
theorem aZ {α : Type} (f : Nat -> α) {n i : Nat} (h : i < n) : ((range n).map f)[i]? = some (f i) := by
  rw [Vt, Wb h]; rfl
theorem gj (xs : List Int) {i : Nat} (h : i < xs.length) : (xs.map V.int)[i]? = some (.int (xs.getD i 0)) := by
  rw [Vt, Vl h]
  simp [List.getD, Vl h]
theorem eI (f : Nat -> Int) (l : List Nat) : l.map (fun i => V.int (f i)) = (l.map f).map V.int := by rw [Vz]; rfl
def LcR (J : It) (g : TG) (tt : TT) (te : TE) (vs : List Nat) (σ : St) (H1 : Hp) (Q : VK) : Prop := ∀ D, H1 D = none -> ∃ W : Nat -> Nat -> Hp -> Prop, (∃ m, W 0 m (upd H1 D (.lst []))) /\ ∀ i m H, W i m H ->
  (J.stop i H /\ Q (.ref D) H) \/ (J.go i H /\ ∃ Nx : Hp -> Prop, (∀ H', Nx H' -> ∃ m', m' < m /\ W (i + 1) m' H') /\ ∀ x H', J.yld i H x H' -> g x (wipe σ vs) H' fun σ2 H2 => wipe σ2 vs = wipe σ vs /\ tt σ2 H2 fun b H3 =>
    if b = true then te σ2 H3 fun y H4 => ∃ acc, H4 D = some (.lst acc) /\ acc.length < sizeLine /\ Nx (upd H4 D (.lst (acc ++ [y]))) else Nx H3)
theorem Nr {wi : TI} {vs : List Nat} (q : wi σ H fun J H1 => LcR J g tt te vs σ H1 Q) : tLc wi g tt te vs σ H Q := q
def IL (K : FG) (x : V) (H : Hp) (R : It -> Hp -> Prop) : Prop := ∃ a, x = .ref a /\ (∃ xs, SqL K H a xs) /\ R (Itl K a) H
def IT (K : FG) (x : V) (H : Hp) (R : It -> Hp -> Prop) : Prop := ∃ a, x = .ref a /\ (∃ xs, SqT K H a xs) /\ R (Itt K a) H
theorem G1 {tl : TE} (q : tl σ H fun x H1 => IL K x H1 R) : bO K tl σ H R := q
theorem Jd {tl : TE} (q : tl σ H fun x H1 => IT K x H1 R) : Kr K tl σ H R := q
theorem yz {R : It -> Hp -> Prop} (h : SqL K H a xs) (q : R (Itl K a) H) : IL K (.ref a) H R := ⟨a, rfl, ⟨xs, h⟩, q⟩
theorem Nt {R : It -> Hp -> Prop} (h : SqT K H a xs) (q : R (Itt K a) H) : IT K (.ref a) H R := ⟨a, rfl, ⟨xs, h⟩, q⟩
def IE (K : FG) (vs : List V) (H : Hp) (R : It -> Hp -> Prop) : Prop := ∃ a xs, vs = [.ref a] /\ SqL K H a xs /\ R (Ite K a) H
theorem G2 {ta : TA} (q : ta σ H fun vs H1 => IE K vs H1 R) : AZ K ta σ H R := q
theorem Nu {R : It -> Hp -> Prop} (h : SqL K H a xs) (q : R (Ite K a) H) : IE K [.ref a] H R := ⟨a, xs, rfl, h, q⟩
def IZ (K : FG) (ts : List Bool) (vs : List V) (H1 : Hp) (R : It -> Hp -> Prop) : Prop := ∃ (as : List Addr) (qp : List (List V)), vs = as.map V.ref /\ as.length = ts.length /\ Paired (SqS K H1) (ts.zip as) qp /\ R (vn K (ts.zip as)) H1
theorem G3 {ta : TA} {ts : List Bool} (q : ta σ H fun vs H1 => IZ K ts vs H1 R) : jW K ta ts σ H R := q
theorem Lw {R : It -> Hp -> Prop} (h1 : SqL K H a xs) (h2 : SqL K H b ys) (q : R (vn K [(false, a), (false, b)]) H) : IZ K [false, false] [.ref a, .ref b] H R :=
  ⟨[a, b], [xs, ys], rfl, rfl, .cons h1 (.cons h2 .nil), q⟩
theorem Lx {R : It -> Hp -> Prop} (h1 : SqL K H a xs) (h2 : SqL K H b ys) (h3 : SqL K H c zs) (q : R (vn K [(false, a), (false, b), (false, c)]) H) : IZ K [false, false, false] [.ref a, .ref b, .ref c] H R :=
  ⟨[a, b, c], [xs, ys, zs], rfl, rfl, .cons h1 (.cons h2 (.cons h3 .nil)), q⟩
theorem G4 {R : It -> Hp -> Prop} (h1 : SqL K H a xs) (h2 : SqT K H b ys) (q : R (vn K [(false, a), (true, b)]) H) : IZ K [false, true] [.ref a, .ref b] H R :=
  ⟨[a, b], [xs, ys], rfl, rfl, .cons h1 (.cons h2 .nil), q⟩
theorem CY {Qb : Bool -> Hp -> Prop} (q : Qb true H) : ff σ H Qb := q
theorem vy {f : Nat -> V} : ∀ {l : List Nat} {ys : List V}, Paired (fun i y => y = f i) l ys -> ys = l.map f
  | _, _, .nil => rfl
  | _, _, .cons r t => by rw [r, vy t]; rfl
structure xa (J : It) (g : TG) (n : Nat) (put : Nat -> St -> St) (H1 : Hp) : Prop where
  ex : ∃ Ok : Hp -> Prop, Wk J g n Ok put /\ ∀ H, Kp H1 H -> Ok H
theorem bx {j : Nat} (h : SqL K H a xs) : xa (Itl K a) (aC j) xs.length (fun i σ => σ.set j xs[i]?) H := ⟨_, kC, fun _ k => k.bI h⟩
theorem Eu {j k : Nat} (h : SqL K H a xs) : xa (Ite K a) (jf K 2 (bA (aC j) (bA (aC k) je))) xs.length (fun i σ => (σ.set j (some (.int (i : Nat)))).set k xs[i]?) H := ⟨_, El, fun _ k => k.bI h⟩
theorem nB {j k : Nat} (h1 : SqL K H a xs) (h2 : SqL K H b ys) : xa (vn K [(false, a), (false, b)]) (jf K 2 (bA (aC j) (bA (aC k) je))) (min xs.length ys.length) (fun i σ => (σ.set j xs[i]?).set k ys[i]?) H := ⟨_, ze, fun _ k => ⟨k.bI h1, k.bI h2⟩⟩
theorem Fd {j k : Nat} (h1 : SqL K H a xs) (h2 : SqT K H b ys) : xa (vn K [(false, a), (true, b)]) (jf K 2 (bA (aC j) (bA (aC k) je))) (min xs.length ys.length) (fun i σ => (σ.set j xs[i]?).set k ys[i]?) H := ⟨_, ze, fun _ k => ⟨k.bI h1, k.tw h2⟩⟩
theorem Je {j k l : Nat} (h1 : SqL K H a xs) (h2 : SqL K H b ys) (h3 : SqL K H c zs) : xa (vn K [(false, a), (false, b), (false, c)]) (jf K 3 (bA (aC j) (bA (aC k) (bA (aC l) je)))) (min xs.length (min ys.length zs.length)) (fun i σ => ((σ.set j xs[i]?).set k ys[i]?).set l zs[i]?) H := ⟨_, Es, fun _ k => ⟨k.bI h1, k.bI h2, k.bI h3⟩⟩
theorem ji {J : It} {n : Nat} {put : Nat -> St -> St} {tt : TT} {te : TE} {vs : List Nat} (w0 : xa J g n put H1)
    (hn : n < sizeLine) (sel : Nat -> Bool) (f : Nat -> V)
    (turn : ∀ i H' (Ky : V -> Hp -> Prop) (Kf : Hp -> Prop), i < n -> Kp H1 H' -> (sel i = true -> ∀ H3, Kp H' H3 -> Ky (f i) H3) -> (sel i = false -> ∀ H3, Kp H' H3 -> Kf H3) ->
      tt (put i (wipe σ vs)) H' fun b H2 => if b = true then te (put i (wipe σ vs)) H2 Ky else Kf H2)
    (done : ∀ D H', Kp H1 H' -> H1 D = none -> H' D = some (.lst ((cQ sel n).map f)) -> Q (.ref D) H') (za : ∀ i, wipe (put i (wipe σ vs)) vs = wipe σ vs := by intro i; rfl) : LcR J g tt te vs σ H1 Q := by
  obtain ⟨Ok, w, hok⟩ := w0.ex
  intro D hD
  refine GB w hD hok za hn sel (fun i y _ => y = f i) (fun _ _ _ _ _ _ _ r => r) (fun i H' acc Ky Kf hi kp _ hy hf => turn i H' Ky Kf hi kp (fun e H3 k => hy _ H3 k e rfl) fun e H3 k => hf H3 k e) fun H' ys kp hd py => ?_
  have ey : ys = (cQ sel n).map f := vy py
  exact done D H' kp hD (by rw [hd, ey])
theorem rK (n : Nat) : cQ (fun _ => true) n = range n := by
  unfold cQ
  exact List.filter_eq_self.mpr fun _ _ => rfl
theorem cU {J : It} {n : Nat} {put : Nat -> St -> St} {te : TE} {vs : List Nat} (w0 : xa J g n put H1)
    (hn : n < sizeLine) (f : Nat -> V)
    (turn : ∀ i H' (Ky : V -> Hp -> Prop), i < n -> Kp H1 H' -> (∀ H3, Kp H' H3 -> Ky (f i) H3) -> te (put i (wipe σ vs)) H' Ky)
    (done : ∀ D H', Kp H1 H' -> H1 D = none -> H' D = some (.lst ((range n).map f)) -> Q (.ref D) H') (za : ∀ i, wipe (put i (wipe σ vs)) vs = wipe σ vs := by intro i; rfl) : LcR J g ff te vs σ H1 Q := by
  refine ji w0 hn (fun _ => true) f (fun i H' Ky Kf hi kp hy _ => ?_) ?_ za
  . refine CY (oP ?_)
    exact turn i H' Ky hi kp (hy rfl)
  . intro D H' kp hD e
    rw [rK] at e
    exact done D H' kp hD e
theorem zk {J : It} {n : Nat} {put : Nat -> St -> St} {te : TE} {vs : List Nat} (w0 : xa J g n put H1)
    (hn : n < sizeLine) (R : Nat -> Addr -> Hp -> Prop) (mono : ∀ i a H H' D acc, KpX [D] H H' -> H D = some (.lst acc) -> H1 D = none -> R i a H -> R i a H')
    (turn : ∀ i H' (Ky : V -> Hp -> Prop), i < n -> Kp H1 H' -> (∀ a H3, Kp H' H3 -> R i a H3 -> Ky (.ref a) H3) -> te (put i (wipe σ vs)) H' Ky)
    (done : ∀ D H' (ad : Nat -> Addr), Kp H1 H' -> H1 D = none -> H' D = some (.lst ((range n).map fun i => .ref (ad i))) -> (∀ i, i < n -> R i (ad i) H') -> Q (.ref D) H') (za : ∀ i, wipe (put i (wipe σ vs)) vs = wipe σ vs := by intro i; rfl) : LcR J g ff te vs σ H1 Q := by
  obtain ⟨Ok, w, hok⟩ := w0.ex
  intro D hD
  refine GB w hD hok za hn (fun _ => true) (fun i y H => ∃ a, y = .ref a /\ R i a H) (fun i y H H' acc k e ⟨a, e1, r⟩ => ⟨a, e1, mono i a H H' D acc k e hD r⟩) (fun i H' acc Ky Kf hi kp vc hy hf => ?_) fun H' ys kp hd py => ?_
  . refine CY (oP ?_)
    exact turn i H' Ky hi kp fun a H3 k r => hy _ H3 k rfl ⟨a, rfl, r⟩
  . rw [rK] at py
    have key : ∀ i, i < n -> ∃ a, ys[i]? = some (.ref a) /\ R i a H' := by
      intro i hi
      obtain ⟨y, e, a, e1, r⟩ := cb py (i := i) (by rw [Wb hi])
      exact ⟨a, by rw [e, e1], r⟩
    have hl : ys.length = n := by rw [<- Paired.length py]; simp
    have ch : ∃ ad : Nat -> Addr, ∀ i, i < n -> ys[i]? = some (.ref (ad i)) /\ R i (ad i) H' :=
      ⟨fun i => if h : i < n then Classical.choose (key i h) else 0, fun i hi => by
        show ys[i]? = some (.ref (if h : i < n then Classical.choose (key i h) else 0)) /\ R i (if h : i < n then Classical.choose (key i h) else 0) H'
        rw [dif_pos hi]
        exact Classical.choose_spec (key i hi)⟩
    obtain ⟨ad, ha⟩ := ch
    refine done D H' ad kp hD ?_ fun i hi => (ha i hi).2
    rw [hd]
    congr 2
    apply V0
    intro i
    by_cases hi : i < n
    . rw [(ha i hi).1, aZ _ hi]
    . rw [VL (by omega), VL (by simpa using hi)]
theorem G5 {J : It} {n : Nat} {put : Nat -> St -> St} {te : TE} {vs : List Nat} (w0 : xa J g n put H1)
    (hn : n < sizeLine) (R : Nat -> Addr -> Hp -> Prop) (mono : ∀ i a H H' D acc, KpX [D] H H' -> H D = some (.lst acc) -> a ≠ D -> R i a H -> R i a H')
    (turn : ∀ i H' (Ky : V -> Hp -> Prop), i < n -> Kp H1 H' -> (∀ a H3, Kp H' H3 -> Nw H' a -> R i a H3 -> Ky (.ref a) H3) -> te (put i (wipe σ vs)) H' Ky)
    (done : ∀ D H' (ad : Nat -> Addr), Kp H1 H' -> H1 D = none -> H' D = some (.lst ((range n).map fun i => .ref (ad i))) -> (∀ i, i < n -> R i (ad i) H') -> Q (.ref D) H') (za : ∀ i, wipe (put i (wipe σ vs)) vs = wipe σ vs := by intro i; rfl) : LcR J g ff te vs σ H1 Q := by
  obtain ⟨Ok, w, hok⟩ := w0.ex
  intro D hD
  refine GB w hD hok za hn (fun _ => true) (fun i y H => ∃ a, y = .ref a /\ a ≠ D /\ R i a H) (fun i y H H' acc k e ⟨a, e1, ne, r⟩ => ⟨a, e1, ne, mono i a H H' D acc k e ne r⟩) (fun i H' acc Ky Kf hi kp vc hy hf => ?_) fun H' ys kp hd py => ?_
  . refine CY (oP ?_)
    exact turn i H' Ky hi kp fun a H3 k hn r => hy _ H3 k rfl ⟨a, rfl, Ne.symm (hn.ne vc), r⟩
  . rw [rK] at py
    have key : ∀ i, i < n -> ∃ a, ys[i]? = some (.ref a) /\ R i a H' := by
      intro i hi
      obtain ⟨y, e, a, e1, _, r⟩ := cb py (i := i) (by rw [Wb hi])
      exact ⟨a, by rw [e, e1], r⟩
    have hl : ys.length = n := by rw [<- Paired.length py]; simp
    have ch : ∃ ad : Nat -> Addr, ∀ i, i < n -> ys[i]? = some (.ref (ad i)) /\ R i (ad i) H' :=
      ⟨fun i => if h : i < n then Classical.choose (key i h) else 0, fun i hi => by
        show ys[i]? = some (.ref (if h : i < n then Classical.choose (key i h) else 0)) /\ R i (if h : i < n then Classical.choose (key i h) else 0) H'
        rw [dif_pos hi]
        exact Classical.choose_spec (key i hi)⟩
    obtain ⟨ad, ha⟩ := ch
    refine done D H' ad kp hD ?_ fun i hi => (ha i hi).2
    rw [hd]
    congr 2
    apply V0
    intro i
    by_cases hi : i < n
    . rw [(ha i hi).1, aZ _ hi]
    . rw [VL (by omega), VL (by simpa using hi)]
def Ly (J : It) (g : TG) (tb : TS) (D : Ends) (σ : St) (H1 : Hp) : Prop := ∃ W : Nat -> Nat -> St -> Hp -> Prop, (∃ m, W 0 m σ H1) /\ ∀ i m σ H, W i m σ H ->
  (J.stop i H /\ D.nx σ H) \/ (J.go i H /\ ∃ N : St -> Hp -> Prop, (∀ σ' H', N σ' H' -> ∃ m', m' < m /\ W (i + 1) m' σ' H') /\ ∀ x H', J.yld i H x H' -> g x σ H' fun σ2 H2 => tb { D with nx := N, ct := N, bk := D.nx } σ2 H2)
theorem Lz {wi : TI} (q : wi σ H fun J H1 => Ly J g tb D σ H1) : lX wi g tb D σ H := q
end
theorem vz {J : It} {n : Nat} {put : Nat -> St -> St} {tb : TS} {D : Ends} (w0 : xa J g n put H) (Pv : Nat -> St -> Hp -> Prop) (h0 : Pv 0 σ H) (hk : ∀ i σ' H', Pv i σ' H' -> Kp H H')
    (hs : ∀ i σ' H' H2, i < n -> Pv i σ' H' -> Kp H' H2 -> tb { D with nx := Pv (i + 1), ct := Pv (i + 1), bk := D.nx } (put i σ') H2) (hd : ∀ σ' H', Pv n σ' H' -> D.nx σ' H') : Ly J g tb D σ H := by
  obtain ⟨Ok, w, hok⟩ := w0.ex
  exact GA w Pv h0 (fun i σ' H' _ p => hok H' (hk i σ' H' p)) hs hd
theorem jj {J : It} {n : Nat} {Ok : Hp -> Prop} {put : Nat -> St -> St} {tb : TS} {D : Ends} {H : Hp} (w : Wk J g n Ok put) (Pv : Nat -> St -> Hp -> Prop) (h0 : Pv 0 σ H) (hok : ∀ i σ H, Pv i σ H -> Ok H)
    (hs : ∀ i σ' H' H2, i < n -> Pv i σ' H' -> Kp H' H2 -> tb { D with nx := Pv (i + 1), ct := Pv (i + 1), bk := D.nx } (put i σ') H2) (hd : ∀ σ' H', Pv n σ' H' -> D.nx σ' H') : Ly J g tb D σ H :=
  GA w Pv h0 (fun i σ' H' _ p => hok i σ' H' p) hs hd
theorem Jf {c : TT} {tb : TS} {D : Ends} {H : Hp} (n : Nat) (Pv : Nat -> St -> Hp -> Prop) (h0 : Pv 0 σ H)
    (hs : ∀ i σ' H', i < n -> Pv i σ' H' -> ∀ Qb : Bool -> Hp -> Prop, (∀ H1, tb { D with nx := Pv (i + 1), ct := Pv (i + 1), bk := D.nx } σ' H1 -> Qb true H1) -> c σ' H' Qb)
    (hd : ∀ σ' H', Pv n σ' H' -> ∀ Qb : Bool -> Hp -> Prop, (∀ H1, D.nx σ' H1 -> Qb false H1) -> c σ' H' Qb) : Ci c tb D σ H := by
  refine ⟨fun m σ' H' => ∃ i, i <= n /\ m = n - i /\ Pv i σ' H', ⟨n, 0, VF _, rfl, h0⟩, ?_⟩
  rintro m σ' H' ⟨i, hi, rfl, p⟩
  by_cases cN : i < n
  . exact hs i σ' H' cN p _ fun H1 q => oP ⟨Pv (i + 1), fun σ2 H2 p2 => ⟨n - (i + 1), by omega, i + 1, cN, rfl, p2⟩, q⟩
  . obtain rfl : i = n := by omega
    exact hd σ' H' p _ fun H1 q => oO q
local macro_rules | `(tactic| kd_p) => `(tactic| ((repeat (first | ((with_reducible refine RV.Lk ?_); dsimp only) | (with_reducible refine RV.Ll ?_) | ((with_reducible apply RV.GV); exact rfl) | (with_reducible refine RV.Bj ?_) | (with_reducible refine RV.Nh ?_) | (with_reducible refine RV.Ni ?_) | (with_reducible refine RV.Lg ?_) | (with_reducible refine RV.Lh ?_) | (with_reducible refine RV.Nj ?_) | (with_reducible refine RV.IM ?_) | (with_reducible refine RV.JP ?_) | (with_reducible refine RV.JQ ?_) | (with_reducible refine RV.Li ?_) | (with_reducible refine RV.Lj ?_) | (with_reducible refine RV.Nm ?_) | (with_reducible refine RV.JR ?_) | (with_reducible refine RV.GW ?_) | (with_reducible refine RV.vv ?_) | (with_reducible refine RV.oR ?_) | (with_reducible refine RV.Et ?_) | (with_reducible refine RV.Lm ?_) | (with_reducible refine RV.Lo ?_) | (with_reducible refine RV.zi ?_) | (with_reducible refine RV.CT ?_) | (with_reducible refine RV.Nn ?_) | (with_reducible refine RV.IS ?_) | (with_reducible refine RV.IU ?_) | (with_reducible refine RV.Lp ?_) | (with_reducible refine RV.IV ?_) | (with_reducible refine RV.GX ?_) | (with_reducible refine RV.Lq ?_) | (with_reducible refine RV.IW ?_) | (with_reducible refine RV.Lv ?_) | (with_reducible refine RV.eG ?_) | (with_reducible refine RV.Jc ?_) | (with_reducible refine RV.Lr ?_) | (with_reducible refine RV.Ls ?_) | (with_reducible refine RV.I0 ?_) | (with_reducible refine RV.GZ ?_) | (with_reducible refine RV.Nq ?_) | (with_reducible refine RV.Ja ?_) | (with_reducible refine RV.Lu ?_) | (with_reducible refine RV.vw ?_) | (with_reducible refine RV.IX ?_) | (with_reducible refine RV.IY ?_) | (with_reducible refine RV.JS ?_) | ((with_reducible apply RV.Ln); exact rfl) | ((with_reducible apply RV.Nk); exact rfl) | ((with_reducible apply RV.Nl); exact rfl) | (with_reducible refine RV.CS (by assumption) (by assumption) (by decide) (by with_unfolding_all rfl) ?_) | (with_reducible refine RV.Nr ?_) | (with_reducible refine RV.Lz ?_) | (with_reducible refine RV.G1 ?_) | (with_reducible refine RV.Jd ?_) | (with_reducible refine RV.G2 ?_) | (with_reducible refine RV.G3 ?_) | (with_reducible refine RV.yz (by assumption) ?_) | (with_reducible refine RV.Nt (by assumption) ?_) | (with_reducible refine RV.Nu (by assumption) ?_) | (with_reducible refine RV.Lw (by assumption) (by assumption) ?_) | (with_reducible refine RV.Lx (by assumption) (by assumption) (by assumption) ?_))); (try dsimp only)))
theorem zl {α β : Type} (f : α -> β) {ps m : List β} (h : ps.Perm m) : ∀ l : List α, m = l.map f -> ∃ L : List α, L.Perm l /\ ps = L.map f := by
  induction h with
  | nil => intro l e; cases l with
    | nil => exact ⟨[], .nil, rfl⟩
    | cons => cases e
  | cons x _ ih => intro l e; cases l with
    | nil => cases e
    | cons a l' =>
      obtain ⟨L, h1, h2⟩ := ih l' (List.tail_eq_of_cons_eq e)
      exact ⟨a :: L, h1.cons a, by rw [h2, List.head_eq_of_cons_eq e]; rfl⟩
  | swap x y r => intro l e; cases l with
    | nil => cases e
    | cons a l' => cases l' with
      | nil => cases e
      | cons b RS =>
        injection e with e1 e2
        injection e2 with e3 e4
        exact ⟨b :: a :: RS, .swap a b RS, by rw [e1, e3, e4]; rfl⟩
  | trans _ _ Qh Qj =>
    intro l e
    obtain ⟨L, h1, h2⟩ := Qj l e
    obtain ⟨L', h3, h4⟩ := Qh L h2
    exact ⟨L', h3.trans h1, h4⟩
theorem Qz {a b c d : Int} (h : PyProof.Rows.lexLt itemOrd ([a, b].map Sum.inl) ([c, d].map Sum.inl) = false) : c < a \/ (c = a /\ d <= b) := by
  simp [PyProof.Rows.lexLt, itemOrd, itemLt] at h
  omega
theorem Bk {K : FG} {te : TE} {Q : VK} (ps : List Nat) (Oh : ps.Pairwise (· < ·)) (key : Nat -> Int) {xs : List V} (hx : xs = ps.map fun i => V.int (i : Nat)) (hlen : ps.length <= 1000) (hT : Tab H1 TB)
    (turn : ∀ i, i ∈ ps -> ∀ H2 (Ky : VK), Kp H1 H2 -> (∀ p H3, Kp H2 H3 -> H3 p = some (.tup [.int (key i), .int (i : Nat)]) -> Ky (.ref p) H3) -> te (A8 σ (.int (i : Nat)) caps) H2 Ky)
    (done : ∀ H' D, Kp H1 H' -> Nw H1 D -> H' D = some (.lst ((iJ key ps).map fun i => V.int (i : Nat))) -> Q (.ref D) H') : iR K σ te caps TB xs H1 Q := by
  subst hx
  refine ⟨ps.map fun i => [key i, (i : Nat)], by simpa using hlen, by simp, ?_, hT, ?_, ?_⟩
  . intro k hk
    obtain ⟨i, _, rfl⟩ := mem_map.mp hk
    simp
  . intro i v k H2 Ky hv hk kp hy
    rw [Vt] at hv hk
    cases e : ps[i]? with
    | none => rw [e] at hv; cases hv
    | some j =>
      rw [e] at hv hk
      obtain rfl := Option.some.inj hv
      obtain rfl := Option.some.inj hk
      exact turn j (VG e) H2 Ky kp hy
  . intro H' D qs kp hD hp Nv
    have hz : (ps.map fun i => [key i, ((i : Nat) : Int)]).zip (ps.map fun i => V.int (i : Nat)) = ps.map fun i => ([key i, ((i : Nat) : Int)], V.int (i : Nat)) := by
      rw [zip_map']
    rw [hz] at hp
    obtain ⟨L, hL, rfl⟩ := zl _ hp ps rfl
    have hu : L = iJ key ps := by
      refine pP Oh hL ?_
      rw [pairwise_map] at Nv
      exact Nv.imp fun {a b} h => by
        have := Qz h
        unfold ple
        omega
    have e : (L.map fun i => ([key i, ((i : Nat) : Int)], V.int (i : Nat))).map (·.2) = (iJ key ps).map fun i => V.int (i : Nat) := by rw [Vz, hu]; rfl
    rw [e]
    exact done _ D (kp.trans (Kp.new hD)) (kp.nw (.of hD)) aA
theorem G6 {K : FG} {H : Hp} {ta te : TE} (q : ta σ H fun x H1 => ∃ a xs, x = .ref a /\ SqL K H1 a xs /\ iR K σ te caps P xs H1 Q) : CK K ta te caps P σ H Q := q
theorem G7 {K : FG} {H : Hp} {ta te : TE} (q : ta σ H fun x H1 => ∃ n : Nat, x = .int n /\ n <= 1000 /\ iR K σ te caps P ((range n).map fun i => V.int (i : Nat)) H1 Q) : CP K ta te caps P σ H Q := q
def yA (K : FG) (v : Value) : Option (List Value) := match v with
  | .ref a => match K.lookup a with
    | some o => match o.data with
      | .seq aK _ => if (o.cls == Value.type "tuple") = true /\ aK.size <= 1000 then some aK.toList else none
      | _ => none
    | none => none
  | _ => none
def intOf (v : Value) : Option Int := match v with
  | .int i _ => some i
  | _ => none
def allOf {α : Type} (f : Value -> Option α) : List Value -> Option (List α)
  | [] => some []
  | v :: r => match f v, allOf f r with
    | some x, some l => some (x :: l)
    | _, _ => none
def jk (K : FG) (v : Value) : Option (List Int) := match yA K v with
  | some l => allOf intOf l
  | none => none
def qv (K : FG) (v : Value) : Option (List (List Int)) := match yA K v with
  | some l => allOf (jk K) l
  | none => none
theorem kH {α : Type} {f : Value -> Option α} : ∀ {l : List Value} {xs : List α}, allOf f l = some xs -> Paired (fun v x => f v = some x) l xs
  | [], xs, h => by
    obtain rfl := Option.some.inj h
    exact .nil
  | v :: r, xs, h => by
    unfold allOf at h
    cases h1 : f v with
    | none => rw [h1] at h; cases h
    | some x =>
      cases h2 : allOf f r with
      | none => rw [h1, h2] at h; cases h
      | some l =>
        rw [h1, h2] at h
        obtain rfl := Option.some.inj h
        exact .cons h1 (kH h2)
theorem vC {K : FG} {l : List Value} (h : yA K v = some l) (r : Vals xs l) : ∃ a, v = .ref a /\ SqT K H a xs := by
  unfold yA at h
  cases v with
  | ref a =>
    refine ⟨a, rfl, .inr ?_⟩
    dsimp only at h
    cases e : K.lookup a with
    | none => rw [e] at h; cases h
    | some o =>
      rw [e] at h
      dsimp only at h
      cases ed : o.data with
      | seq aK n =>
        rw [ed] at h
        dsimp only at h
        by_cases c : (o.cls == Value.type "tuple") = true /\ aK.size <= 1000
        . rw [Vj c] at h
          obtain rfl := Option.some.inj h
          exact ⟨o, aK, n, rfl, eq_of_beq c.1, ed, by have := c.2; rw [Vr]; omega, r⟩
        . rw [Vh c] at h; cases h
      | _ => rw [ed] at h; cases h
  | _ => cases h
theorem yB : ∀ {l : List Value} {ns : List Int}, Paired (fun v x => intOf v = some x) l ns -> Vals (ns.map V.int) l
  | _, _, .nil => .nil
  | _, _, .cons (a := v) r t => .cons (by
      cases v with
      | int i t =>
        obtain rfl := Option.some.inj r
        exact ⟨t, rfl⟩
      | _ => cases r) (yB t)
theorem jY {K : FG} {ns : List Int} (h : jk K v = some ns) : ∃ a, v = .ref a /\ SqT K H a (ns.map V.int) := by
  unfold jk at h
  cases e : yA K v with
  | none => rw [e] at h; cases h
  | some l =>
    rw [e] at h
    exact vC e (yB (kH h))
theorem CZ {K : FG} {JV : List (List Int)} (h : qv K v = some JV) : ∃ a, v = .ref a /\ ∃ as : List Addr, as.length = JV.length /\ (∀ H, SqT K H a (as.map V.ref)) /\ ∀ H (i : Nat) p ns, as[i]? = some p -> JV[i]? = some ns -> SqT K H p (ns.map V.int) := by
  unfold qv at h
  cases e : yA K v with
  | none => rw [e] at h; cases h
  | some l =>
    rw [e] at h
    have pp := kH h
    have key : ∀ {l : List Value} {JV : List (List Int)}, Paired (fun v x => jk K v = some x) l JV -> ∃ as : List Addr, as.length = JV.length /\ Vals (as.map V.ref) l /\ ∀ H (i : Nat) p ns, as[i]? = some p -> JV[i]? = some ns -> SqT K H p (ns.map V.int) := by
      intro l JV pp
      induction pp with
      | nil => exact ⟨[], rfl, .nil, fun H i p ns e => by simp at e⟩
      | cons r _ ih =>
        obtain ⟨as, h1, h2, h3⟩ := ih
        obtain ⟨a, rfl, _⟩ := jY (H := fun _ => none) r
        refine ⟨a :: as, by simp [h1], .cons rfl h2, fun H i p ns e1 e2 => ?_⟩
        cases i with
        | zero =>
          obtain rfl := Option.some.inj e1
          obtain rfl := Option.some.inj e2
          obtain ⟨a', ea, q⟩ := jY (H := H) r
          cases ea
          exact q
        | succ i => exact h3 H i p ns e1 e2
    obtain ⟨as, h1, h2, h3⟩ := key pp
    obtain ⟨a, rfl, _⟩ := vC (H := fun _ => none) e h2
    exact ⟨a, rfl, as, h1, fun H => by
      obtain ⟨a', ea, q⟩ := vC (H := H) e h2
      cases ea
      exact q, h3⟩
def G8 (e : DictEntry) : Option (Int × Value) := match e.key with
  | .int k _ => if e.hash = hashInt k then some (k, e.val) else none
  | _ => none
def qw : List DictEntry -> Option (List (Int × Value))
  | [] => some []
  | e :: r => match G8 e, qw r with
    | some x, some l => some (x :: l)
    | _, _ => none
def mC (K : FG) (v : Value) : Option (List (Int × Value)) := match v with
  | .ref a => match K.lookup a with
    | some o => match o.data with
      | .dict es _ => if ((o.cls == Value.type "dict") = true /\ o.dict = none /\ o.slots.size = 0) /\ (a == sysModules) = false /\ es.size <= 1000 then (match qw es.toList with
        | some l => if (l.map (·.1)).Nodup then some l else none
        | none => none) else none
      | _ => none
    | none => none
  | _ => none
theorem Jg {e : DictEntry} {k : Int} {v : Value} (h : G8 e = some (k, v)) : (∃ t, e.key = .int k t) /\ e.hash = hashInt k /\ e.val = v := by
  unfold G8 at h
  cases q : e.key with
  | int i t =>
    rw [q] at h
    dsimp only at h
    by_cases c : e.hash = hashInt i
    . rw [Vj c] at h
      obtain ⟨rfl, rfl⟩ := Prod.mk.inj (Option.some.inj h)
      exact ⟨⟨t, rfl⟩, c, rfl⟩
    . rw [Vh c] at h; cases h
  | _ => rw [q] at h; cases h
theorem vD : ∀ {es : List DictEntry} {l : List (Int × Value)}, qw es = some l -> (∀ e ∈ es, ∃ k, (bU P w).is k e.key = true /\ e.hash = (bU P w).hash k) /\ Pairs (bU P w) es (l.map fun x => ((Sum.inl x.1 : Key), x.2))
  | [], l, h => by
    obtain rfl := Option.some.inj h
    exact ⟨(fun e he => by cases he), Pairs.nil⟩
  | e :: r, l, h => by
    unfold qw at h
    cases h1 : G8 e with
    | none => rw [h1] at h; cases h
    | some x =>
      cases h2 : qw r with
      | none => rw [h1, h2] at h; cases h
      | some l' =>
        rw [h1, h2] at h
        obtain rfl := Option.some.inj h
        obtain ⟨⟨t, ek⟩, eh, ev⟩ := Jg (k := x.1) (v := x.2) h1
        obtain ⟨i1, i2⟩ := vD (P := P) (w := w) h2
        have RT : (bU P w).is (Sum.inl x.1 : Key) e.key = true := by rw [ek]; exact rg x.1 t
        refine ⟨fun e' he => ?_, .cons RT ev i2⟩
        rcases mem_cons.mp he with rfl | he
        . exact ⟨Sum.inl x.1, RT, eh⟩
        . exact i1 e' he
theorem rL {X : Cx} {l : List (Int × Value)} {aQ : List (Int × V)} (h : mC X.K v = some l) (r : Paired (fun p q => p.1 = q.1 /\ RelV p.2 q.2) aQ l) : ∃ a, v = .ref a /\ KD X a aQ := by
  unfold mC at h
  cases v with
  | ref a =>
    refine ⟨a, rfl, ?_⟩
    dsimp only at h
    cases e : X.K.lookup a with
    | none => rw [e] at h; cases h
    | some o =>
      rw [e] at h
      dsimp only at h
      cases ed : o.data with
      | dict es n =>
        rw [ed] at h
        dsimp only at h
        by_cases c : ((o.cls == Value.type "dict") = true /\ o.dict = none /\ o.slots.size = 0) /\ (a == sysModules) = false /\ es.size <= 1000
        . rw [Vj c] at h
          cases e2 : qw es.toList with
          | none => rw [e2] at h; cases h
          | some l' =>
            rw [e2] at h
            dsimp only at h
            by_cases nd : (l'.map (·.1)).Nodup
            . rw [Vj nd] at h
              obtain rfl := Option.some.inj h
              obtain ⟨⟨c1, c2, c3⟩, c4, c5⟩ := c
              have len : ∀ {es : List DictEntry} {l : List (Int × Value)}, qw es = some l -> l.length = es.length := by
                intro es
                induction es with
                | nil => intro l h; obtain rfl := Option.some.inj h; rfl
                | cons e r ih =>
                  intro l h
                  unfold qw at h
                  cases h1 : G8 e with
                  | none => rw [h1] at h; cases h
                  | some x =>
                    cases h2 : qw r with
                    | none => rw [h1, h2] at h; cases h
                    | some l' =>
                      rw [h1, h2] at h
                      obtain rfl := Option.some.inj h
                      simp [ih h2]
              refine ⟨c4, ?_, fun hh KX => ⟨l'.map fun x => ((Sum.inl x.1 : Key), x.2), ?_, o, es, n, KX a o e, ⟨eq_of_beq c1, c2, Array.eq_empty_of_size_eq_zero c3⟩, ed, fun e' he => (vD e2).1 e' (Array.mem_toList_iff.mpr he), (vD e2).2, ?_⟩⟩
              . rw [Paired.length r, len e2]; simpa using c5
              . clear e2 nd h
                have : ∀ {aQ : List (Int × V)} {l : List (Int × Value)}, Paired (fun p q => p.1 = q.1 /\ RelV p.2 q.2) aQ l -> KV (aQ.map fun x => ((Sum.inl x.1 : Key), x.2)) (l.map fun x => ((Sum.inl x.1 : Key), x.2)) := by
                  intro aQ l r
                  induction r with
                  | nil => exact .nil
                  | cons r _ ih => exact .cons ⟨congrArg Sum.inl r.1, r.2⟩ ih
                exact this r
              . rw [Vz]
                have : (l'.map ((fun x => x.1) ∘ fun x => ((Sum.inl x.1 : Key), x.2))) = (l'.map (·.1)).map Sum.inl := by rw [Vz]; rfl
                rw [this]
                exact (pairwise_map.mpr (nd.imp fun qi z => qi (Sum.inl.inj z)))
            . rw [Vh nd] at h; cases h
        . rw [Vh c] at h; cases h
      | _ => rw [ed] at h; cases h
  | _ => cases h
section
abbrev cxE (P : Program) (w : World) (K : FG) (mg : SV) (base : Heap) (N : List Str) (q : Str) (st : Stmt) (f : Addr) (bJ : Value) (A : Around) (outer : List Env) (s : Shared) (H : Hp) (E : XK) : Cx := (AI CX0 P w K mg base N q (aB st) f bJ A outer s H E).nox
abbrev RmE (k : Nat) (q : Str) (st : Stmt) (A : Around) (s : Shared) (f : Addr) (bJ : Value) : Prop := c7 k (A.deeper (envOfC q (aB st) s.heap.objs.size f bJ))
abbrev hPs : List Str := ["desk", "numbers", "row"]
abbrev TKE (P : Program) (w : World) (K : FG) (mg : SV) (base : Heap) (f : Addr) (bJ : Value) (A : Around) (outer : List Env) (s : Shared) (H : Hp) (E : XK) (k : Nat) (N : List Str) (q : Str) (st : Stmt) (t : TS) : Prop := RmE k q st A s f bJ -> PSs (cxE P w K mg base N q st f bJ A outer s H E) (dJ st) t
variable {P : Program} {w : World} {K : FG} {mg : SV} {base : Heap} {f : Addr} {bJ : Value} {A : Around} {outer : List Env} {s : Shared} {H : Hp} {E : XK}
def top (i : Nat) : Stmt := PySem.Challenge.pw_reserves_s01_answers.main.body.getD i (.Pass ⟨0, 0, 0, 0⟩)
abbrev fF : Stmt := (inClass (top 1) 0)
abbrev jl : List Str := ["self", "positions", "amount", "cost"]
theorem mD : aG jl ["self", "positions", "amount", "cost"] (aB fF) := by walk_at "s"
def hG (K : FG)  : TS := (aH (cg K (ai 0) (ai 1) "positions") (aH (cg K (ai 0) (ai 2) "amount") (cg K (ai 0) (ai 3) "cost")))
theorem vE (T : Bn mg) : TKE P w K mg base f bJ A outer s H E 0 jl "Choice.__init__" fF (hG K ) := fun hr =>
 have nd := mD.nd
 (ak (a7 (pv 0) (pv 1) rfl) (ak (a7 (pv 0) (pv 2) rfl) (az (a7 (pv 0) (pv 3) rfl))))
abbrev nE : Stmt := (top 2)
abbrev rM : List Str := ["offers", "amounts", "offer", "amount"]
theorem vF : aG rM ["offers", "amounts"] (aB nE) := by walk_at "s"
def oU (K : FG)  : TS := (aX (tCB (oM K) (aj (tLc (jW K (aj (ai 0) (aj (ai 1) aE)) [false, false]) (jf K 2 (bA (aC 2) (bA (aC 3) je))) ff (tOp (rI kz fun i j => .int (i * j)) (aI K (ai 2) "capacity") (ai 3)) [2, 3]) aE)))
theorem C0 (T : Bn mg) : TKE P w K mg base f bJ A outer s H E 0 rM "cost_of" nE (oU K ) := fun hr =>
 have nd := vF.nd
 (az (aJ (aL (fm rfl) (by rfl) T.sum boot_sum (af (eF rfl nd (iS (t1 := false) (t2 := false) (by rfl) T.vq (af (pv 0) (af (pv 1) aw))) (aW (own := [("offer", 2), ("amount", 3)]) rfl) (fun _ _ _ _ _ => (fi rfl (bb (pgB 2 nd) (bb (pgB 3 nd) dm)))) (fun _ _ _ _ _ => bK) (fun _ _ _ _ _ => (bB jh (ax (pv 2) rfl) (pv 3)))) aw))))
abbrev qx : Stmt := (top 3)
abbrev vG : List Str := ["offers", "amounts", "offer", "amount"]
theorem yC : aG vG ["offers", "amounts"] (aB qx) := by walk_at "s"
def rN (K : FG)  : TS := (aH (lX (jW K (aj (ai 0) (aj (ai 1) aE)) [false, false]) (jf K 2 (bA (aC 2) (bA (aC 3) je))) (aH (cT (tOr (bC (tOp (rI0 fun i j => .bl (decide (i < j))) (ai 3) (tC (.int 0)))) (bC (tOp (rI0 fun i j => .bl (decide (j < i))) (ai 3) (aI K (ai 2) "amount")))) (aX (tC (.bl false))) bN) (cT (Ax (tB (aI K (ai 2) "whole")) (bC (rj (rI0 fun i j => .bl (decide (i < j))) (rI0 fun i j => .bl (decide (i < j))) (tC (.int 0)) (ai 3) (aI K (ai 2) "amount")))) (aX (tC (.bl false))) bN))) (aX (tC (.bl true))))
theorem Fe (T : Bn mg) : TKE P w K mg base f bJ A outer s H E 0 vG "is_buy" qx (rN K ) := fun hr =>
 have nd := yC.nd
 (ak (dX PassesOwn.never rfl (iS (t1 := false) (t2 := false) (by rfl) T.vq (af (pv 0) (af (pv 1) aw))) (fi rfl (bb (pgN 2 nd) (bb (pgN 3 nd) dm))) (ak (bY (PW.pt (F0 (aU qg (pv 3) aD (bh _)) (B8 (aU oj (pv 3) (ax (pv 2) rfl) (bh _))))) (az (aJ mj)) bf) (az (bY (PW.pt (uO (dW (ax (pv 2) rfl)) (qe (F5 qg qg aD (pv 3) (ax (pv 2) rfl))))) (az (aJ mj)) bf)))) (az (aJ mj)))
abbrev qy : Stmt := (top 4)
abbrev vI : List Str := ["amounts", "need"]
theorem yD : aG vI ["amounts", "need"] (aB qy) := by walk_at "s"
def rO (K : FG)  : TS := (aX (tOp (rI0 fun i j => .bl (decide (j <= i))) (tCB (oM K) (aj (ai 0) aE)) (ai 1)))
theorem Ff (T : Bn mg) : TKE P w K mg base f bJ A outer s H E 0 vI "covers" qy (rO K ) := fun hr =>
 have nd := yD.nd
 (az (aJ (tY AB (aL (fm rfl) (by rfl) T.sum boot_sum (af (pv 0) aw)) (pv 1) (bh _))))
abbrev kI : Stmt := (top 5)
abbrev oV : List Str := ["offers", "need", "full", "offer", "ladder", "at_most", "position", "choices", "choice", "ranks", "least", "ties", "rank"]
theorem sS : aG oV ["offers", "need"] (aB kI) := by walk_at "s"
def mE (K : FG) (z0 z1 z2 z3 z4 : Sp) : TS := (aH (br (tLc (bO K (ai 0)) (aC 3) ff (aI K (ai 3) "amount") [3]) (aC 2)) (aH (cT (yM (tB (a0 z0 [] E0 (aj (ai 2) (aj (ai 1) aE))))) (aX (ai 2)) bN) (aH (br (a0 z1 [] E0 (aj (ai 0) aE)) (aC 4)) (aH (br (tCB (oM K) (aj (tLc (bO K (ai 4)) (aC 6) ff (aI K (tOp (b9 K) (ai 0) (ai 6)) "amount") [6]) aE)) (aC 5)) (aH (br (tLc (bO K (a0 z2 [] E0 (aj (ai 0) aE))) (aC 8) (bC (tOp (rI0 fun i j => .bl (decide (j <= i))) (tOp (rI0 fun i j => .int (i + j)) (aI K (ai 8) "amount") (ai 5)) (ai 1))) (ai 8) [8]) (aC 7)) (aH (br (tLc (bO K (ai 7)) (aC 8) ff (a0 z3 [] E0 (aj (ai 0) (aj (ai 4) (aj (ai 8) (aj (ai 1) aE))))) [8]) (aC 9)) (aH (br (tCB (JK K) (aj (ai 9) aE)) (aC 10)) (aH (br (tLc (jW K (aj (ai 7) (aj (ai 9) aE)) [false, false]) (jf K 2 (bA (aC 8) (bA (aC 12) je))) (bC (tOp (KN K) (ai 12) (ai 10))) (ai 8) [8, 12]) (aC 11)) (aX (tCB (JL K) (aj (tLc (bO K (ai 11)) (aC 8) ff (a0 z4 [] E0 (aj (ai 0) (aj (ai 4) (aj (ai 8) (aj (ai 1) aE))))) [8]) aE)))))))))))
theorem Bl (T : Bn mg) (y0 : Fn P w K mg base "covers" ["amounts", "need"] 1 z0) (y1 : Fn P w K mg base "partible_by_price" ["offers"] 2 z1) (y2 : Fn P w K mg base "whole_choices" ["offers"] 4 z2) (y3 : Fn P w K mg base "rank_of" ["offers", "ladder", "choice", "need"] 1 z3) (y4 : Fn P w K mg base "amounts_of" ["offers", "ladder", "choice", "need"] 1 z4) : TKE P w K mg base f bJ A outer s H E 4 oV "best_buy" kI (mE K z0 z1 z2 z3 z4) := fun hr =>
 have nd := sS.nd
 (ak (cG (i := 2) rfl nd rfl rfl (dt rfl rfl rfl rfl) (bg (pv 0)) (aW (own := [("offer", 3)]) rfl) (fun _ _ _ _ _ => (pgB 3 nd)) (fun _ _ _ _ _ => bK) (fun _ _ _ _ _ => (ax (pv 3) rfl))) (ak (bY (oI (dW (pF y0 hr (af (pv 2) (af (pv 1) aw))))) (az (aJ (pv 2))) bf) (ak (psS 4 nd (pF y1 hr (af (pv 0) aw))) (ak (psS 5 nd (aL (fm rfl) (by rfl) T.sum boot_sum (af (eF rfl nd (bg (pv 4)) (aW (own := [("position", 6)]) rfl) (fun _ _ _ _ _ => (pgB 6 nd)) (fun _ _ _ _ _ => bK) (fun _ _ _ _ _ => (ax (bD aV (pv 0) (pv 6) (fun _ _ => rfl)) rfl))) aw))) (ak (cG (i := 7) rfl nd rfl rfl (dt rfl rfl rfl rfl) (bg (pF y2 hr (af (pv 0) aw))) (aW (own := [("choice", 8)]) rfl) (fun _ _ _ _ _ => (pgB 8 nd)) (fun _ _ _ _ _ => (gF (aU AB (bB gh (ax (pv 8) rfl) (pv 5)) (pv 1) (bh _)))) (fun _ _ _ _ _ => (pv 8))) (ak (cG (i := 9) rfl nd rfl rfl (dt rfl rfl rfl rfl) (bg (pv 7)) (aW (own := [("choice", 8)]) rfl) (fun _ _ _ _ _ => (pgB 8 nd)) (fun _ _ _ _ _ => bK) (fun _ _ _ _ _ => (pF y3 hr (af (pv 0) (af (pv 4) (af (pv 8) (af (pv 1) aw))))))) (ak (psS 10 nd (aL (E8 rfl hr.units) (by rfl) T.zg boot_min (af (pv 9) aw))) (ak (cG (i := 11) rfl nd rfl rfl (dt rfl rfl rfl rfl) (iS (t1 := false) (t2 := false) (by rfl) T.vq (af (pv 7) (af (pv 9) aw))) (aW (own := [("choice", 8), ("rank", 12)]) rfl) (fun _ _ _ _ _ => (fi rfl (bb (pgB 8 nd) (bb (pgB 12 nd) dm)))) (fun _ _ _ _ _ => (gF (aU (KO hr.units) (pv 12) (pv 10) (bh _)))) (fun _ _ _ _ _ => (pv 8))) (az (aJ (aL (E9 rfl hr.units) (by rfl) T.GQ boot_max (af (eF rfl nd (bg (pv 11)) (aW (own := [("choice", 8)]) rfl) (fun _ _ _ _ _ => (pgB 8 nd)) (fun _ _ _ _ _ => bK) (fun _ _ _ _ _ => (pF y4 hr (af (pv 0) (af (pv 4) (af (pv 8) (af (pv 1) aw))))))) aw))))))))))))
abbrev cC : Stmt := (top 6)
abbrev dD : List Str := ["offers", "positions", "position", "offer"]
theorem f9 : aG dD ["offers"] (aB cC) := by walk_at "s"
def dg (K : FG) (z0 : Addr) : TS := (aH (br (tLc (AZ K (aj (ai 0) aE)) (jf K 2 (bA (aC 2) (bA (aC 3) je))) (yM (tB (aI K (ai 3) "whole"))) (ai 2) [2, 3]) (aC 1)) (aX (CK K (ai 1) (yP (aj (aI K (tOp (b9 K) (ai 1) (ai 0)) "capacity") (aj (ai 0) aE))) [("offers", 0)] z0)))
theorem mF (T : Bn mg) (hq : bM.q z0 = "partible_by_price" ++ ".<locals>." ++ "<lambda>") (lQ : bJ = .ref c) (hC : ∀ h, K.In h -> CodeHd h c z0) (hB : Bm mg base) : TKE P w K mg base f bJ A outer s H E 1 dD "partible_by_price" cC (dg K z0) := fun hr =>
 have nd := f9.nd
 (ak (cG (i := 1) rfl nd rfl rfl (dt rfl rfl rfl rfl) (yY (by rfl) T.kF (af (pv 0) aw)) (aW (own := [("position", 2), ("offer", 3)]) rfl) (fun _ _ _ _ _ => (fi rfl (bb (pgB 2 nd) (bb (pgB 3 nd) dm)))) (fun _ _ _ _ _ => (gF (oI (dW (ax (pv 3) rfl))))) (fun _ _ _ _ _ => (pv 2))) (az (aJ (GG (by rfl) T.zh (pv 1) hr (Bi (x := "position") (caps := [("offers", 0)])) (fun _ _ _ _ _ _ => (rA (af (ax (bD aV (pv 1) (pv 0) (fun _ _ => rfl)) rfl) (af (pv 0) aw)))) hq lQ hC hB rfl rfl))))
abbrev dM : Stmt := (top 7)
abbrev gk : List Str := ["offers", "choices", "position", "offer", "choice"]
theorem jZ : aG gk ["offers"] (aB dM) := by walk_at "s"
def ft (K : FG) (z0 : Addr) (z1 z2 : Sp) : TS := (aH (br (bH (aj (g9 z0 z1 [] E0 (aj (yP aE) (aj (tC (.int 0)) (aj (tC (.int 0)) aE)))) aE)) (aC 1)) (aH (lX (AZ K (aj (ai 0) aE)) (jf K 2 (bA (aC 2) (bA (aC 3) je))) (cT (tB (aI K (ai 3) "whole")) (br (tOp qh (ai 1) (tLc (bO K (ai 1)) (aC 4) ff (a0 z2 [] E0 (aj (ai 4) (aj (ai 2) (aj (ai 3) aE)))) [4])) (aC 1)) bN)) (aX (ai 1))))
theorem rP (T : Bn mg) (y0 : Mkr P w K mg base "Choice" z0 ["self", "positions", "amount", "cost"] 1 z1) (y1 : Fn P w K mg base "with_whole" ["choice", "position", "offer"] 3 z2) : TKE P w K mg base f bJ A outer s H E 3 gk "whole_choices" dM (ft K z0 z1 z2) := fun hr =>
 have nd := jZ.nd
 (ak (psS 1 nd (aP (af (vp y0 hr (by decide) (by rfl) (af (rA aw) (af aD (af aD aw)))) aw))) (ak (dX PassesOwn.never rfl (yY (by rfl) T.kF (af (pv 0) aw)) (fi rfl (bb (pgN 2 nd) (bb (pgN 3 nd) dm))) (az (bY (dW (ax (pv 3) rfl)) (az (psS 1 nd (bB gi (pv 1) (eF rfl nd (bg (pv 1)) (aW (own := [("choice", 4)]) rfl) (fun _ _ _ _ _ => (pgB 4 nd)) (fun _ _ _ _ _ => bK) (fun _ _ _ _ _ => (pF y1 hr (af (pv 4) (af (pv 2) (af (pv 3) aw))))))))) bf))) (az (aJ (pv 1)))))
abbrev gG : Stmt := (top 8)
abbrev kJ : List Str := ["choice", "position", "offer", "cost"]
theorem oq : aG kJ ["choice", "position", "offer"] (aB gG) := by walk_at "s"
def jm (K : FG) (z0 : Addr) (z1 : Sp) : TS := (aH (br (tOp (rI0 fun i j => .int (i + j)) (aI K (ai 0) "cost") (tOp (rI kz fun i j => .int (i * j)) (aI K (ai 2) "amount") (aI K (ai 2) "capacity"))) (aC 3)) (aX (g9 z0 z1 [] E0 (aj (tOp (JM K) (aI K (ai 0) "positions") (yP (aj (ai 1) aE))) (aj (tOp (rI0 fun i j => .int (i + j)) (aI K (ai 0) "amount") (aI K (ai 2) "amount")) (aj (ai 3) aE))))))
theorem xb (T : Bn mg) (y0 : Mkr P w K mg base "Choice" z0 ["self", "positions", "amount", "cost"] 1 z1) : TKE P w K mg base f bJ A outer s H E 2 kJ "with_whole" gG (jm K z0 z1) := fun hr =>
 have nd := oq.nd
 (ak (psS 3 nd (bB gh (ax (pv 0) rfl) (bB jh (ax (pv 2) rfl) (ax (pv 2) rfl)))) (az (aJ (vp y0 hr (by decide) (by rfl) (af (bB IF (ax (pv 0) rfl) (rA (af (pv 1) aw))) (af (bB gh (ax (pv 0) rfl) (ax (pv 2) rfl)) (af (pv 3) aw)))))))
abbrev nF : Stmt := (top 9)
abbrev rQ : List Str := ["offers", "ladder", "choice", "need", "cost", "missing", "position", "offer"]
theorem vJ : aG rQ ["offers", "ladder", "choice", "need"] (aB nF) := by walk_at "s"
def oW (K : FG)  : TS := (aH (br (aI K (ai 2) "cost") (aC 4)) (aH (br (tOp (rI0 fun i j => .int (i - j)) (ai 3) (aI K (ai 2) "amount")) (aC 5)) (aH (lX (bO K (ai 1)) (aC 6) (aH (cT (bC (tOp (rI0 fun i j => .bl (decide (i <= j))) (ai 5) (tC (.int 0)))) yN bN) (aH (br (tOp (b9 K) (ai 0) (ai 6)) (aC 7)) (aH (Cc 4 (tOp (rI kz fun i j => .int (i * j)) (tCB vt (aj (ai 5) (aj (aI K (ai 7) "amount") aE))) (aI K (ai 7) "capacity")) (ipI fun i j => i + j)) (Cc 5 (aI K (ai 7) "amount") (ipI fun i j => i - j)))))) (aX (yP (aj (ai 4) (aj (tCB Bh (aj (aI K (ai 2) "amount") (aj (ai 3) aE))) aE)))))))
theorem C3 (T : Bn mg) : TKE P w K mg base f bJ A outer s H E 0 rQ "rank_of" nF (oW K ) := fun hr =>
 have nd := vJ.nd
 (ak (psS 4 nd (ax (pv 2) rfl)) (ak (psS 5 nd (bB jg (pv 3) (ax (pv 2) rfl))) (ak (dX PassesOwn.never rfl (bg (pv 1)) (pgN 6 nd) (ak (bY (aU xX (pv 5) aD (bh _)) (az Ay) bf) (ak (psS 7 nd (bD aV (pv 0) (pv 6) (fun _ _ => rfl))) (ak (uQ (i := 4) nd rfl (by walk_at "o") (bB jh (aL (g0 rfl) (by rfl) T.zg boot_min (af (pv 5) (af (ax (pv 7) rfl) aw))) (ax (pv 7) rfl)) Cf) (az (uQ (i := 5) nd rfl (by walk_at "o") (ax (pv 7) rfl) Cg)))))) (az (aJ (rA (af (pv 4) (af (aL (rm rfl) (by rfl) T.GQ boot_max (af (ax (pv 2) rfl) (af (pv 3) aw))) aw))))))))
abbrev gH : Stmt := (top 10)
abbrev kK : List Str := ["offers", "ladder", "choice", "need", "amounts", "offer", "position", "missing"]
theorem ot : aG kK ["offers", "ladder", "choice", "need"] (aB gH) := by walk_at "s"
def jn (K : FG)  : TS := (aH (br (tLc (bO K (ai 0)) (aC 5) ff (tC (.int 0)) [5]) (aC 4)) (aH (lX (Kr K (aI K (ai 2) "positions")) (aC 6) (br (aI K (tOp (b9 K) (ai 0) (ai 6)) "amount") (F1 (ai 4) (ai 6) yf))) (aH (br (tOp (rI0 fun i j => .int (i - j)) (ai 3) (aI K (ai 2) "amount")) (aC 7)) (aH (lX (bO K (ai 1)) (aC 6) (aH (cT (bC (tOp (rI0 fun i j => .bl (decide (i <= j))) (ai 7) (tC (.int 0)))) yN bN) (aH (br (tCB vt (aj (ai 7) (aj (aI K (tOp (b9 K) (ai 0) (ai 6)) "amount") aE))) (F1 (ai 4) (ai 6) yf)) (Cc 7 (tOp (b9 K) (ai 4) (ai 6)) (ipI fun i j => i - j))))) (aX (ai 4))))))
theorem xc (T : Bn mg) : TKE P w K mg base f bJ A outer s H E 0 kK "amounts_of" gH (jn K ) := fun hr =>
 have nd := ot.nd
 (ak (cG (i := 4) rfl nd rfl rfl (dt rfl rfl rfl rfl) (bg (pv 0)) (aW (own := [("offer", 5)]) rfl) (fun _ _ _ _ _ => (pgB 5 nd)) (fun _ _ _ _ _ => bK) (fun _ _ _ _ _ => aD)) (ak (dX PassesOwn.never rfl (Ks (ax (pv 2) rfl)) (pgN 6 nd) (az (Cb (ax (bD aV (pv 0) (pv 6) (fun _ _ => rfl)) rfl) (Ca (pv 4) (pv 6) set_list)))) (ak (psS 7 nd (bB jg (pv 3) (ax (pv 2) rfl))) (ak (dX PassesOwn.never rfl (bg (pv 1)) (pgN 6 nd) (ak (bY (aU xX (pv 7) aD (bh _)) (az Ay) bf) (ak (Cb (aL (g0 rfl) (by rfl) T.zg boot_min (af (pv 7) (af (ax (bD aV (pv 0) (pv 6) (fun _ _ => rfl)) rfl) aw))) (Ca (pv 4) (pv 6) set_list)) (az (uQ (i := 7) nd rfl (by walk_at "o") (bD aV (pv 4) (pv 6) (fun _ _ => rfl)) Cg))))) (az (aJ (pv 4)))))))
abbrev iT : Stmt := (inClass (top 12) 0)
abbrev mG : List Str := ["self", "offer", "taken"]
theorem qz : aG mG ["self", "offer", "taken"] (aB iT) := by walk_at "s"
def kL (K : FG)  : TS := (aH (cg K (ai 0) (ai 1) "offer") (aH (cg K (ai 0) (ai 2) "taken") (aH (cg K (ai 0) (ai 2) "left") (aH (cg K (ai 0) (tC (.int 0)) "place") (aH (cg K (ai 0) (tC (.int 0)) "place_sum") (cg K (ai 0) (tC (.int 0)) "paid"))))))
theorem zm (T : Bn mg) : TKE P w K mg base f bJ A outer s H E 0 mG "Unit.__init__" iT (kL K ) := fun hr =>
 have nd := qz.nd
 (ak (a7 (pv 0) (pv 1) rfl) (ak (a7 (pv 0) (pv 2) rfl) (ak (a7 (pv 0) (pv 2) rfl) (ak (a7 (pv 0) aD rfl) (ak (a7 (pv 0) aD rfl) (az (a7 (pv 0) aD rfl)))))))
abbrev nG : Stmt := (top 13)
abbrev rR : List Str := ["unit", "twin"]
theorem vK : aG rR ["unit"] (aB nG) := by walk_at "s"
def oX (K : FG) (z0 : Addr) (z1 : Sp) : TS := (aH (br (g9 z0 z1 [] E0 (aj (aI K (ai 0) "offer") (aj (aI K (ai 0) "taken") aE))) (aC 1)) (aH (cg K (ai 1) (aI K (ai 0) "left") "left") (aH (cg K (ai 1) (aI K (ai 0) "place") "place") (aH (cg K (ai 1) (aI K (ai 0) "place_sum") "place_sum") (aH (cg K (ai 1) (aI K (ai 0) "paid") "paid") (aX (ai 1)))))))
theorem C4 (T : Bn mg) (y0 : Mkr P w K mg base "Unit" z0 ["self", "offer", "taken"] 1 z1) : TKE P w K mg base f bJ A outer s H E 2 rR "copy_of" nG (oX K z0 z1) := fun hr =>
 have nd := vK.nd
 (ak (psS 1 nd (vp y0 hr (by decide) (by rfl) (af (ax (pv 0) rfl) (af (ax (pv 0) rfl) aw)))) (ak (a7 (pv 1) (ax (pv 0) rfl) rfl) (ak (a7 (pv 1) (ax (pv 0) rfl) rfl) (ak (a7 (pv 1) (ax (pv 0) rfl) rfl) (ak (a7 (pv 1) (ax (pv 0) rfl) rfl) (az (aJ (pv 1))))))))
abbrev nH : Stmt := (top 14)
abbrev rS : List Str := ["unit"]
theorem vL : aG rS ["unit"] (aB nH) := by walk_at "s"
def oY (K : FG)  : TS := (aX (tCB vt (aj (tCB Bh (aj (tOp (rI0 fun i j => .int (i - j)) (tCB Lf (aj (aI K (ai 0) "place") aE)) (aI K (aI K (ai 0) "offer") "ramp")) (aj (tC (.int 0)) aE))) (aj (aI K (ai 0) "left") aE))))
theorem C5 (T : Bn mg) : TKE P w K mg base f bJ A outer s H E 0 rS "nearest" nH (oY K ) := fun hr =>
 have nd := vL.nd
 (az (aJ (aL (g0 rfl) (by rfl) T.zg boot_min (af (aL (rm rfl) (by rfl) T.GQ boot_max (af (bB jg (aL AE (by rfl) T.Ld boot_abs (af (ax (pv 0) rfl) aw)) (ax (ax (pv 0) rfl) rfl)) (af aD aw))) (af (ax (pv 0) rfl) aw)))))
abbrev kM : Stmt := (top 15)
abbrev oZ : List Str := ["unit"]
theorem sT : aG oZ ["unit"] (aB kM) := by walk_at "s"
def mH (K : FG)  : TS := (aX (tCB vt (aj (tOp (rI0 fun i j => .int (i + j)) (tCB Lf (aj (aI K (ai 0) "place") aE)) (aI K (aI K (ai 0) "offer") "ramp")) (aj (aI K (ai 0) "left") aE))))
theorem Bo (T : Bn mg) : TKE P w K mg base f bJ A outer s H E 0 oZ "farthest" kM (mH K ) := fun hr =>
 have nd := sT.nd
 (az (aJ (aL (g0 rfl) (by rfl) T.zg boot_min (af (bB gh (aL AE (by rfl) T.Ld boot_abs (af (ax (pv 0) rfl) aw)) (ax (ax (pv 0) rfl) rfl)) (af (ax (pv 0) rfl) aw)))))
abbrev eJ : Stmt := (top 16)
abbrev hJ : List Str := ["unit"]
theorem lR : aG hJ ["unit"] (aB eJ) := by walk_at "s"
def gm (K : FG) (z0 z1 : Sp) : TS := (aX (tIf (bC (tOp rEq (aI K (aI K (ai 0) "offer") "direction") (tC (.int 0)))) (a0 z0 [] E0 (aj (ai 0) aE)) (tUn (rU fun i => .int (-i)) (a0 z1 [] E0 (aj (ai 0) aE)))))
theorem tD (T : Bn mg) (y0 : Fn P w K mg base "nearest" ["unit"] 1 z0) (y1 : Fn P w K mg base "farthest" ["unit"] 1 z1) : TKE P w K mg base f bJ A outer s H E 1 hJ "lowest_place" eJ (gm K z0 z1) := fun hr =>
 have nd := lR.nd
 (az (aJ (jO (aU qf (ax (ax (pv 0) rfl) rfl) aD (bh _)) (pF y0 hr (af (pv 0) aw)) (dC cj (pF y1 hr (af (pv 0) aw))))))
abbrev dN : Stmt := (top 17)
abbrev gn : List Str := ["unit"]
theorem j0 : aG gn ["unit"] (aB dN) := by walk_at "s"
def fu (K : FG) (z0 z1 : Sp) : TS := (aX (tIf (bC (tOp rEq (aI K (aI K (ai 0) "offer") "direction") (tC (.int 0)))) (a0 z0 [] E0 (aj (ai 0) aE)) (tUn (rU fun i => .int (-i)) (a0 z1 [] E0 (aj (ai 0) aE)))))
theorem rT (T : Bn mg) (y0 : Fn P w K mg base "farthest" ["unit"] 1 z0) (y1 : Fn P w K mg base "nearest" ["unit"] 1 z1) : TKE P w K mg base f bJ A outer s H E 1 gn "highest_place" dN (fu K z0 z1) := fun hr =>
 have nd := j0.nd
 (az (aJ (jO (aU qf (ax (ax (pv 0) rfl) rfl) aD (bh _)) (pF y0 hr (af (pv 0) aw)) (dC cj (pF y1 hr (af (pv 0) aw))))))
abbrev eK : Stmt := (top 18)
abbrev hX : List Str := ["unit", "place"]
theorem lS : aG hX ["unit", "place"] (aB eK) := by walk_at "s"
def gp (K : FG) (z0 z1 : Sp) : TS := (aX (rj (rI0 fun i j => .bl (decide (i <= j))) (rI0 fun i j => .bl (decide (i <= j))) (a0 z0 [] E0 (aj (ai 0) aE)) (ai 1) (a0 z1 [] E0 (aj (ai 0) aE))))
theorem tE (T : Bn mg) (y0 : Fn P w K mg base "lowest_place" ["unit"] 2 z0) (y1 : Fn P w K mg base "highest_place" ["unit"] 2 z1) : TKE P w K mg base f bJ A outer s H E 2 hX "can_stand_at" eK (gp K z0 z1) := fun hr =>
 have nd := lS.nd
 (az (aJ (AD xX xX (pF y0 hr (af (pv 0) aw)) (pv 1) (pF y1 hr (af (pv 0) aw)))))
abbrev dO : Stmt := (top 19)
abbrev gq : List Str := ["unit", "quarters"]
theorem j1 : aG gq ["unit", "quarters"] (aB dO) := by walk_at "s"
def fw (K : FG) (z0 : Sp) : TS := (aX (tCB Bh (aj (tOp (rI0 fun i j => .int (i - j)) (a0 z0 [] E0 (aj (ai 0) aE)) (tOp (rI kz fun i j => .int (i * j)) (tOp (rI0 fun i j => .int (i - j)) (ai 1) (tC (.int 1))) (aI K (aI K (ai 0) "offer") "ramp"))) (aj (tC (.int 0)) aE))))
theorem rV (T : Bn mg) (y0 : Fn P w K mg base "nearest" ["unit"] 1 z0) : TKE P w K mg base f bJ A outer s H E 1 gq "nearest_after" dO (fw K z0) := fun hr =>
 have nd := j1.nd
 (az (aJ (aL (rm rfl) (by rfl) T.GQ boot_max (af (bB jg (pF y0 hr (af (pv 0) aw)) (bB jh (bB jg (pv 1) aD) (ax (ax (pv 0) rfl) rfl))) (af aD aw)))))
abbrev du : Stmt := (top 20)
abbrev fz : List Str := ["unit", "quarters"]
theorem iU : aG fz ["unit", "quarters"] (aB du) := by walk_at "s"
def eL (K : FG) (z0 : Sp) : TS := (aX (tCB vt (aj (tOp (rI0 fun i j => .int (i + j)) (a0 z0 [] E0 (aj (ai 0) aE)) (tOp (rI kz fun i j => .int (i * j)) (tOp (rI0 fun i j => .int (i - j)) (ai 1) (tC (.int 1))) (aI K (aI K (ai 0) "offer") "ramp"))) (aj (aI K (ai 0) "left") aE))))
theorem qA (T : Bn mg) (y0 : Fn P w K mg base "farthest" ["unit"] 1 z0) : TKE P w K mg base f bJ A outer s H E 1 fz "farthest_after" du (eL K z0) := fun hr =>
 have nd := iU.nd
 (az (aJ (aL (g0 rfl) (by rfl) T.zg boot_min (af (bB gh (pF y0 hr (af (pv 0) aw)) (bB jh (bB jg (pv 1) aD) (ax (ax (pv 0) rfl) rfl))) (af (ax (pv 0) rfl) aw)))))
abbrev eM : Stmt := (top 21)
abbrev hZ : List Str := ["unit", "quarters"]
theorem lT : aG hZ ["unit", "quarters"] (aB eM) := by walk_at "s"
def gr (K : FG) (z0 z1 : Sp) : TS := (aX (tIf (bC (tOp rEq (aI K (aI K (ai 0) "offer") "direction") (tC (.int 0)))) (a0 z0 [] E0 (aj (ai 0) (aj (ai 1) aE))) (tUn (rU fun i => .int (-i)) (a0 z1 [] E0 (aj (ai 0) (aj (ai 1) aE))))))
theorem tF (T : Bn mg) (y0 : Fn P w K mg base "nearest_after" ["unit", "quarters"] 2 z0) (y1 : Fn P w K mg base "farthest_after" ["unit", "quarters"] 2 z1) : TKE P w K mg base f bJ A outer s H E 2 hZ "lowest_after" eM (gr K z0 z1) := fun hr =>
 have nd := lT.nd
 (az (aJ (jO (aU qf (ax (ax (pv 0) rfl) rfl) aD (bh _)) (pF y0 hr (af (pv 0) (af (pv 1) aw))) (dC cj (pF y1 hr (af (pv 0) (af (pv 1) aw)))))))
abbrev dP : Stmt := (top 22)
abbrev gu : List Str := ["unit", "quarters"]
theorem j2 : aG gu ["unit", "quarters"] (aB dP) := by walk_at "s"
def fA (K : FG) (z0 z1 : Sp) : TS := (aX (tIf (bC (tOp rEq (aI K (aI K (ai 0) "offer") "direction") (tC (.int 0)))) (a0 z0 [] E0 (aj (ai 0) (aj (ai 1) aE))) (tUn (rU fun i => .int (-i)) (a0 z1 [] E0 (aj (ai 0) (aj (ai 1) aE))))))
theorem rW (T : Bn mg) (y0 : Fn P w K mg base "farthest_after" ["unit", "quarters"] 2 z0) (y1 : Fn P w K mg base "nearest_after" ["unit", "quarters"] 2 z1) : TKE P w K mg base f bJ A outer s H E 2 gu "highest_after" dP (fA K z0 z1) := fun hr =>
 have nd := j2.nd
 (az (aJ (jO (aU qf (ax (ax (pv 0) rfl) rfl) aD (bh _)) (pF y0 hr (af (pv 0) (af (pv 1) aw))) (dC cj (pF y1 hr (af (pv 0) (af (pv 1) aw)))))))
abbrev eN : Stmt := (inClass (top 24) 0)
abbrev ia : List Str := ["self", "target", "places", "price", "payments"]
theorem lU : aG ia ["self", "target", "places", "price", "payments"] (aB eN) := by walk_at "s"
def gv (K : FG)  : TS := (aH (cg K (ai 0) (ai 1) "target") (aH (cg K (ai 0) (ai 2) "places") (aH (cg K (ai 0) (ai 3) "price") (aH (cg K (ai 0) (ai 4) "payments") (aH (cg K (ai 0) (tCB (oM K) (aj (ai 2) aE)) "called") (cg K (ai 0) (tCB (oM K) (aj (ai 4) aE)) "cost"))))))
theorem tG (T : Bn mg) : TKE P w K mg base f bJ A outer s H E 0 ia "Quarter.__init__" eN (gv K ) := fun hr =>
 have nd := lU.nd
 (ak (a7 (pv 0) (pv 1) rfl) (ak (a7 (pv 0) (pv 2) rfl) (ak (a7 (pv 0) (pv 3) rfl) (ak (a7 (pv 0) (pv 4) rfl) (ak (a7 (pv 0) (aL (fm rfl) (by rfl) T.sum boot_sum (af (pv 2) aw)) rfl) (az (a7 (pv 0) (aL (fm rfl) (by rfl) T.sum boot_sum (af (pv 4) aw)) rfl)))))))
abbrev fG : Stmt := (top 25)
abbrev jo : List Str := ["units", "target", "lows", "unit", "highs", "energies", "places", "price", "missing", "position", "step", "payments", "place", "energy"]
theorem mI : aG jo ["units", "target"] (aB fG) := by walk_at "s"
def ic (K : FG) (z0 z1 z2 z3 z4 : Sp) (z5 : Addr) (z6 : Sp) : TS := (aH (br (tLc (bO K (ai 0)) (aC 3) ff (a0 z0 [] E0 (aj (ai 3) aE)) [3]) (aC 2)) (aH (br (tLc (bO K (ai 0)) (aC 3) ff (a0 z1 [] E0 (aj (ai 3) aE)) [3]) (aC 4)) (aH (br (tLc (bO K (ai 0)) (aC 3) ff (aI K (aI K (ai 3) "offer") "energy") [3]) (aC 5)) (aH (br (tCB (IJ K) (aj (ai 2) aE)) (aC 6)) (aH (br (a0 z2 [] E0 (aj (ai 2) (aj (ai 4) (aj (ai 5) aE)))) (aC 7)) (aH (br (tOp (rI0 fun i j => .int (i - j)) (ai 1) (tCB (oM K) (aj (ai 2) aE))) (aC 8)) (aH (lX (bO K (a0 z3 [] E0 (aj (ai 5) aE))) (aC 9) (aH (br (tCB vt (aj (ai 8) (aj (tOp (rI0 fun i j => .int (i - j)) (tOp (b9 K) (ai 4) (ai 9)) (tOp (b9 K) (ai 2) (ai 9))) aE))) (aC 10)) (cT (bC (tOp (rI0 fun i j => .bl (decide (j < i))) (ai 10) (tC (.int 0)))) (aH (F2 (ai 6) (ai 9) (ai 10) (b9 K) (ipI fun i j => i + j) yf) (aH (Cc 8 (ai 10) (ipI fun i j => i - j)) (br (tOp (b9 K) (ai 5) (ai 9)) (aC 7)))) bN))) (aH (br (tLc (jW K (aj (ai 6) (aj (ai 5) aE)) [false, false]) (jf K 2 (bA (aC 12) (bA (aC 13) je))) ff (a0 z4 [] E0 (aj (ai 12) (aj (ai 13) (aj (ai 7) aE)))) [12, 13]) (aC 11)) (aX (g9 z5 z6 [] E0 (aj (ai 1) (aj (ai 6) (aj (ai 7) (aj (ai 11) aE))))))))))))))
theorem vM (T : Bn mg) (y0 : Fn P w K mg base "lowest_place" ["unit"] 2 z0) (y1 : Fn P w K mg base "highest_place" ["unit"] 2 z1) (y2 : Fn P w K mg base "price_at_lowest" ["lows", "highs", "energies"] 1 z2) (y3 : Fn P w K mg base "by_energy" ["energies"] 2 z3) (y4 : Fn P w K mg base "payment" ["place", "energy", "price"] 1 z4) (y5 : Mkr P w K mg base "Quarter" z5 ["self", "target", "places", "price", "payments"] 1 z6) : TKE P w K mg base f bJ A outer s H E 2 jo "quarter_for" fG (ic K z0 z1 z2 z3 z4 z5 z6) := fun hr =>
 have nd := mI.nd
 (ak (cG (i := 2) rfl nd rfl rfl (dt rfl rfl rfl rfl) (bg (pv 0)) (aW (own := [("unit", 3)]) rfl) (fun _ _ _ _ _ => (pgB 3 nd)) (fun _ _ _ _ _ => bK) (fun _ _ _ _ _ => (pF y0 hr (af (pv 3) aw)))) (ak (cG (i := 4) rfl nd rfl rfl (dt rfl rfl rfl rfl) (bg (pv 0)) (aW (own := [("unit", 3)]) rfl) (fun _ _ _ _ _ => (pgB 3 nd)) (fun _ _ _ _ _ => bK) (fun _ _ _ _ _ => (pF y1 hr (af (pv 3) aw)))) (ak (cG (i := 5) rfl nd rfl rfl (dt rfl rfl rfl rfl) (bg (pv 0)) (aW (own := [("unit", 3)]) rfl) (fun _ _ _ _ _ => (pgB 3 nd)) (fun _ _ _ _ _ => bK) (fun _ _ _ _ _ => (ax (ax (pv 3) rfl) rfl))) (ak (psS 6 nd (ET yV (by rfl) T.JO boot_list (af (pv 2) aw))) (ak (psS 7 nd (pF y2 hr (af (pv 2) (af (pv 4) (af (pv 5) aw))))) (ak (psS 8 nd (bB jg (pv 1) (aL (fm rfl) (by rfl) T.sum boot_sum (af (pv 2) aw)))) (ak (dX PassesOwn.never rfl (bg (pF y3 hr (af (pv 5) aw))) (pgN 9 nd) (ak (psS 10 nd (aL (g0 rfl) (by rfl) T.zg boot_min (af (pv 8) (af (bB jg (bD aV (pv 4) (pv 9) (fun _ _ => rfl)) (bD aV (pv 2) (pv 9) (fun _ _ => rfl))) aw)))) (az (bY (aU oj (pv 10) aD (bh _)) (ak (HV (pv 6) (pv 9) GU (pv 10) Cf set_list) (ak (uQ (i := 8) nd rfl (by walk_at "o") (pv 10) Cg) (az (psS 7 nd (bD aV (pv 5) (pv 9) (fun _ _ => rfl)))))) bf)))) (ak (cG (i := 11) rfl nd rfl rfl (dt rfl rfl rfl rfl) (iS (t1 := false) (t2 := false) (by rfl) T.vq (af (pv 6) (af (pv 5) aw))) (aW (own := [("place", 12), ("energy", 13)]) rfl) (fun _ _ _ _ _ => (fi rfl (bb (pgB 12 nd) (bb (pgB 13 nd) dm)))) (fun _ _ _ _ _ => bK) (fun _ _ _ _ _ => (pF y4 hr (af (pv 12) (af (pv 13) (af (pv 7) aw)))))) (az (aJ (vp y5 hr (by decide) (by rfl) (af (pv 1) (af (pv 6) (af (pv 7) (af (pv 11) aw)))))))))))))))
abbrev cW : Stmt := (top 26)
abbrev eO : List Str := ["lows", "highs", "energies", "movable", "low", "high", "energy"]
theorem ie : aG eO ["lows", "highs", "energies"] (aB cW) := by walk_at "s"
def dZ (K : FG)  : TS := (aH (br (tLc (jW K (aj (ai 0) (aj (ai 1) (aj (ai 2) aE))) [false, false, false]) (jf K 3 (bA (aC 4) (bA (aC 5) (bA (aC 6) je)))) (bC (tOp (rI0 fun i j => .bl (decide (i < j))) (ai 4) (ai 5))) (ai 6) [4, 5, 6]) (aC 3)) (aX (JN K (ai 3) (tC (.int 0)))))
theorem o6 (T : Bn mg) : TKE P w K mg base f bJ A outer s H E 0 eO "price_at_lowest" cW (dZ K ) := fun hr =>
 have nd := ie.nd
 (ak (cG (i := 3) rfl nd rfl rfl (dt rfl rfl rfl rfl) (Er (t1 := false) (t2 := false) (t3 := false) (by rfl) T.vq (af (pv 0) (af (pv 1) (af (pv 2) aw)))) (aW (own := [("low", 4), ("high", 5), ("energy", 6)]) rfl) (fun _ _ _ _ _ => (fi rfl (bb (pgB 4 nd) (bb (pgB 5 nd) (bb (pgB 6 nd) dm))))) (fun _ _ _ _ _ => (gF (aU qg (pv 4) (pv 5) (bh _)))) (fun _ _ _ _ _ => (pv 6))) (az (aJ (IG rfl (by rfl) T.zg (pv 3) aD))))
abbrev iV : Stmt := (top 27)
abbrev mJ : List Str := ["energies"]
theorem qB : aG mJ ["energies"] (aB iV) := by walk_at "s"
def kN (K : FG) (z0 : Addr) : TS := (aX (CP K (tCB (jX K) (aj (ai 0) aE)) (yP (aj (tOp (b9 K) (ai 1) (ai 0)) (aj (ai 0) aE))) [("energies", 0)] z0))
theorem zo (T : Bn mg) (hq : bM.q z0 = "by_energy" ++ ".<locals>." ++ "<lambda>") (lQ : bJ = .ref c) (hC : ∀ h, K.In h -> CodeHd h c z0) (hB : Bm mg base) : TKE P w K mg base f bJ A outer s H E 1 mJ "by_energy" iV (kN K z0) := fun hr =>
 have nd := qB.nd
 (az (aJ (GO rfl (by rfl) T.zh (by rfl) T.GR (aL aY (by rfl) T.len VQ (af (pv 0) aw)) hr (Bi (x := "position") (caps := [("energies", 0)])) (fun _ _ _ _ _ _ => (rA (af (bD aV (pv 1) (pv 0) (fun _ _ => rfl)) (af (pv 0) aw)))) hq lQ hC hB rfl rfl)))
abbrev nI : Stmt := (top 28)
abbrev rX : List Str := ["place", "energy", "price"]
theorem vN : aG rX ["place", "energy", "price"] (aB nI) := by walk_at "s"
def o7 (K : FG)  : TS := (aH (cT (Ax (bC (tOp (rI0 fun i j => .bl (decide (j < i))) (ai 0) (tC (.int 0)))) (bC (tOp (rI0 fun i j => .bl (decide (j < i))) (ai 1) (ai 2)))) (aX (tOp (rI kz fun i j => .int (i * j)) (ai 0) (ai 1))) bN) (aH (cT (Ax (bC (tOp (rI0 fun i j => .bl (decide (i < j))) (ai 0) (tC (.int 0)))) (bC (tOp (rI0 fun i j => .bl (decide (i < j))) (ai 1) (ai 2)))) (aX (tOp (rI kz fun i j => .int (i * j)) (ai 0) (ai 1))) bN) (aX (tOp (rI kz fun i j => .int (i * j)) (ai 0) (ai 2)))))
theorem C6 (T : Bn mg) : TKE P w K mg base f bJ A outer s H E 0 rX "payment" nI (o7 K ) := fun hr =>
 have nd := vN.nd
 (ak (bY (PW.pt (uO (aU oj (pv 0) aD (bh _)) (qe (aU oj (pv 1) (pv 2) (bh _))))) (az (aJ (bB jh (pv 0) (pv 1)))) bf) (ak (bY (PW.pt (uO (aU qg (pv 0) aD (bh _)) (qe (aU qg (pv 1) (pv 2) (bh _))))) (az (aJ (bB jh (pv 0) (pv 1)))) bf) (az (aJ (bB jh (pv 0) (pv 2))))))
abbrev t7 : Stmt := (top 29)
abbrev zp : List Str := ["units", "quarter", "unit", "place", "paid"]
theorem Bp : aG zp ["units", "quarter"] (aB t7) := by walk_at "s"
def vO (K : FG)  : TS := (lX (jW K (aj (ai 0) (aj (aI K (ai 1) "places") (aj (aI K (ai 1) "payments") aE))) [false, false, false]) (jf K 3 (bA (aC 2) (bA (aC 3) (bA (aC 4) je)))) (aH (cg K (ai 2) (ai 3) "place") (aH (nu K (ai 2) (ai 3) F8 "place_sum") (nu K (ai 2) (ai 4) F8 "paid"))))
theorem G9 (T : Bn mg) : TKE P w K mg base f bJ A outer s H E 0 zp "stand" t7 (vO K ) := fun hr =>
 have nd := Bp.nd
 (az (dX PassesOwn.never rfl (Er (t1 := false) (t2 := false) (t3 := false) (by rfl) T.vq (af (pv 0) (af (ax (pv 1) rfl) (af (ax (pv 1) rfl) aw)))) (fi rfl (bb (pgN 2 nd) (bb (pgN 3 nd) (bb (pgN 4 nd) dm)))) (ak (a7 (pv 2) (pv 3) rfl) (ak (rq (pv 2) (pv 3) Cp) (az (rq (pv 2) (pv 4) Cp))))))
abbrev kO : Stmt := (top 30)
abbrev o8 : List Str := ["units", "targets", "twins", "unit", "quarters", "target", "quarter"]
theorem sU : aG o8 ["units", "targets"] (aB kO) := by walk_at "s"
def mK (K : FG) (z0 z1 z2 : Sp) : TS := (aH (br (tLc (bO K (ai 0)) (aC 3) ff (a0 z0 [] E0 (aj (ai 3) aE)) [3]) (aC 2)) (aH (br (bH aE) (aC 4)) (aH (lX (bO K (ai 1)) (aC 5) (aH (br (a0 z1 [] E0 (aj (ai 2) (aj (ai 5) aE))) (aC 6)) (aH (d9 (a0 z2 [] E0 (aj (ai 2) (aj (ai 6) aE)))) (d9 (tBM K "list" dI (ai 4) (aj (ai 6) aE)))))) (aX (ai 4)))))
theorem Bq (T : Bn mg) (y0 : Fn P w K mg base "copy_of" ["unit"] 3 z0) (y1 : Fn P w K mg base "quarter_for" ["units", "target"] 3 z1) (y2 : Fn P w K mg base "stand" ["units", "quarter"] 1 z2) : TKE P w K mg base f bJ A outer s H E 3 o8 "foreseen" kO (mK K z0 z1 z2) := fun hr =>
 have nd := sU.nd
 (ak (cG (i := 2) rfl nd rfl rfl (dt rfl rfl rfl rfl) (bg (pv 0)) (aW (own := [("unit", 3)]) rfl) (fun _ _ _ _ _ => (pgB 3 nd)) (fun _ _ _ _ _ => bK) (fun _ _ _ _ _ => (pF y0 hr (af (pv 3) aw)))) (ak (psS 4 nd (aP aw)) (ak (dX PassesOwn.never rfl (bg (pv 1)) (pgN 5 nd) (ak (psS 6 nd (pF y1 hr (af (pv 2) (af (pv 5) aw)))) (ak (cV (pF y2 hr (af (pv 2) (af (pv 6) aw)))) (az (cV (om Wa Wl Wm fk (pv 4) (af (pv 6) aw))))))) (az (aJ (pv 4))))))
abbrev gI : Stmt := (inClass (top 32) 0)
abbrev kP : List Str := ["self", "number", "direction", "amount", "capacity", "energy", "ramp", "whole"]
theorem ou : aG kP ["self", "number", "direction", "amount", "capacity", "energy", "ramp", "whole"] (aB gI) := by walk_at "s"
def jq (K : FG)  : TS := (aH (cg K (ai 0) (ai 1) "number") (aH (cg K (ai 0) (ai 2) "direction") (aH (cg K (ai 0) (ai 3) "amount") (aH (cg K (ai 0) (ai 4) "capacity") (aH (cg K (ai 0) (ai 5) "energy") (aH (cg K (ai 0) (ai 6) "ramp") (cg K (ai 0) (ai 7) "whole")))))))
theorem xf (T : Bn mg) : TKE P w K mg base f bJ A outer s H E 0 kP "Offer.__init__" gI (jq K ) := fun hr =>
 have nd := ou.nd
 (ak (a7 (pv 0) (pv 1) rfl) (ak (a7 (pv 0) (pv 2) rfl) (ak (a7 (pv 0) (pv 3) rfl) (ak (a7 (pv 0) (pv 4) rfl) (ak (a7 (pv 0) (pv 5) rfl) (ak (a7 (pv 0) (pv 6) rfl) (az (a7 (pv 0) (pv 7) rfl))))))))
abbrev iW : Stmt := (top 33)
abbrev mL : List Str := ["offers", "direction", "offer"]
theorem qC : aG mL ["offers", "direction"] (aB iW) := by walk_at "s"
def kQ (K : FG)  : TS := (aX (tLc (bO K (ai 0)) (aC 2) (bC (tOp rEq (aI K (ai 2) "direction") (ai 1))) (ai 2) [2]))
theorem zq (T : Bn mg) : TKE P w K mg base f bJ A outer s H E 0 mL "offers_of" iW (kQ K ) := fun hr =>
 have nd := qC.nd
 (az (aJ (eF rfl nd (bg (pv 0)) (aW (own := [("offer", 2)]) rfl) (fun _ _ _ _ _ => (pgB 2 nd)) (fun _ _ _ _ _ => (gF (aU qf (ax (pv 2) rfl) (pv 1) (bh _)))) (fun _ _ _ _ _ => (pv 2)))))
abbrev iX : Stmt := (inClass (top 37) 0)
abbrev mM : List Str := ["self", "kind", "numbers", "row"]
theorem qD : aG mM ["self", "kind", "numbers", "row"] (aB iX) := by walk_at "s"
def kR (K : FG)  : TS := (aH (cg K (ai 0) (ai 1) "kind") (aH (cg K (ai 0) (ai 2) "numbers") (cg K (ai 0) (ai 3) "row")))
theorem zr (T : Bn mg) : TKE P w K mg base f bJ A outer s H E 0 mM "Call.__init__" iX (kR K ) := fun hr =>
 have nd := qD.nd
 (ak (a7 (pv 0) (pv 1) rfl) (ak (a7 (pv 0) (pv 2) rfl) (az (a7 (pv 0) (pv 3) rfl))))
abbrev eP : Stmt := (top 38)
abbrev gJ : List Str := ["given", "calls", "at", "kind", "row_at", "numbers", "row"]
theorem ow : aG gJ ["given"] (aB eP) := by walk_at "s"
def jr (XC : Cx) (K : FG) (z0 z1 z2 : Addr) (z3 : Sp) : TS := (aH (br (bH aE) (aC 1)) (aH (br (tC (.int 0)) (aC 2)) (aH (Ci (bC (tOp (rI0 fun i j => .bl (decide (i < j))) (ai 2) (tCB (jX K) (aj (ai 0) aE)))) (aH (br (tOp (b9 K) (ai 0) (ai 2)) (aC 3)) (aH (br (tOp (rI0 fun i j => .int (i + j)) (tOp (rI0 fun i j => .int (i + j)) (ai 2) (tC (.int 1))) (tCB (jX K) (aj (CN XC (tC (.ref z0)) (ai 3) (yP aE)) aE))) (aC 4)) (aH (br (tSl (Ij K) (ai 0) (ye (tOp (rI0 fun i j => .int (i + j)) (ai 2) (tC (.int 1)))) (ye (ai 4))) (aC 5)) (aH (br (bH aE) (aC 6)) (aH (br (ai 4) (aC 2)) (aH (cT (tB (Fb XC false (ai 3) (tC (.ref z1)))) (aH (br (tOp (rI0 fun i j => .int (i + j)) (tOp (rI0 fun i j => .int (i + j)) (ai 4) (tC (.int 1))) (tOp (b9 K) (ai 0) (ai 4))) (aC 2)) (br (tSl (Ij K) (ai 0) (ye (tOp (rI0 fun i j => .int (i + j)) (ai 4) (tC (.int 1)))) (ye (ai 2))) (aC 6))) bN) (d9 (tBM K "list" dI (ai 1) (aj (g9 z2 z3 [] E0 (aj (ai 3) (aj (ai 5) (aj (ai 6) aE)))) aE)))))))))) (aX (ai 1)))))
theorem xg (T : Bn mg) (y0 : mg "NUMBERS" = some (.ref z0)) (y1 : mg "ROWS" = some (.ref z1)) (y2 : Mkr P w K mg base "Call" z2 ["self", "kind", "numbers", "row"] 1 z3) : TKE P w K mg base f bJ A outer s H E 2 gJ "read_calls" eP (jr (cxE P w K mg base gJ "read_calls" eP f bJ A outer s H E) K z0 z1 z2 z3) := fun hr =>
 have nd := ow.nd
 (ak (psS 1 nd (aP aw)) (ak (psS 2 nd aD) (ak (F3 PassesOwn.never (aU qg (pv 2) (aL aY (by rfl) T.len VQ (af (pv 0) aw)) (bh _)) (ak (psS 3 nd (bD aV (pv 0) (pv 2) (fun _ _ => rfl))) (ak (psS 4 nd (bB gh (bB gh (pv 2) aD) (aL aY (by rfl) T.len VQ (af (GN (dj (by rfl) y0 rfl) (pv 3) (rA aw) ⟨rfl, rfl, rfl, rfl⟩) aw)))) (ak (psS 5 nd (AM Ed (pv 0) (tZ (bB gh (pv 2) aD)) (tZ (pv 4)))) (ak (psS 6 nd (aP aw)) (ak (psS 2 nd (pv 4)) (ak (bY (FZ (K9 (pv 3) (dj (by rfl) y1 rfl))) (ak (psS 2 nd (bB gh (bB gh (pv 4) aD) (bD aV (pv 0) (pv 4) (fun _ _ => rfl)))) (az (psS 6 nd (AM Ed (pv 0) (tZ (bB gh (pv 4) aD)) (tZ (pv 2)))))) bf) (az (cV (om Wa Wl Wm fk (pv 1) (af (vp y2 hr (by decide) (by rfl) (af (pv 3) (af (pv 5) (af (pv 6) aw)))) aw))))))))))) (az (aJ (pv 1))))))
abbrev dG : Stmt := (top 39)
abbrev fI : List Str := ["call", "number", "bounds"]
theorem mN : aG fI ["call"] (aB dG) := by walk_at "s"
def ig (XC : Cx) (K : FG) (z0 z1 : Addr) (z2 : Sp) : TS := (aH (cT (tB (Fb XC true (aI K (ai 0) "kind") (tC (.ref z0)))) (aX (tC (.bl false))) bN) (aH (lX (jW K (aj (aI K (ai 0) "numbers") (aj (vo XC (tC (.ref z0)) (aI K (ai 0) "kind")) aE)) [false, true]) (jf K 2 (bA (aC 1) (bA (aC 2) je))) (cT (tOr (bC (tOp (rI0 fun i j => .bl (decide (i < j))) (ai 1) (tOp (Cz K) (ai 2) (tC (.int 0))))) (bC (tOp (rI0 fun i j => .bl (decide (j < i))) (ai 1) (tOp (Cz K) (ai 2) (tC (.int 1)))))) (aX (tC (.bl false))) bN)) (aX (Kl (Fb XC true (aI K (ai 0) "kind") (tC (.ref z1))) (a0 z2 [] E0 (aj (aI K (ai 0) "row") (aj (vo XC (tC (.ref z1)) (aI K (ai 0) "kind")) aE)))))))
theorem vP (T : Bn mg) (y0 : mg "NUMBERS" = some (.ref z0)) (y1 : mg "ROWS" = some (.ref z1)) (y2 : Fn P w K mg base "is_row_in_range" ["row", "bounds"] 1 z2) : TKE P w K mg base f bJ A outer s H E 1 fI "is_in_range" dG (ig (cxE P w K mg base fI "is_in_range" dG f bJ A outer s H E) K z0 z1 z2) := fun hr =>
 have nd := mN.nd
 (ak (bY (FZ (yw (ax (pv 0) rfl) (dj (by rfl) y0 rfl))) (az (aJ mj)) bf) (ak (dX PassesOwn.never rfl (iS (t1 := false) (t2 := true) (by rfl) T.vq (af (ax (pv 0) rfl) (af (zf (dj (by rfl) y0 rfl) (ax (pv 0) rfl) (fun _ _ => rfl)) aw))) (fi rfl (bb (pgN 1 nd) (bb (pgN 2 nd) dm))) (az (bY (PW.pt (F0 (aU qg (pv 1) (bD uZ (pv 2) aD (fun _ _ => rfl)) (bh _)) (B8 (aU oj (pv 1) (bD uZ (pv 2) aD (fun _ _ => rfl)) (bh _))))) (az (aJ mj)) bf))) (az (aJ (ME (Kk (yw (ax (pv 0) rfl) (dj (by rfl) y1 rfl))) (Km (pF y2 hr (af (ax (pv 0) rfl) (af (zf (dj (by rfl) y1 rfl) (ax (pv 0) rfl) (fun _ _ => rfl)) aw)))))))))
abbrev cX : Stmt := (top 40)
abbrev eQ : List Str := ["row", "bounds", "number"]
theorem ij : aG eQ ["row", "bounds"] (aB cX) := by walk_at "s"
def d5 (K : FG)  : TS := (aH (cT (bC (tOp (rI0 fun i j => .bl (decide (j < i))) (tCB (jX K) (aj (ai 0) aE)) (tOp (Cz K) (ai 1) (tC (.int 0))))) (aX (tC (.bl false))) bN) (aX (tCB (KL K) (aj (tLc (bO K (ai 0)) (aC 2) ff (rj (rI0 fun i j => .bl (decide (i <= j))) (rI0 fun i j => .bl (decide (i <= j))) (tOp (Cz K) (ai 1) (tC (.int 1))) (ai 2) (tOp (Cz K) (ai 1) (tC (.int 2)))) [2]) aE))))
theorem o9 (T : Bn mg) : TKE P w K mg base f bJ A outer s H E 0 eQ "is_row_in_range" cX (d5 K ) := fun hr =>
 have nd := ij.nd
 (ak (bY (aU oj (aL aY (by rfl) T.len VQ (af (pv 0) aw)) (bD uZ (pv 1) aD (fun _ _ => rfl)) (bh _)) (az (aJ mj)) bf) (az (aJ (aL (Gg rfl) (by rfl) T.Le boot_all (af (eF rfl nd (bg (pv 0)) (aW (own := [("number", 2)]) rfl) (fun _ _ _ _ _ => (pgB 2 nd)) (fun _ _ _ _ _ => bK) (fun _ _ _ _ _ => (AD xX xX (bD uZ (pv 1) aD (fun _ _ => rfl)) (pv 2) (bD uZ (pv 1) aD (fun _ _ => rfl))))) aw)))))
abbrev iY : Stmt := (inClass (top 47) 0)
abbrev mO : List Str := ["self"]
theorem qE : aG mO ["self"] (aB iY) := by walk_at "s"
def kT (K : FG) (z0 : Addr) (z1 : Sp) : TS := (aH (cg K (ai 0) (tC (.bl false)) "begun") (d9 (AF z0 "reset" z1 [] E0 (ai 0) (aj (tC (.int 0)) (aj (tC (.int 0)) aE)))))
theorem zt (T : Bn mg) (y0 : Mth P w K mg base z0 "reset" ["self", "need_up", "need_down"] 1 z1) : TKE P w K mg base f bJ A outer s H E 1 mO "Desk.__init__" iY (kT K z0 z1) := fun hr =>
 have nd := qE.nd
 (ak (a7 (pv 0) mj rfl) (az (cV (GS y0 (pv 0) hr (by decide) (af aD (af aD aw))))))
abbrev eR : Stmt := (inClass (top 47) 1)
abbrev gK : List Str := ["self", "need_up", "need_down"]
theorem ox : aG gK ["self", "need_up", "need_down"] (aB eR) := by walk_at "s"
def js (K : FG)  : TS := (aH (cg K (ai 0) (bH (aj (ai 1) (aj (ai 2) aE))) "needs") (aH (cg K (ai 0) (bH aE) "offers") (aH (cg K (ai 0) (tC (.int 0)) "last_number") (aH (cg K (ai 0) (tC (.bl false)) "has_bought") (aH (cg K (ai 0) (bH aE) "units") (cg K (ai 0) (bH aE) "quarters"))))))
theorem xh (T : Bn mg) : TKE P w K mg base f bJ A outer s H E 0 gK "Desk.reset" eR (js K ) := fun hr =>
 have nd := ox.nd
 (ak (a7 (pv 0) (aP (af (pv 1) (af (pv 2) aw))) rfl) (ak (a7 (pv 0) (aP aw) rfl) (ak (a7 (pv 0) aD rfl) (ak (a7 (pv 0) mj rfl) (ak (a7 (pv 0) (aP aw) rfl) (az (a7 (pv 0) (aP aw) rfl)))))))
abbrev j3 : Stmt := (top 48)
abbrev nJ : List Str := ["calls", "desk", "told", "call", "answer"]
theorem vQ : aG nJ ["calls"] (aB j3) := by walk_at "s"
def pf (K : FG) (z0 : Addr) (z1 z2 z3 : Sp) : TS := (aH (br (g9 z0 z1 [] E0 aE) (aC 1)) (aH (br (bH aE) (aC 2)) (aH (lX (bO K (a0 z2 [] E0 (aj (ai 0) aE))) (aC 3) (aH (br (a0 z3 [] E0 (aj (ai 1) (aj (ai 3) aE))) (aC 4)) (aH (d9 (tBM K "list" dI (ai 2) (aj (tCB (jX K) (aj (ai 4) aE)) aE))) (d9 (tBM K "list" nv (ai 2) (aj (ai 4) aE)))))) (aX (ai 2)))))
theorem C7 (T : Bn mg) (y0 : Mkr P w K mg base "Desk" z0 ["self"] 2 z1) (y1 : Fn P w K mg base "read_calls" ["given"] 3 z2) (y2 : Fn P w K mg base "answer_of" ["desk", "call"] 7 z3) : TKE P w K mg base f bJ A outer s H E 7 nJ "answers" j3 (pf K z0 z1 z2 z3) := fun hr =>
 have nd := vQ.nd
 (ak (psS 1 nd (Lb y0 hr (by decide) (by rfl))) (ak (psS 2 nd (aP aw)) (ak (dX PassesOwn.never rfl (bg (pF y1 hr (af (pv 0) aw))) (pgN 3 nd) (ak (psS 4 nd (pF y2 hr (af (pv 1) (af (pv 3) aw)))) (ak (cV (om Wa Wl Wm fk (pv 2) (af (aL aY (by rfl) T.len VQ (af (pv 4) aw)) aw))) (az (cV (om Wa slot_list_extend type_list_extend rB (pv 2) (af (pv 4) aw))))))) (az (aJ (pv 2))))))
abbrev gc : Stmt := (top 49)
abbrev iZ : List Str := ["desk", "call"]
theorem qF : aG iZ ["desk", "call"] (aB gc) := by walk_at "s"
def kU (XC : Cx) (P : Program) (w : World) (K : FG) (mg : SV) (base : Heap) (z0 z1 : Sp) (z2 : Addr) : TS := (aH (cT (yM (tB (a0 z0 [] E0 (aj (ai 1) aE)))) (aX (bH (aj (tUn (rU fun i => .int (-i)) (tC (.int 1))) aE))) bN) (aH (cT (Ax (bC (tOp rNe (aI K (ai 1) "kind") (tC (.int 0)))) (yM (tB (aI K (ai 0) "begun")))) (aX (bH (aj (tUn (rU fun i => .int (-i)) (tC (.int 2))) aE))) bN) (aH (cT (tB (a0 z1 [] E0 (aj (ai 0) (aj (aI K (ai 1) "kind") aE)))) (aX (bH (aj (tUn (rU fun i => .int (-i)) (tC (.int 3))) aE))) bN) (aX (CM P w K mg base 6 (vo XC (tC (.ref z2)) (aI K (ai 1) "kind")) (aj (ai 0) (aj (aI K (ai 1) "numbers") (aj (aI K (ai 1) "row") aE))))))))
theorem zu (T : Bn mg) (y0 : Fn P w K mg base "is_in_range" ["call"] 2 z0) (y1 : Fn P w K mg base "is_untimely" ["desk", "kind"] 1 z1) (y2 : mg "HANDLERS" = some (.ref z2)) : TKE P w K mg base f bJ A outer s H E 6 iZ "answer_of" gc (kU (cxE P w K mg base iZ "answer_of" gc f bJ A outer s H E) P w K mg base z0 z1 z2) := fun hr =>
 have nd := qF.nd
 (ak (bY (oI (dW (pF y0 hr (af (pv 1) aw)))) (az (aJ (aP (af (dC cj aD) aw)))) bf) (ak (bY (PW.pt (uO (aU D9 (ax (pv 1) rfl) aD (bh _)) (qe (oI (dW (ax (pv 0) rfl)))))) (az (aJ (aP (af (dC cj aD) aw)))) bf) (ak (bY (dW (pF y1 hr (af (pv 0) (af (ax (pv 1) rfl) aw)))) (az (aJ (aP (af (dC cj aD) aw)))) bf) (az (aJ (GL (zf (dj (by rfl) y2 rfl) (ax (pv 1) rfl) (fun _ _ => rfl)) hr (af (pv 0) (af (ax (pv 1) rfl) (af (ax (pv 1) rfl) aw)))))))))
abbrev fJ : Stmt := (top 50)
abbrev jt : List Str := ["desk", "kind"]
theorem mP : aG jt ["desk", "kind"] (aB fJ) := by walk_at "s"
def ik (K : FG) (z0 z1 : Addr) : TS := (aH (cT (tB (aI K (ai 0) "has_bought")) (aX (tOp (rIn K false) (ai 1) (tC (.ref z0)))) bN) (aX (tOp (rIn K false) (ai 1) (tC (.ref z1)))))
theorem vR (T : Bn mg) (y0 : mg "BEFORE" = some (.ref z0)) (y1 : mg "AFTER" = some (.ref z1)) : TKE P w K mg base f bJ A outer s H E 0 jt "is_untimely" fJ (ik K z0 z1) := fun hr =>
 have nd := mP.nd
 (ak (bY (dW (ax (pv 0) rfl)) (az (aJ (tY yg (pv 1) (dj (by rfl) y0 rfl) (by rfl)))) bf) (az (aJ (tY yg (pv 1) (dj (by rfl) y1 rfl) (by rfl)))))
abbrev t8 : Stmt := (top 51)
abbrev zw : List Str := ["desk", "numbers", "row"]
theorem Br : aG zw hPs (aB t8) := by walk_at "s"
def vS (K : FG) (z0 : Addr) (z1 : Sp) : TS := (aH (cg K (ai 0) (tC (.bl true)) "begun") (aH (d9 (AF z0 "reset" z1 [] E0 (ai 0) (aj (tOp (b9 K) (ai 1) (tC (.int 0))) (aj (tOp (b9 K) (ai 1) (tC (.int 1))) aE)))) (aX (bH (aj (tC (.int 0)) aE)))))
theorem Hc (T : Bn mg) (y0 : Mth P w K mg base z0 "reset" ["self", "need_up", "need_down"] 1 z1) : TKE P w K mg base f bJ A outer s H E 1 zw "begin" t8 (vS K z0 z1) := fun hr =>
 have nd := Br.nd
 (ak (a7 (pv 0) mj rfl) (ak (cV (GS y0 (pv 0) hr (by decide) (af (bD aV (pv 1) aD (fun _ _ => rfl)) (af (bD aV (pv 1) aD (fun _ _ => rfl)) aw)))) (az (aJ (aP (af aD aw))))))
abbrev fK : Stmt := (top 52)
abbrev ju : List Str := ["desk", "numbers", "row", "direction", "whole", "offer"]
theorem mQ : aG ju hPs (aB fK) := by walk_at "s"
def il (K : FG) (z0 : Int) (z1 z2 : Sp) (z3 : Int) (z4 : Addr) (z5 : Sp) : TS := (aH (br (tOp (b9 K) (ai 1) (tC (.int 0))) (aC 3)) (aH (br (tOp rEq (tOp (b9 K) (ai 1) (tC (.int 5))) (tC (.int 1))) (aC 4)) (aH (cT (bC (tOp (rI0 fun i j => .bl (decide (j <= i))) (tCB (jX K) (aj (aI K (ai 0) "offers") aE)) (tC (.int z0)))) (aX (bH (aj (tUn (rU fun i => .int (-i)) (tC (.int 4))) aE))) bN) (aH (cT (Ax (tB (ai 4)) (bC (tOp (rI0 fun i j => .bl (decide (j <= i))) (a0 z1 [] E0 (aj (a0 z2 [] E0 (aj (aI K (ai 0) "offers") (aj (ai 3) aE))) aE)) (tC (.int z3))))) (aX (bH (aj (tUn (rU fun i => .int (-i)) (tC (.int 5))) aE))) bN) (aH (nu K (ai 0) (tC (.int 1)) F8 "last_number") (aH (br (g9 z4 z5 [] E0 (aj (aI K (ai 0) "last_number") (aj (ai 3) (aj (tOp (b9 K) (ai 1) (tC (.int 1))) (aj (tOp (b9 K) (ai 1) (tC (.int 2))) (aj (tOp (b9 K) (ai 1) (tC (.int 3))) (aj (tOp (b9 K) (ai 1) (tC (.int 4))) (aj (ai 4) aE)))))))) (aC 5)) (aH (d9 (tBM K "list" dI (aI K (ai 0) "offers") (aj (ai 5) aE))) (aX (bH (aj (tC (.int 0)) (aj (aI K (ai 5) "number") aE)))))))))))
theorem vT (T : Bn mg) (y0 : mg "MOST_OFFERS" = some (.int z0 t0)) (y1 : Fn P w K mg base "count_whole" ["offers"] 1 z1) (y2 : Fn P w K mg base "offers_of" ["offers", "direction"] 1 z2) (y3 : mg "MOST_WHOLE" = some (.int z3 t1)) (y4 : Mkr P w K mg base "Offer" z4 ["self", "number", "direction", "amount", "capacity", "energy", "ramp", "whole"] 1 z5) : TKE P w K mg base f bJ A outer s H E 2 ju "enter_offer" fK (il K z0 z1 z2 z3 z4 z5) := fun hr =>
 have nd := mQ.nd
 (ak (psS 3 nd (bD aV (pv 1) aD (fun _ _ => rfl))) (ak (psS 4 nd (tY qf (bD aV (pv 1) aD (fun _ _ => rfl)) aD (bh _))) (ak (bY (aU AB (aL aY (by rfl) T.len VQ (af (ax (pv 0) rfl) aw)) (dj (by rfl) y0 ⟨_, rfl⟩) (bh _)) (az (aJ (aP (af (dC cj aD) aw)))) bf) (ak (bY (PW.pt (uO (dW (pv 4)) (qe (aU AB (pF y1 hr (af (pF y2 hr (af (ax (pv 0) rfl) (af (pv 3) aw))) aw)) (dj (by rfl) y3 ⟨_, rfl⟩) (bh _))))) (az (aJ (aP (af (dC cj aD) aw)))) bf) (ak (rq (pv 0) aD Cp) (ak (psS 5 nd (vp y4 hr (by decide) (by rfl) (af (ax (pv 0) rfl) (af (pv 3) (af (bD aV (pv 1) aD (fun _ _ => rfl)) (af (bD aV (pv 1) aD (fun _ _ => rfl)) (af (bD aV (pv 1) aD (fun _ _ => rfl)) (af (bD aV (pv 1) aD (fun _ _ => rfl)) (af (pv 4) aw))))))))) (ak (cV (om Wa Wl Wm fk (ax (pv 0) rfl) (af (pv 5) aw))) (az (aJ (aP (af aD (af (ax (pv 5) rfl) aw))))))))))))
abbrev fL : Stmt := (top 53)
abbrev jv : List Str := ["offers", "offer"]
theorem mR : aG jv ["offers"] (aB fL) := by walk_at "s"
def ip (K : FG)  : TS := (aX (tCB (jX K) (aj (tLc (bO K (ai 0)) (aC 1) (tB (aI K (ai 1) "whole")) (ai 1) [1]) aE)))
theorem vU (T : Bn mg) : TKE P w K mg base f bJ A outer s H E 0 jv "count_whole" fL (ip K ) := fun hr =>
 have nd := mR.nd
 (az (aJ (aL aY (by rfl) T.len VQ (af (eF rfl nd (bg (pv 0)) (aW (own := [("offer", 1)]) rfl) (fun _ _ _ _ _ => (pgB 1 nd)) (fun _ _ _ _ _ => (gF (dW (ax (pv 1) rfl)))) (fun _ _ _ _ _ => (pv 1))) aw))))
abbrev kW : Stmt := (top 54)
abbrev ph : List Str := ["desk", "numbers", "row", "kept", "offer"]
theorem sV : aG ph hPs (aB kW) := by walk_at "s"
def mS (K : FG)  : TS := (aH (br (tLc (bO K (aI K (ai 0) "offers")) (aC 4) (bC (tOp rNe (aI K (ai 4) "number") (tOp (b9 K) (ai 1) (tC (.int 0))))) (ai 4) [4]) (aC 3)) (aH (cT (bC (tOp rEq (tCB (jX K) (aj (ai 3) aE)) (tCB (jX K) (aj (aI K (ai 0) "offers") aE)))) (aX (bH (aj (tUn (rU fun i => .int (-i)) (tC (.int 4))) aE))) bN) (aH (cg K (ai 0) (ai 3) "offers") (aX (bH (aj (tC (.int 0)) aE))))))
theorem Bs (T : Bn mg) : TKE P w K mg base f bJ A outer s H E 0 ph "withdraw" kW (mS K ) := fun hr =>
 have nd := sV.nd
 (ak (cG (i := 3) rfl nd rfl rfl (dt rfl rfl rfl rfl) (bg (ax (pv 0) rfl)) (aW (own := [("offer", 4)]) rfl) (fun _ _ _ _ _ => (pgB 4 nd)) (fun _ _ _ _ _ => (gF (aU D9 (ax (pv 4) rfl) (bD aV (pv 1) aD (fun _ _ => rfl)) (bh _)))) (fun _ _ _ _ _ => (pv 4))) (ak (bY (aU qf (aL aY (by rfl) T.len VQ (af (pv 3) aw)) (aL aY (by rfl) T.len VQ (af (ax (pv 0) rfl) aw)) (bh _)) (az (aJ (aP (af (dC cj aD) aw)))) bf) (ak (a7 (pv 0) (pv 3) rfl) (az (aJ (aP (af aD aw)))))))
abbrev kX : Stmt := (top 55)
abbrev pj : List Str := ["desk", "numbers", "row"]
theorem sW : aG pj hPs (aB kX) := by walk_at "s"
def mT (K : FG)  : TS := (aH (br (tOp (b9 K) (ai 1) (tC (.int 1))) (F1 (aI K (ai 0) "needs") (tOp (b9 K) (ai 1) (tC (.int 0))) yf)) (aX (bH (aj (tC (.int 0)) aE))))
theorem Bt (T : Bn mg) : TKE P w K mg base f bJ A outer s H E 0 pj "set_need" kX (mT K ) := fun hr =>
 have nd := sW.nd
 (ak (Cb (bD aV (pv 1) aD (fun _ _ => rfl)) (Ca (ax (pv 0) rfl) (bD aV (pv 1) aD (fun _ _ => rfl)) set_list)) (az (aJ (aP (af aD aw)))))
abbrev Ew : Stmt := (top 56)
abbrev Hd : List Str := ["desk", "numbers", "row", "taken", "beyond", "cost", "direction", "need", "offers", "amounts", "offer", "amount"]
theorem He : aG Hd hPs (aB Ew) := by walk_at "s"
def C8 (K : FG) (z0 z1 z2 : Sp) (z3 : Addr) (z4 : Sp) : TS := (aH (br Gq (aC 3)) (aH (br (bH aE) (aC 4)) (aH (br (tC (.int 0)) (aC 5)) (aH (lX (AZ K (aj (aI K (ai 0) "needs") aE)) (jf K 2 (bA (aC 6) (bA (aC 7) je))) (aH (br (a0 z0 [] E0 (aj (aI K (ai 0) "offers") (aj (ai 6) aE))) (aC 8)) (aH (br (a0 z1 [] E0 (aj (ai 8) (aj (ai 7) aE))) (aC 9)) (aH (lX (jW K (aj (ai 8) (aj (ai 9) aE)) [false, false]) (jf K 2 (bA (aC 10) (bA (aC 11) je))) (Gn (ai 3) (aI K (ai 10) "number") (ai 11))) (aH (d9 (tBM K "list" dI (ai 4) (aj (tOp (rI0 fun i j => .int (i - j)) (tCB (oM K) (aj (ai 9) aE)) (ai 7)) aE))) (Cc 5 (a0 z2 [] E0 (aj (ai 8) (aj (ai 9) aE))) (ipI fun i j => i + j))))))) (aH (cg K (ai 0) (tLc (bO K (aI K (ai 0) "offers")) (aC 10) ff (g9 z3 z4 [] E0 (aj (ai 10) (aj (Gm (ai 3) (aI K (ai 10) "number")) aE))) [10]) "units") (aH (cg K (ai 0) (tC (.bl true)) "has_bought") (aX (tOp qh (tOp qh (bH (aj (tC (.int 0)) aE)) (ai 4)) (bH (aj (ai 5) aE))))))))))
theorem LA (T : Bn mg) (y0 : Fn P w K mg base "offers_of" ["offers", "direction"] 1 z0) (y1 : Fn P w K mg base "best_buy" ["offers", "need"] 5 z1) (y2 : Fn P w K mg base "cost_of" ["offers", "amounts"] 1 z2) (y3 : Mkr P w K mg base "Unit" z3 ["self", "offer", "taken"] 1 z4) : TKE P w K mg base f bJ A outer s H E 5 Hd "buy" Ew (C8 K z0 z1 z2 z3 z4) := fun hr =>
 have nd := He.nd
 (ak (psS 3 nd Gr) (ak (psS 4 nd (aP aw)) (ak (psS 5 nd aD) (ak (dX PassesOwn.never rfl (yY (by rfl) T.kF (af (ax (pv 0) rfl) aw)) (fi rfl (bb (pgN 6 nd) (bb (pgN 7 nd) dm))) (ak (psS 8 nd (pF y0 hr (af (ax (pv 0) rfl) (af (pv 6) aw)))) (ak (psS 9 nd (pF y1 hr (af (pv 8) (af (pv 7) aw)))) (ak (dX PassesOwn.never rfl (iS (t1 := false) (t2 := false) (by rfl) T.vq (af (pv 8) (af (pv 9) aw))) (fi rfl (bb (pgN 10 nd) (bb (pgN 11 nd) dm))) (az (Io (JI hr) (pv 3) (ax (pv 10) rfl) (pv 11) rfl))) (ak (cV (om Wa Wl Wm fk (pv 4) (af (bB jg (aL (fm rfl) (by rfl) T.sum boot_sum (af (pv 9) aw)) (pv 7)) aw))) (az (uQ (i := 5) nd rfl (by walk_at "o") (pF y2 hr (af (pv 8) (af (pv 9) aw))) Cf))))))) (ak (a7 (pv 0) (eF rfl nd (bg (ax (pv 0) rfl)) (aW (own := [("offer", 10)]) rfl) (fun _ _ _ _ _ => (pgB 10 nd)) (fun _ _ _ _ _ => bK) (fun _ _ _ _ _ => (vp y3 hr (by decide) (by rfl) (af (pv 10) (af (Im (JI hr) (pv 3) (ax (pv 10) rfl) (fun _ _ => rfl)) aw))))) rfl) (ak (a7 (pv 0) mj rfl) (az (aJ (bB gi (bB gi (aP (af aD aw)) (pv 4)) (aP (af (pv 5) aw)))))))))))
abbrev fM : Stmt := (top 57)
abbrev jw : List Str := ["desk", "numbers", "row"]
theorem mU : aG jw hPs (aB fM) := by walk_at "s"
def iq (K : FG)  : TS := (aH (cT (bC (tOp (rI0 fun i j => .bl (decide (j < i))) (tCB (jX K) (aj (aI K (ai 0) "quarters") aE)) (tC (.int 0)))) (aX (bH (aj (tUn (rU fun i => .int (-i)) (tC (.int 4))) aE))) bN) (aH (cg K (ai 0) (bH aE) "units") (aH (cg K (ai 0) (tC (.bl false)) "has_bought") (aX (bH (aj (tC (.int 0)) aE))))))
theorem vV (T : Bn mg) : TKE P w K mg base f bJ A outer s H E 0 jw "undo_buying" fM (iq K ) := fun hr =>
 have nd := mU.nd
 (ak (bY (aU oj (aL aY (by rfl) T.len VQ (af (ax (pv 0) rfl) aw)) aD (bh _)) (az (aJ (aP (af (dC cj aD) aw)))) bf) (ak (a7 (pv 0) (aP aw) rfl) (ak (a7 (pv 0) mj rfl) (az (aJ (aP (af aD aw)))))))
abbrev gL : Stmt := (top 58)
abbrev kY : List Str := ["desk", "numbers", "row", "unit"]
theorem oy : aG kY hPs (aB gL) := by walk_at "s"
def jx (K : FG) (z0 : Sp) : TS := (aH (br (a0 z0 [] E0 (aj (aI K (ai 0) "units") (aj (tOp (b9 K) (ai 1) (tC (.int 0))) aE))) (aC 3)) (aH (cT (bC (tOp IK (ai 3) (tC .non))) (aX (bH (aj (tUn (rU fun i => .int (-i)) (tC (.int 4))) aE))) bN) (aX (bH (aj (tC (.int 0)) (aj (aI K (ai 3) "taken") aE))))))
theorem xi (T : Bn mg) (y0 : Fn P w K mg base "find_unit" ["units", "number"] 1 z0) : TKE P w K mg base f bJ A outer s H E 1 kY "tell_taken" gL (jx K z0) := fun hr =>
 have nd := oy.nd
 (ak (psS 3 nd (pF y0 hr (af (ax (pv 0) rfl) (af (bD aV (pv 1) aD (fun _ _ => rfl)) aw)))) (ak (bY (aU Cn (pv 3) yL (bh _)) (az (aJ (aP (af (dC cj aD) aw)))) bf) (az (aJ (aP (af aD (af (ax (pv 3) rfl) aw)))))))
abbrev i3 : Stmt := (top 59)
abbrev mV : List Str := ["units", "number", "unit"]
theorem qG : aG mV ["units", "number"] (aB i3) := by walk_at "s"
def kZ (K : FG)  : TS := (aH (lX (bO K (ai 0)) (aC 2) (cT (bC (tOp rEq (aI K (aI K (ai 2) "offer") "number") (ai 1))) (aX (ai 2)) bN)) (aX (tC .non)))
theorem zx (T : Bn mg) : TKE P w K mg base f bJ A outer s H E 0 mV "find_unit" i3 (kZ K ) := fun hr =>
 have nd := qG.nd
 (ak (dX PassesOwn.never rfl (bg (pv 0)) (pgN 2 nd) (az (bY (aU qf (ax (ax (pv 2) rfl) rfl) (pv 1) (bh _)) (az (aJ (pv 2))) bf))) (az (aJ yL)))
abbrev fN : Stmt := (top 60)
abbrev jy : List Str := ["desk", "numbers", "row", "unit"]
theorem mW : aG jy hPs (aB fN) := by walk_at "s"
def ir (K : FG)  : TS := (aX (tOp qh (bH (aj (tC (.int 0)) aE)) (tLc (bO K (aI K (ai 0) "units")) (aC 3) (bC (tOp rEq (aI K (aI K (ai 3) "offer") "direction") (tOp (b9 K) (ai 1) (tC (.int 0))))) (aI K (ai 3) "taken") [3])))
theorem vW (T : Bn mg) : TKE P w K mg base f bJ A outer s H E 0 jy "tell_bought" fN (ir K ) := fun hr =>
 have nd := mW.nd
 (az (aJ (bB gi (aP (af aD aw)) (eF rfl nd (bg (ax (pv 0) rfl)) (aW (own := [("unit", 3)]) rfl) (fun _ _ _ _ _ => (pgB 3 nd)) (fun _ _ _ _ _ => (gF (aU qf (ax (ax (pv 3) rfl) rfl) (bD aV (pv 1) aD (fun _ _ => rfl)) (bh _)))) (fun _ _ _ _ _ => (ax (pv 3) rfl))))))
abbrev gM : Stmt := (top 61)
abbrev lh : List Str := ["desk", "numbers", "row", "offers"]
theorem oz : aG lh hPs (aB gM) := by walk_at "s"
def jz (K : FG) (z0 z1 z2 z3 : Sp) : TS := (aH (br (a0 z0 [] E0 (aj (aI K (ai 0) "offers") (aj (tOp (b9 K) (ai 1) (tC (.int 0))) aE))) (aC 3)) (aH (cT (bC (tOp rNe (tCB (jX K) (aj (ai 2) aE)) (tCB (jX K) (aj (ai 3) aE)))) (aX (bH (aj (tUn (rU fun i => .int (-i)) (tC (.int 4))) aE))) bN) (aH (cT (tOr (yM (tB (a0 z1 [] E0 (aj (ai 3) (aj (ai 2) aE))))) (yM (tB (a0 z2 [] E0 (aj (ai 2) (aj (tOp (b9 K) (aI K (ai 0) "needs") (tOp (b9 K) (ai 1) (tC (.int 0)))) aE)))))) (aX (bH (aj (tUn (rU fun i => .int (-i)) (tC (.int 5))) aE))) bN) (aX (bH (aj (tC (.int 0)) (aj (a0 z3 [] E0 (aj (ai 3) (aj (ai 2) aE))) aE)))))))
theorem xj (T : Bn mg) (y0 : Fn P w K mg base "offers_of" ["offers", "direction"] 1 z0) (y1 : Fn P w K mg base "is_buy" ["offers", "amounts"] 1 z1) (y2 : Fn P w K mg base "covers" ["amounts", "need"] 1 z2) (y3 : Fn P w K mg base "cost_of" ["offers", "amounts"] 1 z3) : TKE P w K mg base f bJ A outer s H E 1 lh "tell_value" gM (jz K z0 z1 z2 z3) := fun hr =>
 have nd := oz.nd
 (ak (psS 3 nd (pF y0 hr (af (ax (pv 0) rfl) (af (bD aV (pv 1) aD (fun _ _ => rfl)) aw)))) (ak (bY (aU D9 (aL aY (by rfl) T.len VQ (af (pv 2) aw)) (aL aY (by rfl) T.len VQ (af (pv 3) aw)) (bh _)) (az (aJ (aP (af (dC cj aD) aw)))) bf) (ak (bY (PW.pt (F0 (oI (dW (pF y1 hr (af (pv 3) (af (pv 2) aw))))) (B8 (oI (dW (pF y2 hr (af (pv 2) (af (bD aV (ax (pv 0) rfl) (bD aV (pv 1) aD (fun _ _ => rfl)) (fun _ _ => rfl)) aw)))))))) (az (aJ (aP (af (dC cj aD) aw)))) bf) (az (aJ (aP (af aD (af (pF y3 hr (af (pv 3) (af (pv 2) aw))) aw))))))))
abbrev eS : Stmt := (top 62)
abbrev iu : List Str := ["desk", "numbers", "row", "quarter"]
theorem lV : aG iu hPs (aB eS) := by walk_at "s"
def gw (K : FG) (z0 : Int) (z1 z2 z3 : Sp) : TS := (aH (cT (bC (tOp (rI0 fun i j => .bl (decide (j <= i))) (tCB (jX K) (aj (aI K (ai 0) "quarters") aE)) (tC (.int z0)))) (aX (bH (aj (tUn (rU fun i => .int (-i)) (tC (.int 4))) aE))) bN) (aH (br (a0 z1 [] E0 (aj (aI K (ai 0) "units") (aj (tOp (b9 K) (ai 1) (tC (.int 0))) aE))) (aC 3)) (aH (d9 (a0 z2 [] E0 (aj (aI K (ai 0) "units") (aj (ai 3) aE)))) (aH (d9 (tBM K "list" dI (aI K (ai 0) "quarters") (aj (ai 3) aE))) (aX (tOp qh (bH (aj (tC (.int 0)) aE)) (a0 z3 [] E0 (aj (ai 3) aE))))))))
theorem tH (T : Bn mg) (y0 : mg "MOST_QUARTERS" = some (.int z0 t0)) (y1 : Fn P w K mg base "quarter_for" ["units", "target"] 3 z1) (y2 : Fn P w K mg base "stand" ["units", "quarter"] 1 z2) (y3 : Fn P w K mg base "outcome" ["quarter"] 1 z3) : TKE P w K mg base f bJ A outer s H E 3 iu "call_quarter" eS (gw K z0 z1 z2 z3) := fun hr =>
 have nd := lV.nd
 (ak (bY (aU AB (aL aY (by rfl) T.len VQ (af (ax (pv 0) rfl) aw)) (dj (by rfl) y0 ⟨_, rfl⟩) (bh _)) (az (aJ (aP (af (dC cj aD) aw)))) bf) (ak (psS 3 nd (pF y1 hr (af (ax (pv 0) rfl) (af (bD aV (pv 1) aD (fun _ _ => rfl)) aw)))) (ak (cV (pF y2 hr (af (ax (pv 0) rfl) (af (pv 3) aw)))) (ak (cV (om Wa Wl Wm fk (ax (pv 0) rfl) (af (pv 3) aw))) (az (aJ (bB gi (aP (af aD aw)) (pF y3 hr (af (pv 3) aw)))))))))
abbrev nM : Stmt := (top 63)
abbrev rY : List Str := ["quarter"]
theorem vX : aG rY ["quarter"] (aB nM) := by walk_at "s"
def px (K : FG)  : TS := (aX (bH (aj (aI K (ai 0) "called") (aj (aI K (ai 0) "price") (aj (aI K (ai 0) "cost") aE)))))
theorem C9 (T : Bn mg) : TKE P w K mg base f bJ A outer s H E 0 rY "outcome" nM (px K ) := fun hr =>
 have nd := vX.nd
 (az (aJ (aP (af (ax (pv 0) rfl) (af (ax (pv 0) rfl) (af (ax (pv 0) rfl) aw))))))
abbrev nN : Stmt := (top 64)
abbrev rZ : List Str := ["desk", "numbers", "row", "told", "quarter"]
theorem vY : aG rZ hPs (aB nN) := by walk_at "s"
def pz (K : FG) (z0 : Int) (z1 z2 : Sp) : TS := (aH (cT (bC (tOp (rI0 fun i j => .bl (decide (j < i))) (tOp (rI0 fun i j => .int (i + j)) (tCB (jX K) (aj (aI K (ai 0) "quarters") aE)) (tCB (jX K) (aj (ai 2) aE))) (tC (.int z0)))) (aX (bH (aj (tUn (rU fun i => .int (-i)) (tC (.int 4))) aE))) bN) (aH (br (bH (aj (tC (.int 0)) aE)) (aC 3)) (aH (lX (bO K (a0 z1 [] E0 (aj (aI K (ai 0) "units") (aj (ai 2) aE)))) (aC 4) (d9 (tBM K "list" nv (ai 3) (aj (a0 z2 [] E0 (aj (ai 4) aE)) aE)))) (aX (ai 3)))))
theorem Dc (T : Bn mg) (y0 : mg "MOST_QUARTERS" = some (.int z0 t0)) (y1 : Fn P w K mg base "foreseen" ["units", "targets"] 4 z1) (y2 : Fn P w K mg base "outcome" ["quarter"] 1 z2) : TKE P w K mg base f bJ A outer s H E 4 rZ "foresee" nN (pz K z0 z1 z2) := fun hr =>
 have nd := vY.nd
 (ak (bY (aU oj (bB gh (aL aY (by rfl) T.len VQ (af (ax (pv 0) rfl) aw)) (aL aY (by rfl) T.len VQ (af (pv 2) aw))) (dj (by rfl) y0 ⟨_, rfl⟩) (bh _)) (az (aJ (aP (af (dC cj aD) aw)))) bf) (ak (psS 3 nd (aP (af aD aw))) (ak (dX PassesOwn.never rfl (bg (pF y1 hr (af (ax (pv 0) rfl) (af (pv 2) aw)))) (pgN 4 nd) (az (cV (om Wa slot_list_extend type_list_extend rB (pv 3) (af (pF y2 hr (af (pv 4) aw)) aw))))) (az (aJ (pv 3))))))
abbrev i4 : Stmt := (top 65)
abbrev mX : List Str := ["desk", "numbers", "row", "unit", "places"]
theorem qH : aG mX hPs (aB i4) := by walk_at "s"
def lj (K : FG) (z0 z1 z2 : Sp) : TS := (aH (br (a0 z0 [] E0 (aj (aI K (ai 0) "units") (aj (tOp (b9 K) (ai 1) (tC (.int 0))) aE))) (aC 3)) (aH (cT (bC (tOp IK (ai 3) (tC .non))) (aX (bH (aj (tUn (rU fun i => .int (-i)) (tC (.int 4))) aE))) bN) (aH (br (bH (aj (aI K (ai 3) "place") (aj (a0 z1 [] E0 (aj (ai 3) aE)) (aj (a0 z2 [] E0 (aj (ai 3) aE)) aE)))) (aC 4)) (aX (tOp qh (tOp qh (bH (aj (tC (.int 0)) (aj (aI K (ai 3) "taken") (aj (aI K (ai 3) "left") aE)))) (ai 4)) (bH (aj (aI K (ai 3) "place_sum") (aj (aI K (ai 3) "paid") aE))))))))
theorem zy (T : Bn mg) (y0 : Fn P w K mg base "find_unit" ["units", "number"] 1 z0) (y1 : Fn P w K mg base "lowest_place" ["unit"] 2 z1) (y2 : Fn P w K mg base "highest_place" ["unit"] 2 z2) : TKE P w K mg base f bJ A outer s H E 2 mX "tell_unit" i4 (lj K z0 z1 z2) := fun hr =>
 have nd := qH.nd
 (ak (psS 3 nd (pF y0 hr (af (ax (pv 0) rfl) (af (bD aV (pv 1) aD (fun _ _ => rfl)) aw)))) (ak (bY (aU Cn (pv 3) yL (bh _)) (az (aJ (aP (af (dC cj aD) aw)))) bf) (ak (psS 4 nd (aP (af (ax (pv 3) rfl) (af (pF y1 hr (af (pv 3) aw)) (af (pF y2 hr (af (pv 3) aw)) aw))))) (az (aJ (bB gi (bB gi (aP (af aD (af (ax (pv 3) rfl) (af (ax (pv 3) rfl) aw)))) (pv 4)) (aP (af (ax (pv 3) rfl) (af (ax (pv 3) rfl) aw)))))))))
abbrev lr : Stmt := (top 66)
abbrev pA : List Str := ["desk", "numbers", "row", "unit", "before"]
theorem sX : aG pA hPs (aB lr) := by walk_at "s"
def mY (K : FG) (z0 : Sp) : TS := (aH (br (a0 z0 [] E0 (aj (aI K (ai 0) "units") (aj (tOp (b9 K) (ai 1) (tC (.int 0))) aE))) (aC 3)) (aH (cT (bC (tOp IK (ai 3) (tC .non))) (aX (bH (aj (tUn (rU fun i => .int (-i)) (tC (.int 4))) aE))) bN) (aH (cT (bC (tOp (rI0 fun i j => .bl (decide (j < i))) (tOp (b9 K) (ai 1) (tC (.int 1))) (aI K (ai 3) "taken"))) (aX (bH (aj (tUn (rU fun i => .int (-i)) (tC (.int 5))) aE))) bN) (aH (br (aI K (ai 3) "left") (aC 4)) (aH (cg K (ai 3) (tOp (b9 K) (ai 1) (tC (.int 1))) "left") (aX (bH (aj (tC (.int 0)) (aj (ai 4) aE)))))))))
theorem Bu (T : Bn mg) (y0 : Fn P w K mg base "find_unit" ["units", "number"] 1 z0) : TKE P w K mg base f bJ A outer s H E 1 pA "set_left" lr (mY K z0) := fun hr =>
 have nd := sX.nd
 (ak (psS 3 nd (pF y0 hr (af (ax (pv 0) rfl) (af (bD aV (pv 1) aD (fun _ _ => rfl)) aw)))) (ak (bY (aU Cn (pv 3) yL (bh _)) (az (aJ (aP (af (dC cj aD) aw)))) bf) (ak (bY (aU oj (bD aV (pv 1) aD (fun _ _ => rfl)) (ax (pv 3) rfl) (bh _)) (az (aJ (aP (af (dC cj aD) aw)))) bf) (ak (psS 4 nd (ax (pv 3) rfl)) (ak (a7 (pv 3) (bD aV (pv 1) aD (fun _ _ => rfl)) rfl) (az (aJ (aP (af aD (af (pv 4) aw))))))))))
abbrev gN : Stmt := (top 67)
abbrev lx : List Str := ["desk", "numbers", "row", "least", "unit", "greatest"]
theorem oA : aG lx hPs (aB gN) := by walk_at "s"
def jA (K : FG) (z0 z1 : Sp) : TS := (aH (br (tCB (oM K) (aj (tLc (bO K (aI K (ai 0) "units")) (aC 4) ff (a0 z0 [] E0 (aj (ai 4) (aj (tOp (b9 K) (ai 1) (tC (.int 0))) aE))) [4]) aE)) (aC 3)) (aH (br (tCB (oM K) (aj (tLc (bO K (aI K (ai 0) "units")) (aC 4) ff (a0 z1 [] E0 (aj (ai 4) (aj (tOp (b9 K) (ai 1) (tC (.int 0))) aE))) [4]) aE)) (aC 5)) (aX (bH (aj (tC (.int 0)) (aj (ai 3) (aj (ai 5) aE)))))))
theorem xk (T : Bn mg) (y0 : Fn P w K mg base "lowest_after" ["unit", "quarters"] 3 z0) (y1 : Fn P w K mg base "highest_after" ["unit", "quarters"] 3 z1) : TKE P w K mg base f bJ A outer s H E 3 lx "tell_reach" gN (jA K z0 z1) := fun hr =>
 have nd := oA.nd
 (ak (psS 3 nd (aL (fm rfl) (by rfl) T.sum boot_sum (af (eF rfl nd (bg (ax (pv 0) rfl)) (aW (own := [("unit", 4)]) rfl) (fun _ _ _ _ _ => (pgB 4 nd)) (fun _ _ _ _ _ => bK) (fun _ _ _ _ _ => (pF y0 hr (af (pv 4) (af (bD aV (pv 1) aD (fun _ _ => rfl)) aw))))) aw))) (ak (psS 5 nd (aL (fm rfl) (by rfl) T.sum boot_sum (af (eF rfl nd (bg (ax (pv 0) rfl)) (aW (own := [("unit", 4)]) rfl) (fun _ _ _ _ _ => (pgB 4 nd)) (fun _ _ _ _ _ => bK) (fun _ _ _ _ _ => (pF y1 hr (af (pv 4) (af (bD aV (pv 1) aD (fun _ _ => rfl)) aw))))) aw))) (az (aJ (aP (af aD (af (pv 3) (af (pv 5) aw))))))))
abbrev fO : Stmt := (top 68)
abbrev jB : List Str := ["desk", "numbers", "row", "offers", "unit", "positions", "offer", "position"]
theorem mZ : aG jB hPs (aB fO) := by walk_at "s"
def iw (K : FG) (z0 : Sp) : TS := (aH (br (tLc (bO K (aI K (ai 0) "units")) (aC 4) (bC (tOp (rI0 fun i j => .bl (decide (j < i))) (aI K (ai 4) "left") (tC (.int 0)))) (aI K (ai 4) "offer") [4]) (aC 3)) (aH (br (a0 z0 [] E0 (aj (tLc (bO K (ai 3)) (aC 6) ff (aI K (ai 6) "energy") [6]) aE)) (aC 5)) (aX (tOp qh (bH (aj (tC (.int 0)) aE)) (tLc (bO K (ai 5)) (aC 7) ff (aI K (tOp (b9 K) (ai 3) (ai 7)) "number") [7])))))
theorem vZ (T : Bn mg) (y0 : Fn P w K mg base "by_energy" ["energies"] 2 z0) : TKE P w K mg base f bJ A outer s H E 2 jB "tell_ladder" fO (iw K z0) := fun hr =>
 have nd := mZ.nd
 (ak (psS 3 nd (eF rfl nd (bg (ax (pv 0) rfl)) (aW (own := [("unit", 4)]) rfl) (fun _ _ _ _ _ => (pgB 4 nd)) (fun _ _ _ _ _ => (gF (aU oj (ax (pv 4) rfl) aD (bh _)))) (fun _ _ _ _ _ => (ax (pv 4) rfl)))) (ak (psS 5 nd (pF y0 hr (af (eF rfl nd (bg (pv 3)) (aW (own := [("offer", 6)]) rfl) (fun _ _ _ _ _ => (pgB 6 nd)) (fun _ _ _ _ _ => bK) (fun _ _ _ _ _ => (ax (pv 6) rfl))) aw))) (az (aJ (bB gi (aP (af aD aw)) (eF rfl nd (bg (pv 5)) (aW (own := [("position", 7)]) rfl) (fun _ _ _ _ _ => (pgB 7 nd)) (fun _ _ _ _ _ => bK) (fun _ _ _ _ _ => (ax (bD aV (pv 3) (pv 7) (fun _ _ => rfl)) rfl))))))))
abbrev fP : Stmt := (top 69)
abbrev jC : List Str := ["desk", "numbers", "row", "unit"]
theorem m6 : aG jC hPs (aB fP) := by walk_at "s"
def iy (K : FG)  : TS := (aX (tOp qh (bH (aj (tC (.int 0)) aE)) (tLc (bO K (aI K (ai 0) "units")) (aC 3) ff (aI K (ai 3) "place") [3])))
theorem v3 (T : Bn mg) : TKE P w K mg base f bJ A outer s H E 0 jC "tell_places" fP (iy K ) := fun hr =>
 have nd := m6.nd
 (az (aJ (bB gi (aP (af aD aw)) (eF rfl nd (bg (ax (pv 0) rfl)) (aW (own := [("unit", 3)]) rfl) (fun _ _ _ _ _ => (pgB 3 nd)) (fun _ _ _ _ _ => bK) (fun _ _ _ _ _ => (ax (pv 3) rfl))))))
abbrev gO : Stmt := (top 70)
abbrev ly : List Str := ["desk", "numbers", "row", "unit", "place", "worth"]
theorem oB : aG ly hPs (aB gO) := by walk_at "s"
def jD (K : FG) (z0 : Sp) : TS := (aH (cT (bC (tOp rNe (tCB (jX K) (aj (ai 2) aE)) (tCB (jX K) (aj (aI K (ai 0) "units") aE)))) (aX (bH (aj (tUn (rU fun i => .int (-i)) (tC (.int 4))) aE))) bN) (aH (cT (yM (tB (tCB (KL K) (aj (tLc (jW K (aj (aI K (ai 0) "units") (aj (ai 2) aE)) [false, false]) (jf K 2 (bA (aC 3) (bA (aC 4) je))) ff (a0 z0 [] E0 (aj (ai 3) (aj (ai 4) aE))) [3, 4]) aE)))) (aX (bH (aj (tUn (rU fun i => .int (-i)) (tC (.int 5))) aE))) bN) (aH (br (tCB (oM K) (aj (tLc (jW K (aj (aI K (ai 0) "units") (aj (ai 2) aE)) [false, false]) (jf K 2 (bA (aC 3) (bA (aC 4) je))) ff (tOp (rI kz fun i j => .int (i * j)) (ai 4) (aI K (aI K (ai 3) "offer") "energy")) [3, 4]) aE)) (aC 5)) (aX (bH (aj (tC (.int 0)) (aj (tCB (oM K) (aj (ai 2) aE)) (aj (ai 5) aE))))))))
theorem xl (T : Bn mg) (y0 : Fn P w K mg base "can_stand_at" ["unit", "place"] 3 z0) : TKE P w K mg base f bJ A outer s H E 3 ly "try_places" gO (jD K z0) := fun hr =>
 have nd := oB.nd
 (ak (bY (aU D9 (aL aY (by rfl) T.len VQ (af (pv 2) aw)) (aL aY (by rfl) T.len VQ (af (ax (pv 0) rfl) aw)) (bh _)) (az (aJ (aP (af (dC cj aD) aw)))) bf) (ak (bY (oI (dW (aL (Gg rfl) (by rfl) T.Le boot_all (af (eF rfl nd (iS (t1 := false) (t2 := false) (by rfl) T.vq (af (ax (pv 0) rfl) (af (pv 2) aw))) (aW (own := [("unit", 3), ("place", 4)]) rfl) (fun _ _ _ _ _ => (fi rfl (bb (pgB 3 nd) (bb (pgB 4 nd) dm)))) (fun _ _ _ _ _ => bK) (fun _ _ _ _ _ => (pF y0 hr (af (pv 3) (af (pv 4) aw))))) aw)))) (az (aJ (aP (af (dC cj aD) aw)))) bf) (ak (psS 5 nd (aL (fm rfl) (by rfl) T.sum boot_sum (af (eF rfl nd (iS (t1 := false) (t2 := false) (by rfl) T.vq (af (ax (pv 0) rfl) (af (pv 2) aw))) (aW (own := [("unit", 3), ("place", 4)]) rfl) (fun _ _ _ _ _ => (fi rfl (bb (pgB 3 nd) (bb (pgB 4 nd) dm)))) (fun _ _ _ _ _ => bK) (fun _ _ _ _ _ => (bB jh (pv 4) (ax (ax (pv 3) rfl) rfl)))) aw))) (az (aJ (aP (af aD (af (aL (fm rfl) (by rfl) T.sum boot_sum (af (pv 2) aw)) (af (pv 5) aw)))))))))
abbrev eT : Stmt := (top 71)
abbrev iA : List Str := ["desk", "numbers", "row", "quarter"]
theorem lW : aG iA hPs (aB eT) := by walk_at "s"
def gx (K : FG) (z0 : Sp) : TS := (aH (cT (bC (tOp (rI0 fun i j => .bl (decide (i < j))) (tCB (jX K) (aj (aI K (ai 0) "quarters") aE)) (tOp (b9 K) (ai 1) (tC (.int 0))))) (aX (bH (aj (tUn (rU fun i => .int (-i)) (tC (.int 4))) aE))) bN) (aH (br (tOp (b9 K) (aI K (ai 0) "quarters") (tOp (rI0 fun i j => .int (i - j)) (tOp (b9 K) (ai 1) (tC (.int 0))) (tC (.int 1)))) (aC 3)) (aX (tOp qh (bH (aj (tC (.int 0)) (aj (aI K (ai 3) "target") aE))) (a0 z0 [] E0 (aj (ai 3) aE))))))
theorem tI (T : Bn mg) (y0 : Fn P w K mg base "outcome" ["quarter"] 1 z0) : TKE P w K mg base f bJ A outer s H E 1 iA "tell_quarter" eT (gx K z0) := fun hr =>
 have nd := lW.nd
 (ak (bY (aU qg (aL aY (by rfl) T.len VQ (af (ax (pv 0) rfl) aw)) (bD aV (pv 1) aD (fun _ _ => rfl)) (bh _)) (az (aJ (aP (af (dC cj aD) aw)))) bf) (ak (psS 3 nd (bD aV (ax (pv 0) rfl) (bB jg (bD aV (pv 1) aD (fun _ _ => rfl)) aD) (fun _ _ => rfl))) (az (aJ (bB gi (aP (af aD (af (ax (pv 3) rfl) aw))) (pF y0 hr (af (pv 3) aw)))))))
abbrev gP : Stmt := (top 72)
abbrev lz : List Str := ["desk", "numbers", "row", "capacity", "unit", "energy"]
theorem oC : aG lz hPs (aB gP) := by walk_at "s"
def jE (K : FG)  : TS := (aH (br (tCB (oM K) (aj (tLc (bO K (aI K (ai 0) "units")) (aC 4) ff (tOp (rI kz fun i j => .int (i * j)) (aI K (ai 4) "taken") (aI K (aI K (ai 4) "offer") "capacity")) [4]) aE)) (aC 3)) (aH (br (tCB (oM K) (aj (tLc (bO K (aI K (ai 0) "units")) (aC 4) ff (aI K (ai 4) "paid") [4]) aE)) (aC 5)) (aX (bH (aj (tC (.int 0)) (aj (ai 3) (aj (ai 5) aE)))))))
theorem xm (T : Bn mg) : TKE P w K mg base f bJ A outer s H E 0 lz "tell_costs" gP (jE K ) := fun hr =>
 have nd := oC.nd
 (ak (psS 3 nd (aL (fm rfl) (by rfl) T.sum boot_sum (af (eF rfl nd (bg (ax (pv 0) rfl)) (aW (own := [("unit", 4)]) rfl) (fun _ _ _ _ _ => (pgB 4 nd)) (fun _ _ _ _ _ => bK) (fun _ _ _ _ _ => (bB jh (ax (pv 4) rfl) (ax (ax (pv 4) rfl) rfl)))) aw))) (ak (psS 5 nd (aL (fm rfl) (by rfl) T.sum boot_sum (af (eF rfl nd (bg (ax (pv 0) rfl)) (aW (own := [("unit", 4)]) rfl) (fun _ _ _ _ _ => (pgB 4 nd)) (fun _ _ _ _ _ => bK) (fun _ _ _ _ _ => (ax (pv 4) rfl))) aw))) (az (aJ (aP (af aD (af (pv 3) (af (pv 5) aw))))))))
abbrev i5 : Stmt := (top 73)
abbrev m7 : List Str := ["desk", "numbers", "row", "told", "offer"]
theorem qI : aG m7 hPs (aB i5) := by walk_at "s"
def lA (K : FG)  : TS := (aH (br (tOp qh (tOp qh (bH (aj (tC (.int 0)) aE)) (aI K (ai 0) "needs")) (bH (aj (tIf (tB (aI K (ai 0) "has_bought")) (tC (.int 1)) (tC (.int 0))) aE))) (aC 3)) (aH (lX (bO K (aI K (ai 0) "offers")) (aC 4) (aH (d9 (tBM K "list" nv (ai 3) (aj (bH (aj (aI K (ai 4) "number") (aj (aI K (ai 4) "direction") (aj (aI K (ai 4) "amount") (aj (aI K (ai 4) "capacity") (aj (aI K (ai 4) "energy") (aj (aI K (ai 4) "ramp") aE))))))) aE))) (d9 (tBM K "list" dI (ai 3) (aj (tIf (tB (aI K (ai 4) "whole")) (tC (.int 1)) (tC (.int 0))) aE))))) (aX (ai 3))))
theorem zz (T : Bn mg) : TKE P w K mg base f bJ A outer s H E 0 m7 "tell_book" i5 (lA K ) := fun hr =>
 have nd := qI.nd
 (ak (psS 3 nd (bB gi (bB gi (aP (af aD aw)) (ax (pv 0) rfl)) (aP (af (jO (dW (ax (pv 0) rfl)) aD aD) aw)))) (ak (dX PassesOwn.never rfl (bg (ax (pv 0) rfl)) (pgN 4 nd) (ak (cV (om Wa slot_list_extend type_list_extend rB (pv 3) (af (aP (af (ax (pv 4) rfl) (af (ax (pv 4) rfl) (af (ax (pv 4) rfl) (af (ax (pv 4) rfl) (af (ax (pv 4) rfl) (af (ax (pv 4) rfl) aw))))))) aw))) (az (cV (om Wa Wl Wm fk (pv 3) (af (jO (dW (ax (pv 4) rfl)) aD aD) aw)))))) (az (aJ (pv 3)))))
end
open Vbemah (Offer cost total)
def jF (b : Bool) : Int := if b = true then 1 else 0
def zA (o : Offer) : List (Str × V) := [("number", .int o.num), ("direction", .int (jF o.down)), ("amount", .int o.q), ("capacity", .int o.price), ("energy", .int o.energy), ("ramp", .int o.ramp), ("whole", .bl o.whole)]
abbrev cf : List Str := ["number", "direction", "amount", "capacity", "energy", "ramp", "whole"]
structure d6 (K : FG) (C : Addr) (H : Hp) (l : Addr) (ad : Nat -> Addr) (os : List Offer) : Prop where
  sq : SqL K H l ((range os.length).map fun i => V.ref (ad i))
  at_ : ∀ i, i < os.length -> RecAt C H (ad i) (zA (oAt os i))
theorem KpX.cy {K : FG} {ad : Nat -> Addr} {os : List Offer} (k : Kp H H') (h : d6 K C H l ad os) : d6 K C H' l ad os := ⟨k.bI h.sq, fun i hi => k.recAt (h.at_ i hi)⟩
structure OsB (os : List Offer) : Prop where
  few : os.length <= 1000
  bd : ∀ i, i < os.length -> OfB (oAt os i)
section
variable {K : FG} {CO : Addr}
abbrev ends (Q : VK) : Ends := { nx := fun _ H' => Q .non H', rt := Q }
def lB (K : FG) (CO : Addr) : Sp := fun vs H Q _ => ∃ (lo la : Addr) (ad : Nat -> Addr) (os : List Offer) (xs : List Int), vs = [.ref lo, .ref la] /\ d6 K CO H lo ad os /\ SqL K H la (xs.map V.int) /\ OsB os /\ ∀ H', Kp H H' -> Q (.int (cost os xs)) H'
theorem Dd (os : List Offer) (xs : List Int) : cost os xs = ((range (min os.length xs.length)).map fun i => (oAt os i).price * xs.getD i 0).sum := by
  unfold cost
  congr 1
  apply V0
  intro i
  rw [Vt, Vt, zip_eq_zipWith, getElem?_zipWith]
  by_cases h : i < min os.length xs.length
  . rw [Wb h, cI (by omega), Vl (show i < xs.length by omega)]
    simp [List.getD, Vl (show i < xs.length by omega)]
  . have e1 : (range (min os.length xs.length))[i]? = none := VL (by simpa using h)
    rw [e1]
    by_cases h2 : i < os.length
    . rw [cI h2, VL (show xs.length <= i by omega)]; rfl
    . rw [VL (show os.length <= i by omega)]; rfl
theorem Df (R : Rec K CO cf) (h : lB K CO vs H Q E) : oU K (ends Q) (start rM vs) H := by
  obtain ⟨lo, la, ad, os, xs, rfl, ho, hx, hb, k⟩ := h
  have hs := ho.sq
  unfold oU
  kd_p
  refine cU (nB hs hx) ?_ (fun i => .int ((oAt os i).price * xs.getD i 0)) (fun i H' Ky hi kp hy => ?_) fun D H' kp hD e => ?_
  . have := hb.few
    simp only [Vg, Vk]; rw [Vr]; omega
  . simp only [Vg, Vk] at hi
    have h1 := kp.recAt (ho.at_ i (by omega))
    have b := hb.bd i (by omega)
    rw [aZ _ (by omega), gj xs (by omega)]
    kd_p
    exact kG ⟨by have := b.p0; omega, by have := b.p1; omega⟩ (hy H' (Kp.refl _))
  . kd_p
    simp only [Vg, Vk] at e
    rw [eI] at e
    refine ⟨D, _, rfl, SqL.of e, ?_⟩
    rw [<- Dd]
    exact k H' kp
def nO (K : FG) : Sp := fun vs H Q _ => ∃ (a : Addr) (ns : List Int) (n : Int), vs = [.ref a, .int n] /\ SqL K H a (ns.map V.int) /\ Q (.bl (decide (n <= ns.sum))) H
theorem Fg (h : nO K vs H Q E) : rO K (ends Q) (start vI vs) H := by
  obtain ⟨a, ns, n, rfl, hs, k⟩ := h
  unfold rO
  kd_p
  refine ⟨a, ns, rfl, hs, ?_⟩
  kd_p
  exact k
end
section
variable {K : FG} {CO : Addr}
def tJ (o : Offer) (x : Int) : Bool := decide (0 <= x) && decide (x <= o.q) && (!o.whole || x == 0 || x == o.q)
def r6 (os : List Offer) (xs : List Int) : Bool := (range (min os.length xs.length)).all fun i => tJ (oAt os i) (xs.getD i 0)
def r8 (K : FG) (CO : Addr) : Sp := fun vs H Q _ => ∃ (lo la : Addr) (ad : Nat -> Addr) (os : List Offer) (xs : List Int), vs = [.ref lo, .ref la] /\ d6 K CO H lo ad os /\ SqL K H la (xs.map V.int) /\ ∀ H', Kp H H' -> Q (.bl (r6 os xs)) H'
theorem Fh (R : Rec K CO cf) (h : r8 K CO vs H Q E) : rN K (ends Q) (start vG vs) H := by
  obtain ⟨lo, la, ad, os, xs, rfl, ho, hx, k⟩ := h
  have hs := ho.sq
  unfold rN
  kd_p
  have bad : ∀ {i H'}, i < min os.length xs.length -> tJ (oAt os i) (xs.getD i 0) = false -> Kp H H' -> Q (.bl false) H' := fun {i H'} hi e kp => by
    have z : r6 os xs = false := List.all_eq_false.mpr ⟨i, mem_range.mpr hi, by rw [e]; exact VD⟩
    rw [<- z]
    exact k H' kp
  refine vz (nB hs hx) (fun i σ H' => Kp H H' /\ (∀ j, j < i -> tJ (oAt os j) (xs.getD j 0) = true) /\ ∃ x2 x3, σ = [some (.ref lo), some (.ref la), x2, x3]) ⟨Kp.refl _, fun j hj => absurd hj (VJ _), none, none, rfl⟩ (fun i σ' H' p => p.1) ?_ ?_
  . rintro i σ' H' H2 hi ⟨kp, dF, x2, x3, rfl⟩ k2
    simp only [Vg, Vk] at hi
    have h1 := (kp.trans k2).recAt (ho.at_ i (by omega))
    rw [aZ _ (by omega), gj xs (by omega)]
    generalize RW : xs.getD i 0 = x at *
    generalize RX : oAt os i = o at *
    have fin : tJ o x = true -> (Kp H H2 /\ (∀ j, j < i + 1 -> tJ (oAt os j) (xs.getD j 0) = true) /\ ∃ y2 y3, [some (V.ref lo), some (V.ref la), some (V.ref (ad i)), some (V.int x)] = [some (V.ref lo), some (V.ref la), y2, y3]) := fun e =>
      ⟨kp.trans k2, fun j hj => by
        rcases Nat.lt_succ_iff_lt_or_eq.mp hj with h | h
        . exact dF j h
        . rw [h, RX, RW]; exact e, _, _, rfl⟩
    have Fi : tJ o x = false -> Q (.bl false) H2 := fun e => bad (i := i) (by omega) (by rw [RX, RW]; exact e) (kp.trans k2)
    kd_p
    refine bX (fun c => oP (oR (Bj (Fi ?_)))) fun c => ?_
    . have := Vn c
      unfold tJ
      rw [VN (by omega)]; rfl
    kd_p
    refine bX (fun c2 => oR (Bj (Fi ?_))) fun c2 => ?_
    . have := Vn c2
      unfold tJ
      rw [VN (show ¬ x <= o.q by omega), Bool.and_false]; rfl
    have e1 : 0 <= x := not_lt.mp fun z => c (Vw z)
    have e2 : x <= o.q := not_lt.mp fun z => c2 (Vw z)
    kd_p
    refine bX (fun c3 => ?_) fun c3 => oO ?_
    . kd_p
      refine bX (fun c4 => ?_) fun c4 => ?_
      . kd_p
        refine bX (fun c5 => oR (Bj (Fi ?_))) fun c5 => fin ?_
        . have z1 := Vn c4
          have z2 := Vn c5
          unfold tJ
          rw [c3, (beq_eq_false_iff_ne).mpr (show x ≠ 0 by omega), (beq_eq_false_iff_ne).mpr (show x ≠ o.q by omega)]
          simp
        . have z2 : ¬ x < o.q := fun z => c5 (Vw z)
          unfold tJ
          rw [Vw e1, Vw e2, show (x == o.q) = true from beq_iff_eq.mpr (by omega)]
          simp
      . kd_p
        refine oO (fin ?_)
        have z2 : ¬ 0 < x := fun z => c4 (Vw z)
        unfold tJ
        rw [Vw e1, Vw e2, show (x == 0) = true from beq_iff_eq.mpr (by omega)]
        simp
    . kd_p
      refine fin ?_
      unfold tJ
      rw [Vw e1, Vw e2, VZ c3]
      simp
  . rintro σ' H' ⟨kp, dF, x2, x3, rfl⟩
    kd_p
    have z : r6 os xs = true := all_eq_true.mpr fun i hi => dF i (by simpa using hi)
    rw [<- z]
    exact k H' kp
end
section
variable {K : FG} {CO TB : Addr}
abbrev lC (i : Nat) : V := .int (i : Nat)
def dh (K : FG) (CO TB : Addr) : Sp := fun vs H Q _ => ∃ (lo : Addr) (ad : Nat -> Addr) (os : List Offer), vs = [.ref lo] /\ d6 K CO H lo ad os /\ OsB os /\ Tab H TB /\ ∀ H' a, Kp H H' -> H' a = some (.lst ((bo os).map lC)) -> Q (.ref a) H'
theorem KpX.tabs (k : Kp H H') (t : Tab H P) : Tab H' P := k.tab P t
theorem m8 (R : Rec K CO cf) (h : dh K CO TB vs H Q E) : dg K TB (ends Q) (start dD vs) H := by
  obtain ⟨lo, ad, os, rfl, ho, hb, hT, k⟩ := h
  have hs := ho.sq
  have few := hb.few
  unfold dg
  kd_p
  refine ji (Eu hs) ?_ (fun i => !(oAt os i).whole) lC (fun i H' Ky Kf hi kp hy hf => ?_) fun D H' kp hD e => ?_
  . simp only [Vg, Vk]; rw [Vr]; omega
  . simp only [Vg, Vk] at hi
    have h1 := kp.recAt (ho.at_ i (by omega))
    rw [aZ _ (by omega)]
    kd_p
    refine bX (fun c => ?_) fun c => ?_
    . kd_p
      exact hy c H' (Kp.refl _)
    . exact hf (VZ c) H' (Kp.refl _)
  . simp only [Vg, Vk] at e
    kd_p
    refine G6 ?_
    kd_p
    have e' : H' D = some (.lst ((Ae os).map lC)) := e
    have wO := kp.cy ho
    refine ⟨D, _, rfl, SqL.of e', Bk (Ae os) (DJ os) (fun p => (oAt os p).price) rfl ?_ (kp.tabs hT) ?_ ?_⟩
    . have := Wf (fun p => !(oAt os p).whole) (range os.length)
      rw [Vk] at this
      show ((range os.length).filter _).length <= 1000
      omega
    . intro i hi H2 Ky k2 hy
      have hi := (uq.mp hi).1
      have h1 := (kp.trans k2).recAt (ho.at_ i hi)
      have h2 := (kp.trans k2).bI hs
      kd_p
      refine bj h2 (aZ _ hi) ?_
      kd_p
      refine ⟨by show 2 <= sizeLine; decide, fun p hp => hy p _ (Kp.new hp) aA⟩
    . intro H3 D' k3 _ e3
      exact k H3 D' (kp.trans k3) e3
def LB (pa : Addr) (os : List Offer) (ch : List Nat) : List (Str × V) := [("positions", .ref pa), ("amount", .int (bQ os ch)), ("cost", .int (ka os ch))]
abbrev v5 : List Str := ["positions", "amount", "cost"]
def j4 (K : FG) (CC : Addr) (os : List Offer) (H : Hp) (a : Addr) (ch : List Nat) : Prop := ∃ pa, RecAt CC H a (LB pa os ch) /\ SqT K H pa (ch.map lC)
theorem KpX.cho {F : List Addr} {os : List Offer} {ch : List Nat} (k : Kp H H') (h : j4 K CC os H a ch) : j4 K CC os H' a ch := let ⟨pa, h1, h2⟩ := h; ⟨pa, k.recAt h1, k.tw h2⟩
abbrev nP (CC : Addr) : Sp := yx CC 3 fun as => [("positions", as.getD 0 .non), ("amount", as.getD 1 .non), ("cost", as.getD 2 .non)]
def jG (K : FG) (CO CC : Addr) : Sp := fun vs H Q _ => ∃ (ac ao : Addr) (os : List Offer) (ch : List Nat) (p : Nat), vs = [.ref ac, lC p, .ref ao] /\ j4 K CC os H ac ch /\ RecAt CO H ao (zA (oAt os p)) /\ OfB (oAt os p) /\ ch.length <= 1000 /\
  ∀ H' a, Kp H H' -> j4 K CC os H' a (ch ++ [p]) -> Q (.ref a) H'
theorem Dg (os : List Offer) (ch : List Nat) (p : Nat) : bQ os (ch ++ [p]) = bQ os ch + (oAt os p).q := by simp [bQ]
theorem Bv (os : List Offer) (ch : List Nat) (p : Nat) : ka os (ch ++ [p]) = ka os ch + (oAt os p).q * (oAt os p).price := by simp [ka]
theorem xn (R : Rec K CO cf) (R2 : Rec K CC v5) (h : jG K CO CC vs H Q E) : jm K CC (nP CC) (ends Q) (start kJ vs) H := by
  obtain ⟨ac, ao, os, ch, p, rfl, ⟨pa, hc, hp⟩, ho, hb, hl, k⟩ := h
  unfold jm
  kd_p
  refine kG ⟨by have := hb.q0; omega, by have := hb.q1; omega⟩ ?_
  kd_p
  refine ⟨by show 1 <= sizeLine; decide, fun b hb => ?_⟩
  have kb := Kp.new (H := H) (o := .tup [lC p]) hb
  have B7 := kb.recAt hc
  have wO := kb.recAt ho
  have ef : ∀ b, LB b os (ch ++ [p]) = ([("positions", .ref b), ("amount", .int (bQ os ch + (oAt os p).q)), ("cost", .int (ka os ch + (oAt os p).q * (oAt os p).price))] : List (Str × V)) := by
    intro b
    unfold LB
    rw [Dg, Bv]
  refine ⟨pa, b, ch.map lC, [lC p], rfl, rfl, kb.tw hp, SqT.of aA, by simp, by rw [Vr]; simp; omega, fun e => ?_, fun e c hc => ?_⟩
  . have ec : ch = [] := List.map_eq_nil_iff.mp e
    kd_p
    refine oT rfl fun x H2 _ hx kx => k H2 x (kb.trans kx) ⟨b, by rw [ef]; exact hx, kx.tw (SqT.of (by rw [aA, ec]; rfl))⟩
  . have kc := Kp.new (o := .tup (ch.map lC ++ [lC p])) hc
    have wJ := kc.recAt B7
    have Ea := kc.recAt wO
    kd_p
    refine oT rfl fun x H2 _ hx kx => k H2 x ((kb.trans kc).trans kx) ⟨c, by rw [ef]; exact hx, kx.tw (SqT.of (by rw [aA, map_append]; rfl))⟩
end
section
variable {K : FG} {CO TB CC : Addr}
structure zB (K : FG) (CC : Addr) (os : List Offer) (H : Hp) (l : Addr) (ad : Nat -> Addr) (cs : List (List Nat)) : Prop where
  li : H l = some (.lst ((range cs.length).map fun i => V.ref (ad i)))
  at_ : ∀ i, i < cs.length -> j4 K CC os H (ad i) (cs.getD i [])
theorem KpX.LC {os : List Offer} {ad : Nat -> Addr} {cs : List (List Nat)} (k : Kp H H') (h : zB K CC os H l ad cs) : zB K CC os H' l ad cs := ⟨k.get h.li, fun i hi => KpX.cho (F := []) k (h.at_ i hi)⟩
theorem j4.mono {os : List Offer} {D : Addr} {ch : List Nat} (k : KpX [D] H H') (e : H D = some (.lst acc)) (h : j4 K CC os H a ch) : j4 K CC os H' a ch := by
  obtain ⟨pa, ⟨dx, h1⟩, h2⟩ := h
  have hn : ∀ {b : Addr} {o : HO}, H b = some o -> (∀ ys, o ≠ .lst ys) -> b ∉ [D] := fun {b o} eb ne => by
    have : b ≠ D := by rintro rfl; rw [e] at eb; exact ne _ (Option.some.inj eb).symm
    simpa using this
  refine ⟨pa, ⟨dx, k.get h1 rfl (hn h1 fun _ z => by cases z)⟩, ?_⟩
  rcases h2 with (h2 | ⟨o, h2⟩) | h2
  . exact .inl (.inl (k.get h2 rfl (hn h2 fun _ z => by cases z)))
  . exact .inl (.inr ⟨o, k.get h2 rfl (hn h2 fun _ z => by cases z)⟩)
  . exact .inr h2
def whN (os : List Offer) (i : Nat) : Nat := ((range i).filter fun p => (oAt os p).whole).length
theorem dw (os : List Offer) (i : Nat) : aS os (range (i + 1)) [[]] = if (oAt os i).whole = true then aS os (range i) [[]] ++ (aS os (range i) [[]]).map (fun c => c ++ [i]) else aS os (range i) [[]] := by
  unfold aS
  rw [range_succ, List.foldl_append]; rfl
theorem m9 (os : List Offer) : ∀ i, (aS os (range i) [[]]).length = 2 ^ whN os i
  | 0 => rfl
  | i + 1 => by
    rw [dw]
    unfold whN
    rw [range_succ, filter_append, VB]
    have ih := m9 os i
    unfold whN at ih
    by_cases h : (oAt os i).whole = true
    . rw [Vj h, VB, Vg, ih]
      simp [h, Nat.pow_succ]; omega
    . rw [Vh h, ih]
      simp [h]
theorem Hf (os : List Offer) {i : Nat} (h : i <= os.length) : whN os i <= (oG os).length := by
  unfold whN oG
  have : (range i).Sublist (range os.length) := List.range_sublist.mpr h
  exact (this.filter _).length_le
theorem xo (os : List Offer) {i : Nat} : ∀ ch ∈ aS os (range i) [[]], ch.length <= i := by
  intro ch hm
  obtain ⟨c, r, hc, rfl, hs⟩ := gf.mp hm
  obtain rfl : c = [] := mem_singleton.mp hc
  have := hs.length_le
  have h2 := Wf (fun p => (oAt os p).whole) (range i)
  rw [Vk] at h2
  simp only [List.nil_append]
  omega
def fB (K : FG) (CO CC : Addr) : Sp := fun vs H Q _ => ∃ (lo : Addr) (ad : Nat -> Addr) (os : List Offer), vs = [.ref lo] /\ d6 K CO H lo ad os /\ OsB os /\ (oG os).length <= 8 /\ ∀ H' l ac, Kp H H' -> zB K CC os H' l ac (aO os) -> Q (.ref l) H'
theorem pB {α : Type} {a b : List α} {d : α} {i : Nat} (h : i < a.length) : (a ++ b).getD i d = a.getD i d := by simp [List.getD, List.getElem?_append_left h]
theorem pC {α : Type} {a b : List α} {d : α} {i : Nat} (h : a.length <= i) : (a ++ b).getD i d = b.getD (i - a.length) d := by simp [List.getD, List.getElem?_append_right h]
theorem getD_map {α β : Type} {a : List α} {f : α -> β} {d : α} {e : β} {i : Nat} (h : i < a.length) : (a.map f).getD i e = f (a.getD i d) := by simp [List.getD, Vt, Vl h]
theorem getD_mem {α : Type} {a : List α} {d : α} {i : Nat} (h : i < a.length) : a.getD i d ∈ a := by simp [List.getD, Vl h]
theorem r9 (R : Rec K CO cf) (h : fB K CO CC vs H Q E) : ft K CC (nP CC) (jG K CO CC) (ends Q) (start gk vs) H := by
  obtain ⟨lo, ad, os, rfl, ho, hb, h8, k⟩ := h
  have hs := ho.sq
  have few := hb.few
  unfold ft
  kd_p
  refine ⟨VF _, fun t ht => ?_⟩
  kd_p
  refine oT rfl fun x H2 _ hx kx => ?_
  kd_p
  refine ⟨by show 1 <= sizeLine; decide, fun l hl => ?_⟩
  have k0 := ((Kp.new (o := .tup []) ht).trans kx).trans (Kp.new (o := .lst [.ref x]) hl)
  have TX := k0.bI hs
  kd_p
  refine vz (Eu TX) (fun i σ H' => Kp H H' /\ Kp (upd H2 l (.lst [.ref x])) H' /\ ∃ l' ac x2 x3 x4, σ = [some (.ref lo), some (.ref l'), x2, x3, x4] /\ zB K CC os H' l' ac (aS os (range i) [[]])) ⟨k0, Kp.refl _, l, fun _ => x, none, none, none, rfl, aA, fun i hi => ?_⟩ (fun i σ' H' p => p.2.1) ?_ ?_
  . obtain rfl : i = 0 := by
      have : i < 1 := hi
      omega
    have kl := Kp.new (o := .lst [.ref x]) hl
    exact ⟨t, kl.recAt hx, kl.tw (kx.tw (SqT.of aA))⟩
  . rintro i σ' H' H3 hi ⟨kp, Mq, l', ac, x2, x3, x4, rfl, hc⟩ k3
    simp only [Vg, Vk] at hi
    have h1 := (kp.trans k3).recAt (ho.at_ i hi)
    have Ms := k3.LC hc
    rw [aZ _ hi]
    have cl := m9 os i
    have cl2 : 2 ^ whN os i <= 2 ^ 8 := Nat.pow_le_pow_right (by omega) (VH (Hf os (le_of_lt hi)) h8)
    kd_p
    refine bX (fun c => ?_) fun c => ?_
    . kd_p
      refine yz (SqL.of Ms.li) ?_
      refine zk (bx (SqL.of Ms.li)) ?_ (fun j a H4 => j4 K CC os H4 a ((aS os (range i) [[]]).getD j [] ++ [i])) (fun j a Ha Hb D acc kk e _ r => r.mono kk e) (fun j H4 Ky hj k4 hy => ?_) fun D H4 RY k4 hD hd hr => ?_
      . simp only [Vg, Vk]; rw [Vr]; omega
      . simp only [Vg, Vk] at hj
        rw [aZ _ hj]
        kd_p
        exact ⟨ac j, ad i, os, _, i, rfl, KpX.cho (F := []) k4 (Ms.at_ j hj), k4.recAt h1, hb.bd i hi, by have := xo os _ (getD_mem (d := []) hj); omega, fun H5 a k5 RZ => hy a H5 k5 RZ⟩
      . simp only [Vg, Vk] at hd hr
        refine ⟨l', D, _, _, rfl, rfl, k4.get Ms.li, hd, by simp only [Vg, Vk]; rw [Vr]; omega, fun p hp => ?_⟩
        have Fz := Kp.new (o := .lst ((range (aS os (range i) [[]]).length).map (fun i => V.ref (ac i)) ++ (range (aS os (range i) [[]]).length).map fun i => V.ref (RY i))) hp
        kd_p
        refine ⟨((kp.trans k3).trans k4).trans Fz, ((Mq.trans k3).trans k4).trans Fz, p, fun j => if j < (aS os (range i) [[]]).length then ac j else RY (j - (aS os (range i) [[]]).length), _, _, _, rfl, ?_, ?_⟩
        . rw [aA, dw, Vj c, VB, Vg]
          congr 2
          apply V0
          intro j
          by_cases hj : j < (aS os (range i) [[]]).length
          . rw [List.getElem?_append_left (by simpa using hj), aZ _ hj, aZ _ (by omega), Vj hj]
          . rw [List.getElem?_append_right (by simpa using hj)]
            simp only [Vg, Vk]
            by_cases TY : j < (aS os (range i) [[]]).length + (aS os (range i) [[]]).length
            . rw [aZ _ (by omega), aZ _ TY, Vh hj]
            . rw [VL (by simp; omega), VL (by simp; omega)]
        . intro j hj
          rw [dw, Vj c] at hj ⊢
          rw [VB, Vg] at hj
          by_cases Jh : j < (aS os (range i) [[]]).length
          . rw [Vj Jh, pB Jh]
            exact KpX.cho (F := []) (k4.trans Fz) (Ms.at_ j Jh)
          . rw [Vh Jh, pC (by omega), getD_map (d := []) (by omega)]
            exact KpX.cho (F := []) Fz (hr _ (by omega))
    . refine eG ⟨kp.trans k3, Mq.trans k3, l', ac, _, _, _, rfl, ?_⟩
      rw [dw, Vh c]
      exact Ms
  . rintro σ' H' ⟨kp, Mq, l', ac, x2, x3, x4, rfl, hc⟩
    kd_p
    simp only [Vg, Vk] at hc
    exact k H' l' ac kp hc
end
section
variable {K : FG} {CO TB CC : Addr}
theorem zC {l : List Nat} {i p : Nat} (h : l[i]? = some p) : l.drop i = p :: l.drop (i + 1) := by
  have hi := (List.getElem?_eq_some_iff.mp h).1
  rw [V8 hi]
  rw [(List.getElem?_eq_some_iff.mp h).2]
def pD (K : FG) (CO CC : Addr) : Sp := fun vs H Q _ => ∃ (lo ll ac : Addr) (ad : Nat -> Addr) (os : List Offer) (ch : List Nat) (need : Int), vs = [.ref lo, .ref ll, .ref ac, .int need] /\ d6 K CO H lo ad os /\ OsB os /\ SqL K H ll ((bo os).map lC) /\ j4 K CC os H ac ch /\
  ∀ H' p, Kp H H' -> H' p = some (.tup [.int (lY os ch need).1, .int (lY os ch need).2]) -> Q (.ref p) H'
theorem Dh (R : Rec K CO cf) (R2 : Rec K CC v5) (h : pD K CO CC vs H Q E) : oW K (ends Q) (start rQ vs) H := by
  obtain ⟨lo, ll, ac, ad, os, ch, need, rfl, ho, hb, hl, ⟨pa, hc, hp⟩, k⟩ := h
  unfold oW
  have after : ∀ {H' : Hp} {c m : Int} {x6 x7 : Option V} {D : Ends}, Kp H H' -> D.rt = Q -> c = (lY os ch need).1 -> aX (yP (aj (ai 4) (aj (tCB Bh (aj (aI K (ai 2) "amount") (aj (ai 3) aE))) aE))) D [some (.ref lo), some (.ref ll), some (.ref ac), some (.int need), some (.int c), some (.int m), x6, x7] H' := by
    intro H' c m x6 x7 D kp hD Oo
    have B7 := kp.recAt hc
    kd_p
    rw [hD]
    refine ⟨by show 2 <= sizeLine; decide, fun p hp => k _ p (kp.trans (Kp.new hp)) ?_⟩
    rw [aA, Oo]
    rfl
  kd_p
  refine vz (bx hl) (fun i σ H' => Kp H H' /\ ∃ c m x6 x7, σ = [some (.ref lo), some (.ref ll), some (.ref ac), some (.int need), some (.int c), some (.int m), x6, x7] /\ eB os ((bo os).drop i) m c = (lY os ch need).1) ⟨Kp.refl _, _, _, none, none, rfl, rfl⟩ (fun i σ' H' p => p.1) ?_ ?_
  . rintro i σ' H' H2 hi ⟨kp, c, m, x6, x7, rfl, hr⟩ k2
    simp only [Vg] at hi
    obtain ⟨p, ep⟩ : ∃ p, (bo os)[i]? = some p := ⟨_, Vl hi⟩
    have hp := (bF.mp (VG ep)).1
    have h1 := (kp.trans k2).recAt (ho.at_ p hp)
    have h2 := (kp.trans k2).bI ho.sq
    have b := hb.bd p hp
    rw [zC ep] at hr
    rw [Vt, ep]
    kd_p
    refine bX (fun d => ?_) fun d => ?_
    . have d := Vn d
      refine vw ?_
      exact after (kp.trans k2) rfl (by rw [<- hr]; unfold eB; rw [Vj d])
    . have d : ¬ m <= 0 := fun z => d (Vw z)
      kd_p
      refine bj h2 (aZ _ hp) ?_
      kd_p
      refine kG ⟨by have := b.q0; omega, by have := b.q1; omega⟩ ?_
      kd_p
      refine ⟨kp.trans k2, _, _, _, _, rfl, ?_⟩
      rw [<- hr]
      conv => rhs; unfold eB
      rw [Vh d]
  . rintro σ' H' ⟨kp, c, m, x6, x7, rfl, hr⟩
    refine after kp rfl ?_
    simp only [Vg, drop_length] at hr
    exact hr
def jH (K : FG) (CO CC : Addr) : Sp := fun vs H Q _ => ∃ (lo ll ac : Addr) (ad : Nat -> Addr) (os : List Offer) (ch : List Nat) (need : Int), vs = [.ref lo, .ref ll, .ref ac, .int need] /\ d6 K CO H lo ad os /\ OsB os /\ SqL K H ll ((bo os).map lC) /\ j4 K CC os H ac ch /\ (∀ p ∈ ch, p < os.length) /\
  ∀ H' a, Kp H H' -> Nw H a -> H' a = some (.lst ((bw os ch need).map V.int)) -> Q (.ref a) H'
theorem xp (R : Rec K CO cf) (R2 : Rec K CC v5) (h : jH K CO CC vs H Q E) : jn K (ends Q) (start kK vs) H := by
  obtain ⟨lo, ll, ac, ad, os, ch, need, rfl, ho, hb, hl, ⟨pa, hc, hp⟩, Fu, k⟩ := h
  have few := hb.few
  have hs := ho.sq
  unfold jn
  kd_p
  refine cU (bx hs) ?_ (fun _ => .int 0) (fun i H' Ky hi kp hy => ?_) fun D H1 Bw hD e1 => ?_
  . simp only [Vg, Vk]; rw [Vr]; omega
  . kd_p
    exact hy H' (Kp.refl _)
  . simp only [Vg, Vk] at e1
    have e1 : H1 D = some (.lst ((os.map fun _ => (0 : Int)).map V.int)) := by
      rw [e1]
      congr 2
      rw [eI]
      congr 1
      apply V0
      intro i
      by_cases hi : i < os.length
      . rw [aZ _ hi, uw hi]
      . rw [VL (by simpa using hi), VL (by simpa using hi)]
    have TZ := Bw.recAt hc
    have hp1 := Bw.tw hp
    kd_p
    refine jj (K3 (K := K) (a := pa) (xs := ch.map lC)) (fun i σ H' => Kp H H' /\ H' D = some (.lst ((putAll os (ch.take i) (os.map fun _ => 0)).map V.int)) /\ ∃ x5 x6 x7, σ = [some (.ref lo), some (.ref ll), some (.ref ac), some (.int need), some (.ref D), x5, x6, x7]) ⟨Bw, e1, _, _, _, rfl⟩ (fun i σ' H' p => p.1.tw hp) ?_ ?_
    . rintro i σ' H' H2 hi ⟨kp, hd, x5, x6, x7, rfl⟩ k2
      simp only [Vg] at hi
      obtain ⟨p, ep⟩ : ∃ p, ch[i]? = some p := ⟨_, Vl hi⟩
      have iH := Fu p (VG ep)
      have h1 := (kp.trans k2).recAt (ho.at_ p iH)
      have h2 := (kp.trans k2).bI hs
      have hd2 := k2.get hd
      rw [Vt, ep]
      kd_p
      refine bj h2 (aZ _ iH) ?_
      kd_p
      refine qt hd2 (by rw [Vg, dE]; simpa using iH) ?_
      refine ⟨(kp.trans k2).over hD hd2 rfl, ?_, _, _, _, rfl⟩
      rw [aA, take_add_one, ep]
      unfold putAll
      rw [List.foldl_append]
      show _ = some (HO.lst ((List.set _ p (oAt os p).q).map V.int))
      rw [map_set]
    . rintro σ' H' ⟨kp, hd, x5, x6, x7, rfl⟩
      simp only [Vg, take_length] at hd
      have wJ := kp.recAt hc
      have yW := kp.bI hl
      have after : ∀ {H2 : Hp} {a : List Int} {m : Int} {x5 x6 : Option V} {De : Ends}, Kp H H2 -> De.rt = Q -> H2 D = some (.lst (a.map V.int)) -> a = bw os ch need -> aX (ai 4) De [some (.ref lo), some (.ref ll), some (.ref ac), some (.int need), some (.ref D), x5, x6, some (.int m)] H2 := by
        intro H2 a m x5 x6 De kp Mt hd ha
        kd_p
        rw [Mt]
        exact k H2 D kp (.of hD) (by rw [hd, ha])
      kd_p
      refine jj (kC (K := K) (a := ll) (xs := (bo os).map lC)) (fun i σ H' => Kp H H' /\ ∃ a m x5 x6, H' D = some (.lst (a.map V.int)) /\ a.length = os.length /\ σ = [some (.ref lo), some (.ref ll), some (.ref ac), some (.int need), some (.ref D), x5, x6, some (.int m)] /\ fE os ((bo os).drop i) m a = bw os ch need) ⟨kp, _, _, _, _, hd, by rw [dE]; simp, rfl, rfl⟩ (fun i σ' H' p => p.1.bI hl) ?_ ?_
      . rintro i σ' H' H2 hi ⟨kp, a, m, x5, x6, hd, hal, rfl, hr⟩ k2
        simp only [Vg] at hi
        obtain ⟨p, ep⟩ : ∃ p, (bo os)[i]? = some p := ⟨_, Vl hi⟩
        have iH := (bF.mp (VG ep)).1
        have h1 := (kp.trans k2).recAt (ho.at_ p iH)
        have h2 := (kp.trans k2).bI hs
        have hd2 := k2.get hd
        rw [zC ep] at hr
        rw [Vt, ep]
        kd_p
        refine bX (fun d => ?_) fun d => ?_
        . have d := Vn d
          refine vw ?_
          exact after (kp.trans k2) rfl hd2 (by rw [<- hr]; unfold fE; rw [Vj d])
        . have d : ¬ m <= 0 := fun z => d (Vw z)
          kd_p
          refine bj h2 (aZ _ iH) ?_
          kd_p
          refine qt hd2 (by rw [Vg]; omega) ?_
          kd_p
          refine bj (SqL.of aA) (i := p) (v := .int (min m (oAt os p).q)) (by rw [Wh (by rw [Vg]; omega)]) ?_
          kd_p
          refine ⟨(kp.trans k2).over hD hd2 rfl, a.set p (min m (oAt os p).q), _, _, _, ?_, by rw [length_set]; exact hal, rfl, ?_⟩
          . rw [aA, map_set]
          . rw [<- hr]
            conv => rhs; unfold fE
            rw [Vh d]
      . rintro σ' H' ⟨kp, a, m, x5, x6, hd, hal, rfl, hr⟩
        refine after kp rfl hd ?_
        simp only [Vg, drop_length] at hr
        exact hr
end
open Vbemah (bought)
theorem sh {α β : Type} {R : α -> β -> Prop} (f : Nat -> α) (g : Nat -> β) : ∀ l : List Nat, (∀ i ∈ l, R (f i) (g i)) -> Paired R (l.map f) (l.map g)
  | [], _ => .nil
  | i :: l, h => .cons (h i Vv) (sh f g l fun j hj => h j (Vs _ hj))
theorem Hg (a b c d : Int) : HT.lexLt [a, b] [c, d] = uA (a, b) (c, d) := by
  rw [HT.dY, HT.dY]
  unfold uA
  by_cases h1 : a = c
  . subst h1
    simp [HT.lexLt]
    by_cases h2 : b = d
    . subst h2; simp
    . simp [h2]
  . simp [h1]
theorem v7 : ∀ (x y : List Int), x.length = y.length -> Vbemah.lexLess x y = HT.lexLt x y
  | [], [], _ => rfl
  | [], _ :: _, h => by cases h
  | _ :: _, [], h => by cases h
  | a :: x, b :: y, h => by
    rw [HT.dY]
    unfold Vbemah.lexLess
    have ih := v7 x y (by simpa using h)
    by_cases h1 : a = b
    . subst h1; simp [ih]
    . simp [h1]
section
variable {K : FG} {H : Hp} {Q : VK}
theorem QA (a b c d : Int) : PyData.eqv (.tuple [.int a, .int b]) (.tuple [.int c, .int d]) = (decide (a = c) && decide (b = d)) := by
  simp [PyData.eqv, PyData.eqvAll, Bool.beq_eq_decide_eq]
theorem LD {a b c d : Int} (h1 : SqT K H p [.int a, .int b]) (h2 : SqT K H q [.int c, .int d]) (k : Q (.bl (decide (a = c) && decide (b = d))) H) : KN K (.ref p) (.ref q) H Q :=
  ⟨.tuple [.int a, .int b], .tuple [.int c, .int d], .tup h1 (.cons (.int _) (.cons (.int _) .nil)), .tup h2 (.cons (.int _) (.cons (.int _) .nil)), rfl, rfl, by rw [QA]; exact k⟩
end
section
variable {K : FG} {CO TB CC : Addr}
theorem v8 {sel : Nat -> Bool} {n j i : Nat} (h : (cQ sel n)[j]? = some i) : i < n /\ sel i = true := by
  have := VG h
  unfold cQ at this
  obtain ⟨h1, h2⟩ := mem_filter.mp this
  exact ⟨mem_range.mp h1, h2⟩
theorem nQ {sel : Nat -> Bool} {n i : Nat} (h : i < n) (hs : sel i = true) : i ∈ cQ sel n := mem_filter.mpr ⟨mem_range.mpr h, hs⟩
def nc (K : FG) (CO TB : Addr) : Sp := fun vs H Q _ => ∃ (lo : Addr) (ad : Nat -> Addr) (os : List Offer) (need : Int), vs = [.ref lo, .int need] /\ d6 K CO H lo ad os /\ OsB os /\ iG os /\ (oG os).length <= 8 /\ Tab H TB /\
  ∀ H' a, Kp H H' -> Nw H a -> H' a = some (.lst ((bought os need).map V.int)) -> Q (.ref a) H'
theorem Bx (R : Rec K CO cf) (R2 : Rec K CC v5) (h : nc K CO TB vs H Q E) :
    mE K (nO K) (dh K CO TB) (fB K CO CC) (pD K CO CC) (jH K CO CC) (ends Q) (start oV vs) H := by
  obtain ⟨lo, ad, os, need, rfl, ho, hb, hok, h8, hT, k⟩ := h
  have few := hb.few
  have hs := ho.sq
  unfold mE
  kd_p
  refine cU (bx hs) ?_ (fun i => .int (oAt os i).q) (fun i H' Ky hi kp hy => ?_) fun D1 H1 Bw Mp e1 => ?_
  . simp only [Vg, Vk]; rw [Vr]; omega
  . simp only [Vg, Vk] at hi
    have h1 := kp.recAt (ho.at_ i hi)
    rw [aZ _ hi]
    kd_p
    exact hy H' (Kp.refl _)
  simp only [Vg, Vk] at e1
  have e1 : H1 D1 = some (.lst ((os.map fun o => o.q).map V.int)) := by
    rw [e1, eI]
    congr 3
    conv => rhs; rw [<- pQ os]
    rw [Vz]
    rfl
  kd_p
  refine ⟨D1, _, need, rfl, SqL.of e1, ?_⟩
  kd_p
  refine bX (fun c => ?_) fun c => ?_
  . kd_p
    have c : ¬ need <= (os.map fun o => o.q).sum := by simpa using c
    refine k H1 D1 Bw (.of Mp) ?_
    rw [e1, Ah hok (by omega)]
  have c : need <= (os.map fun o => o.q).sum := by simpa using c
  kd_p
  refine ⟨lo, ad, os, rfl, Bw.cy ho, hb, Bw.tabs hT, fun H2 ll T4 el => ?_⟩
  have z8 := Bw.trans T4
  have sl := SqL.of (K := K) el
  have T5 : ∀ {j p}, (bo os)[j]? = some p -> p < os.length := fun e => (bF.mp (VG e)).1
  have lenL : (bo os).length <= os.length := by
    have := (cu (fun p => (oAt os p).price) (Ae os)).length_eq
    have h2 := Wf (fun p => !(oAt os p).whole) (range os.length)
    rw [Vk] at h2
    show (iJ _ _).length <= _
    rw [this]
    exact h2
  kd_p
  refine cU (bx sl) ?_ (fun j => .int (oAt os ((bo os).getD j 0)).q) (fun j H' Ky hj kp hy => ?_) fun D3 H3 R0 T6 e3 => ?_
  . simp only [Vg]; rw [Vr]; omega
  . simp only [Vg] at hj
    obtain ⟨p, ep⟩ : ∃ p, (bo os)[j]? = some p := ⟨_, Vl hj⟩
    have hp := T5 ep
    have h1 := (z8.trans kp).recAt (ho.at_ p hp)
    have h2 := (z8.trans kp).bI hs
    have eg : (bo os).getD j 0 = p := by simp [List.getD, ep]
    rw [Vt, ep]
    rw [eg] at hy
    kd_p
    refine bj h2 (aZ _ hp) ?_
    kd_p
    exact hy H' (Kp.refl _)
  simp only [Vg] at e3
  have e3 : H3 D3 = some (.lst (((bo os).map fun p => (oAt os p).q).map V.int)) := by
    rw [e3, eI]
    congr 3
    conv => rhs; rw [<- cc (bo os) 0, Vz]
    rfl
  have HJ := z8.trans R0
  kd_p
  refine ⟨D3, _, rfl, SqL.of e3, ?_⟩
  kd_p
  refine ⟨lo, ad, os, rfl, HJ.cy ho, hb, h8, fun H4 lc ac R1 hc => ?_⟩
  have Ny := HJ.trans R1
  have lenC : (aO os).length <= 256 := by
    show (aS os (range os.length) [[]]).length <= 256
    rw [m9]
    have := Nat.pow_le_pow_right (n := 2) (by omega) (VH (Hf os (Vq _)) h8)
    omega
  refine yz (SqL.of hc.li) ?_
  refine ji (bx (SqL.of hc.li)) ?_ (fun i => decide (need <= bQ os ((aO os).getD i []) + ck os)) (fun i => .ref (ac i)) (fun i H' Ky Kf hi kp hy hf => ?_) fun D5 H5 QB T7 e5 => ?_
  . simp only [Vg, Vk]; rw [Vr]; omega
  . simp only [Vg, Vk] at hi
    obtain ⟨pa, RZ, hpa⟩ := KpX.cho (F := []) kp (hc.at_ i hi)
    rw [aZ _ hi]
    kd_p
    refine bX (fun d => ?_) fun d => hf (VZ d) H' (Kp.refl _)
    kd_p
    exact hy d H' (Kp.refl _)
  simp only [Vg, Vk] at e5
  have Fz := Ny.trans QB
  have R4 := QB.LC hc
  generalize hS : cQ (fun i => decide (need <= bQ os ((aO os).getD i []) + ck os)) (aO os).length = S at e5
  have OI : ∀ {j i}, S[j]? = some i -> i < (aO os).length /\ need <= bQ os ((aO os).getD i []) + ck os := fun {j i} e => by
    rw [<- hS] at e
    obtain ⟨h1, h2⟩ := v8 e
    exact ⟨h1, Vn h2⟩
  have Nz : ∀ {i}, i < (aO os).length -> need <= bQ os ((aO os).getD i []) + ck os -> i ∈ S := fun {i} h1 h2 => by rw [<- hS]; exact nQ h1 (Vw h2)
  have lenS : S.length <= 256 := by
    have := jU (fun i => decide (need <= bQ os ((aO os).getD i []) + ck os)) (aO os).length
    rw [hS] at this
    omega
  let cho : Nat -> List Nat := fun j => (aO os).getD (S.getD j 0) []
  let rk : Nat -> Int × Int := fun j => lY os (cho j) need
  have sg : ∀ {j i}, S[j]? = some i -> S.getD j 0 = i := fun {j i} e => by simp [List.getD, e]
  have OJ := SqL.of (K := K) e5
  have NA := (R0.trans (R1.trans QB)).bI sl
  kd_p
  refine zk (bx OJ) ?_ (fun j a H' => H' a = some (.tup [.int (rk j).1, .int (rk j).2])) (fun j a Ha Hb D acc kk e _ r => kk.get r rfl ?_) (fun j H' Ky hj kp hy => ?_) fun D6 H6 ar OL hD6 e6 OM => ?_
  . simp only [Vg]; rw [Vr]; omega
  . have : a ≠ D := by rintro rfl; rw [e] at r; cases r
    simpa using this
  . simp only [Vg] at hj
    obtain ⟨i, ei⟩ : ∃ i, S[j]? = some i := ⟨_, Vl hj⟩
    rw [Vt, ei]
    kd_p
    refine ⟨lo, ll, ac i, ad, os, cho j, need, rfl, (Fz.trans kp).cy ho, hb, kp.bI NA, ?_, fun H7 p k7 ep => hy p H7 k7 ep⟩
    show j4 K CC os H' (ac i) ((aO os).getD (S.getD j 0) [])
    rw [sg ei]
    exact KpX.cho (F := []) kp (R4.at_ i (OI ei).1)
  simp only [Vg] at e6 OM
  have NB := Fz.trans OL
  have S0 : 0 < S.length := by
    have hm := FH os
    obtain ⟨i, hi, e⟩ := getElem_of_mem hm
    have : i ∈ S := Nz hi (by
      have e' : (aO os).getD i [] = oG os := by simp [List.getD, Vl hi, e]
      rw [e', <- Ag]
      exact c)
    exact List.length_pos_of_mem this
  kd_p
  refine ⟨D6, (range S.length).map ar, (range S.length).map fun j => [(rk j).1, (rk j).2], rfl, SqL.of (by rw [e6, Vz]; rfl), sh _ _ _ fun j hj => SqT.of (OM j (mem_range.mp hj)), by simpa using S0, fun m p km em ek LF => ?_⟩
  have hm : m < S.length := by
    have := (List.getElem?_eq_some_iff.mp em).1
    simpa using this
  rw [aZ _ hm] at em ek
  obtain rfl := Option.some.inj em
  obtain rfl := Option.some.inj ek
  have NC : ∀ j, j < S.length -> uA (rk j) (rk m) = false := fun j hj => by
    have := LF [(rk j).1, (rk j).2] (mem_map.mpr ⟨j, mem_range.mpr hj, rfl⟩)
    rw [Hg] at this
    exact this
  have ON := OL.bI OJ
  have T8 := SqL.of (K := K) e6
  have tm := SqT.of (K := K) (OM m hm)
  kd_p
  refine ji (nB ON T8) ?_ (fun j => decide ((rk j).1 = (rk m).1) && decide ((rk j).2 = (rk m).2)) (fun j => .ref (ac (S.getD j 0))) (fun j H' Ky Kf hj kp hy hf => ?_) fun D7 H7 QC hD7 e7 => ?_
  . simp only [Vg, Vk]; rw [Vr]; omega
  . simp only [Vg, Vk] at hj
    have hj : j < S.length := by omega
    obtain ⟨i, ei⟩ : ∃ i, S[j]? = some i := ⟨_, Vl hj⟩
    rw [sg ei] at hy
    rw [Vt, ei, aZ _ hj]
    kd_p
    refine LD (kp.tw (SqT.of (OM j hj))) (kp.tw tm) ?_
    kd_p
    refine bX (fun d => ?_) fun d => hf (VZ d) H' (Kp.refl _)
    kd_p
    exact hy d H' (Kp.refl _)
  simp only [Vg, Vk, min_self] at e7
  have QD := NB.trans QC
  have T9 := (OL.trans QC).LC R4
  have QE := (OL.trans QC).bI NA
  generalize QF : cQ (fun j => decide ((rk j).1 = (rk m).1) && decide ((rk j).2 = (rk m).2)) S.length = T at e7
  have R5 : ∀ {t j}, T[t]? = some j -> j < S.length /\ rk j = rk m := fun {t j} e => by
    rw [<- QF] at e
    obtain ⟨h1, h2⟩ := v8 e
    simp only [VV, decide_eq_true_eq] at h2
    exact ⟨h1, Prod.ext h2.1 h2.2⟩
  have ND : ∀ {j}, j < S.length -> rk j = rk m -> j ∈ T := fun {j} h1 h2 => by rw [<- QF]; exact nQ h1 (by simp [h2])
  have lenT : T.length <= 256 := by
    have := jU (fun j => decide ((rk j).1 = (rk m).1) && decide ((rk j).2 = (rk m).2)) S.length
    rw [QF] at this
    omega
  have T0 : 0 < T.length := List.length_pos_of_mem (ND hm rfl)
  have tg : ∀ {t j}, T[t]? = some j -> T.getD t 0 = j := fun {t j} e => by simp [List.getD, e]
  let am : Nat -> List Int := fun t => bw os (cho (T.getD t 0)) need
  have R6 : ∀ {j}, j < S.length -> cho j ∈ aO os := fun {j} hj => by
    obtain ⟨i, ei⟩ : ∃ i, S[j]? = some i := ⟨_, Vl hj⟩
    show (aO os).getD (S.getD j 0) [] ∈ _
    rw [sg ei]
    exact getD_mem (OI ei).1
  have Ua := SqL.of (K := K) e7
  kd_p
  refine G5 (bx Ua) ?_ (fun t a H' => H' a = some (.lst ((am t).map V.int)) /\ Nw H7 a) (fun t a Ha Hb D acc kk e ne r => ⟨kk.get r.1 rfl (by simpa using ne), r.2⟩) (fun t H' Ky ht kp hy => ?_) fun D8 H8 aa Ub R7 e8 OO => ?_
  . simp only [Vg]; rw [Vr]; omega
  . simp only [Vg] at ht
    obtain ⟨j, ej⟩ : ∃ j, T[t]? = some j := ⟨_, Vl ht⟩
    obtain ⟨hj, _⟩ := R5 ej
    obtain ⟨i, ei⟩ : ∃ i, S[j]? = some i := ⟨_, Vl hj⟩
    rw [Vt, ej]
    kd_p
    rw [sg ei]
    refine ⟨lo, ll, ac i, ad, os, cho (T.getD t 0), need, rfl, (QD.trans kp).cy ho, hb, kp.bI QE, ?_, ?_, fun H9 a k9 ha ea => hy a H9 k9 ha ⟨ea, kp.nw ha⟩⟩
    . rw [tg ej]
      show j4 K CC os H' (ac i) ((aO os).getD (S.getD j 0) [])
      rw [sg ei]
      exact KpX.cho (F := []) kp (T9.at_ i (OI ei).1)
    . rw [tg ej]
      exact fun p hp => (uv (R6 hj) p hp).1
  simp only [Vg] at e8 OO
  kd_p
  refine ⟨D8, (range T.length).map aa, (range T.length).map am, rfl, SqL.of (by rw [e8, Vz]; rfl), sh _ _ _ fun t ht => SqL.of (OO t (mem_range.mp ht)).1, by simpa using T0, fun z p km em ek J8 => ?_⟩
  have hz : z < T.length := by
    have := (List.getElem?_eq_some_iff.mp em).1
    simpa using this
  rw [aZ _ hz] at em ek
  obtain rfl := Option.some.inj em
  obtain rfl := Option.some.inj ek
  obtain ⟨j, ej⟩ : ∃ j, T[z]? = some j := ⟨_, Vl hz⟩
  obtain ⟨hj, Uc⟩ := R5 ej
  obtain ⟨i, ei⟩ : ∃ i, S[j]? = some i := ⟨_, Vl hj⟩
  have find : ∀ {ch}, ch ∈ aO os -> need <= bQ os ch + ck os -> ∃ j, j < S.length /\ cho j = ch := fun {ch} hm hn => by
    obtain ⟨i, hi, e⟩ := getElem_of_mem hm
    have e' : (aO os).getD i [] = ch := by simp [List.getD, Vl hi, e]
    have Ud := Nz hi (by rw [e']; exact hn)
    obtain ⟨j, hj, ej⟩ := getElem_of_mem Ud
    refine ⟨j, hj, ?_⟩
    show (aO os).getD (S.getD j 0) [] = ch
    rw [sg (Vl hj), ej, e']
  have yd : bought os need = am z := by
    refine Ai hok (R6 hj) ?_ Uc (show am z = bw os (cho j) need by show bw os (cho (T.getD z 0)) need = _; rw [tg ej]) ?_ ?_
    . show need <= bQ os ((aO os).getD (S.getD j 0) []) + _
      rw [sg ei]
      exact (OI ei).2
    . intro ch Fy GD
      obtain ⟨j', Me, rfl⟩ := find Fy GD
      exact NC j' Me
    . intro ch Fy GD OP
      obtain ⟨j', Me, rfl⟩ := find Fy GD
      obtain ⟨t, ht, et⟩ := getElem_of_mem (ND Me OP)
      have ea : am t = bw os (cho j') need := by
        show bw os (cho (T.getD t 0)) need = _
        rw [tg (Vl ht), et]
      have := J8 (am t) (mem_map.mpr ⟨t, mem_range.mpr ht, rfl⟩)
      rw [ea] at this
      rw [v7 _ _ (by show (bw _ _ _).length = _; rw [lP, lP])]
      exact this
  refine k H8 (aa z) (QD.trans Ub) (QD.nw (OO z hz).2) ?_
  rw [(OO z hz).1, yd]
end
open Vbemah (Unit_ low high floor_ ceil_ floors pay merit firstPrice plan placesOf)
def unF (ao : Addr) (u : Unit_) : List (Str × V) := [("offer", .ref ao), ("taken", .int u.taken), ("left", .int u.left), ("place", .int u.at_), ("place_sum", .int u.energy), ("paid", .int u.paid)]
abbrev iB : List Str := ["offer", "taken", "left", "place", "place_sum", "paid"]
section
variable {K : FG} {CO CU TB : Addr}
structure si (CO CU : Addr) (H : Hp) (a ao : Addr) (u : Unit_) : Prop where
  un : RecAt CU H a (unF ao u)
  of : RecAt CO H ao (zA u.offer)
theorem KpX.un (k : Kp H H') (h : si CO CU H a ao u) : si CO CU H' a ao u := ⟨k.recAt h.un, k.recAt h.of⟩
def iC (CO CU : Addr) : Sp := fun vs H Q _ => ∃ (a ao : Addr) (u : Unit_), vs = [.ref a] /\ si CO CU H a ao u /\ UOk u /\ Q (.int (low u)) H
def gd (CO CU : Addr) : Sp := fun vs H Q _ => ∃ (a ao : Addr) (u : Unit_), vs = [.ref a] /\ si CO CU H a ao u /\ UOk u /\ Q (.int (high u)) H
def cR (CO CU : Addr) : Sp := fun vs H Q _ => ∃ (a ao : Addr) (u : Unit_), vs = [.ref a] /\ si CO CU H a ao u /\ UOk u /\ Q (.int (floor_ u)) H
def cH (CO CU : Addr) : Sp := fun vs H Q _ => ∃ (a ao : Addr) (u : Unit_), vs = [.ref a] /\ si CO CU H a ao u /\ UOk u /\ Q (.int (ceil_ u)) H
theorem Di (R : Rec K CO cf) (R2 : Rec K CU iB) (h : iC CO CU vs H Q E) : oY K (ends Q) (start rS vs) H := by
  obtain ⟨a, ao, u, rfl, ⟨h1, h2⟩, ok, k⟩ := h
  unfold oY
  kd_p
  have e : min (max ((if u.at_ < 0 then -u.at_ else u.at_) - u.offer.ramp) 0) u.left = low u := by
    rw [<- DL ok]; unfold low far; omega
  rw [e]
  exact k
theorem By (R : Rec K CO cf) (R2 : Rec K CU iB) (h : gd CO CU vs H Q E) : mH K (ends Q) (start oZ vs) H := by
  obtain ⟨a, ao, u, rfl, ⟨h1, h2⟩, ok, k⟩ := h
  unfold mH
  kd_p
  have e : min ((if u.at_ < 0 then -u.at_ else u.at_) + u.offer.ramp) u.left = high u := by
    rw [<- DL ok]; unfold high far; omega
  rw [e]
  exact k
theorem qJ (b : Bool) : decide (V.int (jF b) = V.int 0) = !b := by cases b <;> rfl
theorem tK (R : Rec K CO cf) (R2 : Rec K CU iB) (h : cR CO CU vs H Q E) : gm K (iC CO CU) (gd CO CU) (ends Q) (start hJ vs) H := by
  obtain ⟨a, ao, u, rfl, hu, ok, k⟩ := h
  obtain ⟨h1, h2⟩ := id hu
  unfold gm
  kd_p
  rw [qJ]
  refine bX (fun c => ?_) fun c => ?_
  . kd_p
    refine ⟨a, ao, u, rfl, hu, ok, ?_⟩
    have e : floor_ u = low u := by unfold floor_; rw [Vh (by simpa using c)]
    rw [<- e]
    exact k
  . kd_p
    refine ⟨a, ao, u, rfl, hu, ok, ?_⟩
    kd_p
    have e : floor_ u = -(high u) := by unfold floor_; rw [Vj (by simpa using c)]
    rw [<- e]
    exact k
theorem sj (R : Rec K CO cf) (R2 : Rec K CU iB) (h : cH CO CU vs H Q E) : fu K (gd CO CU) (iC CO CU) (ends Q) (start gn vs) H := by
  obtain ⟨a, ao, u, rfl, hu, ok, k⟩ := h
  obtain ⟨h1, h2⟩ := id hu
  unfold fu
  kd_p
  rw [qJ]
  refine bX (fun c => ?_) fun c => ?_
  . kd_p
    refine ⟨a, ao, u, rfl, hu, ok, ?_⟩
    have e : ceil_ u = high u := by unfold ceil_; rw [Vh (by simpa using c)]
    rw [<- e]
    exact k
  . kd_p
    refine ⟨a, ao, u, rfl, hu, ok, ?_⟩
    kd_p
    have e : ceil_ u = -(low u) := by unfold ceil_; rw [Vj (by simpa using c)]
    rw [<- e]
    exact k
def NF (y e m : Int) : Int := if (0 < y /\ m < e) \/ (y < 0 /\ e < m) then y * e else y * m
def pE : Sp := fun vs H Q _ => ∃ (y e m : Int), vs = [.int y, .int e, .int m] /\ -1000000000000 <= y /\ y <= 1000000000000 /\ Q (.int (NF y e m)) H
theorem Dj (h : pE vs H Q E) : o7 K (ends Q) (start rX vs) H := by
  obtain ⟨y, e, m, rfl, y0, y1, k⟩ := h
  unfold NF at k
  unfold o7
  kd_p
  have own : ((0 < y /\ m < e) \/ (y < 0 /\ e < m)) -> rI kz (fun i j => .int (i * j)) (.int y) (.int e) H Q := fun c => by
    rw [Vj c] at k
    exact kG ⟨y0, y1⟩ k
  have gen : ¬ ((0 < y /\ m < e) \/ (y < 0 /\ e < m)) -> rI kz (fun i j => .int (i * j)) (.int y) (.int m) H Q := fun c => by
    rw [Vh c] at k
    exact kG ⟨y0, y1⟩ k
  have second : ¬ (0 < y /\ m < e) -> cT (Ax (bC (tOp (rI0 fun i j => .bl (decide (i < j))) (ai 0) (tC (.int 0)))) (bC (tOp (rI0 fun i j => .bl (decide (i < j))) (ai 1) (ai 2)))) (aX (tOp (rI kz fun i j => .int (i * j)) (ai 0) (ai 1))) bN { nx := aX (tOp (rI kz fun i j => .int (i * j)) (ai 0) (ai 2)) (ends Q), rt := Q } [some (.int y), some (.int e), some (.int m)] H := fun c0 => by
    kd_p
    refine bX (fun c1 => ?_) fun c1 => ?_
    . kd_p
      have c1 := Vn c1
      refine bX (fun c2 => ?_) fun c2 => ?_
      . kd_p
        have c2 := Vn c2
        exact own (.inr ⟨c1, c2⟩)
      . kd_p
        have c2 : ¬ e < m := fun z => c2 (Vw z)
        exact gen (by omega)
    . refine oO ?_
      kd_p
      have c1 : ¬ y < 0 := fun z => c1 (Vw z)
      exact gen (by omega)
  refine bX (fun c1 => ?_) fun c1 => ?_
  . kd_p
    have c1 := Vn c1
    refine bX (fun c2 => ?_) fun c2 => ?_
    . kd_p
      have c2 := Vn c2
      exact own (.inl ⟨c1, c2⟩)
    . have c2 : ¬ m < e := fun z => c2 (Vw z)
      exact second (by omega)
  . refine oO ?_
    have c1 : ¬ 0 < y := fun z => c1 (Vw z)
    exact second (by omega)
def gQ (K : FG) (TB : Addr) : Sp := fun vs H Q _ => ∃ (a : Addr) (es : List Int), vs = [.ref a] /\ SqL K H a (es.map V.int) /\ es.length <= 1000 /\ Tab H TB /\ ∀ H' l, Kp H H' -> Nw H l -> H' l = some (.lst ((iJ (fun p => es.getD p 0) (range es.length)).map lC)) -> Q (.ref l) H'
theorem zD (h : gQ K TB vs H Q E) : kN K TB (ends Q) (start mJ vs) H := by
  obtain ⟨a, es, rfl, hs, hl, hT, k⟩ := h
  unfold kN
  kd_p
  refine G7 ?_
  kd_p
  refine ⟨a, _, rfl, .inl hs, es.length, by rw [Vg], hl, ?_⟩
  refine Bk (range es.length) pairwise_lt_range (fun p => es.getD p 0) rfl (by simpa using hl) hT ?_ ?_
  . intro i hi H2 Ky k2 hy
    have hi := mem_range.mp hi
    have h2 := k2.bI hs
    kd_p
    refine bj h2 (gj es hi) ?_
    kd_p
    exact ⟨by show 2 <= sizeLine; decide, fun p hp => hy p _ (Kp.new hp) aA⟩
  . intro H3 D k3 n3 e3
    exact k H3 D k3 n3 e3
def d7 (K : FG) : Sp := fun vs H Q _ => ∃ (al ah ae : Addr) (us : List Unit_), vs = [.ref al, .ref ah, .ref ae] /\ SqL K H al ((us.map floor_).map V.int) /\ SqL K H ah ((us.map ceil_).map V.int) /\ SqL K H ae ((us.map fun u => u.offer.energy).map V.int) /\ us.length <= 1000 /\
  ∀ H', Kp H H' -> Q (.int (firstPrice (merit us))) H'
theorem Dk {us : List Unit_} (f : Unit_ -> Int) {i : Nat} (h : i < us.length) : ((us.map f).map V.int)[i]? = some (.int (f (uAt us i))) := by
  rw [Vt, Vt, bP h]; rfl
theorem pG (h : d7 K vs H Q E) : dZ K (ends Q) (start eO vs) H := by
  obtain ⟨al, ah, ae, us, rfl, hl, hh, he, hn, k⟩ := h
  unfold dZ
  kd_p
  refine ji (Je hl hh he) ?_ (fun i => decide (floor_ (uAt us i) < ceil_ (uAt us i))) (fun i => .int (uAt us i).offer.energy) (fun i H' Ky Kf hi kp hy hf => ?_) fun D H' kp hD e => ?_
  . simp only [Vg]; rw [Vr]; omega
  . simp only [Vg] at hi
    have hi : i < us.length := by omega
    rw [Dk floor_ hi, Dk ceil_ hi, Dk (fun u => u.offer.energy) hi]
    kd_p
    refine bX (fun c => ?_) fun c => hf (VZ c) H' (Kp.refl _)
    kd_p
    exact hy c H' (Kp.refl _)
  . simp only [Vg, min_self] at e
    rw [eI] at e
    kd_p
    show (ai 3 _ H' fun x H1 => _)
    kd_p
    refine ⟨D, _, rfl, SqL.of e, fun QG => ?_, fun m hm LF => ?_⟩
    . have ef : firstPrice (merit us) = 0 := by
        refine oi (fun _ => rfl) (fun ⟨u, hu, cN⟩ => ?_) (fun u hu cN => ?_) <;>
        . exfalso
          obtain ⟨p, hp, e⟩ := mem_iff_getElem.mp hu
          have e2 : uAt us p = u := by
            have := bP hp
            rw [Vl hp, e] at this
            exact (Option.some.inj this).symm
          have : p ∈ cQ (fun i => decide (floor_ (uAt us i) < ceil_ (uAt us i))) us.length := nQ hp (Vw (by rw [e2]; exact cN))
          rw [List.map_eq_nil_iff.mp QG] at this
          cases this
      rw [<- ef]
      exact k H' kp
    . obtain ⟨p, hp, rfl⟩ := mem_map.mp hm
      obtain ⟨t, ht⟩ := List.mem_iff_getElem?.mp hp
      obtain ⟨h1, h2⟩ := v8 ht
      have h2 := Vn h2
      have ef : firstPrice (merit us) = (uAt us p).offer.energy := by
        refine oi (fun QH => absurd h2 (QH _ (cK h1))) (fun _ => ⟨_, cK h1, h2, rfl⟩) fun u hu cN => ?_
        obtain ⟨q, hq, e⟩ := mem_iff_getElem.mp hu
        have e2 : uAt us q = u := by
          have := bP hq
          rw [Vl hq, e] at this
          exact (Option.some.inj this).symm
        have := LF (uAt us q).offer.energy (mem_map.mpr ⟨q, nQ hq (Vw (by rw [e2]; exact cN)), rfl⟩)
        rw [e2] at this
        exact this
      rw [<- ef]
      exact k H' kp
end
section
variable {K : FG} {CO CU CQ TB : Addr}
def quF (t : Int) (ap : Addr) (pr : Int) (ay : Addr) (called cost : Int) : List (Str × V) := [("target", .int t), ("places", .ref ap), ("price", .int pr), ("payments", .ref ay), ("called", .int called), ("cost", .int cost)]
abbrev Dl : List Str := ["target", "places", "price", "payments", "called", "cost"]
def lD (K : FG) (CQ : Addr) : Sp := fun vs H Q _ => ∃ (p dx : Addr) (t pr : Int) (ap ay : Addr) (pl py : List Int), vs = [.ref p, .int t, .ref ap, .int pr, .ref ay] /\ H p = some (.ins CQ dx []) /\ SqL K H ap (pl.map V.int) /\ SqL K H ay (py.map V.int) /\
  ∀ H', H' p = some (.ins CQ dx (quF t ap pr ay pl.sum py.sum)) -> KpX [p] H H' -> Q .non H'
theorem qK {H : Hp} (hp : H p = some (.ins C dx fs)) (h : SqL K H a xs) : (∀ H', KpX [p] H H' -> SqL K H' a xs) := fun H' k => by
  rcases h with (h | ⟨o, h⟩) | h
  . exact .inl (.inl (k.get h rfl (by simpa using eE h hp (by intro z; cases z))))
  . exact .inl (.inr ⟨o, k.get h rfl (by simpa using eE h hp (by intro z; cases z))⟩)
  . exact .inr h
theorem tL (R : Rec K CQ Dl) (h : lD K CQ vs H Q E) : gv K (ends Q) (start ia vs) H := by
  obtain ⟨p, dx, t, pr, ap, ay, pl, py, rfl, hp, h1, h2, k⟩ := h
  unfold gv
  kd_p
  refine ba hp R (by decide) (by rfl) fun H1 _ e1 k1 => ?_
  have BU := qK hp h1 H1 k1
  have Ue := qK hp h2 H1 k1
  kd_p
  refine ba e1 R (by decide) (by rfl) fun H2 _ e2 k2 => ?_
  have BV := qK e1 BU H2 k2
  have Ug := qK e1 Ue H2 k2
  kd_p
  refine ba e2 R (by decide) (by rfl) fun H3 _ e3 k3 => ?_
  have BW := qK e2 BV H3 k3
  have Uh := qK e2 Ug H3 k3
  kd_p
  refine ba e3 R (by decide) (by rfl) fun H4 _ e4 k4 => ?_
  have BX := qK e3 BW H4 k4
  have Ui := qK e3 Uh H4 k4
  kd_p
  refine ⟨ap, pl, rfl, BX, ?_⟩
  kd_p
  refine ba e4 R (by decide) (by rfl) fun H5 _ e5 k5 => ?_
  have Uj := qK e4 Ui H5 k5
  kd_p
  refine ⟨ay, py, rfl, Uj, ?_⟩
  kd_p
  refine ba e5 R (by decide) (by rfl) fun H6 _ e6 k6 => ?_
  exact k H6 e6 (((((k1.trans k2).trans k3).trans k4).trans k5).trans k6)
theorem Dm {t pr : Int} {pl py : List Int} {Q : VK} (h1 : SqL K H1 ap (pl.map V.int)) (h2 : SqL K H1 ay (py.map V.int)) (h : ∀ x H2, H1 x = none -> RecAt CQ H2 x (quF t ap pr ay pl.sum py.sum) -> Kp H1 H2 -> Q (.ref x) H2) :
    MkR CQ (lD K CQ) [.int t, .ref ap, .int pr, .ref ay] H1 Q := fun x dx nx nd ne => by
  have Nc : (upd H1 dx (.own x)) x = none := by rw [aM (Ne.symm ne)]; exact nx
  have k0 : Kp H1 (upd (upd H1 dx (.own x)) x (.ins CQ dx [])) := (Kp.new nd).trans (Kp.new Nc)
  exact ⟨x, dx, t, pr, ap, ay, pl, py, rfl, aA, k0.bI h1, k0.bI h2, fun H' e k => ⟨rfl, h x H' nx ⟨dx, e⟩ (KpX.made nx nd ne k)⟩⟩
structure qL (K : FG) (CO CU : Addr) (H : Hp) (l : Addr) (ad oa : Nat -> Addr) (us : List Unit_) : Prop where
  sq : SqL K H l ((range us.length).map fun i => V.ref (ad i))
  at_ : ∀ i, i < us.length -> si CO CU H (ad i) (oa i) (uAt us i)
theorem KpX.uns {ad : Nat -> Addr} (k : Kp H H') (h : qL K CO CU H l ad oa us) : qL K CO CU H' l ad oa us := ⟨k.bI h.sq, fun i hi => k.un (h.at_ i hi)⟩
structure UsB (us : List Unit_) : Prop where
  few : us.length <= 1000
  ok : tj us
  bd : ∀ u ∈ us, u.left <= 1000000000
def eU (K : FG) (CO CU CQ TB : Addr) : Sp := fun vs H Q _ => ∃ (lu : Addr) (ad oa : Nat -> Addr) (us : List Unit_) (t : Int), vs = [.ref lu, .int t] /\ qL K CO CU H lu ad oa us /\ UsB us /\ Tab H TB /\
  ∀ H' a ap ay, Kp H H' -> Nw H a -> Nw H ap -> Nw H ay -> RecAt CQ H' a (quF t ap (plan us t).price ay (placesOf us (plan us t)).sum (eC us t).sum) -> H' ap = some (.lst ((placesOf us (plan us t)).map V.int)) -> H' ay = some (.lst ((eC us t).map V.int)) -> Q (.ref a) H'
theorem Hh (us : List Unit_) : (fun p => (us.map fun u => u.offer.energy).getD p 0) = fun p => (uAt us p).offer.energy := by
  funext p
  unfold uAt
  simp only [List.getD, Vt]
  cases us[p]? <;> rfl
theorem v9 (R : Rec K CO cf) (R2 : Rec K CU iB) (h : eU K CO CU CQ TB vs H Q E) :
    ic K (cR CO CU) (cH CO CU) (d7 K) (gQ K TB) pE CQ (lD K CQ) (ends Q) (start jo vs) H := by
  obtain ⟨lu, ad, oa, us, t, rfl, hu, hb, hT, k⟩ := h
  have few := hb.few
  have hs := hu.sq
  have ok := hb.ok
  have uok : ∀ {i}, i < us.length -> UOk (uAt us i) := fun hi => ok.ok _ (cK hi)
  have small : us.length < sizeLine := by rw [Vr]; omega
  have Ji : ∀ (f : Unit_ -> Int), (range us.length).map (fun i => V.int (f (uAt us i))) = (us.map f).map V.int := fun f => by rw [eI, g7 us f]
  unfold ic
  kd_p
  refine cU (bx hs) (by simpa using small) (fun i => .int (floor_ (uAt us i))) (fun i H' Ky hi kp hy => ?_) fun D1 H1 k1 Mp e1 => ?_
  . simp only [Vg, Vk] at hi
    rw [aZ _ hi]
    kd_p
    exact ⟨_, _, _, rfl, kp.un (hu.at_ i hi), uok hi, hy H' (Kp.refl _)⟩
  simp only [Vg, Vk] at e1
  rw [Ji] at e1
  have A4 := k1.bI hs
  kd_p
  refine cU (bx A4) (by simpa using small) (fun i => .int (ceil_ (uAt us i))) (fun i H' Ky hi kp hy => ?_) fun D2 H2 OQ Mt e2 => ?_
  . simp only [Vg, Vk] at hi
    rw [aZ _ hi]
    kd_p
    exact ⟨_, _, _, rfl, (k1.trans kp).un (hu.at_ i hi), uok hi, hy H' (Kp.refl _)⟩
  simp only [Vg, Vk] at e2
  rw [Ji] at e2
  have k2 := k1.trans OQ
  have Mh := k2.bI hs
  kd_p
  refine cU (bx Mh) (by simpa using small) (fun i => .int (uAt us i).offer.energy) (fun i H' Ky hi kp hy => ?_) fun D3 H3 LG T6 e3 => ?_
  . simp only [Vg, Vk] at hi
    obtain ⟨h1, h2⟩ := (k2.trans kp).un (hu.at_ i hi)
    rw [aZ _ hi]
    kd_p
    exact hy H' (Kp.refl _)
  simp only [Vg, Vk] at e3
  rw [Ji (fun u => u.offer.energy)] at e3
  have k3 := k2.trans LG
  have l1 := SqL.of (K := K) (LG.get (OQ.get e1))
  have l2 := SqL.of (K := K) (LG.get e2)
  have l3 := SqL.of (K := K) e3
  kd_p
  refine ⟨D1, _, rfl, .inl l1, fun D4 Jj => ?_⟩
  have LH := Kp.new (o := .lst ((us.map floor_).map V.int)) Jj
  have k4 := k3.trans LH
  have n4 : Nw H D4 := k3.nw (.of Jj)
  have Uk : upd H3 D4 (.lst ((us.map floor_).map V.int)) D4 = some (.lst ((us.map floor_).map V.int)) := aA
  have m1 := LH.bI l1
  have m2 := LH.bI l2
  have m3 := LH.bI l3
  kd_p
  refine ⟨D1, D2, D3, us, rfl, m1, m2, m3, few, fun H5 JW => ?_⟩
  have k5 := k4.trans JW
  have q1 := JW.bI m1
  have q2 := JW.bI m2
  have q3 := JW.bI m3
  have R8 := JW.get Uk
  kd_p
  refine ⟨D1, _, rfl, q1, ?_⟩
  kd_p
  refine ⟨D3, _, rfl, q3, by simpa using few, k5.tabs hT, fun H6 lb JX nb eb => ?_⟩
  rw [Hh, Vg] at eb
  have eb : H6 lb = some (.lst ((bW us).map lC)) := eb
  have k6 := k5.trans JX
  have r1 := JX.bI q1
  have r2 := JX.bI q2
  have r3 := JX.bI q3
  have Ul := JX.get R8
  have QI : lb ≠ D4 := Ne.symm (nb.ne R8)
  have ne1 : D1 ≠ D4 := aF (LG.get (OQ.get e1)) Jj
  have ne2 : D2 ≠ D4 := aF (LG.get e2) Jj
  have ne3 : D3 ≠ D4 := aF e3 Jj
  refine yz (SqL.of eb) ?_
  have t1 := LG.get (OQ.get e1)
  have t2 := LG.get e2
  have b1 := JX.get (JW.get (LH.get t1))
  have b2 := JX.get (JW.get (LH.get t2))
  have b3 := JX.get (JW.get (LH.get e3))
  have NG := HN ok t (rfl : bW us = bW us)
  refine jj (kC (K := K) (a := lb) (xs := (bW us).map lC)) (fun i σ H' => (Kp H H' /\ H' lb = some (.lst ((bW us).map lC)) /\ H' D1 = some (.lst ((us.map floor_).map V.int)) /\ H' D2 = some (.lst ((us.map ceil_).map V.int)) /\ H' D3 = some (.lst ((us.map fun u => u.offer.energy).map V.int))) /\
    ∃ pl pr m x3 x9 FA FC QJ QK, H' D4 = some (.lst (pl.map V.int)) /\ pl.length = us.length /\ σ = [some (.ref lu), some (.int t), some (.ref D1), x3, some (.ref D2), some (.ref D3), some (.ref D4), some (.int pr), some (.int m), x9, FA, FC, QJ, QK] /\
      jM us ((bW us).drop i) pl m pr = (placesOf us (plan us t), (plan us t).price)) ⟨⟨k6, eb, b1, b2, b3⟩, _, _, _, _, _, _, _, _, _, Ul, by simp, rfl, ?_⟩ (fun i σ' H' p => SqL.of p.1.2.1) ?_ ?_
  . rw [drop_zero]
    exact NG
  . rintro i σ' H' H7 hi ⟨⟨kp, c0, c1, c2, c3⟩, pl, pr, m, x3, x9, FA, FC, QJ, QK, hd, iH, rfl, hq⟩ k7
    simp only [Vg] at hi
    obtain ⟨p, ep⟩ : ∃ p, (bW us)[i]? = some p := ⟨_, Vl hi⟩
    have hp := b7.mp (VG ep)
    rw [zC ep] at hq
    rw [Vt, ep]
    have d0 := k7.get c0
    have d1 := k7.get c1
    have d2 := k7.get c2
    have d3 := k7.get c3
    have d4 := k7.get hd
    kd_p
    refine bj (SqL.of d2) (Dk ceil_ hp) ?_
    kd_p
    refine bj (SqL.of d1) (Dk floor_ hp) ?_
    kd_p
    refine bX (fun c => ?_) fun c => ?_
    . have c := Vn c
      kd_p
      refine bj (SqL.of d4) (gj pl (by omega)) ?_
      kd_p
      refine qt d4 (by rw [Vg]; omega) ?_
      have w7 := KpX.write (o := .lst ((pl.map V.int).set p (.int (pl.getD p 0 + min m (ceil_ (uAt us p) - floor_ (uAt us p)))))) d4 rfl
      have ko := (kp.trans k7).yy (o := .lst ((pl.map V.int).set p (.int (pl.getD p 0 + min m (ceil_ (uAt us p) - floor_ (uAt us p)))))) n4 d4 rfl
      have f0 := w7.get d0 rfl (by simpa using QI)
      have f1 := w7.get d1 rfl (by simpa using ne1)
      have f2 := w7.get d2 rfl (by simpa using ne2)
      have f3 := w7.get d3 rfl (by simpa using ne3)
      kd_p
      refine bj (SqL.of f3) (Dk (fun u => u.offer.energy) hp) ?_
      kd_p
      refine ⟨⟨ko, f0, f1, f2, f3⟩, pl.set p (pl.getD p 0 + min m (ceil_ (uAt us p) - floor_ (uAt us p))), _, _, _, _, _, _, _, _, ?_, by rw [length_set]; exact iH, rfl, ?_⟩
      . rw [aA, map_set]
      . rw [<- hq]
        conv => rhs; unfold jM
        rw [Vj c]
    . have c : ¬ 0 < min m (ceil_ (uAt us p) - floor_ (uAt us p)) := fun z => c (Vw z)
      refine eG ⟨⟨kp.trans k7, d0, d1, d2, d3⟩, pl, pr, m, _, _, _, _, _, _, d4, iH, rfl, ?_⟩
      rw [<- hq]
      conv => rhs; unfold jM
      rw [Vh c]
  . rintro σ' H7 ⟨⟨kp, c0, c1, c2, c3⟩, pl, pr, m, x3, x9, FA, FC, QJ, QK, hd, iH, rfl, hq⟩
    simp only [Vg, drop_length] at hq
    obtain ⟨ep, er⟩ : pl = placesOf us (plan us t) /\ pr = (plan us t).price := Prod.mk.inj hq
    have sp := SqL.of (K := K) hd
    have se := SqL.of (K := K) c3
    have Um : ∀ {i}, i < us.length -> pl.getD i 0 = Vbemah.find (plan us t).places (uAt us i).offer.num := fun {i} hi => by
      rw [ep]
      unfold placesOf
      simp [List.getD, Vt, bP hi]
    kd_p
    refine cU (nB sp se) (by simp only [Vg]; omega) (fun i => .int (pay (uAt us i) (Vbemah.find (plan us t).places (uAt us i).offer.num) (plan us t).price)) (fun i H' Ky hi kp hy => ?_) fun D8 H8 k8 R7 e8 => ?_
    . simp only [Vg] at hi
      have hi : i < us.length := by omega
      rw [gj pl (by omega), Dk (fun u => u.offer.energy) hi]
      kd_p
      obtain ⟨b1, b2⟩ := Ak ok t (cK hi)
      have b3 := hb.bd _ (cK hi)
      have b4 := uB (uok hi)
      have b5 := l9 (uok hi)
      have b6 : high (uAt us i) <= (uAt us i).left := by unfold high; omega
      rw [Um hi]
      refine ⟨_, _, _, rfl, ?_, ?_, ?_⟩
      . unfold floor_ at b1
        split at b1 <;> omega
      . unfold ceil_ at b2
        split at b2 <;> omega
      . rw [er]
        exact hy H' (Kp.refl _)
    . simp only [Vg, iH, min_self] at e8
      rw [Ji (fun u => pay u (Vbemah.find (plan us t).places u.offer.num) (plan us t).price)] at e8
      kd_p
      refine Dm (k8.bI sp) (SqL.of e8) fun x H9 nx hx k9 => ?_
      refine k H9 x D4 D8 ((kp.trans k8).trans k9) ((kp.trans k8).nw (.of nx)) n4 (kp.nw (.of R7)) ?_ ?_ ?_
      . rw [<- ep, <- er]
        exact hx
      . rw [<- ep]
        exact k9.get (k8.get hd)
      . exact k9.get e8
end
abbrev Ex (Q : VK) : Ends := { nx := fun _ H' => Q .non H', rt := Q }
section
variable {K : FG} {XC : Cx} {CL aN aR : Addr}
structure Jk (XC : Cx) (K : FG) (aN aR : Addr) : Prop where
  nums : ∃ aQ, KD XC aN aQ /\ ∀ k, (qc.lookup k = none -> de aQ k = none) /\ ∀ bs, qc.lookup k = some bs -> ∃ (a : Addr) (as : List Addr), de aQ k = some (.ref a) /\ as.length = bs.length /\ (∀ H, SqT K H a (as.map V.ref)) /\ ∀ H (i : Nat) p b, as[i]? = some p -> bs[i]? = some b -> SqT K H p (b.map V.int)
  rows : ∃ aQ, KD XC aR aQ /\ ∀ k, (mh.lookup k = none -> de aQ k = none) /\ ∀ b, mh.lookup k = some b -> ∃ a, de aQ k = some (.ref a) /\ ∀ H, SqT K H a (b.map V.int)
def d8 (K : FG) : Sp := fun vs H Q _ => ∃ (ar ab : Addr) (r b : List Int), vs = [.ref ar, .ref ab] /\ SqL K H ar (r.map V.int) /\ SqT K H ab (b.map V.int) /\ b.length = 3 /\ r.length <= 16000 /\ ∀ H', Kp H H' -> Q (.bl (tp b r)) H'
theorem pH (h : d8 K vs H Q E) : d5 K (Ex Q) (start eQ vs) H := by
  obtain ⟨ar, ab, r, b, rfl, hr, hb, hl, hn, k⟩ := h
  match b, hl with
  | [b0, b1, b2], _ =>
  unfold d5
  kd_p
  refine df hr ?_
  kd_p
  refine vx (i := 0) hb rfl ?_
  kd_p
  rw [Vg]
  refine bX (fun c => ?_) fun c => ?_
  . have c := Vn c
    kd_p
    have e : tp [b0, b1, b2] r = false := by
      unfold tp
      rw [VN (show ¬ ((r.length : Int) <= [b0, b1, b2].getD 0 0) from by show ¬ ((r.length : Int) <= b0); omega)]
      rfl
    rw [<- e]
    exact k H (Kp.refl _)
  . have c : ¬ b0 < r.length := fun z => c (Vw z)
    kd_p
    refine cU (bx hr) (by simp only [Vg]; rw [Vr]; omega) (fun i => .bl (decide (b1 <= r.getD i 0) && decide (r.getD i 0 <= b2))) (fun i H' Ky hi kp hy => ?_) fun D H' kp hD e => ?_
    . simp only [Vg] at hi
      rw [gj r hi]
      have yd := kp.tw hb
      kd_p
      refine vx (i := 1) yd rfl ?_
      kd_p
      refine bX (fun c1 => ?_) fun c1 => ?_
      . kd_p
        refine vx (i := 2) yd rfl ?_
        kd_p
        rw [c1] at hy
        exact hy H' (Kp.refl _)
      . rw [VZ c1] at hy
        exact hy H' (Kp.refl _)
    . simp only [Vg] at e
      kd_p
      refine ⟨D, (range r.length).map fun i => decide (b1 <= r.getD i 0) && decide (r.getD i 0 <= b2), rfl, SqL.of (by rw [e, Vz]; rfl), ?_⟩
      have e2 : tp [b0, b1, b2] r = ((range r.length).map fun i => decide (b1 <= r.getD i 0) && decide (r.getD i 0 <= b2)).all id := by
        unfold tp
        rw [Vw (show (r.length : Int) <= [b0, b1, b2].getD 0 0 from by show (r.length : Int) <= b0; omega), Bool.true_and]
        have : r = (range r.length).map fun i => r.getD i 0 := by
          apply V0
          intro i
          by_cases hi : i < r.length
          . rw [aZ _ hi, Vl hi]
            simp [List.getD, Vl hi]
          . rw [VL (by omega), VL (by simpa using hi)]
        conv => lhs; rw [this]
        rw [all_map, all_map]
        rfl
      rw [<- e2]
      exact k H' kp
def Bz (k : Int) (an ar : Addr) : List (Str × V) := [("kind", .int k), ("numbers", .ref an), ("row", .ref ar)]
abbrev sk : List Str := ["kind", "numbers", "row"]
def LI (CL : Addr) (H : Hp) (a : Addr) (t : T3) : Prop := ∃ an ar, RecAt CL H a (Bz t.1 an ar) /\ H an = some (.lst (t.2.1.map V.int)) /\ H ar = some (.lst (t.2.2.map V.int))
def iD (CL : Addr) : Sp := fun vs H Q _ => ∃ (a : Addr) (t : T3), vs = [.ref a] /\ LI CL H a t /\ t.2.2.length <= 16000 /\ ∀ H', Kp H H' -> Q (.bl (dc t)) H'
theorem Hi : ∀ x ∈ qc, ∀ b ∈ x.2, b.length = 2 := by decide +kernel
theorem Dn : ∀ x ∈ mh, x.2.length = 3 := by decide +kernel
theorem lookup_mem {α β : Type} [BEq α] [LawfulBEq α] : ∀ {l : List (α × β)} {k : α} {v : β}, l.lookup k = some v -> (k, v) ∈ l
  | [], _, _, h => by cases h
  | (a, b) :: l, k, v, h => by
    unfold List.lookup at h
    by_cases e : (k == a) = true
    . rw [e] at h
      obtain rfl := Option.some.inj h
      rw [eq_of_beq e]
      exact Vv
    . rw [VZ e] at h
      exact Vs _ (lookup_mem h)
theorem wa (R : Rec K CL sk) (N : Jk XC K aN aR) (h : iD CL vs H Q E) : ig XC K aN aR (d8 K) (Ex Q) (start fI vs) H := by
  obtain ⟨a, t, rfl, ⟨an, ar, hc, hn, hr⟩, hlen, k⟩ := h
  obtain ⟨Uo, OR, OS⟩ := N.nums
  obtain ⟨Up, OT, NH⟩ := N.rows
  unfold ig
  kd_p
  refine CV OR ?_
  kd_p
  cases el : qc.lookup t.1 with
  | none =>
    rw [(OS t.1).1 el]
    refine oP ?_
    kd_p
    have e : dc t = false := by unfold dc; rw [el]
    rw [<- e]
    exact k H (Kp.refl _)
  | some bs =>
    obtain ⟨pa, as, e1, e2, e3, e4⟩ := (OS t.1).2 bs el
    have b2 : ∀ {i : Nat} {b}, bs[i]? = some b -> ∃ b0 b1, b = [b0, b1] := fun {i b} e => by
      have := Hi _ (lookup_mem el) b (VG e)
      match b, this with
      | [b0, b1], _ => exact ⟨b0, b1, rfl⟩
    rw [e1]
    refine oO ?_
    kd_p
    refine zj OR e1 ?_
    kd_p
    have sn := SqL.of (K := K) hn
    refine G4 sn (e3 H) ?_
    have bad : ∀ {i H'}, i < min t.2.1.length bs.length -> inB (bs.getD i []) (t.2.1.getD i 0) = false -> Kp H H' -> Q (.bl false) H' := fun {i H'} hi e kp => by
      have z : dc t = false := by
        unfold dc
        rw [el]
        dsimp only
        rw [show ((range (min t.2.1.length bs.length)).all fun i => inB (bs.getD i []) (t.2.1.getD i 0)) = false from List.all_eq_false.mpr ⟨i, mem_range.mpr hi, by rw [e]; exact VD⟩]
        rfl
      rw [<- z]
      exact k H' kp
    refine vz (Fd sn (e3 H)) (fun i σ H' => Kp H H' /\ (∀ j, j < i -> inB (bs.getD j []) (t.2.1.getD j 0) = true) /\ ∃ x1 x2, σ = [some (.ref a), x1, x2]) ⟨Kp.refl _, fun j hj => absurd hj (VJ _), none, none, rfl⟩ (fun i σ' H' p => p.1) ?_ ?_
    . rintro i σ' H' H2 hi ⟨kp, dF, x1, x2, rfl⟩ k2
      simp only [Vg, e2] at hi
      have z8 := kp.trans k2
      obtain ⟨p, ep⟩ : ∃ p, as[i]? = some p := ⟨_, Vl (by omega)⟩
      obtain ⟨b, eb⟩ : ∃ b, bs[i]? = some b := ⟨_, Vl (by omega)⟩
      obtain ⟨b0, b1, rfl⟩ := b2 eb
      have sb := e4 H2 i p _ ep eb
      have gb : bs.getD i [] = [b0, b1] := by simp [List.getD, eb]
      rw [gj t.2.1 (by omega), Vt, ep]
      generalize hx : t.2.1.getD i 0 = x
      have fin : inB [b0, b1] x = true -> (Kp H H2 /\ (∀ j, j < i + 1 -> inB (bs.getD j []) (t.2.1.getD j 0) = true) /\ ∃ y1 y2, [some (V.ref a), some (V.int x), some (V.ref p)] = [some (V.ref a), y1, y2]) := fun e =>
        ⟨z8, fun j hj => by
          rcases Nat.lt_succ_iff_lt_or_eq.mp hj with h | h
          . exact dF j h
          . rw [h, gb, hx]; exact e, _, _, rfl⟩
      have Fi : inB [b0, b1] x = false -> Q (.bl false) H2 := fun e => bad (i := i) (by omega) (by rw [gb, hx]; exact e) z8
      have ib : inB [b0, b1] x = (decide (b0 <= x) && decide (x <= b1)) := rfl
      kd_p
      refine vx (i := 0) sb rfl ?_
      kd_p
      refine bX (fun c => oP (oR (Bj (Fi ?_)))) fun c => ?_
      . have c := Vn c
        rw [ib, VN (by omega)]; rfl
      . kd_p
        refine vx (i := 1) sb rfl ?_
        kd_p
        have c : ¬ x < b0 := fun z => c (Vw z)
        refine bX (fun d => oR (Bj (Fi ?_))) fun d => eG (fin ?_)
        . have d := Vn d
          rw [ib, VN (show ¬ x <= b1 by omega), Bool.and_false]
        . have d : ¬ b1 < x := fun z => d (Vw z)
          rw [ib, Vw (by omega), Vw (by omega)]; rfl
    . rintro σ' H' ⟨kp, dF, x1, x2, rfl⟩
      simp only [Vg, e2] at dF
      have B7 := kp.recAt hc
      have z : dc t = match mh.lookup t.1 with | none => true | some b => tp b t.2.2 := by
        unfold dc
        rw [el]
        dsimp only
        rw [show ((range (min t.2.1.length bs.length)).all fun i => inB (bs.getD i []) (t.2.1.getD i 0)) = true from all_eq_true.mpr fun i hi => dF i (by simpa using hi)]
        rfl
      kd_p
      refine CV OT ?_
      kd_p
      cases er : mh.lookup t.1 with
      | none =>
        rw [(NH t.1).1 er]
        refine oP ?_
        rw [er] at z
        have := k H' kp
        rw [z] at this
        exact this
      | some b =>
        obtain ⟨pb, f1, f2⟩ := (NH t.1).2 b er
        rw [f1]
        refine oO ?_
        kd_p
        refine zj OT f1 ?_
        kd_p
        refine ⟨ar, pb, t.2.2, b, rfl, SqL.of (kp.get hr), f2 H', Dn _ (lookup_mem er), hlen, fun H2 k2 => ?_⟩
        rw [er] at z
        have := k H2 (kp.trans k2)
        rw [z] at this
        exact this
end
section
variable {K : FG} {XC : Cx} {CL aN aR : Addr}
theorem Ey {A B C : List V} {i j : Int} (hi : i = A.length) (hj : j = A.length + B.length) : yQ (A ++ (B ++ C)) (some i) (some j) = B := by
  subst hi hj
  unfold yQ HT.sIx
  dsimp only
  rw [Vh (by omega), Vh (by omega)]
  have e1 : min (A.length : Int).toNat (A ++ (B ++ C)).length = A.length := by simp
  have e2 : min ((A.length : Int) + B.length).toNat (A ++ (B ++ C)).length = A.length + B.length := by
    have : ((A.length : Int) + B.length).toNat = A.length + B.length := by omega
    rw [this]
    simp
  rw [e1, e2, List.drop_left, Nat.add_sub_cancel_left, List.take_left]
theorem Hj {K : FG} {A B : List V} {v : V} {i : Nat} (h : i = A.length) : (A ++ (v :: B))[i]? = some v := by
  subst h
  rw [List.getElem?_append_right (Vq _), Nat.sub_self]; rfl
abbrev t9 (CL : Addr) : Sp := yx CL 3 fun as => [("kind", as.getD 0 .non), ("numbers", as.getD 1 .non), ("row", as.getD 2 .non)]
def LJ (CL : Addr) (H0 H' : Hp) (a : Addr) (t : T3) : Prop := ∃ an ar, RecAt CL H' a (Bz t.1 an ar) /\ H' an = some (.lst (t.2.1.map V.int)) /\ H' ar = some (.lst (t.2.2.map V.int)) /\ Nw H0 a /\ Nw H0 an /\ Nw H0 ar
def jI (K : FG) (CL : Addr) : Sp := fun vs H Q _ => ∃ (ag : Addr) (ts : List T3), vs = [.ref ag] /\ SqL K H ag ((ts.flatMap gg).map V.int) /\ (∀ t ∈ ts, okT t) /\ ts.length <= 1000 /\ ∀ H' l (ac : List Addr), Kp H H' -> Nw H l -> H' l = some (.lst (ac.map V.ref)) -> Paired (LJ CL H H') ac ts -> Q (.ref l) H'
theorem wb {α : Type} {l : List α} {i : Nat} {x : α} (h : l[i]? = some x) : l.take (i + 1) = l.take i ++ [x] := by
  rw [take_add_one, h]; rfl
theorem Jl {ts : List T3} {i : Nat} {t : T3} (h : ts[i]? = some t) : ts.flatMap gg = (ts.take i).flatMap gg ++ (gg t ++ (ts.drop (i + 1)).flatMap gg) := by
  have hi := (List.getElem?_eq_some_iff.mp h).1
  conv => lhs; rw [<- List.take_append_drop i ts]
  rw [flatMap_append, V8 hi, (List.getElem?_eq_some_iff.mp h).2, flatMap_cons]
def RcAt (CL : Addr) (lc : Addr) (H0 : Hp) (H' : Hp) (a : Addr) (t : T3) : Prop := ∃ an ar, an ≠ lc /\ (ar ≠ lc /\ Nw H0 a /\ Nw H0 an /\ Nw H0 ar) /\ RecAt CL H' a (Bz t.1 an ar) /\ H' an = some (.lst (t.2.1.map V.int)) /\ H' ar = some (.lst (t.2.2.map V.int))
def Hk (CL : Addr) (H : Hp) (lc ag : Addr) (ts : List T3) (i : Nat) (σ : St) (H' : Hp) : Prop := Kp H H' /\ ∃ (ac : List Addr) (x3 x4 x5 x6 : Option V), H' lc = some (.lst (ac.map V.ref)) /\ Paired (RcAt CL lc H H') ac (ts.take i) /\ σ = [some (.ref ag), some (.ref lc), some (.int (((ts.take i).flatMap gg).length : Nat)), x3, x4, x5, x6]
theorem xq (R : Rec K CL sk) (N : Jk XC K aN aR) (h : jI K CL vs H Q E) : jr XC K aN aR CL (t9 CL) (Ex Q) (start gJ vs) H := by
  obtain ⟨ag, ts, rfl, hg, hok, hn, k⟩ := h
  obtain ⟨Uo, OR, OS⟩ := N.nums
  obtain ⟨Up, OT, NH⟩ := N.rows
  unfold jr
  kd_p
  refine ⟨VF _, fun lc LK => ?_⟩
  kd_p
  have k0 := Kp.new (o := .lst []) LK
  refine Jf ts.length (Hk CL H lc ag ts) ⟨k0, [], none, none, none, none, aA, .nil, rfl⟩ ?_ ?_
  . rintro i σ' H1 hi ⟨kp, ac, x3, x4, x5, x6, hl, hp, rfl⟩ Qb hq
    obtain ⟨t, et⟩ : ∃ t, ts[i]? = some t := ⟨_, Vl hi⟩
    have Uq := hok t (VG et)
    have fl := Jl et
    have QL : ac.length <= 1000 := by
      rw [Paired.length hp, length_take]; omega
    generalize hA : (ts.take i).flatMap gg = A at fl hq ⊢
    generalize hC : (ts.drop (i + 1)).flatMap gg = C at fl
    rw [fl] at hg
    obtain ⟨kd, ns, r⟩ := t
    obtain ⟨Ur, Us⟩ := Uq
    obtain ⟨bs, Ut, hx, _, _⟩ := uJ Ur
    have Uu : ns.length = bs.length := (Prod.mk.inj hx).1
    obtain ⟨pa, as, f1, f2, f3, f4⟩ := (OS kd).2 bs Ut
    have g1 := kp.bI hg
    kd_p
    refine df g1 ?_
    kd_p
    have big : decide ((A.length : Int) < ((A ++ (gg (kd, ns, r) ++ C)).map V.int).length) = true := by
      apply Vw
      rw [Vg, VB, VB]
      unfold gg
      rw [VC]
      omega
    rw [big]
    refine hq _ ?_
    kd_p
    have enc : (A ++ (gg (kd, ns, r) ++ C)).map V.int = A.map V.int ++ (V.int kd :: (ns.map V.int ++ ((if cF kd = true then (V.int (r.length : Nat)) :: r.map V.int else []) ++ C.map V.int))) := by
      unfold gg
      by_cases hr : cF kd = true
      . simp [hr]
      . simp [hr]
    rw [enc] at g1
    refine bj g1 (i := A.length) (Hj (K := K) (by rw [Vg])) ?_
    kd_p
    refine G0 OR ?_
    kd_p
    refine ⟨VF _, fun e0 Uv => ⟨kd, rfl, ?_⟩⟩
    rw [f1]
    have ke := Kp.new (o := .tup []) Uv
    have Bw := kp.trans ke
    have g2 := ke.bI g1
    kd_p
    refine Jb (f3 _) ?_
    kd_p
    rw [Vg, f2, <- Uu]
    refine JU g2 fun nl QM => ?_
    have kn := Kp.new (o := .lst (yQ (A.map V.int ++ (V.int kd :: (ns.map V.int ++ ((if cF kd = true then (V.int (r.length : Nat)) :: r.map V.int else []) ++ C.map V.int)))) (some ((A.length : Int) + 1)) (some ((A.length : Int) + 1 + (ns.length : Nat))))) QM
    have QN : yQ (A.map V.int ++ (V.int kd :: (ns.map V.int ++ ((if cF kd = true then (V.int (r.length : Nat)) :: r.map V.int else []) ++ C.map V.int)))) (some ((A.length : Int) + 1)) (some ((A.length : Int) + 1 + (ns.length : Nat))) = ns.map V.int := by
      have e : A.map V.int ++ (V.int kd :: (ns.map V.int ++ ((if cF kd = true then (V.int (r.length : Nat)) :: r.map V.int else []) ++ C.map V.int))) = (A.map V.int ++ [V.int kd]) ++ (ns.map V.int ++ ((if cF kd = true then (V.int (r.length : Nat)) :: r.map V.int else []) ++ C.map V.int)) := by simp
      rw [e]
      exact Ey (by simp) (by simp)
    rw [QN] at kn ⊢
    have g3 := kn.bI g2
    have yW := ke.get hl
    kd_p
    refine ⟨VF _, fun rl QO => ?_⟩
    have kr := Kp.new (o := .lst []) QO
    have g4 := kr.bI g3
    have Ny := (Bw.trans kn).trans kr
    have OU := kr.get (kn.get yW)
    have Uw : upd (upd H1 e0 (.tup [])) nl (.lst (ns.map V.int)) nl = some (.lst (ns.map V.int)) := aA
    have R9 := kr.get Uw
    have mono : ∀ {Ha Hb : Hp}, Kp Ha Hb -> ∀ a (t : T3), RcAt CL lc H Ha a t -> RcAt CL lc H Hb a t :=
      fun kk a t ⟨an, ar, n1, n2, h1, h2, h3⟩ => ⟨an, ar, n1, n2, kk.recAt h1, kk.get h2, kk.get h3⟩
    have Ux : nl ≠ lc := Ne.symm (aF yW QM)
    have fin : ∀ {H5 : Hp} {LL : Addr} {off : Int} {QP : Option V}, Kp H1 H5 -> H5 nl = some (.lst (ns.map V.int)) -> H5 LL = some (.lst (r.map V.int)) -> (LL ≠ lc /\ Nw H LL) -> off = ((A ++ gg (kd, ns, r)).length : Nat) ->
        d9 (tBM K "list" dI (ai 1) (aj (g9 CL (t9 CL) [] E0 (aj (ai 3) (aj (ai 5) (aj (ai 6) aE)))) aE)) { nx := Hk CL H lc ag ts (i + 1), ct := Hk CL H lc ag ts (i + 1), rt := Q, bk := aX (ai 1) (Ex Q) } [some (.ref ag), some (.ref lc), some (.int off), some (.int kd), QP, some (.ref nl), some (.ref LL)] H5 := by
      intro H5 LL off QP k5 Uy Uz Sa LM
      have QQ := k5.get hl
      kd_p
      refine ⟨.inl ⟨rfl, _, SqL.of QQ⟩, ?_⟩
      kd_p
      refine oT rfl fun x H6 nx hx k6 => ?_
      kd_p
      have OV := k6.get QQ
      refine oS OV (by rw [Vg, Vr]; omega) ?_
      have w6 := KpX.write (o := .lst (ac.map V.ref ++ [.ref x])) OV rfl
      have xne : x ≠ lc := Ne.symm (aF QQ nx)
      have JY : ∀ a (t : T3), RcAt CL lc H H6 a t -> RcAt CL lc H (upd H6 lc (.lst (ac.map V.ref ++ [.ref x]))) a t :=
        fun a t ⟨an, ar, n1, n2, h1, h2, h3⟩ => ⟨an, ar, n1, n2, w6.recAt h1 (by
          obtain ⟨dx, h1⟩ := h1
          simpa using eE h1 OV (by intro z; cases z)), w6.get h2 rfl (by simpa using n1), w6.get h3 rfl (by simpa using n2.1)⟩
      refine ⟨((kp.trans k5).trans k6).over LK OV rfl, ac ++ [x], some (.int kd), QP, some (.ref nl), some (.ref LL), ?_, ?_, ?_⟩
      . rw [aA, map_append]; rfl
      . rw [wb et]
        exact iQ (JY x (kd, ns, r) ⟨nl, LL, Ux, ⟨Sa.1, (kp.trans k5).nw (.of nx), Bw.nw (.of QM), Sa.2⟩, hx, k6.get Uy, k6.get Uz⟩) (Paired.uL (Paired.uL hp (mono (k5.trans k6))) JY)
      . rw [LM, wb et, flatMap_append, hA]
        simp
    kd_p
    refine CV OT ?_
    kd_p
    cases er : mh.lookup kd with
    | none =>
      have hr : cF kd = false := by rw [<- DP, er]; rfl
      rw [(NH kd).1 er]
      refine oO ?_
      refine eG (fin ((ke.trans kn).trans kr) R9 ?_ ⟨Ne.symm (aF (kn.get yW) QO), (Bw.trans kn).nw (.of QO)⟩ ?_)
      . rw [aA]
        have : r = [] := Us hr
        rw [this]; rfl
      . rw [VB]
        unfold gg
        rw [hr]
        simp
        omega
    | some b =>
      have hr : cF kd = true := by rw [<- DP, er]; rfl
      obtain ⟨pb, q1, q2⟩ := (NH kd).2 b er
      rw [q1]
      refine oP ?_
      rw [hr, Vj rfl] at g4
      have e1 : A.map V.int ++ (V.int kd :: (ns.map V.int ++ (((V.int (r.length : Nat)) :: r.map V.int) ++ C.map V.int))) = (A.map V.int ++ (V.int kd :: ns.map V.int)) ++ (V.int (r.length : Nat) :: (r.map V.int ++ C.map V.int)) := by simp
      have e2 : A.map V.int ++ (V.int kd :: (ns.map V.int ++ (((V.int (r.length : Nat)) :: r.map V.int) ++ C.map V.int))) = (A.map V.int ++ (V.int kd :: (ns.map V.int ++ [V.int (r.length : Nat)]))) ++ (r.map V.int ++ C.map V.int) := by simp
      kd_p
      have ei : ((A.length : Int) + 1 + (ns.length : Nat)) = ((A.length + 1 + ns.length : Nat) : Int) := by omega
      rw [ei]
      refine bj g4 (i := A.length + 1 + ns.length) (v := .int (r.length : Nat)) (by rw [e1]; exact Hj (K := K) (by simp; omega)) ?_
      kd_p
      refine JU g4 fun p hp => ?_
      rw [e2, Ey (i := _) (j := _) (by simp; omega) (by simp; omega)]
      have k5 := Kp.new (o := .lst (r.map V.int)) hp
      refine vv ?_
      refine fin (((ke.trans kn).trans kr).trans k5) (k5.get R9) aA ⟨Ne.symm (aF OU hp), Ny.nw (.of hp)⟩ ?_
      rw [VB]
      unfold gg
      rw [hr]
      simp
      omega
  . rintro σ' H1 ⟨kp, ac, x3, x4, x5, x6, hl, hp, rfl⟩ Qb hq
    have g1 := kp.bI hg
    kd_p
    refine df g1 ?_
    kd_p
    rw [take_length, Vg]
    rw [VN (by omega)]
    refine hq _ ?_
    kd_p
    rw [take_length] at hp
    exact k H1 lc ac kp (.of LK) hl (Paired.uL hp fun a t ⟨an, ar, _, n2, h1, h2, h3⟩ => ⟨an, ar, h1, h2, h3, n2.2⟩)
end
section
variable {K : FG} {CO CU CC CL : Addr}
theorem wc (R : Rec K CC v5) (h : nP CC vs H Q E) : hG K (ends Q) (start jl vs) H := by
  obtain ⟨p, dx, as, rfl, hl, hp, k⟩ := h
  match as, hl with
  | [a, b, c], _ =>
  unfold hG
  kd_p
  refine ba hp R (by decide) (by rfl) fun H1 _ e1 k1 => ?_
  kd_p
  refine ba e1 R (by decide) (by rfl) fun H2 _ e2 k2 => ?_
  kd_p
  refine ba e2 R (by decide) (by rfl) fun H3 _ e3 k3 => ?_
  exact k H3 e3 ((k1.trans k2).trans k3)
theorem zE (R : Rec K CL sk) (h : t9 CL vs H Q E) : kR K (ends Q) (start mM vs) H := by
  obtain ⟨p, dx, as, rfl, hl, hp, k⟩ := h
  match as, hl with
  | [a, b, c], _ =>
  unfold kR
  kd_p
  refine ba hp R (by decide) (by rfl) fun H1 _ e1 k1 => ?_
  kd_p
  refine ba e1 R (by decide) (by rfl) fun H2 _ e2 k2 => ?_
  kd_p
  refine ba e2 R (by decide) (by rfl) fun H3 _ e3 k3 => ?_
  exact k H3 e3 ((k1.trans k2).trans k3)
abbrev qM (CO : Addr) : Sp := yx CO 7 fun as => [("number", as.getD 0 .non), ("direction", as.getD 1 .non), ("amount", as.getD 2 .non), ("capacity", as.getD 3 .non), ("energy", as.getD 4 .non), ("ramp", as.getD 5 .non), ("whole", as.getD 6 .non)]
theorem xr (R : Rec K CO cf) (h : qM CO vs H Q E) : jq K (ends Q) (start kP vs) H := by
  obtain ⟨p, dx, as, rfl, hl, hp, k⟩ := h
  match as, hl with
  | [a, b, c, d, e, f, g], _ =>
  unfold jq
  kd_p
  refine ba hp R (by decide) (by rfl) fun H1 _ e1 k1 => ?_
  kd_p
  refine ba e1 R (by decide) (by rfl) fun H2 _ e2 k2 => ?_
  kd_p
  refine ba e2 R (by decide) (by rfl) fun H3 _ e3 k3 => ?_
  kd_p
  refine ba e3 R (by decide) (by rfl) fun H4 _ e4 k4 => ?_
  kd_p
  refine ba e4 R (by decide) (by rfl) fun H5 _ e5 k5 => ?_
  kd_p
  refine ba e5 R (by decide) (by rfl) fun H6 _ e6 k6 => ?_
  kd_p
  refine ba e6 R (by decide) (by rfl) fun H7 _ e7 k7 => ?_
  exact k H7 e7 ((((((k1.trans k2).trans k3).trans k4).trans k5).trans k6).trans k7)
abbrev ub (CU : Addr) : Sp := yx CU 2 fun as => [("offer", as.getD 0 .non), ("taken", as.getD 1 .non), ("left", as.getD 1 .non), ("place", .int 0), ("place_sum", .int 0), ("paid", .int 0)]
theorem zF (R : Rec K CU iB) (h : ub CU vs H Q E) : kL K (ends Q) (start mG vs) H := by
  obtain ⟨p, dx, as, rfl, hl, hp, k⟩ := h
  match as, hl with
  | [a, b], _ =>
  unfold kL
  kd_p
  refine ba hp R (by decide) (by rfl) fun H1 _ e1 k1 => ?_
  kd_p
  refine ba e1 R (by decide) (by rfl) fun H2 _ e2 k2 => ?_
  kd_p
  refine ba e2 R (by decide) (by rfl) fun H3 _ e3 k3 => ?_
  kd_p
  refine ba e3 R (by decide) (by rfl) fun H4 _ e4 k4 => ?_
  kd_p
  refine ba e4 R (by decide) (by rfl) fun H5 _ e5 k5 => ?_
  kd_p
  refine ba e5 R (by decide) (by rfl) fun H6 _ e6 k6 => ?_
  exact k H6 e6 (((((k1.trans k2).trans k3).trans k4).trans k5).trans k6)
theorem Hl (b : Bool) (d : Int) (hd : d = 0 \/ d = 1) : decide (V.int (jF b) = V.int d) = (b == (d == 1)) := by
  rcases hd with rfl | rfl <;> cases b <;> rfl
def eV (K : FG) (CO : Addr) : Sp := fun vs H Q _ => ∃ (lo : Addr) (ad : Nat -> Addr) (os : List Offer) (d : Int), vs = [.ref lo, .int d] /\ d6 K CO H lo ad os /\ os.length <= 1000 /\ (d = 0 \/ d = 1) /\
  ∀ H' l (ix : List Nat), Kp H H' -> Nw H l -> ix = (range os.length).filter (fun i => (oAt os i).down == (d == 1)) -> H' l = some (.lst (ix.map fun i => V.ref (ad i))) -> Q (.ref l) H'
theorem zG (R : Rec K CO cf) (h : eV K CO vs H Q E) : kQ K (ends Q) (start mL vs) H := by
  obtain ⟨lo, ad, os, d, rfl, ho, hn, hd, k⟩ := h
  have hs := ho.sq
  unfold kQ
  kd_p
  refine ji (bx hs) ?_ (fun i => (oAt os i).down == (d == 1)) (fun i => .ref (ad i)) (fun i H' Ky Kf hi kp hy hf => ?_) fun D H' kp hD e => ?_
  . simp only [Vg, Vk]; rw [Vr]; omega
  . simp only [Vg, Vk] at hi
    have h1 := kp.recAt (ho.at_ i hi)
    rw [aZ _ hi]
    kd_p
    rw [Hl _ _ hd]
    refine bX (fun c => ?_) fun c => hf (VZ c) H' (Kp.refl _)
    kd_p
    exact hy c H' (Kp.refl _)
  . simp only [Vg, Vk] at e
    exact k H' D _ kp (.of hD) rfl e
theorem qN {lo : Addr} {ad : Nat -> Addr} {os : List Offer} {ix : List Nat} {f : Offer -> Bool} (ho : d6 K CO H lo ad os) (hx : ix = (range os.length).filter fun i => f (oAt os i)) (hl : H l = some (.lst (ix.map fun i => V.ref (ad i)))) :
    d6 K CO H l (fun j => ad (ix.getD j 0)) (os.filter f) := by
  have e : os.filter f = ix.map (oAt os) := by rw [hx, cx]
  have len : (os.filter f).length = ix.length := by rw [e, Vg]
  refine ⟨SqL.of ?_, fun j hj => ?_⟩
  . rw [hl, len]
    congr 2
    conv => lhs; rw [<- cc ix 0, Vz]
    rfl
  . rw [len] at hj
    obtain ⟨i, ei⟩ : ∃ i, ix[j]? = some i := ⟨_, Vl hj⟩
    have eg : ix.getD j 0 = i := by simp [List.getD, ei]
    have hi : i < os.length := by
      have := VG ei
      rw [hx] at this
      exact mem_range.mp (mem_filter.mp this).1
    have eo : oAt (os.filter f) j = oAt os i := by
      rw [e]
      unfold oAt
      simp [List.getD, Vt, ei]
    rw [eg, eo]
    exact ho.at_ i hi
def iE (K : FG) (CO : Addr) : Sp := fun vs H Q _ => ∃ (lo : Addr) (ad : Nat -> Addr) (os : List Offer), vs = [.ref lo] /\ d6 K CO H lo ad os /\ os.length <= 1000 /\ ∀ H', Kp H H' -> Q (.int ((os.filter fun o => o.whole).length : Nat)) H'
theorem wd (R : Rec K CO cf) (h : iE K CO vs H Q E) : ip K (ends Q) (start jv vs) H := by
  obtain ⟨lo, ad, os, rfl, ho, hn, k⟩ := h
  have hs := ho.sq
  unfold ip
  kd_p
  refine ji (bx hs) ?_ (fun i => (oAt os i).whole) (fun i => .ref (ad i)) (fun i H' Ky Kf hi kp hy hf => ?_) fun D H' kp hD e => ?_
  . simp only [Vg, Vk]; rw [Vr]; omega
  . simp only [Vg, Vk] at hi
    have h1 := kp.recAt (ho.at_ i hi)
    rw [aZ _ hi]
    kd_p
    refine bX (fun c => ?_) fun c => hf (VZ c) H' (Kp.refl _)
    kd_p
    exact hy c H' (Kp.refl _)
  . simp only [Vg, Vk] at e
    kd_p
    refine df (SqL.of e) ?_
    rw [Vg]
    have : (cQ (fun i => (oAt os i).whole) os.length).length = (os.filter fun o => o.whole).length := by rw [cx, Vg]; rfl
    rw [this]
    exact k H' kp
end
open Vbemah (State Quarter does)
structure KpS (S : Addr -> Prop) (H H' : Hp) : Prop where
  all : ∀ b o, H b = some o -> jT o = false -> ¬ S b -> H' b = some o
  tab : ∀ t, Tab H t -> Tab H' t
theorem KpX.s {S : Addr -> Prop} (k : KpX F H H') (h : ∀ b ∈ F, S b) : KpS S H H' := ⟨fun b o e i n => k.1 b o e i fun z => n (h b z), k.2⟩
theorem Kp.ks (k : Kp H H') : KpS S H H' := KpX.s k (by simp)
theorem KpX.ks (k : KpX [] H H') : KpS S H H' := KpX.s k (by simp)
theorem KpS.trans (a : KpS S H H1) (b : KpS S H1 H2) : KpS S H H2 := ⟨fun c o e i n => b.1 c o (a.1 c o e i n) i n, fun t x => b.2 t (a.2 t x)⟩
theorem KpS.mono {T : Addr -> Prop} (a : KpS S H H1) (h : ∀ b, S b -> T b) : KpS T H H1 := ⟨fun c o e i n => a.1 c o e i fun z => n (h c z), a.2⟩
theorem KpS.get (k : KpS S H H') {o : HO} (e : H b = some o) (hb : ¬ S b) (h : jT o = false := by rfl) : H' b = some o := k.1 b o e h hb
theorem KpS.recAt (k : KpS S H H') (h : RecAt C H a fs) (hF : ¬ S a) : RecAt C H' a fs := let ⟨dx, e⟩ := h; ⟨dx, k.get e hF⟩
theorem KpS.nw (k : KpS S H H1) (h : Nw H1 a) : S a \/ Nw H a := by
  by_cases c : S a
  . exact .inl c
  . refine .inr fun o e => ?_
    cases q : jT o with
    | true => rfl
    | false => exact absurd (h o (k.get e c q)) (by rw [q]; simp)
structure DA where
  an : Addr
  al : Addr
  au : Addr
  aq : Addr
  oa : Nat -> Addr
  ua : Nat -> Addr
  qa : Nat -> Addr
  pa : Nat -> Addr
  ya : Nat -> Addr
  pl : Nat -> List Int
  py : Nat -> List Int
def QR : Quarter := ⟨0, 0, 0, 0⟩
def qAt (qs : List Quarter) (j : Nat) : Quarter := qs.getD j QR
def qO (b : Bool) (A : DA) (last : Int) (hb : Bool) : List (Str × V) := [("begun", .bl b), ("needs", .ref A.an), ("offers", .ref A.al), ("last_number", .int last), ("has_bought", .bl hb), ("units", .ref A.au), ("quarters", .ref A.aq)]
abbrev bT : List Str := ["begun", "needs", "offers", "last_number", "has_bought", "units", "quarters"]
structure Cs where
  K : FG
  CD : Addr
  CO : Addr
  CU : Addr
  CQ : Addr
  T1 : Addr
  T2 : Addr
structure bz (C : Cs) (H : Hp) (d : Addr) (s : State) (A : DA) : Prop where
  dr : RecAt C.CD H d (qO s.opened A s.last s.buys)
  bV : H A.an = some (.lst [.int s.needUp, .int s.needDown])
  cy : H A.al = some (.lst ((range s.offers.length).map fun i => V.ref (A.oa i)))
  off : ∀ i, i < s.offers.length -> RecAt C.CO H (A.oa i) (zA (oAt s.offers i))
  uns : H A.au = some (.lst ((range s.units.length).map fun i => V.ref (A.ua i)))
  un : ∀ i, i < s.units.length -> RecAt C.CU H (A.ua i) (unF (A.oa i) (uAt s.units i))
  qus : H A.aq = some (.lst ((range s.quarters.length).map fun i => V.ref (A.qa i)))
  qu : ∀ j, j < s.quarters.length -> RecAt C.CQ H (A.qa j) (quF (qAt s.quarters j).target (A.pa j) (qAt s.quarters j).price (A.ya j) (qAt s.quarters j).called (qAt s.quarters j).cost)
  ql : ∀ j, j < s.quarters.length -> H (A.pa j) = some (.lst ((A.pl j).map V.int)) /\ H (A.ya j) = some (.lst ((A.py j).map V.int))
  n1 : A.an ≠ A.al /\ A.an ≠ A.au /\ A.an ≠ A.aq /\ A.al ≠ A.au /\ A.al ≠ A.aq /\ A.au ≠ A.aq
  n2 : ∀ j, j < s.quarters.length -> (A.pa j ≠ A.an /\ A.pa j ≠ A.al /\ A.pa j ≠ A.au /\ A.pa j ≠ A.aq) /\ (A.ya j ≠ A.an /\ A.ya j ≠ A.al /\ A.ya j ≠ A.au /\ A.ya j ≠ A.aq)
  inj : ∀ i j, i < s.units.length -> j < s.units.length -> A.ua i = A.ua j -> i = j
  t1 : Tab H C.T1
  t2 : Tab H C.T2
structure jJ (s : State) (A : DA) (d : Addr) (O : Addr -> Prop) : Prop where
  d : O d
  an : O A.an
  al : O A.al
  au : O A.au
  aq : O A.aq
  oa : ∀ i, i < s.offers.length -> O (A.oa i)
  ua : ∀ i, i < s.units.length -> O (A.ua i)
  qa : ∀ j, j < s.quarters.length -> O (A.qa j)
  pa : ∀ j, j < s.quarters.length -> O (A.pa j)
  ya : ∀ j, j < s.quarters.length -> O (A.ya j)
def DK (C : Cs) (H : Hp) (d : Addr) (s : State) (O : Addr -> Prop) : Prop := SInv s /\ ∃ A, bz C H d s A /\ jJ s A d O
section
variable {C : Cs} {H H' : Hp} {d : Addr} {s : State} {A : DA} {O S : Addr -> Prop}
theorem bz.frame (h : bz C H d s A) (i : jJ s A d O) (k : KpS S H H') (hs : ∀ b, O b -> ¬ S b) : bz C H' d s A :=
  ⟨k.recAt h.dr (hs _ i.d), k.get h.bV (hs _ i.an), k.get h.cy (hs _ i.al), fun j hj => k.recAt (h.off j hj) (hs _ (i.oa j hj)), k.get h.uns (hs _ i.au), fun j hj => k.recAt (h.un j hj) (hs _ (i.ua j hj)), k.get h.qus (hs _ i.aq), fun j hj => k.recAt (h.qu j hj) (hs _ (i.qa j hj)),
    fun j hj => ⟨k.get (h.ql j hj).1 (hs _ (i.pa j hj)), k.get (h.ql j hj).2 (hs _ (i.ya j hj))⟩, h.n1, h.n2, h.inj, k.tab _ h.t1, k.tab _ h.t2⟩
theorem bz.kp (h : bz C H d s A) (k : Kp H H') : bz C H' d s A :=
  ⟨k.recAt h.dr, k.get h.bV, k.get h.cy, fun j hj => k.recAt (h.off j hj), k.get h.uns, fun j hj => k.recAt (h.un j hj), k.get h.qus, fun j hj => k.recAt (h.qu j hj), fun j hj => ⟨k.get (h.ql j hj).1, k.get (h.ql j hj).2⟩, h.n1, h.n2, h.inj, k.tab _ h.t1, k.tab _ h.t2⟩
theorem jJ.mono {O' : Addr -> Prop} (i : jJ s A d O) (h : ∀ b, O b -> O' b) : jJ s A d O' := ⟨h _ i.d, h _ i.an, h _ i.al, h _ i.au, h _ i.aq, fun j hj => h _ (i.oa j hj), fun j hj => h _ (i.ua j hj), fun j hj => h _ (i.qa j hj), fun j hj => h _ (i.pa j hj), fun j hj => h _ (i.ya j hj)⟩
theorem DK.frame (h : DK C H d s O) (k : KpS S H H') (hs : ∀ b, O b -> ¬ S b) : DK C H' d s O := let ⟨i, A, h1, h2⟩ := h; ⟨i, A, h1.frame h2 k hs, h2⟩
theorem DK.mono {O' : Addr -> Prop} (h : DK C H d s O) (hO : ∀ b, O b -> O' b) : DK C H d s O' := let ⟨i, A, h1, h2⟩ := h; ⟨i, A, h1, h2.mono hO⟩
theorem bz.pI (h : bz C H d s A) : d6 C.K C.CO H A.al A.oa s.offers := ⟨SqL.of h.cy, h.off⟩
end
def cB (C : Cs) (H : Hp) (d : Addr) (O : Addr -> Prop) (r : State × List Int) (Q : VK) : Prop :=
  ∀ H' l, r.2.length <= 1000 -> DK C H' d r.1 (fun b => O b \/ Nw H b) -> KpS O H H' -> (O l \/ Nw H l) -> H' l = some (.lst (r.2.map V.int)) -> Q (.ref l) H'
section
variable {C : Cs} {H H1 : Hp} {d : Addr} {s s' : State} {O : Addr -> Prop} {Q : VK}
theorem cB.lst {ans : List Int} {xs : List V} (h : cB C H d O (s', ans) Q) (k : KpS O H H1) (hd : DK C H1 d s' (fun b => O b \/ Nw H b)) (hx : xs = ans.map V.int) (hl : ans.length <= 1000) : xs.length <= sizeLine /\ ∀ p, H1 p = none -> Q (.ref p) (upd H1 p (.lst xs)) := by
  refine ⟨by rw [hx, Vg, Vr]; omega, fun p hp => ?_⟩
  have kn := Kp.new (o := .lst xs) hp
  exact h _ p hl (hd.frame (S := fun _ => False) kn.ks fun _ _ z => z) (k.trans kn.ks) (k.nw (.of hp)) (by rw [aA, hx])
theorem DK.keep (h : DK C H d s O) (k : Kp H H1) : DK C H1 d s (fun b => O b \/ Nw H b) := (h.frame (S := fun _ => False) k.ks fun _ _ z => z).mono fun _ z => .inl z
end
theorem BA (f : Str) (v : V) : ∀ fs : List (Str × V), (bS f v fs).length <= fs.length + 1
  | [] => Vq _
  | (g, u) :: r => by
    show (if g = f then (g, v) :: r else (g, u) :: bS f v r).length <= _
    split
    . simp
    . have := BA f v r
      simp only [VC]; omega
section
variable {C : Cs}
def Hm (fs : List (Str × V)) (an al au aq : Addr) : List (Str × V) := bS "quarters" (.ref aq) (bS "units" (.ref au) (bS "has_bought" (.bl false) (bS "last_number" (.int 0) (bS "offers" (.ref al) (bS "needs" (.ref an) fs)))))
structure BB (C : Cs) (H H' : Hp) (p dx : Addr) (fs : List (Str × V)) (u dn : Int) (an al au aq : Addr) : Prop where
  rc : H' p = some (.ins C.CD dx (Hm fs an al au aq))
  han : H' an = some (.lst [.int u, .int dn])
  hal : H' al = some (.lst [])
  hau : H' au = some (.lst [])
  haq : H' aq = some (.lst [])
  ne : an ≠ al /\ an ≠ au /\ an ≠ aq /\ al ≠ au /\ al ≠ aq /\ au ≠ aq
  nw : Nw H an /\ Nw H al /\ Nw H au /\ Nw H aq
  kp : KpX [p] H H'
def dH (C : Cs) : Sp := fun vs H Q _ => ∃ (p dx : Addr) (fs : List (Str × V)) (u dn : Int), vs = [.ref p, .int u, .int dn] /\ H p = some (.ins C.CD dx fs) /\ fs.length <= 100 /\ ∀ H' an al au aq, BB C H H' p dx fs u dn an al au aq -> Q .non H'
theorem nwX (k : KpX F H H1) (h : Nw H1 a) (hF : a ∉ F) : Nw H a := fun o e => by
  cases q : jT o with
  | true => rfl
  | false => exact absurd (h o (k.1 a o e q hF)) (by rw [q]; simp)
theorem xt (R : Rec C.K C.CD bT) (h : dH C vs H Q E) : js C.K (ends Q) (start gK vs) H := by
  obtain ⟨p, dx, fs, u, dn, rfl, hp, hl, k⟩ := h
  unfold js
  have len : ∀ {n f v} {l : List (Str × V)}, l.length <= n -> (bS f v l).length <= n + 1 := fun {n f v l} h => by have := BA f v l; omega
  have dl : ∀ {n} {l : List (Str × V)}, l.length <= n -> n < 1000 -> decide (l.length < 1000) = true := fun h1 h2 => Vw (by omega)
  have l1 := len (f := "needs") (v := .ref 0) hl
  kd_p
  refine ⟨by show 2 <= sizeLine; decide, fun an han => ?_⟩
  have pa : p ≠ an := aF hp han
  have k1 := Kp.new (o := .lst [.int u, .int dn]) han
  have p1 := k1.get hp
  kd_p
  refine ba p1 R (by decide) (dl hl (by decide)) fun H2 _ p2 k2 => ?_
  have a2 : H2 an = some (.lst [.int u, .int dn]) := k2.get aA rfl (by simpa using pa.symm)
  kd_p
  refine ⟨VF _, fun al hal => ?_⟩
  have pb : p ≠ al := aF p2 hal
  have ab : an ≠ al := aF a2 hal
  have k3 := Kp.new (o := .lst []) hal
  have p3 := k3.get p2
  kd_p
  refine ba p3 R (by decide) (dl (len hl) (by decide)) fun H4 _ p4 k4 => ?_
  have a4 := k4.get (k3.get a2) rfl (by simpa using pa.symm)
  have b4 : H4 al = some (.lst []) := k4.get aA rfl (by simpa using pb.symm)
  kd_p
  refine ba p4 R (by decide) (dl (len (len hl)) (by decide)) fun H5 _ p5 k5 => ?_
  have a5 := k5.get a4 rfl (by simpa using pa.symm)
  have b5 := k5.get b4 rfl (by simpa using pb.symm)
  kd_p
  refine ba p5 R (by decide) (dl (len (len (len hl))) (by decide)) fun H6 _ p6 k6 => ?_
  have a6 := k6.get a5 rfl (by simpa using pa.symm)
  have b6 := k6.get b5 rfl (by simpa using pb.symm)
  kd_p
  refine ⟨VF _, fun au hau => ?_⟩
  have pc : p ≠ au := aF p6 hau
  have ac : an ≠ au := aF a6 hau
  have bc : al ≠ au := aF b6 hau
  have k7 := Kp.new (o := .lst []) hau
  have p7 := k7.get p6
  kd_p
  refine ba p7 R (by decide) (dl (len (len (len (len hl)))) (by decide)) fun H8 _ p8 k8 => ?_
  have a8 := k8.get (k7.get a6) rfl (by simpa using pa.symm)
  have b8 := k8.get (k7.get b6) rfl (by simpa using pb.symm)
  have c8 : H8 au = some (.lst []) := k8.get aA rfl (by simpa using pc.symm)
  kd_p
  refine ⟨VF _, fun aq haq => ?_⟩
  have pd : p ≠ aq := aF p8 haq
  have ad : an ≠ aq := aF a8 haq
  have bd : al ≠ aq := aF b8 haq
  have cd : au ≠ aq := aF c8 haq
  have k9 := Kp.new (o := .lst []) haq
  have p9 := k9.get p8
  kd_p
  refine ba p9 R (by decide) (dl (len (len (len (len (len hl))))) (by decide)) fun RE _ UA NI => ?_
  have Sb : KpX [p] H H2 := k1.x.trans k2
  have UB : KpX [p] H H4 := Sb.trans (k3.x.trans k4)
  have Sd : KpX [p] H H6 := (UB.trans k5).trans k6
  have Se : KpX [p] H H8 := Sd.trans (k7.x.trans k8)
  exact k RE an al au aq ⟨UA, NI.get (k9.get a8) rfl (by simpa using pa.symm), NI.get (k9.get b8) rfl (by simpa using pb.symm), NI.get (k9.get c8) rfl (by simpa using pc.symm), NI.get aA rfl (by simpa using pd.symm),
    ⟨ab, ac, ad, bc, bd, cd⟩, ⟨.of han, nwX Sb (.of hal) (by simpa using pb.symm), nwX Sd (.of hau) (by simpa using pc.symm), nwX Se (.of haq) (by simpa using pd.symm)⟩, Se.trans (k9.x.trans NI)⟩
theorem BB.NJ {u dn : Int} (r : BB C H H' p dx fs u dn an al au aq) (t1 : Tab H C.T1) (t2 : Tab H C.T2) {b : Bool} (hf : Hm fs an al au aq = qO b ⟨an, al, au, aq, fun _ => 0, fun _ => 0, fun _ => 0, fun _ => 0, fun _ => 0, fun _ => [], fun _ => []⟩ 0 false) :
    bz C H' p { opened := b, needUp := u, needDown := dn } ⟨an, al, au, aq, fun _ => 0, fun _ => 0, fun _ => 0, fun _ => 0, fun _ => 0, fun _ => [], fun _ => []⟩ := by
  refine ⟨⟨dx, ?_⟩, r.han, r.hal, fun i hi => absurd hi (VJ _), r.hau, fun i hi => absurd hi (VJ _), r.haq, fun i hi => absurd hi (VJ _), fun i hi => absurd hi (VJ _), r.ne, fun i hi => absurd hi (VJ _), fun i j hi => absurd hi (VJ _), r.kp.tab _ t1, r.kp.tab _ t2⟩
  rw [r.rc, hf]
theorem BB.into {u dn : Int} (r : BB C H H' p dx fs u dn an al au aq) {b : Bool} {O : Addr -> Prop} (hp : O p) : jJ { opened := b, needUp := u, needDown := dn } ⟨an, al, au, aq, fun _ => 0, fun _ => 0, fun _ => 0, fun _ => 0, fun _ => 0, fun _ => [], fun _ => []⟩ p (fun b => O b \/ Nw H b) :=
  ⟨.inl hp, .inr r.nw.1, .inr r.nw.2.1, .inr r.nw.2.2.1, .inr r.nw.2.2.2, fun i hi => absurd hi (VJ _), fun i hi => absurd hi (VJ _), fun i hi => absurd hi (VJ _), fun i hi => absurd hi (VJ _), fun i hi => absurd hi (VJ _)⟩
def zH (C : Cs) : Sp := fun vs H Q _ => ∃ (p dx : Addr), vs = [.ref p] /\ H p = some (.ins C.CD dx []) /\ Tab H C.T1 /\ Tab H C.T2 /\ ∀ H', KpX [p] H H' -> DK C H' p Vbemah.start (fun b => b = p \/ Nw H b) -> Q .non H'
theorem Ez {Cl : Addr} {sp : Sp} {ta : TE} {t : TA} {H : Hp} (q : ta σ H fun x H1 => ∃ a dx fs, x = .ref a /\ H1 a = some (.ins Cl dx fs) /\ fs.lookup m = none /\ t σ H1 fun vs H2 => sp (x :: (vs ++ [])) H2 Q E0) : AF Cl m sp [] E0 ta t σ H Q := q
theorem zI (R : Rec C.K C.CD bT) (h : zH C vs H Q E) : kT C.K C.CD (dH C) (ends Q) (start mO vs) H := by
  obtain ⟨p, dx, rfl, hp, t1, t2, k⟩ := h
  unfold kT
  kd_p
  refine ba hp R (by decide) (by rfl) fun H1 _ p1 k1 => ?_
  kd_p
  refine Ez ?_
  kd_p
  refine ⟨p, dx, _, rfl, p1, rfl, ?_⟩
  kd_p
  refine ⟨p, dx, _, 0, 0, rfl, p1, by decide, fun H' an al au aq r => ?_⟩
  refine k H' (k1.trans r.kp) ⟨B0, _, r.NJ (k1.tab _ t1) (k1.tab _ t2) (b := false) rfl, (r.into (O := fun b => b = p) rfl).mono fun b hb => ?_⟩
  rcases hb with hb | hb
  . exact .inl hb
  . by_cases c : b = p
    . exact .inl c
    . exact .inr (nwX k1 hb (by simpa using c))
def lists (H : Hp) (an ar : Addr) (t : T3) : Prop := H an = some (.lst (t.2.1.map V.int)) /\ H ar = some (.lst (t.2.2.map V.int))
def spH (C : Cs) (P : T3 -> State -> Prop) : Sp := fun vs H Q _ => ∃ (d an ar : Addr) (s : State) (O : Addr -> Prop) (t : T3), vs = [.ref d, .ref an, .ref ar] /\ DK C H d s O /\ ¬ O an /\ ¬ O ar /\ lists H an ar t /\ P t s /\ cB C H d O (does s (bp t)) Q
theorem Hn (R : Rec C.K C.CD bT) (h : spH C (fun t _ => ∃ u d, t = (0, [u, d], [])) vs H Q E) : vS C.K C.CD (dH C) (ends Q) (start zw vs) H := by
  obtain ⟨d, an, ar, s, O, t, rfl, ⟨inv, A, hd, hi⟩, nn, nr, ⟨hn, hr⟩, ⟨u, dn, rfl⟩, k⟩ := h
  obtain ⟨dx, hp⟩ := hd.dr
  unfold vS
  kd_p
  refine ba hp R (by decide) (by rfl) fun H1 _ p1 k1 => ?_
  have ne : an ≠ d := fun z => nn (by rw [z]; exact hi.d)
  have n1 := k1.get hn rfl (by simpa using ne)
  kd_p
  refine Ez ?_
  kd_p
  refine ⟨d, dx, _, rfl, p1, rfl, ?_⟩
  kd_p
  refine bj (i := 0) (SqL.of n1) rfl ?_
  kd_p
  refine bj (i := 1) (SqL.of n1) rfl ?_
  kd_p
  refine ⟨d, dx, _, u, dn, rfl, p1, Vn rfl, fun H2 bn bl bu bq r => ?_⟩
  have LN : DK C H2 d { opened := true, needUp := u, needDown := dn } (fun b => O b \/ Nw H b) := by
    refine ⟨EF u dn, _, r.NJ (k1.tab _ hd.t1) (k1.tab _ hd.t2) (b := true) rfl, (r.into (O := O) hi.d).mono fun b hb => ?_⟩
    rcases hb with hb | hb
    . exact .inl hb
    . by_cases c : b = d
      . rw [c]; exact .inl hi.d
      . exact .inr (nwX k1 hb (by simpa using c))
  kd_p
  exact cB.lst (ans := [0]) (s' := { opened := true, needUp := u, needDown := dn }) k ((k1.trans r.kp).s (by intro b hb; rw [mem_singleton.mp hb]; exact hi.d)) LN rfl (by decide)
end
theorem aT (h : RecAt C H a fs) (hl : H l = some (.lst xs)) : a ≠ l := by
  obtain ⟨dx, h⟩ := h
  exact eE h hl (by intro z; cases z)
theorem i6 {f1 f2 : Str} {v1 v2 : V} {r1 r2 : List (Str × V)} (h1 : RecAt C1 H a ((f1, v1) :: r1)) (h2 : RecAt C2 H b ((f2, v2) :: r2)) (ne : f1 ≠ f2) : a ≠ b := by
  rintro rfl
  obtain ⟨dx, h1⟩ := h1
  obtain ⟨dy, h2⟩ := h2
  rw [h1] at h2
  injection Option.some.inj h2 with _ _ z
  injection z with z _
  exact ne (Prod.mk.inj z).1
section
variable {C : Cs} {H H' : Hp} {d : Addr} {s : State} {A : DA}
theorem bz.LO (h : bz C H d s A) {i : Nat} (hi : i < s.offers.length) : d ≠ A.oa i := i6 h.dr (h.off i hi) (by decide)
theorem bz.QS (h : bz C H d s A) {i : Nat} (hi : i < s.units.length) : d ≠ A.ua i := i6 h.dr (h.un i hi) (by decide)
theorem bz.QT (h : bz C H d s A) {i : Nat} (hi : i < s.quarters.length) : d ≠ A.qa i := i6 h.dr (h.qu i hi) (by decide)
theorem bz.put (h : bz C H d s A) (k : KpX [d] H H') {b : Bool} {A' : DA} {last : Int} {hb : Bool} (hr : RecAt C.CD H' d (qO b A' last hb)) (eo : A'.oa = A.oa /\ A'.ua = A.ua /\ A'.qa = A.qa /\ A'.pa = A.pa /\ A'.ya = A.ya /\ A'.pl = A.pl /\ A'.py = A.py) (el : A'.an = A.an /\ A'.al = A.al /\ A'.au = A.au /\ A'.aq = A.aq) : bz C H' d { s with opened := b, last := last, buys := hb } A' := by
  obtain ⟨an, al, au, aq, oa, ua, qa, pa, ya, pl, py⟩ := A'
  obtain ⟨rfl, rfl, rfl, rfl, rfl, rfl, rfl⟩ := eo
  obtain ⟨rfl, rfl, rfl, rfl⟩ := el
  refine ⟨hr, k.get h.bV rfl ?_, k.get h.cy rfl ?_, fun i hi => k.recAt (h.off i hi) ?_, k.get h.uns rfl ?_, fun i hi => k.recAt (h.un i hi) ?_, k.get h.qus rfl ?_, fun i hi => k.recAt (h.qu i hi) ?_, fun i hi => ⟨k.get (h.ql i hi).1 rfl ?_, k.get (h.ql i hi).2 rfl ?_⟩, h.n1, h.n2, h.inj, k.tab _ h.t1, k.tab _ h.t2⟩
  . simpa using (aT h.dr h.bV).symm
  . simpa using (aT h.dr h.cy).symm
  . simpa using (h.LO hi).symm
  . simpa using (aT h.dr h.uns).symm
  . simpa using (h.QS hi).symm
  . simpa using (aT h.dr h.qus).symm
  . simpa using (h.QT hi).symm
  . simpa using (aT h.dr (h.ql i hi).1).symm
  . simpa using (aT h.dr (h.ql i hi).2).symm
theorem bz.Ho (h : bz C H d s A) (k : KpX [A.an] H H') {u dn : Int} (hn : H' A.an = some (.lst [.int u, .int dn])) : bz C H' d { s with needUp := u, needDown := dn } A := by
  refine ⟨k.recAt h.dr ?_, hn, k.get h.cy rfl ?_, fun i hi => k.recAt (h.off i hi) ?_, k.get h.uns rfl ?_, fun i hi => k.recAt (h.un i hi) ?_, k.get h.qus rfl ?_, fun i hi => k.recAt (h.qu i hi) ?_, fun i hi => ⟨k.get (h.ql i hi).1 rfl ?_, k.get (h.ql i hi).2 rfl ?_⟩, h.n1, h.n2, h.inj, k.tab _ h.t1, k.tab _ h.t2⟩
  . simpa using aT h.dr h.bV
  . simpa using h.n1.1.symm
  . simpa using aT (h.off i hi) h.bV
  . simpa using h.n1.2.1.symm
  . simpa using aT (h.un i hi) h.bV
  . simpa using h.n1.2.2.1.symm
  . simpa using aT (h.qu i hi) h.bV
  . simpa using (h.n2 i hi).1.1
  . simpa using (h.n2 i hi).2.1
end
section
variable {C : Cs}
theorem BC (R : Rec C.K C.CD bT) (h : spH C (fun t _ => ∃ d q, t = (3, [d, q], []) /\ (d = 0 \/ d = 1)) vs H Q E) : mT C.K (ends Q) (start pj vs) H := by
  obtain ⟨d, an, ar, s, O, t, rfl, ⟨inv, A, hd, hi⟩, nn, nr, ⟨hn, hr⟩, ⟨dn, q, rfl, Jm⟩, k⟩ := h
  have we := hd.dr
  unfold mT
  kd_p
  refine bj (i := 1) (SqL.of hn) rfl ?_
  kd_p
  refine bj (i := 0) (SqL.of hn) rfl ?_
  have go : ∀ {u v : Int} {H1 : Hp}, KpX [A.an] H H1 -> H1 A.an = some (.lst [.int u, .int v]) -> does s (bp (3, [dn, q], [])) = ({ s with needUp := u, needDown := v }, [0]) -> aX (bH (aj (tC (.int 0)) aE)) (ends Q) [some (.ref d), some (.ref an), some (.ref ar)] H1 := by
    intro u v H1 k1 e1 ed
    rw [ed] at k
    kd_p
    have h1 := hd.Ho k1 e1
    exact cB.lst k (k1.s (by intro b hb; rw [mem_singleton.mp hb]; exact hi.an)) ⟨EH inv u v, A, h1, ⟨.inl hi.d, .inl hi.an, .inl hi.al, .inl hi.au, .inl hi.aq, fun i hj => .inl (hi.oa i hj), fun i hj => .inl (hi.ua i hj), fun j hj => .inl (hi.qa j hj), fun j hj => .inl (hi.pa j hj), fun j hj => .inl (hi.ya j hj)⟩⟩ rfl (by decide)
  rcases Jm with rfl | rfl
  . refine qt (i := 0) hd.bV (by show 0 < 2; decide) ?_
    exact go (u := q) (v := s.needDown) (KpX.write hd.bV rfl) aA rfl
  . refine qt (i := 1) hd.bV (by show 1 < 2; decide) ?_
    exact go (u := s.needUp) (v := q) (KpX.write hd.bV rfl) aA rfl
theorem wg (R : Rec C.K C.CD bT) (h : spH C (fun t _ => t = (5, [], [])) vs H Q E) : iq C.K (ends Q) (start jw vs) H := by
  obtain ⟨d, an, ar, s, O, t, rfl, ⟨inv, A, hd, hi⟩, nn, nr, ⟨hn, hr⟩, rfl, k⟩ := h
  have we := hd.dr
  have ng : does s (bp (5, [], [])) = if s.quarters.isEmpty = false then (s, [-4]) else ({ s with buys := false, units := [] }, [0]) := rfl
  rw [ng] at k
  unfold iq
  kd_p
  refine df (SqL.of hd.qus) ?_
  kd_p
  rw [Vg, Vk]
  refine bX (fun c => ?_) fun c => ?_
  . have c := Vn c
    have e : s.quarters.isEmpty = false := by
      cases q : s.quarters with
      | nil => rw [q] at c; simp at c
      | cons => rfl
    rw [Vj e] at k
    kd_p
    exact cB.lst k (Kp.refl H).ks (DK.keep ⟨inv, A, hd, hi⟩ (Kp.refl H)) rfl (by decide)
  . have c : ¬ (0 : Int) < (s.quarters.length : Nat) := fun z => c (Vw z)
    have e0 : s.quarters = [] := List.length_eq_zero_iff.mp (by omega)
    rw [Vh (by rw [e0]; simp)] at k
    obtain ⟨dx, hp⟩ := we
    kd_p
    refine ⟨VF _, fun NK hau => ?_⟩
    have k1 := Kp.new (o := .lst []) hau
    have bZ := hd.kp k1
    obtain ⟨dx, p1⟩ := bZ.dr
    kd_p
    refine ba p1 R (by decide) (by rfl) fun H2 _ p2 k2 => ?_
    kd_p
    refine ba p2 R (by decide) (by rfl) fun H3 _ p3 k3 => ?_
    have UC : Nw H NK := .of hau
    have u1 : (upd H NK (.lst [])) NK = some (.lst []) := aA
    have u3 : H3 NK = some (.lst []) := k3.get (k2.get u1 rfl (by simpa using (aT bZ.dr u1).symm)) rfl (by simpa using (aT bZ.dr u1).symm)
    have kk := k2.trans k3
    have j5 : bz C H3 d { s with buys := false, units := [] } { A with au := NK } := by
      refine ⟨⟨dx, p3⟩, kk.get bZ.bV rfl ?_, kk.get bZ.cy rfl ?_, fun i hi => kk.recAt (bZ.off i hi) ?_, u3, fun i hi => absurd hi (VJ _), kk.get bZ.qus rfl ?_, fun j hj => ?_, fun j hj => ?_, ⟨hd.n1.1, ?_, hd.n1.2.2.1, ?_, hd.n1.2.2.2.2.1, ?_⟩, fun j hj => ?_, fun i j hi => absurd hi (VJ _), kk.tab _ bZ.t1, kk.tab _ bZ.t2⟩
      . simpa using (aT bZ.dr bZ.bV).symm
      . simpa using (aT bZ.dr bZ.cy).symm
      . simpa using (bZ.LO hi).symm
      . simpa using (aT bZ.dr bZ.qus).symm
      . exact absurd (show j < s.quarters.length from hj) (by rw [e0]; simp)
      . exact absurd (show j < s.quarters.length from hj) (by rw [e0]; simp)
      . exact aF hd.bV hau
      . exact aF hd.cy hau
      . exact (aF hd.qus hau).symm
      . exact absurd (show j < s.quarters.length from hj) (by rw [e0]; simp)
    kd_p
    exact cB.lst k ((k1.x.trans kk).s (by intro b hb; rw [mem_singleton.mp hb]; exact hi.d)) ⟨B3 inv e0, _, j5, ⟨.inl hi.d, .inl hi.an, .inl hi.al, .inr UC, .inl hi.aq, fun i hj => .inl (hi.oa i hj), fun i hj => absurd hj (VJ _), fun j hj => .inl (hi.qa j hj), fun j hj => .inl (hi.pa j hj), fun j hj => .inl (hi.ya j hj)⟩⟩ rfl (by decide)
end
section
variable {C : Cs}
theorem BD {us : List Unit_} {u : Unit_} (h : u ∈ us) : ∃ i, i < us.length /\ uAt us i = u := by
  obtain ⟨i, hi, e⟩ := mem_iff_getElem.mp h
  refine ⟨i, hi, ?_⟩
  have := bP hi
  rw [Vl hi, e] at this
  exact (Option.some.inj this).symm
def eW (C : Cs) : Sp := fun vs H Q _ => ∃ (lu : Addr) (ad oa : Nat -> Addr) (us : List Unit_) (n : Int), vs = [.ref lu, .int n] /\ qL C.K C.CO C.CU H lu ad oa us /\ us.length <= 1000 /\ (∀ H', Kp H H' -> (us.find? fun u => u.offer.num == n) = none -> Q .non H') /\
  ∀ H' i, Kp H H' -> i < us.length -> (us.find? fun u => u.offer.num == n) = some (uAt us i) -> (uAt us i).offer.num = n -> Q (.ref (ad i)) H'
theorem find_none {us : List Unit_} {n : Int} (h : ∀ j, j < us.length -> (uAt us j).offer.num ≠ n) : (us.find? fun u => u.offer.num == n) = none := by
  rw [List.find?_eq_none]
  intro u hu
  obtain ⟨i, hi, rfl⟩ := BD hu
  simpa using h i hi
theorem find_some {us : List Unit_} {n : Int} {i : Nat} (hi : i < us.length) (h : ∀ j, j < i -> (uAt us j).offer.num ≠ n) (e : (uAt us i).offer.num = n) : (us.find? fun u => u.offer.num == n) = some (uAt us i) := by
  rw [List.find?_eq_some_iff_getElem]
  have eu : us[i] = uAt us i := by
    have := bP hi
    rw [Vl hi] at this
    exact Option.some.inj this
  refine ⟨by simpa using e, i, hi, eu, fun j hj => ?_⟩
  have ej : us[j] = uAt us j := by
    have := bP (show j < us.length by omega)
    rw [Vl (show j < us.length by omega)] at this
    exact Option.some.inj this
  rw [ej]
  simpa using h j hj
theorem zJ (R : Rec C.K C.CO cf) (R2 : Rec C.K C.CU iB) (h : eW C vs H Q E) : kZ C.K (ends Q) (start mV vs) H := by
  obtain ⟨lu, ad, oa, us, n, rfl, hu, hl, k1, k2⟩ := h
  have hs := hu.sq
  unfold kZ
  kd_p
  refine vz (bx hs) (fun i σ H' => Kp H H' /\ (∀ j, j < i -> (uAt us j).offer.num ≠ n) /\ ∃ x2, σ = [some (.ref lu), some (.int n), x2]) ⟨Kp.refl _, fun j hj => absurd hj (VJ _), none, rfl⟩ (fun i σ' H' p => p.1) ?_ ?_
  . rintro i σ' H' H2 hi ⟨kp, dF, x2, rfl⟩ k3
    simp only [Vg, Vk] at hi
    obtain ⟨h1, h2⟩ := (kp.trans k3).un (hu.at_ i hi)
    rw [aZ _ hi]
    kd_p
    refine bX (fun c => ?_) fun c => ?_
    . have c : (uAt us i).offer.num = n := by
        have := Vn c
        injection this
      kd_p
      exact k2 H2 i (kp.trans k3) hi (find_some hi dF c) c
    . have c : (uAt us i).offer.num ≠ n := fun z => c (Vw (by rw [z]))
      refine eG ⟨kp.trans k3, fun j hj => ?_, _, rfl⟩
      rcases Nat.lt_succ_iff_lt_or_eq.mp hj with h | h
      . exact dF j h
      . rw [h]; exact c
  . rintro σ' H' ⟨kp, dF, x2, rfl⟩
    simp only [Vg, Vk] at dF
    kd_p
    exact k1 H' kp (find_none dF)
theorem bz.j6 (h : bz C H d s A) (inv : SInv s) : qL C.K C.CO C.CU H A.au A.ua A.oa s.units := by
  refine ⟨SqL.of h.uns, fun i hi => ⟨h.un i hi, ?_⟩⟩
  cases hb : s.buys with
  | false => rw [(inv.none hb).1] at hi; exact absurd hi (VJ _)
  | true =>
    have e := inv.uns hb
    have hl : i < s.offers.length := by rw [<- e, Vg]; exact hi
    have eo : (uAt s.units i).offer = oAt s.offers i := by
      have h1 := bP hi
      have h2 : (s.units.map fun u => u.offer)[i]? = some (uAt s.units i).offer := by rw [Vt, h1]; rfl
      rw [e, cI hl] at h2
      exact (Option.some.inj h2).symm
    rw [eo]
    exact h.off i hl
theorem xu (R : Rec C.K C.CD bT) (R2 : Rec C.K C.CU iB) (h : spH C (fun t _ => ∃ n, t = (6, [n], [])) vs H Q E) : jx C.K (eW C) (ends Q) (start kY vs) H := by
  obtain ⟨d, an, ar, s, O, t, rfl, ⟨inv, A, hd, hi⟩, nn, nr, ⟨hn, hr⟩, ⟨n, rfl⟩, k⟩ := h
  have we := hd.dr
  have ng : does s (bp (6, [n], [])) = match s.unit n with | none => (s, [-4]) | some u => (s, [0, u.taken]) := rfl
  rw [ng] at k
  unfold State.unit at k
  unfold jx
  kd_p
  refine bj (i := 0) (SqL.of hn) rfl ?_
  kd_p
  refine ⟨A.au, A.ua, A.oa, s.units, n, rfl, hd.j6 inv, by have := inv.cE; omega, fun H1 k1 e => ?_, fun H1 i k1 FD e en => ?_⟩
  . rw [e] at k
    kd_p
    refine oP ?_
    kd_p
    exact cB.lst k k1.ks (DK.keep ⟨inv, A, hd, hi⟩ k1) rfl (Vn rfl)
  . rw [e] at k
    have hu := k1.recAt (hd.un i FD)
    kd_p
    refine oO ?_
    kd_p
    exact cB.lst k k1.ks (DK.keep ⟨inv, A, hd, hi⟩ k1) rfl (Vn rfl)
theorem wj (R : Rec C.K C.CD bT) (R2 : Rec C.K C.CU iB) (R3 : Rec C.K C.CO cf) (h : spH C (fun t _ => ∃ d, t = (7, [d], []) /\ (d = 0 \/ d = 1)) vs H Q E) : ir C.K (ends Q) (start jy vs) H := by
  obtain ⟨d, an, ar, s, O, t, rfl, ⟨inv, A, hd, hi⟩, nn, nr, ⟨hn, hr⟩, ⟨dn, rfl, Jm⟩, k⟩ := h
  have we := hd.dr
  have few := inv.cE
  have ng : does s (bp (7, [dn], [])) = (s, 0 :: (s.units.filter fun u => u.offer.down == (dn == 1)).map fun u => u.taken) := rfl
  rw [ng] at k
  unfold ir
  kd_p
  refine ⟨by show 1 <= sizeLine; decide, fun l0 Dq => ?_⟩
  have k0 := Kp.new (o := .lst [.int 0]) Dq
  have bZ := hd.kp k0
  have pJ := bZ.dr
  have hU := bZ.j6 inv
  have hs := hU.sq
  have z0 : upd H l0 (.lst [.int 0]) l0 = some (.lst [.int 0]) := aA
  kd_p
  refine ji (bx hs) ?_ (fun i => (uAt s.units i).offer.down == (dn == 1)) (fun i => .int (uAt s.units i).taken) (fun i H' Ky Kf hj kp hy hf => ?_) fun D H' kp hD e => ?_
  . simp only [Vg, Vk]; rw [Vr]; omega
  . simp only [Vg, Vk] at hj
    obtain ⟨h1, h2⟩ := kp.un (hU.at_ i hj)
    have HU := kp.get (k0.get hn)
    rw [aZ _ hj]
    kd_p
    refine bj (i := 0) (SqL.of HU) rfl ?_
    kd_p
    rw [Hl _ _ Jm]
    refine bX (fun c => ?_) fun c => hf (VZ c) H' (Kp.refl _)
    kd_p
    exact hy c H' (Kp.refl _)
  . simp only [Vg, Vk] at e
    have z1 := kp.get z0
    refine ⟨l0, D, _, _, rfl, rfl, z1, e, ?_, fun p hp => ?_⟩
    . have := jU (fun i => (uAt s.units i).offer.down == (dn == 1)) s.units.length
      rw [Vg, Vr]
      simp only [VC, length_nil]
      omega
    . refine (cB.lst k (k0.trans kp).ks (DK.keep ⟨inv, A, hd, hi⟩ (k0.trans kp)) ?_ ?_).2 p hp
      . show V.int 0 :: _ = V.int 0 :: _
        congr 1
        have e2 : (s.units.filter fun u => u.offer.down == (dn == 1)) = (cQ (fun i => (uAt s.units i).offer.down == (dn == 1)) s.units.length).map (uAt s.units) := by
          conv => lhs; rw [<- tU s.units]
          rw [filter_map]; rfl
        rw [e2, Vz, Vz]; rfl
      . have := Wf (fun u : Unit_ => u.offer.down == (dn == 1)) s.units
        simp only [VC, Vg]
        omega
theorem BE (os : List Offer) (need : Int) (xs : List Int) (hl : xs.length = os.length) : covers os need xs = (r6 os xs && decide (need <= xs.sum)) := by
  unfold covers r6 total
  rw [beq_iff_eq.mpr hl, Bool.true_and]
  congr 1
  rw [hl, min_self]
  have ez : os.zip xs = (range os.length).map fun i => (oAt os i, xs.getD i 0) := by
    apply V0
    intro i
    by_cases hi : i < os.length
    . rw [aZ _ hi, zip_eq_zipWith, getElem?_zipWith, cI hi, Vl (show i < xs.length by omega)]
      simp [List.getD, Vl (show i < xs.length by omega)]
    . rw [VL (by simp; omega), VL (by simp; omega)]
  rw [ez, all_map]
  rfl
theorem xw (R : Rec C.K C.CD bT) (h : spH C (fun t _ => ∃ d xs, t = (8, [d], xs) /\ (d = 0 \/ d = 1) /\ xs.length <= 1000) vs H Q E) : jz C.K (eV C.K C.CO) (r8 C.K C.CO) (nO C.K) (lB C.K C.CO) (ends Q) (start lh vs) H := by
  obtain ⟨d, an, ar, s, O, t, rfl, ⟨inv, A, hd, hi⟩, nn, nr, ⟨hn, hr⟩, ⟨dn, xs, rfl, Jm, hxl⟩, k⟩ := h
  have we := hd.dr
  have few := inv.few
  have ng : does s (bp (8, [dn], xs)) = if xs.length ≠ (s.side (dn == 1)).length then (s, [-4]) else if covers (s.side (dn == 1)) (s.need (dn == 1)) xs = false then (s, [-5]) else (s, [0, cost (s.side (dn == 1)) xs]) := rfl
  rw [ng] at k
  unfold jz
  kd_p
  refine bj (i := 0) (SqL.of hn) rfl ?_
  kd_p
  refine ⟨A.al, A.oa, s.offers, dn, rfl, hd.pI, by omega, Jm, fun H1 l ix k1 nl z9 el => ?_⟩
  have ho := qN (f := fun o => o.down == (dn == 1)) (k1.cy hd.pI) z9 el
  have yE : s.offers.filter (fun o => o.down == (dn == 1)) = s.side (dn == 1) := rfl
  rw [yE] at ho
  have hb : OsB (s.side (dn == 1)) := ⟨by have := inv.pZ (dn == 1); omega, fun i hj => inv.ofb _ (mem_filter.mp (cJ hj)).1⟩
  have Mu := k1.get hr
  have bZ := hd.kp k1
  have pJ := bZ.dr
  have uK : (s.side (dn == 1)).length = ix.length := by rw [<- yE, cx, Vg, <- z9]
  have keep : ∀ {H2 : Hp}, Kp H1 H2 -> DK C H2 d s (fun b => O b \/ Nw H b) := fun k2 => DK.keep ⟨inv, A, hd, hi⟩ (k1.trans k2)
  kd_p
  refine df (SqL.of Mu) ?_
  kd_p
  refine df (SqL.of el) ?_
  kd_p
  rw [Vg, Vg]
  refine bX (fun c => ?_) fun c => ?_
  . have c : xs.length ≠ (s.side (dn == 1)).length := by
      rw [uK]
      intro z
      rw [z] at c
      simp at c
    rw [Vj c] at k
    kd_p
    exact cB.lst k k1.ks (keep (Kp.refl _)) rfl (Vn rfl)
  . have c : xs.length = (s.side (dn == 1)).length := by
      rw [uK]
      have : V.int (xs.length : Nat) = V.int (ix.length : Nat) := by simpa using c
      injection this with this
      omega
    rw [Vh (by simpa using c), BE _ _ _ c] at k
    kd_p
    refine ⟨l, ar, _, _, xs, rfl, ho, SqL.of Mu, fun H2 k2 => ?_⟩
    have LP : ∀ {H3 : Hp}, Kp H1 H3 -> ∀ {Qv : VK}, Qv (.int (s.need (dn == 1))) H3 -> b9 C.K (.ref A.an) (.int dn) H3 Qv := fun {H3} k3 {Qv} q => by
      have Sf := k3.get bZ.bV
      rcases Jm with rfl | rfl
      . exact bj (i := 0) (SqL.of Sf) rfl q
      . exact bj (i := 1) (SqL.of Sf) rfl q
    kd_p
    cases eb : r6 (s.side (dn == 1)) xs with
    | false =>
      rw [eb, Bool.false_and, Vj rfl] at k
      refine oP (oP ?_)
      kd_p
      exact cB.lst k (k1.trans k2).ks (keep k2) rfl (Vn rfl)
    | true =>
      rw [eb, Bool.true_and] at k
      refine oO ?_
      have Hq := k2.recAt pJ
      have z7 := k2.get (k1.get hn)
      kd_p
      refine bj (i := 0) (SqL.of z7) rfl ?_
      refine LP k2 ?_
      kd_p
      refine ⟨ar, xs, _, rfl, SqL.of (k2.get Mu), ?_⟩
      kd_p
      refine bX (fun c2 => ?_) fun c2 => ?_
      . have c2 : decide (s.need (dn == 1) <= xs.sum) = false := by simpa using c2
        rw [Vj c2] at k
        kd_p
        exact cB.lst k (k1.trans k2).ks (keep k2) rfl (Vn rfl)
      . have c2 : decide (s.need (dn == 1) <= xs.sum) = true := by simpa using c2
        rw [Vh (by rw [c2]; simp)] at k
        kd_p
        refine ⟨l, ar, _, _, xs, rfl, k2.cy ho, SqL.of (k2.get Mu), hb, fun H3 k3 => ?_⟩
        kd_p
        exact cB.lst k (k1.trans (k2.trans k3)).ks (keep (k2.trans k3)) rfl (Vn rfl)
end
section
variable {C : Cs}
theorem bz.early {s : State} (hu : s.units = []) (hq : s.quarters = []) (dr : RecAt C.CD H d (qO s.opened A s.last s.buys)) (bV : H A.an = some (.lst [.int s.needUp, .int s.needDown])) (cy : H A.al = some (.lst ((range s.offers.length).map fun i => V.ref (A.oa i))))
    (off : ∀ i, i < s.offers.length -> RecAt C.CO H (A.oa i) (zA (oAt s.offers i))) (uns : H A.au = some (.lst [])) (qus : H A.aq = some (.lst [])) (n1 : A.an ≠ A.al /\ A.an ≠ A.au /\ A.an ≠ A.aq /\ A.al ≠ A.au /\ A.al ≠ A.aq /\ A.au ≠ A.aq) (t1 : Tab H C.T1) (t2 : Tab H C.T2) : bz C H d s A :=
  ⟨dr, bV, cy, off, by rw [uns, hu]; rfl, fun i hi => absurd hi (by rw [hu]; simp), by rw [qus, hq]; rfl, fun i hi => absurd hi (by rw [hq]; simp), fun i hi => absurd hi (by rw [hq]; simp), n1, fun i hi => absurd hi (by rw [hq]; simp), fun i j hi => absurd hi (by rw [hu]; simp), t1, t2⟩
theorem jJ.early {s : State} {A : DA} {d : Addr} {O : Addr -> Prop} (hu : s.units = []) (hq : s.quarters = []) (h1 : O d) (h2 : O A.an) (h3 : O A.al) (h4 : O A.au) (h5 : O A.aq) (h6 : ∀ i, i < s.offers.length -> O (A.oa i)) : jJ s A d O :=
  ⟨h1, h2, h3, h4, h5, h6, fun i hi => absurd hi (by rw [hu]; simp), fun i hi => absurd hi (by rw [hq]; simp), fun i hi => absurd hi (by rw [hq]; simp), fun i hi => absurd hi (by rw [hq]; simp)⟩
theorem BF (R : Rec C.K C.CD bT) (R3 : Rec C.K C.CO cf) (h : spH C (fun t s => (∃ n, t = (2, [n], [])) /\ s.buys = false) vs H Q E) : mS C.K (ends Q) (start ph vs) H := by
  obtain ⟨d, an, ar, s, O, t, rfl, ⟨inv, A, hd, hi⟩, nn, nr, ⟨hn, hr⟩, ⟨⟨n, rfl⟩, hb⟩, k⟩ := h
  have we := hd.dr
  have few := inv.few
  obtain ⟨JZ, EA⟩ := inv.none hb
  have ho := hd.pI
  have hs := ho.sq
  have ng : does s (bp (2, [n], [])) = if (s.offers.any fun o => o.num == n) = true then ({ s with offers := s.offers.filter fun o => o.num != n }, [0]) else (s, [-4]) := rfl
  rw [ng] at k
  unfold mS
  kd_p
  refine ji (bx hs) ?_ (fun i => (oAt s.offers i).num != n) (fun i => .ref (A.oa i)) (fun i H' Ky Kf hj kp hy hf => ?_) fun D H1 k1 hD e => ?_
  . simp only [Vg, Vk]; rw [Vr]; omega
  . simp only [Vg, Vk] at hj
    have h1 := kp.recAt (ho.at_ i hj)
    have HU := kp.get hn
    rw [aZ _ hj]
    kd_p
    refine bj (i := 0) (SqL.of HU) rfl ?_
    kd_p
    have eb : (!decide (V.int (oAt s.offers i).num = V.int n)) = ((oAt s.offers i).num != n) := by
      by_cases c : (oAt s.offers i).num = n
      . rw [c]; simp
      . have : ¬ V.int (oAt s.offers i).num = V.int n := fun z => c (by injection z)
        simp [c, this]
    rw [eb]
    refine bX (fun c => ?_) fun c => hf (VZ c) H' (Kp.refl _)
    kd_p
    exact hy c H' (Kp.refl _)
  . simp only [Vg, Vk] at e
    have bZ := hd.kp k1
    have pJ := bZ.dr
    have so := SqL.of (K := C.K) bZ.cy
    generalize z9 : cQ (fun i => (oAt s.offers i).num != n) s.offers.length = ix at e
    have ef : s.offers.filter (fun o => o.num != n) = ix.map (oAt s.offers) := by rw [<- z9, cx]; rfl
    kd_p
    refine df (SqL.of e) ?_
    kd_p
    refine df so ?_
    kd_p
    rw [Vg, Vg, Vk]
    have EB : ((s.offers.any fun o => o.num == n) = true) ↔ ix.length ≠ s.offers.length := by
      have e1 : ix.length = (s.offers.filter fun o => o.num != n).length := by rw [ef, Vg]
      rw [e1, List.any_eq_true]
      constructor
      . rintro ⟨o, ho, hn⟩ z
        have := List.length_filter_eq_length_iff.mp z o ho
        rw [eq_of_beq hn] at this
        simp at this
      . intro z
        refine Classical.byContradiction fun QH => z (List.length_filter_eq_length_iff.mpr fun o ho => ?_)
        have : ¬ (o.num == n) = true := fun w => QH ⟨o, ho, w⟩
        simpa using this
    refine bX (fun c => ?_) fun c => ?_
    . have c : ix.length = s.offers.length := by
        have := Vn c
        injection this with this
        omega
      rw [Vh (fun z => EB.mp z c)] at k
      kd_p
      exact cB.lst k (KpX.ks k1) (DK.keep ⟨inv, A, hd, hi⟩ k1) rfl (Vn rfl)
    . have c : ix.length ≠ s.offers.length := fun z => c (Vw (by rw [z]))
      rw [Vj (EB.mpr c)] at k
      obtain ⟨dx, p1⟩ := pJ
      kd_p
      refine ba p1 R (by decide) (by rfl) fun H2 _ p2 k2 => ?_
      have D2 : H2 D = some (.lst (ix.map fun i => V.ref (A.oa i))) := k2.get e rfl (by simpa using (aT bZ.dr e).symm)
      have nD : Nw H D := .of hD
      have NL : d6 C.K C.CO H2 D (fun j => A.oa (ix.getD j 0)) (s.offers.filter fun o => o.num != n) := by
        have h1 := qN (K := C.K) (f := fun o => o.num != n) bZ.pI z9.symm e
        refine ⟨SqL.of ?_, fun j hj => ?_⟩
        . rw [D2]
          congr 2
          have len : (s.offers.filter fun o => o.num != n).length = ix.length := by rw [ef, Vg]
          rw [len]
          conv => lhs; rw [<- cc ix 0, Vz]
          rfl
        . refine k2.recAt (h1.at_ j hj) ?_
          simpa using (i6 bZ.dr (h1.at_ j hj) (by decide)).symm
      have UD : H2 D = some (.lst ((range (s.offers.filter fun o => o.num != n).length).map fun j => V.ref (A.oa (ix.getD j 0)))) := by
        rw [D2]
        congr 2
        have len : (s.offers.filter fun o => o.num != n).length = ix.length := by rw [ef, Vg]
        rw [len]
        conv => lhs; rw [<- cc ix 0, Vz]
        rfl
      have j5 : bz C H2 d { s with offers := s.offers.filter fun o => o.num != n } { A with al := D, oa := fun j => A.oa (ix.getD j 0) } := by
        refine bz.early JZ EA ⟨dx, p2⟩ (k2.get bZ.bV rfl ?_) UD NL.at_ (k2.get (by rw [bZ.uns, JZ]; rfl) rfl ?_) (k2.get (by rw [bZ.qus, EA]; rfl) rfl ?_) ⟨aF hd.bV hD, hd.n1.2.1, hd.n1.2.2.1, (aF hd.uns hD).symm, (aF hd.qus hD).symm, hd.n1.2.2.2.2.2⟩ (k2.tab _ bZ.t1) (k2.tab _ bZ.t2)
        . simpa using (aT bZ.dr bZ.bV).symm
        . simpa using (aT bZ.dr bZ.uns).symm
        . simpa using (aT bZ.dr bZ.qus).symm
      kd_p
      refine cB.lst k ((k1.x.trans k2).s (by intro b hb; rw [mem_singleton.mp hb]; exact hi.d)) ⟨EG inv hb _, _, j5, jJ.early JZ EA (.inl hi.d) (.inl hi.an) (.inr nD) (.inl hi.au) (.inl hi.aq) fun j hj => .inl ?_⟩ rfl (Vn rfl)
      have hj : j < ix.length := by
        have : j < (s.offers.filter fun o => o.num != n).length := hj
        rw [ef, Vg] at this
        exact this
      obtain ⟨i, ei⟩ : ∃ i, ix[j]? = some i := ⟨_, Vl hj⟩
      have eg : ix.getD j 0 = i := by simp [List.getD, ei]
      show O (A.oa (ix.getD j 0))
      rw [eg]
      have : i ∈ cQ (fun i => (oAt s.offers i).num != n) s.offers.length := by rw [z9]; exact VG ei
      exact hi.oa i (mem_range.mp (mem_filter.mp this).1)
theorem sm {K : FG} {ta tv : TE} {rd : V -> V -> Hp -> VK -> Prop} {D : Ends} {H : Hp} (q : ta σ H fun x H1 => ∃ a C dx fs v, x = .ref a /\ H1 a = some (.ins C dx fs) /\ Cls K C /\ fj K C f /\ fs.lookup f = some v /\
  tv σ H1 fun y H2 => rd v y H2 fun z H3 => ∃ Kw FU, H3 a = some (.ins C Kw FU) /\ FU.length < 1000 /\ D.nx σ (upd H3 a (.ins C Kw (bS f z FU)))) : nu K ta tv rd f D σ H := q
theorem Jn {d : Int} (h : d = 0 \/ d = 1) : jF (d == 1) = d := by rcases h with rfl | rfl <;> rfl
theorem wk (R : Rec C.K C.CD bT) (R3 : Rec C.K C.CO cf) (h : spH C (fun t s => (∃ d q p e r w, t = (1, [d, q, p, e, r, w], []) /\ (d = 0 \/ d = 1) /\ (w = 0 \/ w = 1) /\ (1 <= q /\ q <= 1000000000) /\ (0 <= p /\ p <= 1000000) /\ (-1000000 <= e /\ e <= 1000000) /\ (1 <= r /\ r <= 1000000000)) /\ s.buys = false) vs H Q E) :
    il C.K 24 (iE C.K C.CO) (eV C.K C.CO) 8 C.CO (qM C.CO) (ends Q) (start ju vs) H := by
  obtain ⟨d, an, ar, s, O, t, rfl, ⟨inv, A, hd, hi⟩, nn, nr, ⟨hn, hr⟩, ⟨⟨dn, q, p, e, r, w, rfl, Jm, hw, hq, hp, he, Sg⟩, hb⟩, k⟩ := h
  have we := hd.dr
  have few := inv.few
  obtain ⟨JZ, EA⟩ := inv.none hb
  have ho := hd.pI
  have hs := ho.sq
  have ng : does s (bp (1, [dn, q, p, e, r, w], [])) = if 24 <= s.offers.length then (s, [-4]) else if w = 1 /\ 8 <= ((s.side (dn == 1)).filter fun o => o.whole).length then (s, [-5])
    else ({ s with last := s.last + 1, offers := s.offers ++ [{ num := s.last + 1, down := dn == 1, q := q, price := p, energy := e, ramp := r, whole := w == 1 }] }, [0, s.last + 1]) := rfl
  rw [ng] at k
  have ew : decide (V.int w = V.int 1) = (w == 1) := by rcases hw with rfl | rfl <;> rfl
  unfold il
  kd_p
  refine bj (i := 0) (SqL.of hn) rfl ?_
  kd_p
  refine bj (i := 5) (SqL.of hn) rfl ?_
  kd_p
  rw [ew]
  refine df hs ?_
  kd_p
  rw [Vg, Vk]
  refine bX (fun c => ?_) fun c => ?_
  . have c := Vn c
    rw [Vj (by omega)] at k
    kd_p
    exact cB.lst k (Kp.refl H).ks (DK.keep ⟨inv, A, hd, hi⟩ (Kp.refl H)) rfl (Vn rfl)
  . have c : ¬ (24 : Int) <= (s.offers.length : Nat) := fun z => c (Vw z)
    rw [Vh (by omega)] at k
    have rest : ∀ {H1 : Hp}, Kp H H1 -> cB C H d O ({ s with last := s.last + 1, offers := s.offers ++ [{ num := s.last + 1, down := dn == 1, q := q, price := p, energy := e, ramp := r, whole := w == 1 }] }, [0, s.last + 1]) Q -> (w = 1 -> ((s.side (dn == 1)).filter fun o => o.whole).length < 8) ->
        aH (nu C.K (ai 0) (tC (.int 1)) F8 "last_number") (aH (br (g9 C.CO (qM C.CO) [] E0 (aj (aI C.K (ai 0) "last_number") (aj (ai 3) (aj (tOp (b9 C.K) (ai 1) (tC (.int 1))) (aj (tOp (b9 C.K) (ai 1) (tC (.int 2))) (aj (tOp (b9 C.K) (ai 1) (tC (.int 3))) (aj (tOp (b9 C.K) (ai 1) (tC (.int 4))) (aj (ai 4) aE)))))))) (aC 5)) (aH (d9 (tBM C.K "list" dI (aI C.K (ai 0) "offers") (aj (ai 5) aE))) (aX (bH (aj (tC (.int 0)) (aj (aI C.K (ai 5) "number") aE)))))) (ends Q) [some (.ref d), some (.ref an), some (.ref ar), some (.int dn), some (.bl (w == 1)), none] H1 := by
      intro H1 k1 kk Ox
      have bZ := hd.kp k1
      obtain ⟨dx, p1⟩ := bZ.dr
      have OW := k1.get hn
      kd_p
      refine sm ?_
      kd_p
      refine ⟨d, C.CD, dx, _, _, rfl, p1, R.cl, R.no _ (by decide), rfl, ?_⟩
      kd_p
      refine ⟨s.last, 1, rfl, rfl, dx, _, p1, Vn rfl, ?_⟩
      have k2 : KpX [d] H1 (upd H1 d (.ins C.CD dx (bS "last_number" (.int (s.last + 1)) (qO s.opened A s.last s.buys)))) := KpX.II p1
      have p2 : RecAt C.CD (upd H1 d (.ins C.CD dx (bS "last_number" (.int (s.last + 1)) (qO s.opened A s.last s.buys)))) d (qO s.opened A (s.last + 1) s.buys) := ⟨dx, aA⟩
      generalize upd H1 d (.ins C.CD dx (bS "last_number" (.int (s.last + 1)) (qO s.opened A s.last s.buys))) = H2 at k2 p2 ⊢
      have hd2 := bZ.put k2 p2 ⟨rfl, rfl, rfl, rfl, rfl, rfl, rfl⟩ ⟨rfl, rfl, rfl, rfl⟩
      have z7 := k2.get OW rfl (by
        have : an ≠ d := fun z => nn (by rw [z]; exact hi.d)
        simpa using this)
      kd_p
      refine bj (i := 1) (SqL.of z7) rfl ?_
      kd_p
      refine bj (i := 2) (SqL.of z7) rfl ?_
      kd_p
      refine bj (i := 3) (SqL.of z7) rfl ?_
      kd_p
      refine bj (i := 4) (SqL.of z7) rfl ?_
      kd_p
      refine oT rfl fun x H3 nx hx k3 => ?_
      have j5 := hd2.kp k3
      have LQ := j5.dr
      kd_p
      refine ⟨.inl ⟨rfl, _, SqL.of j5.cy⟩, ?_⟩
      kd_p
      refine oS j5.cy (by rw [Vg, Vk, Vr]; show s.offers.length < _; omega) ?_
      have k4 := KpX.write (o := .lst ((range s.offers.length).map (fun i => V.ref (A.oa i)) ++ [.ref x])) j5.cy rfl
      have a4 : upd H3 A.al (.lst ((range s.offers.length).map (fun i => V.ref (A.oa i)) ++ [.ref x])) A.al = some (.lst ((range s.offers.length).map (fun i => V.ref (A.oa i)) ++ [.ref x])) := aA
      have NM : KpS (fun b => O b) H3 (upd H3 A.al (.lst ((range s.offers.length).map (fun i => V.ref (A.oa i)) ++ [.ref x]))) := k4.s (by intro b hb; rw [mem_singleton.mp hb]; exact hi.al)
      generalize upd H3 A.al (.lst ((range s.offers.length).map (fun i => V.ref (A.oa i)) ++ [.ref x])) = H4 at k4 a4 NM ⊢
      have UE : x ≠ A.al := aT hx j5.cy
      have QU := k4.recAt hx (by simpa using UE)
      have UG : O x \/ Nw H x := by
        have : Nw H1 x \/ x = d := by
          by_cases z : x = d
          . exact .inr z
          . exact .inl (nwX k2 (.of nx) (by simpa using z))
        rcases this with z | z
        . exact .inr (k1.nw z)
        . exact .inl (by rw [z]; exact hi.d)
      let o : Offer := { num := s.last + 1, down := dn == 1, q := q, price := p, energy := e, ramp := r, whole := w == 1 }
      have LM : RecAt C.CO H4 x (zA o) := by
        obtain ⟨dy, QU⟩ := QU
        refine ⟨dy, ?_⟩
        rw [QU]
        show some (HO.ins C.CO dy [("number", .int (s.last + 1)), ("direction", .int dn), ("amount", .int q), ("capacity", .int p), ("energy", .int e), ("ramp", .int r), ("whole", .bl (w == 1))]) = some (HO.ins C.CO dy [("number", .int (s.last + 1)), ("direction", .int (jF (dn == 1))), ("amount", .int q), ("capacity", .int p), ("energy", .int e), ("ramp", .int r), ("whole", .bl (w == 1))])
        rw [Jn Jm]
      have UH : bz C H4 d { s with last := s.last + 1, offers := s.offers ++ [o] } { A with oa := fun i => if i < s.offers.length then A.oa i else x } := by
        refine bz.early JZ EA (k4.recAt LQ ?_) (k4.get j5.bV rfl ?_) ?_ (fun i hj => ?_) (k4.get (by rw [j5.uns]; show some (HO.lst ((range s.units.length).map _)) = _; rw [JZ]; rfl) rfl ?_) (k4.get (by rw [j5.qus]; show some (HO.lst ((range s.quarters.length).map _)) = _; rw [EA]; rfl) rfl ?_) hd.n1 (k4.tab _ j5.t1) (k4.tab _ j5.t2)
        . simpa using aT LQ j5.cy
        . simpa using hd.n1.1
        . rw [a4]
          congr 2
          show _ = (range (s.offers ++ [o]).length).map _
          rw [VB, List.length_singleton, range_succ, map_append]
          congr 1
          . refine VU fun i hj => ?_
            show V.ref (A.oa i) = V.ref (if i < s.offers.length then A.oa i else x)
            rw [Vj (mem_range.mp hj)]
          . show [V.ref x] = [V.ref (if s.offers.length < s.offers.length then A.oa s.offers.length else x)]
            rw [Vh (VO _)]
        . have hj : i < s.offers.length + 1 := by
            have : i < (s.offers ++ [o]).length := hj
            rw [VB] at this
            exact this
          show RecAt C.CO H4 (if i < s.offers.length then A.oa i else x) (zA (oAt (s.offers ++ [o]) i))
          by_cases c2 : i < s.offers.length
          . rw [Vj c2]
            have : oAt (s.offers ++ [o]) i = oAt s.offers i := by unfold oAt; exact pB c2
            rw [this]
            exact k4.recAt (j5.off i c2) (by simpa using aT (j5.off i c2) j5.cy)
          . rw [Vh c2]
            have : oAt (s.offers ++ [o]) i = o := by
              unfold oAt
              rw [pC (by omega), show i - s.offers.length = 0 by omega]; rfl
            rw [this]
            exact LM
        . simpa using hd.n1.2.2.2.1.symm
        . simpa using hd.n1.2.2.2.2.1.symm
      kd_p
      refine cB.lst kk ((k1.ks.trans (k2.s (by intro b hb; rw [mem_singleton.mp hb]; exact hi.d))).trans (k3.ks.trans NM)) ⟨B2 inv hb rfl ⟨by show 0 <= q; omega, hq.2, hp.1, hp.2, he.1, he.2, Sg.1, Sg.2⟩ (by omega) (fun UI => Ox (eq_of_beq UI)), _, UH, jJ.early JZ EA (.inl hi.d) (.inl hi.an) (.inl hi.al) (.inl hi.au) (.inl hi.aq) fun i hj => ?_⟩ rfl (Vn rfl)
      show O (if i < s.offers.length then A.oa i else x) \/ Nw H (if i < s.offers.length then A.oa i else x)
      by_cases c2 : i < s.offers.length
      . rw [Vj c2]; exact .inl (hi.oa i c2)
      . rw [Vh c2]; exact UG
    kd_p
    refine bX (fun cw => ?_) fun cw => ?_
    . have cw : w = 1 := eq_of_beq cw
      kd_p
      refine ⟨A.al, A.oa, s.offers, dn, rfl, ho, by omega, Jm, fun H1 l ix k1 nl z9 el => ?_⟩
      have OD := qN (K := C.K) (f := fun o => o.down == (dn == 1)) (k1.cy ho) z9 el
      kd_p
      refine ⟨l, _, _, rfl, OD, VH (Wf _ _) (by omega), fun H2 k2 => ?_⟩
      kd_p
      refine bX (fun c8 => ?_) fun c8 => ?_
      . have c8 := Vn c8
        have QV : 8 <= ((s.side (dn == 1)).filter fun o => o.whole).length := by
          show 8 <= ((s.offers.filter fun o => o.down == (dn == 1)).filter fun o => o.whole).length
          omega
        rw [Vj ⟨cw, QV⟩] at k
        kd_p
        exact cB.lst k (KpX.ks (k1.trans k2)) (DK.keep ⟨inv, A, hd, hi⟩ (k1.trans k2)) rfl (Vn rfl)
      . have c8 : ¬ (8 : Int) <= (((s.offers.filter fun o => o.down == (dn == 1)).filter fun o => o.whole).length : Nat) := fun z => c8 (Vw z)
        have QV : ((s.side (dn == 1)).filter fun o => o.whole).length < 8 := by
          show ((s.offers.filter fun o => o.down == (dn == 1)).filter fun o => o.whole).length < 8
          omega
        rw [Vh (by intro z; have := z.2; omega)] at k
        exact eG (rest (k1.trans k2) k fun _ => QV)
    . have cw : w ≠ 1 := fun z => cw (by rw [z]; rfl)
      rw [Vh (fun z => cw z.1)] at k
      exact oO (eG (rest (Kp.refl H) k fun z => absurd z cw))
end
open Vbemah (find)
theorem Hr (aQ : List (Key × V)) (k : Key) (v : V) : (putK aQ k v).length <= aQ.length + 1 := by
  unfold putK
  split
  . simp
  . simp
theorem Jo {td ty : TE} {H : Hp} {Q : VK} (q : td σ H fun x H1 => ty σ H1 fun y H2 => ∃ a v, x = .ref a /\ CF H2 a y (some v) /\ Q v H2) : Gm td ty σ H Q := q
theorem Jp {td ty tv : TE} {D : Ends} {H : Hp} (q : tv σ H fun v H1 => td σ H1 fun x H2 => ty σ H2 fun y H3 => ∃ a H4, x = .ref a /\ EW H3 a y v H4 /\ D.nx σ H4) : Gn td ty tv D σ H := q
theorem jK {H : Hp} {Q : VK} (h : H l = some (.lst xs)) (hb : H b = some (.lst zs)) (hz : xs.length + zs.length <= sizeLine) (q : ∀ p, H p = none -> Q (.ref p) (upd H p (.lst (xs ++ zs)))) : qh (.ref l) (.ref b) H Q := ⟨l, b, xs, zs, rfl, rfl, h, hb, hz, q⟩
section
variable {C : Cs}
def bsM (s : State) (i : Nat) : List Int := bought (s.side (i == 1)) (s.need (i == 1))
theorem Fj {oa ua : Nat -> Addr} (inv : SInv s) (off : ∀ i, i < s.offers.length -> RecAt C.CO H (oa i) (zA (oAt s.offers i))) {us : List Unit_} (hl : us.length <= s.offers.length) (un : ∀ i, i < us.length -> RecAt C.CU H (ua i) (unF (oa i) (uAt us i))) :
    ∀ i j, i < us.length -> j < us.length -> ua i = ua j -> i = j := by
  intro i j hi hj e
  obtain ⟨dx, h1⟩ := un i hi
  obtain ⟨dy, h2⟩ := un j hj
  rw [e, h2] at h1
  injection Option.some.inj h1 with _ _ z
  injection z with z _
  have z2 := (Prod.mk.inj z).2
  injection z2 with z2
  obtain ⟨da, g1⟩ := off i (by omega)
  obtain ⟨db, g2⟩ := off j (by omega)
  rw [z2, g1] at g2
  injection Option.some.inj g2 with _ _ w
  injection w with w _
  have w2 := (Prod.mk.inj w).2
  injection w2 with w2
  exact pR ⟨inv.nodup, fun o ho => (inv.ofb o ho).q0⟩ (by omega) (by omega) w2
theorem LR (R : Rec C.K C.CD bT) (R3 : Rec C.K C.CO cf) (h : spH C (fun t s => t = (4, [], []) /\ s.buys = false) vs H Q E) :
    C8 C.K (eV C.K C.CO) (nc C.K C.CO C.T1) (lB C.K C.CO) C.CU (ub C.CU) (ends Q) (start Hd vs) H := by
  obtain ⟨d, an, ar, s, O, t, rfl, ⟨inv, A, hd, hi⟩, nn, nr, ⟨hn, hr⟩, ⟨rfl, hb⟩, k⟩ := h
  have we := hd.dr
  have few := inv.few
  obtain ⟨JZ, EA⟩ := inv.none hb
  have ho := hd.pI
  unfold C8
  kd_p
  intro td Sh
  have k0 := Kp.new (o := .dK []) Sh
  have t0 : upd H td (.dK []) td = some (.dK []) := aA
  generalize upd H td (.dK []) = H0 at k0 t0 ⊢
  kd_p
  refine ⟨VF _, fun lb Si => ?_⟩
  have k1 := Kp.new (o := .lst []) Si
  have b1 : upd H0 lb (.lst []) lb = some (.lst []) := aA
  have t1 := k1.get t0
  have UJ : Nw H lb := k0.nw (.of Si)
  generalize upd H0 lb (.lst []) = H1 at k1 b1 t1 ⊢
  have Bw := k0.trans k1
  have bZ := hd.kp Bw
  have pJ := bZ.dr
  have ne1 := SqL.of (K := C.K) bZ.bV
  kd_p
  refine jj (El (K := C.K) (a := A.an) (xs := [.int s.needUp, .int s.needDown])) (fun i σ H' => Kp H H' /\ ∃ aQ x6 x7 x8 x9 FA FC, H' td = some (.dK aQ) /\ aQ.length <= 100 * i /\ H' lb = some (.lst (((range i).map fun j => (bsM s j).sum - s.need (j == 1)).map V.int)) /\
      (∀ o ∈ s.offers, (if o.down = true then 1 else 0) < i -> f7 aQ (Sum.inl o.num) = some (.int (find (s.boughtOf o.down) o.num))) /\
      σ = [some (.ref d), some (.ref an), some (.ref ar), some (.ref td), some (.ref lb), some (.int ((range i).map fun j => cost (s.side (j == 1)) (bsM s j)).sum), x6, x7, x8, x9, FA, FC])
    ⟨Bw, [], none, none, none, none, none, none, t1, Vq _, b1, fun o _ z => absurd z (VJ _), rfl⟩ (fun i σ' H' p => SqL.of (p.1.get hd.bV)) ?_ ?_
  . rintro i σ' H' H2 OX ⟨kp, aQ, x6, x7, x8, x9, FA, FC, ht, UK, OY, LS, rfl⟩ k2
    have OX : i < 2 := OX
    have z8 := kp.trans k2
    have UL : ([.int s.needUp, .int s.needDown] : List V)[i]? = some (.int (s.need (i == 1))) := by
      match i, OX with
      | 0, _ => rfl
      | 1, _ => rfl
    have NN : ((i : Nat) : Int) = 0 \/ ((i : Nat) : Int) = 1 := by omega
    have QW : (((i : Nat) : Int) == 1) = (i == 1) := by
      match i, OX with
      | 0, _ => rfl
      | 1, _ => rfl
    rw [UL]
    have Hq := z8.recAt we
    have Sj := k2.get ht
    have Mv := k2.get OY
    kd_p
    refine ⟨A.al, A.oa, s.offers, (i : Nat), rfl, z8.cy ho, by omega, NN, fun H3 l ix k3 nl z9 el => ?_⟩
    rw [QW] at z9
    have HJ := z8.trans k3
    have QX := qN (K := C.K) (f := fun o => o.down == (i == 1)) (HJ.cy ho) z9 el
    have yE : s.offers.filter (fun o => o.down == (i == 1)) = s.side (i == 1) := rfl
    rw [yE] at QX
    have hB : OsB (s.side (i == 1)) := ⟨by have := inv.pZ (i == 1); omega, fun j hj => inv.ofb _ (mem_filter.mp (cJ hj)).1⟩
    have hW : (oG (s.side (i == 1))).length <= 8 := by
      have := inv.whole (i == 1)
      rw [cx, Vg] at this
      exact this
    have NO := (rf (inv.pY (i == 1)) (s.need (i == 1))).1
    kd_p
    refine ⟨l, _, s.side (i == 1), s.need (i == 1), rfl, QX, hB, inv.pY (i == 1), hW, HJ.tab _ hd.t1, fun H4 la k4 UM ea => ?_⟩
    have Ny := HJ.trans k4
    have UN := k4.cy QX
    have OZ := k4.get (k3.get Sj)
    have Sk := k4.get (k3.get Mv)
    have Sl := UN.sq
    have Sm := SqL.of (K := C.K) ea
    have UO : Nw H td := .of Sh
    have NP : l ≠ td := eE (k4.get el) OZ (by intro z; cases z)
    have NQ : la ≠ td := eE ea OZ (by intro z; cases z)
    have QY : lb ≠ td := eE Sk OZ (by intro z; cases z)
    have QZ : l ≠ lb := Ne.symm (nl.ne Mv)
    have Q0 : la ≠ lb := Ne.symm (UM.ne (k3.get Mv))
    have UP : (s.side (i == 1)).length = ix.length := by rw [<- yE, cx, Vg, <- z9]
    have Hs : ∀ {j}, j < (s.side (i == 1)).length -> ix.getD j 0 < s.offers.length := fun {j} hj => by
      have hm : ix.getD j 0 ∈ ix := getD_mem (by omega)
      have dF : ∀ x ∈ ix, x < s.offers.length := fun x hx => by
        rw [z9] at hx
        exact mem_range.mp (mem_filter.mp hx).1
      exact dF _ hm
    have Sn : ∀ {j}, j < (s.side (i == 1)).length -> oAt s.offers (ix.getD j 0) = oAt (s.side (i == 1)) j := fun {j} hj => by
      rw [<- yE, cx, <- z9]
      conv => rhs; unfold oAt
      exact (getD_map (d := 0) (by omega)).symm
    kd_p
    refine jj (ze (K := C.K) (t1 := false) (t2 := false) (a := l) (b := la) (xs := (range (s.side (i == 1)).length).map fun j => V.ref (A.oa (ix.getD j 0))) (ys := (bought (s.side (i == 1)) (s.need (i == 1))).map V.int)) (fun j σ H' => (Kp H H' /\ KpX [td] H4 H') /\ ∃ BG FA FC, H' td = some (.dK BG) /\ BG.length <= aQ.length + j /\
        (∀ m, (∀ a, a < j -> (oAt (s.side (i == 1)) a).num ≠ m) -> f7 BG (Sum.inl m) = f7 aQ (Sum.inl m)) /\ (∀ a, a < j -> f7 BG (Sum.inl (oAt (s.side (i == 1)) a).num) = some (.int ((bsM s i).getD a 0))) /\
        σ = [some (.ref d), some (.ref an), some (.ref ar), some (.ref td), some (.ref lb), some (.int ((range i).map fun j => cost (s.side (j == 1)) (bsM s j)).sum), some (.int (i : Nat)), some (.int (s.need (i == 1))), some (.ref l), some (.ref la), FA, FC])
      ⟨⟨Ny, (Kp.refl _).x⟩, aQ, _, _, OZ, Vq _, fun _ _ => rfl, fun a ha => absurd ha (VJ _), rfl⟩ (fun j σ' H' p => ⟨p.1.2.bI Sl (by simpa using NP), p.1.2.bI Sm (by simpa using NQ)⟩) ?_ ?_
    . rintro j σ' H' H5 hj ⟨⟨Fz, NR⟩, BG, FA, FC, O0, So, zK, zL, rfl⟩ k5
      simp only [Vg, Vk] at hj
      have Jh : j < (s.side (i == 1)).length := by omega
      have h1 := (Fz.trans k5).recAt (ho.at_ (ix.getD j 0) (Hs Jh))
      rw [Sn Jh] at h1
      have LU := k5.get O0
      have sf := inv.pZ (i == 1)
      rw [aZ _ Jh, gj _ (by omega)]
      refine Jp ?_
      kd_p
      refine ⟨td, _, rfl, EW.k (k := Sum.inl (oAt (s.side (i == 1)) j).num) LU (by rw [Vr]; omega), ?_⟩
      have pl := Hr BG (Sum.inl (oAt (s.side (i == 1)) j).num) (V.int ((bought (s.side (i == 1)) (s.need (i == 1))).getD j 0))
      refine ⟨⟨(Fz.trans k5).yy UO LU rfl, (NR.trans k5.x).trans (KpX.write LU rfl)⟩, _, _, _, aA, by omega, fun m hm => ?_, fun a ha => ?_, rfl⟩
      . rw [AX, Vh (fun z => hm j (by omega) (Sum.inl.inj z).symm)]
        exact zK m fun a ha => hm a (by omega)
      . rw [AX]
        by_cases c : a = j
        . rw [c, Vj rfl]; rfl
        . rw [Vh (fun z => c (pR (inv.pY (i == 1)) (by omega) Jh (Sum.inl.inj z)))]
          exact zL a (by omega)
    . rintro σ' H5 ⟨⟨Fz, NR⟩, BG, FA, FC, O0, So, zK, zL, rfl⟩
      simp only [Vg, Vk, NO, min_self] at So zK zL
      have OJ := NR.bI Sl (by simpa using NP)
      have Sq := NR.bI Sm (by simpa using NQ)
      have NS := NR.get Sk rfl (by simpa using QY)
      kd_p
      refine ⟨.inl ⟨rfl, _, SqL.of NS⟩, ?_⟩
      kd_p
      refine ⟨la, _, rfl, Sq, ?_⟩
      kd_p
      refine oS NS (by rw [Vg, Vg, Vk, Vr]; omega) ?_
      have kw := KpX.write (o := .lst (((range i).map fun j => (bsM s j).sum - s.need (j == 1)).map V.int ++ [V.int ((bought (s.side (i == 1)) (s.need (i == 1))).sum - s.need (i == 1))])) NS rfl
      have NB := Fz.yy (o := .lst (((range i).map fun j => (bsM s j).sum - s.need (j == 1)).map V.int ++ [V.int ((bought (s.side (i == 1)) (s.need (i == 1))).sum - s.need (i == 1))])) UJ NS rfl
      have b6 : upd H5 lb (.lst (((range i).map fun j => (bsM s j).sum - s.need (j == 1)).map V.int ++ [V.int ((bought (s.side (i == 1)) (s.need (i == 1))).sum - s.need (i == 1))])) lb = _ := aA
      have t6 := kw.get O0 rfl (by simpa using eE O0 NS (by intro z; cases z))
      have ON := kw.bI OJ (by simpa using QZ)
      have Sr := kw.bI Sq (by simpa using Q0)
      generalize upd H5 lb (.lst (((range i).map fun j => (bsM s j).sum - s.need (j == 1)).map V.int ++ [V.int ((bought (s.side (i == 1)) (s.need (i == 1))).sum - s.need (i == 1))])) = H6 at kw NB b6 t6 ON Sr ⊢
      kd_p
      refine ⟨l, la, _, s.side (i == 1), _, rfl, ⟨ON, fun j hj => ?_⟩, Sr, hB, fun H7 k7 => ?_⟩
      . have := NB.recAt (ho.at_ (ix.getD j 0) (Hs hj))
        rw [Sn hj] at this
        exact this
      . kd_p
        refine ⟨NB.trans k7, BG, some (.int (i : Nat)), some (.int (s.need (i == 1))), some (.ref l), some (.ref la), FA, FC, k7.get t6, ?_, ?_, ?_, ?_⟩
        . have := inv.pZ (i == 1)
          omega
        . rw [k7.get b6, range_succ, map_append, map_append]; rfl
        . intro o wO cN
          by_cases c : o.down = (i == 1)
          . have hm : o ∈ s.side (i == 1) := mem_filter.mpr ⟨wO, by rw [c]; simp⟩
            obtain ⟨a, ha, rfl⟩ := kj hm
            rw [zL a ha, c]
            unfold State.boughtOf
            rw [uE (inv.ki (i == 1)) NO ha]
            rfl
          . have Dr : (if o.down = true then 1 else 0) < i := by
              rcases (show i = 0 \/ i = 1 by omega) with h0 | h0
              . rw [h0] at c cN
                cases q : o.down with
                | true => rw [q] at cN; simp at cN
                | false => rw [q] at c; exact absurd (show false = ((0 : Nat) == 1) from rfl) c
              . rw [h0] at c
                rw [h0]
                cases q : o.down with
                | true => rw [q] at c; exact absurd (show true = ((1 : Nat) == 1) from rfl) c
                | false => simp
            rw [zK o.num ?_]
            . exact LS o wO Dr
            . intro a ha z
              obtain ⟨x, hx, ex⟩ := kj wO
              have hm := cJ ha
              obtain ⟨UQ, Mr⟩ := mem_filter.mp hm
              obtain ⟨y, hy, ey⟩ := kj UQ
              have : y = x := pR ⟨inv.nodup, fun o ho => (inv.ofb o ho).q0⟩ hy hx (by rw [ey, ex]; exact z)
              rw [<- ey, this, ex] at Mr
              exact c (eq_of_beq Mr)
        . rw [range_succ, map_append, List.sum_append]
          simp [bsM]
  . rintro σ' H2 ⟨kp, aQ, x6, x7, x8, x9, FA, FC, ht, UK, OY, LS, rfl⟩
    have hd2 := hd.kp kp
    have Hq := hd2.dr
    have so := SqL.of (K := C.K) hd2.cy
    have mk : ∀ {i}, i < s.offers.length -> f7 aQ (Sum.inl (oAt s.offers i).num) = some (.int (find (s.boughtOf (oAt s.offers i).down) (oAt s.offers i).num)) := fun {i} hj => LS _ (cJ hj) (by show _ < 2; split <;> omega)
    have uI : ∀ {i}, i < s.offers.length -> uAt s.buy.units i = { offer := oAt s.offers i, taken := find (s.boughtOf (oAt s.offers i).down) (oAt s.offers i).num, left := find (s.boughtOf (oAt s.offers i).down) (oAt s.offers i).num } := fun {i} hj => by
      show (s.offers.map _).getD i FJ = _
      simp [List.getD, Vt, cI hj]
    have Ht : s.buy.units.length = s.offers.length := by show (s.offers.map _).length = _; rw [Vg]
    kd_p
    refine zk (bx so) ?_ (fun i a H' => RecAt C.CU H' a (unF (A.oa i) (uAt s.buy.units i)) /\ Nw H2 a) (fun i a Ha Hb D acc kk e _ r => ⟨kk.recAt r.1 (by simpa using aT r.1 e), r.2⟩) (fun i H' Ky hj k2 hy => ?_) fun D H3 ua k3 hD e3 hu => ?_
    . simp only [Vg, Vk]; rw [Vr]; omega
    . simp only [Vg, Vk] at hj
      have h1 := k2.recAt (hd2.off i hj)
      rw [aZ _ hj]
      kd_p
      refine Jo ?_
      kd_p
      refine ⟨td, .int (find (s.boughtOf (oAt s.offers i).down) (oAt s.offers i).num), rfl, ?_, ?_⟩
      . have := CF.k (k := Sum.inl (oAt s.offers i).num) (k2.get ht)
        rw [mk hj] at this
        exact this
      kd_p
      refine oT rfl fun x H4 nx hx k4 => hy x H4 k4 ⟨?_, k2.nw (.of nx)⟩
      rw [uI hj]
      exact hx
    . simp only [Vg, Vk] at e3 hu
      have j5 := hd2.kp k3
      obtain ⟨dx, p3⟩ := j5.dr
      kd_p
      refine ba p3 R (by decide) (by rfl) fun H4 _ p4 k4 => ?_
      kd_p
      refine ba p4 R (by decide) (by rfl) fun H5 _ p5 k5 => ?_
      have kk := k4.trans k5
      have nD : Nw H D := kp.nw (.of hD)
      have D5 : H5 D = some (.lst ((range s.offers.length).map fun i => V.ref (ua i))) := kk.get e3 rfl (by simpa using (aT j5.dr e3).symm)
      have Ss : ∀ i, i < s.offers.length -> RecAt C.CU H5 (ua i) (unF (A.oa i) (uAt s.buy.units i)) := fun i hj => kk.recAt (hu i hj).1 (by simpa using (i6 j5.dr (hu i hj).1 (by decide)).symm)
      have NT : ∀ i, i < s.offers.length -> RecAt C.CO H5 (A.oa i) (zA (oAt s.offers i)) := fun i hj => kk.recAt (j5.off i hj) (by simpa using (j5.LO hj).symm)
      have b5 : H5 lb = some (.lst (((range 2).map fun j => (bsM s j).sum - s.need (j == 1)).map V.int)) := kk.get (k3.get OY) rfl (by simpa using (aT j5.dr (k3.get OY)).symm)
      have UR : bz C H5 d s.buy { A with au := D, ua := ua } := by
        refine ⟨⟨dx, p5⟩, kk.get j5.bV rfl ?_, kk.get j5.cy rfl ?_, NT, ?_, fun i hj => Ss i (by rw [Ht] at hj; exact hj), kk.get j5.qus rfl ?_, fun j hj => ?_, fun j hj => ?_, ⟨hd.n1.1, ?_, hd.n1.2.2.1, ?_, hd.n1.2.2.2.2.1, ?_⟩, fun j hj => ?_, ?_, kk.tab _ j5.t1, kk.tab _ j5.t2⟩
        . simpa using (aT j5.dr j5.bV).symm
        . simpa using (aT j5.dr j5.cy).symm
        . rw [Ht]; exact D5
        . simpa using (aT j5.dr j5.qus).symm
        . exact absurd (show j < s.quarters.length from hj) (by rw [EA]; simp)
        . exact absurd (show j < s.quarters.length from hj) (by rw [EA]; simp)
        . exact aF hd2.bV hD
        . exact aF hd2.cy hD
        . exact (aF hd2.qus hD).symm
        . exact absurd (show j < s.quarters.length from hj) (by rw [EA]; simp)
        . exact Fj inv NT (us := s.buy.units) (by rw [Ht]; exact Vq _) fun i hj => Ss i (by rw [Ht] at hj; exact hj)
      have LN : ∀ {H6 : Hp}, Kp H5 H6 -> DK C H6 d s.buy (fun b => O b \/ Nw H b) := fun k6 => ⟨FO inv hb, _, UR.kp k6, ⟨.inl hi.d, .inl hi.an, .inl hi.al, .inr nD, .inl hi.aq, fun i hj => .inl (hi.oa i hj), fun i hj => .inr (kp.nw (hu i (by have : i < s.buy.units.length := hj; rw [Ht] at this; exact this)).2), fun j hj => absurd (show j < s.quarters.length from hj) (by rw [EA]; simp), fun j hj => absurd (show j < s.quarters.length from hj) (by rw [EA]; simp), fun j hj => absurd (show j < s.quarters.length from hj) (by rw [EA]; simp)⟩⟩
      have kS : KpS O H H5 := ((kp.trans k3).ks).trans (kk.s (by intro b hb; rw [mem_singleton.mp hb]; exact hi.d))
      have ng : does s (bp (4, [], [])) = (s.buy, [0, (bsM s 0).sum - s.needUp, (bsM s 1).sum - s.needDown, cost (s.side false) (bsM s 0) + cost (s.side true) (bsM s 1)]) := by
        show (s.buy, [0, ((s.buy.units.filter fun u => u.offer.down == false).map fun u => u.taken).sum - s.needUp, ((s.buy.units.filter fun u => u.offer.down == true).map fun u => u.taken).sum - s.needDown, s.buy.capacityCost]) = _
        rw [DM inv, DM inv, FQ inv]
        rfl
      rw [ng] at k
      kd_p
      refine ⟨by show 1 <= sizeLine; decide, fun l0 Dq => ?_⟩
      have k6 := Kp.new (o := .lst [.int 0]) Dq
      kd_p
      refine jK aA (k6.get b5) (by show 3 <= sizeLine; decide) fun l1 Jq => ?_
      have k7 := Kp.new (o := .lst ([.int 0] ++ (((range 2).map fun j => (bsM s j).sum - s.need (j == 1)).map V.int))) Jq
      kd_p
      refine ⟨by show 1 <= sizeLine; decide, fun l2 yW => ?_⟩
      have k8 := Kp.new (o := .lst [.int ((range 2).map fun j => cost (s.side (j == 1)) (bsM s j)).sum]) yW
      refine jK (k8.get aA) aA (by show 4 <= sizeLine; decide) fun l3 Fw => ?_
      refine (cB.lst k (kS.trans (KpX.ks ((k6.trans k7).trans k8))) (LN ((k6.trans k7).trans k8)) ?_ (Vn rfl)).2 l3 Fw
      show [V.int 0, V.int ((bsM s 0).sum - s.need false), V.int ((bsM s 1).sum - s.need true), V.int (cost (s.side false) (bsM s 0) + (cost (s.side true) (bsM s 1) + 0))] = [V.int 0, V.int ((bsM s 0).sum - s.needUp), V.int ((bsM s 1).sum - s.needDown), V.int (cost (s.side false) (bsM s 0) + cost (s.side true) (bsM s 1))]
      rw [Int.add_zero]
      rfl
end
open Vbemah (lowIn highIn)
section
variable {K : FG} {CO CU CQ : Addr}
def LV (u : Unit_) (y : Int) : Bool := decide (floor_ u <= y) && decide (y <= ceil_ u)
def gy (CO CU : Addr) : Sp := fun vs H Q _ => ∃ (a ao : Addr) (u : Unit_) (y : Int), vs = [.ref a, .int y] /\ si CO CU H a ao u /\ UOk u /\ Q (.bl (LV u y)) H
theorem tM (h : gy CO CU vs H Q E) : gp K (cR CO CU) (cH CO CU) (ends Q) (start hX vs) H := by
  obtain ⟨a, ao, u, y, rfl, hu, ok, k⟩ := h
  unfold gp
  kd_p
  refine ⟨a, ao, u, rfl, hu, ok, ?_⟩
  kd_p
  refine bX (fun c => ?_) fun c => ?_
  . kd_p
    refine ⟨a, ao, u, rfl, hu, ok, ?_⟩
    kd_p
    unfold LV at k
    rw [c, Bool.true_and] at k
    exact k
  . unfold LV at k
    rw [VZ c, Bool.false_and] at k
    exact k
def dz (CO CU : Addr) : Sp := fun vs H Q _ => ∃ (a ao : Addr) (u : Unit_) (n : Int), vs = [.ref a, .int n] /\ si CO CU H a ao u /\ UOk u /\ 1 <= n /\ n <= 1000 /\ Q (.int (lowIn u n)) H
def cY (CO CU : Addr) : Sp := fun vs H Q _ => ∃ (a ao : Addr) (u : Unit_) (n : Int), vs = [.ref a, .int n] /\ si CO CU H a ao u /\ UOk u /\ 1 <= n /\ n <= 1000 /\ Q (.int (highIn u n)) H
theorem su (R : Rec K CO cf) (R2 : Rec K CU iB) (h : dz CO CU vs H Q E) : fw K (iC CO CU) (ends Q) (start gq vs) H := by
  obtain ⟨a, ao, u, n, rfl, hu, ok, n1, n2, k⟩ := h
  obtain ⟨h1, h2⟩ := id hu
  unfold fw
  kd_p
  refine ⟨a, ao, u, rfl, hu, ok, ?_⟩
  kd_p
  refine kG ⟨by omega, by omega⟩ ?_
  kd_p
  rw [J9]
  exact k
theorem qP (R : Rec K CO cf) (R2 : Rec K CU iB) (h : cY CO CU vs H Q E) : eL K (gd CO CU) (ends Q) (start fz vs) H := by
  obtain ⟨a, ao, u, n, rfl, hu, ok, n1, n2, k⟩ := h
  obtain ⟨h1, h2⟩ := id hu
  unfold eL
  kd_p
  refine ⟨a, ao, u, rfl, hu, ok, ?_⟩
  kd_p
  refine kG ⟨by omega, by omega⟩ ?_
  kd_p
  rw [HP ok n1]
  exact k
def wm (u : Unit_) (n : Int) : Int := if u.offer.down = true then -(highIn u n) else lowIn u n
def qQ (u : Unit_) (n : Int) : Int := if u.offer.down = true then -(lowIn u n) else highIn u n
def gz (CO CU : Addr) : Sp := fun vs H Q _ => ∃ (a ao : Addr) (u : Unit_) (n : Int), vs = [.ref a, .int n] /\ si CO CU H a ao u /\ UOk u /\ 1 <= n /\ n <= 1000 /\ Q (.int (wm u n)) H
def fC (CO CU : Addr) : Sp := fun vs H Q _ => ∃ (a ao : Addr) (u : Unit_) (n : Int), vs = [.ref a, .int n] /\ si CO CU H a ao u /\ UOk u /\ 1 <= n /\ n <= 1000 /\ Q (.int (qQ u n)) H
theorem tN (R : Rec K CO cf) (R2 : Rec K CU iB) (h : gz CO CU vs H Q E) : gr K (dz CO CU) (cY CO CU) (ends Q) (start hZ vs) H := by
  obtain ⟨a, ao, u, n, rfl, hu, ok, n1, n2, k⟩ := h
  obtain ⟨h1, h2⟩ := id hu
  unfold wm at k
  unfold gr
  kd_p
  rw [qJ]
  refine bX (fun c => ?_) fun c => ?_
  . kd_p
    rw [Vh (by simpa using c)] at k
    exact ⟨a, ao, u, n, rfl, hu, ok, n1, n2, k⟩
  . kd_p
    refine ⟨a, ao, u, n, rfl, hu, ok, n1, n2, ?_⟩
    kd_p
    rw [Vj (by simpa using c)] at k
    exact k
theorem sv (R : Rec K CO cf) (R2 : Rec K CU iB) (h : fC CO CU vs H Q E) : fA K (cY CO CU) (dz CO CU) (ends Q) (start gu vs) H := by
  obtain ⟨a, ao, u, n, rfl, hu, ok, n1, n2, k⟩ := h
  obtain ⟨h1, h2⟩ := id hu
  unfold qQ at k
  unfold fA
  kd_p
  rw [qJ]
  refine bX (fun c => ?_) fun c => ?_
  . kd_p
    rw [Vh (by simpa using c)] at k
    exact ⟨a, ao, u, n, rfl, hu, ok, n1, n2, k⟩
  . kd_p
    refine ⟨a, ao, u, n, rfl, hu, ok, n1, n2, ?_⟩
    kd_p
    rw [Vj (by simpa using c)] at k
    exact k
theorem KpX.behind (k : Kp H H1) (k2 : KpS S H1 H2) (hn : ∀ b, S b -> Nw H b) : Kp H H2 :=
  ⟨fun b o e i _ => k2.1 b o (k.get e i) i fun z => (hn b z).ne e i rfl, fun t x => k2.2 t (k.2 t x)⟩
def pK (CO CU : Addr) : Sp := fun vs H Q _ => ∃ (a ao : Addr) (u : Unit_), vs = [.ref a] /\ si CO CU H a ao u /\ ∀ H' b, Kp H H' -> Nw H b -> RecAt CU H' b (unF ao u) -> Q (.ref b) H'
theorem Ds (R2 : Rec K CU iB) (h : pK CO CU vs H Q E) : oX K CU (ub CU) (ends Q) (start rR vs) H := by
  obtain ⟨a, ao, u, rfl, ⟨h1, h2⟩, k⟩ := h
  unfold oX
  kd_p
  refine oT rfl fun x H1 nx hx k1 => ?_
  have ne : a ∉ [x] := by
    obtain ⟨dx, e⟩ := h1
    simpa using aF e nx
  have u1 := k1.recAt h1
  obtain ⟨dx, p1⟩ := hx
  kd_p
  refine ba p1 R2 (by decide) (by rfl) fun H2 _ p2 k2 => ?_
  have u2 := k2.recAt u1 ne
  kd_p
  refine ba p2 R2 (by decide) (by rfl) fun H3 _ p3 k3 => ?_
  have u3 := k3.recAt u2 ne
  kd_p
  refine ba p3 R2 (by decide) (by rfl) fun H4 _ p4 k4 => ?_
  have u4 := k4.recAt u3 ne
  kd_p
  refine ba p4 R2 (by decide) (by rfl) fun H5 _ p5 k5 => ?_
  kd_p
  refine k H5 x (k1.behind (((k2.trans k3).trans k4).trans k5 |>.s (S := fun b => b = x) (by intro b hb; exact mem_singleton.mp hb)) (fun b z => by rw [z]; exact .of nx)) (.of nx) ⟨dx, p5⟩
def iF (CQ : Addr) : Sp := fun vs H Q _ => ∃ (a : Addr) (t : Int) (ap : Addr) (pr : Int) (ay : Addr) (called cost : Int), vs = [.ref a] /\ RecAt CQ H a (quF t ap pr ay called cost) /\ ∀ l, H l = none -> Q (.ref l) (upd H l (.lst ([called, pr, cost].map V.int)))
theorem Dt (R : Rec K CQ Dl) (h : iF CQ vs H Q E) : px K (ends Q) (start rY vs) H := by
  obtain ⟨a, t, ap, pr, ay, called, cost, rfl, hq, k⟩ := h
  unfold px
  kd_p
  exact ⟨by show 3 <= sizeLine; decide, k⟩
end
open Vbemah (moved)
section
variable {C : Cs}
def stood (u : Unit_) (y p : Int) : Unit_ := { u with at_ := y, energy := u.energy + y, paid := u.paid + p }
def qR (C : Cs) : Sp := fun vs H Q _ => ∃ (lu a ap ay : Addr) (ad oa : Nat -> Addr) (us : List Unit_) (pl py : List Int) (fs : List (Str × V)), vs = [.ref lu, .ref a] /\ qL C.K C.CO C.CU H lu ad oa us /\ us.length <= 1000 /\ RecAt C.CQ H a fs /\ (fs.lookup ("places" : Str) = some (.ref ap) /\ fs.lookup ("payments" : Str) = some (.ref ay)) /\ H ap = some (.lst (pl.map V.int)) /\ H ay = some (.lst (py.map V.int)) /\ pl.length = us.length /\ py.length = us.length /\
  (∀ i j, i < us.length -> j < us.length -> ad i = ad j -> i = j) /\ (∀ i, i < us.length -> lu ≠ ad i) /\
  ∀ H', (∀ i, i < us.length -> RecAt C.CU H' (ad i) (unF (oa i) (stood (uAt us i) (pl.getD i 0) (py.getD i 0)))) -> KpS (fun b => ∃ i, i < us.length /\ b = ad i) H H' -> Q .non H'
theorem Hu (R : Rec C.K C.CQ Dl) (R2 : Rec C.K C.CU iB) (h : qR C vs H Q E) : vO C.K (ends Q) (start zp vs) H := by
  obtain ⟨lu, a, ap, ay, ad, oa, us, pl, py, fs, rfl, hu, few, hq, ⟨hl, yW⟩, hp, hy, iH, PF, inj, Su, k⟩ := h
  have hs := hu.sq
  have sp := SqL.of (K := C.K) hp
  have sy := SqL.of (K := C.K) hy
  have US : ∀ H', KpS (fun b => ∃ i, i < us.length /\ b = ad i) H H' -> SqL C.K H' lu ((range us.length).map fun i => V.ref (ad i)) := fun H' kk => by
    rcases hs with (h | ⟨o, h⟩) | h
    . exact .inl (.inl (kk.get h (fun ⟨i, hi, e⟩ => Su i hi e)))
    . exact .inl (.inr ⟨o, kk.get h (fun ⟨i, hi, e⟩ => Su i hi e)⟩)
    . exact .inr h
  have Q1 : ¬ ∃ i, i < us.length /\ ap = ad i := fun ⟨i, hi, e⟩ => (aT (hu.at_ i hi).un hp) e.symm
  have Q2 : ¬ ∃ i, i < us.length /\ ay = ad i := fun ⟨i, hi, e⟩ => (aT (hu.at_ i hi).un hy) e.symm
  unfold vO
  kd_p
  refine CS hq R (by decide) hl ?_
  kd_p
  refine CS hq R (by decide) yW ?_
  kd_p
  refine jj (Es (K := C.K) (t1 := false) (t2 := false) (t3 := false) (a := lu) (b := ap) (c := ay) (xs := (range us.length).map fun i => V.ref (ad i)) (ys := pl.map V.int) (zs := py.map V.int)) (fun j σ H' => (KpS (fun b => ∃ i, i < us.length /\ b = ad i) H H' /\ (∀ i, i < us.length -> i < j -> RecAt C.CU H' (ad i) (unF (oa i) (stood (uAt us i) (pl.getD i 0) (py.getD i 0)))) /\ (∀ i, i < us.length -> ¬ i < j -> RecAt C.CU H' (ad i) (unF (oa i) (uAt us i)))) /\ ∃ x2 x3 x4, σ = [some (.ref lu), some (.ref a), x2, x3, x4])
    ⟨⟨(Kp.refl H).ks, fun i _ z => absurd z (VJ _), fun i hi _ => (hu.at_ i hi).un⟩, none, none, none, rfl⟩ (fun j σ' H' p => ⟨US H' p.1.1, SqL.of (p.1.1.get hp Q1), SqL.of (p.1.1.get hy Q2)⟩) ?_ ?_
  . rintro j σ' H' H2 hj ⟨⟨kk, Jr, hold⟩, x2, x3, x4, rfl⟩ k2
    simp only [Vg, Vk] at hj
    have hj : j < us.length := by omega
    obtain ⟨dx, h2⟩ := k2.recAt (hold j hj (VO _))
    rw [aZ _ hj, gj pl (by omega), gj py (by omega)]
    kd_p
    refine ba h2 R2 (by decide) (by rfl) fun H3 _ p3 k3 => ?_
    kd_p
    refine sm ?_
    kd_p
    refine ⟨ad j, C.CU, dx, _, _, rfl, p3, R2.cl, R2.no _ (by decide), rfl, ?_⟩
    kd_p
    refine ⟨_, _, rfl, rfl, dx, _, p3, Vn rfl, ?_⟩
    have k4 : KpX [ad j] H3 (upd H3 (ad j) (.ins C.CU dx (bS "place_sum" (.int ((uAt us j).energy + pl.getD j 0)) (bS "place" (.int (pl.getD j 0)) (unF (oa j) (uAt us j)))))) := KpX.II p3
    have p4 : (upd H3 (ad j) (.ins C.CU dx (bS "place_sum" (.int ((uAt us j).energy + pl.getD j 0)) (bS "place" (.int (pl.getD j 0)) (unF (oa j) (uAt us j)))))) (ad j) = some (.ins C.CU dx (bS "place_sum" (.int ((uAt us j).energy + pl.getD j 0)) (bS "place" (.int (pl.getD j 0)) (unF (oa j) (uAt us j))))) := aA
    generalize upd H3 (ad j) (.ins C.CU dx (bS "place_sum" (.int ((uAt us j).energy + pl.getD j 0)) (bS "place" (.int (pl.getD j 0)) (unF (oa j) (uAt us j))))) = H4 at k4 p4 ⊢
    kd_p
    refine sm ?_
    kd_p
    refine ⟨ad j, C.CU, dx, _, _, rfl, p4, R2.cl, R2.no _ (by decide), rfl, ?_⟩
    kd_p
    refine ⟨_, _, rfl, rfl, dx, _, p4, Vn rfl, ?_⟩
    have k5 : KpX [ad j] H4 (upd H4 (ad j) (.ins C.CU dx (bS "paid" (.int ((uAt us j).paid + py.getD j 0)) (bS "place_sum" (.int ((uAt us j).energy + pl.getD j 0)) (bS "place" (.int (pl.getD j 0)) (unF (oa j) (uAt us j))))))) := KpX.II p4
    have p5 : (upd H4 (ad j) (.ins C.CU dx (bS "paid" (.int ((uAt us j).paid + py.getD j 0)) (bS "place_sum" (.int ((uAt us j).energy + pl.getD j 0)) (bS "place" (.int (pl.getD j 0)) (unF (oa j) (uAt us j))))))) (ad j) = some (.ins C.CU dx (bS "paid" (.int ((uAt us j).paid + py.getD j 0)) (bS "place_sum" (.int ((uAt us j).energy + pl.getD j 0)) (bS "place" (.int (pl.getD j 0)) (unF (oa j) (uAt us j)))))) := aA
    generalize upd H4 (ad j) (.ins C.CU dx (bS "paid" (.int ((uAt us j).paid + py.getD j 0)) (bS "place_sum" (.int ((uAt us j).energy + pl.getD j 0)) (bS "place" (.int (pl.getD j 0)) (unF (oa j) (uAt us j)))))) = H5 at k5 p5 ⊢
    have Q3 := (k3.trans k4).trans k5
    refine ⟨⟨(kk.trans k2.ks).trans (Q3.s (by intro b hb; rw [mem_singleton.mp hb]; exact ⟨j, hj, rfl⟩)), fun i hi cN => ?_, fun i hi cN => ?_⟩, _, _, _, rfl⟩
    . by_cases c : i = j
      . subst c
        exact ⟨dx, p5⟩
      . exact Q3.recAt (k2.recAt (Jr i hi (by omega))) (by
          have : ad i ≠ ad j := fun z => c (inj i j hi hj z)
          simpa using this)
    . exact Q3.recAt (k2.recAt (hold i hi (by omega))) (by
        have : ad i ≠ ad j := fun z => (by omega : i ≠ j) (inj i j hi hj z)
        simpa using this)
  . rintro σ' H' ⟨⟨kk, Jr, hold⟩, x2, x3, x4, rfl⟩
    simp only [Vg, Vk, iH, PF, min_self] at Jr
    exact k H' (fun i hi => Jr i hi hi) kk
theorem sY {us : List Unit_} {t : Int} {i : Nat} (hj : i < us.length) : stood (uAt us i) ((placesOf us (plan us t)).getD i 0) ((eC us t).getD i 0) = moved (plan us t) (uAt us i) := by
  have e1 : (placesOf us (plan us t)).getD i 0 = find (plan us t).places (uAt us i).offer.num := by
    unfold placesOf
    simp [List.getD, Vt, bP hj]
  have e2 : (eC us t).getD i 0 = pay (uAt us i) (find (plan us t).places (uAt us i).offer.num) (plan us t).price := by
    unfold eC
    simp [List.getD, Vt, bP hj]
  rw [e1, e2]
  rfl
theorem tO (R : Rec C.K C.CD bT) (R2 : Rec C.K C.CQ Dl) (h : spH C (fun t s => (∃ x, t = (9, [x], [])) /\ s.buys = true) vs H Q E) :
    gw C.K 96 (eU C.K C.CO C.CU C.CQ C.T2) (qR C) (iF C.CQ) (ends Q) (start iu vs) H := by
  obtain ⟨d, an, ar, s, O, t, rfl, ⟨inv, A, hd, hi⟩, nn, nr, ⟨hn, hr⟩, ⟨⟨x, rfl⟩, hb⟩, k⟩ := h
  have we := hd.dr
  have few := inv.cE
  have ng : does s (bp (9, [x], [])) = if 96 <= s.quarters.length then (s, [-4]) else (s.after x, 0 :: ((s.after x).quarters.drop s.quarters.length).flatMap fun q => [q.called, q.price, q.cost]) := rfl
  rw [ng, mf, Ao] at k
  have hU := hd.j6 inv
  have usb : UsB s.units := ⟨by omega, inv.me, fun u hu => by
    obtain ⟨k1, k2⟩ := inv.uok u hu
    have := k1.le
    have hm : u.offer ∈ s.offers := by rw [<- inv.uns hb]; exact mem_map_of_mem hu
    have := (inv.ofb _ hm).q1
    omega⟩
  unfold gw
  kd_p
  refine df (SqL.of hd.qus) ?_
  kd_p
  rw [Vg, Vk]
  refine bX (fun c => ?_) fun c => ?_
  . have c := Vn c
    rw [Vj (by omega)] at k
    kd_p
    exact cB.lst k (Kp.refl H).ks (DK.keep ⟨inv, A, hd, hi⟩ (Kp.refl H)) rfl (Vn rfl)
  . have c : ¬ (96 : Int) <= (s.quarters.length : Nat) := fun z => c (Vw z)
    rw [Vh (by omega)] at k
    kd_p
    refine bj (i := 0) (SqL.of hn) rfl ?_
    kd_p
    refine ⟨A.au, A.ua, A.oa, s.units, x, rfl, hU, usb, hd.t2, fun H1 qa ap ay k1 nq LW nay hq O2 O3 => ?_⟩
    have bZ := hd.kp k1
    have pJ := bZ.dr
    have HK := bZ.j6 inv
    have UT : (placesOf s.units (plan s.units x)).length = s.units.length := by unfold placesOf; rw [Vg]
    have UU : (eC s.units x).length = s.units.length := by unfold eC; rw [Vg]
    kd_p
    refine ⟨A.au, qa, ap, ay, A.ua, A.oa, s.units, _, _, _, rfl, HK, by omega, hq, ⟨rfl, rfl⟩, O2, O3, UT, UU, hd.inj, fun i hj => (aT (hd.un i hj) hd.uns).symm, fun H2 Q4 k2 => ?_⟩
    have UW : ∀ b, (∃ i, i < s.units.length /\ b = A.ua i) -> O b := fun b ⟨i, hj, e⟩ => by rw [e]; exact hi.ua i hj
    have nS : ∀ {b : Addr} {o : HO}, H1 b = some o -> (∀ dx fs, o ≠ .ins C.CU dx fs) -> ¬ ∃ i, i < s.units.length /\ b = A.ua i := fun {b o} e ne ⟨i, hj, eb⟩ => by
      obtain ⟨dx, h1⟩ := bZ.un i hj
      rw [eb, h1] at e
      exact ne _ _ (Option.some.inj e).symm
    have LX : ∀ {b Cl : Addr} {f : Str} {v : V} {r : List (Str × V)}, RecAt Cl H1 b ((f, v) :: r) -> f ≠ "offer" -> ¬ ∃ i, i < s.units.length /\ b = A.ua i := fun {b Cl f v r} h hf ⟨i, hj, eb⟩ => i6 h (bZ.un i hj) hf eb
    have NU : ∀ {b : Addr} {ys : List V}, H1 b = some (.lst ys) -> ¬ ∃ i, i < s.units.length /\ b = A.ua i := fun {b ys} h ⟨i, hj, eb⟩ => aT (bZ.un i hj) h eb.symm
    have Hq := k2.recAt pJ (LX pJ (by decide))
    have Sv := k2.recAt hq (LX hq (by decide))
    have O4 := k2.get bZ.qus (NU bZ.qus)
    kd_p
    refine ⟨.inl ⟨rfl, _, SqL.of O4⟩, ?_⟩
    kd_p
    refine oS O4 (by rw [Vg, Vk, Vr]; omega) ?_
    have k3 := KpX.write (o := .lst ((range s.quarters.length).map (fun i => V.ref (A.qa i)) ++ [.ref qa])) O4 rfl
    have a3 : upd H2 A.aq (.lst ((range s.quarters.length).map (fun i => V.ref (A.qa i)) ++ [.ref qa])) A.aq = some (.lst ((range s.quarters.length).map (fun i => V.ref (A.qa i)) ++ [.ref qa])) := aA
    generalize upd H2 A.aq (.lst ((range s.quarters.length).map (fun i => V.ref (A.qa i)) ++ [.ref qa])) = H3 at k3 a3 ⊢
    have xx : ∀ {Cl b : Addr} {fs : List (Str × V)}, RecAt Cl H2 b fs -> RecAt Cl H3 b fs := fun {Cl b fs} h => k3.recAt h (by simpa using aT h O4)
    have lstK : ∀ {b : Addr} {ys : List V}, H1 b = some (.lst ys) -> b ≠ A.aq -> H3 b = some (.lst ys) := fun {b ys} h ne => k3.get (k2.get h (NU h)) rfl (by simpa using ne)
    have HL : ∀ {b : Addr} {ys : List V} {a : Addr}, Nw H a -> H b = some (.lst ys) -> a ≠ b := fun HU h => Ne.symm (HU.ne h)
    have len : (s.after x).units.length = s.units.length := by show (s.units.map _).length = _; rw [Vg]
    have uI : ∀ {i}, i < s.units.length -> uAt (s.after x).units i = moved (plan s.units x) (uAt s.units i) := fun {i} hj => by
      show (s.units.map (moved (plan s.units x))).getD i FJ = _
      simp [List.getD, Vt, bP hj]
    let A' : DA := { A with qa := fun j => if j < s.quarters.length then A.qa j else qa, pa := fun j => if j < s.quarters.length then A.pa j else ap, ya := fun j => if j < s.quarters.length then A.ya j else ay, pl := fun j => if j < s.quarters.length then A.pl j else placesOf s.units (plan s.units x), py := fun j => if j < s.quarters.length then A.py j else eC s.units x }
    have lq : (s.after x).quarters.length = s.quarters.length + 1 := by rw [mf, VB]; rfl
    have Q5 : ∀ {j}, j < s.quarters.length -> qAt (s.after x).quarters j = qAt s.quarters j := fun {j} hj => by rw [mf]; unfold qAt; exact pB hj
    have Q6 : qAt (s.after x).quarters s.quarters.length = ⟨x, (placesOf s.units (plan s.units x)).sum, (plan s.units x).price, (eC s.units x).sum⟩ := by
      rw [mf]; unfold qAt; rw [pC (Vq _), Nat.sub_self]; rfl
    have j5 : bz C H3 d (s.after x) A' := by
      refine ⟨xx Hq, lstK bZ.bV hd.n1.2.2.1, lstK bZ.cy hd.n1.2.2.2.2.1, fun i hj => xx (k2.recAt (bZ.off i hj) (LX (bZ.off i hj) (by decide))), ?_, fun i hj => ?_, ?_, fun j hj => ?_, fun j hj => ?_, hd.n1, fun j hj => ?_, fun i j h1 h2 => hd.inj i j (by rw [len] at h1; exact h1) (by rw [len] at h2; exact h2), k3.tab _ (k2.tab _ bZ.t1), k3.tab _ (k2.tab _ bZ.t2)⟩
      . rw [len]; exact lstK bZ.uns hd.n1.2.2.2.2.2
      . rw [len] at hj
        rw [uI hj]
        have := xx (Q4 i hj)
        rw [sY hj] at this
        exact this
      . rw [a3, lq, range_succ, map_append]
        congr 2
        congr 1
        . refine VU fun j hj => ?_
          show V.ref (A.qa j) = V.ref (if j < s.quarters.length then A.qa j else qa)
          rw [Vj (mem_range.mp hj)]
        . show [V.ref qa] = [V.ref (if s.quarters.length < s.quarters.length then A.qa s.quarters.length else qa)]
          rw [Vh (VO _)]
      . rw [lq] at hj
        show RecAt C.CQ H3 (if j < s.quarters.length then A.qa j else qa) (quF (qAt (s.after x).quarters j).target (if j < s.quarters.length then A.pa j else ap) (qAt (s.after x).quarters j).price (if j < s.quarters.length then A.ya j else ay) (qAt (s.after x).quarters j).called (qAt (s.after x).quarters j).cost)
        by_cases c2 : j < s.quarters.length
        . rw [Vj c2, Vj c2, Vj c2, Q5 c2]
          exact xx (k2.recAt (bZ.qu j c2) (LX (bZ.qu j c2) (by decide)))
        . obtain rfl : j = s.quarters.length := by omega
          rw [Vh c2, Vh c2, Vh c2, Q6]
          exact xx Sv
      . rw [lq] at hj
        show H3 (if j < s.quarters.length then A.pa j else ap) = some (.lst ((if j < s.quarters.length then A.pl j else placesOf s.units (plan s.units x)).map V.int)) /\ H3 (if j < s.quarters.length then A.ya j else ay) = some (.lst ((if j < s.quarters.length then A.py j else eC s.units x).map V.int))
        by_cases c2 : j < s.quarters.length
        . rw [Vj c2, Vj c2, Vj c2, Vj c2]
          exact ⟨lstK (bZ.ql j c2).1 (hd.n2 j c2).1.2.2.2, lstK (bZ.ql j c2).2 (hd.n2 j c2).2.2.2.2⟩
        . rw [Vh c2, Vh c2, Vh c2, Vh c2]
          exact ⟨lstK O2 (HL LW hd.qus), lstK O3 (HL nay hd.qus)⟩
      . rw [lq] at hj
        show ((if j < s.quarters.length then A.pa j else ap) ≠ A.an /\ (if j < s.quarters.length then A.pa j else ap) ≠ A.al /\ (if j < s.quarters.length then A.pa j else ap) ≠ A.au /\ (if j < s.quarters.length then A.pa j else ap) ≠ A.aq) /\ ((if j < s.quarters.length then A.ya j else ay) ≠ A.an /\ (if j < s.quarters.length then A.ya j else ay) ≠ A.al /\ (if j < s.quarters.length then A.ya j else ay) ≠ A.au /\ (if j < s.quarters.length then A.ya j else ay) ≠ A.aq)
        by_cases c2 : j < s.quarters.length
        . rw [Vj c2, Vj c2]
          exact hd.n2 j c2
        . rw [Vh c2, Vh c2]
          exact ⟨⟨HL LW hd.bV, HL LW hd.cy, HL LW hd.uns, HL LW hd.qus⟩, ⟨HL nay hd.bV, HL nay hd.cy, HL nay hd.uns, HL nay hd.qus⟩⟩
    have Q7 := xx Sv
    have LN : ∀ {H4 : Hp}, Kp H3 H4 -> DK C H4 d (s.after x) (fun b => O b \/ Nw H b) := by
      intro H4 k4
      refine ⟨B1 inv x hb (by omega), A', j5.kp k4, ⟨.inl hi.d, .inl hi.an, .inl hi.al, .inl hi.au, .inl hi.aq, fun i hj => .inl (hi.oa i hj), fun i hj => .inl (hi.ua i (by rw [len] at hj; exact hj)), fun j hj => ?_, fun j hj => ?_, fun j hj => ?_⟩⟩
      . show O (if j < s.quarters.length then A.qa j else qa) \/ Nw H (if j < s.quarters.length then A.qa j else qa)
        by_cases c2 : j < s.quarters.length
        . rw [Vj c2]; exact .inl (hi.qa j c2)
        . rw [Vh c2]; exact .inr nq
      . show O (if j < s.quarters.length then A.pa j else ap) \/ Nw H (if j < s.quarters.length then A.pa j else ap)
        by_cases c2 : j < s.quarters.length
        . rw [Vj c2]; exact .inl (hi.pa j c2)
        . rw [Vh c2]; exact .inr LW
      . show O (if j < s.quarters.length then A.ya j else ay) \/ Nw H (if j < s.quarters.length then A.ya j else ay)
        by_cases c2 : j < s.quarters.length
        . rw [Vj c2]; exact .inl (hi.ya j c2)
        . rw [Vh c2]; exact .inr nay
    kd_p
    refine ⟨by show 1 <= sizeLine; decide, fun l0 Dq => ?_⟩
    have k4 := Kp.new (o := .lst [.int 0]) Dq
    have UX := k4.recAt Q7
    kd_p
    refine ⟨qa, _, _, _, _, _, _, rfl, UX, fun l1 Jq => ?_⟩
    have k5 := Kp.new (o := .lst ([(placesOf s.units (plan s.units x)).sum, (plan s.units x).price, (eC s.units x).sum].map V.int)) Jq
    kd_p
    refine jK (k5.get aA) aA (by show 4 <= sizeLine; decide) ?_
    exact (cB.lst k (((k1.ks.trans (k2.mono UW)).trans (k3.s (by intro b hb; rw [mem_singleton.mp hb]; exact hi.aq))).trans (KpX.ks (k4.trans k5))) (LN (k4.trans k5)) rfl (Vn rfl)).2
end
section
variable {C : Cs}
theorem Js {K : FG} {ad : Nat -> Addr} (h : qL K CO CU H l ad oa us) (ok : tj us) : ∀ i j, i < us.length -> j < us.length -> ad i = ad j -> i = j := by
  intro i j hi hj e
  obtain ⟨dx, h1⟩ := (h.at_ i hi).un
  obtain ⟨dy, h2⟩ := (h.at_ j hj).un
  rw [e, h2] at h1
  injection Option.some.inj h1 with _ _ z
  injection z with z _
  have z2 := (Prod.mk.inj z).2
  injection z2 with z2
  obtain ⟨da, g1⟩ := (h.at_ i hi).of
  obtain ⟨db, g2⟩ := (h.at_ j hj).of
  rw [z2, g1] at g2
  injection Option.some.inj g2 with _ _ w
  injection w with w _
  have w2 := (Prod.mk.inj w).2
  injection w2 with w2
  exact pX ok hi hj w2
theorem Hv {t : Int} (h : UsB us) : UsB (gone us t) := ⟨by rw [Ap]; exact h.few, Al h.ok t, fun u hu => by
  obtain ⟨v, hv, rfl⟩ := mem_map.mp hu
  exact h.bd v hv⟩
theorem SInv.usb (inv : SInv s) : UsB s.units := by
  refine ⟨by have := inv.cE; omega, inv.me, fun u hu => ?_⟩
  obtain ⟨k1, k2⟩ := inv.uok u hu
  have := k1.le
  cases hb : s.buys with
  | false => rw [(inv.none hb).1] at hu; cases hu
  | true =>
    have hm : u.offer ∈ s.offers := by rw [<- inv.uns hb]; exact mem_map_of_mem hu
    have := (inv.ofb _ hm).q1
    omega
def NV (CQ : Addr) (H : Hp) (a : Addr) (q : Quarter) : Prop := ∃ ap ay, RecAt CQ H a (quF q.target ap q.price ay q.called q.cost)
def nh (C : Cs) : Sp := fun vs H Q _ => ∃ (lu lt : Addr) (ad oa : Nat -> Addr) (us : List Unit_) (ts : List Int), vs = [.ref lu, .ref lt] /\ qL C.K C.CO C.CU H lu ad oa us /\ UsB us /\ SqL C.K H lt (ts.map V.int) /\ ts.length <= 1000 /\ Tab H C.T2 /\
  ∀ H' l (as : List Addr), Kp H H' -> Nw H l -> H' l = some (.lst (as.map V.ref)) -> Paired (NV C.CQ H') as (uH us ts) -> Q (.ref l) H'
theorem BH (h : nh C vs H Q E) : mK C.K (pK C.CO C.CU) (eU C.K C.CO C.CU C.CQ C.T2) (qR C) (ends Q) (start o8 vs) H := by
  obtain ⟨lu, lt, ad, oa, us, ts, rfl, hu, hb, ht, hn, hT, k⟩ := h
  have few := hb.few
  have hs := hu.sq
  unfold mK
  kd_p
  refine zk (bx hs) ?_ (fun i a H' => RecAt C.CU H' a (unF (oa i) (uAt us i)) /\ Nw H a) (fun i a Ha Hb D acc kk e _ r => ⟨kk.recAt r.1 (by simpa using aT r.1 e), r.2⟩) (fun i H' Ky hj k2 hy => ?_) fun D H1 ta k1 hD e1 Q8 => ?_
  . simp only [Vg, Vk]; rw [Vr]; omega
  . simp only [Vg, Vk] at hj
    rw [aZ _ hj]
    kd_p
    exact ⟨ad i, oa i, uAt us i, rfl, k2.un (hu.at_ i hj), fun H3 b k3 nb hb => hy b H3 k3 ⟨hb, k2.nw nb⟩⟩
  simp only [Vg, Vk] at e1 Q8
  kd_p
  refine ⟨VF _, fun lq Q9 => ?_⟩
  have k2 := Kp.new (o := .lst []) Q9
  have q2 : upd H1 lq (.lst []) lq = some (.lst []) := aA
  have e2 := k2.get e1
  have dq : D ≠ lq := aF e1 Q9
  have Sw : Nw H lq := k1.nw (.of Q9)
  have NW : ∀ i, i < us.length -> RecAt C.CU (upd H1 lq (.lst [])) (ta i) (unF (oa i) (uAt us i)) := fun i hi => k2.recAt (Q8 i hi).1
  generalize upd H1 lq (.lst []) = H2 at k2 q2 e2 NW ⊢
  have z8 := k1.trans k2
  have Sj := z8.bI ht
  kd_p
  refine jj (kC (K := C.K) (a := lt) (xs := ts.map V.int)) (fun i σ H' => Kp H H' /\ ∃ (j7 : List Unit_) (as : List Addr) (qs : List Quarter) (x3 x5 x6 : Option V), H' D = some (.lst ((range us.length).map fun i => V.ref (ta i))) /\ j7.length = us.length /\ (∀ j, j < us.length -> RecAt C.CU H' (ta j) (unF (oa j) (uAt j7 j))) /\ (∀ j, j < us.length -> (uAt j7 j).offer = (uAt us j).offer) /\ UsB j7 /\ H' lq = some (.lst (as.map V.ref)) /\ as.length = i /\ Paired (NV C.CQ H') as qs /\ qs ++ uH j7 (ts.drop i) = uH us ts /\
      σ = [some (.ref lu), some (.ref lt), some (.ref D), x3, some (.ref lq), x5, x6])
    ⟨z8, us, [], [], _, _, _, e2, rfl, NW, fun _ _ => rfl, hb, q2, rfl, .nil, by rw [drop_zero]; rfl, rfl⟩ (fun i σ' H' p => p.1.bI ht) ?_ ?_
  . rintro i σ' H' H3 hi ⟨kp, j7, as, qs, x3, x5, x6, Ra, MC, OP, Rb, yd, LY, has, hp, zM, rfl⟩ k3
    simp only [Vg] at hi
    obtain ⟨t, et⟩ : ∃ t, ts[i]? = some t := ⟨_, Vl hi⟩
    rw [Vt, et]
    have HJ := kp.trans k3
    have Sx : qL C.K C.CO C.CU H3 D ta oa j7 := ⟨SqL.of (by rw [MC]; exact k3.get Ra), fun j hj => ⟨k3.recAt (OP j (by omega)), by rw [Rb j (by omega)]; exact (HJ.un (hu.at_ j (by omega))).of⟩⟩
    kd_p
    refine ⟨D, ta, oa, j7, t, rfl, Sx, yd, HJ.tab _ hT, fun H4 qa ap ay k4 nq LW nay hq O2 O3 => ?_⟩
    have NX := k4.uns Sx
    have inj := Js NX yd.ok
    have Jj := k4.get (k3.get Ra)
    have OU := k4.get (k3.get LY)
    kd_p
    refine ⟨D, qa, ap, ay, ta, oa, j7, _, _, _, rfl, NX, yd.few, hq, ⟨rfl, rfl⟩, O2, O3, by unfold placesOf; rw [Vg], by unfold eC; rw [Vg], inj, fun j hj => (aT (NX.at_ j hj).un Jj).symm, fun H5 Q4 k5 => ?_⟩
    have LX : ∀ {b Cl : Addr} {f : Str} {v : V} {r : List (Str × V)}, RecAt Cl H4 b ((f, v) :: r) -> f ≠ "offer" -> ¬ ∃ j, j < j7.length /\ b = ta j := fun {b Cl f v r} h hf ⟨j, hj, eb⟩ => i6 h (NX.at_ j hj).un hf eb
    have NU : ∀ {b : Addr} {ys : List V}, H4 b = some (.lst ys) -> ¬ ∃ j, j < j7.length /\ b = ta j := fun {b ys} h ⟨j, hj, eb⟩ => aT (NX.at_ j hj).un h eb.symm
    have O5 := k5.get OU (NU OU)
    have UY := k5.recAt hq (LX hq (by decide))
    kd_p
    refine ⟨.inl ⟨rfl, _, SqL.of O5⟩, ?_⟩
    kd_p
    refine oS O5 (by rw [Vg, Vr]; omega) ?_
    have k6 := KpX.write (o := .lst (as.map V.ref ++ [.ref qa])) O5 rfl
    have l6 : upd H5 lq (.lst (as.map V.ref ++ [.ref qa])) lq = some (.lst (as.map V.ref ++ [.ref qa])) := aA
    generalize upd H5 lq (.lst (as.map V.ref ++ [.ref qa])) = H6 at k6 l6 ⊢
    have UZ : Kp H H6 := (HJ.trans k4).behind (S := fun b => (∃ j, j < j7.length /\ b = ta j) \/ b = lq) ((k5.mono (fun _ => .inl)).trans (k6.s (by intro b hb; exact .inr (mem_singleton.mp hb)))) (fun b z => by
      rcases z with ⟨j, hj, rfl⟩ | rfl
      . exact (Q8 j (by omega)).2
      . exact Sw)
    have xx : ∀ {Cl b : Addr} {fs : List (Str × V)}, RecAt Cl H5 b fs -> RecAt Cl H6 b fs := fun {Cl b fs} h => k6.recAt h (by simpa using aT h O5)
    refine ⟨UZ, gone j7 t, as ++ [qa], qs ++ [FR j7 t], _, _, _, ?_, by rw [Ap]; exact MC, fun j hj => ?_, fun j hj => ?_, Hv yd, by rw [l6, map_append]; rfl, by rw [VB, has]; rfl, ?_, ?_, rfl⟩
    . exact k6.get (k5.get Jj (NU Jj)) rfl (by simpa using dq)
    . have := xx (Q4 j (by omega))
      rw [sY (by omega)] at this
      rw [DN (by omega)]
      exact this
    . rw [DN (by omega)]
      exact Rb j hj
    . refine iQ ⟨ap, ay, xx UY⟩ (Paired.uL hp fun a q ⟨p1, p2, h⟩ => ⟨p1, p2, xx (k5.recAt (k4.recAt (k3.recAt h)) (LX (k4.recAt (k3.recAt h)) (by decide)))⟩)
    . rw [<- zM]
      have ed : ts.drop i = t :: ts.drop (i + 1) := by
        rw [V8 hi, (List.getElem?_eq_some_iff.mp et).2]
      rw [ed, append_assoc]
      rfl
  . rintro σ' H' ⟨kp, j7, as, qs, x3, x5, x6, Ra, MC, OP, Rb, yd, LY, has, hp, zM, rfl⟩
    simp only [Vg, drop_length] at zM
    rw [show uH j7 [] = [] from rfl, append_nil] at zM
    kd_p
    exact k H' lq as kp Sw LY (zM ▸ hp)
def BI (q : Quarter) : List Int := [q.called, q.price, q.cost]
theorem sx : ∀ (qs : List Quarter), (qs.flatMap BI).length = 3 * qs.length
  | [] => rfl
  | q :: r => by
    rw [flatMap_cons, VB, sx r, VC]
    show 3 + _ = _
    omega
theorem Du (R : Rec C.K C.CD bT) (h : spH C (fun t s => (∃ ts, t = (10, [], ts) /\ ts.length <= 96) /\ s.buys = true) vs H Q E) :
    pz C.K 96 (nh C) (iF C.CQ) (ends Q) (start rZ vs) H := by
  obtain ⟨d, an, ar, s, O, t, rfl, ⟨inv, A, hd, hi⟩, nn, nr, ⟨hn, hr⟩, ⟨⟨ts, rfl, HH⟩, hb⟩, k⟩ := h
  have we := hd.dr
  have hr : H ar = some (.lst (ts.map V.int)) := hr
  have ng : does s (bp (10, [], ts)) = if 96 < s.quarters.length + ts.length then (s, [-4]) else (s, 0 :: (Vbemah.foreseen s ts).flatMap BI) := rfl
  rw [ng, sL] at k
  unfold pz
  kd_p
  refine df (SqL.of hd.qus) ?_
  kd_p
  refine df (SqL.of hr) ?_
  kd_p
  rw [Vg, Vk, Vg]
  refine bX (fun c => ?_) fun c => ?_
  . have c := Vn c
    rw [Vj (by omega)] at k
    kd_p
    exact cB.lst k (Kp.refl H).ks (DK.keep ⟨inv, A, hd, hi⟩ (Kp.refl H)) rfl (Vn rfl)
  . have c : ¬ (96 : Int) < (s.quarters.length : Nat) + (ts.length : Nat) := fun z => c (Vw z)
    rw [Vh (by omega)] at k
    kd_p
    refine ⟨by show 1 <= sizeLine; decide, fun lt cN => ?_⟩
    have k1 := Kp.new (o := .lst [.int 0]) cN
    have l1 : upd H lt (.lst [.int 0]) lt = some (.lst [.int 0]) := aA
    have Sy : Nw H lt := .of cN
    generalize upd H lt (.lst [.int 0]) = H1 at k1 l1 ⊢
    have bZ := hd.kp k1
    have pJ := bZ.dr
    have Mu := k1.get hr
    kd_p
    refine ⟨A.au, ar, A.ua, A.oa, s.units, ts, rfl, bZ.j6 inv, inv.usb, SqL.of Mu, by omega, bZ.t2, fun H2 l as k2 nl el hp => ?_⟩
    have QI : l ≠ lt := Ne.symm (nl.ne l1)
    have las : as.length = ts.length := by rw [Paired.length hp, qb]
    refine yz (SqL.of el) ?_
    refine jj (kC (K := C.K) (a := l) (xs := as.map V.ref)) (fun i σ H' => (Kp H H' /\ KpX [lt] H2 H') /\ ∃ (x4 : Option V), H' lt = some (.lst ((0 :: ((uH s.units ts).take i).flatMap BI).map V.int)) /\ σ = [some (.ref d), some (.ref an), some (.ref ar), some (.ref lt), x4])
      ⟨⟨k1.trans k2, (Kp.refl _).x⟩, none, k2.get l1, rfl⟩ (fun i σ' H' p => SqL.of (p.1.2.get el rfl (by simpa using QI))) ?_ ?_
    . rintro i σ' H' H3 hj ⟨⟨kp, kt⟩, x4, Dr, rfl⟩ k3
      simp only [Vg] at hj
      obtain ⟨a, ea⟩ : ∃ a, as[i]? = some a := ⟨_, Vl hj⟩
      obtain ⟨q, eq, p1, p2, hq⟩ := cb hp ea
      have Q7 := k3.recAt (kt.recAt hq (by simpa using aT hq (k2.get l1)))
      have Sz := k3.get Dr
      rw [Vt, ea]
      kd_p
      refine ⟨.inl ⟨rfl, _, SqL.of Sz⟩, ?_⟩
      kd_p
      refine ⟨a, _, _, _, _, _, _, rfl, Q7, fun b yd => ?_⟩
      have k4 := Kp.new (o := .lst ([q.called, q.price, q.cost].map V.int)) yd
      have Rc := k4.get Sz
      kd_p
      have hlen : (((uH s.units ts).take i).flatMap BI).length <= 300 := by
        rw [sx, length_take]
        omega
      refine CW Rc aA (by simp only [Vg, VC, length_nil]; rw [Vr]; omega) ?_
      refine ⟨⟨((kp.trans k3).trans k4).yy Sy Rc rfl, (kt.trans (k3.trans k4).x).trans (KpX.write Rc rfl)⟩, _, ?_, rfl⟩
      rw [aA, List.take_succ, eq, flatMap_append]
      simp [BI]
    . rintro σ' H' ⟨⟨kp, kt⟩, x4, Dr, rfl⟩
      simp only [Vg] at Dr
      rw [List.take_of_length_le (by rw [qb]; omega)] at Dr
      kd_p
      exact k H' lt (by show (0 :: _).length <= 1000; rw [VC, sx, qb]; omega) (DK.keep ⟨inv, A, hd, hi⟩ kp) kp.ks (.inr Sy) Dr
end
section
variable {C : Cs}
theorem zN (R : Rec C.K C.CD bT) (R2 : Rec C.K C.CU iB) (h : spH C (fun t _ => ∃ n, t = (11, [n], [])) vs H Q E) : lj C.K (eW C) (cR C.CO C.CU) (cH C.CO C.CU) (ends Q) (start mX vs) H := by
  obtain ⟨d, an, ar, s, O, t, rfl, ⟨inv, A, hd, hi⟩, nn, nr, ⟨hn, hr⟩, ⟨n, rfl⟩, k⟩ := h
  have we := hd.dr
  have ng : does s (bp (11, [n], [])) = match s.unit n with | none => (s, [-4]) | some u => (s, [0, u.taken, u.left, u.at_, floor_ u, ceil_ u, u.energy, u.paid]) := rfl
  rw [ng] at k
  unfold State.unit at k
  unfold lj
  kd_p
  refine bj (i := 0) (SqL.of hn) rfl ?_
  kd_p
  refine ⟨A.au, A.ua, A.oa, s.units, n, rfl, hd.j6 inv, by have := inv.cE; omega, fun H1 k1 e => ?_, fun H1 i k1 FD e en => ?_⟩
  . rw [e] at k
    kd_p
    refine oP ?_
    kd_p
    exact cB.lst k k1.ks (DK.keep ⟨inv, A, hd, hi⟩ k1) rfl (Vn rfl)
  . rw [e] at k
    have hU := k1.un ((hd.j6 inv).at_ i FD)
    have ok := (inv.uok _ (cK FD)).1
    have hu := hU.un
    kd_p
    refine oO ?_
    kd_p
    refine ⟨_, _, _, rfl, hU, ok, ?_⟩
    kd_p
    refine ⟨_, _, _, rfl, hU, ok, ?_⟩
    kd_p
    refine ⟨by show 3 <= sizeLine; decide, fun l0 Dq => ?_⟩
    have k2 := Kp.new (o := .lst [.int (uAt s.units i).at_, .int (floor_ (uAt s.units i)), .int (ceil_ (uAt s.units i))]) Dq
    have e2 : upd H1 l0 (.lst [.int (uAt s.units i).at_, .int (floor_ (uAt s.units i)), .int (ceil_ (uAt s.units i))]) l0 = some (.lst [.int (uAt s.units i).at_, .int (floor_ (uAt s.units i)), .int (ceil_ (uAt s.units i))]) := aA
    generalize upd H1 l0 (.lst [.int (uAt s.units i).at_, .int (floor_ (uAt s.units i)), .int (ceil_ (uAt s.units i))]) = H2 at k2 e2 ⊢
    have OE := k2.recAt hu
    kd_p
    refine ⟨by show 3 <= sizeLine; decide, fun l1 Jq => ?_⟩
    have k3 := Kp.new (o := .lst [.int 0, .int (uAt s.units i).taken, .int (uAt s.units i).left]) Jq
    have e3 : upd H2 l1 (.lst [.int 0, .int (uAt s.units i).taken, .int (uAt s.units i).left]) l1 = some (.lst [.int 0, .int (uAt s.units i).taken, .int (uAt s.units i).left]) := aA
    generalize upd H2 l1 (.lst [.int 0, .int (uAt s.units i).taken, .int (uAt s.units i).left]) = H3 at k3 e3 ⊢
    kd_p
    refine jK e3 (k3.get e2) (by show 6 <= sizeLine; decide) fun l2 yW => ?_
    have k4 := Kp.new (o := .lst ([.int 0, .int (uAt s.units i).taken, .int (uAt s.units i).left] ++ [.int (uAt s.units i).at_, .int (floor_ (uAt s.units i)), .int (ceil_ (uAt s.units i))])) yW
    have e4 : upd H3 l2 (.lst ([.int 0, .int (uAt s.units i).taken, .int (uAt s.units i).left] ++ [.int (uAt s.units i).at_, .int (floor_ (uAt s.units i)), .int (ceil_ (uAt s.units i))])) l2 = _ := aA
    generalize upd H3 l2 (.lst ([.int 0, .int (uAt s.units i).taken, .int (uAt s.units i).left] ++ [.int (uAt s.units i).at_, .int (floor_ (uAt s.units i)), .int (ceil_ (uAt s.units i))])) = H4 at k4 e4 ⊢
    have hu4 := k4.recAt (k3.recAt OE)
    kd_p
    refine ⟨by show 2 <= sizeLine; decide, fun l3 Fw => ?_⟩
    have k5 := Kp.new (o := .lst [.int (uAt s.units i).energy, .int (uAt s.units i).paid]) Fw
    have kk := (((k1.trans k2).trans k3).trans k4).trans k5
    refine jK (k5.get e4) aA (by show 8 <= sizeLine; decide) ?_
    exact (cB.lst k (KpX.ks kk) (DK.keep ⟨inv, A, hd, hi⟩ kk) rfl (Vn rfl)).2
theorem wo (R : Rec C.K C.CD bT) (R2 : Rec C.K C.CU iB) (h : spH C (fun t _ => t = (15, [], [])) vs H Q E) : iy C.K (ends Q) (start jC vs) H := by
  obtain ⟨d, an, ar, s, O, t, rfl, ⟨inv, A, hd, hi⟩, nn, nr, ⟨hn, hr⟩, rfl, k⟩ := h
  have we := hd.dr
  have few := inv.cE
  have ng : does s (bp (15, [], [])) = (s, 0 :: s.units.map fun u => u.at_) := rfl
  rw [ng] at k
  unfold iy
  kd_p
  refine ⟨by show 1 <= sizeLine; decide, fun l0 Dq => ?_⟩
  have k0 := Kp.new (o := .lst [.int 0]) Dq
  have bZ := hd.kp k0
  have pJ := bZ.dr
  have hU := bZ.j6 inv
  have hs := hU.sq
  have z0 : upd H l0 (.lst [.int 0]) l0 = some (.lst [.int 0]) := aA
  kd_p
  refine cU (bx hs) ?_ (fun i => .int (uAt s.units i).at_) (fun i H' Ky hj kp hy => ?_) fun D H' kp hD e => ?_
  . simp only [Vg, Vk]; rw [Vr]; omega
  . simp only [Vg, Vk] at hj
    obtain ⟨h1, h2⟩ := kp.un (hU.at_ i hj)
    rw [aZ _ hj]
    kd_p
    exact hy H' (Kp.refl _)
  . simp only [Vg, Vk] at e
    rw [eI, <- g7 s.units fun u => u.at_] at e
    refine jK (kp.get z0) e (by simp only [Vg, VC, length_nil]; rw [Vr]; omega) ?_
    exact (cB.lst k (KpX.ks (k0.trans kp)) (DK.keep ⟨inv, A, hd, hi⟩ (k0.trans kp)) rfl (by simp only [Vg, VC]; omega)).2
theorem BJ (R : Rec C.K C.CD bT) (R2 : Rec C.K C.CU iB) (h : spH C (fun t _ => ∃ n q, t = (12, [n, q], []) /\ 0 <= q) vs H Q E) : mY C.K (eW C) (ends Q) (start pA vs) H := by
  obtain ⟨d, an, ar, s, O, t, rfl, ⟨inv, A, hd, hi⟩, nn, nr, ⟨hn, hr⟩, ⟨n, q, rfl, q0⟩, k⟩ := h
  have we := hd.dr
  have ng : does s (bp (12, [n, q], [])) = match s.unit n with | none => (s, [-4]) | some u => if u.taken < q then (s, [-5]) else ({ s with units := s.units.map fun x => if x.offer.num = n then { x with left := q } else x }, [0, u.left]) := rfl
  rw [ng] at k
  unfold State.unit at k
  unfold mY
  kd_p
  refine bj (i := 0) (SqL.of hn) rfl ?_
  kd_p
  refine ⟨A.au, A.ua, A.oa, s.units, n, rfl, hd.j6 inv, by have := inv.cE; omega, fun H1 k1 e => ?_, fun H1 i k1 FD e en => ?_⟩
  . rw [e] at k
    kd_p
    refine oP ?_
    kd_p
    exact cB.lst k k1.ks (DK.keep ⟨inv, A, hd, hi⟩ k1) rfl (Vn rfl)
  . rw [e] at k
    dsimp only at k
    have bZ := hd.kp k1
    have hu := bZ.un i FD
    have OW := k1.get hn
    kd_p
    refine oO ?_
    kd_p
    refine bj (i := 1) (SqL.of OW) rfl ?_
    kd_p
    refine bX (fun c => ?_) fun c => ?_
    . have c := Vn c
      rw [Vj c] at k
      kd_p
      exact cB.lst k k1.ks (DK.keep ⟨inv, A, hd, hi⟩ k1) rfl (Vn rfl)
    . have c : ¬ (uAt s.units i).taken < q := fun z => c (Vw z)
      rw [Vh c] at k
      obtain ⟨dx, p1⟩ := hu
      have hu : RecAt C.CU H1 (A.ua i) (unF (A.oa i) (uAt s.units i)) := ⟨dx, p1⟩
      kd_p
      refine bj (i := 1) (SqL.of OW) rfl ?_
      kd_p
      refine ba p1 R2 (by decide) (by rfl) fun H2 _ p2 k2 => ?_
      have len : (s.units.map fun x => if x.offer.num = n then ({ x with left := q } : Unit_) else x).length = s.units.length := Vg _
      have uI : ∀ {j}, j < s.units.length -> uAt (s.units.map fun x => if x.offer.num = n then ({ x with left := q } : Unit_) else x) j = if j = i then { uAt s.units i with left := q } else uAt s.units j := fun {j} hj => by
        have e1 : uAt (s.units.map fun x => if x.offer.num = n then ({ x with left := q } : Unit_) else x) j = if (uAt s.units j).offer.num = n then { uAt s.units j with left := q } else uAt s.units j := by
          unfold uAt
          have := bP hj
          simp [List.getD, Vt, this]
        rw [e1]
        by_cases c : j = i
        . rw [c, Vj en, Vj rfl]
        . rw [Vh c, Vh fun z => c (pX inv.me hj FD (z.trans en.symm))]
      have nL : ∀ {b : Addr} {ys : List V}, H1 b = some (.lst ys) -> b ∉ [A.ua i] := fun {b ys} h => by simpa using (aT hu h).symm
      have nR : ∀ {Cl b : Addr} {f : Str} {v : V} {r : List (Str × V)}, RecAt Cl H1 b ((f, v) :: r) -> f ≠ "offer" -> b ∉ [A.ua i] := fun {Cl b f v r} h hf => by simpa using i6 h hu hf
      have hd2 : bz C H2 d { s with units := s.units.map fun x => if x.offer.num = n then { x with left := q } else x } A := by
        refine ⟨k2.recAt bZ.dr (nR bZ.dr (by decide)), k2.get bZ.bV rfl (nL bZ.bV), k2.get bZ.cy rfl (nL bZ.cy), fun j hj => k2.recAt (bZ.off j hj) (nR (bZ.off j hj) (by decide)), ?_, fun j hj => ?_, k2.get bZ.qus rfl (nL bZ.qus), fun j hj => k2.recAt (bZ.qu j hj) (nR (bZ.qu j hj) (by decide)), fun j hj => ⟨k2.get (bZ.ql j hj).1 rfl (nL (bZ.ql j hj).1), k2.get (bZ.ql j hj).2 rfl (nL (bZ.ql j hj).2)⟩, hd.n1, hd.n2, fun a b ha hb => hd.inj a b (by rw [len] at ha; exact ha) (by rw [len] at hb; exact hb), k2.tab _ bZ.t1, k2.tab _ bZ.t2⟩
        . show H2 A.au = some (.lst ((range (s.units.map _).length).map _))
          rw [len]
          exact k2.get bZ.uns rfl (nL bZ.uns)
        . have hj : j < s.units.length := by rw [len] at hj; exact hj
          show RecAt C.CU H2 (A.ua j) (unF (A.oa j) (uAt (s.units.map _) j))
          rw [uI hj]
          by_cases c : j = i
          . rw [Vj c, c]
            exact ⟨dx, p2⟩
          . rw [Vh c]
            exact k2.recAt (bZ.un j hj) (by
              have : A.ua j ≠ A.ua i := fun z => c (hd.inj j i hj FD z)
              simpa using this)
      kd_p
      refine cB.lst k (k1.ks.trans (k2.s (by intro b hb; rw [mem_singleton.mp hb]; exact hi.ua i FD))) ⟨B4 inv q0 (fun u hu hn => ?_), A, hd2, ⟨.inl hi.d, .inl hi.an, .inl hi.al, .inl hi.au, .inl hi.aq, fun i hj => .inl (hi.oa i hj), fun i hj => .inl (hi.ua i (by rw [len] at hj; exact hj)), fun j hj => .inl (hi.qa j hj), fun j hj => .inl (hi.pa j hj), fun j hj => .inl (hi.ya j hj)⟩⟩ rfl (Vn rfl)
      obtain ⟨j, hj, rfl⟩ := BD hu
      rw [pX inv.me hj FD (hn.trans en.symm)]
      omega
end
section
variable {C : Cs}
theorem sA {K : FG} {Q : VK} {ns : List Int} (h : SqL K H l (ns.map V.int)) (q : Q (.int ns.sum) H) : oM K [.ref l] H Q := ⟨l, ns, rfl, h, q⟩
theorem xy (R : Rec C.K C.CD bT) (h : spH C (fun t _ => ∃ n, t = (13, [n], []) /\ 1 <= n /\ n <= 1000) vs H Q E) : jA C.K (gz C.CO C.CU) (fC C.CO C.CU) (ends Q) (start lx vs) H := by
  obtain ⟨d, an, ar, s, O, t, rfl, ⟨inv, A, hd, hi⟩, nn, nr, ⟨hn, hr⟩, ⟨n, rfl, n1, n2⟩, k⟩ := h
  have we := hd.dr
  have few := inv.cE
  have ng : does s (bp (13, [n], [])) = (s, [0, (s.units.map fun u => wm u n).sum, (s.units.map fun u => qQ u n).sum]) := rfl
  rw [ng] at k
  have hU := hd.j6 inv
  have hs := hU.sq
  unfold jA
  kd_p
  refine cU (bx hs) ?_ (fun i => .int (wm (uAt s.units i) n)) (fun i H' Ky hj kp hy => ?_) fun D H1 k1 hD e => ?_
  . simp only [Vg, Vk]; rw [Vr]; omega
  . simp only [Vg, Vk] at hj
    rw [aZ _ hj]
    kd_p
    refine bj (i := 0) (SqL.of (kp.get hn)) rfl ?_
    kd_p
    exact ⟨_, _, _, n, rfl, kp.un (hU.at_ i hj), (inv.uok _ (cK hj)).1, n1, n2, hy H' (Kp.refl _)⟩
  simp only [Vg, Vk] at e
  rw [eI, <- g7 s.units fun u => wm u n] at e
  have pJ := k1.recAt we
  have HK := k1.uns hU
  have A4 := HK.sq
  kd_p
  refine sA (SqL.of e) ?_
  kd_p
  refine cU (bx A4) ?_ (fun i => .int (qQ (uAt s.units i) n)) (fun i H' Ky hj kp hy => ?_) fun D2 H2 k2 Mt e2 => ?_
  . simp only [Vg, Vk]; rw [Vr]; omega
  . simp only [Vg, Vk] at hj
    rw [aZ _ hj]
    kd_p
    refine bj (i := 0) (SqL.of (kp.get (k1.get hn))) rfl ?_
    kd_p
    exact ⟨_, _, _, n, rfl, kp.un (HK.at_ i hj), (inv.uok _ (cK hj)).1, n1, n2, hy H' (Kp.refl _)⟩
  simp only [Vg, Vk] at e2
  rw [eI, <- g7 s.units fun u => qQ u n] at e2
  kd_p
  refine sA (SqL.of e2) ?_
  kd_p
  exact cB.lst k (KpX.ks (k1.trans k2)) (DK.keep ⟨inv, A, hd, hi⟩ (k1.trans k2)) rfl (Vn rfl)
theorem xA (R : Rec C.K C.CD bT) (R2 : Rec C.K C.CU iB) (R3 : Rec C.K C.CO cf) (h : spH C (fun t s => t = (18, [], []) /\ s.buys = true) vs H Q E) : jE C.K (ends Q) (start lz vs) H := by
  obtain ⟨d, an, ar, s, O, t, rfl, ⟨inv, A, hd, hi⟩, nn, nr, ⟨hn, hr⟩, ⟨rfl, hb⟩, k⟩ := h
  have we := hd.dr
  have few := inv.cE
  have ng : does s (bp (18, [], [])) = (s, [0, (s.units.map fun u => u.taken * u.offer.price).sum, (s.units.map fun u => u.paid).sum]) := by
    show (s, [0, (s.units.map fun u => u.offer.price * u.taken).sum, (s.units.map fun u => u.paid).sum]) = _
    rw [qZ (f := fun u : Unit_ => u.offer.price * u.taken) (g := fun u => u.taken * u.offer.price) fun u _ => mul_comm _ _]
  rw [ng] at k
  have hU := hd.j6 inv
  have hs := hU.sq
  unfold jE
  kd_p
  refine cU (bx hs) ?_ (fun i => .int ((uAt s.units i).taken * (uAt s.units i).offer.price)) (fun i H' Ky hj kp hy => ?_) fun D H1 k1 hD e => ?_
  . simp only [Vg, Vk]; rw [Vr]; omega
  . simp only [Vg, Vk] at hj
    obtain ⟨h1, h2⟩ := kp.un (hU.at_ i hj)
    rw [aZ _ hj]
    kd_p
    obtain ⟨o1, o2⟩ := inv.uok _ (cK hj)
    have hm : (uAt s.units i).offer ∈ s.offers := by rw [<- inv.uns hb]; exact mem_map_of_mem (cK hj)
    have o3 := (inv.ofb _ hm).q1
    have o4 := o1.left
    have o5 := o1.le
    refine kG ⟨by omega, by omega⟩ ?_
    kd_p
    exact hy H' (Kp.refl _)
  simp only [Vg, Vk] at e
  rw [eI, <- g7 s.units fun u => u.taken * u.offer.price] at e
  have pJ := k1.recAt we
  have HK := k1.uns hU
  have A4 := HK.sq
  kd_p
  refine sA (SqL.of e) ?_
  kd_p
  refine cU (bx A4) ?_ (fun i => .int (uAt s.units i).paid) (fun i H' Ky hj kp hy => ?_) fun D2 H2 k2 Mt e2 => ?_
  . simp only [Vg, Vk]; rw [Vr]; omega
  . simp only [Vg, Vk] at hj
    obtain ⟨h1, h2⟩ := kp.un (HK.at_ i hj)
    rw [aZ _ hj]
    kd_p
    exact hy H' (Kp.refl _)
  simp only [Vg, Vk] at e2
  rw [eI, <- g7 s.units fun u => u.paid] at e2
  kd_p
  refine sA (SqL.of e2) ?_
  kd_p
  exact cB.lst k (KpX.ks (k1.trans k2)) (DK.keep ⟨inv, A, hd, hi⟩ (k1.trans k2)) rfl (Vn rfl)
theorem tP (R : Rec C.K C.CD bT) (R2 : Rec C.K C.CQ Dl) (h : spH C (fun t _ => ∃ n, t = (17, [n], []) /\ 1 <= n) vs H Q E) : gx C.K (iF C.CQ) (ends Q) (start iA vs) H := by
  obtain ⟨d, an, ar, s, O, t, rfl, ⟨inv, A, hd, hi⟩, nn, nr, ⟨hn, hr⟩, ⟨n, rfl, n1⟩, k⟩ := h
  have we := hd.dr
  have ng : does s (bp (17, [n], [])) = match s.quarters[(n - 1).toNat]? with | none => (s, [-4]) | some q => (s, 0 :: Vbemah.quarterNumbers q) := rfl
  rw [ng] at k
  unfold gx
  kd_p
  refine df (SqL.of hd.qus) ?_
  kd_p
  refine bj (i := 0) (SqL.of hn) rfl ?_
  kd_p
  rw [Vg, Vk]
  refine bX (fun c => ?_) fun c => ?_
  . have c := Vn c
    rw [VL (by omega)] at k
    kd_p
    exact cB.lst k (Kp.refl H).ks (DK.keep ⟨inv, A, hd, hi⟩ (Kp.refl H)) rfl (Vn rfl)
  . have c : ¬ ((s.quarters.length : Nat) : Int) < n := fun z => c (Vw z)
    obtain ⟨j, rfl⟩ : ∃ j : Nat, n = (j : Int) + 1 := ⟨(n - 1).toNat, by omega⟩
    have hj : j < s.quarters.length := by omega
    have eq : s.quarters[j]? = some (qAt s.quarters j) := by
      unfold qAt
      rw [List.getD, Vl hj]; rfl
    have ej : ((j : Int) + 1 - 1) = (j : Nat) := by omega
    rw [ej, Int.toNat_natCast, eq] at k
    have hq := hd.qu j hj
    kd_p
    refine bj (i := 0) (SqL.of hn) rfl ?_
    kd_p
    rw [ej]
    refine bj (SqL.of hd.qus) (aZ _ hj) ?_
    kd_p
    refine ⟨by show 2 <= sizeLine; decide, fun l0 Dq => ?_⟩
    have k1 := Kp.new (o := .lst [.int 0, .int (qAt s.quarters j).target]) Dq
    have e1 : upd H l0 (.lst [.int 0, .int (qAt s.quarters j).target]) l0 = some (.lst [.int 0, .int (qAt s.quarters j).target]) := aA
    generalize upd H l0 (.lst [.int 0, .int (qAt s.quarters j).target]) = H1 at k1 e1 ⊢
    kd_p
    refine ⟨_, _, _, _, _, _, _, rfl, k1.recAt hq, fun l1 Jq => ?_⟩
    have k2 := Kp.new (o := .lst ([(qAt s.quarters j).called, (qAt s.quarters j).price, (qAt s.quarters j).cost].map V.int)) Jq
    refine jK (k2.get e1) aA (by show 5 <= sizeLine; decide) ?_
    exact (cB.lst k (KpX.ks (k1.trans k2)) (DK.keep ⟨inv, A, hd, hi⟩ (k1.trans k2)) rfl (Vn rfl)).2
theorem xB (R : Rec C.K C.CD bT) (R2 : Rec C.K C.CU iB) (R3 : Rec C.K C.CO cf) (h : spH C (fun t _ => ∃ ys, t = (16, [], ys) /\ ∀ y ∈ ys, -1000000000 <= y /\ y <= 1000000000) vs H Q E) : jD C.K (gy C.CO C.CU) (ends Q) (start ly vs) H := by
  obtain ⟨d, an, ar, s, O, t, rfl, ⟨inv, A, hd, hi⟩, nn, nr, ⟨hn, hr⟩, ⟨ys, rfl, hy⟩, k⟩ := h
  have we := hd.dr
  have few := inv.cE
  have hr : H ar = some (.lst (ys.map V.int)) := hr
  have ng : does s (bp (16, [], ys)) = if ys.length ≠ s.units.length then (s, [-4]) else if Vbemah.can s.units ys = false then (s, [-5]) else (s, [0, ys.sum, Vbemah.energyCostOf s.units ys]) := rfl
  rw [ng] at k
  have hU := hd.j6 inv
  have hs := hU.sq
  have sr := SqL.of (K := C.K) hr
  unfold jD
  kd_p
  refine df sr ?_
  kd_p
  refine df hs ?_
  kd_p
  rw [Vg, Vg, Vk]
  refine bX (fun c => ?_) fun c => ?_
  . have c : ys.length ≠ s.units.length := fun z => by
      rw [z] at c
      simp at c
    rw [Vj c] at k
    kd_p
    exact cB.lst k (Kp.refl H).ks (DK.keep ⟨inv, A, hd, hi⟩ (Kp.refl H)) rfl (Vn rfl)
  . have c : ys.length = s.units.length := Classical.byContradiction fun z => c (by
      rw [not_eq_true', Wn]
      intro w
      injection w with w
      exact z (by omega))
    rw [Vh (fun z => z c)] at k
    kd_p
    refine cU (nB hs sr) ?_ (fun i => .bl (decide (floor_ (uAt s.units i) <= ys.getD i 0) && decide (ys.getD i 0 <= ceil_ (uAt s.units i)))) (fun i H' Ky hj kp Rf => ?_) fun D H1 k1 hD e => ?_
    . simp only [Vg, Vk]; rw [Vr]; omega
    . simp only [Vg, Vk] at hj
      have hj : i < s.units.length := by omega
      rw [aZ _ hj, gj ys (by omega)]
      kd_p
      exact ⟨_, _, _, _, rfl, kp.un (hU.at_ i hj), (inv.uok _ (cK hj)).1, Rf H' (Kp.refl _)⟩
    simp only [Vg, Vk, c, min_self] at e
    have eb : (range s.units.length).map (fun i => V.bl (decide (floor_ (uAt s.units i) <= ys.getD i 0) && decide (ys.getD i 0 <= ceil_ (uAt s.units i)))) = ((range s.units.length).map fun i => decide (floor_ (uAt s.units i) <= ys.getD i 0) && decide (ys.getD i 0 <= ceil_ (uAt s.units i))).map V.bl := by rw [Vz]; rfl
    rw [eb] at e
    have pJ := k1.recAt we
    have HK := k1.uns hU
    have A4 := HK.sq
    have SA := k1.bI sr
    kd_p
    refine ⟨D, _, rfl, SqL.of e, ?_⟩
    rw [<- Ka c]
    kd_p
    refine bX (fun c2 => ?_) fun c2 => ?_
    . have c2 : Vbemah.can s.units ys = false := by simpa using c2
      rw [Vj c2] at k
      kd_p
      exact cB.lst k (KpX.ks k1) (DK.keep ⟨inv, A, hd, hi⟩ k1) rfl (Vn rfl)
    . have c2 : Vbemah.can s.units ys = true := by simpa using c2
      rw [Vh (by rw [c2]; simp), FT c] at k
      kd_p
      refine cU (nB A4 SA) ?_ (fun i => .int (ys.getD i 0 * (uAt s.units i).offer.energy)) (fun i H' Ky hj kp Rf => ?_) fun D2 H2 k2 Mt e2 => ?_
      . simp only [Vg, Vk]; rw [Vr]; omega
      . simp only [Vg, Vk] at hj
        have hj : i < s.units.length := by omega
        obtain ⟨h1, h2⟩ := kp.un (HK.at_ i hj)
        rw [aZ _ hj, gj ys (by omega)]
        kd_p
        have hyi := hy (ys.getD i 0) (getD_mem (by omega))
        refine kG ⟨by omega, by omega⟩ ?_
        kd_p
        exact Rf H' (Kp.refl _)
      simp only [Vg, Vk, c, min_self] at e2
      rw [eI] at e2
      kd_p
      refine sA (SqL.of e2) ?_
      kd_p
      refine sA (k2.bI SA) ?_
      kd_p
      exact cB.lst k (KpX.ks (k1.trans k2)) (DK.keep ⟨inv, A, hd, hi⟩ (k1.trans k2)) rfl (Vn rfl)
end
section
variable {C : Cs}
theorem wq (R : Rec C.K C.CD bT) (R2 : Rec C.K C.CU iB) (R3 : Rec C.K C.CO cf) (h : spH C (fun t _ => t = (14, [], [])) vs H Q E) : iw C.K (gQ C.K C.T2) (ends Q) (start jB vs) H := by
  obtain ⟨d, an, ar, s, O, t, rfl, ⟨inv, A, hd, hi⟩, nn, nr, ⟨hn, hr⟩, rfl, k⟩ := h
  have we := hd.dr
  have few := inv.cE
  have hU := hd.j6 inv
  have hs := hU.sq
  generalize hf : s.units.filter (fun u => decide (0 < u.left)) = j7
  have ng : does s (bp (14, [], [])) = (s, 0 :: (bW j7).map fun p => (uAt j7 p).offer.num) := by
    show (s, 0 :: ((merit s.units).filter fun u => decide (0 < u.left)).map fun u => u.offer.num) = _
    rw [<- yI, hf, <- fh j7, Vz]
    rfl
  rw [ng] at k
  unfold iw
  kd_p
  refine ji (bx hs) ?_ (fun i => decide (0 < (uAt s.units i).left)) (fun i => .ref (A.oa i)) (fun i H' Ky Kf hj kp hy hf => ?_) fun D H1 k1 hD e => ?_
  . simp only [Vg, Vk]; rw [Vr]; omega
  . simp only [Vg, Vk] at hj
    obtain ⟨h1, h2⟩ := kp.un (hU.at_ i hj)
    rw [aZ _ hj]
    kd_p
    refine bX (fun c => ?_) fun c => hf (VZ c) H' (Kp.refl _)
    kd_p
    exact hy c H' (Kp.refl _)
  simp only [Vg, Vk] at e
  generalize z9 : cQ (fun i => decide (0 < (uAt s.units i).left)) s.units.length = ix at e
  have ef : j7 = ix.map (uAt s.units) := by rw [<- hf, <- z9, uG]; rfl
  have len : j7.length = ix.length := by rw [ef, Vg]
  have UP : ix.length <= 24 := by
    have := jU (fun i => decide (0 < (uAt s.units i).left)) s.units.length
    rw [z9] at this
    omega
  have Hs : ∀ {j}, j < ix.length -> ix.getD j 0 < s.units.length := fun {j} hj => by
    have hm : ix.getD j 0 ∈ ix := getD_mem hj
    have dF : ∀ x ∈ ix, x < s.units.length := fun x hx => by
      rw [<- z9] at hx
      exact mem_range.mp (mem_filter.mp hx).1
    exact dF _ hm
  have eu : ∀ {j}, j < ix.length -> uAt j7 j = uAt s.units (ix.getD j 0) := fun {j} hj => by
    rw [ef]
    conv => lhs; unfold uAt
    exact getD_map (d := 0) (by omega)
  have eD : ∀ {j}, j < ix.length -> (ix.map fun i => V.ref (A.oa i))[j]? = some (.ref (A.oa (ix.getD j 0))) := fun {j} hj => by
    rw [Vt, Vl hj]
    simp [List.getD, Vl hj]
  have sD := SqL.of (K := C.K) e
  kd_p
  refine cU (bx sD) ?_ (fun j => .int (uAt j7 j).offer.energy) (fun j H' Ky hj kp hy => ?_) fun D2 H2 k2 Mt e2 => ?_
  . simp only [Vg]; rw [Vr]; omega
  . simp only [Vg] at hj
    have h2 := ((k1.trans kp).un (hU.at_ _ (Hs hj))).of
    rw [eD hj]
    rw [eu hj] at hy
    kd_p
    exact hy H' (Kp.refl _)
  simp only [Vg] at e2
  rw [<- len, eI, <- g7 j7 fun u => u.offer.energy] at e2
  kd_p
  refine ⟨D2, j7.map fun u => u.offer.energy, rfl, SqL.of e2, by rw [Vg]; omega, (k1.trans k2).tab _ hd.t2, fun H3 lb k3 nb eb => ?_⟩
  rw [Hh, Vg] at eb
  have eb : H3 lb = some (.lst ((bW j7).map lC)) := eb
  have kk := (k1.trans k2).trans k3
  have sb := SqL.of (K := C.K) eb
  have lm : (bW j7).length = j7.length := by
    have := (cu (fun p => (uAt j7 p).offer.energy) (range j7.length)).length_eq
    rw [Vk] at this
    exact this
  kd_p
  refine ⟨by show 1 <= sizeLine; decide, fun l0 Dq => ?_⟩
  have k4 := Kp.new (o := .lst [.int 0]) Dq
  have e4 : upd H3 l0 (.lst [.int 0]) l0 = some (.lst [.int 0]) := aA
  generalize upd H3 l0 (.lst [.int 0]) = H4 at k4 e4 ⊢
  have U0 := k4.bI sb
  have U1 := k4.bI (k3.bI (k2.bI sD))
  kd_p
  refine cU (bx U0) ?_ (fun j => .int (uAt j7 ((bW j7).getD j 0)).offer.num) (fun j H' Ky hj kp hy => ?_) fun D5 H5 k5 T7 e5 => ?_
  . simp only [Vg]; rw [Vr, lm]; omega
  . simp only [Vg] at hj
    obtain ⟨p, ep⟩ : ∃ p, (bW j7)[j]? = some p := ⟨_, Vl hj⟩
    have hp : p < ix.length := by rw [<- len]; exact b7.mp (VG ep)
    have eg : (bW j7).getD j 0 = p := by simp [List.getD, ep]
    have h2 := (((kk.trans k4).trans kp).un (hU.at_ _ (Hs hp))).of
    rw [Vt, ep]
    rw [eg, eu hp] at hy
    kd_p
    refine bj (kp.bI U1) (eD hp) ?_
    kd_p
    exact hy H' (Kp.refl _)
  simp only [Vg] at e5
  rw [eI] at e5
  have e6 : (range (bW j7).length).map (fun j => (uAt j7 ((bW j7).getD j 0)).offer.num) = (bW j7).map fun p => (uAt j7 p).offer.num := by
    conv => rhs; rw [<- cc (bW j7) 0, Vz]
    rfl
  rw [e6] at e5
  refine jK (k5.get e4) e5 (by simp only [Vg, VC, length_nil]; rw [Vr, lm]; omega) ?_
  have SD := (kk.trans k4).trans k5
  exact (cB.lst k (KpX.ks SD) (DK.keep ⟨inv, A, hd, hi⟩ SD) rfl (by simp only [Vg, VC]; rw [lm]; omega)).2
def sZ (o : Offer) : List Int := [o.num, jF o.down, o.q, o.price, o.energy, o.ramp, jF o.whole]
theorem sC : ∀ (os : List Offer), (os.flatMap sZ).length = 7 * os.length
  | [] => rfl
  | o :: r => by
    rw [flatMap_cons, VB, sC r, VC]
    show 7 + _ = _
    omega
theorem zO (R : Rec C.K C.CD bT) (R3 : Rec C.K C.CO cf) (h : spH C (fun t _ => t = (19, [], [])) vs H Q E) : lA C.K (ends Q) (start m7 vs) H := by
  obtain ⟨d, an, ar, s, O, t, rfl, ⟨inv, A, hd, hi⟩, nn, nr, ⟨hn, hr⟩, rfl, k⟩ := h
  have we := hd.dr
  have few := inv.few
  have ho := hd.pI
  have ng : does s (bp (19, [], [])) = (s, [0, s.needUp, s.needDown, jF s.buys] ++ s.offers.flatMap sZ) := rfl
  rw [ng] at k
  unfold lA
  kd_p
  refine ⟨by show 1 <= sizeLine; decide, fun l0 Dq => ?_⟩
  have k1 := Kp.new (o := .lst [.int 0]) Dq
  have e1 : upd H l0 (.lst [.int 0]) l0 = some (.lst [.int 0]) := aA
  generalize upd H l0 (.lst [.int 0]) = H1 at k1 e1 ⊢
  have bZ := hd.kp k1
  have pJ := bZ.dr
  kd_p
  refine jK e1 bZ.bV (by show 3 <= sizeLine; decide) fun l1 Jq => ?_
  have k2 := Kp.new (o := .lst ([.int 0] ++ [.int s.needUp, .int s.needDown])) Jq
  have e2 : upd H1 l1 (.lst ([.int 0] ++ [.int s.needUp, .int s.needDown])) l1 = some (.lst ([.int 0] ++ [.int s.needUp, .int s.needDown])) := aA
  generalize upd H1 l1 (.lst ([.int 0] ++ [.int s.needUp, .int s.needDown])) = H2 at k2 e2 ⊢
  have Hq := k2.recAt pJ
  have NY : ∀ {b : Bool} {K' : FG} {tt : TE} {σ : St} {H : Hp} {Q : VK}, (∀ Q' : VK, Q' (.bl b) H -> tt σ H Q') -> Q (.int (jF b)) H -> tIf (tB tt) (tC (.int 1)) (tC (.int 0)) σ H Q := by
    intro b K' tt σ H Q h1 h2
    refine JR (JP (h1 _ (JQ ?_)))
    cases b with
    | true => exact oP (Bj h2)
    | false => exact oO (Bj h2)
  have rest : ∀ {H3 : Hp} {l2 : Addr}, Kp H H3 -> Nw H l2 -> H3 l2 = some (.lst ([0, s.needUp, s.needDown, jF s.buys].map V.int)) ->
      aH (lX (bO C.K (aI C.K (ai 0) "offers")) (aC 4) (aH (d9 (tBM C.K "list" nv (ai 3) (aj (bH (aj (aI C.K (ai 4) "number") (aj (aI C.K (ai 4) "direction") (aj (aI C.K (ai 4) "amount") (aj (aI C.K (ai 4) "capacity") (aj (aI C.K (ai 4) "energy") (aj (aI C.K (ai 4) "ramp") aE))))))) aE))) (d9 (tBM C.K "list" dI (ai 3) (aj (tIf (tB (aI C.K (ai 4) "whole")) (tC (.int 1)) (tC (.int 0))) aE))))) (aX (ai 3)) (ends Q) [some (.ref d), some (.ref an), some (.ref ar), some (.ref l2), none] H3 := by
    intro H3 l2 k3 n2 e3
    have j5 := hd.kp k3
    have LQ := j5.dr
    have so := SqL.of (K := C.K) j5.cy
    have ne : A.al ≠ l2 := n2.ne hd.cy
    kd_p
    refine jj (kC (K := C.K) (a := A.al) (xs := (range s.offers.length).map fun i => V.ref (A.oa i))) (fun i σ H' => Kp H H' /\ ∃ (x4 : Option V), H' l2 = some (.lst (([0, s.needUp, s.needDown, jF s.buys] ++ (s.offers.take i).flatMap sZ).map V.int)) /\ σ = [some (.ref d), some (.ref an), some (.ref ar), some (.ref l2), x4])
      ⟨k3, none, by rw [e3]; rfl, rfl⟩ (fun i σ' H' p => SqL.of (p.1.get hd.cy)) ?_ ?_
    . rintro i σ' H' H4 hj ⟨kp, x4, hl, rfl⟩ k4
      simp only [Vg, Vk] at hj
      have h1 := (kp.trans k4).recAt (hd.off i hj)
      have l4 := k4.get hl
      have hlen : ((s.offers.take i).flatMap sZ).length <= 200 := by
        rw [sC, length_take]
        omega
      rw [aZ _ hj]
      kd_p
      refine ⟨.inl ⟨rfl, _, SqL.of l4⟩, ?_⟩
      kd_p
      refine ⟨by show 6 <= sizeLine; decide, fun b yd => ?_⟩
      have k5 := Kp.new (o := .lst [.int (oAt s.offers i).num, .int (jF (oAt s.offers i).down), .int (oAt s.offers i).q, .int (oAt s.offers i).price, .int (oAt s.offers i).energy, .int (oAt s.offers i).ramp]) yd
      have l5 := k5.get l4
      kd_p
      refine CW l5 aA (by simp only [Vg, VB, VC, length_nil]; rw [Vr]; omega) ?_
      have k6 := ((kp.trans k4).trans k5).yy (o := .lst (([0, s.needUp, s.needDown, jF s.buys] ++ (s.offers.take i).flatMap sZ).map V.int ++ [.int (oAt s.offers i).num, .int (jF (oAt s.offers i).down), .int (oAt s.offers i).q, .int (oAt s.offers i).price, .int (oAt s.offers i).energy, .int (oAt s.offers i).ramp])) n2 l5 rfl
      have l6 := aA (H := upd H4 b (.lst [.int (oAt s.offers i).num, .int (jF (oAt s.offers i).down), .int (oAt s.offers i).q, .int (oAt s.offers i).price, .int (oAt s.offers i).energy, .int (oAt s.offers i).ramp])) (a := l2) (o := .lst (([0, s.needUp, s.needDown, jF s.buys] ++ (s.offers.take i).flatMap sZ).map V.int ++ [.int (oAt s.offers i).num, .int (jF (oAt s.offers i).down), .int (oAt s.offers i).q, .int (oAt s.offers i).price, .int (oAt s.offers i).energy, .int (oAt s.offers i).ramp]))
      generalize upd (upd H4 b (.lst [.int (oAt s.offers i).num, .int (jF (oAt s.offers i).down), .int (oAt s.offers i).q, .int (oAt s.offers i).price, .int (oAt s.offers i).energy, .int (oAt s.offers i).ramp])) l2 (.lst (([0, s.needUp, s.needDown, jF s.buys] ++ (s.offers.take i).flatMap sZ).map V.int ++ [.int (oAt s.offers i).num, .int (jF (oAt s.offers i).down), .int (oAt s.offers i).q, .int (oAt s.offers i).price, .int (oAt s.offers i).energy, .int (oAt s.offers i).ramp])) = H6 at k6 l6 ⊢
      have h6 := k6.recAt (hd.off i hj)
      refine Et (JS (GV rfl ⟨.inl ⟨rfl, _, SqL.of l6⟩, ?_⟩))
      refine zi (NY (b := (oAt s.offers i).whole) (K' := C.K) (fun Q' hq => ?_) ?_)
      . kd_p
        exact hq
      refine CT ?_
      refine oS l6 (by simp only [Vg, VB, VC, length_nil]; rw [Vr]; omega) ?_
      refine ⟨k6.yy n2 l6 rfl, _, ?_, rfl⟩
      rw [aA, List.take_succ, cI hj, flatMap_append]
      simp [sZ]
    . rintro σ' H' ⟨kp, x4, hl, rfl⟩
      simp only [Vg, Vk, take_length] at hl
      kd_p
      exact k H' l2 (by rw [VB, sC]; show 4 + _ <= _; omega) (DK.keep ⟨inv, A, hd, hi⟩ kp) kp.ks (.inr n2) hl
  refine GX (zi (NY (b := s.buys) (K' := C.K) (fun Q' hq => ?_) ?_))
  . kd_p
    exact hq
  refine CT ⟨by show 1 <= sizeLine; decide, fun l3 Fw => ?_⟩
  have k3 := Kp.new (o := .lst [.int (jF s.buys)]) Fw
  have e3 := k3.get e2
  have ks := (k1.trans k2).trans k3
  refine jK e3 aA (by show 4 <= sizeLine; decide) fun l2 yW => ?_
  refine vv ?_
  exact rest (ks.trans (Kp.new yW)) (ks.nw (.of yW)) aA
end
open Vbemah (stepNumbers)
section
variable {C : Cs} {CL : Addr}
def Jt (CL : Addr) (H : Hp) (O : Addr -> Prop) (a : Addr) (t : T3) : Prop := ∃ an ar, RecAt CL H a (Bz t.1 an ar) /\ H an = some (.lst (t.2.1.map V.int)) /\ H ar = some (.lst (t.2.2.map V.int)) /\ ¬ O a /\ ¬ O an /\ ¬ O ar
def lE (C : Cs) (CL : Addr) : Sp := fun vs H Q _ => ∃ (d a : Addr) (s : State) (O : Addr -> Prop) (t : T3), vs = [.ref d, .ref a] /\ DK C H d s O /\ Jt CL H O a t /\ okT t /\ VbemahNeutral.asked1 (cM t) = true /\ t.2.2.length <= 16000 /\ cB C H d O (stepNumbers s (cM t)) Q
def lF (C : Cs) : Sp := fun vs H Q _ => ∃ (ag : Addr) (ts : List T3), vs = [.ref ag] /\ SqL C.K H ag ((ts.flatMap gg).map V.int) /\ (∀ t ∈ ts, okT t) /\ (∀ t ∈ ts, VbemahNeutral.asked1 (cM t) = true) /\ (∀ t ∈ ts, t.2.2.length <= 16000) /\ ts.length <= 400 /\ Tab H C.T1 /\ Tab H C.T2 /\
  ∀ H' l, H' l = some (.lst ((PyFlat.told (PyFlat.played stepNumbers Vbemah.start (ts.map cM))).map V.int)) -> Q (.ref l) H'
theorem DK.NZ (h : DK C H d s O) : DK C H d s (fun b => ∃ o, H b = some o /\ jT o = false) := by
  obtain ⟨inv, A, h, _⟩ := h
  have r : ∀ {Cl a : Addr} {fs : List (Str × V)}, RecAt Cl H a fs -> ∃ o, H a = some o /\ jT o = false := fun ⟨dx, e⟩ => ⟨_, e, rfl⟩
  exact ⟨inv, A, h, ⟨r h.dr, ⟨_, h.bV, rfl⟩, ⟨_, h.cy, rfl⟩, ⟨_, h.uns, rfl⟩, ⟨_, h.qus, rfl⟩, fun i hi => r (h.off i hi), fun i hi => r (h.un i hi), fun i hi => r (h.qu i hi), fun i hi => ⟨_, (h.ql i hi).1, rfl⟩, fun i hi => ⟨_, (h.ql i hi).2, rfl⟩⟩⟩
theorem Dv (h : lF C vs H Q E) : pf C.K C.CD (zH C) (jI C.K CL) (lE C CL) (ends Q) (start nJ vs) H := by
  obtain ⟨ag, ts, rfl, hg, hok, Dx, LZ, hn, t1, t2, k⟩ := h
  unfold pf
  kd_p
  intro d dx nd SE ne
  have Nc : (upd H dx (.own d)) d = none := by rw [aM (Ne.symm ne)]; exact nd
  have kA : Kp H (upd (upd H dx (.own d)) d (.ins C.CD dx [])) := (Kp.new SE).trans (Kp.new Nc)
  refine ⟨d, dx, rfl, aA, kA.tab _ t1, kA.tab _ t2, fun H1 k1 LN => ⟨rfl, ?_⟩⟩
  have Bw : Kp H H1 := KpX.made nd SE ne k1
  kd_p
  refine ⟨VF _, fun lt cN => ?_⟩
  have k2 := Kp.new (o := .lst []) cN
  have l2 : upd H1 lt (.lst []) lt = some (.lst []) := aA
  generalize upd H1 lt (.lst []) = H2 at k2 l2 ⊢
  have z8 := Bw.trans k2
  kd_p
  refine ⟨ag, ts, rfl, z8.bI hg, hok, by omega, fun H3 lc ac k3 SF el pc => ?_⟩
  let O1 : Addr -> Prop := fun b => ∃ o, H1 b = some o /\ jT o = false
  have Rg : DK C H1 d Vbemah.start O1 := LN.NZ
  have Rh : DK C H3 d Vbemah.start O1 := Rg.frame (S := fun _ => False) (KpX.ks (k2.trans k3)) fun _ _ z => z
  have out : ∀ {b}, Nw H2 b -> ¬ O1 b := fun {b} HU ⟨o, e, ho⟩ => by
    have := HU o (k2.get e ho)
    rw [ho] at this; cases this
  have U2 : ¬ O1 lt := fun ⟨o, e, _⟩ => by rw [cN] at e; cases e
  have l3 := k3.get l2
  have Ri : lc ≠ lt := Ne.symm (SF.ne l2)
  refine yz (SqL.of el) ?_
  refine jj (kC (K := C.K) (a := lc) (xs := ac.map V.ref)) (fun i σ H' => ∃ (s : State) (O : Addr -> Prop) (acc : List Int) (x3 x4 : Option V), DK C H' d s O /\ ¬ O lt /\ ¬ O lc /\ H' lc = some (.lst (ac.map V.ref)) /\ H' lt = some (.lst (acc.map V.int)) /\ acc.length <= 1001 * i /\ Paired (fun a t => ∃ an ar, (RecAt CL H' a (Bz t.1 an ar) /\ H' an = some (.lst (t.2.1.map V.int)) /\ H' ar = some (.lst (t.2.2.map V.int)) /\ ¬ O a /\ ¬ O an /\ ¬ O ar) /\ an ≠ lt /\ ar ≠ lt) ac ts /\
      acc ++ PyFlat.told (PyFlat.played stepNumbers s ((ts.drop i).map cM)) = PyFlat.told (PyFlat.played stepNumbers Vbemah.start (ts.map cM)) /\ σ = [some (.ref ag), some (.ref d), some (.ref lt), x3, x4])
    ⟨Vbemah.start, O1, [], none, none, Rh, U2, out SF, el, l3, Vq _, Paired.uL pc fun a t ⟨an, ar, h1, h2, h3, n1, n2, n3⟩ => ⟨an, ar, ⟨h1, h2, h3, out n1, out n2, out n3⟩, Ne.symm (n2.ne l2), Ne.symm (n3.ne l2)⟩, by rw [drop_zero]; rfl, rfl⟩ (fun i σ' H' ⟨_, _, _, _, _, _, _, _, h, _⟩ => SqL.of h) ?_ ?_
  . rintro i σ' H4 H5 hi ⟨s, O, acc, x3, x4, dk, o1, o2, LK, N0, hal, hp, zM, rfl⟩ k5
    simp only [Vg] at hi
    have QL : ac.length = ts.length := Paired.length hp
    obtain ⟨a, ea⟩ : ∃ a, ac[i]? = some a := ⟨_, Vl hi⟩
    obtain ⟨t, et, an, ar, ⟨h1, h2, h3, n1, n2, n3⟩, n4, n5⟩ := cb hp ea
    have Rj := VG et
    rw [Vt, ea]
    kd_p
    refine ⟨d, a, s, O, t, rfl, dk.frame (S := fun _ => False) (KpX.ks k5) (fun _ _ z => z), ⟨an, ar, k5.recAt h1, k5.get h2, k5.get h3, n1, n2, n3⟩, hok t Rj, Dx t Rj, LZ t Rj, fun H6 l hlen U3 k6 nl SG => ?_⟩
    have O6 := k6.get (k5.get N0) o1
    have U4 := k6.get (k5.get LK) o2
    have U5 : l ≠ lt := fun z => by
      rw [z] at nl
      rcases nl with z | z
      . exact o1 z
      . have := z _ (k5.get N0); cases this
    have oN : ∀ {b : Addr} {o : HO}, ¬ O b -> H5 b = some o -> jT o = false -> ¬ (O b \/ Nw H5 b) := fun {b o} h1 h2 h3 z => by
      rcases z with z | z
      . exact h1 z
      . have := z o h2; rw [h3] at this; cases this
    kd_p
    refine ⟨.inl ⟨rfl, _, SqL.of O6⟩, ?_⟩
    kd_p
    refine df (SqL.of SG) ?_
    kd_p
    refine oS O6 (by rw [Vg, Vr]; omega) ?_
    have k7 := KpX.write (o := .lst (acc.map V.int ++ [V.int (((stepNumbers s (cM t)).2.map V.int).length : Nat)])) O6 rfl
    have O7 : upd H6 lt (.lst (acc.map V.int ++ [V.int (((stepNumbers s (cM t)).2.map V.int).length : Nat)])) lt = _ := aA
    have SH := k7.get SG rfl (by simpa using U5)
    generalize upd H6 lt (.lst (acc.map V.int ++ [V.int (((stepNumbers s (cM t)).2.map V.int).length : Nat)])) = H7 at k7 O7 SH ⊢
    kd_p
    refine ⟨.inl ⟨rfl, _, SqL.of O7⟩, ?_⟩
    kd_p
    refine CW O7 SH (by rw [VB, Vg, Vg, Vr, List.length_singleton]; omega) ?_
    have k8 := KpX.write (o := .lst (acc.map V.int ++ [V.int (((stepNumbers s (cM t)).2.map V.int).length : Nat)] ++ (stepNumbers s (cM t)).2.map V.int)) O7 rfl
    have Mw : KpX [lt] H6 (upd H7 lt (.lst (acc.map V.int ++ [V.int (((stepNumbers s (cM t)).2.map V.int).length : Nat)] ++ (stepNumbers s (cM t)).2.map V.int))) := k7.trans k8
    have SI : upd H7 lt (.lst (acc.map V.int ++ [V.int (((stepNumbers s (cM t)).2.map V.int).length : Nat)] ++ (stepNumbers s (cM t)).2.map V.int)) lt = _ := aA
    generalize upd H7 lt (.lst (acc.map V.int ++ [V.int (((stepNumbers s (cM t)).2.map V.int).length : Nat)] ++ (stepNumbers s (cM t)).2.map V.int)) = H8 at Mw SI ⊢
    have N1 := oN o1 (k5.get N0) rfl
    refine ⟨(stepNumbers s (cM t)).1, fun b => O b \/ Nw H5 b, acc ++ (((stepNumbers s (cM t)).2.length : Int) :: (stepNumbers s (cM t)).2), _, _, U3.frame (S := fun b => b = lt) (Mw.s (by intro b hb; exact mem_singleton.mp hb)) (fun b hb z => N1 (by rw [<- z]; exact hb)), N1, oN o2 (k5.get LK) rfl, Mw.get U4 rfl (by simpa using Ri), ?_, ?_, ?_, ?_, rfl⟩
    . rw [SI, Vg]
      simp
    . rw [VB, VC]
      omega
    . refine Paired.uL hp fun a' t' ⟨U6, U7, ⟨g1, g2, g3, m1, m2, m3⟩, m4, m5⟩ => ⟨U6, U7, ⟨?_, ?_, ?_, ?_, ?_, ?_⟩, m4, m5⟩
      . exact Mw.recAt (k6.recAt (k5.recAt g1) m1) (by simpa using aT (k6.recAt (k5.recAt g1) m1) O6)
      . exact Mw.get (k6.get (k5.get g2) m2) rfl (by simpa using m4)
      . exact Mw.get (k6.get (k5.get g3) m3) rfl (by simpa using m5)
      . obtain ⟨Kw, U8⟩ := k5.recAt g1
        exact oN m1 U8 rfl
      . exact oN m2 (k5.get g2) rfl
      . exact oN m3 (k5.get g3) rfl
    . rw [<- zM]
      have ed : ts.drop i = t :: ts.drop (i + 1) := by
        have FD := (List.getElem?_eq_some_iff.mp et).1
        rw [V8 FD, (List.getElem?_eq_some_iff.mp et).2]
      rw [ed, Vy]
      show _ = acc ++ PyFlat.told ((stepNumbers s (cM t)).2 :: PyFlat.played stepNumbers (stepNumbers s (cM t)).1 ((ts.drop (i + 1)).map cM))
      unfold PyFlat.told
      rw [flatMap_cons, append_assoc]
  . rintro σ' H4 ⟨s, O, acc, x3, x4, dk, o1, o2, LK, N0, hal, hp, zM, rfl⟩
    have QL : ac.length = ts.length := Paired.length hp
    kd_p
    refine k H4 lt ?_
    rw [N0, <- zM, Vg, QL, drop_length]
    simp [PyFlat.played, PyFlat.told]
end
section
variable {C : Cs} {CL vB vA : Addr}
def Ju (k : Int) : Bool := inV (.int k) (([1, 2, 3, 4] : List Int).map V.int)
def Jv (k : Int) : Bool := inV (.int k) (([5, 6, 7, 9, 10, 11, 12, 13, 14, 15, 16, 17, 18] : List Int).map V.int)
def eX (C : Cs) : Sp := fun vs H Q _ => ∃ (d : Addr) (n : Int) (b : Bool) (A : DA) (last : Int) (hb : Bool), vs = [.ref d, .int n] /\ RecAt C.CD H d (qO b A last hb) /\ Q (.bl (if hb = true then Ju n else Jv n)) H
theorem wt (R : Rec C.K C.CD bT) (tB : ∀ H, SqT C.K H vB (([1, 2, 3, 4] : List Int).map V.int)) (tA : ∀ H, SqT C.K H vA (([5, 6, 7, 9, 10, 11, 12, 13, 14, 15, 16, 17, 18] : List Int).map V.int)) {vs : List V} {H : Hp} {Q : VK} {E : XK} (h : eX C vs H Q E) : ik C.K vB vA (ends Q) (start jt vs) H := by
  obtain ⟨d, n, b, A, last, hb, rfl, hd, k⟩ := h
  unfold ik
  kd_p
  refine bX (fun c => ?_) fun c => ?_
  . rw [Vj c] at k
    kd_p
    exact ⟨vB, _, rfl, .inr (tB H), rfl, rfl, k⟩
  . rw [Vh c] at k
    kd_p
    exact ⟨vA, _, rfl, .inr (tA H), rfl, rfl, k⟩
def PK (n : Nat) (t : T3) (s : State) : Prop := match n with
  | 0 => ∃ u d, t = (0, [u, d], [])
  | 1 => (∃ d q p e r w, t = (1, [d, q, p, e, r, w], []) /\ (d = 0 \/ d = 1) /\ (w = 0 \/ w = 1) /\ (1 <= q /\ q <= 1000000000) /\ (0 <= p /\ p <= 1000000) /\ (-1000000 <= e /\ e <= 1000000) /\ (1 <= r /\ r <= 1000000000)) /\ s.buys = false
  | 2 => (∃ n, t = (2, [n], [])) /\ s.buys = false
  | 3 => ∃ d q, t = (3, [d, q], []) /\ (d = 0 \/ d = 1)
  | 4 => t = (4, [], []) /\ s.buys = false
  | 5 => t = (5, [], [])
  | 6 => ∃ n, t = (6, [n], [])
  | 7 => ∃ d, t = (7, [d], []) /\ (d = 0 \/ d = 1)
  | 8 => ∃ d xs, t = (8, [d], xs) /\ (d = 0 \/ d = 1) /\ xs.length <= 1000
  | 9 => (∃ x, t = (9, [x], [])) /\ s.buys = true
  | 10 => (∃ ts, t = (10, [], ts) /\ ts.length <= 96) /\ s.buys = true
  | 11 => ∃ n, t = (11, [n], [])
  | 12 => ∃ n q, t = (12, [n, q], []) /\ 0 <= q
  | 13 => ∃ n, t = (13, [n], []) /\ 1 <= n /\ n <= 1000
  | 14 => t = (14, [], [])
  | 15 => t = (15, [], [])
  | 16 => ∃ ys, t = (16, [], ys) /\ ∀ y ∈ ys, -1000000000 <= y /\ y <= 1000000000
  | 17 => ∃ n, t = (17, [n], []) /\ 1 <= n
  | 18 => t = (18, [], []) /\ s.buys = true
  | 19 => t = (19, [], [])
  | _ => False
theorem di {x lo hi : Int} (h : Vbemah.within x lo hi = true) : lo <= x /\ x <= hi := by
  unfold Vbemah.within at h
  simpa using h
theorem qS {x : Int} (h : Vbemah.bitOk x = true) : x = 0 \/ x = 1 := by
  unfold Vbemah.bitOk at h
  simpa using h
theorem N2 {s : State} (ok : okT t) (hr : Vbemah.inRange (bp t) = true) (h1 : before (bp t) = true -> s.buys = false) (h2 : Vbemah.after (bp t) = true -> s.buys = true) : ∃ n : Nat, n < 20 /\ t.1 = (n : Int) /\ PK n t s := by
  revert hr h1 h2
  refine tV (motive := fun t => Vbemah.inRange (bp t) = true -> (before (bp t) = true -> s.buys = false) -> (Vbemah.after (bp t) = true -> s.buys = true) -> ∃ n : Nat, n < 20 /\ t.1 = (n : Int) /\ PK n t s) ok ?_ ?_ ?_ ?_ ?_ ?_ ?_ ?_ ?_ ?_ ?_ ?_ ?_ ?_ ?_ ?_ ?_ ?_ ?_ ?_
  . intro u d _ _ _; exact ⟨0, by decide, rfl, u, d, rfl⟩
  . intro d q p e r w hr hb _
    have hr : (Vbemah.bitOk d && Vbemah.within q 1 1000000000 && Vbemah.within p 0 1000000 && Vbemah.within e (-1000000) 1000000 && Vbemah.within r 1 1000000000 && Vbemah.bitOk w) = true := hr
    simp only [VV] at hr
    obtain ⟨⟨⟨⟨⟨a, b⟩, c⟩, e'⟩, f⟩, g⟩ := hr
    exact ⟨1, by decide, rfl, ⟨d, q, p, e, r, w, rfl, qS a, qS g, di b, di c, di e', di f⟩, hb rfl⟩
  . intro n _ hb _; exact ⟨2, by decide, rfl, ⟨n, rfl⟩, hb rfl⟩
  . intro d q hr _ _
    have hr : (Vbemah.bitOk d && Vbemah.within q 0 100000000000) = true := hr
    simp only [VV] at hr
    exact ⟨3, by decide, rfl, d, q, rfl, qS hr.1⟩
  . intro _ hb _; exact ⟨4, by decide, rfl, rfl, hb rfl⟩
  . intro _ _ _; exact ⟨5, by decide, rfl, rfl⟩
  . intro n _ _ _; exact ⟨6, by decide, rfl, n, rfl⟩
  . intro d hr _ _
    have hr : Vbemah.bitOk d = true := hr
    exact ⟨7, by decide, rfl, d, rfl, qS hr⟩
  . intro d xs hr _ _
    have hr : (Vbemah.bitOk d && decide (xs.length <= 24) && xs.all fun x => Vbemah.within x 0 1000000000) = true := hr
    simp only [VV, decide_eq_true_eq] at hr
    exact ⟨8, by decide, rfl, d, xs, rfl, qS hr.1.1, by have := hr.1.2; omega⟩
  . intro x _ _ ha; exact ⟨9, by decide, rfl, ⟨x, rfl⟩, ha rfl⟩
  . intro xs hr _ ha
    have hr : (decide (xs.length <= 96) && xs.all fun x => Vbemah.within x (-100000000000) 100000000000) = true := hr
    simp only [VV, decide_eq_true_eq] at hr
    exact ⟨10, by decide, rfl, ⟨xs, rfl, hr.1⟩, ha rfl⟩
  . intro n _ _ _; exact ⟨11, by decide, rfl, n, rfl⟩
  . intro n q hr _ _
    have hr : Vbemah.within q 0 1000000000 = true := hr
    exact ⟨12, by decide, rfl, n, q, rfl, (di hr).1⟩
  . intro n hr _ _
    have hr : Vbemah.within n 1 1000 = true := hr
    exact ⟨13, by decide, rfl, n, rfl, di hr⟩
  . intro _ _ _; exact ⟨14, by decide, rfl, rfl⟩
  . intro _ _ _; exact ⟨15, by decide, rfl, rfl⟩
  . intro xs hr _ _
    have hr : (decide (xs.length <= 24) && xs.all fun x => Vbemah.within x (-1000000000) 1000000000) = true := hr
    simp only [VV, all_eq_true] at hr
    exact ⟨16, by decide, rfl, xs, rfl, fun y hy => di (hr.2 y hy)⟩
  . intro n hr _ _
    have hr : Vbemah.within n 1 96 = true := hr
    exact ⟨17, by decide, rfl, n, rfl, (di hr).1⟩
  . intro _ _ ha; exact ⟨18, by decide, rfl, rfl, ha rfl⟩
  . intro _ _ _; exact ⟨19, by decide, rfl, rfl⟩
theorem kinds (ok : okT t) : before (bp t) = Ju t.1 /\ Vbemah.after (bp t) = Jv t.1 /\ opens (bp t) = decide (t.1 = 0) := by
  refine tV (motive := fun t => before (bp t) = Ju t.1 /\ Vbemah.after (bp t) = Jv t.1 /\ opens (bp t) = decide (t.1 = 0)) ok ?_ ?_ ?_ ?_ ?_ ?_ ?_ ?_ ?_ ?_ ?_ ?_ ?_ ?_ ?_ ?_ ?_ ?_ ?_ ?_ <;> intros <;> exact ⟨rfl, rfl, rfl⟩
theorem zP (R : Rec C.K C.CD bT) (RL : Rec C.K CL sk) {aQ : List (Int × V)} {fa : Nat -> Addr} (kd : KD XC vH aQ) (hl : ∀ n, n < 20 -> de aQ (n : Nat) = some (.ref (fa n)))
    (hh : ∀ n, n < 20 -> ∃ fd, cA P w C.K mg base CX0 6 (fa n) fd hPs (spH C (PK n)) /\ keepIn C.K (.ref (fa n)) = true /\ Binds C.K fd hPs []) {vs : List V} {H : Hp} {Q : VK} {E : XK} (h : lE C CL vs H Q E) :
    kU XC P w C.K mg base (iD CL) (eX C) vH (ends Q) (start iZ vs) H := by
  obtain ⟨d, a, s, O, t, rfl, dk, ⟨an, ar, hc, hn, SJ, na, nn, nr⟩, ok, Dx, LZ, k⟩ := h
  obtain ⟨e1, e2⟩ := Kc ok Dx
  obtain ⟨b1, b2, b3⟩ := kinds ok
  have U9 : stepNumbers s (cM t) = Vbemah.step s (bp t) := by
    unfold stepNumbers
    rw [e1]
  rw [U9] at k
  unfold Vbemah.step at k
  rw [e2] at k
  unfold kU
  kd_p
  refine ⟨a, t, rfl, ⟨an, ar, hc, hn, SJ⟩, LZ, fun H1 k1 => ?_⟩
  have TZ := k1.recAt hc
  obtain ⟨inv, A, hd, hi⟩ := id dk
  have bZ := (hd.kp k1).dr
  have keep := DK.keep dk k1
  kd_p
  refine bX (fun c => ?_) fun c => ?_
  . have c : dc t = false := by simpa using c
    rw [Vj c] at k
    kd_p
    exact cB.lst k (KpX.ks k1) keep rfl (Vn rfl)
  have c : dc t = true := by simpa using c
  rw [Vh (by rw [c]; simp)] at k
  have rest : ¬ (opens (bp t) = false /\ s.opened = false) -> (aH (cT (tB (a0 (eX C) [] E0 (aj (ai 0) (aj (aI C.K (ai 1) "kind") aE)))) (aX (bH (aj (tUn (rU fun i => .int (-i)) (tC (.int 3))) aE))) bN) (aX (CM P w C.K mg base 6 (vo XC (tC (.ref vH)) (aI C.K (ai 1) "kind")) (aj (ai 0) (aj (aI C.K (ai 1) "numbers") (aj (aI C.K (ai 1) "row") aE)))))) (ends Q) [some (.ref d), some (.ref a)] H1 := by
    intro ho
    rw [Vh ho] at k
    kd_p
    refine ⟨d, t.1, s.opened, A, s.last, s.buys, rfl, bZ, ?_⟩
    kd_p
    rw [b1, b2] at k
    refine bX (fun c2 => ?_) fun c2 => ?_
    . rw [Vj (by
        cases hb : s.buys with
        | true => rw [hb] at c2; exact .inl ⟨c2, rfl⟩
        | false => rw [hb] at c2; exact .inr ⟨c2, rfl⟩)] at k
      kd_p
      exact cB.lst k (KpX.ks k1) keep rfl (Vn rfl)
    . have SK : Ju t.1 = true -> s.buys = false := fun z => by
        cases hb : s.buys with
        | false => rfl
        | true => rw [hb] at c2; exact absurd z c2
      have Mv : Jv t.1 = true -> s.buys = true := fun z => by
        cases hb : s.buys with
        | true => rfl
        | false => rw [hb] at c2; exact absurd z c2
      rw [Vh (by
        rintro (⟨z1, z2⟩ | ⟨z1, z2⟩)
        . rw [SK z1] at z2; cases z2
        . rw [Mv z1] at z2; cases z2)] at k
      obtain ⟨n, N3, en, pk⟩ := N2 (s := s) ok (e2.trans c) (fun z => SK (b1 ▸ z)) (fun z => Mv (b2 ▸ z))
      obtain ⟨fd, F, kp, bd⟩ := hh n N3
      refine eG ?_
      dsimp only
      refine oR ?_
      show vo XC (tC (.ref vH)) (aI C.K (ai 1) "kind") [some (.ref d), some (.ref a)] H1 _
      kd_p
      refine zj kd (by rw [en]; exact hl n N3) ?_
      refine ⟨fa n, fd, hPs, spH C (PK n), rfl, F, kp, bd, ?_⟩
      kd_p
      refine ⟨d, an, ar, s, O, t, rfl, dk.frame (S := fun _ => False) (KpX.ks k1) (fun _ _ z => z), nn, nr, ⟨k1.get hn, k1.get SJ⟩, pk, fun H2 l h1 h2 h3 h4 h5 => ?_⟩
      have SM : ∀ {b}, O b \/ Nw H1 b -> O b \/ Nw H b := fun {b} z => z.elim .inl fun w => .inr (KpX.nw k1 w)
      exact k H2 l h1 (h2.mono fun b => SM) ((KpX.ks k1).trans h3) (SM h4) h5
  kd_p
  refine bX (fun c1 => ?_) fun c1 => ?_
  . kd_p
    have c1 : t.1 ≠ 0 := fun z => by
      rw [z] at c1
      simp at c1
    refine bX (fun c2 => ?_) fun c2 => ?_
    . have c2 : s.opened = false := by simpa using c2
      rw [Vj ⟨by rw [b3]; simpa using c1, c2⟩] at k
      kd_p
      exact cB.lst k (KpX.ks k1) keep rfl (Vn rfl)
    . have c2 : s.opened = true := by simpa using c2
      exact eG (rest fun z => by rw [c2] at z; cases z.2)
  . refine oO (eG (rest fun z => ?_))
    have c1 : t.1 = 0 := Classical.byContradiction fun y => c1 (by
      rw [not_eq_true', Wn]
      intro w
      injection w with w
      exact y w)
    rw [b3, c1] at z
    cases z.1
end
structure BK (K : FG) (x qual : Str) (st : Stmt) (f : Addr) (fd : FuncData) (c : Addr) : Prop where
  ex : ∃ (oc : Value) (od : Option Addr) (kV doc pm : Value) (an : Option Addr) (ct : Value) (AK : Array (Option Value)),
    fd = fnOf x qual (iN st) (dJ st) (aB st) .none kV doc pm an (.ref c) ct /\ K.lookup f = some ⟨oc, od, .func fd, AK⟩ /\ codeIn K (.ref c) qual = true
  kp : keepIn K (.ref f) = true
theorem BK.fn {K : FG} {st : Stmt} (F : BK K x qual st f fd c) : Fun K x qual st f fd :=
  let ⟨oc, od, kV, doc, pm, an, ct, AK, h1, h2, h3⟩ := F.ex
  ⟨⟨oc, od, kV, doc, pm, an, .ref c, ct, AK, h1, h2, h3⟩, F.kp⟩
theorem BK.ok {K : FG} {st : Stmt} {k : Nat} {sp : Sp} (F : BK K x qual st f fd c) (S : aG N ps (aB st)) (len : ∀ vs H Q E, sp vs H Q E -> vs.length = ps.length)
    (jP : ∀ (bJ : Value) (A : Around) (outer : List Env) (s : Shared) (H : Hp) (vs : List V) (Q : VK) (E : XK), bJ = .ref c -> c7 k (A.deeper (envOfC qual (aB st) s.heap.objs.size f bJ)) -> sp vs H Q E ->
      ∃ t, PSs (AI CX0 P w K mg base N qual (aB st) f bJ A outer s H E).nox (dJ st) t /\ t { nx := fun _ H' => Q .non H', rt := Q } (start N vs) H) : cA P w K mg base CX0 (k + 1) f fd ps sp := by
  obtain ⟨oc, od, kV, doc, pm, an, ct, AK, rfl, lk, Fv⟩ := F.ex
  refine JG lk Fv S len fun A outer s H vs Q E hr HF => ?_
  obtain ⟨t, h, q⟩ := jP (.ref c) A outer s H vs Q E rfl hr HF
  exact ⟨t, h.nox, q⟩
def FnM (K : FG) (mg : SV) (x : Str) (st : Stmt) : Prop := ∃ f fd, mg x = some (.ref f) /\ Fun K x x st f fd
def FnH (K : FG) (x : Str) (st : Stmt) (f : Addr) : Prop := ∃ fd, Fun K x x st f fd
def ClM (K : FG) (C : Addr) (q : Str) (st : Stmt) : Prop := ∃ f fd, Mk K C f /\ Fun K "__init__" q st f fd
section
variable {P : Program} {w : World} {K : FG} {mg : SV} {base : Heap} {x : Str} {st : Stmt} {N ps : List Str} {k : Nat} {sp : Sp}
abbrev Bdy (P : Program) (w : World) (K : FG) (mg : SV) (base : Heap) (k : Nat) (N : List Str) (q : Str) (st : Stmt) (sp : Sp) : Prop := ∀ f (bJ : Value) (A : Around) (outer : List Env) (s : Shared) (H : Hp) (vs : List V) (Q : VK) (E : XK), RmE k q st A s f bJ -> sp vs H Q E -> ∃ t, PSs (cxE P w K mg base N q st f bJ A outer s H E) (dJ st) t /\ t (ends Q) (start N vs) H
abbrev Bnd (x q : Str) (st : Stmt) (ps : List Str) : Prop := ∀ (kV doc pm : Value) (an : Option Addr) (bJ ct : Value) (us : List Value), us.length = ps.length -> bindArgs (fnOf x q (iN st) (dJ st) (aB st) .none kV doc pm an bJ ct) ⟨us, []⟩ = pure (ps.zip us)
theorem FnM.fn (h : FnM K mg x st) (S : aG N ps (aB st)) (b : Bdy P w K mg base k N x st sp) (len : ∀ vs H Q E, sp vs H Q E -> vs.length = ps.length := by walk_at "n") (bd : Bnd x x st ps := by walk_at "b") : Fn P w K mg base x ps (k + 1) sp :=
  let ⟨f, fd, hm, F⟩ := h
  ⟨f, fd, hm, F.ok S len (b f), F.kp, F.binds bd⟩
theorem FnH.hd (h : FnH K x st f) (S : aG N hPs (aB st)) (b : Bdy P w K mg base k N x st sp) (hk : k + 1 <= 6 := by decide) (len : ∀ vs H Q E, sp vs H Q E -> vs.length = hPs.length := by walk_at "n") (bd : Bnd x x st hPs := by walk_at "b") : ∃ fd, cA P w K mg base CX0 6 f fd hPs sp /\ keepIn K (.ref f) = true /\ Binds K fd hPs [] :=
  let ⟨fd, F⟩ := h
  ⟨fd, (F.ok S len (b f)).mono hk, F.kp, F.binds bd⟩
theorem ClM.mk_ (hm : mg c = some (.ref C)) (h : ClM K C q st) (S : aG N ps (aB st)) (b : Bdy P w K mg base k N q st sp) (len : ∀ vs H Q E, sp vs H Q E -> vs.length = ps.length := by walk_at "m") (bd : Bnd "__init__" q st ps := by walk_at "b") : Mkr P w K mg base c C ps (k + 1) sp :=
  let ⟨f, fd, M, F⟩ := h
  ⟨hm, f, fd, M, F.ok S len (b f), F.binds bd⟩
end
structure Txt (P : Program) (w : World) (mg : SV) (base : Heap) (C : Cs) (CC CL aN aR vH vB vA : Addr) (aQ : List (Int × V)) (fa : Nat -> Addr) : Prop where
  T : Bn mg
  B : Bm mg base
  RO : Rec C.K C.CO cf
  RU : Rec C.K C.CU iB
  RQ : Rec C.K C.CQ Dl
  RD : Rec C.K C.CD bT
  RC : Rec C.K CC v5
  RL : Rec C.K CL sk
  cS : ∃ t, mg "MOST_OFFERS" = some (.int 24 t)
  dA : ∃ t, mg "MOST_WHOLE" = some (.int 8 t)
  bE : ∃ t, mg "MOST_QUARTERS" = some (.int 96 t)
  j8 : mg "NUMBERS" = some (.ref aN)
  wu : mg "ROWS" = some (.ref aR)
  lG : mg "HANDLERS" = some (.ref vH)
  qT : mg "BEFORE" = some (.ref vB)
  uc : mg "AFTER" = some (.ref vA)
  num : ∀ XC : Cx, XC.K = C.K -> Jk XC C.K aN aR
  bef : ∀ H, SqT C.K H vB (([1, 2, 3, 4] : List Int).map V.int)
  aft : ∀ H, SqT C.K H vA (([5, 6, 7, 9, 10, 11, 12, 13, 14, 15, 16, 17, 18] : List Int).map V.int)
  kd : ∀ XC : Cx, XC.K = C.K -> KD XC vH aQ
  look : ∀ n, n < 20 -> de aQ (n : Nat) = some (.ref (fa n))
  nT : FnM C.K mg "cost_of" nE
  qU : FnM C.K mg "is_buy" qx
  qV : FnM C.K mg "covers" qy
  lH : FnM C.K mg "best_buy" kI
  cD : ∃ f fd c, mg "partible_by_price" = some (.ref f) /\ BK C.K "partible_by_price" "partible_by_price" cC f fd c /\ bM.q C.T1 = "partible_by_price" ++ ".<locals>." ++ "<lambda>" /\ ∀ h, C.K.In h -> CodeHd h c C.T1
  dQ : FnM C.K mg "whole_choices" dM
  gR : FnM C.K mg "with_whole" gG
  nU : FnM C.K mg "rank_of" nF
  gS : FnM C.K mg "amounts_of" gH
  nV : FnM C.K mg "copy_of" nG
  nW : FnM C.K mg "nearest" nH
  lI : FnM C.K mg "farthest" kM
  eY : FnM C.K mg "lowest_place" eJ
  dR : FnM C.K mg "highest_place" dN
  eZ : FnM C.K mg "can_stand_at" eK
  dS : FnM C.K mg "nearest_after" dO
  dB : FnM C.K mg "farthest_after" du
  e9 : FnM C.K mg "lowest_after" eM
  dU : FnM C.K mg "highest_after" dP
  fQ : FnM C.K mg "quarter_for" fG
  cZ : FnM C.K mg "price_at_lowest" cW
  i7 : ∃ f fd c, mg "by_energy" = some (.ref f) /\ BK C.K "by_energy" "by_energy" iV f fd c /\ bM.q C.T2 = "by_energy" ++ ".<locals>." ++ "<lambda>" /\ ∀ h, C.K.In h -> CodeHd h c C.T2
  nX : FnM C.K mg "payment" nI
  ud : FnM C.K mg "stand" t7
  lJ : FnM C.K mg "foreseen" kO
  i8 : FnM C.K mg "offers_of" iW
  gT : FnM C.K mg "read_calls" eP
  fR : FnM C.K mg "is_in_range" dG
  c6 : FnM C.K mg "is_row_in_range" cX
  i9 : FnM C.K mg "answer_of" gc
  fS : FnM C.K mg "is_untimely" fJ
  fU : FnM C.K mg "count_whole" fL
  ja : FnM C.K mg "find_unit" i3
  nY : FnM C.K mg "outcome" nM
  qW : mg "Choice" = some (.ref CC)
  qX : ClM C.K CC "Choice.__init__" fF
  zQ : mg "Unit" = some (.ref C.CU)
  zR : ClM C.K C.CU "Unit.__init__" iT
  nZ : mg "Quarter" = some (.ref C.CQ)
  n0 : ClM C.K C.CQ "Quarter.__init__" eN
  ue : mg "Offer" = some (.ref C.CO)
  uf : ClM C.K C.CO "Offer.__init__" gI
  zS : mg "Call" = some (.ref CL)
  zT : ClM C.K CL "Call.__init__" iX
  zU : mg "Desk" = some (.ref C.CD)
  zV : ClM C.K C.CD "Desk.__init__" iY
  ug : ∃ f fd, Meth C.K C.CD "reset" f /\ Fun C.K "reset" "Desk.reset" eR f fd
  uh : FnH C.K "begin" t8 (fa 0)
  fV : FnH C.K "enter_offer" fK (fa 1)
  lK : FnH C.K "withdraw" kW (fa 2)
  lL : FnH C.K "set_need" kX (fa 3)
  EC : FnH C.K "buy" Ew (fa 4)
  fW : FnH C.K "undo_buying" fM (fa 5)
  gU : FnH C.K "tell_taken" gL (fa 6)
  fX : FnH C.K "tell_bought" fN (fa 7)
  gW : FnH C.K "tell_value" gM (fa 8)
  fb : FnH C.K "call_quarter" eS (fa 9)
  n6 : FnH C.K "foresee" nN (fa 10)
  jb : FnH C.K "tell_unit" i4 (fa 11)
  lM : FnH C.K "set_left" lr (fa 12)
  gX : FnH C.K "tell_reach" gN (fa 13)
  fY : FnH C.K "tell_ladder" fO (fa 14)
  fZ : FnH C.K "tell_places" fP (fa 15)
  gY : FnH C.K "try_places" gO (fa 16)
  fc : FnH C.K "tell_quarter" eT (fa 17)
  gZ : FnH C.K "tell_costs" gP (fa 18)
  jc : FnH C.K "tell_book" i5 (fa 19)
section
variable {P : Program} {w : World} {mg : SV} {base : Heap} {C : Cs} {CC CL aN aR vH vB vA : Addr} {aQ : List (Int × V)} {fa : Nat -> Addr} (X : Txt P w mg base C CC CL aN aR vH vB vA aQ fa)
include X
theorem yF : Mkr P w C.K mg base "Choice" CC ["self", "positions", "amount", "cost"] 1 (nP CC) :=
  X.qX.mk_ X.qW mD (fun _ _ _ _ _ _ _ _ _ hr h => ⟨_, vE X.T  hr, wc X.RC h⟩)
theorem wx : Fn P w C.K mg base "cost_of" ["offers", "amounts"] 1 (lB C.K C.CO) :=
  X.nT.fn vF (fun _ _ _ _ _ _ _ _ _ hr h => ⟨_, C0 X.T  hr, Df X.RO h⟩)
theorem Fl : Fn P w C.K mg base "is_buy" ["offers", "amounts"] 1 (r8 C.K C.CO) :=
  X.qU.fn yC (fun _ _ _ _ _ _ _ _ _ hr h => ⟨_, Fe X.T  hr, Fh X.RO h⟩)
theorem yG : Fn P w C.K mg base "covers" ["amounts", "need"] 1 (nO C.K) :=
  X.qV.fn yD (fun _ _ _ _ _ _ _ _ _ hr h => ⟨_, Ff X.T  hr, Fg  h⟩)
theorem ni : Fn P w C.K mg base "partible_by_price" ["offers"] 2 (dh C.K C.CO C.T1) := by
  obtain ⟨f, fd, c, hm, FL, hq, hC⟩ := X.cD
  have F := FL.fn
  exact ⟨f, fd, hm, FL.ok f9 (by walk_at "n") fun bJ A outer s H vs Q E hc hr h => ⟨_, mF X.T  hq hc hC X.B hr, m8 X.RO h⟩, F.kp, F.binds (by walk_at "b")⟩
theorem xC : Fn P w C.K mg base "with_whole" ["choice", "position", "offer"] 3 (jG C.K C.CO CC) :=
  X.gR.fn oq (fun _ _ _ _ _ _ _ _ _ hr h => ⟨_, xb X.T (yF X) hr, xn X.RO X.RC h⟩)
theorem sE : Fn P w C.K mg base "whole_choices" ["offers"] 4 (fB C.K C.CO CC) :=
  X.dQ.fn jZ (fun _ _ _ _ _ _ _ _ _ hr h => ⟨_, rP X.T (yF X) (xC X) hr, r9 X.RO h⟩)
theorem Dy : Fn P w C.K mg base "rank_of" ["offers", "ladder", "choice", "need"] 1 (pD C.K C.CO CC) :=
  X.nU.fn vJ (fun _ _ _ _ _ _ _ _ _ hr h => ⟨_, C3 X.T  hr, Dh X.RO X.RC h⟩)
theorem xD : Fn P w C.K mg base "amounts_of" ["offers", "ladder", "choice", "need"] 1 (jH C.K C.CO CC) :=
  X.gS.fn ot (fun _ _ _ _ _ _ _ _ _ hr h => ⟨_, xc X.T  hr, xp X.RO X.RC h⟩)
theorem BL : Fn P w C.K mg base "best_buy" ["offers", "need"] 5 (nc C.K C.CO C.T1) :=
  X.lH.fn sS (fun _ _ _ _ _ _ _ _ _ hr h => ⟨_, Bl X.T (yG X) (ni X) (sE X) (Dy X) (xD X) hr, Bx X.RO X.RC h⟩)
theorem ED : Mkr P w C.K mg base "Unit" C.CU ["self", "offer", "taken"] 1 (ub C.CU) :=
  X.zR.mk_ X.zQ qz (fun _ _ _ _ _ _ _ _ _ hr h => ⟨_, zm X.T  hr, zF X.RU h⟩)
theorem Dz : Fn P w C.K mg base "copy_of" ["unit"] 3 (pK C.CO C.CU) :=
  X.nV.fn vK (fun _ _ _ _ _ _ _ _ _ hr h => ⟨_, C4 X.T (ED X) hr, Ds X.RU h⟩)
theorem pL : Fn P w C.K mg base "nearest" ["unit"] 1 (iC C.CO C.CU) :=
  X.nW.fn vL (fun _ _ _ _ _ _ _ _ _ hr h => ⟨_, C5 X.T  hr, Di X.RO X.RU h⟩)
theorem nj : Fn P w C.K mg base "farthest" ["unit"] 1 (gd C.CO C.CU) :=
  X.lI.fn sT (fun _ _ _ _ _ _ _ _ _ hr h => ⟨_, Bo X.T  hr, By X.RO X.RU h⟩)
theorem gA : Fn P w C.K mg base "lowest_place" ["unit"] 2 (cR C.CO C.CU) :=
  X.eY.fn lR (fun _ _ _ _ _ _ _ _ _ hr h => ⟨_, tD X.T (pL X) (nj X) hr, tK X.RO X.RU h⟩)
theorem fD : Fn P w C.K mg base "highest_place" ["unit"] 2 (cH C.CO C.CU) :=
  X.dR.fn j0 (fun _ _ _ _ _ _ _ _ _ hr h => ⟨_, rT X.T (nj X) (pL X) hr, sj X.RO X.RU h⟩)
theorem tQ : Fn P w C.K mg base "can_stand_at" ["unit", "place"] 3 (gy C.CO C.CU) :=
  X.eZ.fn lS (fun _ _ _ _ _ _ _ _ _ hr h => ⟨_, tE X.T (gA X) (fD X) hr, tM  h⟩)
theorem j9 : Fn P w C.K mg base "nearest_after" ["unit", "quarters"] 2 (dz C.CO C.CU) :=
  X.dS.fn j1 (fun _ _ _ _ _ _ _ _ _ hr h => ⟨_, rV X.T (pL X) hr, su X.RO X.RU h⟩)
theorem jd : Fn P w C.K mg base "farthest_after" ["unit", "quarters"] 2 (cY C.CO C.CU) :=
  X.dB.fn iU (fun _ _ _ _ _ _ _ _ _ hr h => ⟨_, qA X.T (nj X) hr, qP X.RO X.RU h⟩)
theorem tR : Fn P w C.K mg base "lowest_after" ["unit", "quarters"] 3 (gz C.CO C.CU) :=
  X.e9.fn lT (fun _ _ _ _ _ _ _ _ _ hr h => ⟨_, tF X.T (j9 X) (jd X) hr, tN X.RO X.RU h⟩)
theorem sF : Fn P w C.K mg base "highest_after" ["unit", "quarters"] 3 (fC C.CO C.CU) :=
  X.dU.fn j2 (fun _ _ _ _ _ _ _ _ _ hr h => ⟨_, rW X.T (jd X) (j9 X) hr, sv X.RO X.RU h⟩)
theorem DB : Mkr P w C.K mg base "Quarter" C.CQ ["self", "target", "places", "price", "payments"] 1 (lD C.K C.CQ) :=
  X.n0.mk_ X.nZ lU (fun _ _ _ _ _ _ _ _ _ hr h => ⟨_, tG X.T  hr, tL X.RQ h⟩) (by walk_at "n")
theorem pM : Fn P w C.K mg base "price_at_lowest" ["lows", "highs", "energies"] 1 (d7 C.K) :=
  X.cZ.fn ie (fun _ _ _ _ _ _ _ _ _ hr h => ⟨_, o6 X.T  hr, pG  h⟩)
theorem qY : Fn P w C.K mg base "by_energy" ["energies"] 2 (gQ C.K C.T2) := by
  obtain ⟨f, fd, c, hm, FL, hq, hC⟩ := X.i7
  have F := FL.fn
  exact ⟨f, fd, hm, FL.ok qB (by walk_at "n") fun bJ A outer s H vs Q E hc hr h => ⟨_, zo X.T  hq hc hC X.B hr, zD  h⟩, F.kp, F.binds (by walk_at "b")⟩
theorem DC : Fn P w C.K mg base "payment" ["place", "energy", "price"] 1 (pE) :=
  X.nX.fn vN (fun _ _ _ _ _ _ _ _ _ hr h => ⟨_, C6 X.T  hr, Dj  h⟩)
theorem nk : Fn P w C.K mg base "quarter_for" ["units", "target"] 3 (eU C.K C.CO C.CU C.CQ C.T2) :=
  X.fQ.fn mI (fun _ _ _ _ _ _ _ _ _ hr h => ⟨_, vM X.T (gA X) (fD X) (pM X) (qY X) (DC X) (DB X) hr, v9 X.RO X.RU h⟩)
theorem BM : Fn P w C.K mg base "stand" ["units", "quarter"] 1 (qR C) :=
  X.ud.fn Bp (fun _ _ _ _ _ _ _ _ _ hr h => ⟨_, G9 X.T  hr, Hu X.RQ X.RU h⟩)
theorem BN : Fn P w C.K mg base "foreseen" ["units", "targets"] 4 (nh C) :=
  X.lJ.fn sU (fun _ _ _ _ _ _ _ _ _ hr h => ⟨_, Bq X.T (Dz X) (nk X) (BM X) hr, BH  h⟩)
theorem Hw : Mkr P w C.K mg base "Offer" C.CO ["self", "number", "direction", "amount", "capacity", "energy", "ramp", "whole"] 1 (qM C.CO) :=
  X.uf.mk_ X.ue ou (fun _ _ _ _ _ _ _ _ _ hr h => ⟨_, xf X.T  hr, xr X.RO h⟩)
theorem lN : Fn P w C.K mg base "offers_of" ["offers", "direction"] 1 (eV C.K C.CO) :=
  X.i8.fn qC (fun _ _ _ _ _ _ _ _ _ hr h => ⟨_, zq X.T  hr, zG X.RO h⟩)
theorem Jw : Mkr P w C.K mg base "Call" CL ["self", "kind", "numbers", "row"] 1 (t9 CL) :=
  X.zT.mk_ X.zS qD (fun _ _ _ _ _ _ _ _ _ hr h => ⟨_, zr X.T  hr, zE X.RL h⟩)
theorem xE : Fn P w C.K mg base "read_calls" ["given"] 3 (jI C.K CL) :=
  X.gT.fn ow (fun _ _ _ _ _ _ _ _ _ hr h => ⟨_, xg X.T X.j8 X.wu (Jw X) hr, xq X.RL (X.num _ rfl) h⟩)
theorem pN : Fn P w C.K mg base "is_row_in_range" ["row", "bounds"] 1 (d8 C.K) :=
  X.c6.fn ij (fun _ _ _ _ _ _ _ _ _ hr h => ⟨_, o9 X.T  hr, pH  h⟩)
theorem wy : Fn P w C.K mg base "is_in_range" ["call"] 2 (iD CL) :=
  X.fR.fn mN (fun _ _ _ _ _ _ _ _ _ hr h => ⟨_, vP X.T X.j8 X.wu (pN X) hr, wa X.RL (X.num _ rfl) h⟩)
theorem oE : Mth P w C.K mg base C.CD "reset" ["self", "need_up", "need_down"] 1 (dH C) := by
  obtain ⟨f, fd, M, F⟩ := X.ug
  exact ⟨X.RD.cl, f, fd, M, F.ok ox (by walk_at "n") ((fun _ _ _ _ _ _ _ _ _ hr h => ⟨_, xh X.T  hr, xt X.RD h⟩ : Bdy P w C.K mg base 0 gK "Desk.reset" eR (dH C)) f), F.binds (by walk_at "b")⟩
theorem Jx : Mkr P w C.K mg base "Desk" C.CD ["self"] 2 (zH C) :=
  X.zV.mk_ X.zU qE (fun _ _ _ _ _ _ _ _ _ hr h => ⟨_, zt X.T (oE X) hr, zI X.RD h⟩) (by walk_at "n")
theorem wz : Fn P w C.K mg base "is_untimely" ["desk", "kind"] 1 (eX C) :=
  X.fS.fn mP (fun _ _ _ _ _ _ _ _ _ hr h => ⟨_, vR X.T X.qT X.uc hr, wt X.RD X.bef X.aft h⟩)
theorem Hx : ∃ fd, cA P w C.K mg base CX0 6 (fa 0) fd hPs (spH C (PK 0)) /\ keepIn C.K (.ref (fa 0)) = true /\ Binds C.K fd hPs [] :=
  X.uh.hd Br (k := 1) (fun _ _ _ _ _ _ _ _ _ hr h => ⟨_, Hc X.T (oE X) hr, Hn X.RD h⟩)
theorem wA : Fn P w C.K mg base "count_whole" ["offers"] 1 (iE C.K C.CO) :=
  X.fU.fn mR (fun _ _ _ _ _ _ _ _ _ hr h => ⟨_, vU X.T  hr, wd X.RO h⟩)
theorem wB : ∃ fd, cA P w C.K mg base CX0 6 (fa 1) fd hPs (spH C (PK 1)) /\ keepIn C.K (.ref (fa 1)) = true /\ Binds C.K fd hPs [] :=
  let ⟨_, cS⟩ := X.cS
  let ⟨_, dA⟩ := X.dA
  X.fV.hd mQ (k := 2) (fun _ _ _ _ _ _ _ _ _ hr h => ⟨_, vT X.T cS (wA X) (lN X) dA (Hw X) hr, wk X.RD X.RO h⟩)
theorem BO : ∃ fd, cA P w C.K mg base CX0 6 (fa 2) fd hPs (spH C (PK 2)) /\ keepIn C.K (.ref (fa 2)) = true /\ Binds C.K fd hPs [] :=
  X.lK.hd sV (k := 0) (fun _ _ _ _ _ _ _ _ _ hr h => ⟨_, Bs X.T  hr, BF X.RD X.RO h⟩)
theorem BP : ∃ fd, cA P w C.K mg base CX0 6 (fa 3) fd hPs (spH C (PK 3)) /\ keepIn C.K (.ref (fa 3)) = true /\ Binds C.K fd hPs [] :=
  X.lL.hd sW (k := 0) (fun _ _ _ _ _ _ _ _ _ hr h => ⟨_, Bt X.T  hr, BC X.RD h⟩)
theorem L0 : ∃ fd, cA P w C.K mg base CX0 6 (fa 4) fd hPs (spH C (PK 4)) /\ keepIn C.K (.ref (fa 4)) = true /\ Binds C.K fd hPs [] :=
  X.EC.hd He (k := 5) (fun _ _ _ _ _ _ _ _ _ hr h => ⟨_, LA X.T (lN X) (BL X) (wx X) (ED X) hr, LR X.RD X.RO h⟩)
theorem wC : ∃ fd, cA P w C.K mg base CX0 6 (fa 5) fd hPs (spH C (PK 5)) /\ keepIn C.K (.ref (fa 5)) = true /\ Binds C.K fd hPs [] :=
  X.fW.hd mU (k := 0) (fun _ _ _ _ _ _ _ _ _ hr h => ⟨_, vV X.T  hr, wg X.RD h⟩)
theorem lO : Fn P w C.K mg base "find_unit" ["units", "number"] 1 (eW C) :=
  X.ja.fn qG (fun _ _ _ _ _ _ _ _ _ hr h => ⟨_, zx X.T  hr, zJ X.RO X.RU h⟩)
theorem xF : ∃ fd, cA P w C.K mg base CX0 6 (fa 6) fd hPs (spH C (PK 6)) /\ keepIn C.K (.ref (fa 6)) = true /\ Binds C.K fd hPs [] :=
  X.gU.hd oy (k := 1) (fun _ _ _ _ _ _ _ _ _ hr h => ⟨_, xi X.T (lO X) hr, xu X.RD X.RU h⟩)
theorem wF : ∃ fd, cA P w C.K mg base CX0 6 (fa 7) fd hPs (spH C (PK 7)) /\ keepIn C.K (.ref (fa 7)) = true /\ Binds C.K fd hPs [] :=
  X.fX.hd mW (k := 0) (fun _ _ _ _ _ _ _ _ _ hr h => ⟨_, vW X.T  hr, wj X.RD X.RU X.RO h⟩)
theorem xG : ∃ fd, cA P w C.K mg base CX0 6 (fa 8) fd hPs (spH C (PK 8)) /\ keepIn C.K (.ref (fa 8)) = true /\ Binds C.K fd hPs [] :=
  X.gW.hd oz (k := 1) (fun _ _ _ _ _ _ _ _ _ hr h => ⟨_, xj X.T (lN X) (Fl X) (yG X) (wx X) hr, xw X.RD h⟩)
theorem pO : Fn P w C.K mg base "outcome" ["quarter"] 1 (iF C.CQ) :=
  X.nY.fn vX (fun _ _ _ _ _ _ _ _ _ hr h => ⟨_, C9 X.T  hr, Dt X.RQ h⟩)
theorem tS : ∃ fd, cA P w C.K mg base CX0 6 (fa 9) fd hPs (spH C (PK 9)) /\ keepIn C.K (.ref (fa 9)) = true /\ Binds C.K fd hPs [] :=
  let ⟨_, bE⟩ := X.bE
  X.fb.hd lV (k := 3) (fun _ _ _ _ _ _ _ _ _ hr h => ⟨_, tH X.T bE (nk X) (BM X) (pO X) hr, tO X.RD X.RQ h⟩)
theorem DD : ∃ fd, cA P w C.K mg base CX0 6 (fa 10) fd hPs (spH C (PK 10)) /\ keepIn C.K (.ref (fa 10)) = true /\ Binds C.K fd hPs [] :=
  let ⟨_, bE⟩ := X.bE
  X.n6.hd vY (k := 4) (fun _ _ _ _ _ _ _ _ _ hr h => ⟨_, Dc X.T bE (BN X) (pO X) hr, Du X.RD h⟩)
theorem zW : ∃ fd, cA P w C.K mg base CX0 6 (fa 11) fd hPs (spH C (PK 11)) /\ keepIn C.K (.ref (fa 11)) = true /\ Binds C.K fd hPs [] :=
  X.jb.hd qH (k := 2) (fun _ _ _ _ _ _ _ _ _ hr h => ⟨_, zy X.T (lO X) (gA X) (fD X) hr, zN X.RD X.RU h⟩)
theorem BQ : ∃ fd, cA P w C.K mg base CX0 6 (fa 12) fd hPs (spH C (PK 12)) /\ keepIn C.K (.ref (fa 12)) = true /\ Binds C.K fd hPs [] :=
  X.lM.hd sX (k := 1) (fun _ _ _ _ _ _ _ _ _ hr h => ⟨_, Bu X.T (lO X) hr, BJ X.RD X.RU h⟩)
theorem xH : ∃ fd, cA P w C.K mg base CX0 6 (fa 13) fd hPs (spH C (PK 13)) /\ keepIn C.K (.ref (fa 13)) = true /\ Binds C.K fd hPs [] :=
  X.gX.hd oA (k := 3) (fun _ _ _ _ _ _ _ _ _ hr h => ⟨_, xk X.T (tR X) (sF X) hr, xy X.RD h⟩)
theorem wG : ∃ fd, cA P w C.K mg base CX0 6 (fa 14) fd hPs (spH C (PK 14)) /\ keepIn C.K (.ref (fa 14)) = true /\ Binds C.K fd hPs [] :=
  X.fY.hd mZ (k := 2) (fun _ _ _ _ _ _ _ _ _ hr h => ⟨_, vZ X.T (qY X) hr, wq X.RD X.RU X.RO h⟩)
theorem wH : ∃ fd, cA P w C.K mg base CX0 6 (fa 15) fd hPs (spH C (PK 15)) /\ keepIn C.K (.ref (fa 15)) = true /\ Binds C.K fd hPs [] :=
  X.fZ.hd m6 (k := 0) (fun _ _ _ _ _ _ _ _ _ hr h => ⟨_, v3 X.T  hr, wo X.RD X.RU h⟩)
theorem xI : ∃ fd, cA P w C.K mg base CX0 6 (fa 16) fd hPs (spH C (PK 16)) /\ keepIn C.K (.ref (fa 16)) = true /\ Binds C.K fd hPs [] :=
  X.gY.hd oB (k := 3) (fun _ _ _ _ _ _ _ _ _ hr h => ⟨_, xl X.T (tQ X) hr, xB X.RD X.RU X.RO h⟩)
theorem tT : ∃ fd, cA P w C.K mg base CX0 6 (fa 17) fd hPs (spH C (PK 17)) /\ keepIn C.K (.ref (fa 17)) = true /\ Binds C.K fd hPs [] :=
  X.fc.hd lW (k := 1) (fun _ _ _ _ _ _ _ _ _ hr h => ⟨_, tI X.T (pO X) hr, tP X.RD X.RQ h⟩)
theorem xJ : ∃ fd, cA P w C.K mg base CX0 6 (fa 18) fd hPs (spH C (PK 18)) /\ keepIn C.K (.ref (fa 18)) = true /\ Binds C.K fd hPs [] :=
  X.gZ.hd oC (k := 0) (fun _ _ _ _ _ _ _ _ _ hr h => ⟨_, xm X.T  hr, xA X.RD X.RU X.RO h⟩)
theorem zX : ∃ fd, cA P w C.K mg base CX0 6 (fa 19) fd hPs (spH C (PK 19)) /\ keepIn C.K (.ref (fa 19)) = true /\ Binds C.K fd hPs [] :=
  X.jc.hd qI (k := 0) (fun _ _ _ _ _ _ _ _ _ hr h => ⟨_, zz X.T  hr, zO X.RD X.RO h⟩)
theorem L1 : ∀ n, n < 20 -> ∃ fd, cA P w C.K mg base CX0 6 (fa n) fd hPs (spH C (PK n)) /\ keepIn C.K (.ref (fa n)) = true /\ Binds C.K fd hPs [] := fun n hn => match n, hn with
  | 0, _ => Hx X
  | 1, _ => wB X
  | 2, _ => BO X
  | 3, _ => BP X
  | 4, _ => L0 X
  | 5, _ => wC X
  | 6, _ => xF X
  | 7, _ => wF X
  | 8, _ => xG X
  | 9, _ => tS X
  | 10, _ => DD X
  | 11, _ => zW X
  | 12, _ => BQ X
  | 13, _ => xH X
  | 14, _ => wG X
  | 15, _ => wH X
  | 16, _ => xI X
  | 17, _ => tT X
  | 18, _ => xJ X
  | 19, _ => zX X
  | n + 20, hn => absurd hn (by omega)
theorem zY : Fn P w C.K mg base "answer_of" ["desk", "call"] 7 (lE C CL) :=
  X.i9.fn qF (fun _ _ _ _ _ _ _ _ _ hr h => ⟨_, zu X.T (wy X) (wz X) X.lG hr, zP X.RD X.RL (X.kd _ rfl) X.look (L1 X) h⟩)
theorem DE (F : Fun C.K "answers" "answers" j3 f fd) : cA P w C.K mg base CX0 8 f fd ["calls"] (lF C) := by
  exact F.ok vQ (by walk_at "n") ((fun _ _ _ _ _ _ _ _ _ hr h => ⟨_, C7 X.T (Jx X) (xE X) (zY X) hr, Dv  h⟩ : Bdy P w C.K mg base 7 nJ "answers" j3 (lF C)) f)
end
end RV
namespace RV
open L2
open PySem.W (WData Codec OpenSpec Well WellAll ReadsW ReadsAllW)
mutual
theorem Dw.mono {K : FG} {H H' : Hp} (k : ∀ b o, H b = some o -> H' b = some o) : ∀ (d : WData) (v : V), Dw K H v d -> Dw K H' v d
  | .none, _, x => by cases x; exact .non
  | .bool b, _, x => by cases x; exact .bl b
  | .int i, _, x => by cases x; exact .int i
  | .str s, _, x => by cases x; exact .str s
  | .bytes b, _, x => by cases x; exact .Aw _
  | .list ds, _, x => by
    cases x with
    | lst hs ha =>
      refine .lst ?_ (Dw.ui k ds _ ha)
      rcases hs with (h | ⟨o, h⟩) | h
      . exact .inl (.inl (k _ _ h))
      . exact .inl (.inr ⟨o, k _ _ h⟩)
      . exact .inr h
  | .tuple ds, _, x => by
    cases x with
    | tup hs ha =>
      refine .tup ?_ (Dw.ui k ds _ ha)
      rcases hs with (h | ⟨o, h⟩) | h
      . exact .inl (.inl (k _ _ h))
      . exact .inl (.inr ⟨o, k _ _ h⟩)
      . exact .inr h
  | .float _, _, x => by cases x
  | .dict _, _, x => by cases x
  | .bytearray _, _, x => by cases x
  | .set _, _, x => by cases x
  | .frozenset _, _, x => by cases x
  | .obj _ _, _, x => by cases x
theorem Dw.ui {K : FG} {H H' : Hp} (k : ∀ b o, H b = some o -> H' b = some o) : ∀ (ds : List WData) (vs : List V), iO K H vs ds -> iO K H' vs ds
  | [], _, x => by cases x; exact .nil
  | d :: ds, _, x => by
    cases x with
    | cons h1 h2 => exact .cons (Dw.mono k d _ h1) (Dw.ui k ds _ h2)
end
def Hy (tabs : List Addr) (H : Hp) : Prop := ∀ b, (b ∉ tabs /\ (H b = none \/ ∃ o u, H b = some (.frz o u))) \/ (b ∈ tabs /\ H b = some (.tbl #[]))
def sG (tabs : List Addr) (H : Hp) : Hp := fun b => if b ∈ tabs then some (.tbl #[]) else H b
theorem DF {w : World} {K : FG} {k : Nat} {s₁ : Shared} {ds : List WData} {R : WRecords} {cl : Str -> Option Addr} {d0 : WData} (tabs : List Addr)
    (ht : ∀ b ∈ tabs, s₁.heap.get? b = some (tabObj #[]) /\ K.lookup b = none /\ isCodeTable s₁.heap b)
    (KX : K.In s₁.heap) (OB : s₁.heap.Ns mainGlobals mg) (hb : s₁.heap.Ns builtinsNs mb) (Va : ∀ x : Str, x ≠ "__name__" -> mb x = bootBuiltins x) (Rk : s₁.heap.NoLimit) (hg : s₁.gens = #[])
    (N4 : WellAll w.params s₁.heap vals ds) (iH : tu ds = true) (Vb : ∀ d ∈ ds, d.weight <= 1048576) (hr : c7 k callerA)
    (F : ∀ base : Heap, K.In base -> base.Ns mainGlobals mg -> (∀ (b : Addr) (o : Obj), s₁.heap.get? b = some o -> o.data = .plain -> base.get? b = some o) -> cA P w K mg base CX k fa fd ps sp) (N5 : ∀ (s : Shared) (us : List Value), us.length = ps.length -> BindsTo s fd ⟨us, []⟩ (ps.zip us)) (hlen : ds.length = ps.length)
    (HF : ∀ (H : Hp) (xs : List V), Hy tabs H -> iO K H xs ds -> sp xs H (fun v H' => Dw K H' v d0) fun _ _ _ => False)
    (Rl : ∀ H e s', CX [] H s₁ (fun _ _ _ => False) e s' -> False) :
    codeAny (model P w) callerA (.call (.ref fa) ⟨vals, []⟩) (fun r s' => ∃ u as, r = .ok (.ret u) /\ ReadsW R cl s'.heap u d0 as /\ OldK s₁.heap s'.heap /\ s'.os = s₁.os /\ AllBare s'.gens) s₁ := by
  obtain ⟨A, ho, ar⟩ := qm ds vals N4 iH Vb
  have hV := jR ho
  have Vc := yZ KX ar ds vals N4 iH ho
  have out : ∀ {b : Addr} {u : HO}, iI K s₁.heap A b = some u -> b ∉ tabs := fun {b u} q yH => by
    obtain ⟨_, vs, _, _, ⟨e, _⟩ | ⟨e, _⟩⟩ := qo ar q
    . have z := e.symm.trans (ht b yH).1
      have z2 := congrArg Obj.cls (Option.some.inj z)
      exact absurd (show Value.type "list" = Value.none from z2) (by intro y; cases y)
    . have z := e.symm.trans (ht b yH).1
      have z2 := congrArg Obj.cls (Option.some.inj z)
      exact absurd (show Value.type "tuple" = Value.none from z2) (by intro y; cases y)
  have same : ∀ b o, iI K s₁.heap A b = some o -> sG tabs (iI K s₁.heap A) b = some o := fun b o q => by
    unfold sG
    rw [Vh (out q)]
    exact q
  have hO : Hy tabs (sG tabs (iI K s₁.heap A)) := fun b => by
    unfold sG
    by_cases yH : b ∈ tabs
    . rw [Vj yH]
      exact .inr ⟨yH, rfl⟩
    . rw [Vh yH]
      exact .inl ⟨yH, E2 ar b⟩
  have hok : HOk P w (sG tabs (iI K s₁.heap A)) s₁.heap := fun b u q => by
    unfold sG at q
    by_cases yH : b ∈ tabs
    . rw [Vj yH] at q
      obtain rfl := Option.some.inj q
      exact (ht b yH).1
    . rw [Vh yH] at q
      obtain ⟨_, vs, h1, h2, ⟨e, rfl⟩ | ⟨e, rfl⟩⟩ := qo ar q
      . exact ⟨e, by rw [Vg]; exact h1, vs, _, jR h2, e⟩
      . exact ⟨e, by rw [Vg]; exact h1, vs, jR h2, _, e, rfl, _, rfl⟩
  have hS : iO K (sG tabs (iI K s₁.heap A)) (vals.map toV) ds := Dw.ui same ds _ Vc
  have hK : ∀ b u, sG tabs (iI K s₁.heap A) b = some u -> K.lookup b = none := fun b u q => by
    unfold sG at q
    by_cases yH : b ∈ tabs
    . exact (ht b yH).2.1
    . rw [Vh yH] at q
      exact (qo ar q).1
  have KA : ∀ {b : Addr} {o : Obj}, s₁.heap.get? b = some o -> ((∃ es ep, o.data = .dict es ep) \/ o.data = .plain) -> sG tabs (iI K s₁.heap A) b = none := fun {b o} e d => by
    cases q : sG tabs (iI K s₁.heap A) b with
    | none => rfl
    | some u =>
      exfalso
      unfold sG at q
      by_cases yH : b ∈ tabs
      . have e2 := (ht b yH).1
        rw [e2] at e
        cases e
        rcases d with ⟨es, ep, d⟩ | d
        . exact absurd (show Data.fields #[] = Data.dict es ep from d) (by intro z; cases z)
        . exact absurd (show Data.fields #[] = Data.plain from d) (by intro z; cases z)
      . rw [Vh yH] at q
        obtain ⟨_, vs, _, _, ⟨e2, _⟩ | ⟨e2, _⟩⟩ := qo ar q
        . rw [e2] at e
          cases e
          rcases d with ⟨es, ep, d⟩ | d
          . exact absurd (show Data.seq vs.toArray _ = Data.dict es ep from d) (by intro z; cases z)
          . exact absurd (show Data.seq vs.toArray _ = Data.plain from d) (by intro z; cases z)
        . rw [e2] at e
          cases e
          rcases d with ⟨es, ep, d⟩ | d
          . exact absurd (show Data.seq vs.toArray _ = Data.dict es ep from d) (by intro z; cases z)
          . exact absurd (show Data.seq vs.toArray _ = Data.plain from d) (by intro z; cases z)
  generalize sG tabs (iI K s₁.heap A) = H at hO hok hS hK KA
  have zZ : ∀ {b : Addr} {o : Obj}, s₁.heap.get? b = some o -> H b = none -> (yK s₁.heap H).get? b = some o := fun e n => FV e n
  have O8 : ∀ {b : Addr} {m : SV}, s₁.heap.Ns b m -> (yK s₁.heap H).Ns b m := fun {b m} ⟨o, es, ep, e, d, r⟩ => ⟨o, es, ep, zZ e (KA e (.inl ⟨es, ep, d⟩)), d, r⟩
  have nK : ∀ b o, K.lookup b = some o -> H b = none := fun b o e => by
    cases q : H b with
    | none => rfl
    | some u =>
      rw [hK b u q] at e
      cases e
  have SN : K.In (yK s₁.heap H) := fun b o e => zZ (KX b o e) (nK b o e)
  have hM : Mod K mg (yK s₁.heap H) := ⟨SN, O8 OB, ⟨mb, O8 hb, Va⟩, let ⟨mc, h1, h2⟩ := Rk; ⟨mc, O8 h1, h2⟩⟩
  have e0 : Ct P w K mg (yK s₁.heap H) callerA [] s₁ H := ⟨rfl, hM, fun b o e => HS e, le_of_eq (EJ _ _), trivial, fun b hb => absurd (show b ∈ ([] : List Addr) from hb) (by simp), hok, .of_eq hg⟩
  have hl : vals.length = ps.length := by rw [iP N4]; exact hlen
  refine codeAny_mono ((F _ SN (O8 OB) fun b o e d => zZ e (KA e (.inr d))).run callerA [] s₁ H ⟨vals, []⟩ vals (vals.map toV) _ _ hr e0 (N5 s₁ vals hl) hV (HF H _ hO hS)) fun r s' x => ?_
  cases r with
  | error e => exact (Rl H e s' x).elim
  | ok fl =>
    cases fl with
    | next => exact False.elim x
    | brk => exact False.elim x
    | cont => exact False.elim x
    | ret u =>
      obtain ⟨v, H', os, bare, un, L3, r', q⟩ := x
      have kept : ∀ b o, s₁.heap.get? b = some o -> asItWas s₁.heap s'.heap b o := fun b o e => by
        rcases hO b with ⟨_, z | ⟨ob, u3, z⟩⟩ | ⟨yH, z⟩
        . exact .inl (un.keep b o e z (by intro z; exact absurd (show b ∈ ([] : List Addr) from z) (by simp)) (by simp))
        . have z2 := un.wM b ob _ z
          obtain ⟨e1, _⟩ := hok b _ z
          obtain ⟨e2, _⟩ := L3 b _ z2
          rw [e] at e1
          cases e1
          exact .inl e2
        . obtain ⟨more, z2⟩ := un.wN b _ z
          have e2 : s'.heap.get? b = some { cls := .none, data := .fields (#[] ++ more) } := L3 b _ z2
          have e3 := (ht b yH).1
          rw [e] at e3
          cases e3
          exact .inr (.inl ⟨(ht b yH).2.2, rfl, #[], more, rfl, e2⟩)
      have Rm : K.In s'.heap := fun b o e => un.keep b o (KX b o e) (nK b o e) (by intro z; exact absurd (show b ∈ ([] : List Addr) from z) (by simp)) (by simp)
      obtain ⟨as, SO⟩ := Dw.reads (R := R) (cl := cl) L3 Rm d0 v u q r'
      exact ⟨u, as, rfl, SO, ⟨kept, fun b o e => un.there b o e (by simp)⟩, os, bare⟩
theorem DG {r : OpenSpec} {k : Nat} {XP : (SV) -> Heap -> Prop} {YP : World -> Heap -> Prop} {d : DefRec} {K : Params -> FG} {CX : World -> CXT} {ps : List Str} {sp : World -> Sp} (tabs : World -> List Addr)
    (N6 : r.wellSaid = true) (SQ : d.params.defaults = []) (hlen : r.args.length = ps.length) (hr : c7 k callerA)
    (hY : ∀ (w : World) (h : Heap), YP w h -> (K w.params).In h)
    (hT : ∀ (w : World) (s_0 : Shared) (mg mb : SV) (h : Heap), Ground q loose [] XP w s_0 mg mb h -> YP w h -> ∀ b ∈ tabs w, h.get? b = some (tabObj #[]) /\ (K w.params).lookup b = none /\ isCodeTable h b)
    (F : ∀ (w : World) (s_0 : Shared) (mg mb : SV) (fa : Addr) (h : Heap), Ground q loose [] XP w s_0 mg mb h -> YP w h -> (K w.params).In h -> h.Ns mainGlobals mg -> mg d.name = some (.ref fa) ->
      ∃ fd : FuncData, (∀ (s : Shared) (us : List Value), us.length = ps.length -> BindsTo s fd ⟨us, []⟩ (ps.zip us)) /\
        ∀ base : Heap, (K w.params).In base -> base.Ns mainGlobals mg -> (∀ (b : Addr) (o : Obj), h.get? b = some o -> o.data = .plain -> base.get? b = some o) -> cA r.prog w (K w.params) mg base (CX w) k fa fd ps (sp w))
    (HF : ∀ (w : World) (H : Hp) (xs : List V) (a : Codec.denoteAll r.args), Hy (tabs w) H -> Codec.withinAll r.args a = true -> Codec.app r.args r.asked a = true -> iO (K w.params) H xs (Codec.encAll r.args a) ->
      sp w xs H (fun v H' => Dw (K w.params) H' v (r.ret.enc (Codec.app r.args r.f a))) fun _ _ _ => False)
    (Rl : ∀ (w : World) (H : Hp) (s : Shared) (e : Value) (s' : Shared), CX w [] H s (fun _ _ _ => False) e s' -> False) :
    WalkOS q loose XP YP r d [] (fun f vs => PySem.call f vs) := by
  intro w s_0 s₁ mg mb G Y fa o pm cd doc dV kV ho hd Fv hD O9 hg args vals as y8 Rn SO N4 hlo
  obtain ⟨a, e1, e2⟩ := PySem.W.os_pre_some y8
  obtain ⟨e3, Ie⟩ := Codec.encAll_of_decAll r.args args a e1
  subst e3
  have KX := hY w _ Y
  obtain ⟨fd, hb, hF⟩ := F w s_0 mg mb fa _ G Y KX G.T.g O9
  refine PySem.W.enter_call (codeAny_mono (DF (R := []) (cl := classAt s_0.heap) (d0 := r.ret.enc (Codec.app r.args r.f a)) (tabs w) (hT w s_0 mg mb _ G Y) KX G.T.g G.T.b G.T.builtins G.T.nolimit hg N4 (yn _ _) (u7 Rn) hr hF hb (by rw [u9]; exact hlen)
    (fun H xs hO hS => HF w H xs a hO Ie e2 hS) fun H e s' => Rl w H s₁ e s') fun r' s' hq => ?_)
  obtain ⟨u, Vd, rfl, h1, h2, h3, h4⟩ := hq
  exact ⟨.inl ⟨u, _, Vd, rfl, fun _ => rfl, h1, (OpenSpec.post_iff N6 Ie _ _).mpr rfl, fun z => noConfusion (show false = true from z)⟩, h2, h3, h4⟩
end RV
namespace RV
open L2
def wI (K : FG) (C : Addr) (fl : List Str) : Bool := fl.all fun f => match findIn K (.ref C) f with
  | some none => true
  | _ => false
theorem sH {K : FG} (h : wI K C fl = true) : ∀ f ∈ fl, fj K C f := fun f hf => by
  have := all_eq_true.mp h f hf
  unfold fj
  cases e : findIn K (.ref C) f with
  | none => rw [e] at this; cases this
  | some o =>
    cases o with
    | none => rfl
    | some v => rw [e] at this; cases this
def N7 (K : FG) (CD : Addr) : Prop := ∃ f fd, Meth K CD "reset" f /\ Fun K "reset" "Desk.reset" eR f fd
theorem Fm {k : Int} {v : V} {r : List (Int × V)} : de ((k, v) :: r) k = some v := cO (p := ((Sum.inl k : Key), v)) rfl
theorem Fo {k j : Int} {v : V} {r : List (Int × V)} (h : ¬ k = j) : de ((k, v) :: r) j = de r j := cP (p := ((Sum.inl k : Key), v)) fun e => h (Sum.inl.inj e)
theorem DH {α : Type} {R : Value -> α -> Prop} {G : Addr -> α -> Prop} (hR : ∀ v x, R v x -> ∃ a, v = .ref a /\ G a x) : ∀ {l : List (Int × Value)} {T : List (Int × α)}, Paired (fun p q => p.1 = q.1 /\ R p.2 q.2) l T ->
    ∃ aQ : List (Int × V), Paired (fun p q => p.1 = q.1 /\ RelV p.2 q.2) aQ l /\ ∀ k, (T.lookup k = none -> de aQ k = none) /\ ∀ x, T.lookup k = some x -> ∃ a, de aQ k = some (.ref a) /\ G a x
  | _, _, .nil => ⟨[], .nil, fun k => ⟨fun _ => rfl, fun x e => by cases e⟩⟩
  | _, _, .cons (a := p) (b := q) ⟨h1, h2⟩ t => by
    obtain ⟨aQ, i1, i2⟩ := DH hR t
    obtain ⟨a, ea, g⟩ := hR _ _ h2
    obtain ⟨p1, p2⟩ := p
    obtain ⟨q1, q2⟩ := q
    dsimp only at h1 ea g
    subst h1 ea
    refine ⟨(p1, .ref a) :: aQ, .cons ⟨rfl, rfl⟩ i1, fun k => ?_⟩
    by_cases c : k = p1
    . subst c
      rw [Fm]
      refine ⟨fun e => ?_, fun x e => ?_⟩
      . rw [lookup_cons, beq_self_eq_true] at e; cases e
      . rw [lookup_cons, beq_self_eq_true] at e
        obtain rfl := Option.some.inj e
        exact ⟨a, rfl, g⟩
    . rw [Fo (fun z => c z.symm), lookup_cons, beq_eq_false_iff_ne.mpr c]
      exact i2 k
section
variable [bM]
theorem L4 {XC : Cx} {K : FG} (h1 : ∃ l, mC XC.K (.ref aN) = some l /\ Paired (fun p q => p.1 = q.1 /\ qv XC.K p.2 = some q.2) l qc) (h2 : ∃ l, mC XC.K (.ref aR) = some l /\ Paired (fun p q => p.1 = q.1 /\ jk XC.K p.2 = some q.2) l mh) (e : XC.K = K) : Jk XC K aN aR := by
  subst e
  obtain ⟨l1, d1, p1⟩ := h1
  obtain ⟨l2, d2, p2⟩ := h2
  constructor
  . obtain ⟨aQ, i1, i2⟩ := DH (R := fun v x => qv XC.K v = some x) (G := fun a bs => ∃ as : List Addr, as.length = bs.length /\ (∀ H, SqT XC.K H a (as.map V.ref)) /\ ∀ H (i : Nat) p b, as[i]? = some p -> bs[i]? = some b -> SqT XC.K H p (b.map V.int)) (fun v x h => CZ h) p1
    obtain ⟨a, ea, kd⟩ := rL d1 i1
    cases ea
    exact ⟨aQ, kd, fun k => ⟨(i2 k).1, fun bs e => let ⟨a, g1, as, g2⟩ := (i2 k).2 bs e; ⟨a, as, g1, g2⟩⟩⟩
  . obtain ⟨aQ, i1, i2⟩ := DH (R := fun v x => jk XC.K v = some x) (G := fun a b => ∀ H, SqT XC.K H a (b.map V.int)) (fun v x h => by
      obtain ⟨a, ea, _⟩ := jY (H := fun _ => none) h
      refine ⟨a, ea, fun H => ?_⟩
      obtain ⟨a', Ov, q⟩ := jY (H := H) h
      rw [ea] at Ov
      cases Ov
      exact q) p2
    obtain ⟨a, ea, kd⟩ := rL d2 i1
    cases ea
    exact ⟨aQ, kd, fun k => i2 k⟩
theorem J0 {K : FG} {ns : List Int} (h : jk K (.ref a) = some ns) : SqT K H a (ns.map V.int) := by
  obtain ⟨a', ea, q⟩ := jY (H := H) h
  cases ea
  exact q
theorem N8 {XC : Cx} {l : List (Int × Value)} {aQ : List (Int × V)} (h : mC XC.K (.ref a) = some l) (r : Paired (fun p q => p.1 = q.1 /\ RelV p.2 q.2) aQ l) : KD XC a aQ := by
  obtain ⟨a', ea, q⟩ := rL h r
  cases ea
  exact q
end
theorem BR {K : FG} (KX : K.In h) (hc : CodeHd h c P) (ho : ∃ o, K.lookup c = some o) : ∀ h', K.In h' -> CodeHd h' c P := fun h' Rm => by
  obtain ⟨o', e'⟩ := ho
  obtain ⟨o, vs, file, tf, flags, tg, Ve, text, tt, e, r⟩ := hc
  obtain rfl : o = o' := by
    have := KX _ _ e'
    rw [e] at this
    exact Option.some.inj this
  exact ⟨o, vs, file, tf, flags, tg, Ve, text, tt, Rm _ _ e', r⟩
def FnT (K : FG) (x : Str) (st : Stmt) : Prop := ∃ f fd, nsIn K mainGlobals x = some (some (.ref f)) /\ Fun K x x st f fd
section
variable {K : FG} {x : Str} {st : Stmt} {f : Addr} {oc : Value} {od an : Option Addr} {AK : Array (Option Value)} {kV doc pm bJ ct : Value}
theorem FnT.m (KX : K.In h) (N : h.Ns mainGlobals mg) (F : FnT K x st) : FnM K mg x st := let ⟨f, fd, e, F⟩ := F; ⟨f, fd, mg_of KX N e, F⟩
theorem fT (e : nsIn K mainGlobals x = some (some (.ref f))) (l : K.lookup f = some ⟨oc, od, .func (fnOf x x (iN st) (dJ st) (aB st) .none kV doc pm an bJ ct), AK⟩) (c : codeIn K bJ x = true) (k : keepIn K (.ref f) = true) : FnT K x st := ⟨f, _, e, Gs l c k⟩
theorem fH (l : K.lookup f = some ⟨oc, od, .func (fnOf x x (iN st) (dJ st) (aB st) .none kV doc pm an bJ ct), AK⟩) (c : codeIn K bJ x = true) (k : keepIn K (.ref f) = true) : FnH K x st f := ⟨_, Gs l c k⟩
end
structure Hz (K : FG) (CD CO CU CQ CC CL T1 T2 c1 c2 aN aR vH vB vA h0 h1 h2 h3 h4 h5 h6 h7 h8 h9 DQ BU BV BW BX DR DS DT DU DV : Addr) : Prop where
  N9 : nsIn K mainGlobals "sum" = some none
  Oa : nsIn K mainGlobals "min" = some none
  Ob : nsIn K mainGlobals "max" = some none
  Oc : nsIn K mainGlobals "abs" = some none
  Od : nsIn K mainGlobals "len" = some none
  HA : nsIn K mainGlobals "sorted" = some none
  Oe : nsIn K mainGlobals "zip" = some none
  BS : nsIn K mainGlobals "enumerate" = some none
  Jy : nsIn K mainGlobals "range" = some none
  L5 : nsIn K mainGlobals "list" = some none
  Of : nsIn K mainGlobals "all" = some none
  qW : nsIn K mainGlobals "Choice" = some (some (.ref CC))
  zQ : nsIn K mainGlobals "Unit" = some (some (.ref CU))
  nZ : nsIn K mainGlobals "Quarter" = some (some (.ref CQ))
  ue : nsIn K mainGlobals "Offer" = some (some (.ref CO))
  zS : nsIn K mainGlobals "Call" = some (some (.ref CL))
  zU : nsIn K mainGlobals "Desk" = some (some (.ref CD))
  HB : Cls K CC
  HC : wI K CC v5 = true
  qX : ClM K CC "Choice.__init__" fF
  L6 : Cls K CU
  L7 : wI K CU iB = true
  zR : ClM K CU "Unit.__init__" iT
  Fp : Cls K CQ
  Fq : wI K CQ Dl = true
  n0 : ClM K CQ "Quarter.__init__" eN
  Jz : Cls K CO
  JA : wI K CO cf = true
  uf : ClM K CO "Offer.__init__" gI
  L8 : Cls K CL
  L9 : wI K CL sk = true
  zT : ClM K CL "Call.__init__" iX
  Ma : Cls K CD
  Mb : wI K CD bT = true
  zV : ClM K CD "Desk.__init__" iY
  ug : N7 K CD
  cS : ∃ t, nsIn K mainGlobals "MOST_OFFERS" = some (some (.int 24 t))
  dA : ∃ t, nsIn K mainGlobals "MOST_WHOLE" = some (some (.int 8 t))
  bE : ∃ t, nsIn K mainGlobals "MOST_QUARTERS" = some (some (.int 96 t))
  j8 : nsIn K mainGlobals "NUMBERS" = some (some (.ref aN))
  wu : nsIn K mainGlobals "ROWS" = some (some (.ref aR))
  lG : nsIn K mainGlobals "HANDLERS" = some (some (.ref vH))
  qT : nsIn K mainGlobals "BEFORE" = some (some (.ref vB))
  uc : nsIn K mainGlobals "AFTER" = some (some (.ref vA))
  d_N : ∃ l, mC K (.ref aN) = some l /\ Paired (fun p q => p.1 = q.1 /\ qv K p.2 = some q.2) l qc
  d_R : ∃ l, mC K (.ref aR) = some l /\ Paired (fun p q => p.1 = q.1 /\ jk K p.2 = some q.2) l mh
  d_H : mC K (.ref vH) = some [(0, .ref h0), (1, .ref h1), (2, .ref h2), (3, .ref h3), (4, .ref h4), (5, .ref h5), (6, .ref h6), (7, .ref h7), (8, .ref h8), (9, .ref h9), (10, .ref DQ), (11, .ref BU), (12, .ref BV), (13, .ref BW), (14, .ref BX), (15, .ref DR), (16, .ref DS), (17, .ref DT), (18, .ref DU), (19, .ref DV)]
  b_B : jk K (.ref vB) = some [1, 2, 3, 4]
  b_A : jk K (.ref vA) = some [5, 6, 7, 9, 10, 11, 12, 13, 14, 15, 16, 17, 18]
  t_1 : tabIn K "partible_by_price" = some (c1, T1)
  t_2 : tabIn K "by_energy" = some (c2, T2)
  x_1 : K.lookup T1 = none
  x_2 : K.lookup T2 = none
  o_1 : ∃ o, K.lookup c1 = some o
  o_2 : ∃ o, K.lookup c2 = some o
  ne : (T2 == T1) = false
  nT : FnT K "cost_of" nE
  qU : FnT K "is_buy" qx
  qV : FnT K "covers" qy
  lH : FnT K "best_buy" kI
  cD : ∃ f fd, nsIn K mainGlobals "partible_by_price" = some (some (.ref f)) /\ BK K "partible_by_price" "partible_by_price" cC f fd c1
  dQ : FnT K "whole_choices" dM
  gR : FnT K "with_whole" gG
  nU : FnT K "rank_of" nF
  gS : FnT K "amounts_of" gH
  nV : FnT K "copy_of" nG
  nW : FnT K "nearest" nH
  lI : FnT K "farthest" kM
  eY : FnT K "lowest_place" eJ
  dR : FnT K "highest_place" dN
  eZ : FnT K "can_stand_at" eK
  dS : FnT K "nearest_after" dO
  dB : FnT K "farthest_after" du
  e9 : FnT K "lowest_after" eM
  dU : FnT K "highest_after" dP
  fQ : FnT K "quarter_for" fG
  cZ : FnT K "price_at_lowest" cW
  i7 : ∃ f fd, nsIn K mainGlobals "by_energy" = some (some (.ref f)) /\ BK K "by_energy" "by_energy" iV f fd c2
  nX : FnT K "payment" nI
  ud : FnT K "stand" t7
  lJ : FnT K "foreseen" kO
  i8 : FnT K "offers_of" iW
  gT : FnT K "read_calls" eP
  fR : FnT K "is_in_range" dG
  c6 : FnT K "is_row_in_range" cX
  Fs : FnT K "answers" j3
  i9 : FnT K "answer_of" gc
  fS : FnT K "is_untimely" fJ
  fU : FnT K "count_whole" fL
  ja : FnT K "find_unit" i3
  nY : FnT K "outcome" nM
  uh : FnH K "begin" t8 h0
  fV : FnH K "enter_offer" fK h1
  lK : FnH K "withdraw" kW h2
  lL : FnH K "set_need" kX h3
  EC : FnH K "buy" Ew h4
  fW : FnH K "undo_buying" fM h5
  gU : FnH K "tell_taken" gL h6
  fX : FnH K "tell_bought" fN h7
  gW : FnH K "tell_value" gM h8
  fb : FnH K "call_quarter" eS h9
  n6 : FnH K "foresee" nN DQ
  jb : FnH K "tell_unit" i4 BU
  lM : FnH K "set_left" lr BV
  gX : FnH K "tell_reach" gN BW
  fY : FnH K "tell_ladder" fO BX
  fZ : FnH K "tell_places" fP DR
  gY : FnH K "try_places" gO DS
  fc : FnH K "tell_quarter" eT DT
  gZ : FnH K "tell_costs" gP DU
  jc : FnH K "tell_book" i5 DV
section
variable [bM]
theorem Hz.txt {K : FG} (X : Hz K CD CO CU CQ CC CL T1 T2 c1 c2 aN aR vH vB vA h0 h1 h2 h3 h4 h5 h6 h7 h8 h9 DQ BU BV BW BX DR DS DT DU DV) (KX : K.In h) (N : h.Ns mainGlobals mg) (hB : Bm mg base)
    (q1 : bM.q T1 = "partible_by_price" ++ ".<locals>." ++ "<lambda>") (q2 : bM.q T2 = "by_energy" ++ ".<locals>." ++ "<lambda>") (C1 : ∀ h, K.In h -> CodeHd h c1 T1) (C2 : ∀ h, K.In h -> CodeHd h c2 T2) :
    Txt P w mg base ⟨K, CD, CO, CU, CQ, T1, T2⟩ CC CL aN aR vH vB vA [(0, .ref h0), (1, .ref h1), (2, .ref h2), (3, .ref h3), (4, .ref h4), (5, .ref h5), (6, .ref h6), (7, .ref h7), (8, .ref h8), (9, .ref h9), (10, .ref DQ), (11, .ref BU), (12, .ref BV), (13, .ref BW), (14, .ref BX), (15, .ref DR), (16, .ref DS), (17, .ref DT), (18, .ref DU), (19, .ref DV)] (fun n => [h0, h1, h2, h3, h4, h5, h6, h7, h8, h9, DQ, BU, BV, BW, BX, DR, DS, DT, DU, DV].getD n 0) where
  T := { sum := mg_none_of KX N X.N9, zg := mg_none_of KX N X.Oa, GQ := mg_none_of KX N X.Ob, Ld := mg_none_of KX N X.Oc, len := mg_none_of KX N X.Od, zh := mg_none_of KX N X.HA, vq := mg_none_of KX N X.Oe, kF := mg_none_of KX N X.BS, GR := mg_none_of KX N X.Jy, JO := mg_none_of KX N X.L5, Le := mg_none_of KX N X.Of }
  B := hB
  RO := ⟨X.Jz, sH X.JA⟩
  RU := ⟨X.L6, sH X.L7⟩
  RQ := ⟨X.Fp, sH X.Fq⟩
  RD := ⟨X.Ma, sH X.Mb⟩
  RC := ⟨X.HB, sH X.HC⟩
  RL := ⟨X.L8, sH X.L9⟩
  cS := let ⟨t, e⟩ := X.cS; ⟨t, mg_of KX N e⟩
  dA := let ⟨t, e⟩ := X.dA; ⟨t, mg_of KX N e⟩
  bE := let ⟨t, e⟩ := X.bE; ⟨t, mg_of KX N e⟩
  j8 := mg_of KX N X.j8
  wu := mg_of KX N X.wu
  lG := mg_of KX N X.lG
  qT := mg_of KX N X.qT
  uc := mg_of KX N X.uc
  num := fun XC e => L4 (by rw [e]; exact X.d_N) (by rw [e]; exact X.d_R) e
  bef := fun H => J0 X.b_B
  aft := fun H => J0 X.b_A
  kd := fun XC e => N8 (l := [(0, .ref h0), (1, .ref h1), (2, .ref h2), (3, .ref h3), (4, .ref h4), (5, .ref h5), (6, .ref h6), (7, .ref h7), (8, .ref h8), (9, .ref h9), (10, .ref DQ), (11, .ref BU), (12, .ref BV), (13, .ref BW), (14, .ref BX), (15, .ref DR), (16, .ref DS), (17, .ref DT), (18, .ref DU), (19, .ref DV)]) (by rw [e]; exact X.d_H) (.cons ⟨rfl, rfl⟩ (.cons ⟨rfl, rfl⟩ (.cons ⟨rfl, rfl⟩ (.cons ⟨rfl, rfl⟩ (.cons ⟨rfl, rfl⟩ (.cons ⟨rfl, rfl⟩ (.cons ⟨rfl, rfl⟩ (.cons ⟨rfl, rfl⟩ (.cons ⟨rfl, rfl⟩ (.cons ⟨rfl, rfl⟩ (.cons ⟨rfl, rfl⟩ (.cons ⟨rfl, rfl⟩ (.cons ⟨rfl, rfl⟩ (.cons ⟨rfl, rfl⟩ (.cons ⟨rfl, rfl⟩ (.cons ⟨rfl, rfl⟩ (.cons ⟨rfl, rfl⟩ (.cons ⟨rfl, rfl⟩ (.cons ⟨rfl, rfl⟩ (.cons ⟨rfl, rfl⟩ (.nil)))))))))))))))))))))
  look := fun n hn => match n, hn with
    | 0, _ => rfl
    | 1, _ => rfl
    | 2, _ => rfl
    | 3, _ => rfl
    | 4, _ => rfl
    | 5, _ => rfl
    | 6, _ => rfl
    | 7, _ => rfl
    | 8, _ => rfl
    | 9, _ => rfl
    | 10, _ => rfl
    | 11, _ => rfl
    | 12, _ => rfl
    | 13, _ => rfl
    | 14, _ => rfl
    | 15, _ => rfl
    | 16, _ => rfl
    | 17, _ => rfl
    | 18, _ => rfl
    | 19, _ => rfl
    | n + 20, hn => absurd hn (by omega)
  nT := X.nT.m KX N
  qU := X.qU.m KX N
  qV := X.qV.m KX N
  lH := X.lH.m KX N
  cD := let ⟨f, fd, e, F⟩ := X.cD; ⟨f, fd, c1, mg_of KX N e, F, q1, C1⟩
  dQ := X.dQ.m KX N
  gR := X.gR.m KX N
  nU := X.nU.m KX N
  gS := X.gS.m KX N
  nV := X.nV.m KX N
  nW := X.nW.m KX N
  lI := X.lI.m KX N
  eY := X.eY.m KX N
  dR := X.dR.m KX N
  eZ := X.eZ.m KX N
  dS := X.dS.m KX N
  dB := X.dB.m KX N
  e9 := X.e9.m KX N
  dU := X.dU.m KX N
  fQ := X.fQ.m KX N
  cZ := X.cZ.m KX N
  i7 := let ⟨f, fd, e, F⟩ := X.i7; ⟨f, fd, c2, mg_of KX N e, F, q2, C2⟩
  nX := X.nX.m KX N
  ud := X.ud.m KX N
  lJ := X.lJ.m KX N
  i8 := X.i8.m KX N
  gT := X.gT.m KX N
  fR := X.fR.m KX N
  c6 := X.c6.m KX N
  i9 := X.i9.m KX N
  fS := X.fS.m KX N
  fU := X.fU.m KX N
  ja := X.ja.m KX N
  nY := X.nY.m KX N
  qW := mg_of KX N X.qW
  qX := X.qX
  zQ := mg_of KX N X.zQ
  zR := X.zR
  nZ := mg_of KX N X.nZ
  n0 := X.n0
  ue := mg_of KX N X.ue
  uf := X.uf
  zS := mg_of KX N X.zS
  zT := X.zT
  zU := mg_of KX N X.zU
  zV := X.zV
  ug := X.ug
  uh := X.uh
  fV := X.fV
  lK := X.lK
  lL := X.lL
  EC := X.EC
  fW := X.fW
  gU := X.gU
  fX := X.fX
  gW := X.gW
  fb := X.fb
  n6 := X.n6
  jb := X.jb
  lM := X.lM
  gX := X.gX
  fY := X.fY
  fZ := X.fZ
  gY := X.gY
  fc := X.fc
  gZ := X.gZ
  jc := X.jc
end
end RV
namespace RV
open L2
open PySem.W (WData Codec OpenSpec)
structure Ad where
  (CD CO CU CQ CC CL T1 T2 c1 c2 aN aR vH vB vA h0 h1 h2 h3 h4 h5 h6 h7 h8 h9 DQ BU BV BW BX DR DS DT DU DV : Addr)
def Mc (K : FG) (a : Ad) : Prop := Hz K a.CD a.CO a.CU a.CQ a.CC a.CL a.T1 a.T2 a.c1 a.c2 a.aN a.aR a.vH a.vB a.vA a.h0 a.h1 a.h2 a.h3 a.h4 a.h5 a.h6 a.h7 a.h8 a.h9 a.DQ a.BU a.BV a.BW a.BX a.DR a.DS a.DT a.DU a.DV
theorem Md {K : FG} (h : ∃ CD CO CU CQ CC CL T1 T2 c1 c2 aN aR vH vB vA h0 h1 h2 h3 h4 h5 h6 h7 h8 h9 DQ BU BV BW BX DR DS DT DU DV, Hz K CD CO CU CQ CC CL T1 T2 c1 c2 aN aR vH vB vA h0 h1 h2 h3 h4 h5 h6 h7 h8 h9 DQ BU BV BW BX DR DS DT DU DV) : ∃ a : Ad, Mc K a :=
  by
  obtain ⟨CD, CO, CU, CQ, CC, CL, T1, T2, c1, c2, aN, aR, vH, vB, vA, h0, h1, h2, h3, h4, h5, h6, h7, h8, h9, DQ, BU, BV, BW, BX, DR, DS, DT, DU, DV, X⟩ := h
  exact ⟨⟨CD, CO, CU, CQ, CC, CL, T1, T2, c1, c2, aN, aR, vH, vB, vA, h0, h1, h2, h3, h4, h5, h6, h7, h8, h9, DQ, BU, BV, BW, BX, DR, DS, DT, DU, DV⟩, X⟩
def tq (a : Ad) : bM := ⟨fun P => if (P == a.T1) = true then "partible_by_price" ++ ".<locals>." ++ "<lambda>" else "by_energy" ++ ".<locals>." ++ "<lambda>"⟩
def Ro (K : FG) (a : Ad) : Cs := ⟨K, a.CD, a.CO, a.CU, a.CQ, a.T1, a.T2⟩
theorem Ft [bM] {H : Hp} (h : H b = some (.tbl #[])) : Tab H b := ⟨#[], h, by first | exact trivial | exact .nil | (unfold TriplesOk; trivial) | simp [TriplesOk], fun pos cv e => by first | cases e | (simp [codeAmong] at e)⟩
theorem JB {ts : List T3} {t : T3} (h : t ∈ ts) (ok : okT t) : t.2.2.length <= (ts.flatMap gg).length := by
  have h1 : (gg t).length <= (ts.flatMap gg).length := by
    induction ts with
    | nil => cases h
    | cons x r ih =>
      rw [flatMap_cons, VB]
      rcases mem_cons.mp h with rfl | h
      . omega
      . have := ih h
        omega
  refine VH ?_ h1
  unfold gg
  by_cases c : cF t.1 = true
  . rw [Vj c]
    simp only [VC, VB]
    omega
  . rw [ok.2 (VZ c)]
    exact VF _
theorem HD {XP : (SV) -> Heap -> Prop} {YP : World -> Heap -> Prop} {d : DefRec} {K : Params -> FG} (T : ∀ w : World, ∃ a : Ad, Mc (K w.params) a) (hd : d.name = "answers") (SQ : d.params.defaults = [])
    (r1 : ∃ e, (recsOf q).find? (fun e => e.name == (Str.ofString "partible_by_price")) = some e) (r2 : ∃ e, (recsOf q).find? (fun e => e.name == (Str.ofString "by_energy")) = some e) (hY : ∀ (w : World) (h : Heap), YP w h -> (K w.params).In h) :
    WalkOS q loose XP YP PySem.Challenge.rw_reserves_s01_answers d [] (fun f vs => PySem.call f vs) := by
  obtain ⟨ad, ch⟩ : ∃ ad : World -> Ad, ∀ w, Mc (K w.params) (ad w) := ⟨fun w => Classical.choose (T w), fun w => Classical.choose_spec (T w)⟩
  obtain ⟨d1, r1⟩ := r1
  obtain ⟨d2, r2⟩ := r2
  refine DG (r := PySem.Challenge.rw_reserves_s01_answers) (K := K) (k := 8) (CX := fun _ => CX0) (ps := ["calls"]) (sp := fun w => @lF (tq (ad w)) (Ro (K w.params) (ad w))) (fun w => [(ad w).T1, (ad w).T2]) (by decide +kernel) SQ rfl ⟨rfl, by decide, by decide⟩ hY ?T ?F ?S (fun _ _ _ _ _ z => z)
  case T =>
    intro w s_0 mg mb h G Y b hb
    have KX := hY w h Y
    have X := ch w
    have one : ∀ {c P : Addr}, CodeHd h c P /\ h.get? P = some (tabObj #[]) -> (K w.params).lookup P = none -> h.get? P = some (tabObj #[]) /\ (K w.params).lookup P = none /\ isCodeTable h P := fun {c P} h1 h2 =>
      let ⟨o, vs, _, _, _, _, _, _, _, e1, e2, e3, e4, _⟩ := h1.1
      ⟨h1.2, h2, c, o, vs, e1, e2, e3, e4⟩
    rcases mem_cons.mp hb with rfl | hb
    . exact one (tab_of G.T KX r1 X.t_1) X.x_1
    . obtain rfl := mem_singleton.mp hb
      exact one (tab_of G.T KX r2 X.t_2) X.x_2
  case F =>
    intro w s_0 mg mb fa h G Y KX N O9
    have X := ch w
    letI := tq (ad w)
    obtain ⟨f, fd, e, F⟩ := X.Fs
    have e0 := mg_of KX N e
    rw [hd] at O9
    rw [O9] at e0
    cases e0
    obtain ⟨oc, od, kV, doc, pm, an, bJ, ct, AK, Vf, lk, Fv⟩ := F.ex
    refine ⟨fd, fun s us hl => ?_, fun base kb nb plain => ?_⟩
    . rw [Vf]
      exact match us, hl with | [_], _ => .of_eq rfl
    . have hB : Bm mg base := by
        obtain ⟨bm, ob, b1, b2, b3, b4, b5, b6⟩ := G.T.bmain
        exact ⟨bm, ob, b1, b2, plain _ _ b3 b6, b4, b5, b6⟩
      have q1 : bM.q (ad w).T1 = "partible_by_price" ++ ".<locals>." ++ "<lambda>" := by
        show (if ((ad w).T1 == (ad w).T1) = true then _ else _) = _
        rw [Vj (by simp)]
      have q2 : bM.q (ad w).T2 = "by_energy" ++ ".<locals>." ++ "<lambda>" := by
        show (if ((ad w).T2 == (ad w).T1) = true then _ else _) = _
        rw [Vh (by rw [X.ne]; simp)]
      exact DE (X.txt (P := PySem.Challenge.rw_reserves_s01_answers.prog) (w := w) KX N hB q1 q2 (BR KX (tab_of G.T KX r1 X.t_1).1 X.o_1) (BR KX (tab_of G.T KX r2 X.t_2).1 X.o_2)) F
  case S =>
    intro w H xs a hO Ie Dx hx
    letI := tq (ad w)
    cases hx with
    | cons h1 h2 =>
      cases h2
      cases h1 with
      | lst hs ha =>
        have e := L2.Ei a.1 _ ha
        subst e
        have Dx : PyVbemah.answers_asked a.1 = true := Dx
        have q : ((Codec.inLen 0 16000 a.1 && a.1.all (Codec.inInt (-1000000000000000000) 1000000000000000000)) && true) = true := Ie
        rw [VV, VV] at q
        have hlen : a.1.length <= 16000 := (Codec.inNat_iff.mp q.1.1).2
        obtain ⟨ts, el, hok, hn, has, Rp⟩ := Ar Dx
        have tb : ∀ {b : Addr}, b ∈ [(ad w).T1, (ad w).T2] -> Tab H b := fun {b} hb => by
          rcases hO b with ⟨z, _⟩ | ⟨_, z⟩
          . exact absurd hb z
          . exact Ft z
        refine ⟨_, ts, rfl, by rw [<- el]; exact hs, hok, has, fun t ht => ?_, hn, tb (.head _), tb (.tail _ (.head _)), fun H' l hl => ?_⟩
        . have := JB ht (hok t ht)
          rw [<- el] at this
          omega
        . rw [<- Rp] at hl
          exact .lst (L2.SqL.of hl) (L2.Eh _)
end RV
namespace PySem.W.Fast
def tw9069630721379144149:=0
def tw10176949244396135691:=0
def tw12985340707593235960:=0
def tw7843652154179450397:=0
def tw13329876707338263319:=0
def tw10519927918196525241:=0
def tw847262753302033625:=0
def tw9317263720295568531:=0
def tw16553980685866153292:=0
def tw446078869576527462:=0
def tw5118287811824192041:=0
def tw3598139839977625715:=0
def tw5652993114004914492:=0
def tw4582695936610037456:=0
def tw12015212358587523886:=0
def tw16267784337783786762:=0
def tw17660282442185032907:=0
def tw1618282270455783651:=0
def tw18364297121884157025:=0
def tw3102264679045550065:=0
def tw8498123979718488749:=0
def tw10504549947273912272:=0
def tw16964064850094047164:=0
def tw8810429328140965445:=0
def tw15034575629929272825:=0
def tw3547661894955998856:=0
def tw5161084128396226473:=0
def tw16284373575013235516:=0
def tw9282032399989581549:=0
def tw4602472032843177856:=0
def tw13019013843804193897:=0
def tw652368533408960381:=0
def tw5348584915306966601:=0
def tw2175207217045788543:=0
def tw18356255208408203790:=0
def tw8704719837090626617:=0
def tw6993149218228313806:=0
def tw18295450066453866711:=0
def tw15703691329885959099:=0
def tw2902058252606797046:=0
def tw2243353484660410285:=0
def tw769273461677259424:=0
end PySem.W.Fast
open PySem PySem.W PyProof.Rows
theorem PySem.Challenge.cw_reserves_s01_answers_holds : PySem.Challenge.rw_reserves_s01_answers.Holds := by
  w_on; k_headS; (case hw => exact ⟨[.list [.int 14]], by decide +kernel, by decide +kernel⟩)
  k_fillS
  refine RV.HD (K := PySem.Challenge.cw_reserves_s01_answers_holds.heap_1) (fun w => RV.Md ?T) rfl rfl ⟨_, rfl⟩ ⟨_, rfl⟩ (fun w h Y => kIn_of Y)
  case T =>
    exact ⟨_, _, _, _, _, _, _, _, _, _, _, _, _, _, _, _, _, _, _, _, _, _, _, _, _, _, _, _, _, _, _, _, _, _, _, RV.Hz.mk rfl rfl rfl rfl rfl rfl rfl rfl rfl rfl rfl rfl rfl rfl rfl rfl rfl ⟨rfl, rfl, rfl, rfl⟩ rfl ⟨_, _, ⟨rfl, rfl, rfl, rfl⟩, ⟨⟨_, _, _, _, _, _, _, _, _, rfl, rfl, rfl⟩, rfl⟩⟩ ⟨rfl, rfl, rfl, rfl⟩ rfl ⟨_, _, ⟨rfl, rfl, rfl, rfl⟩, ⟨⟨_, _, _, _, _, _, _, _, _, rfl, rfl, rfl⟩, rfl⟩⟩ ⟨rfl, rfl, rfl, rfl⟩ rfl ⟨_, _, ⟨rfl, rfl, rfl, rfl⟩, ⟨⟨_, _, _, _, _, _, _, _, _, rfl, rfl, rfl⟩, rfl⟩⟩ ⟨rfl, rfl, rfl, rfl⟩ rfl ⟨_, _, ⟨rfl, rfl, rfl, rfl⟩, ⟨⟨_, _, _, _, _, _, _, _, _, rfl, rfl, rfl⟩, rfl⟩⟩ ⟨rfl, rfl, rfl, rfl⟩ rfl ⟨_, _, ⟨rfl, rfl, rfl, rfl⟩, ⟨⟨_, _, _, _, _, _, _, _, _, rfl, rfl, rfl⟩, rfl⟩⟩ ⟨rfl, rfl, rfl, rfl⟩ rfl ⟨_, _, ⟨rfl, rfl, rfl, rfl⟩, ⟨⟨_, _, _, _, _, _, _, _, _, rfl, rfl, rfl⟩, rfl⟩⟩ ⟨_, _, ⟨rfl, rfl, rfl⟩, ⟨⟨_, _, _, _, _, _, _, _, _, rfl, rfl, rfl⟩, rfl⟩⟩ ⟨_, rfl⟩ ⟨_, rfl⟩ ⟨_, rfl⟩ rfl rfl rfl rfl rfl ⟨_, rfl, (.cons ⟨rfl, rfl⟩ (.cons ⟨rfl, rfl⟩ (.cons ⟨rfl, rfl⟩ (.cons ⟨rfl, rfl⟩ (.cons ⟨rfl, rfl⟩ (.cons ⟨rfl, rfl⟩ (.cons ⟨rfl, rfl⟩ (.cons ⟨rfl, rfl⟩ (.cons ⟨rfl, rfl⟩ (.cons ⟨rfl, rfl⟩ (.cons ⟨rfl, rfl⟩ (.cons ⟨rfl, rfl⟩ (.cons ⟨rfl, rfl⟩ (.cons ⟨rfl, rfl⟩ (.cons ⟨rfl, rfl⟩ (.cons ⟨rfl, rfl⟩ (.cons ⟨rfl, rfl⟩ (.cons ⟨rfl, rfl⟩ (.cons ⟨rfl, rfl⟩ (.cons ⟨rfl, rfl⟩ .nil))))))))))))))))))))⟩ ⟨_, rfl, (.cons ⟨rfl, rfl⟩ (.cons ⟨rfl, rfl⟩ (.cons ⟨rfl, rfl⟩ .nil)))⟩ rfl rfl rfl rfl rfl rfl rfl ⟨_, rfl⟩ ⟨_, rfl⟩ rfl (RV.fT rfl rfl rfl rfl) (RV.fT rfl rfl rfl rfl) (RV.fT rfl rfl rfl rfl) (RV.fT rfl rfl rfl rfl) ⟨_, _, rfl, ⟨⟨_, _, _, _, _, _, _, _, rfl, rfl, rfl⟩, rfl⟩⟩ (RV.fT rfl rfl rfl rfl) (RV.fT rfl rfl rfl rfl) (RV.fT rfl rfl rfl rfl) (RV.fT rfl rfl rfl rfl) (RV.fT rfl rfl rfl rfl) (RV.fT rfl rfl rfl rfl) (RV.fT rfl rfl rfl rfl) (RV.fT rfl rfl rfl rfl) (RV.fT rfl rfl rfl rfl) (RV.fT rfl rfl rfl rfl) (RV.fT rfl rfl rfl rfl) (RV.fT rfl rfl rfl rfl) (RV.fT rfl rfl rfl rfl) (RV.fT rfl rfl rfl rfl) (RV.fT rfl rfl rfl rfl) (RV.fT rfl rfl rfl rfl) ⟨_, _, rfl, ⟨⟨_, _, _, _, _, _, _, _, rfl, rfl, rfl⟩, rfl⟩⟩ (RV.fT rfl rfl rfl rfl) (RV.fT rfl rfl rfl rfl) (RV.fT rfl rfl rfl rfl) (RV.fT rfl rfl rfl rfl) (RV.fT rfl rfl rfl rfl) (RV.fT rfl rfl rfl rfl) (RV.fT rfl rfl rfl rfl) (RV.fT rfl rfl rfl rfl) (RV.fT rfl rfl rfl rfl) (RV.fT rfl rfl rfl rfl) (RV.fT rfl rfl rfl rfl) (RV.fT rfl rfl rfl rfl) (RV.fT rfl rfl rfl rfl) (RV.fH rfl rfl rfl) (RV.fH rfl rfl rfl) (RV.fH rfl rfl rfl) (RV.fH rfl rfl rfl) (RV.fH rfl rfl rfl) (RV.fH rfl rfl rfl) (RV.fH rfl rfl rfl) (RV.fH rfl rfl rfl) (RV.fH rfl rfl rfl) (RV.fH rfl rfl rfl) (RV.fH rfl rfl rfl) (RV.fH rfl rfl rfl) (RV.fH rfl rfl rfl) (RV.fH rfl rfl rfl) (RV.fH rfl rfl rfl) (RV.fH rfl rfl rfl) (RV.fH rfl rfl rfl) (RV.fH rfl rfl rfl) (RV.fH rfl rfl rfl) (RV.fH rfl rfl rfl)⟩
