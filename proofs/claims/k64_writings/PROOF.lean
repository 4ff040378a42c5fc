import PyProof.Rows.All
import Wide.All
import OpenK.AllK
import Wide.FinOn
import HandS.ForMost
import KE.IntTextText
import HandS.More
import HandS.TupAny
import HandS.IsInst
import HandS.Walk
import HandS.Flow
import HandS.ForExc
import HandS.Text
import HandS.FStr
import HandS.Lambda
import HandS.ReplaceLit
import HandS.ReplaceList
import HandS.Style
import HandS.RevRange
import HandS.ExcIs
import HandS.ExcValue
import HandS.SetFor
import HandS.EndTab
import PyProof.P3Eq
import PyProof.EqLayable
import HandS.Ends
import HandS.Words
import KE.KNest
import PySem.Challenge.RW_livehall_k64_writings
set_option Elab.async false
set_option linter.all false
set_option maxRecDepth 100000
set_option maxHeartbeats 4000000
/-! writings as lists of signs; the reader as a machine -/
namespace K4
open PySem L2 TL
def dig (c : Nat) : Bool := decide (48 ≤ c) && decide (c ≤ 57)
theorem dig_iff {c : Nat} : dig c = true ↔ 48 ≤ c ∧ c ≤ 57 := by unfold dig; simp
/-- the signs of a whole number -/
def iL (i : Int) : List Nat := if i < 0 then 45 :: numL i.natAbs else numL i.natAbs
def esc1 (c : Nat) : List Nat := if c = 92 ∨ c = 39 then [92, c] else [c]
def esc (l : List Nat) : List Nat := l.flatMap esc1
mutual
def wr : PyData → List Nat
  | .none => [78]
  | .bool b => [if b then 84 else 70]
  | .int i => iL i
  | .str x => 39 :: (esc x.cps.toList ++ [39])
  | .tuple [] => [40, 41]
  | .tuple (d :: ds) => 40 :: (wr d ++ wrs1 ds ++ [41])
  | .list _ => []
  | .dict _ => []
def wrs1 : List PyData → List Nat
  | [] => []
  | d :: ds => 32 :: (wr d ++ wrs1 ds)
end
def short (l : List Nat) : Bool := decide (l.length ≤ 40) && l.all fun c => decide (32 ≤ c) && decide (c ≤ 126)
mutual
def wf : PyData → Bool
  | .none => true
  | .bool _ => true
  | .int _ => true
  | .str x => short x.cps.toList
  | .tuple ds => wfs ds
  | .list _ => false
  | .dict _ => false
def wfs : List PyData → Bool
  | [] => true
  | d :: ds => wf d && wfs ds
end
theorem wfs_append : ∀ (a b : List PyData), wfs (a ++ b) = (wfs a && wfs b)
  | [], b => by simp [wfs]
  | d :: a, b => by simp only [List.cons_append, wfs, wfs_append a b, Bool.and_assoc]
theorem esc_append (a b : List Nat) : esc (a ++ b) = esc a ++ esc b := by unfold esc; rw [List.flatMap_append]
theorem esc_cons (c : Nat) (l : List Nat) : esc (c :: l) = esc1 c ++ esc l := rfl
/-- the items that stand already, each with a blank behind it -/
def items (l : List PyData) : List Nat := l.flatMap fun d => wr d ++ [32]
theorem items_append (a b : List PyData) : items (a ++ b) = items a ++ items b := by unfold items; rw [List.flatMap_append]
theorem wrs1_snoc : ∀ (a : List PyData) (d : PyData), wrs1 (a ++ [d]) = wrs1 a ++ 32 :: wr d
  | [], d => by simp [wrs1]
  | x :: a, d => by simp only [List.cons_append, wrs1, wrs1_snoc a d, List.append_assoc, List.cons_append]
theorem items_wr : ∀ (a : List PyData) (x : PyData), wr x ++ wrs1 a ++ [32] = items (x :: a)
  | [], x => by simp [wrs1, items]
  | y :: a, x => by
    have ih := items_wr a y
    show wr x ++ 32 :: (wr y ++ wrs1 a) ++ [32] = (wr x ++ [32]) ++ items (y :: a)
    rw [← ih]
    simp
theorem wr_snoc (l : List PyData) (d : PyData) : wr (.tuple (l ++ [d])) = 40 :: (items l ++ wr d ++ [41]) := by
  cases l with
  | nil => simp [wr, wrs1, items]
  | cons x l =>
    show 40 :: (wr x ++ wrs1 (l ++ [d]) ++ [41]) = _
    rw [wrs1_snoc, ← items_wr l x]
    simp
/-! ### the reader -/
def qd : List Nat → List Nat → Option (List Nat × List Nat)
  | _, [] => none
  | a, [c] => if c = 39 then some (a, []) else none
  | a, c :: e :: z => if c = 39 then some (a, e :: z) else if c = 92 then (if e = 92 ∨ e = 39 then qd (a ++ [e]) z else none) else qd (a ++ [c]) (e :: z)
def numP (z : List Nat) : Option (PyData × List Nat) :=
  let neg : Bool := decide (z.head? = some 45)
  let z1 := if neg = true then z.tail else z
  let f := z1.takeWhile dig
  if f = [] ∨ (f.head? = some 48 ∧ (neg = true ∨ f ≠ [48])) then none
  else some (.int (if neg = true then -((NumText.digitsVal f : Nat) : Int) else ((NumText.digitsVal f : Nat) : Int)), z1.dropWhile dig)
def leafP : List Nat → Option (PyData × List Nat)
  | [] => none
  | c :: r => if c = 39 then (match qd [] r with
      | none => none
      | some p => if short p.1 = true then some (.str ⟨p.1.toArray⟩, p.2) else none)
    else if c = 40 ∧ r.head? = some 41 then some (.tuple [], r.tail)
    else if c = 84 then some (.bool true, r)
    else if c = 70 then some (.bool false, r)
    else if c = 78 then some (.none, r)
    else if c = 45 ∨ dig c = true then numP (c :: r)
    else none
inductive Out where
  | more (st : List (List PyData)) (z : List Nat)
  | fin (d : PyData) (z : List Nat)
def closeP : List (List PyData) → PyData → List Nat → Option Out
  | [], d, z => some (.fin d z)
  | _ :: _, _, [] => none
  | l :: st, d, c :: z => if c = 32 then some (.more ((l ++ [d]) :: st) z) else if c = 41 then closeP st (.tuple (l ++ [d])) z else none
def push : List (List PyData) → List Nat → List (List PyData) × List Nat
  | st, [] => (st, [])
  | st, c :: z => if c = 40 ∧ z.head? ≠ some 41 then push ([] :: st) z else (st, c :: z)
mutual
def mach : Nat → List (List PyData) → List Nat → Option PyData
  | 0, _, _ => none
  | n + 1, st, z => match leafP (push st z).2 with
    | none => none
    | some p => cont n (push st z).1 p.1 p.2
def cont : Nat → List (List PyData) → PyData → List Nat → Option PyData
  | n, st, d, z => match closeP st d z with
    | none => none
    | some (.more st' z') => mach n st' z'
    | some (.fin d z') => if z' = [] then some d else none
end
def rd (T : List Nat) : Option PyData := mach (T.length + 1) [] T
end K4

set_option maxRecDepth 100000
set_option maxHeartbeats 4000000
namespace K4
open PySem L2 TL
theorem esc1_first (c : Nat) : ∃ e r, esc1 c = e :: r ∧ e ≠ 39 := by
  unfold esc1
  split
  · exact ⟨92, [c], rfl, by decide⟩
  · rename_i h
    exact ⟨c, [], rfl, fun e => h (.inr e)⟩
/-! ### what was read is the writing -/
theorem qd2 (a : List Nat) (c e : Nat) (z : List Nat) : qd a (c :: e :: z) = if c = 39 then some (a, e :: z) else if c = 92 then (if e = 92 ∨ e = 39 then qd (a ++ [e]) z else none) else qd (a ++ [c]) (e :: z) := by rw [qd]
theorem qd_sound : ∀ (z a l r : List Nat), qd a z = some (l, r) → ∃ t, l = a ++ t ∧ z = esc t ++ 39 :: r
  | [], a, l, r, h => by simp [qd] at h
  | [c], a, l, r, h => by
    rw [qd] at h
    by_cases hc : c = 39
    · rw [if_pos hc] at h
      cases h
      exact ⟨[], by simp, by rw [hc]; rfl⟩
    · rw [if_neg hc] at h; cases h
  | c :: e :: z, a, l, r, h => by
    rw [qd2] at h
    by_cases h1 : c = 39
    · rw [if_pos h1] at h
      cases h
      exact ⟨[], by simp, by rw [h1]; rfl⟩
    · rw [if_neg h1] at h
      by_cases h2 : c = 92
      · rw [if_pos h2] at h
        by_cases he : e = 92 ∨ e = 39
        · rw [if_pos he] at h
          obtain ⟨t, e1, e2⟩ := qd_sound z _ l r h
          refine ⟨e :: t, by rw [e1]; simp, ?_⟩
          rw [esc_cons, e2, h2]
          unfold esc1
          rw [if_pos he]
          rfl
        · rw [if_neg he] at h; cases h
      · rw [if_neg h2] at h
        obtain ⟨t, e1, e2⟩ := qd_sound (e :: z) _ l r h
        refine ⟨c :: t, by rw [e1]; simp, ?_⟩
        rw [esc_cons, e2]
        unfold esc1
        rw [if_neg (by omega)]
        rfl
  termination_by z => z.length
theorem qd_comp : ∀ (t a r : List Nat), qd a (esc t ++ 39 :: r) = some (a ++ t, r)
  | [], a, r => by
    show qd a (39 :: r) = _
    cases r with
    | nil => simp [qd]
    | cons e z => simp [qd]
  | c :: t, a, r => by
    rw [esc_cons]
    have ih := qd_comp t (a ++ [c]) r
    unfold esc1
    by_cases h : c = 92 ∨ c = 39
    · rw [if_pos h]
      show qd a (92 :: c :: (esc t ++ 39 :: r)) = _
      rw [qd2, if_neg (by decide), if_pos rfl, if_pos h, ih]
      simp
    · rw [if_neg h]
      show qd a (c :: (esc t ++ 39 :: r)) = _
      cases q : esc t ++ 39 :: r with
      | nil => simp at q
      | cons e z =>
        rw [qd2, if_neg (fun e => h (.inr e)), if_neg (fun e => h (.inl e)), ← q, ih]
        simp
theorem all_dig {l : List Nat} (h : ∀ c ∈ l, dig c = true) : NumText.AllDigits l := fun c hc => dig_iff.mp (h c hc)
theorem take_dig (l : List Nat) : ∀ c ∈ l.takeWhile dig, dig c = true := fun c hc => List.all_eq_true.mp List.all_takeWhile c hc
/-- figures without noughts ahead are the signs of their number -/
theorem num_back {f : List Nat} (hd : ∀ c ∈ f, dig c = true) (hne : f ≠ []) (h0 : f.head? = some 48 → f = [48]) : numL (NumText.digitsVal f) = f := by
  have key : Nat.toDigits 10 (NumText.digitsVal f) = f.map Char.ofNat := by
    cases f with
    | nil => exact absurd rfl hne
    | cons c r =>
      refine NumText.toDigits_digitsVal r.length (c :: r) rfl (all_dig hd) ?_
      by_cases hc : c = 48
      · left
        have := h0 (by rw [hc]; rfl)
        rw [(List.cons.inj this).2]; rfl
      · right
        have := dig_iff.mp (hd c List.mem_cons_self)
        exact ⟨c, r, rfl, by omega⟩
  unfold numL
  rw [key, List.map_map]
  have : ∀ c ∈ f, (Char.toNat ∘ Char.ofNat) c = c := fun c hc => by
    have := dig_iff.mp (hd c hc)
    have hv : c.isValidChar := Or.inl (by omega)
    show (Char.ofNat c).toNat = c
    rw [Char.ofNat, dif_pos hv]
    rfl
  calc f.map (Char.toNat ∘ Char.ofNat) = f.map id := List.map_congr_left this
    _ = f := List.map_id f
def numB (neg : Bool) (z1 : List Nat) : Option (PyData × List Nat) :=
  if z1.takeWhile dig = [] ∨ ((z1.takeWhile dig).head? = some 48 ∧ (neg = true ∨ z1.takeWhile dig ≠ [48])) then none
  else some (.int (if neg = true then -((NumText.digitsVal (z1.takeWhile dig) : Nat) : Int) else ((NumText.digitsVal (z1.takeWhile dig) : Nat) : Int)), z1.dropWhile dig)
theorem numP_neg (y : List Nat) : numP (45 :: y) = numB true y := rfl
theorem numP_pos {z : List Nat} (h : z.head? ≠ some 45) : numP z = numB false z := by
  unfold numP
  rw [decide_eq_false h]
  rfl
theorem numP_sound {z : List Nat} {d : PyData} {r : List Nat} (h : numP z = some (d, r)) : z = wr d ++ r ∧ wf d = true := by
  by_cases hg : z.head? = some 45
  · obtain ⟨y, rfl⟩ : ∃ y, z = 45 :: y := by
      cases z with
      | nil => cases hg
      | cons c y => cases hg; exact ⟨y, rfl⟩
    rw [numP_neg] at h
    unfold numB at h
    by_cases hn : y.takeWhile dig = [] ∨ ((y.takeWhile dig).head? = some 48 ∧ (true = true ∨ y.takeWhile dig ≠ [48]))
    · rw [if_pos hn] at h; cases h
    · rw [if_neg hn, if_pos rfl] at h
      rw [not_or] at hn
      obtain ⟨h1, h2⟩ := hn
      injection h with h
      injection h with h3 h4
      subst h3 h4
      refine ⟨?_, rfl⟩
      have back := num_back (take_dig y) h1 (fun e => absurd ⟨e, .inl rfl⟩ h2)
      have pos : (NumText.digitsVal (y.takeWhile dig)) ≠ 0 := fun e => by
        rw [e, numL_lt (by decide)] at back
        exact h2 ⟨by rw [← back]; rfl, .inl rfl⟩
      show 45 :: y = iL _ ++ _
      unfold iL
      rw [if_pos (by omega), show (-((NumText.digitsVal (y.takeWhile dig) : Nat) : Int)).natAbs = NumText.digitsVal (y.takeWhile dig) by omega, back, List.cons_append, List.takeWhile_append_dropWhile]
  · rw [numP_pos hg] at h
    unfold numB at h
    by_cases hn : z.takeWhile dig = [] ∨ ((z.takeWhile dig).head? = some 48 ∧ (false = true ∨ z.takeWhile dig ≠ [48]))
    · rw [if_pos hn] at h; cases h
    · rw [if_neg hn, if_neg (by decide)] at h
      rw [not_or] at hn
      obtain ⟨h1, h2⟩ := hn
      injection h with h
      injection h with h3 h4
      subst h3 h4
      refine ⟨?_, rfl⟩
      have back := num_back (take_dig z) h1 (fun e => Classical.byContradiction fun q => h2 ⟨e, .inr q⟩)
      show z = iL _ ++ _
      unfold iL
      rw [if_neg (by omega), show (((NumText.digitsVal (z.takeWhile dig) : Nat) : Int)).natAbs = NumText.digitsVal (z.takeWhile dig) by omega, back, List.takeWhile_append_dropWhile]
theorem leafP_sound {z : List Nat} {d : PyData} {r : List Nat} (h : leafP z = some (d, r)) : z = wr d ++ r ∧ wf d = true := by
  cases z with
  | nil => cases h
  | cons c y =>
    simp only [leafP] at h
    split at h
    · rename_i hc
      split at h
      · cases h
      · rename_i p hp
        split at h
        · rename_i hs
          cases h
          obtain ⟨t, e1, e2⟩ := qd_sound y [] p.1 p.2 hp
          rw [List.nil_append] at e1
          refine ⟨?_, by simpa [wf] using hs⟩
          rw [hc, e2, ← e1]
          simp [wr]
        · cases h
    · split at h
      · rename_i hc
        cases h
        obtain ⟨h1, h2⟩ := hc
        cases y with
        | nil => cases h2
        | cons e y => cases h2; rw [h1]; exact ⟨rfl, rfl⟩
      · split at h
        · rename_i hc; cases h; rw [hc]; exact ⟨rfl, rfl⟩
        · split at h
          · rename_i hc; cases h; rw [hc]; exact ⟨rfl, rfl⟩
          · split at h
            · rename_i hc; cases h; rw [hc]; exact ⟨rfl, rfl⟩
            · split at h
              · exact numP_sound h
              · cases h
def pre : List (List PyData) → List Nat
  | [] => []
  | l :: st => pre st ++ 40 :: items l
def wfst (st : List (List PyData)) : Prop := ∀ l ∈ st, wfs l = true
theorem push_pre : ∀ (z : List Nat) (st : List (List PyData)), wfst st → pre (push st z).1 ++ (push st z).2 = pre st ++ z ∧ wfst (push st z).1
  | [], st, h => ⟨rfl, h⟩
  | c :: z, st, h => by
    simp only [push]
    split
    · rename_i hc
      have := push_pre z ([] :: st) fun l hl => by
        rcases List.mem_cons.mp hl with e | hl
        · rw [e]; rfl
        · exact h l hl
      rw [this.1]
      refine ⟨?_, this.2⟩
      show pre st ++ 40 :: items [] ++ z = _
      rw [hc.1]
      simp [items]
    · exact ⟨rfl, h⟩
def outT : Out → List Nat
  | .more st z => pre st ++ z
  | .fin d z => wr d ++ z
def outW : Out → Prop
  | .more st _ => wfst st
  | .fin d _ => wf d = true
theorem close_pre : ∀ (st : List (List PyData)) (d : PyData) (z : List Nat) (o : Out), wfst st → wf d = true → closeP st d z = some o → outT o = pre st ++ wr d ++ z ∧ outW o
  | [], d, z, o, hs, hd, h => by cases h; exact ⟨rfl, hd⟩
  | l :: st, d, [], o, hs, hd, h => by simp [closeP] at h
  | l :: st, d, c :: z, o, hs, hd, h => by
    have hl : wfs (l ++ [d]) = true := by
      rw [wfs_append, hs l List.mem_cons_self]
      simp [wfs, hd]
    have hs' : wfst st := fun x hx => hs x (List.mem_cons_of_mem _ hx)
    simp only [closeP] at h
    split at h
    · rename_i hc
      cases h
      constructor
      · show pre st ++ 40 :: items (l ++ [d]) ++ z = pre st ++ 40 :: items l ++ wr d ++ c :: z
        rw [items_append, hc]
        simp [items]
      · intro x hx
        rcases List.mem_cons.mp hx with e | hx
        · rw [e]; exact hl
        · exact hs' x hx
    · split at h
      · rename_i hc
        have := close_pre st (.tuple (l ++ [d])) z o hs' hl h
        rw [this.1]
        refine ⟨?_, this.2⟩
        rw [wr_snoc, hc]
        simp [pre]
      · cases h
theorem mach_sound : ∀ (n : Nat) (st : List (List PyData)) (z : List Nat) (v : PyData), wfst st → mach n st z = some v → wr v = pre st ++ z ∧ wf v = true
  | 0, st, z, v, _, h => by simp [mach] at h
  | n + 1, st, z, v, hs, h => by
    simp only [mach] at h
    have hp := push_pre z st hs
    cases hl : leafP (push st z).2 with
    | none => rw [hl] at h; cases h
    | some p =>
      rw [hl] at h
      simp only [cont] at h
      obtain ⟨l1, l2⟩ := leafP_sound hl
      cases hc : closeP (push st z).1 p.1 p.2 with
      | none => rw [hc] at h; cases h
      | some o =>
        rw [hc] at h
        obtain ⟨c1, c2⟩ := close_pre _ _ _ o hp.2 l2 hc
        have e0 : outT o = pre st ++ z := by rw [c1, List.append_assoc, ← l1, hp.1]
        cases o with
        | more st' z' =>
          have := mach_sound n st' z' v c2 h
          exact ⟨this.1.trans e0, this.2⟩
        | fin d z' =>
          simp only at h
          split at h
          · rename_i hz
            injection h with h
            subst h
            refine ⟨?_, c2⟩
            rw [← e0]
            show _ = wr d ++ z'
            rw [hz, List.append_nil]
          · cases h
theorem rd_sound {T : List Nat} {v : PyData} (h : rd T = some v) : wr v = T ∧ wf v = true := by
  have := mach_sound _ [] T v (fun _ h => nomatch h) h
  exact ⟨this.1, this.2⟩
end K4

set_option maxRecDepth 100000
set_option maxHeartbeats 4000000
namespace K4
open PySem L2 TL
/-! ### each writing is read -/
/-- what may stand behind a part -/
def Beh (z : List Nat) : Prop := z = [] ∨ (∃ r, z = 32 :: r) ∨ ∃ r, z = 41 :: r
theorem Beh.dig {z : List Nat} (h : Beh z) : z.takeWhile dig = [] ∧ z.dropWhile dig = z := by
  rcases h with rfl | ⟨r, rfl⟩ | ⟨r, rfl⟩ <;> exact ⟨rfl, rfl⟩
theorem numL_dig (n : Nat) : ∀ c ∈ numL n, dig c = true := fun c hc => dig_iff.mpr (numL_digits n c hc)
theorem take_num (n : Nat) {z : List Nat} (h : Beh z) : (numL n ++ z).takeWhile dig = numL n ∧ (numL n ++ z).dropWhile dig = z := by
  have a := List.takeWhile_append_of_pos (l₂ := z) (numL_dig n)
  have b := List.dropWhile_append_of_pos (l₂ := z) (numL_dig n)
  rw [a, b, h.dig.1, h.dig.2, List.append_nil]
  exact ⟨rfl, rfl⟩
theorem numL_head (n : Nat) (h : (numL n).head? = some 48) : n = 0 := by
  have e := NumText.toDigits_all (numL n) (numL_digits n)
  rw [numL_val] at e
  by_cases h0 : n = 0
  · exact h0
  · exfalso
    have hp : 0 < n := by omega
    have v := numL_val n
    cases q : numL n with
    | nil => exact numL_ne n q
    | cons c r =>
      rw [q] at h
      cases h
      -- 48 :: r and r tell the same number
      have v' : NumText.digitsVal r = n := by rw [← NumText.digitsVal_zero, ← q]; exact v
      have rd : ∀ c ∈ r, dig c = true := fun c hc => numL_dig n c (by rw [q]; exact List.mem_cons_of_mem _ hc)
      have len : r.length + 1 = (numL n).length := by rw [q]; rfl
      have k : 10 ^ r.length ≤ n := by
        by_cases hlt : n < 10 ^ r.length
        · exfalso
          cases r with
          | nil => have : NumText.digitsVal [] = 0 := rfl; omega
          | cons c2 r2 =>
            have := numL_len (k := (c2 :: r2).length) (by simp) hlt
            omega
        · omega
      have up : NumText.digitsVal r < 10 ^ r.length := by
        clear e v q len k v'
        suffices ∀ (l : List Nat) (a : Nat), (∀ c ∈ l, dig c = true) → l.foldl (fun acc c => acc * 10 + (c - 48)) a < (a + 1) * 10 ^ l.length by
          have := this r 0 rd
          show r.foldl _ 0 < _
          omega
        intro l
        induction l with
        | nil => intro a _; simp
        | cons c l ih =>
          intro a hc
          have h1 := ih (a * 10 + (c - 48)) fun x hx => hc x (List.mem_cons_of_mem _ hx)
          have h2 := dig_iff.mp (hc c List.mem_cons_self)
          refine Nat.lt_of_lt_of_le h1 ?_
          rw [List.length_cons, Nat.pow_succ, Nat.mul_comm (10 ^ l.length) 10, ← Nat.mul_assoc]
          exact Nat.mul_le_mul_right _ (by omega)
      omega
theorem numP_comp (i : Int) {z : List Nat} (h : Beh z) : numP (iL i ++ z) = some (.int i, z) := by
  unfold iL
  obtain ⟨t1, t2⟩ := take_num i.natAbs h
  by_cases hi : i < 0
  · rw [if_pos hi, List.cons_append, numP_neg]
    unfold numB
    rw [t1, t2, if_neg, if_pos rfl, numL_val]
    · rw [show -((i.natAbs : Nat) : Int) = i by omega]
    · rintro (q | ⟨q, _⟩)
      · exact numL_ne _ q
      · have := numL_head _ q
        omega
  · have hh : (numL i.natAbs ++ z).head? ≠ some 45 := fun e => by
      cases q : numL i.natAbs with
      | nil => exact numL_ne _ q
      | cons c r =>
        rw [q] at e
        have : dig c = true := numL_dig i.natAbs c (by rw [q]; exact List.mem_cons_self)
        cases e
        revert this
        decide
    rw [if_neg hi, numP_pos hh]
    unfold numB
    rw [t1, t2, if_neg, if_neg (by decide), numL_val]
    · rw [show ((i.natAbs : Nat) : Int) = i by omega]
    · rintro (q | ⟨q, q2⟩)
      · exact numL_ne _ q
      · have := numL_head _ q
        rw [this] at q2
        rcases q2 with q2 | q2
        · cases q2
        · exact q2 (numL_lt (by decide))
/-- not a tuple with parts -/
def leafy : PyData → Bool
  | .tuple (_ :: _) => false
  | _ => true
theorem iL_first (i : Int) : ∃ c r, iL i = c :: r ∧ (c = 45 ∨ dig c = true) := by
  unfold iL
  split
  · exact ⟨45, _, rfl, .inl rfl⟩
  · cases q : numL i.natAbs with
    | nil => exact absurd q (numL_ne _)
    | cons c r => exact ⟨c, r, rfl, .inr (numL_dig i.natAbs c (by rw [q]; exact List.mem_cons_self))⟩
theorem leafP_int {c : Nat} {r : List Nat} (h : c = 45 ∨ dig c = true) : leafP (c :: r) = numP (c :: r) := by
  have hc : c = 45 ∨ (48 ≤ c ∧ c ≤ 57) := h.imp id dig_iff.mp
  simp only [leafP]
  rw [if_neg (by omega), if_neg (by omega), if_neg (by omega), if_neg (by omega), if_neg (by omega), if_pos h]
theorem leafP_comp : ∀ (d : PyData) (z : List Nat), wf d = true → leafy d = true → Beh z → leafP (wr d ++ z) = some (d, z)
  | .none, z, _, _, _ => rfl
  | .bool true, z, _, _, _ => rfl
  | .bool false, z, _, _, _ => rfl
  | .int i, z, _, _, h => by
    obtain ⟨c, r, e, hc⟩ := iL_first i
    show leafP (iL i ++ z) = _
    rw [← numP_comp i h, e]
    exact leafP_int hc
  | .str x, z, hw, _, _ => by
    show leafP (39 :: (esc x.cps.toList ++ [39] ++ z)) = _
    simp only [leafP]
    rw [if_pos trivial, List.append_assoc]
    show (match qd [] (esc x.cps.toList ++ 39 :: z) with | none => none | some p => _) = _
    rw [qd_comp]
    simp only [List.nil_append]
    rw [if_pos (by simpa [wf] using hw)]
  | .tuple [], z, _, _, _ => rfl
  | .tuple (_ :: _), z, _, h, _ => by cases h
  | .list _, z, h, _, _ => by cases h
  | .dict _, z, h, _, _ => by cases h
theorem wr_first : ∀ (d : PyData), wf d = true → ∃ c r, wr d = c :: r ∧ c ≠ 41 ∧ (leafy d = true → c = 40 → r.head? = some 41)
  | .none, _ => ⟨_, _, rfl, by decide, fun _ h => by cases h⟩
  | .bool true, _ => ⟨_, _, rfl, by decide, fun _ h => by cases h⟩
  | .bool false, _ => ⟨_, _, rfl, by decide, fun _ h => by cases h⟩
  | .int i, _ => by
    obtain ⟨c, r, e, hc⟩ := iL_first i
    have hc : c = 45 ∨ (48 ≤ c ∧ c ≤ 57) := hc.imp id dig_iff.mp
    exact ⟨c, r, e, by omega, fun _ h => by omega⟩
  | .str x, _ => ⟨_, _, rfl, by decide, fun _ h => by cases h⟩
  | .tuple [], _ => ⟨_, _, rfl, by decide, fun _ _ => rfl⟩
  | .tuple (_ :: _), _ => ⟨_, _, rfl, by decide, fun h => by cases h⟩
  | .list _, h => by cases h
  | .dict _, h => by cases h
mutual
def leaves : PyData → Nat
  | .tuple (d :: ds) => leaves d + leavess ds
  | _ => 1
def leavess : List PyData → Nat
  | [] => 0
  | d :: ds => leaves d + leavess ds
end
theorem push_leaf {d : PyData} {z : List Nat} (st : List (List PyData)) (hw : wf d = true) (hl : leafy d = true) : push st (wr d ++ z) = (st, wr d ++ z) := by
  obtain ⟨c, r, e, h1, h2⟩ := wr_first d hw
  rw [e]
  show push st (c :: (r ++ z)) = _
  rw [push, if_neg]
  · rfl
  · rintro ⟨q1, q2⟩
    have := h2 hl q1
    cases r with
    | nil => cases this
    | cons x r => exact q2 this
theorem mach_push {n : Nat} {st : List (List PyData)} {c : Nat} {r : List Nat} (h : c ≠ 41) : mach n st (40 :: c :: r) = mach n ([] :: st) (c :: r) := by
  cases n with
  | zero => simp [mach]
  | succ n =>
    have e : push st (40 :: c :: r) = push ([] :: st) (c :: r) := by
      rw [push, if_pos ⟨rfl, by simpa using h⟩]
    simp only [mach, e]
theorem mach_leaf {n : Nat} {d : PyData} {z : List Nat} {st : List (List PyData)} (hw : wf d = true) (hl : leafy d = true) (hz : Beh z) : mach (n + 1) st (wr d ++ z) = cont n st d z := by
  simp only [mach, push_leaf st hw hl]
  rw [leafP_comp d z hw hl hz]
mutual
theorem mach_comp : ∀ (d : PyData) (n : Nat) (st : List (List PyData)) (z : List Nat), wf d = true → Beh z → mach (n + leaves d) st (wr d ++ z) = cont n st d z
  | .tuple (x :: xs), n, st, z, hw, hz => by
    have hx : wf x = true ∧ wfs xs = true := by simpa [wf, wfs] using hw
    obtain ⟨c, r, e, h1, _⟩ := wr_first x hx.1
    have e1 : wr (.tuple (x :: xs)) ++ z = 40 :: (wr x ++ (wrs1 xs ++ 41 :: z)) := by simp [wr]
    have e2 : mach (n + leaves (.tuple (x :: xs))) st (40 :: (wr x ++ (wrs1 xs ++ 41 :: z))) = mach (n + leavess xs + leaves x) ([] :: st) (wr x ++ (wrs1 xs ++ 41 :: z)) := by
      rw [e, show n + leaves (.tuple (x :: xs)) = n + leavess xs + leaves x by simp only [leaves]; omega]
      exact mach_push h1
    have hb : Beh (wrs1 xs ++ 41 :: z) := by
      cases xs with
      | nil => exact .inr (.inr ⟨z, rfl⟩)
      | cons y ys => exact .inr (.inl ⟨_, rfl⟩)
    rw [e1, e2, mach_comp x _ _ _ hx.1 hb]
    exact cont_comp xs n [] x st z hx.2
  | .none, n, st, z, hw, hz => mach_leaf hw rfl hz
  | .bool _, n, st, z, hw, hz => mach_leaf hw rfl hz
  | .int _, n, st, z, hw, hz => mach_leaf hw rfl hz
  | .str _, n, st, z, hw, hz => mach_leaf hw rfl hz
  | .tuple [], n, st, z, hw, hz => mach_leaf hw rfl hz
  | .list _, n, st, z, hw, hz => by cases hw
  | .dict _, n, st, z, hw, hz => by cases hw
theorem cont_comp : ∀ (xs : List PyData) (n : Nat) (l : List PyData) (x : PyData) (st : List (List PyData)) (z : List Nat), wfs xs = true → cont (n + leavess xs) (l :: st) x (wrs1 xs ++ 41 :: z) = cont n st (.tuple (l ++ x :: xs)) z
  | [], n, l, x, st, z, _ => by
    simp only [cont, wrs1, leavess, List.nil_append, closeP, Nat.add_zero]
    rw [if_neg (by decide)]
    simp only [if_true]
  | y :: ys, n, l, x, st, z, hw => by
    have hy : wf y = true ∧ wfs ys = true := by simpa [wfs] using hw
    have e : wrs1 (y :: ys) ++ 41 :: z = 32 :: (wr y ++ (wrs1 ys ++ 41 :: z)) := by simp [wrs1]
    have hb : Beh (wrs1 ys ++ 41 :: z) := by
      cases ys with
      | nil => exact .inr (.inr ⟨z, rfl⟩)
      | cons y ys => exact .inr (.inl ⟨_, rfl⟩)
    have e2 : cont (n + leavess (y :: ys)) (l :: st) x (32 :: (wr y ++ (wrs1 ys ++ 41 :: z))) = mach (n + leavess ys + leaves y) ((l ++ [x]) :: st) (wr y ++ (wrs1 ys ++ 41 :: z)) := by
      rw [show n + leavess (y :: ys) = n + leavess ys + leaves y by simp only [leavess]; omega]
      simp only [cont, closeP, if_true]
    rw [e, e2, mach_comp y _ _ _ hy.1 hb, cont_comp ys n (l ++ [x]) y st z hy.2]
    simp
end
mutual
theorem leaves_len : ∀ d : PyData, wf d = true → leaves d ≤ (wr d).length
  | .tuple (x :: xs), hw => by
    have hx : wf x = true ∧ wfs xs = true := by simpa [wf, wfs] using hw
    have h1 := leaves_len x hx.1
    have h2 := leavess_len xs hx.2
    simp only [leaves, wr, List.length_cons, List.length_append, List.length_nil]
    omega
  | .none, _ => by simp [leaves, wr]
  | .bool _, _ => by simp [leaves, wr]
  | .int i, _ => by
    obtain ⟨c, r, e, _⟩ := iL_first i
    simp [leaves, wr, e]
  | .str _, _ => by simp [leaves, wr]
  | .tuple [], _ => by simp [leaves, wr]
  | .list _, h => by cases h
  | .dict _, h => by cases h
theorem leavess_len : ∀ ds : List PyData, wfs ds = true → leavess ds ≤ (wrs1 ds).length
  | [], _ => by simp [leavess, wrs1]
  | x :: xs, hw => by
    have hx : wf x = true ∧ wfs xs = true := by simpa [wfs] using hw
    have h1 := leaves_len x hx.1
    have h2 := leavess_len xs hx.2
    simp only [leavess, wrs1, List.length_cons, List.length_append]
    omega
end
theorem rd_comp {d : PyData} (h : wf d = true) : rd (wr d) = some d := by
  have hl := leaves_len d h
  have := mach_comp d ((wr d).length + 1 - leaves d) [] [] h (.inl rfl)
  unfold rd
  rw [show (wr d).length + 1 - leaves d + leaves d = (wr d).length + 1 by omega, List.append_nil] at this
  rw [this]
  simp only [cont, closeP, if_true]
end K4

set_option maxRecDepth 100000
set_option maxHeartbeats 4000000
/-! data that stand in the heap, displays of data -/
namespace B1
open PySem PySem.Spec PyProof.Rows L2
/-- all but the dicts is as it was -/
def Kept (H H' : Hp) : Prop := ∀ b o, H b = some o → (∀ kvs, o ≠ .dK kvs) → H' b = some o
theorem Kept.refl (H : Hp) : Kept H H := fun _ _ h _ => h
theorem Kept.trans {H H1 H2 : Hp} (a : Kept H H1) (b : Kept H1 H2) : Kept H H2 := fun c o h n => b c o (a c o h n) n
theorem Kept.of {H H' : Hp} (h : Same H H') : Kept H H' := fun c o e _ => h c o e
theorem Kept.sqL {K : PySem.W.Frag} {H H' : Hp} {a : Addr} {xs : List V} (e : Kept H H') (h : SqL K H a xs) : SqL K H' a xs := by
  rcases h with (h | ⟨o, h⟩) | h
  · exact .inl (.inl (e _ _ h fun _ q => nomatch q))
  · exact .inl (.inr ⟨o, e _ _ h fun _ q => nomatch q⟩)
  · exact .inr h
theorem Kept.sqT {K : PySem.W.Frag} {H H' : Hp} {a : Addr} {xs : List V} (e : Kept H H') (h : SqT K H a xs) : SqT K H' a xs := by
  rcases h with (h | ⟨o, h⟩) | h
  · exact .inl (.inl (e _ _ h fun _ q => nomatch q))
  · exact .inl (.inr ⟨o, e _ _ h fun _ q => nomatch q⟩)
  · exact .inr h
section
variable {K : PySem.W.Frag} {H H' : Hp}
mutual
theorem dp_kept (e : Kept H H') : ∀ (d : PyData) (v : V), Dp K H v d → Dp K H' v d
  | .none, _, h => by cases h; exact .non
  | .bool b, _, h => by cases h; exact .bl b
  | .int i, _, h => by cases h; exact .int i
  | .str x, _, h => by cases h; exact .str x
  | .list ds, _, h => by
    cases h with
    | lst hs ha => exact .lst (e.sqL hs) (dps_kept e ds _ ha)
  | .tuple ds, _, h => by
    cases h with
    | tup hs ha => exact .tup (e.sqT hs) (dps_kept e ds _ ha)
  | .dict _, _, h => by cases h
theorem dps_kept (e : Kept H H') : ∀ (ds : List PyData) (vs : List V), DpAll K H vs ds → DpAll K H' vs ds
  | [], _, h => by cases h; exact .nil
  | d :: ds, _, h => by
    cases h with
    | cons h1 h2 => exact .cons (dp_kept e d _ h1) (dps_kept e ds _ h2)
end
theorem Kept.dp {v : V} {d : PyData} (e : Kept H H') (h : Dp K H v d) : Dp K H' v d := dp_kept e d v h
theorem Kept.dps {vs : List V} {ds : List PyData} (e : Kept H H') (h : DpAll K H vs ds) : DpAll K H' vs ds := dps_kept e ds vs h
theorem same_dp {v : V} {d : PyData} (e : Same H H') (h : Dp K H v d) : Dp K H' v d := (Kept.of e).dp h
theorem same_dps {vs : List V} {ds : List PyData} (e : Same H H') (h : DpAll K H vs ds) : DpAll K H' vs ds := (Kept.of e).dps h
theorem Dp.tupD {v : V} {ds : List PyData} (h : Dp K H v (.tuple ds)) : ∃ a xs, v = .ref a ∧ SqT K H a xs ∧ DpAll K H xs ds := by
  cases h with
  | tup hs ha => exact ⟨_, _, rfl, hs, ha⟩
theorem Dp.lstD {v : V} {ds : List PyData} (h : Dp K H v (.list ds)) : ∃ a xs, v = .ref a ∧ SqL K H a xs ∧ DpAll K H xs ds := by
  cases h with
  | lst hs ha => exact ⟨_, _, rfl, hs, ha⟩
theorem dps_len : ∀ {vs : List V} {ds : List PyData}, DpAll K H vs ds → vs.length = ds.length
  | _, _, .nil => rfl
  | _, _, .cons _ t => by rw [List.length_cons, List.length_cons, dps_len t]
theorem dps_get : ∀ {vs : List V} {ds : List PyData} {i : Nat} {d : PyData}, DpAll K H vs ds → ds[i]? = some d → ∃ v, vs[i]? = some v ∧ Dp K H v d
  | _, _, _, _, .nil, e => by simp at e
  | _, _, 0, _, .cons h _, e => by cases e; exact ⟨_, rfl, h⟩
  | _, _, i + 1, d, .cons _ t, e => by
    obtain ⟨v, h1, h2⟩ := dps_get (i := i) (d := d) t (by simpa using e)
    exact ⟨v, by simpa using h1, h2⟩
theorem dps_getV : ∀ {vs : List V} {ds : List PyData} {i : Nat} {v : V}, DpAll K H vs ds → vs[i]? = some v → ∃ d, ds[i]? = some d ∧ Dp K H v d
  | _, _, _, _, .nil, e => by simp at e
  | _, _, 0, _, .cons h _, e => by cases e; exact ⟨_, rfl, h⟩
  | _, _, i + 1, d, .cons _ t, e => by
    obtain ⟨v, h1, h2⟩ := dps_getV (i := i) t (by simpa using e)
    exact ⟨v, by simpa using h1, h2⟩
theorem dps_append : ∀ {vs : List V} {ds : List PyData} {us : List V} {es : List PyData}, DpAll K H vs ds → DpAll K H us es → DpAll K H (vs ++ us) (ds ++ es)
  | _, _, _, _, .nil, h => h
  | _, _, _, _, .cons a b, h => .cons a (dps_append b h)
theorem dps_take : ∀ {vs : List V} {ds : List PyData} (n : Nat), DpAll K H vs ds → DpAll K H (vs.take n) (ds.take n)
  | _, _, 0, _ => .nil
  | _, _, _ + 1, .nil => .nil
  | _, _, n + 1, .cons a b => .cons a (dps_take n b)
theorem dps_drop : ∀ {vs : List V} {ds : List PyData} (n : Nat), DpAll K H vs ds → DpAll K H (vs.drop n) (ds.drop n)
  | _, _, 0, h => h
  | _, _, _ + 1, .nil => .nil
  | _, _, n + 1, .cons a b => dps_drop n b
end
theorem same_new {H : Hp} {p : Addr} (h : H p = none) (o : HO) : Same H (upd H p o) := fun b u q => by
  rw [upd_ne (ne_of_none q h)]; exact q
/-- a list or tuple of the program's own that nobody else knows may change -/
theorem kept_over {H0 H : Hp} {p : Addr} {o : HO} (k : Kept H0 H) (h : H0 p = none) : Kept H0 (upd H p o) := fun b u e n => by
  rw [upd_ne (ne_of_none e h)]; exact k b u e n
theorem same_over {H0 H : Hp} {p : Addr} {o : HO} (k : Same H0 H) (h : H0 p = none) : Same H0 (upd H p o) := fun b u e => by
  rw [upd_ne (ne_of_none e h)]; exact k b u e

/-! ### displays -/
def tDat (K : PySem.W.Frag) (used : List Nat) (δ : (Nat → PyData) → PyData) : TE := fun σ H Q => ∃ ρ : Nat → PyData, (∀ i ∈ used, ∃ v, σ[i]? = some (some v) ∧ Dp K H v (ρ i)) ∧ ∀ v H', Same H H' → Dp K H' v (δ ρ) → Q v H'
def tDatA (K : PySem.W.Frag) (used : List Nat) (δ : (Nat → PyData) → List PyData) : TA := fun σ H Q => ∃ ρ : Nat → PyData, (∀ i ∈ used, ∃ v, σ[i]? = some (some v) ∧ Dp K H v (ρ i)) ∧ ∀ vs H', Same H H' → DpAll K H' vs (δ ρ) → Q vs H'
section
variable {X : Cx} {e : Expr} {es : List Expr} {pos : Pos} {used used' : List Nat}
theorem pe_less {t t' : TE} (h : PE X e t) (k : ∀ σ H Q, t' σ H Q → t σ H Q) : PE X e t' := ⟨fun pins s σ H Q I q => h.run pins s σ H Q I (k σ H Q q)⟩
theorem pa_less {t t' : TA} (h : PA X es t) (k : ∀ σ H Q, t' σ H Q → t σ H Q) : PA X es t' := ⟨fun pos pins s σ H Q I q => h.run pos pins s σ H Q I (k σ H Q q)⟩
theorem de_str {x : Str} {j : Nat} : PE X (.Constant (.str x) j pos) (tDat X.K [] fun _ => .str x) := pe_less pe_str fun σ H Q ⟨ρ, _, k⟩ => k _ H (Same.refl H) (.str x)
theorem de_int {x : Int} {j : Nat} : PE X (.Constant (.int x) j pos) (tDat X.K [] fun _ => .int x) := pe_less pe_int fun σ H Q ⟨ρ, _, k⟩ => k _ H (Same.refl H) (.int x)
theorem de_bl {x : Bool} {j : Nat} : PE X (.Constant (.bool x) j pos) (tDat X.K [] fun _ => .bool x) := pe_less pe_bl fun σ H Q ⟨ρ, _, k⟩ => k _ H (Same.refl H) (.bl x)
theorem de_non {j : Nat} : PE X (.Constant .none j pos) (tDat X.K [] fun _ => .none) := pe_less pe_non fun σ H Q ⟨ρ, _, k⟩ => k _ H (Same.refl H) .non
theorem de_neg {x : Int} {j : Nat} {p : Pos} : PE X (.UnaryOp .USub (.Constant (.int x) j p) pos) (tDat X.K [] fun _ => .int (-x)) := pe_less (pe_un un_neg pe_int) fun σ H Q ⟨ρ, _, k⟩ => ⟨x, rfl, k _ H (Same.refl H) (.int _)⟩
theorem de_name (i : Nat) {x : Str} (h : PE X (.Name x pos) (tVar i)) : PE X (.Name x pos) (tDat X.K [i] fun ρ => ρ i) := pe_less h fun σ H Q ⟨ρ, u, k⟩ => by
  obtain ⟨v, e, d⟩ := u i (List.mem_singleton.mpr rfl)
  exact ⟨v, e, k v H (Same.refl H) d⟩
theorem das_nil : PA X [] (tDatA X.K [] fun _ => []) := pa_less pa_nil fun σ H Q ⟨ρ, _, k⟩ => k [] H (Same.refl H) .nil
theorem das_cons {δ : (Nat → PyData) → PyData} {δs : (Nat → PyData) → List PyData} (h : PE X e (tDat X.K used δ)) (r : PA X es (tDatA X.K used' δs)) (hs : starEach (e :: es) X.env = (false, eval e X.env) :: starEach es X.env := by rfl) :
    PA X (e :: es) (tDatA X.K (used ++ used') fun ρ => δ ρ :: δs ρ) := pa_less (pa_cons h r hs) fun σ H Q ⟨ρ, u, k⟩ => by
  refine ⟨ρ, fun i hi => u i (List.mem_append_left _ hi), fun v H1 s1 d1 => ⟨ρ, fun i hi => ?_, fun vs H2 s2 d2 => k (v :: vs) H2 (s1.trans s2) (.cons (same_dp s2 d1) d2)⟩⟩
  obtain ⟨v, e, d⟩ := u i (List.mem_append_right _ hi)
  exact ⟨v, e, same_dp s1 d⟩
theorem de_tup {x1 : Nat} {δs : (Nat → PyData) → List PyData} (r : PA X es (tDatA X.K used δs)) (hl : es.length ≤ 1000) (hz : ∀ ρ, (δs ρ).length = es.length := by intro _; rfl) : PE X (.Tuple es x1 pos) (tDat X.K used fun ρ => .tuple (δs ρ)) := pe_less (pe_tup r) fun σ H Q ⟨ρ, u, k⟩ => by
  refine ⟨ρ, u, fun vs H1 s1 d1 => ⟨?_, fun p hp => ?_⟩⟩
  · rw [dps_len d1, hz]; exact Nat.le_of_lt (small1000 hl)
  · have s2 := same_new hp (.tup vs)
    exact k _ _ (s1.trans s2) (.tup (SqT.of upd_same) (same_dps s2 d1))
theorem de_lst {δs : (Nat → PyData) → List PyData} (r : PA X es (tDatA X.K used δs)) (hl : es.length ≤ 1000) (hz : ∀ ρ, (δs ρ).length = es.length := by intro _; rfl) : PE X (.List es pos) (tDat X.K used fun ρ => .list (δs ρ)) := pe_less (pe_lst r) fun σ H Q ⟨ρ, u, k⟩ => by
  refine ⟨ρ, u, fun vs H1 s1 d1 => ⟨?_, fun p hp => ?_⟩⟩
  · rw [dps_len d1, hz]; exact Nat.le_of_lt (small1000 hl)
  · have s2 := same_new hp (.lst vs)
    exact k _ _ (s1.trans s2) (.lst (SqL.of upd_same) (same_dps s2 d1))
end
theorem use0 {F : Nat → Prop} : ∀ i ∈ ([] : List Nat), F i := fun _ h => nomatch h
theorem use1 {F : Nat → Prop} {a : Nat} (ha : F a) : ∀ i ∈ [a], F i := fun i h => by rw [List.mem_singleton.mp h]; exact ha
theorem use2 {F : Nat → Prop} {a b : Nat} (ha : F a) (hb : F b) : ∀ i ∈ [a, b], F i := fun i h => by
  rcases List.mem_cons.mp h with rfl | h
  · exact ha
  · exact use1 hb i h
theorem use3 {F : Nat → Prop} {a b c : Nat} (ha : F a) (hb : F b) (hc : F c) : ∀ i ∈ [a, b, c], F i := fun i h => by
  rcases List.mem_cons.mp h with rfl | h
  · exact ha
  · exact use2 hb hc i h
end B1

set_option maxRecDepth 100000
set_option maxHeartbeats 4000000
namespace B1
open PySem PySem.Spec PyProof.Rows L2
/-! ### the text -/
def top (i : Nat) : Stmt := PySem.Challenge.pw_livehall_k64_writings.main.body.getD i (.Pass ⟨0, 0, 0, 0⟩)
/-! ### the names of the built-ins are still theirs -/
structure Bl (mg : Str → Option Value) : Prop where
  «all» : mg "all" = none
  isi : mg "isinstance" = none
  str : mg "str" = none
  len : mg "len" = none
  bool : mg "bool" = none
  int : mg "int" = none
  tuple : mg "tuple" = none
  list : mg "list" = none
  reversed : mg "reversed" = none
  abs : mg "abs" = none
  divmod : mg "divmod" = none
  range : mg "range" = none
  min : mg "min" = none
theorem bt_all : bootBuiltins "all" = some (.builtin "all") := by decide +kernel
theorem bt_isi : bootBuiltins "isinstance" = some (.builtin "isinstance") := by decide +kernel
theorem bt_str : bootBuiltins "str" = some (.type "str") := by decide +kernel
theorem bt_len : bootBuiltins "len" = some (.builtin "len") := by decide +kernel
theorem bt_bool : bootBuiltins "bool" = some (.type "bool") := by decide +kernel
theorem bt_int : bootBuiltins "int" = some (.type "int") := by decide +kernel
theorem bt_tuple : bootBuiltins "tuple" = some (.type "tuple") := by decide +kernel
theorem bt_abs : bootBuiltins "abs" = some (.builtin "abs") := by decide +kernel
theorem bt_divmod : bootBuiltins "divmod" = some (.builtin "divmod") := by decide +kernel
theorem bt_min : bootBuiltins "min" = some (.builtin "min") := by decide +kernel
/-! ### isinstance of data -/
def tyN : PyData → String
  | .none => "NoneType"
  | .bool _ => "bool"
  | .int _ => "int"
  | .str _ => "str"
  | .list _ => "list"
  | .tuple _ => "tuple"
  | .dict _ => "dict"
theorem tyX_of {K : PySem.W.Frag} {H : Hp} {v : V} {d : PyData} (h : Dp K H v d) : TyX K H v (.type (tyN d)) := by
  cases h with
  | non => exact .base .non
  | bl b => exact .base (.bl b)
  | int i => exact .base (.int i)
  | str x => exact .base (.str x)
  | lst hs _ =>
    rcases hs with (h | ⟨o, h⟩) | ⟨o, its, n, hk, hc, _⟩
    · exact .base (.lst h)
    · exact .base (.frz h)
    · exact .kList hk hc
  | tup hs _ =>
    rcases hs with (h | ⟨o, h⟩) | ⟨o, its, n, hk, hc, _⟩
    · exact .base (.tup h)
    · exact .fTuple h
    · exact .kTuple hk hc
def isS : PyData → Bool
  | .str _ => true
  | _ => false
def isT : PyData → Bool
  | .tuple _ => true
  | _ => false
def isB : PyData → Bool
  | .bool _ => true
  | _ => false
def isI : PyData → Bool
  | .bool _ => true
  | .int _ => true
  | _ => false
theorem kit_S (d : PyData) : kitB (tyN d) "str" = some (isS d) := by cases d <;> simp only [tyN, isS] <;> decide +kernel
theorem kit_T (d : PyData) : kitB (tyN d) "tuple" = some (isT d) := by cases d <;> simp only [tyN, isT] <;> decide +kernel
theorem kit_B (d : PyData) : kitB (tyN d) "bool" = some (isB d) := by cases d <;> simp only [tyN, isB] <;> decide +kernel
theorem kit_I (d : PyData) : kitB (tyN d) "int" = some (isI d) := by cases d <;> simp only [tyN, isI] <;> decide +kernel
def rIsD (K : PySem.W.Frag) (T : String) (f : PyData → Bool) : List V → Hp → VK → Prop := fun xs H Q => ∃ (x : V) (d : PyData), xs = [x, .ty T] ∧ Dp K H x d ∧ Q (.bl (f d)) H
section
variable {X : Cx} {e : Expr} {te : TE} {p p2 pos : Pos} {x : Str} {T : String} {f : PyData → Bool}
theorem cr_isD (hk : ∀ d, kitB (tyN d) T = some (f d)) : CallR X (.builtin "isinstance") (rIsD X.K T f) := by
  intro pins s σ H xs us Q I r h
  obtain ⟨v, d, ex, hd, q⟩ := h
  exact call_isi pins s σ H xs us Q I r ⟨v, .ty T, _, .type T, f d, ex, .ty T, tyX_of hd, kit_ty (hk d), q⟩
theorem pe_isD (hk : ∀ d, kitB (tyN d) T = some (f d)) (hg : Gl X "isinstance") (hm : X.mg "isinstance" = none) (hgT : Gl X x) (hmT : X.mg x = none) (hv : bootBuiltins x = some (.type T)) (he : PE X e te)
    (hs : starEach [e, .Name x p2] X.env = (false, eval e X.env) :: starEach [.Name x p2] X.env := by rfl) (hs2 : starEach [.Name x p2] X.env = (false, eval (.Name x p2) X.env) :: starEach [] X.env := by rfl) (hpl : (backTo pos (starEach [.Name x p2] X.env)).any (·.1) = false := by rfl)
    (hn : x ≠ "__name__" := by decide) (hd : (x == ("__debug__" : Str)) = false := by decide) :
    PE X (.Call (.Name "isinstance" p) [e, .Name x p2] [] pos) (tCB (rIsD X.K T f) (tCons te (tCons (tC (.ty T)) tNil))) :=
  pe_callB (cr_isD hk) hg hm bt_isi (pa_cons he (pa_cons (pe_bltn (v := .ty T) hgT hmT hv rfl hn hd) pa_nil hs2) hs) (he := hs) (hpl := hpl)
end
/-! ### all_between -/
abbrev sBtw : Stmt := top 2
abbrev sShort : Stmt := top 3
theorem scBtw : FnScope ["text", "low", "high", "sign"] ["text", "low", "high"] (defScope sBtw) := ⟨rfl, rfl, rfl, by decide +kernel, rfl, by decide +kernel, by decide +kernel⟩
theorem scShort : FnScope ["thing"] ["thing"] (defScope sShort) := ⟨rfl, rfl, rfl, by decide +kernel, rfl, by decide +kernel, by decide +kernel⟩
def between (lo hi : Nat) (x : Str) : Bool := x.cps.toList.all fun c => decide (lo ≤ c) && decide (c ≤ hi)
/-- the sign is between the two -/
def btw (lo hi c : Nat) : Bool := decide (lo ≤ c) && decide (c ≤ hi)
theorem lt_one (a b : Nat) : decide ((⟨#[a]⟩ : Str).cps.toList < (⟨#[b]⟩ : Str).cps.toList) = decide (a < b) := by
  have : (⟨#[a]⟩ : Str).cps.toList < (⟨#[b]⟩ : Str).cps.toList ↔ a < b := by
    show [a] < [b] ↔ a < b
    simp [List.cons_lt_cons_iff]
  simp [this]
theorem le_one (a b : Nat) : (!decide ((⟨#[b]⟩ : Str).cps.toList < (⟨#[a]⟩ : Str).cps.toList)) = decide (a ≤ b) := by
  rw [lt_one]
  by_cases h : a ≤ b
  · rw [decide_eq_true h, decide_eq_false (by omega)]; rfl
  · rw [decide_eq_false h, decide_eq_true (by omega)]; rfl
theorem tyes {σ : L2.St} {H : Hp} {Q : Bool → Hp → Prop} (h : Q true H) : tYes σ H Q := h
theorem smallM {n : Nat} (h : n ≤ 1000000) : n < sizeLine := Nat.lt_of_le_of_lt h (by decide)
def spBtw : Sp := fun vs H Q _ => ∃ (x : Str) (lo hi : Nat), vs = [.str x, .str ⟨#[lo]⟩, .str ⟨#[hi]⟩] ∧ x.length ≤ 1000000 ∧ ∀ H', Same H H' → Q (.bl (between lo hi x)) H'
def isShort : PyData → Bool
  | .str x => decide (x.length ≤ 40) && between 32 126 x
  | _ => false
theorem short_str (x : Str) : isShort (.str x) = (decide (x.length ≤ 40) && between 32 126 x) := rfl
theorem bl_to {Q : VK} {H : Hp} {b b' : Bool} (h : Q (.bl b') H) (e : b = b') : Q (.bl b) H := e ▸ h
def spShort (K : PySem.W.Frag) : Sp := fun vs H Q _ => ∃ (v : V) (d : PyData), vs = [v] ∧ Dp K H v d ∧ (∀ x, d = .str x → x.length ≤ 1000000) ∧ ∀ H', Same H H' → Q (.bl (isShort d)) H'
section
variable {P : Program} {w : World} {K : PySem.W.Frag} {mg : Str → Option Value} {base : Heap} {f g f2 : Addr} {fd gd fd2 : FuncData}
theorem ok_btw (F : Fun K "all_between" "all_between" sBtw f fd) (B : Bl mg) : FnOk P w K mg base CX0 1 f fd ["text", "low", "high"] spBtw := by
  refine F.ok scBtw (fun vs H Q E h => ?_) (fun cdv A outer s H vs Q E hr h => ?_)
  · obtain ⟨x, lo, hi, rfl, _⟩ := h
    rfl
  obtain ⟨x, lo, hi, rfl, hl, q⟩ := h
  refine ⟨_, pss_one (ps_ret (pe_callB (cr_all rfl) rfl B.all bt_all (pa_cons (pe_lc (own := [("sign", 3)]) (g := gName 3) (by rfl) scBtw.nd (pi_str (pv 0)) (blkOk_by (own := [("sign", 3)]) (N := ["text", "low", "high", "sign"]) (sc := defScope sBtw) (by decide +kernel))
    (fun _ _ _ _ _ => pg_name (i := 3) scBtw.nd rfl (Or.inl rfl)) (fun _ _ _ _ _ => pts_nil) (fun _ _ _ _ _ => pe_chain op_le_str op_le_str (pv 1) (pv 3) (pv 2))) pa_nil))), ?_⟩
  refine ⟨_, rfl, x, rfl, fun D nD => ?_⟩
  refine lc_it walk_str (fun i H' => Same H (upd H' D (.lst [])) ∧ H' D = some (.lst ((x.cps.toList.take i).map fun c => V.bl (btw lo hi c)))) ⟨?_, upd_same⟩ (fun _ _ _ _ => trivial) ?_ ?_
  · rw [upd_upd]; exact same_new nD _
  · rintro i v H1 H1' hi' ⟨sm, hD⟩ ⟨rfl, c, hc, rfl⟩
    have tk : x.cps.toList.take (i + 1) = x.cps.toList.take i ++ [c] := by
      rw [List.take_add_one, Array.getElem?_toList, hc]; rfl
    have sz : ((x.cps.toList.take i).map fun c => V.bl (btw lo hi c)).length < sizeLine := by
      rw [List.length_map, List.length_take, Array.length_toList]
      have : x.cps.size ≤ 1000000 := hl
      exact smallM (by omega)
    have fin : ∀ b, b = btw lo hi c → Same H (upd (upd H1' D (.lst (((x.cps.toList.take i).map fun c => V.bl (btw lo hi c)) ++ [V.bl b]))) D (.lst [])) ∧ (upd H1' D (.lst (((x.cps.toList.take i).map fun c => V.bl (btw lo hi c)) ++ [V.bl b]))) D = some (.lst ((x.cps.toList.take (i + 1)).map fun c => V.bl (btw lo hi c))) := fun b eb => by
      rw [upd_upd, upd_same, tk, List.map_append, eb]
      exact ⟨sm, rfl⟩
    refine ⟨rfl, tyes (iteT ?_)⟩
    refine ⟨_, rfl, _, rfl, _, _, rfl, rfl, _, rfl, ?_⟩
    rw [le_one]
    refine ite2 (fun e => ?_) (fun e => ?_)
    · refine ⟨_, rfl, _, _, rfl, rfl, _, hD, sz, ?_⟩
      rw [le_one]
      exact fin _ (by unfold btw; rw [e]; rfl)
    · exact ⟨_, hD, sz, fin _ (by unfold btw; rw [Bool.eq_false_iff.mpr e]; rfl)⟩
  · rintro H1 ⟨sm, hD⟩
    have e : (x.cps.toList.take x.cps.size).map (fun c => V.bl (btw lo hi c)) = (x.cps.toList.map (btw lo hi)).map V.bl := by
      rw [List.take_of_length_le (by rw [Array.length_toList]; exact Nat.le_refl _), List.map_map]; rfl
    rw [e] at hD
    refine ⟨D, _, rfl, SqL.of hD, ?_⟩
    have er : (x.cps.toList.map (btw lo hi)).all id = between lo hi x := by
      unfold between; rw [List.all_map]; rfl
    rw [er]
    refine q H1 fun b o e => ?_
    have := sm b o e
    rw [upd_ne (ne_of_none e nD)] at this
    exact this
theorem ok_short (F : Fun K "is_short_text" "is_short_text" sShort f fd) (G : FnOk P w K mg base CX0 1 g gd ["text", "low", "high"] spBtw) (bG : Binds K gd ["text", "low", "high"] []) (kG : PySem.W.keepIn K (.ref g) = true) (mG : mg "all_between" = some (.ref g)) {t : Tok} (mN : mg "TEXT_SIGNS" = some (.int 40 t)) (B : Bl mg) :
    FnOk P w K mg base CX0 2 f fd ["thing"] (spShort K) := by
  refine F.ok scShort (fun vs H Q E h => ?_) (fun cdv A outer s H vs Q E hr h => ?_)
  · obtain ⟨v, d, rfl, _⟩ := h
    rfl
  obtain ⟨v, d, rfl, hd, hl, q⟩ := h
  refine ⟨_, pss_one (ps_ret (pe_and (pe_isD kit_S rfl B.isi rfl B.str bt_str (pv 0)) (pe_and (pe_cmpR op_le (pe_callB call_len_str rfl B.len bt_len (pa_cons (pv 0) pa_nil)) (pe_glob (v := .int 40) rfl mN ⟨_, rfl⟩) (nomark _)) (pe_one (pe_call G hr rfl mG kG bG .nil pass0 (pa_cons (pv 0) (pa_cons pe_str (pa_cons pe_str pa_nil)))))))), ?_⟩
  refine ⟨_, rfl, _, d, rfl, hd, _, rfl, ?_⟩
  cases d with
  | str x =>
    cases hd
    have hx := hl x rfl
    refine iteT ?_
    refine ⟨_, rfl, x, rfl, Nat.le_of_lt (smallM hx), _, _, rfl, rfl, _, rfl, ?_⟩
    refine ite2 (fun e => ?_) (fun e => ?_)
    · refine ⟨_, rfl, x, 32, 126, rfl, hx, fun H' sm => ?_⟩
      have a1 := of_decide_eq_true e
      refine bl_to (q H' sm) ?_
      rw [short_str, decide_eq_true (show x.length ≤ 40 by omega)]
      rfl
    · have a1 := of_decide_eq_false (Bool.eq_false_iff.mpr e)
      refine bl_to (q H (Same.refl H)) ?_
      rw [short_str, decide_eq_false (show ¬ x.length ≤ 40 by omega)]
      rfl
  | none => exact iteF (q H (Same.refl H))
  | bool b => exact iteF (q H (Same.refl H))
  | int i => exact iteF (q H (Same.refl H))
  | list xs => exact iteF (q H (Same.refl H))
  | tuple xs => exact iteF (q H (Same.refl H))
  | dict xs => exact iteF (q H (Same.refl H))
end
end B1

set_option maxRecDepth 100000
set_option maxHeartbeats 4000000
namespace B1
open PySem PySem.Spec PyProof.Rows L2
/-! ### what is never reached -/
section
variable {X : Cx}
theorem pss_never {b : List Stmt} : PSs X b (fun _ _ _ => False) := ⟨fun _ _ _ _ _ _ h => h.elim⟩
theorem pe_never {e : Expr} : PE X e (fun _ _ _ => False) := ⟨fun _ _ _ _ _ _ h => h.elim⟩
theorem ps_never {b : Stmt} : PS X b (fun _ _ _ => False) := ⟨fun _ _ _ _ _ _ h => h.elim⟩
end
/-- a def of one parameter, without cells: as its body begins a token is out -/
theorem Fun.okT {P : Program} {w : World} {K : PySem.W.Frag} {mg : Str → Option Value} {base : Heap} {x qual a : Str} {st : Stmt} {f : Addr} {fd : FuncData} {N : List Str} {k : Nat} {sp : Sp} (F : Fun K x qual st f fd) (S : FnScope N [a] (defScope st))
    (loc : (defScope st).names.lookup a = some .local) (nc : ∀ y ∈ (defScope st).names, y.2 ≠ .cell) (len : ∀ vs H Q E, sp vs H Q E → vs.length = [a].length)
    (hbody : ∀ (cdv : Value) (A : Around) (outer : List Env) (s : Shared) (H : Hp) (vs : List V) (Q : VK) (E : XK), Room k (A.deeper (envOfC qual (defScope st) s.heap.objs.size f cdv)) → sp vs H Q E →
      ∃ t, PSsT (cxOf CX0 P w K mg base N qual (defScope st) f cdv A outer s H E) (defBody st) t ∧ t { nx := fun _ H' => Q .non H', rt := Q } (start N vs) H) : FnOk P w K mg base CX0 (k + 1) f fd [a] sp := by
  obtain ⟨oc, od, kV, doc, pm, an, cdv, ct, osl, rfl, lk, hcd⟩ := F.ex
  refine ⟨len, fun A outer s H args us vs Q E hr e0 hb r hsp => ?_⟩
  have hl := len _ _ _ _ hsp
  have KX : K.In s.heap := e0.mod.kin.keeps fun b o e => (e0.bs b o e).1
  have lim : s.heap.NoLimit := e0.mod.nolimit.keeps fun b o e => (e0.bs b o e).1
  obtain ⟨v, rfl⟩ : ∃ v, vs = [v] := List.length_eq_one_iff.mp hl
  obtain ⟨u, rfl⟩ : ∃ u, us = [u] := by
    cases r with
    | cons r1 r2 => cases r2; exact ⟨_, rfl⟩
  refine codeAny_call_function hr.depth (KX _ _ lk) rfl S.co S.gen rfl (PySem.W.codeRec_of KX hcd) (hb _ _ _ _ ?_)
  refine wpAny_newFunctionEnv nc (fun y hy => by rw [List.mem_singleton.mp hy]; exact loc) (fun h1 hns hsb => ?_) S.kind
  have kp : ∀ b o, s.heap.get? b = some o → h1.get? b = some o := fun b o e => hsb.extBut b o (Nat.ne_of_lt (Heap.lt_size e)) (Heap.get?_push_of_some _ e)
  have nocells : cellsFrom (s.heap.objs.size + 1) (defScope st).names [] = [] := by
    have key : ∀ (l : List (Str × NameKind)) (n : Addr), (∀ y ∈ l, y.2 ≠ .cell) → cellsFrom n l [] = [] := fun l => by
      induction l with
      | nil => intro n _; rfl
      | cons y l ih =>
        intro n h
        have hy : (y.2 == NameKind.cell) = false := by
          have := h y List.mem_cons_self
          cases q : y.2 <;> first | rfl | exact absurd q this
        have := ih n fun z hz => h z (List.mem_cons_of_mem _ hz)
        obtain ⟨y1, y2⟩ := y
        simp only [cellsFrom]
        simp only at hy
        rw [hy]
        simpa using this
    exact key _ _ nc
  have x : InCallC s s.heap.objs.size (bindL (envOfC qual (defScope st) s.heap.objs.size f cdv).kindOf ([a].zip [u]) fun _ => none) (cellsFrom (s.heap.objs.size + 1) (defScope st).names []) (bindC (envOfC qual (defScope st) s.heap.objs.size f cdv).kindOf ([a].zip [u]) fun _ => none) { s with heap := h1, toks := s.toks + ([a].zip [u]).length } := by
    refine ⟨⟨⟨h1, _, rfl⟩, ?_, kp, Nat.le_refl _⟩, fun n c hc => ?_, ?_, fun n c hc => ?_⟩
    · have e : (bindL (envOfC qual (defScope st) s.heap.objs.size f cdv).kindOf ([a].zip [u]) fun _ => none) = fun x => ([a].zip [u]).reverse.lookup x := by
        funext y
        have hk : (envOfC qual (defScope st) s.heap.objs.size f cdv).kindOf a = some .local := loc
        show bindL _ [(a, u)] _ y = List.lookup y [(a, u)]
        unfold bindL
        rw [if_pos hk]
        unfold bindL
        by_cases hy : y = a
        · subst hy; simp [List.lookup]
        · have : (y == a) = false := by simpa using hy
          simp [List.lookup, this, hy]
      rw [e]
      exact hns
    · rw [nocells] at hc; cases hc
    · rw [nocells]; exact List.Pairwise.nil
    · rw [nocells] at hc; cases hc
  refine ⟨lim.keeps kp, ?_⟩
  have I : Inv (cxOf CX0 P w K mg base N qual (defScope st) f cdv A outer s H E) [] (start N [v]) H { s with heap := h1, toks := s.toks + ([a].zip [u]).length } := inv_start S hr.hd e0 hl r x
  have ee : newEnv (defScope st) s.heap.objs.size mainGlobals [] (qual ++ (".<locals>." : Str)) (some f) cdv none builtinsNs = envOfC qual (defScope st) s.heap.objs.size f cdv := by
    unfold envOfC
    rw [nocells]
    rfl
  obtain ⟨t, ht, hq⟩ := hbody cdv A outer s H [v] Q E (hr.deeper _) hsp
  have run := ht [] _ (start N [v]) H _ (by show 1 ≤ s.toks + 1; omega) I hq
  have fin : ∀ {s' : Shared} {σ' : L2.St} {H' : Hp} {v : V} {u : Value}, Inv (cxOf CX0 P w K mg base N qual (defScope st) f cdv A outer s H E) [] σ' H' s' → RelV v u → Q v H' → CE outer P w H s Q u s' :=
    fun {s' σ' H' v u} J rv q => ⟨v, H', J.os, J.bare, J.base, J.hok, rv, q⟩
  have ee' := ee.symm
  show codeAny _ _ (.func _ (newEnv (defScope st) s.heap.objs.size mainGlobals [] (qual ++ (".<locals>." : Str)) (some f) cdv none builtinsNs)) _ _
  rw [ee]
  refine codeAny_func (wpAny_mono run (fun fl s' hs => ?_) fun e s' hs => hs)
  cases fl with
  | ret u =>
    obtain ⟨v, σ', H', J, rv, q⟩ := hs
    exact fin J rv q
  | next =>
    obtain ⟨σ', H', J, q⟩ := hs
    exact fin (v := V.non) (u := Value.none) J rfl q
  | brk => exact hs.elim fun _ h => h.elim fun _ h => h.2.elim
  | cont => exact hs.elim fun _ h => h.elim fun _ h => h.2.elim
end B1

set_option maxRecDepth 100000
set_option maxHeartbeats 4000000
namespace B1
open PySem PySem.Spec PyProof.Rows L2 TL K4
section
variable {X : Cx}
theorem pst_set {i : Nat} {x : Str} {e : Expr} {te : TE} {pos pos' : Pos} (nd : X.N.Nodup) (hi : X.N[i]? = some x) (hx : Loc X.env.scope x) (he : PET X e te) (hs : swapsWith e (some (.Name x pos')) pos.line X.env = pure false := by rfl) (hf : X.fn x = true ∨ X.env.scope.names.lookup x = some .local := by first | exact .inl rfl | exact .inr rfl | assumption) :
    PST X (.Assign [.Name x pos'] e pos) (tAsg te (gName i)) := fun pins s σ H D h0 I h =>
  wpAny_Assign_Name (thn (he pins s σ H _ h0 I h) fun v s1 ⟨y, H1, I1, r1, q1⟩ => store_ok I1 nd hi hx r1 (fun s2 I2 => ⟨_, H1, I2, q1⟩) hf) hs
end
abbrev sNum : Stmt := top 31
abbrev sQuo : Stmt := top 32
abbrev sLft : Stmt := top 33
theorem scNum : FnScope ["number", "pieces", "rest", "piece"] ["number"] (defScope sNum) := ⟨rfl, rfl, rfl, by decide +kernel, rfl, by decide +kernel, by decide +kernel⟩
theorem scQuo : FnScope ["text", "escaped"] ["text"] (defScope sQuo) := ⟨rfl, rfl, rfl, by decide +kernel, rfl, by decide +kernel, by decide +kernel⟩
theorem scLft : FnScope ["thing"] ["thing"] (defScope sLft) := ⟨rfl, rfl, rfl, by decide +kernel, rfl, by decide +kernel, by decide +kernel⟩
/-- a text by its signs -/
abbrev sg (l : List Nat) : V := .str ⟨l.toArray⟩
theorem str_to {Q : VK} {H : Hp} {x y : Str} (h : Q (.str y) H) (e : x = y) : Q (.str x) H := e ▸ h
abbrev big : Int := 1000000000000000000000000000000000000000000000000000000000000
def spNum : Sp := fun vs H Q _ => ∃ i : Int, vs = [.int i] ∧ -1000 ≤ i ∧ i ≤ 1000 ∧ ∀ H', Same H H' → Q (sg (iL i)) H'
def spQuo : Sp := fun vs H Q _ => ∃ x : Str, vs = [.str x] ∧ x.length ≤ 1000 ∧ Q (sg (39 :: (esc (tl x) ++ [39]))) H
theorem repl_map (y : Nat) (z : List Nat) : ∀ l : List Nat, StrLaws.replL [y] z l = l.flatMap fun c => if c = y then z else [c]
  | [] => StrLaws.replL_nil
  | c :: l => by
    by_cases h : c = y
    · rw [StrLaws.replL_hit (by simp) (by rw [h]; rfl), List.flatMap_cons, if_pos h]
      show z ++ StrLaws.replL [y] z l = _
      rw [repl_map y z l]
    · rw [StrLaws.replL_miss (by intro e; exact h (List.cons.inj e).1), List.flatMap_cons, if_neg h, repl_map y z l]
      rfl
theorem esc_two (l : List Nat) : ((l.flatMap fun c => if c = 92 then [92, 92] else [c]).flatMap fun c => if c = 39 then [92, 39] else [c]) = esc l := by
  induction l with
  | nil => rfl
  | cons c l ih =>
    rw [List.flatMap_cons, List.flatMap_append, ih, esc_cons]
    congr 1
    unfold esc1
    by_cases h1 : c = 92
    · rw [if_pos h1, if_pos (.inl h1), h1]; rfl
    · rw [if_neg h1]
      by_cases h2 : c = 39
      · rw [if_pos (.inr h2), h2]; rfl
      · rw [if_neg (by omega), List.flatMap_cons, if_neg h2]; rfl
theorem esc_len (l : List Nat) : (esc l).length ≤ 2 * l.length := by
  induction l with
  | nil => simp [esc]
  | cons c l ih =>
    rw [esc_cons, List.length_append]
    have : (esc1 c).length ≤ 2 := by unfold esc1; split <;> simp
    simp only [List.length_cons]
    omega
theorem tlen (x : Str) : (tl x).length = x.length := (len_tl x).symm
section
variable {P : Program} {w : World} {K : PySem.W.Frag} {mg : Str → Option Value} {base : Heap} {f g f2 : Addr} {fd gd fd2 : FuncData}
theorem ok_num (F : Fun K "number_text" "number_text" sNum f fd) (B : Bl mg) {t : Tok} (mP : mg "PIECE_SIZE" = some (.int big t)) : FnOk P w K mg base CX0 1 f fd ["number"] spNum := by
  refine F.ok scNum (fun vs H Q E h => ?_) (fun cdv A outer s H vs Q E hr h => ?_)
  · obtain ⟨i, rfl, _⟩ := h
    rfl
  obtain ⟨i, rfl, lo, hi, q⟩ := h
  refine ⟨_, pss_cons (ps_set (i := 1) scNum.nd rfl (.inl rfl) (pe_lst pa_nil))
    (pss_cons (ps_set (i := 2) scNum.nd rfl (.inl rfl) (pe_callB call_abs rfl B.abs bt_abs (pa_cons (pv 0) pa_nil)))
    (pss_cons (ps_while PassesOwn.never (pt_cmpR op_ge (pv 2) (pe_glob (v := .int big) rfl mP ⟨_, rfl⟩) (nomark _)) pss_never)
    (pss_cons (ps_expr (pe_bm PySem.F.plainAttrs_list PySem.F.slot_list_append PySem.F.type_list_append mt_append (pv 1) (pa_cons (pe_callTy call_str_int rfl B.str bt_str (pa_cons (pv 2) pa_nil)) pa_nil)))
    (pss_one (ps_ret (pe_op op_add_str (pe_ifExp (pt_cmpR op_lt (pv 0) pe_int (nomark _)) pe_str pe_str) (pe_join pe_str (pe_revL (pv 1))))))))), ?_⟩
  refine ⟨Nat.zero_le _, fun l hl => ?_⟩
  have ab : (if i < 0 then -i else i) = (i.natAbs : Int) := by split <;> omega
  refine ⟨_, rfl, i, rfl, ?_⟩
  rw [ab]
  refine ⟨fun m σ H1 => σ = [some (.int i), some (.ref l), some (.int (i.natAbs : Int)), none] ∧ H1 = upd H l (.lst []), ⟨0, rfl, rfl⟩, ?_⟩
  rintro m σ H1 ⟨rfl, rfl⟩
  refine ⟨_, rfl, _, _, rfl, rfl, _, rfl, ?_⟩
  rw [decide_eq_false (by show ¬ big ≤ (i.natAbs : Int); unfold big; omega)]
  refine iteF ?_
  refine ⟨_, rfl, .inl ⟨rfl, _, SqL.of upd_same⟩, _, rfl, _, rfl, ?_, l, _, _, rfl, rfl, upd_same, (by decide), ?_⟩
  · show (i.natAbs : Int).natAbs.log2 < 1920
    have := Nat.log2_le_self (i.natAbs : Int).natAbs
    omega
  have fin : ∀ (H2 : Hp) (z : Str), Same H H2 → tl z = (if i < 0 then [45] else []) → Q (.str (z ++ Txt.join Str.empty [Str.ofString (toString (i.natAbs : Int))])) H2 := fun H2 z s2 hz => by
    refine str_to (q H2 s2) (ext_tl ?_)
    rw [tl_append, hz, join_eq]
    show _ ++ tl (Str.ofString (toString (i.natAbs : Int))) = tl ⟨(iL i).toArray⟩
    rw [tl_num, tl_mk]
    unfold iL
    split <;> rfl
  have big2 : ∀ z : Str, z.length ≤ 1 → z.length + (Txt.join Str.empty [Str.ofString (toString (i.natAbs : Int))]).length ≤ sizeLine := fun z hz => by
    rw [join_eq]
    show _ + (Str.ofString (toString (i.natAbs : Int))).length ≤ _
    rw [len_tl (Str.ofString _), tl_num]
    have := numL_len (n := i.natAbs) (k := 4) (by decide) (by omega)
    exact Nat.le_trans (show _ ≤ 5 by omega) (by decide)
  have hsum : ([Str.ofString (toString (i.natAbs : Int))].map (·.length)).sum + 1 * Str.empty.length ≤ 16777216 := by
    have := big2 Str.empty (Nat.zero_le _)
    rw [join_eq] at this
    have e : sizeLine = 16777216 := sizeLine_eq
    show ((Str.ofString (toString (i.natAbs : Int))).length + 0) + 1 * 0 ≤ _
    have : Str.empty.length + (Str.ofString (toString (i.natAbs : Int))).length ≤ sizeLine := this
    omega
  refine ⟨_, rfl, _, _, rfl, rfl, _, rfl, ?_⟩
  have go : ∀ z : Str, z.length ≤ 1 → tl z = (if i < 0 then [45] else []) → (tM1 (fun x xs H Q => ∃ a p, ∃ ys : List Str, x = .str a ∧ xs = [.ref p] ∧ (SqL K H p (ys.map V.str) ∨ SqT K H p (ys.map V.str)) ∧ (ys.map (·.length)).sum + ys.length * a.length ≤ 16777216 ∧ Q (.str (Txt.join a ys)) H) (tC (.str "")) (tRevL K (tVar 1))) [some (.int i), some (.ref l), some (.int (i.natAbs : Int)), none] (upd (upd H l (.lst [])) l (.lst ([] ++ [V.str (toString (i.natAbs : Int))]))) fun y H2 => ∃ i j, V.str z = .str i ∧ y = .str j ∧ i.length + j.length ≤ sizeLine ∧ Q (.str (i ++ j)) H2 := fun z hz1 hz2 => by
    refine ⟨⟨_, rfl⟩, _, rfl, l, _, rfl, SqL.of upd_same, fun p hp => ⟨_, p, [Str.ofString (toString (i.natAbs : Int))], rfl, rfl, .inl (SqL.of upd_same), hsum, _, _, rfl, rfl, big2 z hz1, ?_⟩⟩
    exact fin _ z ((same_over (same_new hl _) hl).trans (same_new hp _)) hz2
  refine ite2 (fun e => ?_) (fun e => ?_)
  · exact go "-" (by decide) (by rw [if_pos (of_decide_eq_true e)]; rfl)
  · exact go "" (by decide) (by rw [if_neg (of_decide_eq_false (Bool.eq_false_iff.mpr e))]; rfl)
theorem ok_quo (F : Fun K "quoted" "quoted" sQuo f fd) : FnOk P w K mg base CX0 1 f fd ["text"] spQuo := by
  refine Fun.okT F scQuo rfl (by decide +kernel) (fun vs H Q E h => ?_) (fun cdv A outer s H vs Q E hr h => ?_)
  · obtain ⟨x, rfl, _⟩ := h
    rfl
  obtain ⟨x, rfl, hl, q⟩ := h
  refine ⟨_, psst_cons (pst_set (i := 1) scQuo.nd rfl (.inl rfl) (CwR.pet_replT (CwR.pet_replC (pv 0)))) (PSsT.of (pss_one (ps_ret (pe_joined (.cons pe_str (.cons (pe_fmt (pv 1)) (.cons pe_str .nil))))))), ?_⟩
  have e1 : tl (Txt.replace x "\\" "\\\\") = (tl x).flatMap fun c => if c = 92 then [92, 92] else [c] := by
    show (Txt.replace x _ _).cps.toList = _
    rw [StrLaws.replace_list (by decide)]
    exact repl_map 92 [92, 92] (tl x)
  have e2 : tl (Txt.replace (Txt.replace x "\\" "\\\\") "'" "\\'") = esc (tl x) := by
    show (Txt.replace _ _ _).cps.toList = _
    rw [StrLaws.replace_list (by decide)]
    show StrLaws.replL [39] [92, 39] (tl (Txt.replace x "\\" "\\\\")) = _
    rw [repl_map, e1, esc_two]
  have l2 := esc_len (tl x)
  have l0 := tlen x
  have l1 : (Txt.replace x "\\" "\\\\").length ≤ 2 * x.length := by
    rw [len_tl, e1, ← l0]
    clear e1 e2 l2 l0
    generalize tl x = l
    induction l with
    | nil => simp
    | cons c l ih =>
      rw [List.flatMap_cons, List.length_append, List.length_cons]
      have : (if c = 92 then [92, 92] else [c] : List Nat).length ≤ 2 := by split <;> simp
      omega
  have l3 : (Txt.replace (Txt.replace x "\\" "\\\\") "'" "\\'").length ≤ 2 * x.length := by rw [len_tl, e2]; omega
  refine ⟨_, rfl, x, rfl, ?_, _, rfl, ?_, ?_⟩
  · show x.length + (x.length + 1) * 2 ≤ 16777216; omega
  · show _ + (_ + 1) * 2 ≤ 16777216; omega
  have hz : ∀ n : Nat, n ≤ 10000 → n ≤ sizeLine := fun n h => Nat.le_trans h (by decide)
  refine ⟨_, rfl, ?_, _, rfl, .inl ⟨_, rfl, ?_, _, rfl, ?_, _, rfl, ?_, ?_⟩⟩
  · exact hz _ (by show 1 ≤ 10000; decide)
  · exact hz _ (by omega)
  · refine hz _ ?_
    rw [len_tl, tl_append, tl_append, List.length_append, List.length_append, e2]
    show (0 + 1) + (esc (tl x)).length ≤ 10000
    omega
  · refine hz _ ?_
    rw [len_tl, tl_append, tl_append, tl_append, List.length_append, List.length_append, List.length_append, e2]
    show ((0 + 1) + (esc (tl x)).length) + 1 ≤ 10000
    omega
  · refine str_to q (ext_tl ?_)
    rw [tl_append, tl_append, tl_append, e2, tl_mk]
    rfl
end
end B1

set_option maxRecDepth 100000
set_option maxHeartbeats 4000000
namespace B1
open PySem PySem.Spec PyProof.Rows L2 TL K4
/-- what can be written here: texts and numbers within bounds -/
def okL : PyData → Bool
  | .none => true
  | .bool _ => true
  | .int i => decide (-1000 ≤ i) && decide (i ≤ 1000)
  | .str x => decide (x.length ≤ 1000)
  | _ => false
def spLft (K : PySem.W.Frag) : Sp := fun vs H Q _ => ∃ (v : V) (d : PyData), vs = [v] ∧ Dp K H v d ∧ okL d = true ∧ ∀ H', Same H H' → Q (sg (wr d)) H'
section
variable {P : Program} {w : World} {K : PySem.W.Frag} {mg : Str → Option Value} {base : Heap} {f g f2 : Addr} {fd gd fd2 : FuncData}
theorem ok_lft (F : Fun K "leaf_text" "leaf_text" sLft f fd) (B : Bl mg)
    (G1 : FnOk P w K mg base CX0 1 g gd ["text"] spQuo) (b1 : Binds K gd ["text"] []) (k1 : PySem.W.keepIn K (.ref g) = true) (m1 : mg "quoted" = some (.ref g))
    (G2 : FnOk P w K mg base CX0 1 f2 fd2 ["number"] spNum) (b2 : Binds K fd2 ["number"] []) (k2 : PySem.W.keepIn K (.ref f2) = true) (m2 : mg "number_text" = some (.ref f2)) :
    FnOk P w K mg base CX0 2 f fd ["thing"] (spLft K) := by
  refine F.ok scLft (fun vs H Q E h => ?_) (fun cdv A outer s H vs Q E hr h => ?_)
  · obtain ⟨v, d, rfl, _⟩ := h
    rfl
  obtain ⟨v, d, rfl, hd, hok, q⟩ := h
  refine ⟨_, pss_cons (ps_if (pt_cmpR op_isN (pv 0) pe_non (nomark _)) (pss_one (ps_ret pe_str)) pss_nil)
    (pss_cons (ps_if (pt_val (pe_isD kit_B rfl B.isi rfl B.bool bt_bool (pv 0))) (pss_one (ps_ret (pe_ifExp (pt_truth (pv 0) (by intro _; rfl)) pe_str pe_str))) pss_nil)
    (pss_one (ps_ret (pe_ifExp (pt_val (pe_isD kit_S rfl B.isi rfl B.str bt_str (pv 0))) (pe_call G1 hr rfl m1 k1 b1 .nil pass0 (pa_cons (pv 0) pa_nil)) (pe_call G2 hr rfl m2 k2 b2 .nil pass0 (pa_cons (pv 0) pa_nil)))))), ?_⟩
  refine ⟨_, rfl, rfl, _, rfl, ?_⟩
  cases d with
  | none => cases hd; exact iteT (q H (Same.refl H))
  | bool b =>
    cases hd
    refine iteF ?_
    refine ⟨_, rfl, _, _, rfl, .bl b, _, rfl, iteT ?_⟩
    refine ⟨_, rfl, b, rfl, ?_⟩
    cases b with
    | true => exact iteT (q H (Same.refl H))
    | false => exact iteF (q H (Same.refl H))
  | int i =>
    cases hd
    have hb : -1000 ≤ i ∧ i ≤ 1000 := by simpa [okL] using hok
    refine iteF ?_
    refine ⟨_, rfl, _, _, rfl, .int i, _, rfl, iteF ?_⟩
    refine ⟨_, rfl, _, _, rfl, .int i, _, rfl, iteF ?_⟩
    exact ⟨_, rfl, i, rfl, hb.1, hb.2, q⟩
  | str x =>
    cases hd
    have hb : x.length ≤ 1000 := by simpa [okL] using hok
    refine iteF ?_
    refine ⟨_, rfl, _, _, rfl, .str x, _, rfl, iteF ?_⟩
    refine ⟨_, rfl, _, _, rfl, .str x, _, rfl, iteT ?_⟩
    exact ⟨_, rfl, x, rfl, hb, q H (Same.refl H)⟩
  | _ => cases hok
end
end B1

set_option maxRecDepth 100000
set_option maxHeartbeats 4000000
namespace B1
open PySem PySem.Spec PyProof.Rows L2 TL K4
/-! ### thing_text: what waits -/
inductive Tk where
  | sign (c : Nat)
  | part (d : PyData)
def Tk.w : Tk → Str
  | .sign _ => "sign"
  | .part _ => "part"
def Tk.txt : Tk → List Nat
  | .sign c => [c]
  | .part d => wr d
/-- what the stack will write, its top first -/
def otxt (st : List Tk) : List Nat := st.reverse.flatMap Tk.txt
theorem otxt_snoc (st : List Tk) (t : Tk) : otxt (st ++ [t]) = t.txt ++ otxt st := by unfold otxt; simp
theorem otxt_append (a b : List Tk) : otxt (a ++ b) = otxt b ++ otxt a := by unfold otxt; simp
def pushed : Nat → List PyData → List Tk
  | _, [] => []
  | k, d :: ds => pushed (k + 1) ds ++ [.part d, .sign (if k = 0 then 40 else 32)]
theorem otxt_pushed1 : ∀ (ds : List PyData) (k : Nat), otxt (pushed (k + 1) ds) = wrs1 ds
  | [], _ => rfl
  | d :: ds, k => by
    show otxt (pushed (k + 2) ds ++ [.part d, .sign (if k + 1 = 0 then 40 else 32)]) = _
    rw [otxt_append, otxt_pushed1 ds (k + 1), if_neg (by omega)]
    show [32] ++ (wr d ++ []) ++ wrs1 ds = 32 :: (wr d ++ wrs1 ds)
    simp
theorem otxt_pushed0 (d : PyData) (ds : List PyData) : otxt (pushed 0 (d :: ds)) = 40 :: (wr d ++ wrs1 ds) := by
  show otxt (pushed 1 ds ++ [.part d, .sign (if 0 = 0 then 40 else 32)]) = _
  rw [otxt_append, otxt_pushed1 ds 0, if_pos rfl]
  show [40] ++ (wr d ++ []) ++ wrs1 ds = _
  simp
mutual
def tw : PyData → Nat
  | .tuple ds => 3 + twAll ds
  | _ => 1
def twAll : List PyData → Nat
  | [] => 0
  | d :: ds => tw d + 1 + twAll ds
end
def Tk.n : Tk → Nat
  | .sign _ => 1
  | .part d => tw d
theorem Tk.n_pos (t : Tk) : 1 ≤ t.n := by
  cases t with
  | sign c => exact Nat.le_refl _
  | part d => cases d <;> simp [Tk.n, tw]; omega
def stn (st : List Tk) : Nat := (st.map Tk.n).sum
theorem stn_append (a b : List Tk) : stn (a ++ b) = stn a + stn b := by unfold stn; simp
theorem stn_snoc (a : List Tk) (t : Tk) : stn (a ++ [t]) = stn a + t.n := by rw [stn_append]; simp [stn]
theorem stn_len (st : List Tk) : st.length ≤ stn st := by
  induction st with
  | nil => exact Nat.le_refl _
  | cons t st ih =>
    have := t.n_pos
    show st.length + 1 ≤ t.n + stn st
    omega
theorem stn_pushed : ∀ (ds : List PyData) (k : Nat), stn (pushed k ds) = twAll ds
  | [], _ => rfl
  | d :: ds, k => by
    show stn (pushed (k + 1) ds ++ [.part d, .sign _]) = _
    rw [stn_append, stn_pushed ds (k + 1)]
    simp only [stn, List.map_cons, List.map_nil, List.sum_cons, List.sum_nil, Tk.n, twAll]
    omega
-- the parts of a written thing are within bounds
mutual
def okW : PyData → Bool
  | .tuple ds => okWs ds
  | .none => true
  | .bool _ => true
  | .int i => decide (-1000 ≤ i) && decide (i ≤ 1000)
  | .str x => decide (x.length ≤ 1000)
  | .list _ => false
  | .dict _ => false
def okWs : List PyData → Bool
  | [] => true
  | d :: ds => okW d && okWs ds
end
theorem okWs_mem : ∀ {ds : List PyData} {d : PyData}, okWs ds = true → d ∈ ds → okW d = true
  | x :: ds, d, h, hm => by
    have h : okW x = true ∧ okWs ds = true := by simpa [okWs] using h
    rcases List.mem_cons.mp hm with e | hm
    · rw [e]; exact h.1
    · exact okWs_mem h.2 hm
def Tk.ok : Tk → Prop
  | .sign _ => True
  | .part d => okW d = true
theorem pushed_ok : ∀ (ds : List PyData) (k : Nat), okWs ds = true → ∀ t ∈ pushed k ds, t.ok
  | [], _, _, t, h => nomatch h
  | d :: ds, k, ho, t, h => by
    have ho : okW d = true ∧ okWs ds = true := by simpa [okWs] using ho
    rcases List.mem_append.mp h with h | h
    · exact pushed_ok ds _ ho.2 t h
    · simp only [List.mem_cons, List.not_mem_nil, or_false] at h
      rcases h with rfl | rfl
      · exact ho.1
      · trivial
def TkAt (K : PySem.W.Frag) (Hb H : Hp) (x : V) : Tk → Prop
  | .sign c => ∃ t, x = .ref t ∧ H t = some (.tup [.str "sign", .str ⟨#[c]⟩])
  | .part d => ∃ t v, x = .ref t ∧ H t = some (.tup [.str "part", v]) ∧ Dp K Hb v d
abbrev StT (K : PySem.W.Frag) (Hb H : Hp) : List V → List Tk → Prop := Paired (TkAt K Hb H)
theorem StT.keep {K : PySem.W.Frag} {Hb H H' : Hp} {xs : List V} {st : List Tk} (h : StT K Hb H xs st) (e : ∀ b ys, H b = some (.tup ys) → H' b = some (.tup ys)) : StT K Hb H' xs st := Paired.mapP h fun x t ht => by
  cases t with
  | sign c => obtain ⟨a, h1, h2⟩ := ht; exact ⟨a, h1, e _ _ h2⟩
  | part d => obtain ⟨a, v, h1, h2, h3⟩ := ht; exact ⟨a, v, h1, e _ _ h2, h3⟩
theorem paired_app {α β : Type} {F : α → β → Prop} : ∀ {a : List α} {b : List β} {c : List α} {d : List β}, Paired F a b → Paired F c d → Paired F (a ++ c) (b ++ d)
  | _, _, _, _, .nil, h => h
  | _, _, _, _, .cons r t, h => .cons r (paired_app t h)
theorem paired_snoc {α β : Type} {F : α → β → Prop} : ∀ {a : List α} {b : List β} {y : β}, Paired F a (b ++ [y]) → ∃ a' x, a = a' ++ [x] ∧ Paired F a' b ∧ F x y
  | _, [], y, .cons r .nil => ⟨[], _, rfl, .nil, r⟩
  | _, b :: bs, y, .cons r t => by
    obtain ⟨a', x, e, h1, h2⟩ := paired_snoc (b := bs) t
    exact ⟨_ :: a', x, by rw [e]; rfl, .cons r h1, h2⟩
/-- the stack at l -/
structure Wt (K : PySem.W.Frag) (Hb H : Hp) (l : Addr) (st : List Tk) : Prop where
  new : Hb l = none
  same : Same Hb H
  at_ : ∃ xs, H l = some (.lst xs) ∧ StT K Hb H xs st
  ok : ∀ t ∈ st, t.ok
theorem Wt.after {K : PySem.W.Frag} {Hb H H' : Hp} {l : Addr} {st : List Tk} (W : Wt K Hb H l st) (e : Same H H') : Wt K Hb H' l st := by
  obtain ⟨xs, h1, h2⟩ := W.at_
  exact ⟨W.new, W.same.trans e, ⟨xs, e _ _ h1, h2.keep fun b ys q => e _ _ q⟩, W.ok⟩
theorem Wt.tup_ne {K : PySem.W.Frag} {Hb H : Hp} {l : Addr} {st : List Tk} (W : Wt K Hb H l st) {t : Addr} {ys : List V} (h : H t = some (.tup ys)) : t ≠ l := by
  obtain ⟨xs, h1, _⟩ := W.at_
  exact ne_of h h1 (by intro z; cases z)
/-- a list elsewhere changes -/
theorem Wt.side {K : PySem.W.Frag} {Hb H : Hp} {l fl : Addr} {st : List Tk} {zs ys : List V} (W : Wt K Hb H l st) (hf : Hb fl = none) (hz : H fl = some (.lst zs)) (ne : fl ≠ l) : Wt K Hb (upd H fl (.lst ys)) l st := by
  obtain ⟨xs, h1, h2⟩ := W.at_
  refine ⟨W.new, same_over W.same hf, ⟨xs, by rw [upd_ne ne.symm]; exact h1, h2.keep fun b zs' q => ?_⟩, W.ok⟩
  rw [upd_ne (ne_of q hz (by intro z; cases z))]
  exact q
/-- a new one is put behind: its tuple at p -/
theorem Wt.put {K : PySem.W.Frag} {Hb H : Hp} {l p : Addr} {st : List Tk} {xs ys : List V} {t : Tk} (W : Wt K Hb H l st) (hx : H l = some (.lst xs)) (np : H p = none) (ok : t.ok) (ht : ∀ H', H' p = some (.tup ys) → TkAt K Hb H' (.ref p) t) :
    Wt K Hb (upd (upd H p (.tup ys)) l (.lst (xs ++ [.ref p]))) l (st ++ [t]) := by
  obtain ⟨xs', h1, h2⟩ := W.at_
  have e : xs' = xs := by rw [hx] at h1; cases h1; rfl
  subst e
  have npl : p ≠ l := fun e => by rw [e, hx] at np; cases np
  refine ⟨W.new, same_over (W.same.trans (same_new np _)) W.new, ⟨_, upd_same, paired_app (h2.keep fun b zs q => ?_) (.cons (ht _ ?_) .nil)⟩, fun t' h => ?_⟩
  · rw [upd_ne (W.tup_ne q), upd_ne (ne_of_none q np)]; exact q
  · rw [upd_ne npl, upd_same]
  · rcases List.mem_append.mp h with h | h
    · exact W.ok t' h
    · rw [List.mem_singleton.mp h]; exact ok
end B1

set_option maxRecDepth 100000
set_option maxHeartbeats 4000000
namespace B1
open PySem PySem.Spec PyProof.Rows L2 TL K4
abbrev sTT : Stmt := top 34
theorem scTT : FnScope ["thing", "written", "waiting", "sort", "part", "at"] ["thing"] (defScope sTT) := ⟨rfl, rfl, rfl, by decide +kernel, rfl, by decide +kernel, by decide +kernel⟩
def spTT (K : PySem.W.Frag) : Sp := fun vs H Q _ => ∃ (v : V) (d : PyData), vs = [v] ∧ Dp K H v d ∧ okW d = true ∧ tw d ≤ 100000 ∧ (wr d).length ≤ 100000 ∧ ∀ H', Same H H' → Q (sg (wr d)) H'
/-- the signs of texts, one behind the other -/
def cat (zs : List Str) : List Nat := zs.flatMap tl
theorem cat_snoc (zs : List Str) (z : Str) : cat (zs ++ [z]) = cat zs ++ tl z := by unfold cat; simp
theorem joinL_nil : ∀ (l : List (List Nat)), joinL [] l = l.flatten
  | [] => rfl
  | [p] => by simp [joinL]
  | p :: q :: r => by
    show p ++ ([] ++ joinL [] (q :: r)) = _
    rw [joinL_nil (q :: r)]
    simp
theorem tl_join0 (zs : List Str) : tl (Txt.join "" zs) = cat zs := by
  rw [join_eq, tl_join]
  show joinL [] _ = _
  rw [joinL_nil]
  unfold cat
  rw [List.flatMap_def]
theorem sum_len (zs : List Str) : (zs.map (·.length)).sum = (cat zs).length := by
  induction zs with
  | nil => rfl
  | cons z zs ih =>
    show z.length + (zs.map (·.length)).sum = (tl z ++ cat zs).length
    rw [ih, List.length_append, tlen]
theorem len_twAll : ∀ ds : List PyData, ds.length ≤ twAll ds
  | [] => Nat.le_refl _
  | d :: ds => by
    have := len_twAll ds
    simp only [twAll, List.length_cons]; omega
theorem sgn_ne : decide (V.str "part" = V.str "sign") = false := by decide +kernel
theorem sgn_eq : decide (V.str "sign" = V.str "sign") = true := by decide +kernel
section
variable {P : Program} {w : World} {K : PySem.W.Frag} {mg : Str → Option Value} {base : Heap} {f g f2 : Addr} {fd gd fd2 : FuncData}
theorem ok_tt (F : Fun K "thing_text" "thing_text" sTT f fd) (B : Bl mg)
    (G : FnOk P w K mg base CX0 2 g gd ["thing"] (spLft K)) (bG : Binds K gd ["thing"] []) (kG : PySem.W.keepIn K (.ref g) = true) (mG : mg "leaf_text" = some (.ref g)) :
    FnOk P w K mg base CX0 3 f fd ["thing"] (spTT K) := by
  refine F.ok scTT (fun vs H Q E h => ?_) (fun cdv A outer s H vs Q E hr h => ?_)
  · obtain ⟨v, d, rfl, _⟩ := h
    rfl
  obtain ⟨v, d, rfl, hd, hok, htw, hwl, q⟩ := h
  refine ⟨_, (pss_cons (ps_set (i := 1) scTT.nd rfl (.inl rfl) (pe_lst pa_nil)) (pss_cons (ps_set (i := 2) scTT.nd rfl (.inl rfl) (pe_lst (pa_cons (pe_tup (pa_cons pe_str (pa_cons (pv 0) pa_nil))) pa_nil))) (pss_cons (ps_while PassesOwn.never (pt_truth (pv 2) (by intro _; rfl)) (pss_cons (ps_asg (pe_bm0 PySem.F.plainAttrs_list PySem.F.slot_list_pop PySem.F.type_list_pop mt_pop (pv 2)) (pg_tup (by rfl) (pgs_cons (pg_name (i := 3) scTT.nd rfl (.inl rfl)) (pgs_cons (pg_name (i := 4) scTT.nd rfl (.inl rfl)) pgs_nil)))) (pss_one (ps_if (pt_cmpR op_eq (pv 3) pe_str (nomark _)) (pss_one (ps_expr (pe_bm PySem.F.plainAttrs_list PySem.F.slot_list_append PySem.F.type_list_append mt_append (pv 1) (pa_cons (pv 4) pa_nil)))) (pss_one (ps_if (pt_val (pe_isD kit_T rfl B.isi rfl B.tuple bt_tuple (pv 4))) (pss_cons (ps_expr (pe_bm PySem.F.plainAttrs_list PySem.F.slot_list_append PySem.F.type_list_append mt_append (pv 2) (pa_cons (pe_tup (pa_cons pe_str (pa_cons pe_str pa_nil))) pa_nil))) (pss_cons (ps_for PassesOwn.never rfl (pi_revR rfl B.reversed (prg_1 rfl B.range (pe_callB call_len_seq rfl B.len bt_len (pa_cons (pv 4) pa_nil)))) (pg_name (i := 5) scTT.nd rfl (.inl rfl)) (pss_cons (ps_expr (pe_bm PySem.F.plainAttrs_list PySem.F.slot_list_append PySem.F.type_list_append mt_append (pv 2) (pa_cons (pe_tup (pa_cons pe_str (pa_cons (pe_ix ix_tup (pv 4) (pv 5) (fun _ _ => rfl)) pa_nil))) pa_nil))) (pss_one (ps_expr (pe_bm PySem.F.plainAttrs_list PySem.F.slot_list_append PySem.F.type_list_append mt_append (pv 2) (pa_cons (pe_tup (pa_cons pe_str (pa_cons (pe_ifExp (pt_cmpR op_gt (pv 5) pe_int (nomark _)) pe_str pe_str) pa_nil))) pa_nil)))))) (pss_one (ps_if (pt_not (pt_truth (pv 4) (by intro _; rfl))) (pss_one (ps_expr (pe_bm PySem.F.plainAttrs_list PySem.F.slot_list_append PySem.F.type_list_append mt_append (pv 2) (pa_cons (pe_tup (pa_cons pe_str (pa_cons pe_str pa_nil))) pa_nil)))) pss_nil)))) (pss_one (ps_expr (pe_bm PySem.F.plainAttrs_list PySem.F.slot_list_append PySem.F.type_list_append mt_append (pv 1) (pa_cons (pe_call G hr rfl mG kG bG .nil pass0 (pa_cons (pv 4) pa_nil)) pa_nil)))))))))) (pss_one (ps_ret (pe_join pe_str (pv 1))))))), ?_⟩
  refine ⟨Nat.zero_le _, fun fl hfl => ?_⟩
  have s1 : Same H (upd H fl (.lst [])) := same_new hfl _
  refine ⟨_, rfl, (by show 2 ≤ sizeLine; decide), fun t0 ht0 => ⟨(by show 1 ≤ sizeLine; decide), fun l hl => ?_⟩⟩
  have s2 := s1.trans (same_new ht0 (.tup [.str "part", v]))
  have nl : H l = none := s2.free hl
  have nlt : t0 ≠ l := fun e => by rw [← e, upd_same] at hl; cases hl
  have nft : fl ≠ t0 := fun e => by rw [← e, upd_same] at ht0; cases ht0
  have nfl : fl ≠ l := fun e => by rw [← e, upd_ne nft, upd_same] at hl; cases hl
  refine ⟨fun m σ H1 => ∃ (st : List Tk) (zs : List Str) (y3 y4 y5 : Option V), σ = [some v, some (.ref fl), some (.ref l), y3, y4, y5] ∧ Wt K H H1 l st ∧ m = stn st ∧ H1 fl = some (.lst (zs.map V.str)) ∧ zs.length + stn st ≤ 100000 ∧ cat zs ++ otxt st = wr d, ⟨_, [.part d], [], none, none, none, rfl, ?_, rfl, ?_, ?_, ?_⟩, ?_⟩
  · refine ⟨nl, same_over s2 nl, ⟨_, upd_same, .cons ⟨t0, v, rfl, by rw [upd_ne nlt]; exact upd_same, hd⟩ .nil⟩, fun t ht => ?_⟩
    rw [List.mem_singleton.mp ht]; exact hok
  · rw [upd_ne nfl, upd_ne nft, upd_same]; rfl
  · show 0 + (tw d + 0) ≤ 100000; omega
  · show [] ++ (wr d ++ []) = wr d; simp
  rintro m σ H1 ⟨st, zs, y3, y4, y5, rfl, W, rfl, hzs, hlen, htx⟩
  obtain ⟨xs, hxs, hstk⟩ := W.at_
  refine ⟨_, rfl, (!xs.isEmpty), .inl ⟨xs, SqL.of hxs, rfl⟩, ?_⟩
  rcases List.eq_nil_or_concat st with rfl | ⟨st', t, rfl⟩
  · cases hstk
    refine iteF ?_
    have htx : cat zs = wr d := by rw [← htx]; simp [otxt]
    refine ⟨⟨_, rfl⟩, _, rfl, _, fl, zs, rfl, rfl, .inl (SqL.of hzs), ?_, ?_⟩
    · rw [sum_len, htx]
      show _ + _ * 0 ≤ 16777216
      omega
    · refine str_to (q H1 W.same) (ext_tl ?_)
      rw [tl_join0, tl_mk, htx]
  · rw [List.concat_eq_append] at W hstk htx hlen ⊢
    obtain ⟨xs', x, rfl, hst', hx⟩ := paired_snoc hstk
    have hne : (!(xs' ++ [x]).isEmpty) = true := by simp
    rw [hne]
    refine iteT ?_
    rw [stn_snoc] at hlen ⊢
    rw [otxt_snoc] at htx
    refine ⟨fun σ' H' => ∃ (st2 : List Tk) (zs2 : List Str) (z3 z4 z5 : Option V), σ' = [some v, some (.ref fl), some (.ref l), z3, z4, z5] ∧ Wt K H H' l st2 ∧ stn st2 < stn st' + t.n ∧ H' fl = some (.lst (zs2.map V.str)) ∧ zs2.length + stn st2 ≤ 100000 ∧ cat zs2 ++ otxt st2 = wr d, fun σ' H' hN => ?_, ?_⟩
    · obtain ⟨st2, zs2, z3, z4, z5, e1, e2, e3, e4⟩ := hN
      exact ⟨stn st2, e3, st2, zs2, z3, z4, z5, e1, e2, rfl, e4⟩
    have hlast : (xs' ++ [x])[(xs' ++ [x]).length - 1]? = some x := by simp
    have hdrop : (xs' ++ [x]).dropLast = xs' := by simp
    refine ⟨_, rfl, .inl ⟨rfl, _, SqL.of hxs⟩, l, _, _, rfl, rfl, hxs, hlast, ?_⟩
    rw [hdrop]
    have W1 : Wt K H (upd H1 l (.lst xs')) l st' := ⟨W.new, same_over W.same W.new, ⟨xs', upd_same, StT.keep hst' fun b ys q => by rw [upd_ne (W.tup_ne q)]; exact q⟩, fun t' h => W.ok t' (List.mem_append_left _ h)⟩
    have hzs1 : (upd H1 l (.lst xs')) fl = some (.lst (zs.map V.str)) := by rw [upd_ne nfl]; exact hzs
    have hl1 : (upd H1 l (.lst xs')) l = some (.lst xs') := upd_same
    have tup1 : ∀ b ys, H1 b = some (.tup ys) → (upd H1 l (.lst xs')) b = some (.tup ys) := fun b ys q => by rw [upd_ne (W.tup_ne q)]; exact q
    have tok := W.ok t (List.mem_append_right _ (List.mem_singleton.mpr rfl))
    generalize upd H1 l (.lst xs') = H2 at W1 hzs1 hl1 tup1 ⊢
    have zl : zs.length ≤ 100000 := by omega
    cases t with
    | sign c =>
      obtain ⟨a, rfl, ha⟩ := hx
      refine ⟨a, _, rfl, SqT.of (tup1 _ _ ha), rfl, _, _, rfl, _, _, rfl, rfl, ?_⟩
      refine ⟨_, rfl, rfl, _, rfl, ?_⟩
      rw [sgn_eq]
      refine iteT ?_
      refine ⟨_, rfl, .inl ⟨rfl, _, SqL.of hzs1⟩, _, rfl, fl, _, _, rfl, rfl, hzs1, ?_, ?_⟩
      · rw [List.length_map]; exact smallM (by omega)
      · refine ⟨st', zs ++ [⟨#[c]⟩], _, _, _, rfl, W1.side hfl hzs1 nfl, by simp only [Tk.n]; omega, by rw [upd_same, List.map_append]; rfl, ?_, ?_⟩
        · rw [List.length_append, List.length_singleton]; simp only [Tk.n] at hlen; omega
        · rw [cat_snoc, List.append_assoc]; exact htx
    | part dp =>
      obtain ⟨a, u, rfl, ha, hu⟩ := hx
      refine ⟨a, _, rfl, SqT.of (tup1 _ _ ha), rfl, _, _, rfl, _, _, rfl, rfl, ?_⟩
      refine ⟨_, rfl, rfl, _, rfl, ?_⟩
      rw [sgn_ne]
      refine iteF ?_
      have hu2 := same_dp W1.same hu
      refine ⟨_, rfl, u, dp, rfl, hu2, _, rfl, ?_⟩
      have leafCase : okL dp = true → tw dp = 1 → tBM K "list" (fun x xs H Q => ∃ l acc v, x = V.ref l ∧ xs = [v] ∧ H l = some (.lst acc) ∧ acc.length < sizeLine ∧ Q .non (upd H l (.lst (acc ++ [v])))) (tVar 1) (tCons (tCall (spLft K) [] C8.E0 (tCons (tVar 4) tNil)) tNil) [some v, some (.ref fl), some (.ref l), some (.str "part"), some u, y5] H2 fun _ H' => ∃ (st2 : List Tk) (zs2 : List Str) (z3 z4 z5 : Option V), [some v, some (.ref fl), some (.ref l), some (.str "part"), some u, y5] = [some v, some (.ref fl), some (.ref l), z3, z4, z5] ∧ Wt K H H' l st2 ∧ stn st2 < stn st' + (Tk.part dp).n ∧ H' fl = some (.lst (zs2.map V.str)) ∧ zs2.length + stn st2 ≤ 100000 ∧ cat zs2 ++ otxt st2 = wr d := fun hL hT => by
        refine ⟨_, rfl, .inl ⟨rfl, _, SqL.of hzs1⟩, _, rfl, u, dp, rfl, hu2, hL, fun H3 s3 => ⟨fl, _, _, rfl, rfl, s3 _ _ hzs1, ?_, ?_⟩⟩
        · rw [List.length_map]; exact smallM (by omega)
        · refine ⟨st', zs ++ [⟨(wr dp).toArray⟩], _, _, _, rfl, (W1.after s3).side hfl (s3 _ _ hzs1) nfl, by show stn st' < stn st' + tw dp; omega, by rw [upd_same, List.map_append]; rfl, ?_, ?_⟩
          · rw [List.length_append, List.length_singleton]; simp only [Tk.n] at hlen; omega
          · rw [cat_snoc, List.append_assoc]; exact htx
      cases dp with
      | tuple ds =>
        refine iteT ?_
        have hoks : okWs ds = true := tok
        obtain ⟨ta, us, rfl, hsT, hD⟩ := Dp.tupD hu
        have len := dps_len hD
        have tws : tw (.tuple ds) = 3 + twAll ds := rfl
        simp only [Tk.n] at hlen
        have pl := fun k => stn_len (pushed k ds)
        have dsl := len_twAll ds
        have xl : xs'.length ≤ stn st' := by rw [Paired.length hst']; exact stn_len st'
        refine ⟨_, rfl, .inl ⟨rfl, _, SqL.of hl1⟩, (by show 2 ≤ sizeLine; decide), fun p np => ?_⟩
        have npl : p ≠ l := fun e => by rw [e, hl1] at np; cases np
        refine ⟨l, _, _, rfl, rfl, by rw [upd_ne npl.symm]; exact hl1, smallM (by omega), ?_⟩
        have W2 := W1.put hl1 np (t := .sign 41) (ys := [.str "sign", .str ")"]) trivial fun H' h => ⟨p, rfl, h⟩
        have nfp : fl ≠ p := fun e => by rw [e, np] at hzs1; cases hzs1
        have hzs2 : (upd (upd H2 p (.tup [.str "sign", .str ")"])) l (.lst (xs' ++ [.ref p]))) fl = some (.lst (zs.map V.str)) := by rw [upd_ne nfl, upd_ne nfp]; exact hzs1
        generalize upd (upd H2 p (.tup [.str "sign", .str ")"])) l (.lst (xs' ++ [.ref p])) = H3 at W2 hzs2 ⊢
        -- for at in reversed(range(len(part)))
        have sq3 : ∀ H', Same H H' → SqT K H' ta us := fun H' e => (Kept.of e).sqT hsT
        refine ⟨_, rfl, ta, us, rfl, .inr (sq3 _ W2.same), _, rfl, (by decide), (by decide), by omega, by omega, ?_⟩
        have eb : (((us.length : Nat) : Int) - 0).toNat = us.length := by omega
        rw [eb]
        have key : ∀ j, j < us.length → (0 : Int) + ((us.length : Nat) : Int) - 1 + ((j : Nat) : Int) * -1 = ((us.length - 1 - j : Nat) : Int) := fun j hj => by omega
        refine for_it walk_rangeC (fun j σ H' => ∃ z5, σ = [some v, some (.ref fl), some (.ref l), some (.str "part"), some (.ref ta), z5] ∧ Wt K H H' l ((st' ++ [.sign 41]) ++ pushed (us.length - j) (ds.drop (us.length - j))) ∧ H' fl = some (.lst (zs.map V.str))) ⟨_, rfl, ?_, hzs2⟩ (fun _ _ _ _ _ => trivial) ?_ ?_
        · rw [Nat.sub_zero, len, List.drop_length]
          show Wt K H H3 l (st' ++ [Tk.sign 41] ++ [])
          rw [List.append_nil]
          exact W2
        · rintro j x σ' H40 H4 hj ⟨z5, rfl, W4, hz4⟩ ⟨rfl, hxj⟩
          have hxj : x = V.int ((us.length - 1 - j : Nat) : Int) := hxj.trans (congrArg V.int (key j hj))
          subst hxj
          have hk : us.length - 1 - j < ds.length := by omega
          have e1 : us.length - j = (us.length - 1 - j) + 1 := by omega
          have e2 : us.length - (j + 1) = us.length - 1 - j := by omega
          generalize us.length - 1 - j = k at hk e1 e2 ⊢
          rw [e1] at W4
          obtain ⟨uv, hu1, hu2'⟩ := dps_get hD (List.getElem?_eq_getElem hk)
          have ed : ds.drop k = ds[k] :: ds.drop (k + 1) := List.drop_eq_getElem_cons hk
          have bound : stn ((st' ++ [.sign 41]) ++ pushed (k + 1) (ds.drop (k + 1))) + 2 ≤ 200000 := by
            rw [stn_append, stn_snoc, stn_pushed]
            have : ∀ (l : List PyData) (n : Nat), twAll (l.drop n) ≤ twAll l := fun l => by
              induction l with
              | nil => intro n; simp [twAll]
              | cons y l ih =>
                intro n
                cases n with
                | zero => simp
                | succ n =>
                  have := ih n
                  simp only [List.drop_succ_cons, twAll]
                  omega
            have := this ds (k + 1)
            simp only [Tk.n]
            omega
          obtain ⟨xs4, hl4, hs4⟩ := W4.at_
          have l4 : xs4.length + 2 ≤ 200000 := by
            rw [Paired.length hs4]
            have := stn_len ((st' ++ [.sign 41]) ++ pushed (k + 1) (ds.drop (k + 1)))
            omega
          refine ⟨_, rfl, .inl ⟨rfl, _, SqL.of hl4⟩, _, rfl, _, rfl, ta, us, _, uv, rfl, rfl, sq3 _ W4.same, atI_nat hu1, (by show 2 ≤ sizeLine; decide), fun p1 np1 => ?_⟩
          have np1l : p1 ≠ l := fun e => by rw [e, hl4] at np1; cases np1
          refine ⟨l, _, _, rfl, rfl, by rw [upd_ne np1l.symm]; exact hl4, smallM (by omega), ?_⟩
          have hok1 : okW ds[k] = true := okWs_mem hoks (List.getElem_mem hk)
          have W5 := W4.put hl4 np1 (t := .part ds[k]) (ys := [.str "part", uv]) hok1 fun H' h => ⟨p1, uv, rfl, h, hu2'⟩
          have nfp1 : fl ≠ p1 := fun e => by rw [e, np1] at hz4; cases hz4
          have hz5 : (upd (upd H4 p1 (.tup [.str "part", uv])) l (.lst (xs4 ++ [.ref p1]))) fl = some (.lst (zs.map V.str)) := by rw [upd_ne nfl, upd_ne nfp1]; exact hz4
          have hl5 : (upd (upd H4 p1 (.tup [.str "part", uv])) l (.lst (xs4 ++ [.ref p1]))) l = some (.lst (xs4 ++ [.ref p1])) := upd_same
          generalize upd (upd H4 p1 (.tup [.str "part", uv])) l (.lst (xs4 ++ [.ref p1])) = H5 at W5 hz5 hl5 ⊢
          have fin : ∀ (c : Nat) (x : Str), x = ⟨#[c]⟩ → c = (if k = 0 then 40 else 32) → ∀ p2, H5 p2 = none → (xs4 ++ [V.ref p1]).length < sizeLine ∧ (∃ z5, [some v, some (.ref fl), some (.ref l), some (.str "part"), some (.ref ta), some (.int ((k : Nat) : Int))] = [some v, some (.ref fl), some (.ref l), some (.str "part"), some (.ref ta), z5] ∧ Wt K H (upd (upd H5 p2 (.tup [.str "sign", .str x])) l (.lst ((xs4 ++ [V.ref p1]) ++ [.ref p2]))) l ((st' ++ [.sign 41]) ++ pushed (us.length - (j + 1)) (ds.drop (us.length - (j + 1)))) ∧ (upd (upd H5 p2 (.tup [.str "sign", .str x])) l (.lst ((xs4 ++ [V.ref p1]) ++ [.ref p2]))) fl = some (.lst (zs.map V.str))) := fun c x hx hc p2 np2 => by
            subst hx
            have nfp2 : fl ≠ p2 := fun e => by rw [e, np2] at hz5; cases hz5
            refine ⟨smallM (by rw [List.length_append, List.length_singleton]; omega), _, rfl, ?_, by rw [upd_ne nfl, upd_ne nfp2]; exact hz5⟩
            have W6 := W5.put hl5 np2 (t := .sign c) (ys := [.str "sign", .str ⟨#[c]⟩]) trivial fun H' h => ⟨p2, rfl, h⟩
            rw [e2, ed]
            show Wt K H _ l ((st' ++ [Tk.sign 41]) ++ (pushed (k + 1) (ds.drop (k + 1)) ++ [Tk.part ds[k], Tk.sign (if k = 0 then 40 else 32)]))
            rw [← hc]
            simpa using W6
          refine ⟨_, rfl, .inl ⟨rfl, _, SqL.of hl5⟩, _, rfl, _, _, rfl, rfl, _, rfl, ?_⟩
          refine ite2 (fun e => ?_) (fun e => ?_)
          · have e' := of_decide_eq_true e
            refine ⟨(by show 2 ≤ sizeLine; decide), fun p2 np2 => ?_⟩
            have np2l : p2 ≠ l := fun e => by rw [e, hl5] at np2; cases np2
            obtain ⟨f1, f2⟩ := fin 32 " " rfl (by rw [if_neg (by omega)]) p2 np2
            exact ⟨l, _, _, rfl, rfl, by rw [upd_ne np2l.symm]; exact hl5, f1, f2⟩
          · have e' := of_decide_eq_false (Bool.eq_false_iff.mpr e)
            refine ⟨(by show 2 ≤ sizeLine; decide), fun p2 np2 => ?_⟩
            have np2l : p2 ≠ l := fun e => by rw [e, hl5] at np2; cases np2
            obtain ⟨f1, f2⟩ := fin 40 "(" rfl (by rw [if_pos (by omega)]) p2 np2
            exact ⟨l, _, _, rfl, rfl, by rw [upd_ne np2l.symm]; exact hl5, f1, f2⟩
        · rintro σ' H4 ⟨z5, rfl, W4, hz4⟩
          rw [Nat.sub_self, List.drop_zero] at W4
          obtain ⟨xs4, hl4, hs4⟩ := W4.at_
          have b4 : stn ((st' ++ [Tk.sign 41]) ++ pushed 0 ds) = stn st' + 1 + twAll ds := by rw [stn_append, stn_snoc, stn_pushed]; rfl
          have l4 : xs4.length ≤ stn st' + 1 + twAll ds := by rw [Paired.length hs4, ← b4]; exact stn_len _
          refine ⟨_, rfl, (!us.isEmpty), .inr (.inl ⟨us, sq3 _ W4.same, rfl⟩), ?_⟩
          cases hds : ds with
          | nil =>
            rw [hds] at len b4 W4 htx
            have : us = [] := List.length_eq_zero_iff.mp len
            subst this
            refine iteT ?_
            refine ⟨_, rfl, .inl ⟨rfl, _, SqL.of hl4⟩, (by show 2 ≤ sizeLine; decide), fun p2 np2 => ?_⟩
            have np2l : p2 ≠ l := fun e => by rw [e, hl4] at np2; cases np2
            have nfp2 : fl ≠ p2 := fun e => by rw [e, np2] at hz4; cases hz4
            refine ⟨l, _, _, rfl, rfl, by rw [upd_ne np2l.symm]; exact hl4, smallM (by omega), ?_⟩
            have W5 := W4.put hl4 np2 (t := .sign 40) (ys := [.str "sign", .str "("]) trivial fun H' h => ⟨p2, rfl, h⟩
            refine ⟨_, zs, _, _, _, rfl, W5, ?_, by rw [upd_ne nfl, upd_ne nfp2]; exact hz4, ?_, ?_⟩
            · rw [stn_snoc, b4]; simp only [Tk.n, tw, twAll]; omega
            · rw [stn_snoc, b4]; rw [hds] at tws hlen; simp only [Tk.n, twAll] at tws hlen ⊢; omega
            · rw [← htx, otxt_snoc, otxt_append, otxt_snoc]; rfl
          | cons d1 ds1 =>
            rw [hds] at len b4 W4 htx
            have hus : us ≠ [] := fun e => by rw [e] at len; simp at len
            have hne : (!us.isEmpty) = true := by simpa using hus
            rw [hne]
            refine iteF ?_
            refine ⟨_, zs, _, _, _, rfl, W4, ?_, hz4, ?_, ?_⟩
            · rw [b4]; rw [← hds]; simp only [Tk.n]; omega
            · rw [b4]; rw [← hds]; omega
            · rw [← htx, otxt_append, otxt_snoc, otxt_pushed0]
              simp [Tk.txt, wr]
      | none => exact iteF (leafCase rfl rfl)
      | bool b => exact iteF (leafCase rfl rfl)
      | int i => exact iteF (leafCase tok rfl)
      | str x => exact iteF (leafCase tok rfl)
      | list xs => cases tok
      | dict xs => cases tok
end
end B1

set_option maxRecDepth 100000
set_option maxHeartbeats 4000000
namespace B1
open PySem PySem.Spec PyProof.Rows L2 TL K4
/-! ### texts cut -/
theorem cut_list (T : List Nat) (a b : Nat) : (T.drop (min a T.length)).take (min b T.length - min a T.length) = (T.drop a).take (b - a) := by
  by_cases h : a ≤ T.length
  · rw [Nat.min_eq_left h]
    by_cases hb : b ≤ T.length
    · rw [Nat.min_eq_left hb]
    · rw [Nat.min_eq_right (by omega), List.take_of_length_le (by rw [List.length_drop]; omega), List.take_of_length_le (by rw [List.length_drop]; omega)]
  · rw [Nat.min_eq_right (show T.length ≤ a by omega), List.drop_length, List.drop_eq_nil_of_le (show T.length ≤ a by omega), List.take_nil, List.take_nil]
theorem tl_cut (z : Str) (a b : Nat) : tl (cutS z (some (a : Int)) (some (b : Int))) = ((tl z).drop a).take (b - a) := by
  unfold cutS
  rw [tl_mk, HT.sIx_nat, HT.sIx_nat, len_tl]
  exact cut_list (tl z) a b
theorem tl_cut0 (z : Str) (b : Nat) : tl (cutS z none (some (b : Int))) = (tl z).take b := by
  unfold cutS
  rw [tl_mk, HT.sIx_nat, HT.sIx_none, len_tl]
  have := cut_list (tl z) 0 b
  rw [Nat.zero_min, Nat.sub_zero, Nat.sub_zero, List.drop_zero] at this
  rw [List.drop_zero, Nat.sub_zero]
  exact this
theorem sg_inj {l m : List Nat} : decide (sg l = sg m) = decide (l = m) := by
  by_cases h : l = m
  · rw [decide_eq_true h]; exact decide_eq_true (by rw [h])
  · rw [decide_eq_false h]; exact decide_eq_false fun e => h (by have := V.str.inj e; exact congrArg tl this)
theorem str_sg (x : Str) : V.str x = sg (tl x) := by show V.str x = V.str ⟨(tl x).toArray⟩; rw [mk_tl]
theorem one_inj (c e : Nat) : decide (V.str ⟨#[c]⟩ = V.str ⟨#[e]⟩) = decide (c = e) := by
  have : decide (sg [c] = sg [e]) = decide ([c] = [e]) := sg_inj
  show decide (sg [c] = sg [e]) = _
  rw [this]
  by_cases h : c = e
  · rw [h]; simp
  · simp [h]
/-- no sixty figures in a row -/
def Digs (T : List Nat) : Prop := ∀ a b c, T = a ++ b ++ c → (∀ x ∈ b, dig x = true) → b.length < 60
theorem Digs.run {T : List Nat} (h : Digs T) (k : Nat) : ((T.drop k).takeWhile dig).length < 60 := by
  refine h (T.take k) _ ((T.drop k).dropWhile dig) ?_ (take_dig _)
  rw [List.append_assoc, List.takeWhile_append_dropWhile, List.take_append_drop]
theorem run_at {p : Nat → Bool} : ∀ (L : List Nat) (j : Nat), j ≤ (L.takeWhile p).length → (∃ c, L[j]? = some c ∧ p c = true ∧ j < (L.takeWhile p).length) ∨ (j = (L.takeWhile p).length ∧ (L[j]? = none ∨ ∃ c, L[j]? = some c ∧ p c = false))
  | [], j, h => by
    have : j = 0 := by simpa using h
    subst this
    exact .inr ⟨rfl, .inl rfl⟩
  | c :: L, j, h => by
    cases hc : p c with
    | false =>
      rw [List.takeWhile_cons, hc] at h ⊢
      have : j = 0 := by simpa using h
      subst this
      exact .inr ⟨rfl, .inr ⟨c, rfl, hc⟩⟩
    | true =>
      rw [List.takeWhile_cons, hc] at h ⊢
      simp only [if_true, List.length_cons] at h ⊢
      cases j with
      | zero => exact .inl ⟨c, rfl, hc, by omega⟩
      | succ j =>
        rcases run_at (p := p) L j (by omega) with ⟨e, h1, h2, h3⟩ | ⟨h1, h2⟩
        · exact .inl ⟨e, by simpa using h1, h2, by omega⟩
        · refine .inr ⟨by omega, ?_⟩
          rcases h2 with h2 | ⟨e, h2, h3⟩
          · exact .inl (by simpa using h2)
          · exact .inr ⟨e, by simpa using h2, h3⟩
theorem run_take {p : Nat → Bool} (L : List Nat) : L.take (L.takeWhile p).length = L.takeWhile p ∧ L.drop (L.takeWhile p).length = L.dropWhile p := by
  have e := List.takeWhile_append_dropWhile (p := p) (l := L)
  constructor
  · conv => lhs; arg 2; rw [← e]
    rw [List.take_left]
  · conv => lhs; arg 2; rw [← e]
    rw [List.drop_left]
/-! ### what the reader has at its top -/
structure TabR {β : Type} (K : PySem.W.Frag) (w : World) (d : Addr) (R : Value → β → Prop) (T : List (Str × β)) (es : Array DictEntry) (n : Nat) : Prop where
  dict : KDict K w d es n
  rows : Paired (fun (e : DictEntry) (p : Str × β) => (∃ t, e.key = .str p.1 t) ∧ R e.val p.2) es.toList T
theorem tab_find {β : Type} {R : Value → β → Prop} (z : Str) : ∀ {l : List DictEntry} {T : List (Str × β)}, Paired (fun (e : DictEntry) (p : Str × β) => (∃ t, e.key = .str p.1 t) ∧ R e.val p.2) l T →
    (l.any (·.refKey) = false) ∧ ((∃ e b, l.find? (·.key.isStr z) = some e ∧ T.lookup z = some b ∧ R e.val b) ∨ (l.find? (·.key.isStr z) = none ∧ T.lookup z = none))
  | _, _, .nil => ⟨rfl, .inr ⟨rfl, rfl⟩⟩
  | e :: l, p :: T, .cons ⟨⟨t, hk⟩, hr⟩ r => by
    obtain ⟨h1, h2⟩ := tab_find z r
    have k1 : e.refKey = false := by
      unfold DictEntry.refKey; rw [hk]
    refine ⟨by rw [List.any_cons, k1, h1]; rfl, ?_⟩
    by_cases hz : z = p.1
    · refine .inl ⟨e, p.2, ?_, ?_, hr⟩
      · rw [List.find?_cons]
        have : e.key.isStr z = true := by rw [hk, hz, PySem.W.isStr_of]; exact L2.keyIs_str p.1 t
        rw [this]
      · obtain ⟨k, b⟩ := p
        simp only at hz
        subst hz
        simp [List.lookup]
    · have f1 : e.key.isStr z = false := by
        rw [hk, PySem.W.isStr_of]
        cases q : Value.isStrOf z (.str p.1 t) with
        | false => rfl
        | true =>
          obtain ⟨t', e'⟩ := Value.isStrOf_shape q
          injection e' with e1
          exact absurd e1.symm hz
      have f2 : ((p :: T).lookup z) = T.lookup z := by
        obtain ⟨k, b⟩ := p
        simp only [List.lookup]
        have : (z == k) = false := by simpa using hz
        rw [this]
      rw [List.find?_cons, f1, f2]
      exact h2
theorem TabR.look {β : Type} {K : PySem.W.Frag} {w : World} {d : Addr} {R : Value → β → Prop} {T : List (Str × β)} {es : Array DictEntry} {n : Nat} (t : TabR K w d R T es n) (z : Str) :
    (∃ u b, PySem.W.nsIn K d z = some (some u) ∧ T.lookup z = some b ∧ R u b) ∨ (PySem.W.nsIn K d z = some none ∧ T.lookup z = none) := by
  obtain ⟨h1, h2⟩ := tab_find z t.rows
  unfold PySem.W.nsIn
  rw [t.dict.at_]
  simp only
  rcases h2 with ⟨e, b, f1, f2, f3⟩ | ⟨f1, f2⟩
  · exact .inl ⟨e.val, b, by rw [f1], f2, f3⟩
  · refine .inr ⟨?_, f2⟩
    rw [f1, h1]
    rfl

def markT : List (Str × PyData) := [("T", .bool true), ("F", .bool false), ("N", .none)]
def RMark (u : Value) (d : PyData) : Prop := (∃ b, d = .bool b ∧ u = .bool b) ∨ (d = .none ∧ u = .none)
structure Rx (K : PySem.W.Frag) (w : World) (mg : Str → Option Value) (CT dM : Addr) (eM : Array DictEntry) (nM : Nat) : Prop where
  bl : Bl mg
  pc : ∃ t, mg "PIECE" = some (.int 60 t)
  pz : ∃ t, mg "PIECE_SIZE" = some (.int big t)
  fg : ∃ t, mg "FIGURES" = some (.str "0123456789" t)
  gM : mg "MARKS" = some (.ref dM)
  tM : TabR K w dM RMark markT eM nM
  gT : mg "NoText" = some (.ref CT)
  xT : PySem.W.excIn K CT [.type "ValueError", .type "Exception", .type "BaseException", .type "object"] "ValueError.__new__" = true
  kT : PySem.W.keepIn K (.ref CT) = true
  bT : PySem.W.subIn K (.ref CT) (.type "BaseException") = some true
  tT : PySem.W.typeIn K (.ref CT) = some (.type "type")
/-- what a reader gives: the thing and the place behind it, or NoText -/
def Res (K : PySem.W.Frag) (H : Hp) (T : List Nat) (o : Option (PyData × List Nat)) (CT : Addr) (Q : VK) (E : XK) : Prop :=
  (o = none → ∀ H', Same H H' → E (.ref CT) none H') ∧ ∀ d r, o = some (d, r) → ∀ (H' : Hp) (p : Addr) (v : V) (k : Nat), Same H H' → H' p = some (.tup [v, .int (k : Int)]) → Dp K H' v d → T.drop k = r → k ≤ T.length → Q (.ref p) H'
abbrev sNO : Stmt := top 35
abbrev sRN : Stmt := top 36
theorem scNO : FnScope ["figures", "first", "number", "at"] ["figures"] (defScope sNO) := ⟨rfl, rfl, rfl, by decide +kernel, rfl, by decide +kernel, by decide +kernel⟩
theorem scRN : FnScope ["text", "at", "begin", "behind", "figures", "number"] ["text", "at"] (defScope sRN) := ⟨rfl, rfl, rfl, by decide +kernel, rfl, by decide +kernel, by decide +kernel⟩
def spNO : Sp := fun vs H Q _ => ∃ x : Str, vs = [.str x] ∧ (∀ c ∈ tl x, dig c = true) ∧ tl x ≠ [] ∧ (tl x).length < 60 ∧ Q (.int ((NumText.digitsVal (tl x) : Nat) : Int)) H
def spRN (K : PySem.W.Frag) (CT : Addr) : Sp := fun vs H Q E => ∃ (x : Str) (k : Nat), vs = [.str x, .int (k : Int)] ∧ k < (tl x).length ∧ (tl x).length ≤ 100000 ∧ Digs (tl x) ∧ Res K H (tl x) (numP ((tl x).drop k)) CT Q E
section
variable {P : Program} {w : World} {K : PySem.W.Frag} {mg : Str → Option Value} {base : Heap} {f g f2 : Addr} {fd gd fd2 : FuncData} {CT dM : Addr} {eM : Array DictEntry} {nM : Nat}
theorem rg60 : ∀ n : Nat, n < 60 → Builtin.Range.small (n : Int) (n : Int) 60 = true ∧ Builtin.Range.rangeSize (n : Int) (n : Int) 60 = 0 := by decide +kernel
theorem ok_no (F : Fun K "number_of" "number_of" sNO f fd) (R : Rx K w mg CT dM eM nM) : FnOk P w K mg base CX0 1 f fd ["figures"] spNO := by
  have B := R.bl
  obtain ⟨t6, m6⟩ := R.pc
  refine F.ok scNO (fun vs H Q E h => ?_) (fun cdv A outer s H vs Q E hr h => ?_)
  · obtain ⟨x, rfl, _⟩ := h
    rfl
  obtain ⟨x, rfl, hd, hne, hl, q⟩ := h
  refine ⟨_, (pss_cons (ps_set (i := 1) scNO.nd rfl (.inl rfl) (pe_op op_sub (pe_callB call_len_str rfl B.len bt_len (pa_cons (pv 0) pa_nil)) (pe_op op_mul (pe_op op_fdiv (pe_callB call_len_str rfl B.len bt_len (pa_cons (pv 0) pa_nil)) (pe_glob (v := .int 60) rfl m6 ⟨_, rfl⟩)) (pe_glob (v := .int 60) rfl m6 ⟨_, rfl⟩)))) (pss_cons (ps_set (i := 2) scNO.nd rfl (.inl rfl) (pe_ifExp (pt_cmpR op_gt (pv 1) pe_int (nomark _)) (pe_callTy call_int_str rfl B.int bt_int (pa_cons (pe_slice sl_str (pv 0) po_none (po_some (pv 1))) pa_nil)) pe_int)) (pss_cons (ps_for PassesOwn.never rfl (pi_range3 rfl B.range (pa_cons (pv 1) (pa_cons (pe_callB call_len_str rfl B.len bt_len (pa_cons (pv 0) pa_nil)) (pa_cons (pe_glob (v := .int 60) rfl m6 ⟨_, rfl⟩) pa_nil)))) (pg_name (i := 3) scNO.nd rfl (.inl rfl)) pss_never) (pss_one (ps_ret (pv 2)))))), ?_⟩
  have xl : (x.length : Int) = ((tl x).length : Nat) := by rw [tlen]
  have lz : x.length ≤ sizeLine := smallM (by rw [← tlen]; omega) |> Nat.le_of_lt
  have pos : 0 < (tl x).length := List.length_pos_iff.mpr hne
  refine ⟨_, rfl, x, rfl, lz, _, rfl, x, rfl, lz, _, _, rfl, rfl, ⟨by decide, by decide⟩, _, _, rfl, rfl, .inr ⟨by decide, by decide⟩, _, _, rfl, rfl, ?_⟩
  have e1 : (x.length : Int) - (x.length : Int) / 60 * 60 = ((tl x).length : Nat) := by rw [xl]; omega
  dsimp only
  rw [e1]
  refine ⟨_, rfl, _, _, rfl, rfl, _, rfl, ?_⟩
  rw [decide_eq_true (by omega)]
  refine iteT ?_
  have ec : tl (cutS x none (some ((tl x).length : Int))) = tl x := by rw [tl_cut0, List.take_of_length_le (Nat.le_refl _)]
  refine ⟨_, rfl, _, rfl, _, rfl, x, rfl, lz, _, _, rfl, intText_digits (by show NumText.AllDigits (tl _); rw [ec]; exact all_dig hd) (by show tl _ ≠ []; rw [ec]; exact hne) ?_, ?_, ?_⟩
  · rw [len_tl, ec]; omega
  · rw [len_tl, ec]; omega
  rw [show (cutS x none (some ((tl x).length : Int))).cps.toList = tl x from ec]
  have k := rg60 (tl x).length hl
  refine ⟨_, rfl, _, rfl, x, rfl, lz, _, _, _, 0, rfl, ⟨by decide, by decide, by rw [xl]; exact k.1, by rw [xl]; exact k.2⟩, ?_⟩
  refine ⟨fun i m σ H' => i = 0 ∧ σ = [some (.str x), some (.int ((tl x).length : Nat)), some (.int ((NumText.digitsVal (tl x) : Nat) : Int)), none] ∧ H' = H, ⟨0, rfl, rfl, rfl⟩, ?_⟩
  rintro i m σ H' ⟨rfl, rfl, rfl⟩
  exact .inl ⟨Nat.le_refl _, _, rfl, q⟩
theorem fig_dig (c : Nat) : decide (c ∈ (Str.ofString "0123456789").cps.toList) = dig c := by
  have e : (Str.ofString "0123456789").cps.toList = [48, 49, 50, 51, 52, 53, 54, 55, 56, 57] := by decide +kernel
  rw [e]
  unfold dig
  rw [Bool.eq_iff_iff]
  simp only [decide_eq_true_eq, List.mem_cons, List.not_mem_nil, or_false, Bool.and_eq_true]
  omega
theorem atI_str {T : List Nat} {k c : Nat} (h : T[k]? = some c) : atI T (k : Int) = some c := atI_nat h
/-- begin: at + 1 if text[at] == '-' else at -/
def tBeg : TE := fun σ H Q => ∃ (x : Str) (k c : Nat), σ[0]? = some (some (.str x)) ∧ σ[1]? = some (some (.int (k : Int))) ∧ x.length ≤ sizeLine ∧ (tl x)[k]? = some c ∧ Q (.int ((if c = 45 then k + 1 else k : Nat) : Int)) H
theorem beg_of (σ : L2.St) (H : Hp) (Q : VK) (h : tBeg σ H Q) : tIf (tTest (tOp rEq (tOp rIxS (tVar 0) (tVar 1)) (tC (.str "-")))) (tOp (rI0 fun i j => .int (i + j)) (tVar 1) (tC (.int 1))) (tVar 1) σ H Q := by
  obtain ⟨x, k, c, h0, h1, hl, hc, q⟩ := h
  refine ⟨_, h0, _, h1, x, _, c, rfl, rfl, hl, atI_str hc, rfl, _, rfl, ?_⟩
  rw [show decide (V.str ⟨#[c]⟩ = V.str "-") = decide (c = 45) from one_inj c 45]
  by_cases e : c = 45
  · rw [if_pos e] at q
    rw [decide_eq_true e]
    exact iteT ⟨_, h1, _, _, rfl, rfl, q⟩
  · rw [if_neg e] at q
    rw [decide_eq_false e]
    exact iteF ⟨_, h1, q⟩
theorem pt_less {X : Cx} {e : Expr} {t t' : TT} (h : PT X e t) (k : ∀ σ H Q, t' σ H Q → t σ H Q) : PT X e t' := ⟨fun pins s σ H Q I q => h.run pins s σ H Q I (k σ H Q q)⟩
/-- behind < len(text) and text[behind] in FIGURES -/
def tDig (i : Nat) : TT := fun σ H Q => ∃ (x : Str) (q : Nat), σ[0]? = some (some (.str x)) ∧ σ[i]? = some (some (.int (q : Int))) ∧ x.length ≤ sizeLine ∧ Q (((tl x)[q]?).any dig) H
theorem dig_of (i : Nat) (σ : L2.St) (H : Hp) (Q : Bool → Hp → Prop) (h : tDig i σ H Q) : tAnd (tTest (tOp (rI0 fun i j => .bl (decide (i < j))) (tVar i) (tCB (fun xs H Q => ∃ z, xs = [V.str z] ∧ z.length ≤ sizeLine ∧ Q (V.int (z.length : Nat)) H) (tCons (tVar 0) tNil))))
    (tTest (tOp (fun x y H Q => ∃ (c : Nat) (z : Str), x = .str ⟨#[c]⟩ ∧ y = .str z ∧ Q (.bl (decide (c ∈ z.cps.toList))) H) (tOp rIxS (tVar 0) (tVar i)) (tC (.str "0123456789")))) σ H Q := by
  obtain ⟨x, q, h0, h1, hl, hq⟩ := h
  refine ⟨_, h1, _, h0, x, rfl, hl, _, _, rfl, rfl, _, rfl, ?_⟩
  have xl := tlen x
  cases hc : (tl x)[q]? with
  | none =>
    have := List.getElem?_eq_none_iff.mp hc
    rw [hc] at hq
    rw [decide_eq_false (by omega)]
    exact iteF hq
  | some c =>
    have := (List.getElem?_eq_some_iff.mp hc).1
    rw [hc] at hq
    rw [decide_eq_true (by omega)]
    refine iteT ⟨_, h0, _, h1, x, _, c, rfl, rfl, hl, atI_str hc, c, _, rfl, rfl, _, rfl, ?_⟩
    rw [fig_dig]
    exact hq
/-- figures == '' or (figures[0] == '0' and text[at:behind] != '0') -/
def tBad : TT := fun σ H Q => ∃ (x y : Str) (k q : Nat), σ[0]? = some (some (.str x)) ∧ σ[1]? = some (some (.int (k : Int))) ∧ σ[3]? = some (some (.int (q : Int))) ∧ σ[4]? = some (some (.str y)) ∧ x.length ≤ sizeLine ∧ y.length ≤ sizeLine ∧ Q (decide (tl y = [] ∨ ((tl y).head? = some 48 ∧ ((tl x).drop k).take (q - k) ≠ [48]))) H
theorem bad_of (σ : L2.St) (H : Hp) (Q : Bool → Hp → Prop) (h : tBad σ H Q) : tOr (tTest (tOp rEq (tVar 4) (tC (.str "")))) (tAnd (tTest (tOp rEq (tOp rIxS (tVar 4) (tC (.int 0))) (tC (.str "0")))) (tTest (tOp rNe (tSl rSlS (tVar 0) (tPart (tVar 1)) (tPart (tVar 3))) (tC (.str "0"))))) σ H Q := by
  obtain ⟨x, y, k, q, h0, h1, h3, h4, hx, hy, hq⟩ := h
  refine ⟨_, h4, rfl, _, rfl, ?_⟩
  rw [show decide (V.str y = V.str "") = decide (tl y = []) by rw [str_sg y]; exact sg_inj]
  cases hT : tl y with
  | nil =>
    rw [hT] at hq
    rw [decide_eq_true (.inl rfl)] at hq
    exact iteT hq
  | cons c r =>
    rw [hT] at hq
    refine iteF ⟨_, h4, y, 0, c, rfl, rfl, hy, atI_str (k := 0) (by show (tl y)[0]? = _; rw [hT]; rfl), rfl, _, rfl, ?_⟩
    rw [show decide (V.str ⟨#[c]⟩ = V.str "0") = decide (c = 48) from one_inj c 48]
    by_cases e : c = 48
    · rw [decide_eq_true e]
      refine iteT ⟨_, h0, _, h1, _, rfl, _, h3, _, rfl, x, rfl, hx, rfl, _, rfl, ?_⟩
      have e2 : (!decide (V.str (cutS x (some (k : Int)) (some (q : Int))) = V.str "0")) = !decide (((tl x).drop k).take (q - k) = [48]) := by
        rw [str_sg (cutS x _ _), tl_cut]
        exact congrArg _ sg_inj
      rw [e2]
      have e3 : decide (c :: r = [] ∨ ((c :: r).head? = some 48 ∧ ((tl x).drop k).take (q - k) ≠ [48])) = !decide (((tl x).drop k).take (q - k) = [48]) := by
        rw [e]
        simp
      rw [e3] at hq
      exact hq
    · rw [decide_eq_false e]
      have e3 : decide (c :: r = [] ∨ ((c :: r).head? = some 48 ∧ ((tl x).drop k).take (q - k) ≠ [48])) = false := by
        simp [e]
      rw [e3] at hq
      exact iteF hq
theorem ok_rn (F : Fun K "read_number" "read_number" sRN f fd) (R : Rx K w mg CT dM eM nM)
    (G : FnOk P w K mg base CX0 1 g gd ["figures"] spNO) (bG : Binds K gd ["figures"] []) (kG : PySem.W.keepIn K (.ref g) = true) (mG : mg "number_of" = some (.ref g)) :
    FnOk P w K mg base (L2.CX P w) 2 f fd ["text", "at"] (spRN K CT) := by
  have B := R.bl
  obtain ⟨tF, mF⟩ := R.fg
  refine F.okX scRN (fun vs H Q E h => ?_) (fun cdv A outer s H vs Q E hr h => ?_)
  · obtain ⟨x, k, rfl, _⟩ := h
    rfl
  obtain ⟨x, k, rfl, hk, hT, hD, qn, qs⟩ := h
  refine ⟨_, (pss_cons (ps_set (i := 2) scRN.nd rfl (.inl rfl) (pe_less (t' := tBeg) (pe_ifExp (pt_cmpR op_eq (pe_ix ix_str (pv 0) (pv 1) (fun _ _ => rfl)) pe_str (nomark _)) (pe_op op_add (pv 1) pe_int) (pv 1)) beg_of)) (pss_cons (ps_set (i := 3) scRN.nd rfl (.inl rfl) (pv 2)) (pss_cons (ps_while (passes_of rfl) (pt_less (t' := tDig 3) (PW.pt (pw_and (pt_cmpR op_lt (pv 3) (pe_callB call_len_str rfl B.len bt_len (pa_cons (pv 0) pa_nil)) (nomark _)) (pw_and1 (pt_cmpR op_in_sign (pe_ix ix_str (pv 0) (pv 3) (fun _ _ => rfl)) (pe_glob (v := .str "0123456789") rfl mF ⟨_, rfl⟩) rfl)))) (dig_of 3)) (pss_one (ps_aug (i := 3) scRN.nd rfl (.inl rfl) pe_int ip_add))) (pss_cons (ps_set (i := 4) scRN.nd rfl (.inl rfl) (pe_slice sl_str (pv 0) (po_some (pv 2)) (po_some (pv 3)))) (pss_cons (ps_if (pt_less (t' := tBad) (PW.pt (pw_or (pt_cmpR op_eq (pv 4) pe_str (nomark _)) (pw_or1 (PW.pt (pw_and (pt_cmpR op_eq (pe_ix ix_str (pv 4) pe_int (fun _ _ => rfl)) pe_str (nomark _)) (pw_and1 (pt_cmpR op_ne (pe_slice sl_str (pv 0) (po_some (pv 1)) (po_some (pv 3))) pe_str (nomark _)))))))) bad_of) (pss_one (ps_raise rfl (takes_of rfl rfl rfl rfl) (pmk_own PySem.F.excBase_ValueError R.xT R.gT R.kT (raises_own R.bT R.tT) rfl))) pss_nil) (pss_cons (ps_set (i := 5) scRN.nd rfl (.inl rfl) (pe_call G hr rfl mG kG bG .nil pass0 (pa_cons (pv 4) pa_nil))) (pss_one (ps_ret (pe_tup (pa_cons (pe_ifExp (pt_cmpR op_gt (pv 2) (pv 1) (nomark _)) (pe_un un_neg (pv 5)) (pv 5)) (pa_cons (pv 3) pa_nil))))))))))), ?_⟩
  have lz : x.length ≤ sizeLine := Nat.le_of_lt (smallM (by rw [← tlen]; omega))
  have xl := tlen x
  obtain ⟨c, hc⟩ : ∃ c, (tl x)[k]? = some c := ⟨_, List.getElem?_eq_getElem hk⟩
  have dk : (tl x).drop k = c :: (tl x).drop (k + 1) := by
    rw [List.drop_eq_getElem_cons hk]
    congr 1
    rw [List.getElem?_eq_getElem hk] at hc
    exact Option.some.inj hc
  refine ⟨x, k, c, rfl, rfl, lz, hc, ?_⟩
  obtain ⟨b, bi, hb, nP⟩ : ∃ b : Nat, (c = 45 ∧ b = k + 1 ∨ c ≠ 45 ∧ b = k) ∧ b ≤ (tl x).length ∧ numP ((tl x).drop k) = numB (decide (c = 45)) ((tl x).drop b) := by
    by_cases h45 : c = 45
    · exact ⟨k + 1, .inl ⟨h45, rfl⟩, by omega, by rw [dk, h45, numP_neg]; rfl⟩
    · refine ⟨k, .inr ⟨h45, rfl⟩, by omega, ?_⟩
      rw [decide_eq_false h45]
      exact numP_pos (by rw [dk]; intro z; exact h45 (Option.some.inj z))
  rw [nP] at qn qs
  have c60 := hD.run b
  obtain ⟨r1, r2⟩ := run_take (p := dig) ((tl x).drop b)
  have fl : b + (((tl x).drop b).takeWhile dig).length ≤ (tl x).length := by
    have := (List.takeWhile_prefix dig (l := (tl x).drop b)).length_le
    rw [List.length_drop] at this
    omega
  have fd := take_dig ((tl x).drop b)
  have rat := run_at (p := dig) ((tl x).drop b)
  have ecut : tl (cutS x (some (b : Int)) (some ((b + (((tl x).drop b).takeWhile dig).length : Nat) : Int))) = ((tl x).drop b).takeWhile dig := by
    rw [tl_cut, Nat.add_sub_cancel_left, r1]
  have ecut2 : tl (cutS x (some (k : Int)) (some ((b + (((tl x).drop b).takeWhile dig).length : Nat) : Int))) = (if c = 45 then [45] else []) ++ ((tl x).drop b).takeWhile dig := by
    rw [tl_cut]
    rcases bi with ⟨h1, h2⟩ | ⟨h1, h2⟩
    · rw [dk, if_pos h1, h1, show b + (((tl x).drop b).takeWhile dig).length - k = (((tl x).drop b).takeWhile dig).length + 1 by omega, List.take_succ_cons, ← h2, r1]
      rfl
    · rw [if_neg h1, show b + (((tl x).drop b).takeWhile dig).length - k = (((tl x).drop b).takeWhile dig).length by omega, ← h2, r1]
      rfl
  have edrop : (tl x).drop (b + (((tl x).drop b).takeWhile dig).length) = ((tl x).drop b).dropWhile dig := by rw [← r2, List.drop_drop]
  have eget : ∀ j : Nat, (tl x)[b + j]? = ((tl x).drop b)[j]? := fun j => by rw [List.getElem?_drop]
  generalize hFi : ((tl x).drop b).takeWhile dig = Fi at *
  generalize hFd : ((tl x).drop b).dropWhile dig = Fd at *
  have nB : numB (decide (c = 45)) ((tl x).drop b) = if Fi = [] ∨ (Fi.head? = some 48 ∧ (decide (c = 45) = true ∨ Fi ≠ [48])) then none else some (.int (if decide (c = 45) = true then -((NumText.digitsVal Fi : Nat) : Int) else ((NumText.digitsVal Fi : Nat) : Int)), Fd) := by
    unfold numB
    rw [hFi, hFd]
  rw [nB] at qn qs
  have eb : (if c = 45 then k + 1 else k) = b := by
    rcases bi with ⟨h1, h2⟩ | ⟨h1, h2⟩
    · rw [if_pos h1, h2]
    · rw [if_neg h1, h2]
  rw [eb]
  refine ⟨_, rfl, ?_⟩
  refine ⟨fun m σ H1 => ∃ j : Nat, j ≤ Fi.length ∧ m = Fi.length - j ∧ σ = [some (.str x), some (.int (k : Int)), some (.int (b : Int)), some (.int ((b + j : Nat) : Int)), none, none] ∧ H1 = H, ⟨Fi.length, 0, Nat.zero_le _, rfl, rfl, rfl⟩, ?_⟩
  rintro m σ H ⟨j, hj, rfl, rfl, rfl⟩
  refine ⟨x, b + j, rfl, rfl, lz, ?_⟩
  rw [eget j]
  rcases rat j hj with ⟨c', h1, h2, h3⟩ | ⟨h1, h2⟩
  · rw [h1]
    rw [show (some c').any dig = true from h2]
    refine iteT ⟨fun σ H1 => ∃ j' : Nat, j' ≤ Fi.length ∧ Fi.length - j' < Fi.length - j ∧ σ = [some (.str x), some (.int (k : Int)), some (.int (b : Int)), some (.int ((b + j' : Nat) : Int)), none, none] ∧ H1 = H, fun σ' H' ⟨j', a1, a2, a3, a4⟩ => ⟨_, a2, j', a1, rfl, a3, a4⟩, ?_⟩
    exact ⟨_, rfl, _, _, rfl, rfl, j + 1, by omega, by omega, rfl, rfl⟩
  · have e0 : (((tl x).drop b)[j]?).any dig = false := by
      rcases h2 with h2 | ⟨c', h2, h3⟩
      · rw [h2]; rfl
      · rw [h2]; exact h3
    rw [e0]
    refine iteF ?_
    subst h1
    refine ⟨_, rfl, _, rfl, _, rfl, _, rfl, _, rfl, x, rfl, lz, ?_⟩
    have fgl : (cutS x (some (b : Int)) (some ((b + Fi.length : Nat) : Int))).length = Fi.length := by rw [len_tl, ecut]
    refine ⟨x, _, k, b + Fi.length, rfl, rfl, rfl, rfl, lz, Nat.le_of_lt (smallM (by rw [fgl]; omega)), ?_⟩
    rw [ecut]
    have ez : ((tl x).drop k).take (b + Fi.length - k) = (if c = 45 then [45] else []) ++ Fi := by rw [← tl_cut]; exact ecut2
    rw [ez]
    have eqv : (Fi = [] ∨ (Fi.head? = some 48 ∧ (if c = 45 then [45] else []) ++ Fi ≠ [48])) ↔ (Fi = [] ∨ (Fi.head? = some 48 ∧ (decide (c = 45) = true ∨ Fi ≠ [48]))) := by
      by_cases h45 : c = 45
      · rw [if_pos h45, decide_eq_true h45]
        simp
      · rw [if_neg h45, decide_eq_false h45]
        simp
    by_cases hbad : Fi = [] ∨ (Fi.head? = some 48 ∧ (decide (c = 45) = true ∨ Fi ≠ [48]))
    · rw [decide_eq_true (eqv.mpr hbad)]
      rw [if_pos hbad] at qn
      exact iteT (qn rfl H (Same.refl H))
    · rw [decide_eq_false (fun z => hbad (eqv.mp z))]
      rw [if_neg hbad] at qs
      refine iteF ?_
      refine ⟨_, rfl, _, rfl, by rw [ecut]; exact fd, by rw [ecut]; exact fun z => hbad (.inl z), by rw [ecut]; exact c60, ?_⟩
      rw [ecut]
      have qs' := qs _ _ rfl
      refine ⟨_, rfl, _, rfl, _, _, rfl, rfl, _, rfl, ?_⟩
      by_cases h45 : c = 45
      · rw [decide_eq_true (by rw [if_pos h45] at eb; omega)]
        rw [decide_eq_true h45, if_pos rfl] at qs'
        refine iteT ⟨_, rfl, _, rfl, _, rfl, (by show 2 ≤ sizeLine; decide), fun p np => ?_⟩
        exact qs' _ p _ (b + Fi.length) (same_new np _) upd_same (.int _) edrop fl
      · rw [decide_eq_false (by rw [if_neg h45] at eb; omega)]
        rw [decide_eq_false h45, if_neg (by decide)] at qs'
        refine iteF ⟨_, rfl, _, rfl, (by show 2 ≤ sizeLine; decide), fun p np => ?_⟩
        exact qs' _ p _ (b + Fi.length) (same_new np _) upd_same (.int _) edrop fl
end
end B1

set_option maxRecDepth 100000
set_option maxHeartbeats 4000000
namespace B1
open PySem PySem.Spec PyProof.Rows L2 TL K4
section
variable {X : Cx}
theorem ps_less {st : Stmt} {t t' : TS} (h : PS X st t) (k : ∀ D σ H, t' D σ H → t D σ H) : PS X st t' := ⟨fun pins s σ H D I q => h.run pins s σ H D I (k D σ H q)⟩
/-- i += 1, i a place -/
def tInc (i : Nat) : TS := fun D σ H => ∃ a : Nat, σ[i]? = some (some (.int (a : Int))) ∧ D.nx (σ.set i (some (.int ((a + 1 : Nat) : Int)))) H
theorem ps_inc {i : Nat} {x : Str} {pos pos' p : Pos} {j : Nat} (nd : X.N.Nodup) (hi : X.N[i]? = some x) (hx : Loc X.env.scope x) (hf : X.fn x = true ∨ X.env.scope.names.lookup x = some .local := by first | exact .inl rfl | exact .inr rfl | assumption) :
    PS X (.AugAssign (.Name x pos') .Add (.Constant (.int 1) j p) pos) (tInc i) := ps_less (ps_aug nd hi hx pe_int ip_add (hf := hf)) fun D σ H ⟨a, h, q⟩ => ⟨_, h, _, _, rfl, rfl, q⟩
def tIncV (i : Nat) : TE := fun σ H Q => ∃ a : Nat, σ[i]? = some (some (.int (a : Int))) ∧ Q (.int ((a + 1 : Nat) : Int)) H
theorem incV_of (i : Nat) (σ : L2.St) (H : Hp) (Q : VK) (h : tIncV i σ H Q) : tOp (rI0 fun i j => .int (i + j)) (tVar i) (tC (.int 1)) σ H Q := by
  obtain ⟨a, h, q⟩ := h
  exact ⟨_, h, _, _, rfl, rfl, q⟩
end
abbrev sRQ : Stmt := top 37
theorem scRQ : FnScope ["text", "at", "signs", "read"] ["text", "at"] (defScope sRQ) := ⟨rfl, rfl, rfl, by decide +kernel, rfl, by decide +kernel, by decide +kernel⟩
def quoP (r : List Nat) : Option (PyData × List Nat) := match qd [] r with
  | none => none
  | some p => if short p.1 = true then some (.str ⟨p.1.toArray⟩, p.2) else none
def spRQ (K : PySem.W.Frag) (CT : Addr) : Sp := fun vs H Q E => ∃ (x : Str) (k : Nat), vs = [.str x, .int (k : Int)] ∧ k < (tl x).length ∧ (tl x).length ≤ 100000 ∧ Res K H (tl x) (quoP ((tl x).drop (k + 1))) CT Q E
/-- at < len(text) and text[at] != "'" -/
def tNq (i : Nat) : TT := fun σ H Q => ∃ (x : Str) (q : Nat), σ[0]? = some (some (.str x)) ∧ σ[i]? = some (some (.int (q : Int))) ∧ x.length ≤ sizeLine ∧ Q (((tl x)[q]?).any fun c => !decide (c = 39)) H
theorem nq_of (i : Nat) (σ : L2.St) (H : Hp) (Q : Bool → Hp → Prop) (h : tNq i σ H Q) : tAnd (tTest (tOp (rI0 fun i j => .bl (decide (i < j))) (tVar i) (tCB (fun xs H Q => ∃ z, xs = [V.str z] ∧ z.length ≤ sizeLine ∧ Q (V.int (z.length : Nat)) H) (tCons (tVar 0) tNil))))
    (tTest (tOp rNe (tOp rIxS (tVar 0) (tVar i)) (tC (.str "'")))) σ H Q := by
  obtain ⟨x, q, h0, h1, hl, hq⟩ := h
  refine ⟨_, h1, _, h0, x, rfl, hl, _, _, rfl, rfl, _, rfl, ?_⟩
  have xl := tlen x
  cases hc : (tl x)[q]? with
  | none =>
    have := List.getElem?_eq_none_iff.mp hc
    rw [hc] at hq
    rw [decide_eq_false (by omega)]
    exact iteF hq
  | some c =>
    have := (List.getElem?_eq_some_iff.mp hc).1
    rw [hc] at hq
    rw [decide_eq_true (by omega)]
    refine iteT ⟨_, h0, _, h1, x, _, c, rfl, rfl, hl, atI_str hc, rfl, _, rfl, ?_⟩
    rw [show decide (V.str ⟨#[c]⟩ = V.str "'") = decide (c = 39) from one_inj c 39]
    exact hq
theorem short_is (x : Str) : isShort (.str x) = short (tl x) := by
  rw [short_str]
  unfold short between
  rw [tlen]
theorem drop_at {T : List Nat} {a c : Nat} (h : T[a]? = some c) : T.drop a = c :: T.drop (a + 1) := by
  obtain ⟨h1, h2⟩ := List.getElem?_eq_some_iff.mp h
  rw [List.drop_eq_getElem_cons h1, h2]
theorem drop_end {T : List Nat} {a : Nat} (h : T[a]? = none) : T.drop a = [] := List.drop_eq_nil_of_le (List.getElem?_eq_none_iff.mp h)
theorem take1 {T : List Nat} {a : Nat} : (T.drop a).take (a + 1 - a) = match T[a]? with | some c => [c] | none => [] := by
  rw [Nat.add_sub_cancel_left]
  cases h : T[a]? with
  | none => rw [drop_end h]; rfl
  | some c => rw [drop_at h]; rfl
theorem qd_end (a : List Nat) : qd a [] = none := by simp [qd]
theorem qd_quote (a z : List Nat) : qd a (39 :: z) = some (a, z) := by cases z <;> simp [qd]
theorem qd_plain {c : Nat} (a z : List Nat) (h1 : c ≠ 39) (h2 : c ≠ 92) : qd a (c :: z) = qd (a ++ [c]) z := by
  cases z with
  | nil => simp [qd, h1]
  | cons e z => rw [qd2, if_neg h1, if_neg h2]
theorem qd_back1 (a : List Nat) : qd a [92] = none := by simp [qd]
theorem qd_back {e : Nat} (a z : List Nat) : qd a (92 :: e :: z) = if e = 92 ∨ e = 39 then qd (a ++ [e]) z else none := by rw [qd2, if_neg (by decide), if_pos rfl]
theorem beq_sg (m l : List Nat) : ((⟨m.toArray⟩ : Str) == ⟨l.toArray⟩) = decide (l = m) := by
  rw [Bool.eq_iff_iff, beq_iff_eq, decide_eq_true_eq]
  constructor
  · intro h; exact (congrArg tl h).symm
  · intro h; rw [h]
theorem in_two (l : List Nat) : inV (sg l) [V.str "\\", V.str "'"] = (decide (l = [92]) || decide (l = [39])) := by
  have e1 : eqV (V.str "\\") (sg l) = decide (l = [92]) := beq_sg [92] l
  have e2 : eqV (V.str "'") (sg l) = decide (l = [39]) := beq_sg [39] l
  unfold inV
  simp only [List.any_cons, List.any_nil, e1, e2, Bool.or_false]
section
variable {P : Program} {w : World} {K : PySem.W.Frag} {mg : Str → Option Value} {base : Heap} {f g f2 : Addr} {fd gd fd2 : FuncData} {CT dM : Addr} {eM : Array DictEntry} {nM : Nat}
theorem ok_rq (F : Fun K "read_quoted" "read_quoted" sRQ f fd) (R : Rx K w mg CT dM eM nM)
    (G : FnOk P w K mg base CX0 2 g gd ["thing"] (spShort K)) (bG : Binds K gd ["thing"] []) (kG : PySem.W.keepIn K (.ref g) = true) (mG : mg "is_short_text" = some (.ref g)) :
    FnOk P w K mg base (L2.CX P w) 3 f fd ["text", "at"] (spRQ K CT) := by
  have B := R.bl
  refine F.okX scRQ (fun vs H Q E h => ?_) (fun cdv A outer s H vs Q E hr h => ?_)
  · obtain ⟨x, k, rfl, _⟩ := h
    rfl
  obtain ⟨x, k, rfl, hk, hT, qn, qs⟩ := h
  refine ⟨_, (pss_cons (ps_set (i := 2) scRQ.nd rfl (.inl rfl) (pe_lst pa_nil)) (pss_cons (ps_inc (i := 1) scRQ.nd rfl (.inl rfl)) (pss_cons (ps_while (passes_of rfl) (pt_less (t' := tNq 1) (PW.pt (pw_and (pt_cmpR op_lt (pv 1) (pe_callB call_len_str rfl B.len bt_len (pa_cons (pv 0) pa_nil)) (nomark _)) (pw_and1 (pt_cmpR op_ne (pe_ix ix_str (pv 0) (pv 1) (fun _ _ => rfl)) pe_str (nomark _))))) (nq_of 1)) (pss_cons (ps_if (pt_cmpR op_eq (pe_ix ix_str (pv 0) (pv 1) (fun _ _ => rfl)) pe_str (nomark _)) (pss_cons (ps_inc (i := 1) scRQ.nd rfl (.inl rfl)) (pss_one (ps_if (pt_cmpR op_notIn_seq (pe_slice sl_str (pv 0) (po_some (pv 1)) (po_some (pe_less (t' := tIncV 1) (pe_op op_add (pv 1) pe_int) (incV_of 1)))) (pe_tup (pa_cons pe_str (pa_cons pe_str pa_nil))) rfl) (pss_one (ps_raise rfl (takes_of rfl rfl rfl rfl) (pmk_own PySem.F.excBase_ValueError R.xT R.gT R.kT (raises_own R.bT R.tT) rfl))) pss_nil))) pss_nil) (pss_cons (ps_expr (pe_bm PySem.F.plainAttrs_list PySem.F.slot_list_append PySem.F.type_list_append mt_append (pv 2) (pa_cons (pe_ix ix_str (pv 0) (pv 1) (fun _ _ => rfl)) pa_nil))) (pss_one (ps_inc (i := 1) scRQ.nd rfl (.inl rfl)))))) (pss_cons (ps_set (i := 3) scRQ.nd rfl (.inl rfl) (pe_join pe_str (pv 2))) (pss_cons (ps_if (PW.pt (pw_or (pt_cmpR op_ge (pv 1) (pe_callB call_len_str rfl B.len bt_len (pa_cons (pv 0) pa_nil)) (nomark _)) (pw_or1 (pt_not (pt_val (pe_call G hr rfl mG kG bG .nil pass0 (pa_cons (pv 3) pa_nil))))))) (pss_one (ps_raise rfl (takes_of rfl rfl rfl rfl) (pmk_own PySem.F.excBase_ValueError R.xT R.gT R.kT (raises_own R.bT R.tT) rfl))) pss_nil) (pss_one (ps_ret (pe_tup (pa_cons (pv 3) (pa_cons (pe_less (t' := tIncV 1) (pe_op op_add (pv 1) pe_int) (incV_of 1)) pa_nil)))))))))), ?_⟩
  have lz : x.length ≤ sizeLine := Nat.le_of_lt (smallM (by rw [← tlen]; omega))
  have xl := tlen x
  refine ⟨Nat.zero_le _, fun l hl => ?_⟩
  refine ⟨k, rfl, ?_⟩
  have s1 : Same H (upd H l (.lst [])) := same_new hl _
  refine ⟨fun m σ H1 => ∃ (a : Nat) (zs : List Str) , a ≤ (tl x).length ∧ m = (tl x).length - a ∧ σ = [some (.str x), some (.int (a : Int)), some (.ref l), none] ∧ Same H H1 ∧ H1 l = some (.lst (zs.map V.str)) ∧ zs.length ≤ a ∧ (cat zs).length ≤ a ∧ qd [] ((tl x).drop (k + 1)) = qd (cat zs) ((tl x).drop a), ⟨_, k + 1, [], by omega, rfl, rfl, s1, upd_same, by simp, by simp [cat], rfl⟩, ?_⟩
  rintro m σ H1 ⟨a, zs, ha, rfl, rfl, s2, hz, hzl, hcl, hq⟩
  refine ⟨x, a, rfl, rfl, lz, ?_⟩
  -- behind the loop
  have hsum : (zs.map (·.length)).sum + zs.length * (Str.ofString "").length ≤ 16777216 := by
    rw [sum_len]
    show _ + _ * 0 ≤ _
    omega
  have rdl : (Txt.join "" zs).length = (cat zs).length := by rw [len_tl, tl_join0]
  have goOn : ∀ (c : Nat) (a' : Nat) (c' : Nat), (tl x)[a']? = some c' → a < a' + 1 → qd (cat zs) ((tl x).drop a) = qd (cat zs ++ [c']) ((tl x).drop (a' + 1)) → zs.length < sizeLine ∧ ∃ (a2 : Nat) (zs2 : List Str), a2 ≤ (tl x).length ∧ (tl x).length - a2 < (tl x).length - a ∧ ([some (.str x), some (.int ((a' + 1 : Nat) : Int)), some (.ref l), none] : L2.St) = [some (.str x), some (.int (a2 : Int)), some (.ref l), none] ∧ zs2 = zs ++ [⟨#[c']⟩] ∧ zs2.length ≤ a2 ∧ (cat zs2).length ≤ a2 ∧ qd [] ((tl x).drop (k + 1)) = qd (cat zs2) ((tl x).drop a2) := fun c a' c' h1 h2 h3 => by
    have := (List.getElem?_eq_some_iff.mp h1).1
    refine ⟨smallM (by omega), a' + 1, zs ++ [⟨#[c']⟩], by omega, by omega, rfl, rfl, by rw [List.length_append, List.length_singleton]; omega, ?_, ?_⟩
    · rw [cat_snoc, List.length_append]; show _ + 1 ≤ _; omega
    · rw [cat_snoc, hq, h3]
  cases hc : (tl x)[a]? with
  | none =>
    refine iteF ?_
    have ge : (tl x).length ≤ a := List.getElem?_eq_none_iff.mp hc
    refine ⟨⟨_, rfl⟩, _, rfl, _, l, zs, rfl, rfl, .inl (SqL.of hz), hsum, ?_⟩
    refine ⟨_, rfl, _, rfl, x, rfl, lz, _, _, rfl, rfl, _, rfl, ?_⟩
    rw [decide_eq_true (by omega)]
    refine iteT (qn ?_ H1 s2)
    unfold quoP
    rw [hq, drop_end hc, qd_end]
  | some c =>
    by_cases h39 : c = 39
    · subst h39
      refine iteF ?_
      have lt := (List.getElem?_eq_some_iff.mp hc).1
      refine ⟨⟨_, rfl⟩, _, rfl, _, l, zs, rfl, rfl, .inl (SqL.of hz), hsum, ?_⟩
      refine ⟨_, rfl, _, rfl, x, rfl, lz, _, _, rfl, rfl, _, rfl, ?_⟩
      rw [decide_eq_false (by omega)]
      refine iteF ⟨_, rfl, _, .str (Txt.join "" zs), rfl, .str _, fun y e => ?_, fun H2 s3 => ⟨_, rfl, ?_⟩⟩
      · cases e; rw [rdl]; omega
      rw [short_is, tl_join0]
      have eq : quoP ((tl x).drop (k + 1)) = if short (cat zs) = true then some (.str ⟨(cat zs).toArray⟩, (tl x).drop (a + 1)) else none := by
        unfold quoP
        rw [hq, drop_at hc, qd_quote]
      rw [eq] at qn qs
      cases hs : short (cat zs) with
      | false =>
        rw [hs] at qn
        exact iteT (qn rfl H2 (s2.trans s3))
      | true =>
        rw [hs] at qs
        refine iteF ⟨_, rfl, a, rfl, (by show 2 ≤ sizeLine; decide), fun p np => ?_⟩
        refine qs _ _ rfl _ p _ (a + 1) ((s2.trans s3).trans (same_new np _)) upd_same ?_ rfl (by omega)
        have : Txt.join "" zs = ⟨(cat zs).toArray⟩ := ext_tl (by rw [tl_join0])
        rw [← this]
        exact .str _
    · rw [show (some c).any (fun c => !decide (c = 39)) = true by simp [h39]]
      refine iteT ⟨fun σ' H' => ∃ (a2 : Nat) (zs2 : List Str), a2 ≤ (tl x).length ∧ (tl x).length - a2 < (tl x).length - a ∧ σ' = [some (.str x), some (.int (a2 : Int)), some (.ref l), none] ∧ Same H H' ∧ H' l = some (.lst (zs2.map V.str)) ∧ zs2.length ≤ a2 ∧ (cat zs2).length ≤ a2 ∧ qd [] ((tl x).drop (k + 1)) = qd (cat zs2) ((tl x).drop a2), fun σ' H' ⟨a2, zs2, h1, h2, h3⟩ => ⟨_, h2, a2, zs2, h1, rfl, h3⟩, ?_⟩
      refine ⟨_, rfl, _, rfl, x, _, c, rfl, rfl, lz, atI_str hc, rfl, _, rfl, ?_⟩
      rw [show decide (V.str ⟨#[c]⟩ = V.str "\\") = decide (c = 92) from one_inj c 92]
      have put : ∀ (a' c' : Nat), (tl x)[a']? = some c' → a < a' + 1 → qd (cat zs) ((tl x).drop a) = qd (cat zs ++ [c']) ((tl x).drop (a' + 1)) → ∀ H2, Same H H2 → H2 l = some (.lst (zs.map V.str)) → tSeq (tDrop (tBM K "list" rAppend (tVar 2) (tCons (tOp rIxS (tVar 0) (tVar 1)) tNil))) (tInc 1) { nx := fun σ' H' => ∃ (a2 : Nat) (zs2 : List Str), a2 ≤ (tl x).length ∧ (tl x).length - a2 < (tl x).length - a ∧ σ' = [some (.str x), some (.int (a2 : Int)), some (.ref l), none] ∧ Same H H' ∧ H' l = some (.lst (zs2.map V.str)) ∧ zs2.length ≤ a2 ∧ (cat zs2).length ≤ a2 ∧ qd [] ((tl x).drop (k + 1)) = qd (cat zs2) ((tl x).drop a2), rt := Q } [some (.str x), some (.int (a' : Int)), some (.ref l), none] H2 := fun a' c' h1 h2 h3 H2 s3 hz2 => by
        obtain ⟨g1, a2, zs2, g2, g3, g4, rfl, g5⟩ := goOn c a' c' h1 h2 h3
        refine ⟨_, rfl, .inl ⟨rfl, _, SqL.of hz2⟩, _, rfl, _, rfl, x, _, c', rfl, rfl, lz, atI_str h1, l, _, _, rfl, rfl, hz2, by rw [List.length_map]; exact g1, a', rfl, a2, _, g2, g3, g4, same_over s3 hl, by rw [upd_same, List.map_append]; rfl, g5⟩
      by_cases h92 : c = 92
      · rw [decide_eq_true h92]
        refine iteT ⟨a, rfl, ?_⟩
        refine ⟨_, rfl, _, rfl, _, rfl, a + 1, rfl, _, rfl, x, rfl, lz, (by show 2 ≤ sizeLine; decide), fun p np => ⟨p, _, rfl, .inr (SqT.of upd_same), rfl, (by decide +kernel), _, rfl, ?_⟩⟩
        have e1 : inV (V.str (cutS x (some ((a + 1 : Nat) : Int)) (some ((a + 1 + 1 : Nat) : Int)))) [V.str "\\", V.str "'"] = (decide (((tl x).drop (a + 1)).take (a + 1 + 1 - (a + 1)) = [92]) || decide (((tl x).drop (a + 1)).take (a + 1 + 1 - (a + 1)) = [39])) := by
          rw [str_sg (cutS x _ _), tl_cut]
          exact in_two _
        simp only [if_true]
        rw [e1, take1]
        have s3 : Same H (upd H1 p (.tup [.str "\\", .str "'"])) := s2.trans (same_new np _)
        have dz : (tl x).drop a = 92 :: (tl x).drop (a + 1) := by rw [drop_at hc, h92]
        have npl : p ≠ l := fun e => by rw [e, hz] at np; cases np
        cases hc2 : (tl x)[a + 1]? with
        | none =>
          refine iteT (qn ?_ _ s3)
          unfold quoP
          rw [hq, dz, drop_end hc2, qd_back1]
        | some e =>
          by_cases he : e = 92 ∨ e = 39
          · have : (!(decide ([e] = [92]) || decide ([e] = [39]))) = false := by
              rcases he with rfl | rfl <;> rfl
            rw [this]
            refine iteF ?_
            refine put (a + 1) e hc2 (by omega) ?_ _ s3 (by rw [upd_ne npl.symm]; exact hz)
            rw [dz, drop_at hc2, qd_back, if_pos he]
          · have : (!(decide ([e] = [92]) || decide ([e] = [39]))) = true := by
              have h1 : e ≠ 92 := fun z => he (.inl z)
              have h2 : e ≠ 39 := fun z => he (.inr z)
              simp [h1, h2]
            rw [this]
            refine iteT (qn ?_ _ s3)
            unfold quoP
            rw [hq, dz, drop_at hc2, qd_back, if_neg he]
      · rw [decide_eq_false h92]
        refine iteF ?_
        refine put a c hc (by omega) ?_ _ s2 hz
        rw [drop_at hc, qd_plain _ _ h39 h92]
end
end B1

set_option maxRecDepth 100000
set_option maxHeartbeats 4000000
namespace B1
open PySem PySem.Spec PyProof.Rows L2 TL K4
abbrev sRL : Stmt := top 38
theorem scRL : FnScope ["text", "at", "sign"] ["text", "at"] (defScope sRL) := ⟨rfl, rfl, rfl, by decide +kernel, rfl, by decide +kernel, by decide +kernel⟩
def spRL (K : PySem.W.Frag) (CT : Addr) : Sp := fun vs H Q E => ∃ (x : Str) (k : Nat), vs = [.str x, .int (k : Int)] ∧ k ≤ (tl x).length ∧ (tl x).length ≤ 100000 ∧ Digs (tl x) ∧ Res K H (tl x) (leafP ((tl x).drop k)) CT Q E
def tPlus (i n : Nat) : TE := fun σ H Q => ∃ a : Nat, σ[i]? = some (some (.int (a : Int))) ∧ Q (.int ((a + n : Nat) : Int)) H
theorem plus2_of (i : Nat) (σ : L2.St) (H : Hp) (Q : VK) (h : tPlus i 2 σ H Q) : tOp (rI0 fun i j => .int (i + j)) (tVar i) (tC (.int 2)) σ H Q := by
  obtain ⟨a, h, q⟩ := h
  exact ⟨_, h, _, _, rfl, rfl, q⟩
theorem take2 {T : List Nat} {a : Nat} : (T.drop a).take (a + 2 - a) = (T.drop a).take 2 := by rw [Nat.add_sub_cancel_left]
theorem mark_no {c : Nat} (h1 : c ≠ 84) (h2 : c ≠ 70) (h3 : c ≠ 78) : markT.lookup ⟨#[c]⟩ = none := by
  have ne : ∀ e : Nat, c ≠ e → ((⟨#[c]⟩ : Str) == ⟨#[e]⟩) = false := fun e h => by
    have : ((⟨[c].toArray⟩ : Str) == ⟨[e].toArray⟩) = decide ([e] = [c]) := beq_sg [c] [e]
    rw [show ((⟨#[c]⟩ : Str) == ⟨#[e]⟩) = ((⟨[c].toArray⟩ : Str) == ⟨[e].toArray⟩) from rfl, this]
    exact decide_eq_false fun z => h (List.cons.inj z).1.symm
  show List.lookup (⟨#[c]⟩ : Str) ([(⟨#[84]⟩, .bool true), (⟨#[70]⟩, .bool false), (⟨#[78]⟩, .none)] : List (Str × PyData)) = none
  simp only [List.lookup, ne _ h1, ne _ h2, ne _ h3]
theorem mark_empty : markT.lookup ⟨#[]⟩ = none := by decide +kernel
theorem minus_fig (c : Nat) : decide (c ∈ (Str.ofString "-" ++ Str.ofString "0123456789").cps.toList) = (decide (c = 45) || dig c) := by
  have e : (Str.ofString "-" ++ Str.ofString "0123456789").cps.toList = [45, 48, 49, 50, 51, 52, 53, 54, 55, 56, 57] := by decide +kernel
  rw [e]
  unfold dig
  rw [Bool.eq_iff_iff]
  simp only [decide_eq_true_eq, List.mem_cons, List.not_mem_nil, or_false, Bool.and_eq_true, Bool.or_eq_true]
  omega
theorem leaf_q (r : List Nat) : leafP (39 :: r) = quoP r := by
  unfold quoP
  simp only [leafP, if_true]
  all_goals (cases qd [] r <;> rfl)
theorem leaf_e {c : Nat} {r : List Nat} (h : c ≠ 39) (h2 : c = 40 ∧ r.head? = some 41) : leafP (c :: r) = some (.tuple [], r.tail) := by
  simp only [leafP]
  rw [if_neg h, if_pos h2]
theorem leaf_m {c : Nat} {r : List Nat} {d : PyData} (h : c ≠ 39) (h2 : ¬ (c = 40 ∧ r.head? = some 41)) (hm : markT.lookup ⟨#[c]⟩ = some d) : leafP (c :: r) = some (d, r) := by
  simp only [leafP]
  rw [if_neg h, if_neg h2]
  by_cases h84 : c = 84
  · subst h84
    have : markT.lookup ⟨#[84]⟩ = some (.bool true) := by rfl
    rw [this] at hm
    cases hm
    rw [if_pos rfl]
  · rw [if_neg h84]
    by_cases h70 : c = 70
    · subst h70
      have : markT.lookup ⟨#[70]⟩ = some (.bool false) := by rfl
      rw [this] at hm
      cases hm
      rw [if_pos rfl]
    · rw [if_neg h70]
      by_cases h78 : c = 78
      · subst h78
        have : markT.lookup ⟨#[78]⟩ = some PyData.none := by rfl
        rw [this] at hm
        cases hm
        rw [if_pos rfl]
      · rw [mark_no h84 h70 h78] at hm
        cases hm
theorem leaf_n {c : Nat} {r : List Nat} (h : c ≠ 39) (h2 : ¬ (c = 40 ∧ r.head? = some 41)) (hm : markT.lookup ⟨#[c]⟩ = none) : leafP (c :: r) = if c = 45 ∨ dig c = true then numP (c :: r) else none := by
  have h84 : c ≠ 84 := fun e => by subst e; revert hm; decide +kernel
  have h70 : c ≠ 70 := fun e => by subst e; revert hm; decide +kernel
  have h78 : c ≠ 78 := fun e => by subst e; revert hm; decide +kernel
  simp only [leafP]
  rw [if_neg h, if_neg h2, if_neg h84, if_neg h70, if_neg h78]
section
variable {P : Program} {w : World} {K : PySem.W.Frag} {mg : Str → Option Value} {base : Heap} {f g f2 : Addr} {fd gd fd2 : FuncData} {CT dM : Addr} {eM : Array DictEntry} {nM : Nat}
theorem ok_rl (F : Fun K "read_leaf" "read_leaf" sRL f fd) (R : Rx K w mg CT dM eM nM)
    (G : FnOk P w K mg base (L2.CX P w) 3 g gd ["text", "at"] (spRQ K CT)) (bG : Binds K gd ["text", "at"] []) (kG : PySem.W.keepIn K (.ref g) = true) (mG : mg "read_quoted" = some (.ref g))
    (G2 : FnOk P w K mg base (L2.CX P w) 2 f2 fd2 ["text", "at"] (spRN K CT)) (bG2 : Binds K fd2 ["text", "at"] []) (kG2 : PySem.W.keepIn K (.ref f2) = true) (mG2 : mg "read_number" = some (.ref f2)) :
    FnOk P w K mg base (L2.CX P w) 4 f fd ["text", "at"] (spRL K CT) := by
  have B := R.bl
  obtain ⟨tF, mF⟩ := R.fg
  refine F.okX scRL (fun vs H Q E h => ?_) (fun cdv A outer s H vs Q E hr h => ?_)
  · obtain ⟨x, k, rfl, _⟩ := h
    rfl
  obtain ⟨x, k, rfl, hk, hT, hD, qn, qs⟩ := h
  refine ⟨_, (pss_cons (ps_set (i := 2) scRL.nd rfl (.inl rfl) (pe_slice sl_str (pv 0) (po_some (pv 1)) (po_some (pe_less (t' := tIncV 1) (pe_op op_add (pv 1) pe_int) (incV_of 1))))) (pss_cons (ps_if (pt_cmpR op_eq (pv 2) pe_str (nomark _)) (pss_one (ps_ret (pe_call G hr rfl mG kG bG .nil (passes_call (takes_of rfl rfl rfl rfl) (fun _ _ _ _ h => h)) (pa_cons (pv 0) (pa_cons (pv 1) pa_nil))))) pss_nil) (pss_cons (ps_if (pt_cmpR op_eq (pe_slice sl_str (pv 0) (po_some (pv 1)) (po_some (pe_less (t' := tPlus 1 2) (pe_op op_add (pv 1) pe_int) (plus2_of 1)))) pe_str (nomark _)) (pss_one (ps_ret (pe_tup (pa_cons (pe_tup pa_nil) (pa_cons (pe_less (t' := tPlus 1 2) (pe_op op_add (pv 1) pe_int) (plus2_of 1)) pa_nil))))) pss_nil) (pss_cons (ps_if (pt_cmpR (op_in_kd R.tM.dict) (pv 2) (pe_glob (v := .ref dM) rfl R.gM rfl) rfl) (pss_one (ps_ret (pe_tup (pa_cons (pe_ix (show IxR _ (rIxD K w) from ix_kdict) (pe_glob (v := .ref dM) rfl R.gM rfl) (pv 2) (fun _ _ => rfl)) (pa_cons (pe_less (t' := tIncV 1) (pe_op op_add (pv 1) pe_int) (incV_of 1)) pa_nil))))) pss_nil) (pss_cons (ps_if (PW.pt (pw_or (pt_cmpR op_eq (pv 2) pe_str (nomark _)) (pw_or1 (pt_cmpR op_notIn_sign (pv 2) (pe_op op_add_str pe_str (pe_glob (v := .str "0123456789") rfl mF ⟨_, rfl⟩)) rfl)))) (pss_one (ps_raise rfl (takes_of rfl rfl rfl rfl) (pmk_own PySem.F.excBase_ValueError R.xT R.gT R.kT (raises_own R.bT R.tT) rfl))) pss_nil) (pss_one (ps_ret (pe_call G2 (hr.mono (by decide)) rfl mG2 kG2 bG2 .nil (passes_call (takes_of rfl rfl rfl rfl) (fun _ _ _ _ h => h)) (pa_cons (pv 0) (pa_cons (pv 1) pa_nil)))))))))), ?_⟩
  have lz : x.length ≤ sizeLine := Nat.le_of_lt (smallM (by rw [← tlen]; omega))
  have xl := tlen x
  refine ⟨_, rfl, _, rfl, _, rfl, k, rfl, _, rfl, x, rfl, lz, ?_⟩
  have esg : V.str (cutS x (some (k : Int)) (some ((k + 1 : Nat) : Int))) = sg (match (tl x)[k]? with | some c => [c] | none => []) := by rw [str_sg (cutS x _ _), tl_cut, take1]; all_goals (cases (tl x)[k]? <;> rfl)
  rw [esg]
  have e2 : decide (V.str (cutS x (some (k : Int)) (some ((k + 2 : Nat) : Int))) = V.str "()") = decide (((tl x).drop k).take 2 = [40, 41]) := by
    rw [str_sg (cutS x _ _), tl_cut, take2]
    exact sg_inj
  cases hc : (tl x)[k]? with
  | none =>
    have dz := drop_end hc
    rw [dz] at qn
    refine ⟨_, rfl, rfl, _, rfl, ?_⟩
    rw [show decide (sg [] = V.str "'") = decide (([] : List Nat) = [39]) from sg_inj]
    refine iteF ⟨_, rfl, _, rfl, _, rfl, k, rfl, _, rfl, x, rfl, lz, rfl, _, rfl, ?_⟩
    rw [e2, dz]
    refine iteF ?_
    rcases R.tM.look ⟨#[]⟩ with ⟨u, b, f1, f2, _⟩ | ⟨f1, _⟩
    · rw [mark_empty] at f2; cases f2
    · refine ⟨_, rfl, _, _, rfl, rfl, f1, _, rfl, iteF ?_⟩
      refine ⟨_, rfl, rfl, _, rfl, ?_⟩
      rw [show decide (sg [] = V.str "") = decide (([] : List Nat) = []) from sg_inj]
      exact iteT (qn rfl H (Same.refl H))
  | some c =>
    have lt := (List.getElem?_eq_some_iff.mp hc).1
    have dz := drop_at hc
    rw [dz] at qn qs e2
    show tSeq _ _ _ _ _
    refine ⟨_, rfl, rfl, _, rfl, ?_⟩
    rw [show decide (sg [c] = V.str "'") = decide (c = 39) from one_inj c 39]
    by_cases h39 : c = 39
    · subst h39
      refine iteT ⟨_, rfl, _, rfl, x, k, rfl, lt, hT, ?_⟩
      rw [leaf_q] at qn qs
      exact ⟨qn, qs⟩
    · rw [decide_eq_false h39]
      refine iteF ⟨_, rfl, _, rfl, _, rfl, k, rfl, _, rfl, x, rfl, lz, rfl, _, rfl, ?_⟩
      rw [e2]
      by_cases hp : c = 40 ∧ ((tl x).drop (k + 1)).head? = some 41
      · obtain ⟨r, hr41⟩ : ∃ r, (tl x).drop (k + 1) = 41 :: r := by
          cases q : (tl x).drop (k + 1) with
          | nil => rw [q] at hp; cases hp.2
          | cons e r => rw [q] at hp; cases hp.2; exact ⟨r, rfl⟩
        have d2 : (tl x).drop (k + 2) = r := by
          rw [show k + 2 = (k + 1) + 1 from rfl, ← List.drop_drop, hr41]; rfl
        have l2 : k + 2 ≤ (tl x).length := by
          have := congrArg List.length hr41
          rw [List.length_drop, List.length_cons] at this
          omega
        rw [leaf_e h39 hp] at qs
        rw [decide_eq_true (by rw [hr41, hp.1]; rfl)]
        refine iteT ⟨Nat.zero_le _, fun p1 np1 => ⟨k, rfl, (by show 2 ≤ sizeLine; decide), fun p2 np2 => ?_⟩⟩
        have s1 := same_new np1 (.tup [])
        have s2 := same_new np2 (.tup [.ref p1, .int ((k + 2 : Nat) : Int)])
        refine qs _ _ rfl _ p2 _ (k + 2) (s1.trans s2) upd_same (.tup (SqT.of (s2 _ _ upd_same)) .nil) ?_ l2
        rw [d2, hr41]; rfl
      · rw [decide_eq_false (fun z => hp (by
          cases q : (tl x).drop (k + 1) with
          | nil => rw [q] at z; cases z
          | cons e r =>
            rw [q] at z
            have z : [c, e] = [40, 41] := z
            cases z
            exact ⟨rfl, rfl⟩))]
        refine iteF ?_
        rcases R.tM.look ⟨#[c]⟩ with ⟨u, d, f1, f2, f3⟩ | ⟨f1, f2⟩
        · rw [leaf_m h39 hp f2] at qs
          refine ⟨_, rfl, _, _, rfl, rfl, f1, _, rfl, iteT ?_⟩
          have fin : ∀ mv : V, RelV mv u → (∀ H', Dp K H' mv d) → tRet (tTup (tCons (tOp (rIxD K w) (tC (.ref dM)) (tVar 2)) (tCons (tIncV 1) tNil))) { nx := fun σ H => False, rt := Q } [some (.str x), some (.int (k : Int)), some (sg [c])] H := fun mv rel hd =>
            ⟨_, rfl, dM, _, mv, rfl, rfl, ⟨eM, nM, u, R.tM.dict.at_, R.tM.dict.lit, f1, rel⟩, k, rfl, (by show 2 ≤ sizeLine; decide), fun p np => qs _ _ rfl _ p _ (k + 1) (same_new np _) upd_same (hd _) rfl (by omega)⟩
          rcases f3 with ⟨b, rfl, rfl⟩ | ⟨rfl, rfl⟩
          · exact fin (.bl b) rfl fun _ => .bl b
          · exact fin .non rfl fun _ => .non
        · rw [leaf_n h39 hp f2] at qn qs
          refine ⟨_, rfl, _, _, rfl, rfl, f1, _, rfl, iteF ?_⟩
          refine ⟨_, rfl, rfl, _, rfl, ?_⟩
          rw [show decide (sg [c] = V.str "") = decide ([c] = []) from sg_inj]
          refine iteF ⟨_, rfl, _, _, rfl, rfl, (by decide +kernel), c, _, rfl, rfl, _, rfl, ?_⟩
          rw [minus_fig]
          by_cases hn : c = 45 ∨ dig c = true
          · have : (!(decide (c = 45) || dig c)) = false := by
              rcases hn with h | h
              · rw [decide_eq_true h]; rfl
              · rw [h]; simp
            rw [this]
            rw [if_pos hn, ← dz] at qn qs
            exact iteF ⟨_, rfl, _, rfl, x, k, rfl, lt, hT, hD, qn, qs⟩
          · have : (!(decide (c = 45) || dig c)) = true := by
              rw [not_or] at hn
              rw [decide_eq_false hn.1, Bool.eq_false_iff.mpr hn.2]; rfl
            rw [this]
            rw [if_neg hn] at qn
            exact iteT (qn rfl H (Same.refl H))
end
end B1

set_option maxRecDepth 100000
set_option maxHeartbeats 4000000
namespace B1
open PySem PySem.Spec PyProof.Rows L2 TL K4
/-- all but the lists is as it was -/
def KeptL (H H' : Hp) : Prop := ∀ b o, H b = some o → (∀ xs, o ≠ .lst xs) → H' b = some o
theorem KeptL.of {H H' : Hp} (h : Same H H') : KeptL H H' := fun b o e _ => h b o e
theorem KeptL.sqT {K : PySem.W.Frag} {H H' : Hp} {a : Addr} {xs : List V} (e : KeptL H H') (h : SqT K H a xs) : SqT K H' a xs := by
  rcases h with (h | ⟨o, h⟩) | h
  · exact .inl (.inl (e _ _ h fun _ q => nomatch q))
  · exact .inl (.inr ⟨o, e _ _ h fun _ q => nomatch q⟩)
  · exact .inr h
theorem keptL_list {H : Hp} {a : Addr} {xs ys : List V} (h : H a = some (.lst xs)) : KeptL H (upd H a (.lst ys)) := fun b o e n => by
  by_cases hb : b = a
  · rw [hb, h] at e; cases e; exact absurd rfl (n _)
  · rw [upd_ne hb]; exact e
section
variable {K : PySem.W.Frag} {H H' : Hp}
mutual
theorem dp_keptL (e : KeptL H H') : ∀ (d : PyData) (v : V), wf d = true → Dp K H v d → Dp K H' v d
  | .none, _, _, h => by cases h; exact .non
  | .bool b, _, _, h => by cases h; exact .bl b
  | .int i, _, _, h => by cases h; exact .int i
  | .str x, _, _, h => by cases h; exact .str x
  | .list ds, _, w, _ => by cases w
  | .tuple ds, _, w, h => by
    cases h with
    | tup hs ha => exact .tup (e.sqT hs) (dps_keptL e ds _ w ha)
  | .dict _, _, _, h => by cases h
theorem dps_keptL (e : KeptL H H') : ∀ (ds : List PyData) (vs : List V), wfs ds = true → DpAll K H vs ds → DpAll K H' vs ds
  | [], _, _, h => by cases h; exact .nil
  | d :: ds, _, w, h => by
    have w : wf d = true ∧ wfs ds = true := by simpa [wfs] using w
    cases h with
    | cons h1 h2 => exact .cons (dp_keptL e d _ w.1 h1) (dps_keptL e ds _ w.2 h2)
end
end
theorem map_ref_inj : ∀ {a b : List Addr}, a.map V.ref = b.map V.ref → a = b
  | [], [], _ => rfl
  | [], _ :: _, h => by simp at h
  | _ :: _, [], h => by simp at h
  | x :: a, y :: b, h => by
    rw [List.map_cons, List.map_cons] at h
    injection h with h1 h2
    injection h1 with h1
    rw [h1, map_ref_inj h2]
/-- an open tuple's list -/
def LsAt (K : PySem.W.Frag) (Hb H : Hp) (l : Addr) (ds : List PyData) : Prop := ∃ xs, H l = some (.lst xs) ∧ DpAll K H xs ds ∧ wfs ds = true ∧ Hb l = none
/-- the tuples that are open, the innermost first in st; their lists at ls, the innermost last -/
structure Ar (K : PySem.W.Frag) (Hb H : Hp) (r : Addr) (st : List (List PyData)) : Prop where
  new : Hb r = none
  same : Same Hb H
  at_ : ∃ ls : List Addr, H r = some (.lst (ls.map V.ref)) ∧ Paired (LsAt K Hb H) ls st.reverse ∧ ls.Nodup ∧ r ∉ ls
theorem lsAt_keep {K : PySem.W.Frag} {Hb H H' : Hp} {l : Addr} {ds : List PyData} (h : LsAt K Hb H l ds) (e : KeptL H H') (hl : ∀ o, H l = some o → H' l = some o) : LsAt K Hb H' l ds := by
  obtain ⟨xs, h1, h2, h3, h4⟩ := h
  exact ⟨xs, hl _ h1, dps_keptL e ds xs h3 h2, h3, h4⟩
theorem paired_mem {α β : Type} {F G : α → β → Prop} : ∀ {a : List α} {b : List β}, Paired F a b → (∀ x y, x ∈ a → F x y → G x y) → Paired G a b
  | _, _, .nil, _ => .nil
  | _, _, .cons r t, h => .cons (h _ _ List.mem_cons_self r) (paired_mem t fun x y hx => h x y (List.mem_cons_of_mem _ hx))
theorem Ar.after {K : PySem.W.Frag} {Hb H H' : Hp} {r : Addr} {st : List (List PyData)} (A : Ar K Hb H r st) (e : Same H H') : Ar K Hb H' r st := by
  obtain ⟨ls, h1, h2, h3, h4⟩ := A.at_
  exact ⟨A.new, A.same.trans e, ls, e _ _ h1, paired_mem h2 fun x y _ q => lsAt_keep q (.of e) fun o => e _ _, h3, h4⟩
/-- the innermost list grows -/
theorem Ar.grow {K : PySem.W.Frag} {Hb H : Hp} {r : Addr} {ds : List PyData} {st : List (List PyData)} {v : V} {d : PyData} (A : Ar K Hb H r (ds :: st)) (hd : Dp K H v d) (hw : wf d = true) :
    ∃ (ls : List Addr) (l : Addr) (xs : List V), H r = some (.lst ((ls ++ [l]).map V.ref)) ∧ H l = some (.lst xs) ∧ xs.length = ds.length ∧ Ar K Hb (upd H l (.lst (xs ++ [v]))) r ((ds ++ [d]) :: st) ∧ KeptL H (upd H l (.lst (xs ++ [v]))) ∧ (upd H l (.lst (xs ++ [v]))) r = some (.lst ((ls ++ [l]).map V.ref)) ∧ DpAll K (upd H l (.lst (xs ++ [v]))) (xs ++ [v]) (ds ++ [d]) := by
  obtain ⟨ls0, h1, h2, h3, h4⟩ := A.at_
  rw [List.reverse_cons] at h2
  obtain ⟨ls, l, rfl, h5, xs, h6, h7, h8, h9⟩ := paired_snoc h2
  have kl := keptL_list (ys := xs ++ [v]) h6
  have nr : r ≠ l := fun e => h4 (List.mem_append_right _ (List.mem_singleton.mpr e))
  have all : DpAll K (upd H l (.lst (xs ++ [v]))) (xs ++ [v]) (ds ++ [d]) := dps_append (dps_keptL kl ds xs h8 h7) (.cons (dp_keptL kl d v hw hd) .nil)
  refine ⟨ls, l, xs, h1, h6, dps_len h7, ⟨A.new, same_over A.same h9, ls ++ [l], by rw [upd_ne nr]; exact h1, ?_, h3, h4⟩, kl, by rw [upd_ne nr]; exact h1, all⟩
  rw [List.reverse_cons]
  refine paired_app (paired_mem h5 fun x y hx q => lsAt_keep q kl fun o e => ?_) (.cons ⟨_, upd_same, all, ?_, h9⟩ .nil)
  · have : x ≠ l := fun e => by
      rw [List.nodup_append] at h3
      exact h3.2.2 x hx l (List.mem_singleton.mpr rfl) e
    rw [upd_ne this]; exact e
  · rw [wfs_append, h8]; simp [wfs, hw]
/-- the innermost list is taken -/
theorem Ar.pop {K : PySem.W.Frag} {Hb H : Hp} {r : Addr} {ds : List PyData} {st : List (List PyData)} {ls : List Addr} {l : Addr} (A : Ar K Hb H r (ds :: st)) (hr : H r = some (.lst ((ls ++ [l]).map V.ref))) : Ar K Hb (upd H r (.lst (ls.map V.ref))) r st ∧ KeptL H (upd H r (.lst (ls.map V.ref))) ∧ r ≠ l ∧ wfs ds = true := by
  obtain ⟨ls0, h1, h2, h3, h4⟩ := A.at_
  rw [List.reverse_cons] at h2
  obtain ⟨ls1, l1, rfl, h5, xs, h6, h7, h8, h9⟩ := paired_snoc h2
  have e : (ls1 ++ [l1]).map V.ref = (ls ++ [l]).map V.ref := by
    rw [h1] at hr
    injection hr with hr
    injection hr
  have e : ls1 ++ [l1] = ls ++ [l] := map_ref_inj e
  obtain ⟨rfl, e2⟩ := List.append_inj' e rfl
  cases e2
  have kl := keptL_list (ys := ls1.map V.ref) hr
  have nm : r ∉ ls1 := fun q => h4 (List.mem_append_left _ q)
  refine ⟨⟨A.new, same_over A.same A.new, ls1, upd_same, paired_mem h5 fun x y hx q => lsAt_keep q kl fun o e => ?_, (List.nodup_append.mp h3).1, nm⟩, kl, fun q => h4 (List.mem_append_right _ (List.mem_singleton.mpr q)), h8⟩
  have nx : x ≠ r := fun z => nm (by rw [← z]; exact hx)
  rw [upd_ne nx]; exact e
/-- a new list is opened -/
theorem Ar.push {K : PySem.W.Frag} {Hb H : Hp} {r l : Addr} {st : List (List PyData)} {ys : List V} (A : Ar K Hb H r st) (hr : H r = some (.lst ys)) (nl : H l = none) : Ar K Hb (upd (upd H l (.lst [])) r (.lst (ys ++ [.ref l]))) r ([] :: st) := by
  obtain ⟨ls, h1, h2, h3, h4⟩ := A.at_
  have e : ys = ls.map V.ref := by rw [hr] at h1; cases h1; rfl
  subst e
  have nlr : l ≠ r := fun e => by rw [e, hr] at nl; cases nl
  have s1 := same_new nl (.lst [])
  have hr1 : (upd H l (.lst [])) r = some (.lst (ls.map V.ref)) := s1 _ _ hr
  have kl := keptL_list (ys := ls.map V.ref ++ [.ref l]) hr1
  have nls : l ∉ ls := fun q => by
    have : ∃ y, LsAt K Hb H l y := by
      clear h1 h3 h4 hr hr1 kl
      generalize st.reverse = b at h2
      induction h2 with
      | nil => cases q
      | cons r t ih =>
        rcases List.mem_cons.mp q with e | q
        · subst e; exact ⟨_, r⟩
        · exact ih q
    obtain ⟨y, xs, hx, _⟩ := this
    rw [nl] at hx; cases hx
  refine ⟨A.new, same_over (A.same.trans s1) A.new, ls ++ [l], by rw [upd_same, List.map_append]; rfl, ?_, ?_, ?_⟩
  · rw [List.reverse_cons]
    refine paired_app (paired_mem h2 fun x y hx q => lsAt_keep (lsAt_keep q (.of s1) fun o => s1 _ _) kl fun o e => ?_) (.cons ⟨[], by rw [upd_ne nlr, upd_same], .nil, rfl, A.same.free nl⟩ .nil)
    have nx : x ≠ r := fun z => h4 (by rw [← z]; exact hx)
    rw [upd_ne nx]; exact e
  · rw [List.nodup_append]
    exact ⟨h3, by simp, fun a ha b hb e => nls (by rw [List.mem_singleton.mp hb] at e; exact e ▸ ha)⟩
  · intro q
    rcases List.mem_append.mp q with q | q
    · exact h4 q
    · exact nlr (List.mem_singleton.mp q).symm
end B1

set_option maxRecDepth 100000
set_option maxHeartbeats 4000000
namespace B1
open PySem PySem.Spec PyProof.Rows L2 TL K4
abbrev sCP : Stmt := top 39
theorem scCP : FnScope ["text", "at", "part", "around", "sign"] ["text", "at", "part", "around"] (defScope sCP) := ⟨rfl, rfl, rfl, by decide +kernel, rfl, by decide +kernel, by decide +kernel⟩
def cnt (st : List (List PyData)) : Nat := (st.map List.length).sum
theorem cnt_cons (l : List PyData) (st : List (List PyData)) : cnt (l :: st) = l.length + cnt st := rfl
def CpRes (K : PySem.W.Frag) (Hb : Hp) (r : Addr) (T : List Nat) (o : Option Out) (CT : Addr) (Q : VK) (E : XK) : Prop :=
  (o = none → ∀ H', Same Hb H' → E (.ref CT) none H') ∧
  (∀ st z, o = some (.more st z) → ∀ (H' : Hp) (p : Addr) (v : V) (k : Nat), Ar K Hb H' r st → H' p = some (.tup [v, .int (k : Int), .bl true]) → T.drop k = z → k ≤ T.length → cnt st ≤ k → st.length ≤ k → Q (.ref p) H') ∧
  (∀ d z, o = some (.fin d z) → ∀ (H' : Hp) (p : Addr) (v : V) (k : Nat), Ar K Hb H' r [] → H' p = some (.tup [v, .int (k : Int), .bl false]) → Dp K H' v d → T.drop k = z → k ≤ T.length → Q (.ref p) H')
def spCP (K : PySem.W.Frag) (CT : Addr) : Sp := fun vs H Q E => ∃ (x : Str) (k : Nat) (v : V) (r : Addr) (Hb : Hp) (st : List (List PyData)) (d : PyData), vs = [.str x, .int (k : Int), v, .ref r] ∧ k ≤ (tl x).length ∧ (tl x).length ≤ 100000 ∧ Ar K Hb H r st ∧ Dp K H v d ∧ wf d = true ∧ cnt st < k ∧ st.length ≤ k ∧ CpRes K Hb r (tl x) (closeP st d ((tl x).drop k)) CT Q E
theorem last_map (ls : List Addr) (l : Addr) : atI ((ls ++ [l]).map V.ref) (-1) = some (V.ref l) := by
  unfold atI
  have e : ixN ((ls ++ [l]).map V.ref).length (-1) = some ls.length := by
    unfold ixN
    simp
    omega
  rw [e]
  simp
section
variable {P : Program} {w : World} {K : PySem.W.Frag} {mg : Str → Option Value} {base : Heap} {f g f2 : Addr} {fd gd fd2 : FuncData} {CT dM : Addr} {eM : Array DictEntry} {nM : Nat}
theorem ok_cp (F : Fun K "close_parts" "close_parts" sCP f fd) (R : Rx K w mg CT dM eM nM) : FnOk P w K mg base (L2.CX P w) 1 f fd ["text", "at", "part", "around"] (spCP K CT) := by
  have B := R.bl
  refine F.okX scCP (fun vs H Q E h => ?_) (fun cdv A outer s H vs Q E hr h => ?_)
  · obtain ⟨x, k, v, r, Hb, st, d, rfl, _⟩ := h
    rfl
  obtain ⟨x, k0, v0, r, Hb, st0, d0, rfl, hk0, hT, A0, hd0, hw0, hc0, hs0, q1, q2, q3⟩ := h
  refine ⟨_, (pss_cons (ps_while (passes_of rfl) (pt_truth (pv 3) (by intro _; rfl)) (pss_cons (ps_expr (pe_bm PySem.F.plainAttrs_list PySem.F.slot_list_append PySem.F.type_list_append mt_append (pe_ix ix_list (pv 3) (pe_un un_neg pe_int) (fun _ _ => rfl)) (pa_cons (pv 2) pa_nil))) (pss_cons (ps_set (i := 4) scCP.nd rfl (.inl rfl) (pe_slice sl_str (pv 0) (po_some (pv 1)) (po_some (pe_less (t' := tIncV 1) (pe_op op_add (pv 1) pe_int) (incV_of 1))))) (pss_cons (ps_inc (i := 1) scCP.nd rfl (.inl rfl)) (pss_cons (ps_if (pt_cmpR op_eq (pv 4) pe_str (nomark _)) (pss_one (ps_ret (pe_tup (pa_cons (pv 2) (pa_cons (pv 1) (pa_cons pe_bl pa_nil)))))) pss_nil) (pss_cons (ps_if (pt_cmpR op_ne (pv 4) pe_str (nomark _)) (pss_one (ps_raise rfl (takes_of rfl rfl rfl rfl) (pmk_own PySem.F.excBase_ValueError R.xT R.gT R.kT (raises_own R.bT R.tT) rfl))) pss_nil) (pss_one (ps_set (i := 2) scCP.nd rfl (.inl rfl) (pe_callTy call_tuple_of rfl B.tuple bt_tuple (pa_cons (pe_bm0 PySem.F.plainAttrs_list PySem.F.slot_list_pop PySem.F.type_list_pop mt_pop (pv 3)) pa_nil)))))))))) (pss_one (ps_ret (pe_tup (pa_cons (pv 2) (pa_cons (pv 1) (pa_cons pe_bl pa_nil))))))), ?_⟩
  have lz : x.length ≤ sizeLine := Nat.le_of_lt (smallM (by rw [← tlen]; omega))
  have xl := tlen x
  refine ⟨fun m σ H1 => ∃ (st : List (List PyData)) (d : PyData) (v : V) (k : Nat) (y : Option V), σ = [some (.str x), some (.int (k : Int)), some v, some (.ref r), y] ∧ m = st.length ∧ Ar K Hb H1 r st ∧ Dp K H1 v d ∧ wf d = true ∧ closeP st0 d0 ((tl x).drop k0) = closeP st d ((tl x).drop k) ∧ k ≤ (tl x).length ∧ cnt st < k ∧ st.length ≤ k, ⟨_, st0, d0, v0, k0, none, rfl, rfl, A0, hd0, hw0, rfl, hk0, hc0, hs0⟩, ?_⟩
  rintro m σ H1 ⟨st, d, v, k, y, rfl, rfl, A1, hd, hw, hcl, hk, hc, hsl⟩
  obtain ⟨ls, hls, hp, hnd, hnr⟩ := A1.at_
  refine ⟨_, rfl, (!(ls.map V.ref).isEmpty), .inl ⟨_, SqL.of hls, rfl⟩, ?_⟩
  rw [hcl] at q1 q2 q3
  cases st with
  | nil =>
    have : ls = [] := by
      have := Paired.length hp
      simpa using this
    subst this
    refine iteF ⟨_, rfl, _, rfl, (by show 3 ≤ sizeLine; decide), fun p np => ?_⟩
    have s1 := same_new np (.tup [v, .int (k : Int), .bl false])
    exact q3 d _ rfl _ p v k (A1.after s1) upd_same (same_dp s1 hd) rfl hk
  | cons l st' =>
    obtain ⟨ls', la, xs, g1, g2, g3, A2, kl, g4, g5⟩ := A1.grow hd hw
    have els : ls.map V.ref = (ls' ++ [la]).map V.ref := by
      rw [hls] at g1
      injection g1 with g1
      injection g1
    rw [els]
    have hne : (!((ls' ++ [la]).map V.ref).isEmpty) = true := by simp
    rw [hne]
    rw [cnt_cons] at hc
    refine iteT ⟨fun σ' H' => ∃ (st2 : List (List PyData)) (d2 : PyData) (v2 : V) (k2 : Nat) (y2 : Option V), σ' = [some (.str x), some (.int (k2 : Int)), some v2, some (.ref r), y2] ∧ st2.length < (l :: st').length ∧ Ar K Hb H' r st2 ∧ Dp K H' v2 d2 ∧ wf d2 = true ∧ closeP (l :: st') d ((tl x).drop k) = closeP st2 d2 ((tl x).drop k2) ∧ k2 ≤ (tl x).length ∧ cnt st2 < k2 ∧ st2.length ≤ k2, fun σ' H' ⟨st2, d2, v2, k2, y2, h1, h2, h3, h4, h5, h6, h7⟩ => ⟨_, h2, st2, d2, v2, k2, y2, h1, rfl, h3, h4, h5, hcl.trans h6, h7⟩, ?_⟩
    refine ⟨_, rfl, 1, rfl, r, _, _, _, rfl, rfl, SqL.of g1, last_map ls' la, .inl ⟨rfl, _, SqL.of g2⟩, _, rfl, la, _, _, rfl, rfl, g2, smallM (by omega), ?_⟩
    have g6 : (upd H1 la (.lst (xs ++ [v]))) la = some (.lst (xs ++ [v])) := upd_same
    generalize upd H1 la (.lst (xs ++ [v])) = H2 at A2 kl g4 g5 g6 ⊢
    refine ⟨_, rfl, _, rfl, _, rfl, k, rfl, _, rfl, x, rfl, lz, k, rfl, ?_⟩
    have esg : V.str (cutS x (some (k : Int)) (some ((k + 1 : Nat) : Int))) = sg (match (tl x)[k]? with | some c => [c] | none => []) := by rw [str_sg (cutS x _ _), tl_cut, take1]; all_goals (cases (tl x)[k]? <;> rfl)
    rw [esg]
    cases hcx : (tl x)[k]? with
    | none =>
      rw [drop_end hcx] at q1
      refine ⟨_, rfl, rfl, _, rfl, ?_⟩
      rw [show decide (sg [] = V.str " ") = decide (([] : List Nat) = [32]) from sg_inj]
      refine iteF ⟨_, rfl, rfl, _, rfl, ?_⟩
      rw [show decide (sg [] = V.str ")") = decide (([] : List Nat) = [41]) from sg_inj]
      exact iteT (q1 (by simp [closeP]) H2 A2.same)
    | some c =>
      have lt := (List.getElem?_eq_some_iff.mp hcx).1
      have dz := drop_at hcx
      rw [dz] at q1 q2 ⊢
      refine ⟨_, rfl, rfl, _, rfl, ?_⟩
      rw [show decide (sg [c] = V.str " ") = decide (c = 32) from one_inj c 32]
      by_cases h32 : c = 32
      · subst h32
        refine iteT ⟨_, rfl, _, rfl, (by show 3 ≤ sizeLine; decide), fun p np => ?_⟩
        have s1 := same_new np (.tup [v, .int ((k + 1 : Nat) : Int), .bl true])
        refine q2 ((l ++ [d]) :: st') _ (by simp [closeP]) _ p v (k + 1) (A2.after s1) upd_same rfl (by omega) ?_ ?_
        · rw [cnt_cons, List.length_append, List.length_singleton]; omega
        · simp only [List.length_cons] at hsl ⊢; omega
      · rw [decide_eq_false h32]
        refine iteF ⟨_, rfl, rfl, _, rfl, ?_⟩
        rw [show decide (sg [c] = V.str ")") = decide (c = 41) from one_inj c 41]
        by_cases h41 : c = 41
        · subst h41
          obtain ⟨A3, kl3, nrl, hwl⟩ := A2.pop g4
          have hlast : ((ls' ++ [la]).map V.ref)[((ls' ++ [la]).map V.ref).length - 1]? = some (.ref la) := by simp
          have hdrop : ((ls' ++ [la]).map V.ref).dropLast = ls'.map V.ref := by simp
          refine iteF ⟨_, rfl, .inl ⟨rfl, _, SqL.of g4⟩, r, _, _, rfl, rfl, g4, hlast, ?_⟩
          rw [hdrop]
          have g7 : (upd H2 r (.lst (ls'.map V.ref))) la = some (.lst (xs ++ [v])) := by rw [upd_ne nrl.symm]; exact g6
          generalize upd H2 r (.lst (ls'.map V.ref)) = H3 at A3 kl3 g7 ⊢
          refine ⟨la, _, rfl, .inl ⟨SqL.of g7, fun p np => ?_⟩⟩
          have s4 := same_new np (.tup (xs ++ [v]))
          have hwd : wf (.tuple (l ++ [d])) = true := hwl
          refine ⟨st', .tuple (l ++ [d]), .ref p, k + 1, _, rfl, by simp, A3.after s4, .tup (SqT.of upd_same) (same_dps s4 (dps_keptL kl3 _ _ hwl g5)), hwd, ?_, by omega, by omega, ?_⟩
          · simp [closeP]
          · simp only [List.length_cons] at hsl; omega
        · rw [decide_eq_false h41]
          exact iteT (q1 (by simp [closeP, h32, h41]) H2 A2.same)
end
theorem leafP_less {z : List Nat} {d : PyData} {r : List Nat} (h : leafP z = some (d, r)) : r.length < z.length ∧ wf d = true := by
  obtain ⟨e, hw⟩ := leafP_sound h
  obtain ⟨c, t, e2, _⟩ := wr_first d hw
  rw [e, e2]
  refine ⟨?_, hw⟩
  simp only [List.length_append, List.length_cons]
  omega
abbrev sRT : Stmt := top 40
theorem scRT : FnScope ["text", "around", "part", "at", "more"] ["text"] (defScope sRT) := ⟨rfl, rfl, rfl, by decide +kernel, rfl, by decide +kernel, by decide +kernel⟩
def spRT (K : PySem.W.Frag) (CT : Addr) : Sp := fun vs H Q E => ∃ (x : Str), vs = [.str x] ∧ (tl x).length ≤ 99999 ∧ Digs (tl x) ∧ (rd (tl x) = none → ∀ H', Same H H' → E (.ref CT) none H') ∧ ∀ d, rd (tl x) = some d → ∀ (H' : Hp) (v : V), Same H H' → Dp K H' v d → Q v H'
/-- text[at:at + 1] == '(' and text[at:at + 2] != '()' -/
def tOpn : TT := fun σ H Q => ∃ (x : Str) (k : Nat), σ[0]? = some (some (.str x)) ∧ σ[3]? = some (some (.int (k : Int))) ∧ x.length ≤ sizeLine ∧ Q (decide ((tl x)[k]? = some 40 ∧ ((tl x).drop (k + 1)).head? ≠ some 41)) H
theorem opn_of (σ : L2.St) (H : Hp) (Q : Bool → Hp → Prop) (h : tOpn σ H Q) : tAnd (tTest (tOp rEq (tSl rSlS (tVar 0) (tPart (tVar 3)) (tPart (tIncV 3))) (tC (.str "(")))) (tTest (tOp rNe (tSl rSlS (tVar 0) (tPart (tVar 3)) (tPart (tPlus 3 2))) (tC (.str "()")))) σ H Q := by
  obtain ⟨x, k, h0, h3, hl, hq⟩ := h
  refine ⟨_, h0, _, h3, _, rfl, k, h3, _, rfl, x, rfl, hl, rfl, _, rfl, ?_⟩
  have esg : V.str (cutS x (some (k : Int)) (some ((k + 1 : Nat) : Int))) = sg (match (tl x)[k]? with | some c => [c] | none => []) := by rw [str_sg (cutS x _ _), tl_cut, take1]; all_goals (cases (tl x)[k]? <;> rfl)
  rw [esg]
  cases hc : (tl x)[k]? with
  | none =>
    rw [hc] at hq
    rw [show decide (sg [] = V.str "(") = decide (([] : List Nat) = [40]) from sg_inj]
    refine iteF ?_
    rw [decide_eq_false (fun z => nomatch z.1)] at hq
    exact hq
  | some c =>
    rw [hc] at hq
    rw [show decide (sg [c] = V.str "(") = decide (c = 40) from one_inj c 40]
    by_cases h40 : c = 40
    · subst h40
      refine iteT ⟨_, h0, _, h3, _, rfl, k, h3, _, rfl, x, rfl, hl, rfl, _, rfl, ?_⟩
      have e2 : decide (V.str (cutS x (some (k : Int)) (some ((k + 2 : Nat) : Int))) = V.str "()") = decide (((tl x).drop (k + 1)).head? = some 41) := by
        rw [str_sg (cutS x _ _), tl_cut, take2, drop_at hc]
        rw [show decide (sg (List.take 2 (40 :: (tl x).drop (k + 1))) = V.str "()") = decide (List.take 2 (40 :: (tl x).drop (k + 1)) = [40, 41]) from sg_inj]
        cases (tl x).drop (k + 1) with
        | nil => rfl
        | cons e r =>
          show decide ([40, e] = [40, 41]) = decide (some e = some 41)
          by_cases he : e = 41
          · rw [he]; rfl
          · rw [decide_eq_false (by intro z; cases z; exact he rfl), decide_eq_false (by intro z; exact he (Option.some.inj z))]
      rw [e2]
      have e3 : decide (some 40 = some 40 ∧ ((tl x).drop (k + 1)).head? ≠ some 41) = !decide (((tl x).drop (k + 1)).head? = some 41) := by simp
      rw [e3] at hq
      exact hq
    · rw [decide_eq_false h40]
      rw [decide_eq_false (fun z => h40 (Option.some.inj z.1))] at hq
      exact iteF hq
/-- where the reader is -/
def InvRT (K : PySem.W.Frag) (Hb : Hp) (x : Str) (r : Addr) (m : Nat) (σ : L2.St) (H : Hp) : Prop :=
  (∃ (n : Nat) (st : List (List PyData)) (k : Nat) (y : Option V), σ = [some (.str x), some (.ref r), y, some (.int (k : Int)), some (.bl true)] ∧ m = (tl x).length - k + 1 ∧ Ar K Hb H r st ∧ mach n st ((tl x).drop k) = rd (tl x) ∧ ((tl x).drop k).length < n ∧ k ≤ (tl x).length ∧ cnt st ≤ k ∧ st.length ≤ k) ∨
  ∃ (d : PyData) (v : V) (k : Nat), σ = [some (.str x), some (.ref r), some v, some (.int (k : Int)), some (.bl false)] ∧ m = 0 ∧ Same Hb H ∧ Dp K H v d ∧ (if (tl x).drop k = [] then some d else none) = rd (tl x) ∧ k ≤ (tl x).length
theorem push_go {st : List (List PyData)} {c : Nat} {z : List Nat} (h : c = 40 ∧ z.head? ≠ some 41) : K4.push st (c :: z) = K4.push ([] :: st) z := by rw [K4.push, if_pos h]
theorem push_stop {st : List (List PyData)} {z : List Nat} (h : ∀ c r, z = c :: r → ¬ (c = 40 ∧ r.head? ≠ some 41)) : K4.push st z = (st, z) := by
  cases z with
  | nil => rfl
  | cons c r => rw [K4.push, if_neg (h c r rfl)]
section
variable {P : Program} {w : World} {K : PySem.W.Frag} {mg : Str → Option Value} {base : Heap} {f g f2 : Addr} {fd gd fd2 : FuncData} {CT dM : Addr} {eM : Array DictEntry} {nM : Nat}
theorem ok_rt (F : Fun K "read_thing" "read_thing" sRT f fd) (R : Rx K w mg CT dM eM nM)
    (G : FnOk P w K mg base (L2.CX P w) 4 g gd ["text", "at"] (spRL K CT)) (bG : Binds K gd ["text", "at"] []) (kG : PySem.W.keepIn K (.ref g) = true) (mG : mg "read_leaf" = some (.ref g))
    (G2 : FnOk P w K mg base (L2.CX P w) 1 f2 fd2 ["text", "at", "part", "around"] (spCP K CT)) (bG2 : Binds K fd2 ["text", "at", "part", "around"] []) (kG2 : PySem.W.keepIn K (.ref f2) = true) (mG2 : mg "close_parts" = some (.ref f2)) :
    FnOk P w K mg base (L2.CX P w) 5 f fd ["text"] (spRT K CT) := by
  have B := R.bl
  refine F.okX scRT (fun vs H Q E h => ?_) (fun cdv A outer s H vs Q E hr h => ?_)
  · obtain ⟨x, rfl, _⟩ := h
    rfl
  obtain ⟨x, rfl, hT, hD, qn, qs⟩ := h
  refine ⟨_, (pss_cons (ps_set (i := 1) scRT.nd rfl (.inl rfl) (pe_lst pa_nil)) (pss_cons (ps_asg (pe_tup (pa_cons pe_non (pa_cons pe_int (pa_cons pe_bl pa_nil)))) (pg_tup (by rfl) (pgs_cons (pg_name (i := 2) scRT.nd rfl (.inl rfl)) (pgs_cons (pg_name (i := 3) scRT.nd rfl (.inl rfl)) (pgs_cons (pg_name (i := 4) scRT.nd rfl (.inl rfl)) pgs_nil))))) (pss_cons (ps_while (passes_of rfl) (pt_truth (pv 4) (by intro _; rfl)) (pss_cons (ps_while (passes_of rfl) (pt_less (t' := tOpn) (PW.pt (pw_and (pt_cmpR op_eq (pe_slice sl_str (pv 0) (po_some (pv 3)) (po_some (pe_less (t' := tIncV 3) (pe_op op_add (pv 3) pe_int) (incV_of 3)))) pe_str (nomark _)) (pw_and1 (pt_cmpR op_ne (pe_slice sl_str (pv 0) (po_some (pv 3)) (po_some (pe_less (t' := tPlus 3 2) (pe_op op_add (pv 3) pe_int) (plus2_of 3)))) pe_str (nomark _))))) opn_of) (pss_cons (ps_expr (pe_bm PySem.F.plainAttrs_list PySem.F.slot_list_append PySem.F.type_list_append mt_append (pv 1) (pa_cons (pe_lst pa_nil) pa_nil))) (pss_one (ps_inc (i := 3) scRT.nd rfl (.inl rfl))))) (pss_cons (ps_asg (pe_call G hr rfl mG kG bG .nil (passes_call (takes_of rfl rfl rfl rfl) (fun _ _ _ _ h => h)) (pa_cons (pv 0) (pa_cons (pv 3) pa_nil))) (pg_tup (by rfl) (pgs_cons (pg_name (i := 2) scRT.nd rfl (.inl rfl)) (pgs_cons (pg_name (i := 3) scRT.nd rfl (.inl rfl)) pgs_nil)))) (pss_one (ps_asg (pe_call G2 (hr.mono (by decide)) rfl mG2 kG2 bG2 .nil (passes_call (takes_of rfl rfl rfl rfl) (fun _ _ _ _ h => h)) (pa_cons (pv 0) (pa_cons (pv 3) (pa_cons (pv 2) (pa_cons (pv 1) pa_nil))))) (pg_tup (by rfl) (pgs_cons (pg_name (i := 2) scRT.nd rfl (.inl rfl)) (pgs_cons (pg_name (i := 3) scRT.nd rfl (.inl rfl)) (pgs_cons (pg_name (i := 4) scRT.nd rfl (.inl rfl)) pgs_nil))))))))) (pss_cons (ps_if (pt_cmpR op_ne (pv 3) (pe_callB call_len_str rfl B.len bt_len (pa_cons (pv 0) pa_nil)) (nomark _)) (pss_one (ps_raise rfl (takes_of rfl rfl rfl rfl) (pmk_own PySem.F.excBase_ValueError R.xT R.gT R.kT (raises_own R.bT R.tT) rfl))) pss_nil) (pss_one (ps_ret (pv 2))))))), ?_⟩
  have lz : x.length ≤ sizeLine := Nat.le_of_lt (smallM (by rw [← tlen]; omega))
  have xl := tlen x
  refine ⟨Nat.zero_le _, fun r nr => ⟨(by show 3 ≤ sizeLine; decide), fun p np => ⟨p, _, rfl, SqT.of upd_same, rfl, _, _, rfl, _, _, rfl, _, _, rfl, rfl, ?_⟩⟩⟩
  have s1 := (same_new nr (.lst [])).trans (same_new np (.tup [.non, .int 0, .bl true]))
  have hr1 : (upd (upd H r (.lst [])) p (.tup [.non, .int 0, .bl true])) r = some (.lst []) := (same_new np _) _ _ upd_same
  generalize upd (upd H r (.lst [])) p (.tup [.non, .int 0, .bl true]) = H1 at s1 hr1 ⊢
  refine ⟨InvRT K H x r, ⟨_, .inl ⟨(tl x).length + 1, [], 0, _, rfl, rfl, ⟨nr, s1, [], hr1, .nil, List.nodup_nil, fun z => nomatch z⟩, rfl, by simp, Nat.zero_le _, Nat.le_refl _, Nat.le_refl _⟩⟩, ?_⟩
  rintro m σ H2 (⟨n, st, k, y, rfl, rfl, A2, hm, hn, hk, hc, hsl⟩ | ⟨d, v, k, rfl, rfl, s2, hd, he, hk⟩)
  · refine ⟨_, rfl, true, rfl, iteT ⟨fun σ' H' => ∃ m', m' < (tl x).length - k + 1 ∧ InvRT K H x r m' σ' H', fun σ' H' h => h, ?_⟩⟩
    obtain ⟨n', rfl⟩ : ∃ n', n = n' + 1 := ⟨n - 1, by omega⟩
    refine ⟨fun m2 σ2 H3 => ∃ (st2 : List (List PyData)) (k2 : Nat) (y2 : Option V), σ2 = [some (.str x), some (.ref r), y2, some (.int (k2 : Int)), some (.bl true)] ∧ m2 = (tl x).length - k2 ∧ Ar K H H3 r st2 ∧ K4.push st ((tl x).drop k) = K4.push st2 ((tl x).drop k2) ∧ k ≤ k2 ∧ k2 ≤ (tl x).length ∧ cnt st2 ≤ k2 ∧ st2.length ≤ k2, ⟨_, st, k, _, rfl, rfl, A2, rfl, Nat.le_refl _, hk, hc, hsl⟩, ?_⟩
    rintro m2 σ2 H3 ⟨st2, k2, y2, rfl, rfl, A3, hp, hkk, hk2, hc2, hsl2⟩
    refine ⟨x, k2, rfl, rfl, lz, ?_⟩
    by_cases ho : (tl x)[k2]? = some 40 ∧ ((tl x).drop (k2 + 1)).head? ≠ some 41
    · rw [decide_eq_true ho]
      have lt := (List.getElem?_eq_some_iff.mp ho.1).1
      obtain ⟨ls, hls, _⟩ := A3.at_
      have lsl : (ls.map V.ref).length ≤ (tl x).length := by
        obtain ⟨ls', h1, h2, _⟩ := A3.at_
        rw [hls] at h1
        injection h1 with h1
        injection h1 with h1
        rw [h1, List.length_map, Paired.length h2, List.length_reverse]
        omega
      refine iteT ⟨fun σ' H' => ∃ (st4 : List (List PyData)) (k4 : Nat) (y4 : Option V), (tl x).length - k4 < (tl x).length - k2 ∧ σ' = [some (.str x), some (.ref r), y4, some (.int (k4 : Int)), some (.bl true)] ∧ Ar K H H' r st4 ∧ K4.push st ((tl x).drop k) = K4.push st4 ((tl x).drop k4) ∧ k ≤ k4 ∧ k4 ≤ (tl x).length ∧ cnt st4 ≤ k4 ∧ st4.length ≤ k4, fun σ' H' ⟨st4, k4, y4, h0, h1, h2⟩ => ⟨_, h0, st4, k4, y4, h1, rfl, h2⟩, ?_⟩
      refine ⟨_, rfl, .inl ⟨rfl, _, SqL.of hls⟩, Nat.zero_le _, fun l nl => ?_⟩
      have nlr : l ≠ r := fun e => by rw [e, hls] at nl; cases nl
      refine ⟨r, _, _, rfl, rfl, by rw [upd_ne nlr.symm]; exact hls, smallM (by omega), k2, rfl, [] :: st2, k2 + 1, _, by omega, rfl, A3.push hls nl, ?_, by omega, by omega, ?_, ?_⟩
      · rw [hp, drop_at ho.1, push_go ⟨rfl, ho.2⟩]
      · show 0 + cnt st2 ≤ _; omega
      · simp only [List.length_cons]; omega
    · rw [decide_eq_false ho]
      refine iteF ?_
      have hps : K4.push st ((tl x).drop k) = (st2, (tl x).drop k2) := by
        rw [hp]
        refine push_stop fun c r e q => ho ?_
        cases hc : (tl x)[k2]? with
        | none => rw [drop_end hc] at e; cases e
        | some c' =>
          rw [drop_at hc] at e
          injection e with e1 e2
          rw [e2, e1, q.1]
          exact ⟨rfl, q.2⟩
      have hm1 : (match leafP ((tl x).drop k2) with | none => none | some p => cont n' st2 p.1 p.2) = rd (tl x) := by
        rw [← hm]
        simp only [mach, hps]
        all_goals (cases leafP ((tl x).drop k2) <;> rfl)
      refine ⟨_, rfl, _, rfl, x, k2, rfl, hk2, by omega, hD, fun hno H' s' => ?_, fun d rr hso H' p v k3 s3 hp3 hd3 hr3 hk3 => ?_⟩
      · refine qn ?_ H' (A3.same.trans s')
        rw [← hm1, hno]
      · rw [hso] at hm1
        have hm2 : cont n' st2 d rr = rd (tl x) := hm1
        obtain ⟨hless, hwd⟩ := leafP_less hso
        have hlr : rr.length = (tl x).length - k3 := by rw [← hr3, List.length_drop]
        rw [List.length_drop] at hless
        refine ⟨p, _, rfl, SqT.of hp3, rfl, _, _, rfl, _, _, rfl, rfl, ?_⟩
        refine ⟨_, rfl, _, rfl, _, rfl, _, rfl, x, k3, v, r, H, st2, d, rfl, hk3, by omega, A3.after s3, hd3, hwd, by omega, by omega, fun hno H4 s4 => ?_, fun st5 z5 hmo H4 p4 v4 k4 A4 hp4 hz4 hk4 hc4 hl4 => ?_, fun d5 z5 hfi H4 p4 v4 k4 A4 hp4 hd4 hz4 hk4 => ?_⟩
        · refine qn ?_ H4 s4
          rw [← hm2, ← hr3]
          simp only [cont, hno]
        · refine ⟨p4, _, rfl, SqT.of hp4, rfl, _, _, rfl, _, _, rfl, _, _, rfl, rfl, ?_⟩
          have zl : z5.length < rr.length := by
            have key : ∀ (st : List (List PyData)) (d : PyData) (z : List Nat) (st' : List (List PyData)) (z' : List Nat), closeP st d z = some (.more st' z') → z'.length < z.length := fun st => by
              induction st with
              | nil => intro d z st' z' h; cases h
              | cons l st ih =>
                intro d z st' z' h
                cases z with
                | nil => simp [closeP] at h
                | cons c z =>
                  simp only [closeP] at h
                  split at h
                  · injection h with h; injection h with h1 h2; subst h2; simp
                  · split at h
                    · have := ih _ _ _ _ h
                      simp only [List.length_cons]; omega
                    · cases h
            rw [hr3] at hmo
            exact key _ _ _ _ _ hmo
          have zk : z5.length = (tl x).length - k4 := by rw [← hz4, List.length_drop]
          rw [List.length_drop] at hn
          refine ⟨_, ?_, .inl ⟨n', st5, k4, _, rfl, rfl, A4, ?_, ?_, hk4, hc4, hl4⟩⟩
          · omega
          · rw [← hm2, ← hr3, hz4]
            simp only [cont, hmo]
          · rw [List.length_drop]; omega
        · refine ⟨p4, _, rfl, SqT.of hp4, rfl, _, _, rfl, _, _, rfl, _, _, rfl, rfl, ?_⟩
          refine ⟨0, by omega, .inr ⟨d5, v4, k4, rfl, rfl, A4.same, hd4, ?_, hk4⟩⟩
          rw [← hm2, ← hr3, hz4]
          simp only [cont, hfi]
  · refine ⟨_, rfl, false, rfl, iteF ⟨_, rfl, _, rfl, x, rfl, lz, rfl, _, rfl, ?_⟩⟩
    have e0 : decide (V.int (k : Int) = V.int (x.length : Nat)) = decide ((tl x).drop k = []) := by
      refine decide_eq_decide.mpr ⟨fun h => ?_, fun h => ?_⟩
      · have := V.int.inj h
        exact List.drop_eq_nil_of_le (by omega)
      · have := List.drop_eq_nil_iff.mp h
        congr 1
        omega
    rw [e0]
    by_cases hz : (tl x).drop k = []
    · rw [decide_eq_true hz]
      rw [if_pos hz] at he
      exact iteF ⟨_, rfl, qs d he.symm H2 v s2 hd⟩
    · rw [decide_eq_false hz]
      rw [if_neg hz] at he
      exact iteT (qn he.symm H2 s2)
end
end B1

set_option maxRecDepth 100000
set_option maxHeartbeats 4000000
namespace B1
open PySem PySem.Spec PyProof.Rows L2
theorem nodup_sub {α : Type} [DecidableEq α] : ∀ (l U : List α), l.Nodup → (∀ x ∈ l, x ∈ U) → l.length ≤ U.length
  | [], _, _, _ => Nat.zero_le _
  | x :: l, U, nd, h => by
    have hx := h x List.mem_cons_self
    obtain ⟨n1, n2⟩ := List.nodup_cons.mp nd
    have := nodup_sub l (U.erase x) n2 fun y hy => (List.mem_erase_of_ne (fun (e : y = x) => n1 (e ▸ hy))).mpr (h y (List.mem_cons_of_mem _ hy))
    rw [List.length_erase_of_mem hx] at this
    have : 0 < U.length := List.length_pos_of_mem hx
    simp only [List.length_cons]
    omega
/-! ### what was drawn so far -/
structure RestOk (kvs : List (Key × V)) : Prop where
  nd : (kvs.map (·.1)).Nodup
  key : ∀ kv ∈ kvs, (∃ j : Nat, j < 64 ∧ kv.1 = .inl (j : Int)) ∧ ∃ z : Int, kv.2 = .int z
def keys64 : List Key := (List.range 64).map fun (j : Nat) => (.inl (j : Int) : Key)
theorem RestOk.len {kvs : List (Key × V)} (R : RestOk kvs) : kvs.length ≤ 64 := by
  have := nodup_sub (kvs.map (·.1)) keys64 R.nd fun k hk => by
    obtain ⟨kv, h1, rfl⟩ := List.mem_map.mp hk
    obtain ⟨⟨j, hj, e⟩, _⟩ := R.key kv h1
    exact List.mem_map.mpr ⟨j, List.mem_range.mpr hj, e.symm⟩
  simpa [keys64] using this
theorem RestOk.put {kvs : List (Key × V)} (R : RestOk kvs) {j : Nat} (hj : j < 64) (z : Int) : RestOk (putK kvs (.inl (j : Int)) (.int z)) := by
  unfold putK
  split
  · refine ⟨?_, fun kv h => ?_⟩
    · rw [List.map_map]
      have : (kvs.map ((·.1) ∘ fun kv : Key × V => if kv.1 = .inl (j : Int) then (kv.1, V.int z) else kv)) = kvs.map (·.1) := List.map_congr_left fun kv _ => by
        show (if kv.1 = .inl (j : Int) then (kv.1, V.int z) else kv).1 = kv.1
        split <;> rfl
      rw [this]
      exact R.nd
    · obtain ⟨kv0, h1, rfl⟩ := List.mem_map.mp h
      split
      · exact ⟨(R.key kv0 h1).1, z, rfl⟩
      · exact R.key kv0 h1
  · rename_i hn
    refine ⟨?_, fun kv h => ?_⟩
    · rw [List.map_append]
      refine nd_snoc R.nd fun h => hn ?_
      obtain ⟨kv0, h1, h2⟩ := List.mem_map.mp h
      exact List.any_eq_true.mpr ⟨kv0, h1, decide_eq_true h2⟩
    · rcases List.mem_append.mp h with h | h
      · exact R.key kv h
      · rw [List.mem_singleton.mp h]; exact ⟨⟨j, hj, rfl⟩, z, rfl⟩
theorem RestOk.val {kvs : List (Key × V)} (R : RestOk kvs) (k : Key) (z : Int) : ∃ y : Int, (valV kvs k).getD (.int z) = .int y := by
  unfold valV
  cases q : kvs.find? fun kv => decide (kv.1 = k) with
  | none => exact ⟨z, rfl⟩
  | some kv =>
    obtain ⟨y, hy⟩ := (R.key kv (List.mem_of_find?_eq_some q)).2
    exact ⟨y, hy⟩
def townD (c : Int) (r : Addr) : List (Key × V) := [(.inr "count", .int c), (.inr "rests", .ref r)]
theorem cnt_ne : (Sum.inr (Str.ofString "count") : Key) ≠ .inr (Str.ofString "rests") := by decide +kernel
theorem townD_c (c : Int) (r : Addr) : valV (townD c r) (.inr "count") = some (.int c) := valV_pos rfl
theorem townD_r (c : Int) (r : Addr) : valV (townD c r) (.inr "rests") = some (.ref r) := by
  unfold townD valV
  rw [List.find?_cons, decide_eq_false cnt_ne, List.find?_cons, decide_eq_true rfl]
  rfl
theorem townD_put (c c' : Int) (r : Addr) : putK (townD c r) (.inr "count") (.int c') = townD c' r := by
  unfold townD putK
  rw [if_pos (by rw [List.any_cons, decide_eq_true rfl]; rfl), List.map_cons, List.map_cons, List.map_nil, if_pos rfl, if_neg cnt_ne.symm]
/-- the dict of what was drawn, at t -/
def Town (H : Hp) (t : Addr) : Prop := ∃ (c : Int) (r : Addr) (kvs : List (Key × V)), H t = some (.dK (townD c r)) ∧ H r = some (.dK kvs) ∧ t ≠ r ∧ RestOk kvs
theorem Town.same {H H' : Hp} {t : Addr} (h : Town H t) (e : Same H H') : Town H' t := by
  obtain ⟨c, r, kvs, h1, h2, h3, h4⟩ := h
  exact ⟨c, r, kvs, e _ _ h1, e _ _ h2, h3, h4⟩
theorem kept_dict {H : Hp} {a : Addr} {kvs kvs' : List (Key × V)} (h : H a = some (.dK kvs)) : Kept H (upd H a (.dK kvs')) := fun b o e n => by
  by_cases hb : b = a
  · rw [hb, h] at e; cases e; exact absurd rfl (n _)
  · rw [upd_ne hb]; exact e
abbrev sDraw : Stmt := top 42
abbrev sBegun : Stmt := top 43
theorem scDraw : FnScope ["_law_script", "_law_town", "_law_many", "_law_at", "_law_rest", "_law_number"] ["_law_script", "_law_town", "_law_many"] (defScope sDraw) := ⟨rfl, rfl, rfl, by decide +kernel, rfl, by decide +kernel, by decide +kernel⟩
theorem scBegun : FnScope [] [] (defScope sBegun) := ⟨rfl, rfl, rfl, by decide +kernel, rfl, by decide +kernel, by decide +kernel⟩
/-- the script stands at a -/
def Scr (K : PySem.W.Frag) (H : Hp) (a : Addr) : Prop := ∃ ns : List Int, SqL K H a (ns.map V.int) ∧ ns.length ≤ 63
theorem Scr.kept {K : PySem.W.Frag} {H H' : Hp} {a : Addr} (h : Scr K H a) (e : Kept H H') : Scr K H' a := by
  obtain ⟨ns, h1, h2⟩ := h
  exact ⟨ns, e.sqL h1, h2⟩
/-- a draw below m -/
def spDraw (K : PySem.W.Frag) : Sp := fun vs H Q _ => ∃ (a t : Addr) (m : Int), vs = [.ref a, .ref t, .int m] ∧ Scr K H a ∧ Town H t ∧ 0 < m ∧ m < 1000000 ∧ ∀ (i : Int) (H' : Hp), 0 ≤ i → i < m → Kept H H' → Town H' t → Q (.int i) H'
def spBegun : Sp := fun vs H Q _ => vs = [] ∧ ∀ (t : Addr) (H' : Hp), Same H H' → Town H' t → Q (.ref t) H'
section
variable {P : Program} {w : World} {K : PySem.W.Frag} {mg : Str → Option Value} {base : Heap} {f : Addr} {fd : FuncData}
theorem ok_draw (F : Fun K "_law_draw" "_law_draw" sDraw f fd) (B : Bl mg) : FnOk P w K mg base CX0 1 f fd ["_law_script", "_law_town", "_law_many"] (spDraw K) := by
  refine F.ok scDraw (fun vs H Q E h => ?_) (fun cdv A outer s H vs Q E hr h => ?_)
  · obtain ⟨a, t, m, rfl, _⟩ := h
    rfl
  obtain ⟨a, t, m, rfl, ⟨ns, hS, h63⟩, ⟨c, r, kvs, ht, hrr, ntr, R⟩, m0, m1, q⟩ := h
  have hu := hu_of hr
  refine ⟨_, pss_cons (ps_dput hu (pv 1) pe_str (pe_op op_add (pe_dget hu (pv 1) pe_str (fun _ _ => rfl)) pe_int) rfl)
    (pss_cons (ps_set (i := 3) scDraw.nd rfl (.inl rfl) (pe_ifExp (pt_truth (pv 0) (by intro _; rfl)) (pe_op op_mod (pe_dget hu (pv 1) pe_str (fun _ _ => rfl)) (pe_callB call_len_seq rfl B.len bt_len (pa_cons (pv 0) pa_nil))) pe_int))
    (pss_cons (ps_set (i := 4) scDraw.nd rfl (.inl rfl) (pe_dget2 hu (pe_dget hu (pv 1) pe_str (fun _ _ => rfl)) (pv 3) (pe_ifExp (pt_truth (pv 0) (by intro _; rfl)) (pe_ix ix_list (pv 0) (pv 3) (fun _ _ => rfl)) pe_int) ⟨rfl, rfl, rfl, rfl⟩))
    (pss_cons (ps_if (pt_cmpR op_ge (pv 4) (pe_op op_pow pe_int pe_int) (nomark _))
      (pss_cons (ps_dput hu (pe_dget hu (pv 1) pe_str (fun _ _ => rfl)) (pv 3) (pe_op op_fdiv (pv 4) (pv 2)) rfl) (pss_one (ps_ret (pe_op op_mod (pv 4) (pv 2))))) pss_nil)
    (pss_cons (ps_set (i := 5) scDraw.nd rfl (.inl rfl) (pe_op op_mod (pe_op op_add (pv 4) (pe_op op_mul pe_int (pe_dget hu (pv 1) pe_str (fun _ _ => rfl)))) pe_int))
    (pss_cons (ps_set (i := 5) scDraw.nd rfl (.inl rfl) (pe_op op_mod (pe_op op_pow (pv 5) pe_int) pe_int))
    (pss_one (ps_ret (pe_op op_mod (pe_op op_fdiv (pe_op op_mod (pe_op op_add (pe_op op_mul (pe_op op_fdiv (pv 5) pe_int) pe_int) (pv 5)) pe_int) pe_int) (pv 2))))))))), ?_⟩
  have G : ∀ (H' : Hp) (c' : Int), H' t = some (.dK (townD c' r)) → DGet H' t (.str "count") (some (.int c')) := fun H' c' e => by
    have := DGet.k (k := .inr "count") e
    rw [townD_c] at this
    exact this
  have GR : ∀ (H' : Hp) (c' : Int), H' t = some (.dK (townD c' r)) → DGet H' t (.str "rests") (some (.ref r)) := fun H' c' e => by
    have := DGet.k (k := .inr "rests") e
    rw [townD_r] at this
    exact this
  have put := DPut.k (k := .inr "count") (v := .int (c + 1)) ht (by show 2 < sizeLine; decide)
  rw [townD_put] at put
  -- town['count'] = town['count'] + 1
  refine ⟨_, rfl, t, _, rfl, G H c ht, _, _, rfl, rfl, _, rfl, t, _, rfl, put, ?_⟩
  have k1 := kept_dict (kvs' := townD (c + 1) r) ht
  have ht1 : (upd H t (.dK (townD (c + 1) r))) t = some (.dK (townD (c + 1) r)) := upd_same
  have hr1 : (upd H t (.dK (townD (c + 1) r))) r = some (.dK kvs) := by rw [upd_ne ntr.symm]; exact hrr
  generalize upd H t (.dK (townD (c + 1) r)) = H1 at k1 ht1 hr1 ⊢
  have hS1 := k1.sqL hS
  -- at
  refine ⟨_, rfl, (!(ns.map V.int).isEmpty), .inl ⟨_, hS1, rfl⟩, ?_⟩
  have atOk : ∃ j : Nat, j < 64 ∧ (∀ (Q1 : V → Hp → Prop), Q1 (.int (j : Int)) H1 → if (!(ns.map V.int).isEmpty) = true then tOp (rI (fun _ j => 0 < j) fun i j => .int (i % j)) (tDGet (tVar 1) (tC (.str "count"))) (tCB (fun xs H Q => ∃ p ys, xs = [V.ref p] ∧ (SqL K H p ys ∨ SqT K H p ys) ∧ Q (.int (ys.length : Nat)) H) (tCons (tVar 0) tNil)) [some (.ref a), some (.ref t), some (.int m), none, none, none] H1 Q1 else Q1 (.int 0) H1) ∧ (ns ≠ [] → j < ns.length) ∧ (ns = [] → j = 0) := by
    cases ns with
    | nil => exact ⟨0, by decide, fun Q1 h => iteF h, fun h => absurd rfl h, fun _ => rfl⟩
    | cons n0 nr =>
      have lp : (0 : Int) < (((n0 :: nr).map V.int).length : Nat) := by rw [List.length_map, List.length_cons]; omega
      have e1 := Int.emod_nonneg (c + 1) (Int.ne_of_gt lp)
      have e2 := Int.emod_lt_of_pos (c + 1) lp
      have lm : ((n0 :: nr).map V.int).length = (n0 :: nr).length := List.length_map _
      refine ⟨((c + 1) % (((n0 :: nr).map V.int).length : Nat)).toNat, by omega, fun Q1 h => iteT ?_, fun _ => by omega, fun h => by cases h⟩
      rw [Int.toNat_of_nonneg e1] at h
      exact ⟨_, rfl, t, _, rfl, G H1 _ ht1, _, rfl, a, _, rfl, .inl hS1, _, _, rfl, rfl, lp, h⟩
  obtain ⟨j, j64, atGo, jlt, j0⟩ := atOk
  refine atGo _ ?_
  -- rest
  have restOk : ∃ z0 : Int, ∀ (Q1 : V → Hp → Prop), Q1 (.int z0) H1 → if (!(ns.map V.int).isEmpty) = true then tOp (rIxL K) (tVar 0) (tVar 3) [some (.ref a), some (.ref t), some (.int m), some (.int (j : Int)), none, none] H1 Q1 else Q1 (.int 0) H1 := by
    cases ns with
    | nil => exact ⟨0, fun Q1 h => iteF h⟩
    | cons n0 nr =>
      have hj := jlt (by simp)
      refine ⟨(n0 :: nr)[j], fun Q1 h => iteT ?_⟩
      exact ⟨_, rfl, _, rfl, a, _, _, _, rfl, rfl, hS1, atI_nat (by rw [List.getElem?_map, List.getElem?_eq_getElem hj]; rfl), h⟩
  obtain ⟨z0, restGo⟩ := restOk
  obtain ⟨y, hy⟩ := R.val (.inl (j : Int)) z0
  refine ⟨_, rfl, t, _, rfl, GR H1 _ ht1, r, rfl, .inl ⟨kvs, .inl hr1⟩, _, rfl, _, rfl, (!(ns.map V.int).isEmpty), .inl ⟨_, hS1, rfl⟩, restGo _ ⟨_, DGet.k (k := .inl (j : Int)) hr1, ?_⟩⟩
  rw [hy]
  -- if rest >= 10 ** 18
  refine ⟨_, rfl, _, _, rfl, rfl, ⟨by decide, by decide, by decide⟩, _, _, rfl, rfl, _, rfl, ?_⟩
  have m0' : 0 < m ∧ m < 1073741824 := ⟨m0, by omega⟩
  refine ite2 (fun _ => ?_) (fun _ => ?_)
  · refine ⟨_, rfl, _, rfl, _, _, rfl, rfl, m0', _, rfl, t, _, rfl, GR H1 _ ht1, _, rfl, r, _, rfl, DPut.k (k := .inl (j : Int)) hr1 (smallM (Nat.le_trans R.len (by decide))), ?_⟩
    refine ⟨_, rfl, _, rfl, _, _, rfl, rfl, m0, ?_⟩
    refine q _ _ (Int.emod_nonneg _ (Int.ne_of_gt m0)) (Int.emod_lt_of_pos _ m0) (k1.trans (kept_dict hr1)) ⟨c + 1, r, _, by rw [upd_ne ntr]; exact ht1, upd_same, ntr, R.put j64 _⟩
  · refine ⟨_, rfl, _, rfl, t, _, rfl, G H1 _ ht1, _, _, rfl, rfl, .inl ⟨by decide, by decide⟩, _, _, rfl, rfl, _, _, rfl, rfl, (by show (0 : Int) < 4294967291; decide), ?_⟩
    have b1 := Int.emod_nonneg (y + 104729 * (c + 1)) (show (4294967291 : Int) ≠ 0 by decide)
    have b2 := Int.emod_lt_of_pos (y + 104729 * (c + 1)) (show (0 : Int) < 4294967291 by decide)
    refine ⟨_, rfl, _, _, rfl, rfl, ⟨by decide, by decide, ?_⟩, _, _, rfl, rfl, (by show (0 : Int) < 4294967279; decide), ?_⟩
    · omega
    refine ⟨_, rfl, _, _, rfl, rfl, ⟨by decide, by decide⟩, _, _, rfl, rfl, .inr ⟨by decide, by decide⟩, _, rfl, _, _, rfl, rfl, _, _, rfl, rfl, (by show (0 : Int) < 4294967231; decide), _, _, rfl, rfl, ⟨by decide, by decide⟩, _, rfl, _, _, rfl, rfl, m0, ?_⟩
    exact q _ _ (Int.emod_nonneg _ (Int.ne_of_gt m0)) (Int.emod_lt_of_pos _ m0) k1 ⟨c + 1, r, kvs, ht1, hr1, ntr, R⟩
theorem ok_begun (F : Fun K "_law_begun" "_law_begun" sBegun f fd) : FnOk P w K mg base CX0 1 f fd [] spBegun := by
  refine F.ok scBegun (fun vs H Q E h => ?_) (fun cdv A outer s H vs Q E hr h => ?_)
  · obtain ⟨rfl, _⟩ := h
    rfl
  obtain ⟨rfl, q⟩ := h
  refine ⟨_, pss_one (ps_ret (pe_disp (pps_cons pe_str pe_int (pps_cons pe_str pe_dnewK pps_nil)) (by rfl) (by rfl) (fun z => by cases z) (by decide))), ?_⟩
  refine fun p hp d hd => ⟨?_, [(.inr "count", .int 0), (.inr "rests", .ref d)], rfl, by show 2 ≤ 15; decide, ?_⟩
  · have npd : p ≠ d := fun e => by rw [← e, upd_same] at hd; cases hd
    rw [upd_ne npd, upd_same]
  · have npd : p ≠ d := fun e => by rw [← e, upd_same] at hd; cases hd
    have e : mergeK ([] : List (Key × V)) [(.inr "count", .int 0), (.inr "rests", .ref d)] = townD 0 d := by
      show putK (putK ([] : List (Key × V)) (Sum.inr (Str.ofString "count")) (V.int 0)) (Sum.inr (Str.ofString "rests")) (V.ref d) = _
      have a : putK ([] : List (Key × V)) (.inr "count") (.int 0) = [(.inr "count", .int 0)] := rfl
      rw [a]
      unfold putK townD
      rw [if_neg (by rw [List.any_cons, decide_eq_false cnt_ne]; decide)]
      rfl
    rw [e]
    refine q p _ (same_over ((same_new hp _).trans (same_new hd _)) hp) ⟨0, d, [], upd_same, ?_, npd, ⟨List.nodup_nil, fun kv h => nomatch h⟩⟩
    rw [upd_ne npd.symm, upd_same]
end
end B1

set_option maxRecDepth 100000
set_option maxHeartbeats 4000000
namespace B1
open PySem PySem.Spec PyProof.Rows L2 TL K4
/-! ### what is drawn -/
def gl : PyData → Prop
  | .none => True
  | .bool _ => True
  | .int i => -500 ≤ i ∧ i < 500
  | .str x => (tl x).length ≤ 5 ∧ ∀ c ∈ tl x, 32 ≤ c ∧ c ≤ 126
  | _ => False
def GV : Nat → PyData → Prop
  | 0, d => gl d
  | k + 1, d => gl d ∨ ∃ ds, d = .tuple ds ∧ ds.length ≤ 3 ∧ ∀ e ∈ ds, GV k e
theorem gl_gv {d : PyData} (h : gl d) : ∀ k, GV k d
  | 0 => h
  | _ + 1 => .inl h
theorem gl_cases {d : PyData} {F : PyData → Prop} (h : gl d) (h0 : F .none) (h1 : ∀ b, F (.bool b)) (h2 : ∀ i, -500 ≤ i → i < 500 → F (.int i)) (h3 : ∀ x : Str, (tl x).length ≤ 5 → (∀ c ∈ tl x, 32 ≤ c ∧ c ≤ 126) → F (.str x)) : F d := by
  cases d with
  | none => exact h0
  | bool b => exact h1 b
  | int i => exact h2 i h.1 h.2
  | str x => exact h3 x h.1 h.2
  | _ => exact h.elim
theorem wfs_of {ds : List PyData} (h : ∀ d ∈ ds, wf d = true) : wfs ds = true := by
  induction ds with
  | nil => rfl
  | cons d ds ih => simp only [wfs, h d List.mem_cons_self, ih fun e he => h e (List.mem_cons_of_mem _ he)]; rfl
theorem okWs_of {ds : List PyData} (h : ∀ d ∈ ds, okW d = true) : okWs ds = true := by
  induction ds with
  | nil => rfl
  | cons d ds ih => simp only [okWs, h d List.mem_cons_self, ih fun e he => h e (List.mem_cons_of_mem _ he)]; rfl
theorem GV.wf : ∀ (k : Nat) {d : PyData}, GV k d → K4.wf d = true
  | k, d, h => by
    have base : ∀ {d : PyData}, gl d → K4.wf d = true := fun hg => gl_cases (F := fun d => K4.wf d = true) hg rfl (fun _ => rfl) (fun _ _ _ => rfl) fun x h1 h2 => by
      show short (tl x) = true
      unfold short
      rw [decide_eq_true (show (tl x).length ≤ 40 by omega), Bool.true_and, List.all_eq_true]
      intro c hc
      have := h2 c hc
      simp [this]
    cases k with
    | zero => exact base h
    | succ k =>
      rcases h with h | ⟨ds, rfl, _, h2⟩
      · exact base h
      · exact wfs_of fun e he => GV.wf k (h2 e he)
theorem GV.okW : ∀ (k : Nat) {d : PyData}, GV k d → B1.okW d = true
  | k, d, h => by
    have base : ∀ {d : PyData}, gl d → B1.okW d = true := fun hg => gl_cases (F := fun d => B1.okW d = true) hg rfl (fun _ => rfl) (fun i h1 h2 => by simp [B1.okW]; omega) fun x h1 h2 => by
      have := tlen x
      simp [B1.okW]; omega
    cases k with
    | zero => exact base h
    | succ k =>
      rcases h with h | ⟨ds, rfl, _, h2⟩
      · exact base h
      · exact okWs_of fun e he => GV.okW k (h2 e he)
theorem iL_len {i : Int} (h1 : -1000 < i) (h2 : i < 1000) : (iL i).length ≤ 4 := by
  have := numL_len (n := i.natAbs) (k := 3) (by decide) (by omega)
  unfold iL
  split
  · simp only [List.length_cons]; omega
  · omega
theorem gl_len {d : PyData} (h : gl d) : (wr d).length ≤ 12 ∧ tw d = 1 := gl_cases (F := fun d => (wr d).length ≤ 12 ∧ tw d = 1) h ⟨by simp [wr], rfl⟩ (fun _ => ⟨by simp [wr], rfl⟩) (fun i h1 h2 => ⟨by have := iL_len (i := i) (by omega) (by omega); show (iL i).length ≤ 12; omega, rfl⟩) fun x h1 h2 => ⟨by
  have := esc_len (tl x)
  show (39 :: (esc (tl x) ++ [39])).length ≤ 12
  simp only [List.length_cons, List.length_append, List.length_nil]
  omega, rfl⟩
def Lk : Nat → Nat
  | 0 => 12
  | k + 1 => 3 * Lk k + 4
def Mk' : Nat → Nat
  | 0 => 1
  | k + 1 => 3 * Mk' k + 6
theorem wrs1_len {n : Nat} : ∀ {ds : List PyData}, (∀ d ∈ ds, (wr d).length ≤ n) → (wrs1 ds).length ≤ ds.length * (n + 1)
  | [], _ => by simp [wrs1]
  | d :: ds, h => by
    have h1 := h d List.mem_cons_self
    have h2 := wrs1_len (ds := ds) fun e he => h e (List.mem_cons_of_mem _ he)
    simp only [wrs1, List.length_cons, List.length_append, Nat.succ_mul]
    omega
theorem twAll_len {n : Nat} : ∀ {ds : List PyData}, (∀ d ∈ ds, tw d ≤ n) → twAll ds ≤ ds.length * (n + 1)
  | [], _ => by simp [twAll]
  | d :: ds, h => by
    have h1 := h d List.mem_cons_self
    have h2 := twAll_len (ds := ds) fun e he => h e (List.mem_cons_of_mem _ he)
    simp only [twAll, List.length_cons, Nat.succ_mul]
    omega
theorem Lk_ge : ∀ k, 12 ≤ Lk k
  | 0 => Nat.le_refl _
  | k + 1 => by have := Lk_ge k; simp only [Lk]; omega
theorem GV.len : ∀ (k : Nat) {d : PyData}, GV k d → (wr d).length ≤ Lk k ∧ tw d ≤ Mk' k
  | 0, d, h => by have := gl_len h; exact ⟨this.1, by rw [this.2]; exact Nat.le_refl _⟩
  | k + 1, d, h => by
    have l12 := Lk_ge (k + 1)
    rcases h with h | ⟨ds, rfl, h1, h2⟩
    · have := gl_len h; exact ⟨by omega, by rw [this.2]; simp only [Mk']; omega⟩
    · have a1 : ∀ e ∈ ds, (wr e).length ≤ Lk k := fun e he => (GV.len k (h2 e he)).1
      have a2 := twAll_len (n := Mk' k) fun e he => (GV.len k (h2 e he)).2
      have a3 : ds.length * (Mk' k + 1) ≤ 3 * (Mk' k + 1) := Nat.mul_le_mul_right _ h1
      refine ⟨?_, by simp only [tw, Mk']; omega⟩
      cases ds with
      | nil => simp only [wr, List.length_cons, List.length_nil, Lk]; omega
      | cons e r =>
        have b1 := a1 e List.mem_cons_self
        have b2 := wrs1_len (n := Lk k) (ds := r) fun f hf => a1 f (List.mem_cons_of_mem _ hf)
        have b3 : r.length * (Lk k + 1) ≤ 2 * (Lk k + 1) := Nat.mul_le_mul_right _ (by simp only [List.length_cons] at h1; omega)
        simp only [wr, List.length_cons, List.length_append, List.length_nil, Lk]
        omega
theorem GV.bounds {d : PyData} (h : GV 3 d) : (wr d).length ≤ 376 ∧ tw d ≤ 1000 := by
  have := GV.len 3 h
  exact ⟨this.1, Nat.le_trans this.2 (by decide)⟩
section
variable {K : PySem.W.Frag}
/-- an item of a list of data -/
theorem ix_dat {H : Hp} {v : V} {ds : List PyData} (h : Dp K H v (.list ds)) {i : Int} (h0 : 0 ≤ i) (h1 : i < (ds.length : Nat)) {Q : VK} (q : ∀ u d, d ∈ ds → ds[i.toNat]? = some d → Dp K H u d → Q u H) : rIxL K v (.int i) H Q := by
  obtain ⟨a, xs, rfl, hs, hd⟩ := Dp.lstD h
  have hl : i.toNat < ds.length := by omega
  have e : ds[i.toNat]? = some ds[i.toNat] := List.getElem?_eq_getElem hl
  obtain ⟨u, e1, e2⟩ := dps_get hd e
  refine ⟨a, xs, i, u, rfl, rfl, hs, ?_, q u _ (List.getElem_mem hl) e e2⟩
  have := atI_nat (xs := xs) e1
  rwa [Int.toNat_of_nonneg h0] at this
end
theorem Town.list {H : Hp} {t D : Addr} {xs ys : List V} (h : Town H t) (hD : H D = some (.lst xs)) : Town (upd H D (.lst ys)) t := by
  obtain ⟨c, r, kvs, h1, h2, h3, h4⟩ := h
  have n1 : t ≠ D := fun e => by rw [e, hD] at h1; cases h1
  have n2 : r ≠ D := fun e => by rw [e, hD] at h2; cases h2
  exact ⟨c, r, kvs, by rw [upd_ne n1]; exact h1, by rw [upd_ne n2]; exact h2, h3, h4⟩
def signs10 : List Nat := [32, 97, 126, 39, 92, 40, 41, 84, 45, 49]
theorem signs10_is : (Str.ofString " a~'\\()T-1").cps.toList = signs10 := by decide +kernel
def tBoth : TT := fun σ H Q => ∃ i j : Int, σ[2]? = some (some (.int i)) ∧ σ[3]? = some (some (.int j)) ∧ Q (decide (0 < i ∧ 4 < j)) H
theorem both_of (σ : L2.St) (H : Hp) (Q : Bool → Hp → Prop) (h : tBoth σ H Q) : tAnd (tTest (tOp (rI0 fun i j => V.bl (decide (j < i))) (tVar 2) (tC (.int 0)))) (tTest (tOp (rI0 fun i j => V.bl (decide (j < i))) (tVar 3) (tC (.int 4)))) σ H Q := by
  obtain ⟨i, j, h2, h3, q⟩ := h
  refine ⟨_, h2, _, _, rfl, rfl, _, rfl, ?_⟩
  by_cases e : 0 < i
  · rw [decide_eq_true e]
    refine iteT ⟨_, h3, _, _, rfl, rfl, _, rfl, ?_⟩
    by_cases e2 : 4 < j
    · rw [decide_eq_true e2]; rw [decide_eq_true ⟨e, e2⟩] at q; exact q
    · rw [decide_eq_false e2]; rw [decide_eq_false fun z => e2 z.2] at q; exact q
  · rw [decide_eq_false e]
    rw [decide_eq_false fun z => e z.1] at q
    exact iteF q
abbrev sAT : Stmt := top 46
abbrev nAT : List Str := ["_law_script", "_law_town", "_law_deep", "_law_turn", "_law_size", "_law_line", "_law_k"]
theorem scAT : FnScope nAT ["_law_script", "_law_town", "_law_deep"] (defScope sAT) := ⟨rfl, rfl, rfl, by decide +kernel, rfl, by decide +kernel, by decide +kernel⟩
def spAT (K : PySem.W.Frag) (k : Nat) : Sp := fun vs H Q _ => ∃ (a t : Addr), vs = [.ref a, .ref t, .int (k : Int)] ∧ Scr K H a ∧ Town H t ∧ ∀ (v : V) (d : PyData) (H' : Hp), Kept H H' → Town H' t → Dp K H' v d → GV k d → Q v H'
def spRecA (K : PySem.W.Frag) (k : Nat) : Sp := fun vs H Q E => ∃ j, k = j + 1 ∧ spAT K j vs H Q E
section
variable {P : Program} {w : World} {K : PySem.W.Frag} {mg : Str → Option Value} {base : Heap} {f g f2 : Addr} {fd gd fd2 : FuncData}
theorem ok_at {k : Nat} (F : Fun K "_law_a_tuple" "_law_a_tuple" sAT f fd) (B : Bl mg)
    (GD : FnOk P w K mg base CX0 1 g gd ["_law_script", "_law_town", "_law_many"] (spDraw K)) (bD : Binds K gd ["_law_script", "_law_town", "_law_many"] []) (kD : PySem.W.keepIn K (.ref g) = true) (mD : mg "_law_draw" = some (.ref g))
    (GP : FnOk P w K mg base CX0 (k + 1) f fd ["_law_script", "_law_town", "_law_deep"] (spRecA K k)) (bP : Binds K fd ["_law_script", "_law_town", "_law_deep"] []) (mP : mg "_law_a_tuple" = some (.ref f)) :
    FnOk P w K mg base CX0 (k + 2) f fd ["_law_script", "_law_town", "_law_deep"] (spAT K k) := by
  refine F.ok scAT (fun vs H Q E h => ?_) (fun cdv A outer s H vs Q E hr h => ?_)
  · obtain ⟨a, t, rfl, _⟩ := h
    rfl
  obtain ⟨a, t, rfl, hS, hT, q⟩ := h
  have hr1 := hr.mono (show 1 ≤ k + 1 by omega)
  refine ⟨_, (pss_cons (ps_set (i := 3) scAT.nd rfl (.inl rfl) (pe_call GD hr1 rfl mD kD bD .nil pass0 (pa_cons (pv 0) (pa_cons (pv 1) (pa_cons pe_int pa_nil))))) (pss_cons (ps_if (pt_less (t' := tBoth) (PW.pt (pw_and (pt_cmpR op_gt (pv 2) pe_int (nomark _)) (pw_and1 (pt_cmpR op_gt (pv 3) pe_int (nomark _))))) both_of) (pss_one (ps_ret (pe_callTy call_tuple_of rfl B.tuple bt_tuple (pa_cons (pe_lc (own := [("_law_k", 6)]) (g := (gName 6)) (by rfl) scAT.nd (pi_range1 rfl B.range (pa_cons (pe_call GD hr1 rfl mD kD bD .nil pass0 (pa_cons (pv 0) (pa_cons (pv 1) (pa_cons pe_int pa_nil)))) pa_nil)) (blkOk_by (own := [("_law_k", 6)]) (N := nAT) (sc := defScope sAT) (by decide +kernel)) (fun _ _ _ _ _ => (pg_name (i := 6) scAT.nd rfl (Or.inl rfl))) (fun _ _ _ _ _ => pts_nil) (fun _ _ _ _ _ => (pe_call GP hr rfl mP F.kp bP .nil pass0 (pa_cons (pv 0) (pa_cons (pv 1) (pa_cons (pe_op op_sub (pv 2) pe_int) pa_nil)))))) pa_nil)))) pss_nil) (pss_cons (ps_set (i := 4) scAT.nd rfl (.inl rfl) (pe_call GD hr1 rfl mD kD bD .nil pass0 (pa_cons (pv 0) (pa_cons (pv 1) (pa_cons pe_int pa_nil))))) (pss_cons (ps_set (i := 5) scAT.nd rfl (.inl rfl) (pe_join pe_str (pe_lc (own := [("_law_k", 6)]) (g := (gName 6)) (by rfl) scAT.nd (pi_range1 rfl B.range (pa_cons (pv 4) pa_nil)) (blkOk_by (own := [("_law_k", 6)]) (N := nAT) (sc := defScope sAT) (by decide +kernel)) (fun _ _ _ _ _ => (pg_name (i := 6) scAT.nd rfl (Or.inl rfl))) (fun _ _ _ _ _ => pts_nil) (fun _ _ _ _ _ => (pe_ix ix_str pe_str (pe_call GD hr1 rfl mD kD bD .nil pass0 (pa_cons (pv 0) (pa_cons (pv 1) (pa_cons pe_int pa_nil)))) (fun _ _ => rfl)))))) (pss_one (ps_ret (pe_ix ix_list (pe_lst (pa_cons pe_non (pa_cons pe_bl (pa_cons pe_bl (pa_cons (pe_op op_sub (pe_call GD hr1 rfl mD kD bD .nil pass0 (pa_cons (pv 0) (pa_cons (pv 1) (pa_cons pe_int pa_nil)))) pe_int) (pa_cons (pv 5) pa_nil)))))) (pe_callB (call_min2 rfl) rfl B.min bt_min (pa_cons pe_int (pa_cons (pv 3) pa_nil))) (fun _ _ => rfl)))))))), ?_⟩
  refine ⟨_, rfl, _, rfl, a, t, 8, rfl, hS, hT, by decide, by decide, fun i H1 i0 i1 k1 T1 => ?_⟩
  have S1 := hS.kept k1
  refine ⟨_, _, rfl, rfl, ?_⟩
  refine ite2 (fun e => ?_) (fun e => ?_)
  · have e := of_decide_eq_true e
    obtain ⟨j, rfl⟩ : ∃ j, k = j + 1 := ⟨k - 1, by omega⟩
    refine ⟨_, rfl, _, rfl, a, t, 4, rfl, S1, T1, by decide, by decide, fun n H2 n0 n1 k2 T2 => ⟨n, rfl, by omega, by omega, fun D nD => ?_⟩⟩
    have S2 := S1.kept k2
    refine lc_it walk_range (fun i H' => ∃ vs ds, Kept H2 H' ∧ Town H' t ∧ H' D = some (.lst vs) ∧ DpAll K H' vs ds ∧ ds.length = i ∧ ∀ e ∈ ds, GV j e) ⟨[], [], Kept.of (same_new nD _), T2.same (same_new nD _), upd_same, .nil, rfl, fun _ h => nomatch h⟩ (fun _ _ _ _ => trivial) ?_ ?_
    · rintro m x H3' H3 hm ⟨vs, ds, k3, T3, hD3, hd3, hl3, hg3⟩ ⟨rfl, rfl⟩
      refine ⟨rfl, tyes (iteT ?_)⟩
      have ej : ((((j + 1 : Nat) : Int)) - 1) = (j : Int) := by omega
      refine ⟨_, rfl, _, rfl, _, rfl, _, _, rfl, rfl, j, rfl, a, t, by rw [← ej]; rfl, S2.kept k3, T3, fun v d H4 k4 T4 p4 g4 => ?_⟩
      have hD4 : H4 D = some (.lst vs) := k4 _ _ hD3 fun _ z => nomatch z
      have vl := dps_len hd3
      have nl : n.toNat ≤ 4 := by omega
      refine ⟨vs, hD4, smallM (by omega), vs ++ [v], ds ++ [d], kept_over (k3.trans k4) nD, T4.list hD4, upd_same, ?_, by rw [List.length_append, hl3]; rfl, fun e he => ?_⟩
      · have kl := keptL_list (ys := vs ++ [v]) hD4
        refine dps_append (dps_keptL kl ds vs (wfs_of fun e he => GV.wf j (hg3 e he)) (k4.dps hd3)) (.cons (dp_keptL kl d v (GV.wf j g4) p4) .nil)
      · rcases List.mem_append.mp he with h | h
        · exact hg3 e h
        · rw [List.mem_singleton.mp h]; exact g4
    · rintro H3 ⟨vs, ds, k3, T3, hD3, hd3, hl3, hg3⟩
      refine ⟨D, _, rfl, .inl ⟨SqL.of hD3, fun p np => ?_⟩⟩
      have s4 := same_new np (.tup vs)
      exact q (.ref p) (.tuple ds) _ (k1.trans (k2.trans (k3.trans (Kept.of s4)))) (T3.same s4) (.tup (SqT.of upd_same) (same_dps s4 hd3)) (.inr ⟨ds, rfl, by omega, hg3⟩)
  · clear e
    refine ⟨_, rfl, _, rfl, a, t, 6, rfl, S1, T1, by decide, by decide, fun n H2 n0 n1 k2 T2 => ?_⟩
    have S2 := S1.kept k2
    refine ⟨⟨_, rfl⟩, _, rfl, n, rfl, by omega, by omega, fun D nD => ?_⟩
    refine lc_it walk_range (fun i H' => ∃ zs : List Nat, Kept H2 H' ∧ Town H' t ∧ H' D = some (.lst ((zs.map fun c => (⟨#[c]⟩ : Str)).map V.str)) ∧ zs.length = i ∧ ∀ c ∈ zs, 32 ≤ c ∧ c ≤ 126) ⟨[], Kept.of (same_new nD _), T2.same (same_new nD _), upd_same, rfl, fun _ h => nomatch h⟩ (fun _ _ _ _ => trivial) ?_ ?_
    · rintro m x H3' H3 hm ⟨zs, k3, T3, hD3, hl3, hg3⟩ ⟨rfl, rfl⟩
      refine ⟨rfl, tyes (iteT ?_)⟩
      refine ⟨_, rfl, _, rfl, a, t, 10, rfl, S2.kept k3, T3, by decide, by decide, fun c H4 c0 c1 k4 T4 => ?_⟩
      have hD4 := k4 _ _ hD3 fun _ z => nomatch z
      obtain ⟨ci, rfl⟩ := Int.eq_ofNat_of_zero_le c0
      have cl : ci < signs10.length := by show ci < 10; omega
      have cg : signs10[ci]? = some signs10[ci] := List.getElem?_eq_getElem cl
      have cr : ∀ c ∈ signs10, 32 ≤ c ∧ c ≤ 126 := by decide
      refine ⟨_, _, signs10[ci], rfl, rfl, (by decide +kernel), by rw [signs10_is]; exact atI_str cg, _, hD4, ?_, zs ++ [signs10[ci]], kept_over (k3.trans k4) nD, T4.list hD4, ?_, by rw [List.length_append, hl3]; rfl, fun e he => ?_⟩
      · rw [List.length_map, List.length_map]; exact smallM (by omega)
      · rw [upd_same, List.map_append, List.map_append]; rfl
      · rcases List.mem_append.mp he with h | h
        · exact hg3 e h
        · rw [List.mem_singleton.mp h]; exact cr _ (List.getElem_mem cl)
    · rintro H3 ⟨zs, k3, T3, hD3, hl3, hg3⟩
      have zl : zs.length ≤ 5 := by omega
      have ec : cat (zs.map fun c => (⟨#[c]⟩ : Str)) = zs := by
        clear hD3 hl3 hg3 zl
        induction zs with
        | nil => rfl
        | cons c zs ih => show [c] ++ cat (zs.map _) = _; rw [ih]; rfl
      refine ⟨_, D, _, rfl, rfl, .inl (SqL.of hD3), ?_, ?_⟩
      · rw [sum_len, ec]
        show _ + _ * 0 ≤ _
        omega
      have S3 := S2.kept k3
      refine ⟨_, rfl, _, rfl, a, t, 1000, rfl, S3, T3, by decide, by decide, fun m H4 m0 m1 k4 T4 => ⟨_, _, rfl, rfl, _, rfl, (by show 5 ≤ sizeLine; decide), fun p np => ?_⟩⟩
      have s5 := same_new np (.lst [.non, .bl true, .bl false, .int (m - 500), .str (Txt.join "" (zs.map fun c => (⟨#[c]⟩ : Str)))])
      refine ⟨_, rfl, _, _, rfl, ?_⟩
      have hd : Dp K (upd H4 p (.lst [.non, .bl true, .bl false, .int (m - 500), .str (Txt.join "" (zs.map fun c => (⟨#[c]⟩ : Str)))])) (.ref p) (.list [.none, .bool true, .bool false, .int (m - 500), .str (Txt.join "" (zs.map fun c => (⟨#[c]⟩ : Str)))]) :=
        .lst (SqL.of upd_same) (.cons .non (.cons (.bl _) (.cons (.bl _) (.cons (.int _) (.cons (.str _) .nil)))))
      have jl : tl (Txt.join "" (zs.map fun c => (⟨#[c]⟩ : Str))) = zs := by rw [tl_join0, ec]
      refine ix_dat hd (by split <;> omega) (by show _ < ((5 : Nat) : Int); split <;> omega) fun u d dm _ du => ?_
      refine q u d _ (k1.trans (k2.trans (k3.trans (k4.trans (Kept.of s5))))) (T4.same s5) du (gl_gv ?_ k)
      simp only [List.mem_cons, List.not_mem_nil, or_false] at dm
      rcases dm with rfl | rfl | rfl | rfl | rfl
      · trivial
      · trivial
      · trivial
      · exact ⟨by omega, by omega⟩
      · exact ⟨by rw [jl]; omega, by rw [jl]; exact hg3⟩
theorem at_all (F : Fun K "_law_a_tuple" "_law_a_tuple" sAT f fd) (B : Bl mg)
    (GD : FnOk P w K mg base CX0 1 g gd ["_law_script", "_law_town", "_law_many"] (spDraw K)) (bD : Binds K gd ["_law_script", "_law_town", "_law_many"] []) (kD : PySem.W.keepIn K (.ref g) = true) (mD : mg "_law_draw" = some (.ref g))
    (bP : Binds K fd ["_law_script", "_law_town", "_law_deep"] []) (mP : mg "_law_a_tuple" = some (.ref f)) : ∀ k : Nat, FnOk P w K mg base CX0 (k + 2) f fd ["_law_script", "_law_town", "_law_deep"] (spAT K k)
  | 0 => ok_at F B GD bD kD mD ⟨fun vs H Q E h => (by obtain ⟨j, e, _⟩ := h; cases e), fun A outer s H args us vs Q E _ _ _ _ h => (by obtain ⟨j, e, _⟩ := h; cases e)⟩ bP mP
  | k + 1 => ok_at F B GD bD kD mD ((at_all F B GD bD kD mD bP mP k).imp fun vs H Q E ⟨j, e, h⟩ => (by cases e; exact h)) bP mP
end
end B1

set_option maxRecDepth 100000
set_option maxHeartbeats 4000000
namespace B1
open PySem PySem.Spec PyProof.Rows L2 TL K4
theorem val_lt : ∀ (l : List Nat) (a : Nat), (∀ c ∈ l, dig c = true) → l.foldl (fun acc c => acc * 10 + (c - 48)) a < (a + 1) * 10 ^ l.length
  | [], a, _ => by simp
  | c :: l, a, hc => by
    have h1 := val_lt l (a * 10 + (c - 48)) fun x hx => hc x (List.mem_cons_of_mem _ hx)
    have h2 := dig_iff.mp (hc c List.mem_cons_self)
    refine Nat.lt_of_lt_of_le h1 ?_
    rw [List.length_cons, Nat.pow_succ, Nat.mul_comm (10 ^ l.length) 10, ← Nat.mul_assoc]
    exact Nat.mul_le_mul_right _ (by omega)
theorem num_lt (n : Nat) : n < 10 ^ (numL n).length := by
  have h := val_lt (numL n) 0 (numL_dig n)
  have e : (numL n).foldl (fun acc c => acc * 10 + (c - 48)) 0 = n := numL_val n
  rw [e] at h
  omega
theorem pow500 : (10 : Nat) ^ 500 ≤ 2 ^ 1920 := by decide +kernel
theorem log_small {i : Int} (h : (iL i).length ≤ 500) : i.natAbs.log2 < 1920 := by
  have hl : (numL i.natAbs).length ≤ 500 := by
    unfold iL at h
    split at h
    · simp only [List.length_cons] at h; omega
    · exact h
  by_cases h0 : i.natAbs = 0
  · rw [h0]; decide
  · rw [Nat.log2_lt h0]
    exact Nat.lt_of_lt_of_le (num_lt _) (Nat.le_trans (Nat.pow_le_pow_right (by decide) hl) pow500)
theorem tl_int (i : Int) : tl (Str.ofString (toString i)) = iL i := by
  unfold iL
  by_cases h : i < 0
  · rw [if_pos h]
    have e : toString i = "-" ++ toString (0 - i) := toString_neg h
    rw [e, show (0 - i) = ((i.natAbs : Nat) : Int) by omega, tl_ofString]
    rw [String.toList_append, List.map_append]
    show [45] ++ _ = _
    have := tl_num i.natAbs
    rw [tl_ofString] at this
    rw [this]
    rfl
  · rw [if_neg h]
    have := tl_num i.natAbs
    rw [show ((i.natAbs : Nat) : Int) = i by omega] at this
    exact this
abbrev sWr : Stmt := top 47
abbrev nWr : List Str := ["_law_value", "_law_found", "_law_sign", "_law_one"]
theorem scWr : FnScope nWr ["_law_value"] (defScope sWr) := ⟨rfl, rfl, rfl, by decide +kernel, rfl, by decide +kernel, by decide +kernel⟩
def spWr (K : PySem.W.Frag) (n : Nat) : Sp := fun vs H Q _ => ∃ (v : V) (d : PyData), vs = [v] ∧ Dp K H v d ∧ wf d = true ∧ d.depth ≤ n ∧ (wr d).length ≤ 500 ∧ ∀ H', Same H H' → Q (sg (wr d)) H'
def spRecW (K : PySem.W.Frag) (n : Nat) : Sp := fun vs H Q E => ∃ j, n = j + 1 ∧ spWr K j vs H Q E
/-- the parts of a tuple, a blank between -/
def wrs : List PyData → List Nat
  | [] => []
  | d :: ds => wr d ++ wrs1 ds
theorem wr_tup (ds : List PyData) : wr (.tuple ds) = 40 :: (wrs ds ++ [41]) := by
  cases ds with
  | nil => rfl
  | cons d ds => rfl
theorem joinL_wrs : ∀ ds : List PyData, joinL [32] (ds.map wr) = wrs ds
  | [] => rfl
  | [d] => by simp [joinL, wrs, wrs1]
  | d :: e :: ds => by
    have ih := joinL_wrs (e :: ds)
    show wr d ++ ([32] ++ joinL [32] ((e :: ds).map wr)) = wr d ++ (32 :: (wr e ++ wrs1 ds))
    rw [ih]
    rfl
theorem wr_le : ∀ {ds : List PyData} {d : PyData}, d ∈ ds → (wr d).length ≤ (wrs1 ds).length
  | x :: ds, d, h => by
    simp only [wrs1, List.length_cons, List.length_append]
    rcases List.mem_cons.mp h with rfl | h
    · omega
    · have := wr_le h; omega
theorem wrs_le {ds : List PyData} {d : PyData} (h : d ∈ ds) : (wr d).length ≤ (wrs ds).length := by
  cases ds with
  | nil => cases h
  | cons x ds =>
    simp only [wrs, List.length_append]
    rcases List.mem_cons.mp h with rfl | h
    · omega
    · have := wr_le h; omega
theorem wrs_len (ds : List PyData) (hw : wfs ds = true) : ds.length ≤ (wrs ds).length := by
  have key : ∀ ds : List PyData, ds.length ≤ (wrs1 ds).length := fun ds => by
    induction ds with
    | nil => exact Nat.le_refl _
    | cons d ds ih => simp only [wrs1, List.length_cons, List.length_append]; omega
  cases ds with
  | nil => exact Nat.le_refl _
  | cons d ds =>
    have hw : wf d = true ∧ wfs ds = true := by simpa [wfs] using hw
    obtain ⟨c, r, e, _⟩ := wr_first d hw.1
    have := key ds
    simp only [wrs, e, List.length_cons, List.length_append]
    omega
theorem wfs_mem {ds : List PyData} {d : PyData} (h : wfs ds = true) (hm : d ∈ ds) : wf d = true := by
  induction ds with
  | nil => cases hm
  | cons x ds ih =>
    have h : wf x = true ∧ wfs ds = true := by simpa [wfs] using h
    rcases List.mem_cons.mp hm with rfl | hm
    · exact h.1
    · exact ih h.2 hm
theorem dep_mem {d : PyData} {xs : List PyData} (h : d ∈ xs) : d.depth ≤ PyData.depthAll xs := by
  induction xs with
  | nil => cases h
  | cons x xs ih =>
    rcases List.mem_cons.mp h with rfl | h
    · simp only [PyData.depthAll]; omega
    · have := ih h
      simp only [PyData.depthAll]; omega
theorem in_esc (c : Nat) : decide (c ∈ (Str.ofString "\\'").cps.toList) = decide (c = 92 ∨ c = 39) := by
  have e : (Str.ofString "\\'").cps.toList = [92, 39] := by decide +kernel
  rw [e]
  refine decide_eq_decide.mpr ?_
  simp
/-- a backslash ahead of a quote or a backslash -/
def tEsc : TE := fun σ H Q => ∃ c : Nat, σ[2]? = some (some (.str ⟨#[c]⟩)) ∧ Q (sg (if c = 92 ∨ c = 39 then [92] else [])) H
theorem esc_of (σ : L2.St) (H : Hp) (Q : VK) (h : tEsc σ H Q) : tIf (tTest (tOp (fun x y H Q => ∃ (c : Nat) (z : Str), x = .str ⟨#[c]⟩ ∧ y = .str z ∧ Q (.bl (decide (c ∈ z.cps.toList))) H) (tVar 2) (tC (.str "\\'")))) (tC (.str "\\")) (tC (.str "")) σ H Q := by
  obtain ⟨c, h2, q⟩ := h
  refine ⟨_, h2, c, _, rfl, rfl, _, rfl, ?_⟩
  rw [in_esc]
  by_cases e : c = 92 ∨ c = 39
  · rw [decide_eq_true e]; rw [if_pos e] at q; exact iteT q
  · rw [decide_eq_false e]; rw [if_neg e] at q; exact iteF q
section
variable {P : Program} {w : World} {K : PySem.W.Frag} {mg : Str → Option Value} {base : Heap} {f g f2 : Addr} {fd gd fd2 : FuncData}
theorem ok_wr {n : Nat} (F : Fun K "_law_written" "_law_written" sWr f fd) (B : Bl mg)
    (GP : FnOk P w K mg base CX0 n f fd ["_law_value"] (spRecW K n)) (bP : Binds K fd ["_law_value"] []) (mP : mg "_law_written" = some (.ref f)) :
    FnOk P w K mg base CX0 (n + 1) f fd ["_law_value"] (spWr K n) := by
  refine F.ok scWr (fun vs H Q E h => ?_) (fun cdv A outer s H vs Q E hr h => ?_)
  · obtain ⟨v, d, rfl, _⟩ := h
    rfl
  obtain ⟨v, d, rfl, hd, hw, hdep, hlen, q⟩ := h
  refine ⟨_, (pss_cons (ps_if (pt_val (pe_isD kit_T rfl B.isi rfl B.tuple bt_tuple (pv 0))) (pss_one (ps_ret (pe_op op_add_str (pe_op op_add_str pe_str (pe_join pe_str (pe_lc (own := [("_law_one", 3)]) (g := (gName 3)) (by rfl) scWr.nd (pi_tup (pv 0)) (blkOk_by (own := [("_law_one", 3)]) (N := nWr) (sc := defScope sWr) (by decide +kernel)) (fun _ _ _ _ _ => (pg_name (i := 3) scWr.nd rfl (Or.inl rfl))) (fun _ _ _ _ _ => pts_nil) (fun _ _ _ _ _ => (pe_call GP hr rfl mP F.kp bP .nil pass0 (pa_cons (pv 3) pa_nil)))))) pe_str))) pss_nil) (pss_cons (ps_if (pt_val (pe_isD kit_S rfl B.isi rfl B.str bt_str (pv 0))) (pss_cons (ps_set (i := 1) scWr.nd rfl (.inl rfl) pe_str) (pss_cons (ps_for PassesOwn.never rfl (pi_str (pv 0)) (pg_name (i := 2) scWr.nd rfl (.inl rfl)) (pss_one (ps_set (i := 1) scWr.nd rfl (.inl rfl) (pe_op op_add_str (pe_op op_add_str (pv 1) (pe_less (t' := tEsc) (pe_ifExp (pt_cmpR op_in_sign (pv 2) pe_str (by with_unfolding_all rfl)) pe_str pe_str) esc_of)) (pv 2))))) (pss_one (ps_ret (pe_op op_add_str (pv 1) pe_str))))) pss_nil) (pss_cons (ps_if (pt_val (pe_isD kit_B rfl B.isi rfl B.bool bt_bool (pv 0))) (pss_one (ps_ret (pe_ifExp (pt_truth (pv 0) (by intro _; rfl)) pe_str pe_str))) pss_nil) (pss_one (ps_ret (pe_ifExp (pt_cmpR op_isN (pv 0) pe_non (nomark _)) pe_str (pe_callTy call_str_int rfl B.str bt_str (pa_cons (pv 0) pa_nil)))))))), ?_⟩
  have hz : ∀ m : Nat, m ≤ 10000 → m ≤ sizeLine := fun m h => Nat.le_trans h (by decide)
  refine ⟨_, rfl, v, d, rfl, hd, _, rfl, ?_⟩
  cases d with
  | tuple ds =>
    obtain ⟨ta, us, rfl, hs, hD⟩ := Dp.tupD hd
    rw [wr_tup] at hlen
    have hl : (wrs ds).length ≤ 498 := by simp only [List.length_cons, List.length_append, List.length_nil] at hlen; omega
    have hds := wrs_len ds hw
    have ulen := dps_len hD
    obtain ⟨n', rfl⟩ : ∃ n', n = n' + 1 := ⟨n - 1, by simp only [PyData.depth] at hdep; omega⟩
    refine iteT ⟨⟨_, rfl⟩, _, rfl, ta, rfl, ⟨us, hs⟩, fun D nD => ?_⟩
    refine lc_it (walk_tup (xs := us)) (fun i H' => Same H H' ∧ H' D = some (.lst (((ds.take i).map fun d => (⟨(wr d).toArray⟩ : Str)).map V.str))) ⟨same_new nD _, upd_same⟩ (fun i H' _ h => (Kept.of h.1).sqT hs) ?_ ?_
    · rintro i x H1' H1 hi ⟨s1, hD1⟩ ⟨rfl, hx⟩
      obtain ⟨e, he, hde⟩ := dps_getV hD hx
      have hem : e ∈ ds := List.mem_of_getElem? he
      refine ⟨rfl, tyes (iteT ?_)⟩
      have h1 := wrs_le hem
      have h2 := dep_mem hem
      refine ⟨_, rfl, n', rfl, x, e, rfl, same_dp s1 hde, wfs_mem hw hem, by simp only [PyData.depth] at hdep; omega, by omega, fun H2 s2 => ?_⟩
      refine ⟨_, s2 _ _ hD1, ?_, same_over (s1.trans s2) nD, ?_⟩
      · rw [List.length_map, List.length_map, List.length_take]; exact smallM (by omega)
      · rw [upd_same, List.take_add_one, he, List.map_append, List.map_append]; rfl
    · rintro H1 ⟨s1, hD1⟩
      rw [ulen, List.take_of_length_le (Nat.le_refl _)] at hD1
      have ej : tl (Txt.join " " (ds.map fun d => (⟨(wr d).toArray⟩ : Str))) = wrs ds := by
        rw [join_eq, tl_join, List.map_map]
        exact joinL_wrs ds
      have jl : (Txt.join " " (ds.map fun d => (⟨(wr d).toArray⟩ : Str))).length = (wrs ds).length := by rw [len_tl, ej]
      refine ⟨_, D, _, rfl, rfl, .inl (SqL.of hD1), ?_, _, _, rfl, rfl, ?_, _, _, rfl, rfl, ?_, ?_⟩
      · have e1 : ((ds.map fun d => (⟨(wr d).toArray⟩ : Str)).map (·.length)).sum ≤ (wrs ds).length := by
          rw [sum_len]
          have : ∀ ds : List PyData, (cat (ds.map fun d => (⟨(wr d).toArray⟩ : Str))).length ≤ (wrs1 ds).length := fun ds => by
            induction ds with
            | nil => exact Nat.le_refl _
            | cons d ds ih =>
              show (wr d ++ cat (ds.map _)).length ≤ _
              simp only [wrs1, List.length_cons, List.length_append]
              omega
          cases ds with
          | nil => exact Nat.le_refl _
          | cons d r =>
            show (wr d ++ cat (r.map _)).length ≤ _
            have := this r
            simp only [wrs, List.length_append]
            omega
        show _ + _ * 1 ≤ 16777216
        rw [List.length_map]
        omega
      · exact hz _ (by rw [jl]; show 1 + _ ≤ _; omega)
      · refine hz _ ?_
        rw [len_tl (_ ++ _), tl_append, List.length_append, ej]
        show (1 + _) + 1 ≤ _
        omega
      · refine str_to (q H1 s1) (ext_tl ?_)
        rw [tl_append, tl_append, ej, tl_mk, wr_tup]
        rfl
  | str x =>
    cases hd
    have e5 : (wr (.str x)).length = (esc (tl x)).length + 2 := by simp [wr]
    refine iteF ⟨_, rfl, _, _, rfl, .str x, _, rfl, iteT ?_⟩
    refine ⟨_, rfl, x, rfl, ?_⟩
    refine for_it walk_str (fun j σ H' => ∃ y2, σ = [some (.str x), some (sg (39 :: esc ((tl x).take j))), y2, none] ∧ H' = H) ⟨_, rfl, rfl⟩ (fun _ _ _ _ _ => trivial) ?_ ?_
    · rintro j u σ H1' H1 hj ⟨y2, rfl, rfl⟩ ⟨rfl, c, hc, rfl⟩
      have hc' : (tl x)[j]? = some c := by show x.cps.toList[j]? = _; rw [Array.getElem?_toList]; exact hc
      have tk : (tl x).take (j + 1) = (tl x).take j ++ [c] := by rw [List.take_add_one, hc']; rfl
      have el : (esc ((tl x).take j)).length + 2 ≤ 1000 := by
        have : esc (tl x) = esc ((tl x).take j) ++ esc ((tl x).drop j) := by rw [← esc_append, List.take_append_drop]
        have := congrArg List.length this
        rw [List.length_append] at this
        omega
      have e2 : (if c = 92 ∨ c = 39 then [92] else [] : List Nat).length ≤ 1 := by split <;> simp
      refine ⟨_, rfl, c, rfl, _, _, rfl, rfl, ?_, _, rfl, _, _, rfl, rfl, ?_, ?_⟩
      · refine hz _ ?_
        rw [len_tl, len_tl]
        show (esc ((tl x).take j)).length + 1 + (if c = 92 ∨ c = 39 then [92] else [] : List Nat).length ≤ 10000
        omega
      · refine hz _ ?_
        rw [len_tl, tl_append, List.length_append]
        show (esc ((tl x).take j)).length + 1 + (if c = 92 ∨ c = 39 then [92] else [] : List Nat).length + 1 ≤ 10000
        omega
      · refine ⟨some (.str ⟨#[c]⟩), ?_, rfl⟩
        have e3 : ((⟨(39 :: esc ((tl x).take j)).toArray⟩ : Str) ++ ⟨(if c = 92 ∨ c = 39 then [92] else [] : List Nat).toArray⟩ ++ ⟨#[c]⟩) = ⟨(39 :: esc ((tl x).take (j + 1))).toArray⟩ := by
          refine ext_tl ?_
          rw [tl_append, tl_append, tl_mk, tl_mk, tl_mk, tk, esc_append]
          show 39 :: esc ((tl x).take j) ++ _ ++ [c] = 39 :: (esc ((tl x).take j) ++ esc [c])
          rw [esc_cons]
          unfold esc1
          split <;> simp [esc]
        rw [e3]
        rfl
    · rintro σ H1 ⟨y2, rfl, rfl⟩
      have et : (tl x).take x.cps.size = tl x := List.take_of_length_le (by rw [Array.length_toList]; exact Nat.le_refl _)
      rw [et]
      refine ⟨_, rfl, _, _, rfl, rfl, ?_, ?_⟩
      · refine hz _ ?_
        rw [len_tl]
        show (esc (tl x)).length + 1 + 1 ≤ _
        omega
      · refine str_to (q H1 (Same.refl H1)) (ext_tl ?_)
        rw [tl_append, tl_mk]
        rfl
  | bool b =>
    cases hd
    refine iteF ⟨_, rfl, _, _, rfl, .bl b, _, rfl, iteF ⟨_, rfl, _, _, rfl, .bl b, _, rfl, iteT ⟨_, rfl, b, rfl, ?_⟩⟩⟩
    cases b with
    | true => exact iteT (q H (Same.refl H))
    | false => exact iteF (q H (Same.refl H))
  | none =>
    cases hd
    refine iteF ⟨_, rfl, _, _, rfl, .non, _, rfl, iteF ⟨_, rfl, _, _, rfl, .non, _, rfl, iteF ⟨_, rfl, rfl, _, rfl, iteT (q H (Same.refl H))⟩⟩⟩
  | int i =>
    cases hd
    refine iteF ⟨_, rfl, _, _, rfl, .int i, _, rfl, iteF ⟨_, rfl, _, _, rfl, .int i, _, rfl, iteF ⟨_, rfl, rfl, _, rfl, iteF ⟨_, rfl, i, rfl, log_small hlen, ?_⟩⟩⟩⟩
    exact str_to (q H (Same.refl H)) (ext_tl (by rw [tl_int]; rfl))
  | list _ => cases hw
  | dict _ => cases hw
theorem wr_all (F : Fun K "_law_written" "_law_written" sWr f fd) (B : Bl mg) (bP : Binds K fd ["_law_value"] []) (mP : mg "_law_written" = some (.ref f)) : ∀ n : Nat, FnOk P w K mg base CX0 (n + 1) f fd ["_law_value"] (spWr K n)
  | 0 => ok_wr F B ⟨fun vs H Q E h => (by obtain ⟨j, e, _⟩ := h; cases e), fun A outer s H args us vs Q E _ _ _ _ h => (by obtain ⟨j, e, _⟩ := h; cases e)⟩ bP mP
  | n + 1 => ok_wr F B ((wr_all F B bP mP n).imp fun vs H Q E ⟨j, e, h⟩ => (by cases e; exact h)) bP mP
end
end B1

set_option maxRecDepth 100000
set_option maxHeartbeats 4000000
namespace B1
open PySem PySem.Spec PyProof.Rows L2 TL
/-! ### an exception that is kept behind its suite -/
/-- the exception of the class cls at a -/
def ExK (cls : Value) (d : Option Addr) (a : Addr) : HO := .ext fun h => ∃ (oe : Obj) (vs : Array Value), h.get? a = some oe ∧ Zc cls d oe ∧ oe.data = .fields vs
theorem exK_ok {P : Program} {w : World} {H : Hp} {h : Heap} {a : Addr} {cls : Value} {d : Option Addr} {oe : Obj} {vs : Array Value} (e : h.get? a = some oe) (z : Zc cls d oe) (dt : oe.data = .fields vs) : ObjOk P w H h a (ExK cls d a) :=
  ⟨⟨oe, vs, e, z, dt⟩, ⟨oe, e⟩, fun _ _ ⟨oe, vs, e, z, dt⟩ k => ⟨oe, vs, k _ e, z, dt⟩⟩
section
variable {X : Cx} {pins : List (Addr × Obj)} {σ : L2.St} {H : Hp} {s : Shared}
/-- what stands there already, and was not there at the entry, is tracked from now on -/
theorem inv_track {a : Addr} {o : HO} {oe : Obj} {vs : Array Value} (I : Inv X pins σ H s) (he : s.heap.get? a = some oe) (hd : oe.data = .fields vs) (na : H a = none) (n0 : X.s_0.heap.get? a = none) (nL : a ≠ X.env.locals) (np : ∀ p ∈ X.pn ++ pins, p.1 ≠ a) (new : ObjOk X.prog X.w (upd H a o) s.heap a o) : Inv X pins σ (upd H a o) s := by
  have nn : ∀ b u, H b = some u → b ≠ a := fun b u e z => by rw [z, na] at e; cases e
  refine ⟨I.ok, I.os, I.bare, ⟨I.base.keep, I.base.slot, fun b u e n hx => ?_, I.base.there, fun b xs e => ?_, fun b u v e => ?_, fun b ps e => ?_⟩, I.loc, I.cell, ?_, fun x c e => ?_, fun p hp => ?_, L2.HOk.laidN I.hok (fun _ _ z => z) na new, I.len⟩
  · rw [upd_ne (fun z => by rw [z, n0] at e; cases e)]; exact I.base.free b u e n hx
  · have q := I.base.tups b xs e
    rw [upd_ne (nn _ _ q)]; exact q
  · have q := I.base.frzs b u v e
    rw [upd_ne (nn _ _ q)]; exact q
  · obtain ⟨m, q⟩ := I.base.tbls b ps e
    exact ⟨m, by rw [upd_ne (nn _ _ q)]; exact q⟩
  · rw [upd_ne nL.symm]; exact I.free
  · obtain ⟨v, oc, q1, q2⟩ := I.cell x c e
    rw [upd_ne (fun z => by rw [z, he] at q1; cases q1; rw [hd] at q2; cases q2)]
    exact I.freeC x c e
  · obtain ⟨p1, p2, p3⟩ := I.pin p hp
    exact ⟨p1, by rw [upd_ne (np p hp)]; exact p2, p3⟩
end
/-- try .. except C as n: suite, the exception being tracked behind it; all that comes is of C -/
def wKept (N : Nat) (K : PySem.W.Frag) (c : Value) (i : Nat) (ts : Addr → Value → Option Addr → TS) (D : Ends) : WX := fun cls d σ H =>
  PySem.W.exmOne K cls c = some true ∧ ∀ a, H a = none → σ.length = N → ts a cls d { nx := fun σ' H' => H' a = none → D.nx (σ'.set i none) (upd H' a (ExK cls d a)), rt := fun _ _ => False, bk := fun _ _ => False, ct := fun _ _ => False } (σ.set i (some (.ref a))) H
section
variable {X : Cx} {x n : Str} {c : Value} {i : Nat} {body suite : List Stmt} {s0 : Stmt} {p1 p2 p3 : Pos} {tb : WX → TS} {ts : Addr → Value → Option Addr → TS}
theorem ps_try_kept (st : X.stack = X.env :: X.outer) (fr : X.env.frame = some X.env.locals) (nd : X.N.Nodup) (hi : X.N[i]? = some n) (loc : X.env.kindOf n = some .local) (hex : X.ex = []) (hc : Names X x c)
    (hb : ∀ W pn xe, Takes (X.tr pn xe) W → PassesOwn (model X.prog X.w) X.A X.env xe → PSs (X.tr pn xe) body (tb W))
    (hsu : ∀ a oe cls d pn, Zc cls d oe → (∃ vs, oe.data = .fields vs) → PSs (X.suite a ((a, oe) :: pn)) (s0 :: suite) (ts a cls d)) :
    PS X (.Try body [.ExceptHandler (some (.Name x p1)) (some n) (s0 :: suite) p2] [] [] p3) (fun D σ H => tb (wKept X.N.length X.K c i ts D) D σ H) := by
  refine ⟨fun pins s σ H D I h => wpAny_Try_except ?_⟩
  have ok := I.ok
  have frames : X.A.frames = some (X.env :: X.outer) := by rw [ok.frames, st]
  have run := hb (wKept X.N.length X.K c i ts D) (X.pn ++ pins) (fun e s1 => wpAny (model X.prog X.w) X.A (noteFrame e X.env) (fun _ s2 => wpAny (model X.prog X.w) X.A (setFlight e none)
    (fun _ s3 => wpAny (model X.prog X.w) X.A (handleBy e X.env [.ExceptHandler (some (.Name x p1)) (some n) (s0 :: suite) p2]) (SP X pins D) X.xe s3) X.xe s2) X.xe s1)
  refine wpAny_mono ((run (fun u s' xx => ?_) PassesOwn.looking).run [] s σ H D (I.toTry _) h) (fun f s1 q => ?_) (fun _ _ q => q)
  · obtain ⟨a, B, sI, pins', σ', H', cls, d, rfl, J0, grd, up, sky, na, os, ag, yes, go⟩ := xx
    have J : Inv X pins σ' H' sI := J0.ofTry ok
    show wpAny _ X.A (noteFrame (.ref a) X.env) _ _ _
    rw [show (X.tr (X.pn ++ pins) _).stack = X.env :: X.outer from st] at sky
    refine Sky.land Zc.steady frames fr sky fun h3 fl3 up3 => ?_
    obtain ⟨oe3, vs3, e3, z3, d3⟩ := fl3.there
    have outF : a ∉ frs (X.env :: X.outer) := fun hm => by
      obtain ⟨_, o', e', hnf⟩ := fl3.2.2.1.mem hm
      rw [e3] at e'; cases e'
      exact hnf _ d3
    have nL : a ≠ X.env.locals := fun z => outF (List.mem_filterMap.mpr ⟨X.env, List.mem_cons_self, by rw [fr, z]⟩)
    have nF : a ∉ X.fs := fun hm => by
      obtain ⟨e, he, q⟩ := List.mem_filterMap.mp hm
      exact outF (List.mem_filterMap.mpr ⟨e, List.mem_cons_of_mem _ he, q⟩)
    -- it was not there before
    have nI : sI.heap.get? a = none := by
      cases q : sI.heap.get? a with
      | none => rfl
      | some o =>
        have z := grd a o q (by show a ∉ frs X.stack; rw [st]; exact outF)
        rw [fl3.2.1] at z; cases z
    have n0 : X.s_0.heap.get? a = none := by
      cases q : X.s_0.heap.get? a with
      | none => rfl
      | some o =>
        obtain ⟨o', z⟩ := J.base.there a o q (by rw [hex]; exact fun z => nomatch z)
        rw [nI] at z; cases z
    have npin : ∀ p ∈ X.pn ++ pins, p.1 ≠ a := fun p hp z => by
      have q := (J.pin p hp).1
      rw [z, nI] at q; cases q
    have J3 : Inv X pins σ' H' { s' with heap := h3 } := J.landed grd fl3.1 (up.trans up3) os ag
    have S3 := J3.suite e3 d3 na nL nF
    refine wpAny_handleBy_cons (codeAny_handlers_test ?_) (by intro q; cases q)
    have ty : PySem.W.Looks (model X.prog X.w) h3 (typeOf (.ref a)) cls := fun A Q E s k q => wpAny_typeOf_ref (k _ _ e3) (by rw [z3.1]; exact q)
    have fits := PySem.W.exm_one (M := model X.prog X.w) J3.kIn ty yes
    have named : ∀ {Q : Value → Shared → Prop} {E : Value → Shared → Prop}, Q c { s' with heap := h3 } → wpAny (model X.prog X.w) (X.A.mark (some (.ref a))) (eval (.Name x p1) X.env) Q E { s' with heap := h3 } := fun {Q E} q => by
      obtain ⟨g, db, m | ⟨m, v, nn⟩⟩ := hc
      · exact ld_glob (X := X.suite a ((a, oe3) :: (X.pn ++ pins))) S3 g m q db
      · exact ld_blt (X := X.suite a ((a, oe3) :: (X.pn ++ pins))) S3 g m v q nn db
    refine named (fits.here (codeAny_handlers_suite_as (HandSPX.lands_againZ fl3 fun h4 fl4 up4 => ?_)))
    have J4 : Inv X pins σ' H' { s' with heap := h4 } := J.landed grd fl4.1 ((up.trans up3).trans up4) os ag
    obtain ⟨oe4, vs4, e4, z4, d4⟩ := fl4.there
    refine store_ok (X := X.suite a ((a, oe4) :: (X.pn ++ pins))) (v := .ref a) (J4.suite e4 d4 na nL nF) nd hi (.inl loc) rfl (fun s5 S5 => ?_) (.inr loc)
    refine wpAny_mono ((hsu a oe4 cls d (X.pn ++ pins) z4 ⟨_, d4⟩).run [] s5 _ H' _ S5 (go a na J.len)) (fun f s6 q => ?_) (fun _ _ z => z.elim)
    cases f with
    | next =>
      obtain ⟨σ6, H6, S6, q6⟩ := q
      obtain ⟨g1, g2, _⟩ := S6.pin (a, oe4) (List.mem_append_left _ List.mem_cons_self)
      have T6 : Inv X pins σ6 (upd H6 a (ExK cls d a)) s6 := inv_track (S6.unsuite ok) g1 d4 g2 n0 nL npin (exK_ok g1 z4 d4)
      exact gone_ok T6 nd hi loc fun s7 J7 => ⟨_, _, J7, q6 g2⟩
    | brk => obtain ⟨_, _, _, z⟩ := q; exact False.elim z
    | cont => obtain ⟨_, _, _, z⟩ := q; exact False.elim z
    | ret u => obtain ⟨_, _, _, _, _, z⟩ := q; exact False.elim z
  · cases f with
    | next =>
      obtain ⟨σ', H', J', z⟩ := q
      exact wpAny_execs_nil ⟨σ', H', J'.ofTry ok, z⟩
    | brk => obtain ⟨σ', H', J', z⟩ := q; exact ⟨σ', H', J'.ofTry ok, z⟩
    | cont => obtain ⟨σ', H', J', z⟩ := q; exact ⟨σ', H', J'.ofTry ok, z⟩
    | ret u => obtain ⟨v, σ', H', J', r, z⟩ := q; exact ⟨v, σ', H', J'.ofTry ok, r, z⟩
/-- isinstance(e, c), e a kept exception of the class D -/
def rIsK (K : PySem.W.Frag) (D : Addr) : List V → Hp → VK → Prop := fun xs H Q => ∃ (a : Addr) (cl : V) (cv : Value) (b : Bool), xs = [.ref a, cl] ∧ H a = some (ExK (.ref D) none a) ∧ (∀ u, RelV cl u → u = cv) ∧ PySem.W.kitOne K (.ref D) cv = some b ∧ Q (.bl b) H
theorem cr_isK {D : Addr} (C : ExcC X.K D) : CallR X (.builtin "isinstance") (rIsK X.K D) := by
  intro pins s σ H xs us Q I r h
  obtain ⟨a, cl, cv, b, rfl, ha, hcv, e, q⟩ := h
  cases r with
  | cons rx rr =>
    cases rr with
    | cons rt rr =>
      cases rr
      cases rx
      cases hcv _ rt
      obtain ⟨oe, vs, g, z, dt⟩ := (I.hok a _ ha).1
      have J : PySem.W.InstAt s.heap a oe D none := by
        obtain ⟨oc, od, oda, osl⟩ := oe
        obtain ⟨h1, h2⟩ := z
        dsimp only at h1 h2 dt
        subst h1 h2 dt
        exact ⟨g, rfl, rfl, trivial⟩
      exact PySem.W.kia_one (PySem.W.handS_kitx_exc C.hg C.hk C.hs C.hd C.ha C.hn C.ht C.hm) I.kIn J e (fun z => nomatch z) fun tk => ⟨.bl b, H, I.kept (t' := tk) fun _ _ z => z, rfl, q⟩
/-- xs.count(y), all of them flat -/
def rCntF (K : PySem.W.Frag) : V → List V → Hp → VK → Prop := fun x xs H Q => ∃ (a : Addr) (ys : List V) (y : V), x = .ref a ∧ xs = [y] ∧ SqL K H a ys ∧ flatV y = true ∧ ys.all flatV = true ∧ Q (.int (ys.countP (fun z => eqV z y) : Nat)) H
theorem count_vals {y : V} {uy : Value} : ∀ {ys : List V} {its : List Value}, Vals ys its → ys.all flatV = true → its.countP (eqU y) = ys.countP fun z => eqV z y
  | _, _, .nil, _ => rfl
  | _, _, .cons r t, h => by
    rw [List.all_cons, Bool.and_eq_true] at h
    rw [List.countP_cons, List.countP_cons, count_vals (uy := uy) t h.2, eqU_of r h.1]
theorem mt_countF : MtR X "list.count" (rCntF X.K) := by
  intro pins s σ H x xs v us Q I rx rxs h
  obtain ⟨a, ys, y, rfl, rfl, hs, fy, fys, q⟩ := h
  cases rx
  obtain ⟨uy, rfl, ry⟩ := rxs.one
  obtain ⟨its, rv, ⟨⟨cls, dd, data, sl⟩, n, ho, hc, hdn, hd⟩, hlen⟩ := I.list hs
  simp only at hc hd
  subst hc hd
  refine call_meets PySem.F.slot_list_count ⟨_, ho, rfl⟩ PySem.F.entry_list_count (PySem.F.args_list_count_2 _ _) (SeqAt.list_countAt a its.toArray n dd sl uy (eqU y)) ⟨ho, fun u' hu' => mem_eqAt ry fy rv fys u' (by simpa using hu'), ?_⟩
  refine ⟨.int (ys.countP (fun z => eqV z y) : Nat), H, I.tok _, ⟨s.toks, ?_⟩, q⟩
  show Value.int ((its.toArray.toList.countP (eqU y) : Nat) : Int) s.toks = _
  rw [← count_vals (uy := uy) rv fys]
end
end B1

set_option maxRecDepth 100000
set_option maxHeartbeats 4000000
namespace B1
open PySem PySem.Spec PyProof.Rows L2 TL K4
/-- another class of the errors -/
def Oth (K : PySem.W.Frag) (mg : Str → Option Value) (CT : Addr) (x : Str) : Prop := ∃ C, mg x = some (.ref C) ∧ PySem.W.kitOne K (.ref CT) (.ref C) = some false
structure Kl (K : PySem.W.Frag) (mg : Str → Option Value) (CT : Addr) : Prop where
  ex : ExcC K CT
  self : PySem.W.kitOne K (.ref CT) (.ref CT) = some true
  ve : PySem.W.kitOne K (.ref CT) (.type "ValueError") = some true
  mve : mg "ValueError" = none
  cBadName : Oth K mg CT "BadName"
  cKnown : Oth K mg CT "Known"
  cNoKind : Oth K mg CT "NoKind"
  cNoName : Oth K mg CT "NoName"
  cNoField : Oth K mg CT "NoField"
  cBadField : Oth K mg CT "BadField"
  cFixed : Oth K mg CT "Fixed"
  cRing : Oth K mg CT "Ring"
  cInUse : Oth K mg CT "InUse"
  cBadBody : Oth K mg CT "BadBody"
  cNoWay : Oth K mg CT "NoWay"
  cNoThing : Oth K mg CT "NoThing"
  cBadValue : Oth K mg CT "BadValue"
  cSame : Oth K mg CT "Same"
  cNoRun : Oth K mg CT "NoRun"
  cNoBack : Oth K mg CT "NoBack"
  cEnded : Oth K mg CT "Ended"
  cNoAsk : Oth K mg CT "NoAsk"
  cNoFrame : Oth K mg CT "NoFrame"
theorem bt_ve : bootBuiltins "ValueError" = some (.type "ValueError") := by decide +kernel
abbrev sCl : Stmt := top 44
theorem scCl : FnScope ["_law_kept", "_law_kinds", "_law_found"] ["_law_kept"] (defScope sCl) := ⟨rfl, rfl, rfl, by decide +kernel, rfl, by decide +kernel, by decide +kernel⟩
def spCl (CT : Addr) : Sp := fun vs H Q _ => ∃ a : Addr, vs = [.ref a] ∧ H a = some (ExK (.ref CT) none a) ∧ ∀ H', Same H H' → Q (.str "no text") H'
section
variable {P : Program} {w : World} {K : PySem.W.Frag} {mg : Str → Option Value} {base : Heap} {f g f2 : Addr} {fd gd fd2 : FuncData} {CT dM : Addr} {eM : Array DictEntry} {nM : Nat}
theorem ok_cl (F : Fun K "_law_class" "_law_class" sCl f fd) (B : Bl mg) (L : Kl K mg CT) (gT : mg "NoText" = some (.ref CT)) : FnOk P w K mg base CX0 1 f fd ["_law_kept"] (spCl CT) := by
  obtain ⟨aBadName, mBadName, kBadName⟩ := L.cBadName
  obtain ⟨aKnown, mKnown, kKnown⟩ := L.cKnown
  obtain ⟨aNoKind, mNoKind, kNoKind⟩ := L.cNoKind
  obtain ⟨aNoName, mNoName, kNoName⟩ := L.cNoName
  obtain ⟨aNoField, mNoField, kNoField⟩ := L.cNoField
  obtain ⟨aBadField, mBadField, kBadField⟩ := L.cBadField
  obtain ⟨aFixed, mFixed, kFixed⟩ := L.cFixed
  obtain ⟨aRing, mRing, kRing⟩ := L.cRing
  obtain ⟨aInUse, mInUse, kInUse⟩ := L.cInUse
  obtain ⟨aBadBody, mBadBody, kBadBody⟩ := L.cBadBody
  obtain ⟨aNoWay, mNoWay, kNoWay⟩ := L.cNoWay
  obtain ⟨aNoThing, mNoThing, kNoThing⟩ := L.cNoThing
  obtain ⟨aBadValue, mBadValue, kBadValue⟩ := L.cBadValue
  obtain ⟨aSame, mSame, kSame⟩ := L.cSame
  obtain ⟨aNoRun, mNoRun, kNoRun⟩ := L.cNoRun
  obtain ⟨aNoBack, mNoBack, kNoBack⟩ := L.cNoBack
  obtain ⟨aEnded, mEnded, kEnded⟩ := L.cEnded
  obtain ⟨aNoAsk, mNoAsk, kNoAsk⟩ := L.cNoAsk
  obtain ⟨aNoFrame, mNoFrame, kNoFrame⟩ := L.cNoFrame
  refine F.ok scCl (fun vs H Q E h => ?_) (fun cdv A outer s H vs Q E hr h => ?_)
  · obtain ⟨a, rfl, _⟩ := h
    rfl
  obtain ⟨a, rfl, ha, q⟩ := h
  refine ⟨_, (pss_cons (ps_set (i := 1) scCl.nd rfl (.inl rfl) (pe_lst (pa_cons (pe_callB (cr_isK (X := _) (D := CT) L.ex) rfl B.isi bt_isi (pa_cons (pv 0) (pa_cons (pe_glob (v := .ref aBadName) rfl mBadName rfl) pa_nil))) (pa_cons (pe_callB (cr_isK (X := _) (D := CT) L.ex) rfl B.isi bt_isi (pa_cons (pv 0) (pa_cons (pe_glob (v := .ref aKnown) rfl mKnown rfl) pa_nil))) (pa_cons (pe_callB (cr_isK (X := _) (D := CT) L.ex) rfl B.isi bt_isi (pa_cons (pv 0) (pa_cons (pe_glob (v := .ref aNoKind) rfl mNoKind rfl) pa_nil))) (pa_cons (pe_callB (cr_isK (X := _) (D := CT) L.ex) rfl B.isi bt_isi (pa_cons (pv 0) (pa_cons (pe_glob (v := .ref aNoName) rfl mNoName rfl) pa_nil))) pa_nil)))))) (pss_cons (ps_set (i := 1) scCl.nd rfl (.inl rfl) (pe_op op_cat (pv 1) (pe_lst (pa_cons (pe_callB (cr_isK (X := _) (D := CT) L.ex) rfl B.isi bt_isi (pa_cons (pv 0) (pa_cons (pe_glob (v := .ref aNoField) rfl mNoField rfl) pa_nil))) (pa_cons (pe_callB (cr_isK (X := _) (D := CT) L.ex) rfl B.isi bt_isi (pa_cons (pv 0) (pa_cons (pe_glob (v := .ref aBadField) rfl mBadField rfl) pa_nil))) (pa_cons (pe_callB (cr_isK (X := _) (D := CT) L.ex) rfl B.isi bt_isi (pa_cons (pv 0) (pa_cons (pe_glob (v := .ref aFixed) rfl mFixed rfl) pa_nil))) pa_nil)))))) (pss_cons (ps_set (i := 1) scCl.nd rfl (.inl rfl) (pe_op op_cat (pv 1) (pe_lst (pa_cons (pe_callB (cr_isK (X := _) (D := CT) L.ex) rfl B.isi bt_isi (pa_cons (pv 0) (pa_cons (pe_glob (v := .ref aRing) rfl mRing rfl) pa_nil))) (pa_cons (pe_callB (cr_isK (X := _) (D := CT) L.ex) rfl B.isi bt_isi (pa_cons (pv 0) (pa_cons (pe_glob (v := .ref aInUse) rfl mInUse rfl) pa_nil))) (pa_cons (pe_callB (cr_isK (X := _) (D := CT) L.ex) rfl B.isi bt_isi (pa_cons (pv 0) (pa_cons (pe_glob (v := .ref aBadBody) rfl mBadBody rfl) pa_nil))) pa_nil)))))) (pss_cons (ps_set (i := 1) scCl.nd rfl (.inl rfl) (pe_op op_cat (pv 1) (pe_lst (pa_cons (pe_callB (cr_isK (X := _) (D := CT) L.ex) rfl B.isi bt_isi (pa_cons (pv 0) (pa_cons (pe_glob (v := .ref aNoWay) rfl mNoWay rfl) pa_nil))) (pa_cons (pe_callB (cr_isK (X := _) (D := CT) L.ex) rfl B.isi bt_isi (pa_cons (pv 0) (pa_cons (pe_glob (v := .ref aNoThing) rfl mNoThing rfl) pa_nil))) (pa_cons (pe_callB (cr_isK (X := _) (D := CT) L.ex) rfl B.isi bt_isi (pa_cons (pv 0) (pa_cons (pe_glob (v := .ref aBadValue) rfl mBadValue rfl) pa_nil))) pa_nil)))))) (pss_cons (ps_set (i := 1) scCl.nd rfl (.inl rfl) (pe_op op_cat (pv 1) (pe_lst (pa_cons (pe_callB (cr_isK (X := _) (D := CT) L.ex) rfl B.isi bt_isi (pa_cons (pv 0) (pa_cons (pe_glob (v := .ref aSame) rfl mSame rfl) pa_nil))) (pa_cons (pe_callB (cr_isK (X := _) (D := CT) L.ex) rfl B.isi bt_isi (pa_cons (pv 0) (pa_cons (pe_glob (v := .ref aNoRun) rfl mNoRun rfl) pa_nil))) (pa_cons (pe_callB (cr_isK (X := _) (D := CT) L.ex) rfl B.isi bt_isi (pa_cons (pv 0) (pa_cons (pe_glob (v := .ref aNoBack) rfl mNoBack rfl) pa_nil))) pa_nil)))))) (pss_cons (ps_set (i := 1) scCl.nd rfl (.inl rfl) (pe_op op_cat (pv 1) (pe_lst (pa_cons (pe_callB (cr_isK (X := _) (D := CT) L.ex) rfl B.isi bt_isi (pa_cons (pv 0) (pa_cons (pe_glob (v := .ref CT) rfl gT rfl) pa_nil))) (pa_cons (pe_callB (cr_isK (X := _) (D := CT) L.ex) rfl B.isi bt_isi (pa_cons (pv 0) (pa_cons (pe_glob (v := .ref aEnded) rfl mEnded rfl) pa_nil))) (pa_cons (pe_callB (cr_isK (X := _) (D := CT) L.ex) rfl B.isi bt_isi (pa_cons (pv 0) (pa_cons (pe_glob (v := .ref aNoAsk) rfl mNoAsk rfl) pa_nil))) pa_nil)))))) (pss_cons (ps_expr (pe_bm PySem.F.plainAttrs_list PySem.F.slot_list_append PySem.F.type_list_append mt_append (pv 1) (pa_cons (pe_callB (cr_isK (X := _) (D := CT) L.ex) rfl B.isi bt_isi (pa_cons (pv 0) (pa_cons (pe_glob (v := .ref aNoFrame) rfl mNoFrame rfl) pa_nil))) pa_nil))) (pss_cons (ps_if (PW.pt (pw_or (pt_cmpR op_ne (pe_bm PySem.F.plainAttrs_list PySem.F.slot_list_count PySem.F.type_list_count mt_countF (pv 1) (pa_cons pe_bl pa_nil)) pe_int (nomark _)) (pw_or1 (pt_not (pt_val (pe_callB (cr_isK (X := _) (D := CT) L.ex) rfl B.isi bt_isi (pa_cons (pv 0) (pa_cons (pe_bltn (v := .ty "ValueError") rfl L.mve bt_ve rfl) pa_nil)))))))) (pss_one (ps_ret pe_str)) pss_nil) (pss_cons (ps_set (i := 2) scCl.nd rfl (.inl rfl) (pe_lst (pa_cons pe_str (pa_cons pe_str (pa_cons pe_str (pa_cons pe_str (pa_cons pe_str (pa_cons pe_str (pa_cons pe_str (pa_cons pe_str (pa_cons pe_str (pa_cons pe_str pa_nil)))))))))))) (pss_cons (ps_set (i := 2) scCl.nd rfl (.inl rfl) (pe_op op_cat (pv 2) (pe_lst (pa_cons pe_str (pa_cons pe_str (pa_cons pe_str (pa_cons pe_str (pa_cons pe_str (pa_cons pe_str (pa_cons pe_str (pa_cons pe_str (pa_cons pe_str pa_nil)))))))))))) (pss_one (ps_ret (pe_ix ix_list (pe_op op_cat (pv 2) (pe_lst (pa_cons pe_str pa_nil))) (pe_bm PySem.F.plainAttrs_list PySem.F.slot_list_index PySem.F.type_list_index mt_index (pv 1) (pa_cons pe_bl pa_nil)) (fun _ _ => rfl)))))))))))))), ?_⟩
  refine ⟨_, rfl, a, _, _, false, rfl, ha, (fun _ h => h), kBadName, _, rfl, a, _, _, false, rfl, ha, (fun _ h => h), kKnown, _, rfl, a, _, _, false, rfl, ha, (fun _ h => h), kNoKind, _, rfl, a, _, _, false, rfl, ha, (fun _ h => h), kNoName, (by show 4 ≤ sizeLine; decide), fun p0 n0 => ?_⟩
  have s0 := same_new n0 (.lst [V.bl false, V.bl false, V.bl false, V.bl false])
  have a0 := s0 _ _ ha
  have l0 : (upd H p0 (.lst [V.bl false, V.bl false, V.bl false, V.bl false])) p0 = some (.lst [V.bl false, V.bl false, V.bl false, V.bl false]) := upd_same
  generalize upd H p0 (.lst [V.bl false, V.bl false, V.bl false, V.bl false]) = H0 at s0 a0 l0 ⊢
  refine ⟨_, rfl, _, rfl, a, _, _, false, rfl, a0, (fun _ h => h), kNoField, _, rfl, a, _, _, false, rfl, a0, (fun _ h => h), kBadField, _, rfl, a, _, _, false, rfl, a0, (fun _ h => h), kFixed, (by show 3 ≤ sizeLine; decide), fun t1 nt1 => ?_⟩
  have u1 := same_new nt1 (.lst [V.bl false, V.bl false, V.bl false])
  refine ⟨p0, t1, _, _, rfl, rfl, u1 _ _ l0, upd_same, (by show 7 ≤ sizeLine; decide), fun p1 n1 => ?_⟩
  have s1 : Same H (upd (upd H0 t1 (.lst [V.bl false, V.bl false, V.bl false])) p1 (.lst [V.bl false, V.bl false, V.bl false, V.bl false, V.bl false, V.bl false, V.bl false])) := s0.trans (u1.trans (same_new n1 _))
  have a1 := s1 _ _ ha
  have l1 : (upd (upd H0 t1 (.lst [V.bl false, V.bl false, V.bl false])) p1 (.lst [V.bl false, V.bl false, V.bl false, V.bl false, V.bl false, V.bl false, V.bl false])) p1 = some (.lst [V.bl false, V.bl false, V.bl false, V.bl false, V.bl false, V.bl false, V.bl false]) := upd_same
  change tSeq _ _ _ _ (upd (upd H0 t1 (.lst [V.bl false, V.bl false, V.bl false])) p1 (.lst [V.bl false, V.bl false, V.bl false, V.bl false, V.bl false, V.bl false, V.bl false]))
  generalize upd (upd H0 t1 (.lst [V.bl false, V.bl false, V.bl false])) p1 (.lst [V.bl false, V.bl false, V.bl false, V.bl false, V.bl false, V.bl false, V.bl false]) = H1 at s1 a1 l1 ⊢
  refine ⟨_, rfl, _, rfl, a, _, _, false, rfl, a1, (fun _ h => h), kRing, _, rfl, a, _, _, false, rfl, a1, (fun _ h => h), kInUse, _, rfl, a, _, _, false, rfl, a1, (fun _ h => h), kBadBody, (by show 3 ≤ sizeLine; decide), fun t2 nt2 => ?_⟩
  have u2 := same_new nt2 (.lst [V.bl false, V.bl false, V.bl false])
  refine ⟨p1, t2, _, _, rfl, rfl, u2 _ _ l1, upd_same, (by show 10 ≤ sizeLine; decide), fun p2 n2 => ?_⟩
  have s2 : Same H (upd (upd H1 t2 (.lst [V.bl false, V.bl false, V.bl false])) p2 (.lst [V.bl false, V.bl false, V.bl false, V.bl false, V.bl false, V.bl false, V.bl false, V.bl false, V.bl false, V.bl false])) := s1.trans (u2.trans (same_new n2 _))
  have a2 := s2 _ _ ha
  have l2 : (upd (upd H1 t2 (.lst [V.bl false, V.bl false, V.bl false])) p2 (.lst [V.bl false, V.bl false, V.bl false, V.bl false, V.bl false, V.bl false, V.bl false, V.bl false, V.bl false, V.bl false])) p2 = some (.lst [V.bl false, V.bl false, V.bl false, V.bl false, V.bl false, V.bl false, V.bl false, V.bl false, V.bl false, V.bl false]) := upd_same
  change tSeq _ _ _ _ (upd (upd H1 t2 (.lst [V.bl false, V.bl false, V.bl false])) p2 (.lst [V.bl false, V.bl false, V.bl false, V.bl false, V.bl false, V.bl false, V.bl false, V.bl false, V.bl false, V.bl false]))
  generalize upd (upd H1 t2 (.lst [V.bl false, V.bl false, V.bl false])) p2 (.lst [V.bl false, V.bl false, V.bl false, V.bl false, V.bl false, V.bl false, V.bl false, V.bl false, V.bl false, V.bl false]) = H2 at s2 a2 l2 ⊢
  refine ⟨_, rfl, _, rfl, a, _, _, false, rfl, a2, (fun _ h => h), kNoWay, _, rfl, a, _, _, false, rfl, a2, (fun _ h => h), kNoThing, _, rfl, a, _, _, false, rfl, a2, (fun _ h => h), kBadValue, (by show 3 ≤ sizeLine; decide), fun t3 nt3 => ?_⟩
  have u3 := same_new nt3 (.lst [V.bl false, V.bl false, V.bl false])
  refine ⟨p2, t3, _, _, rfl, rfl, u3 _ _ l2, upd_same, (by show 13 ≤ sizeLine; decide), fun p3 n3 => ?_⟩
  have s3 : Same H (upd (upd H2 t3 (.lst [V.bl false, V.bl false, V.bl false])) p3 (.lst [V.bl false, V.bl false, V.bl false, V.bl false, V.bl false, V.bl false, V.bl false, V.bl false, V.bl false, V.bl false, V.bl false, V.bl false, V.bl false])) := s2.trans (u3.trans (same_new n3 _))
  have a3 := s3 _ _ ha
  have l3 : (upd (upd H2 t3 (.lst [V.bl false, V.bl false, V.bl false])) p3 (.lst [V.bl false, V.bl false, V.bl false, V.bl false, V.bl false, V.bl false, V.bl false, V.bl false, V.bl false, V.bl false, V.bl false, V.bl false, V.bl false])) p3 = some (.lst [V.bl false, V.bl false, V.bl false, V.bl false, V.bl false, V.bl false, V.bl false, V.bl false, V.bl false, V.bl false, V.bl false, V.bl false, V.bl false]) := upd_same
  change tSeq _ _ _ _ (upd (upd H2 t3 (.lst [V.bl false, V.bl false, V.bl false])) p3 (.lst [V.bl false, V.bl false, V.bl false, V.bl false, V.bl false, V.bl false, V.bl false, V.bl false, V.bl false, V.bl false, V.bl false, V.bl false, V.bl false]))
  generalize upd (upd H2 t3 (.lst [V.bl false, V.bl false, V.bl false])) p3 (.lst [V.bl false, V.bl false, V.bl false, V.bl false, V.bl false, V.bl false, V.bl false, V.bl false, V.bl false, V.bl false, V.bl false, V.bl false, V.bl false]) = H3 at s3 a3 l3 ⊢
  refine ⟨_, rfl, _, rfl, a, _, _, false, rfl, a3, (fun _ h => h), kSame, _, rfl, a, _, _, false, rfl, a3, (fun _ h => h), kNoRun, _, rfl, a, _, _, false, rfl, a3, (fun _ h => h), kNoBack, (by show 3 ≤ sizeLine; decide), fun t4 nt4 => ?_⟩
  have u4 := same_new nt4 (.lst [V.bl false, V.bl false, V.bl false])
  refine ⟨p3, t4, _, _, rfl, rfl, u4 _ _ l3, upd_same, (by show 16 ≤ sizeLine; decide), fun p4 n4 => ?_⟩
  have s4 : Same H (upd (upd H3 t4 (.lst [V.bl false, V.bl false, V.bl false])) p4 (.lst [V.bl false, V.bl false, V.bl false, V.bl false, V.bl false, V.bl false, V.bl false, V.bl false, V.bl false, V.bl false, V.bl false, V.bl false, V.bl false, V.bl false, V.bl false, V.bl false])) := s3.trans (u4.trans (same_new n4 _))
  have a4 := s4 _ _ ha
  have l4 : (upd (upd H3 t4 (.lst [V.bl false, V.bl false, V.bl false])) p4 (.lst [V.bl false, V.bl false, V.bl false, V.bl false, V.bl false, V.bl false, V.bl false, V.bl false, V.bl false, V.bl false, V.bl false, V.bl false, V.bl false, V.bl false, V.bl false, V.bl false])) p4 = some (.lst [V.bl false, V.bl false, V.bl false, V.bl false, V.bl false, V.bl false, V.bl false, V.bl false, V.bl false, V.bl false, V.bl false, V.bl false, V.bl false, V.bl false, V.bl false, V.bl false]) := upd_same
  change tSeq _ _ _ _ (upd (upd H3 t4 (.lst [V.bl false, V.bl false, V.bl false])) p4 (.lst [V.bl false, V.bl false, V.bl false, V.bl false, V.bl false, V.bl false, V.bl false, V.bl false, V.bl false, V.bl false, V.bl false, V.bl false, V.bl false, V.bl false, V.bl false, V.bl false]))
  generalize upd (upd H3 t4 (.lst [V.bl false, V.bl false, V.bl false])) p4 (.lst [V.bl false, V.bl false, V.bl false, V.bl false, V.bl false, V.bl false, V.bl false, V.bl false, V.bl false, V.bl false, V.bl false, V.bl false, V.bl false, V.bl false, V.bl false, V.bl false]) = H4 at s4 a4 l4 ⊢
  refine ⟨_, rfl, _, rfl, a, _, _, true, rfl, a4, (fun _ h => h), L.self, _, rfl, a, _, _, false, rfl, a4, (fun _ h => h), kEnded, _, rfl, a, _, _, false, rfl, a4, (fun _ h => h), kNoAsk, (by show 3 ≤ sizeLine; decide), fun t5 nt5 => ?_⟩
  have u5 := same_new nt5 (.lst [V.bl true, V.bl false, V.bl false])
  refine ⟨p4, t5, _, _, rfl, rfl, u5 _ _ l4, upd_same, (by show 19 ≤ sizeLine; decide), fun p5 n5 => ?_⟩
  have s5 : Same H (upd (upd H4 t5 (.lst [V.bl true, V.bl false, V.bl false])) p5 (.lst [V.bl false, V.bl false, V.bl false, V.bl false, V.bl false, V.bl false, V.bl false, V.bl false, V.bl false, V.bl false, V.bl false, V.bl false, V.bl false, V.bl false, V.bl false, V.bl false, V.bl true, V.bl false, V.bl false])) := s4.trans (u5.trans (same_new n5 _))
  have a5 := s5 _ _ ha
  have l5 : (upd (upd H4 t5 (.lst [V.bl true, V.bl false, V.bl false])) p5 (.lst [V.bl false, V.bl false, V.bl false, V.bl false, V.bl false, V.bl false, V.bl false, V.bl false, V.bl false, V.bl false, V.bl false, V.bl false, V.bl false, V.bl false, V.bl false, V.bl false, V.bl true, V.bl false, V.bl false])) p5 = some (.lst [V.bl false, V.bl false, V.bl false, V.bl false, V.bl false, V.bl false, V.bl false, V.bl false, V.bl false, V.bl false, V.bl false, V.bl false, V.bl false, V.bl false, V.bl false, V.bl false, V.bl true, V.bl false, V.bl false]) := upd_same
  change tSeq _ _ _ _ (upd (upd H4 t5 (.lst [V.bl true, V.bl false, V.bl false])) p5 (.lst [V.bl false, V.bl false, V.bl false, V.bl false, V.bl false, V.bl false, V.bl false, V.bl false, V.bl false, V.bl false, V.bl false, V.bl false, V.bl false, V.bl false, V.bl false, V.bl false, V.bl true, V.bl false, V.bl false]))
  generalize upd (upd H4 t5 (.lst [V.bl true, V.bl false, V.bl false])) p5 (.lst [V.bl false, V.bl false, V.bl false, V.bl false, V.bl false, V.bl false, V.bl false, V.bl false, V.bl false, V.bl false, V.bl false, V.bl false, V.bl false, V.bl false, V.bl false, V.bl false, V.bl true, V.bl false, V.bl false]) = H5 at s5 a5 l5 ⊢
  refine ⟨_, rfl, .inl ⟨rfl, _, SqL.of l5⟩, _, rfl, a, _, _, false, rfl, a5, (fun _ h => h), kNoFrame, p5, _, _, rfl, rfl, l5, (by show 19 < sizeLine; decide), ?_⟩
  have new5 : H p5 = none := by
    cases e : H p5 with
    | none => rfl
    | some o => exact absurd (((s4.trans u5) _ _ e).symm.trans n5) (fun z => nomatch z)
  have s6 : Same H (upd H5 p5 (.lst [V.bl false, V.bl false, V.bl false, V.bl false, V.bl false, V.bl false, V.bl false, V.bl false, V.bl false, V.bl false, V.bl false, V.bl false, V.bl false, V.bl false, V.bl false, V.bl false, V.bl true, V.bl false, V.bl false, V.bl false])) := same_over s5 new5
  have a6 := s6 _ _ ha
  have l6 : (upd H5 p5 (.lst [V.bl false, V.bl false, V.bl false, V.bl false, V.bl false, V.bl false, V.bl false, V.bl false, V.bl false, V.bl false, V.bl false, V.bl false, V.bl false, V.bl false, V.bl false, V.bl false, V.bl true, V.bl false, V.bl false, V.bl false])) p5 = some (.lst [V.bl false, V.bl false, V.bl false, V.bl false, V.bl false, V.bl false, V.bl false, V.bl false, V.bl false, V.bl false, V.bl false, V.bl false, V.bl false, V.bl false, V.bl false, V.bl false, V.bl true, V.bl false, V.bl false, V.bl false]) := upd_same
  change tSeq _ _ _ _ (upd H5 p5 (.lst [V.bl false, V.bl false, V.bl false, V.bl false, V.bl false, V.bl false, V.bl false, V.bl false, V.bl false, V.bl false, V.bl false, V.bl false, V.bl false, V.bl false, V.bl false, V.bl false, V.bl true, V.bl false, V.bl false, V.bl false]))
  generalize upd H5 p5 (.lst [V.bl false, V.bl false, V.bl false, V.bl false, V.bl false, V.bl false, V.bl false, V.bl false, V.bl false, V.bl false, V.bl false, V.bl false, V.bl false, V.bl false, V.bl false, V.bl false, V.bl true, V.bl false, V.bl false, V.bl false]) = H6 at s6 a6 l6 ⊢
  refine ⟨_, rfl, .inl ⟨rfl, _, SqL.of l6⟩, p5, _, _, rfl, rfl, SqL.of l6, rfl, rfl, rfl, _, rfl, ?_⟩
  refine iteF ?_
  refine ⟨_, rfl, a, _, _, true, rfl, a6, (fun _ h => h), L.ve, _, rfl, ?_⟩
  refine iteF ?_
  refine ⟨(by show 10 ≤ sizeLine; decide), fun q1 m1 => ?_⟩
  have s7 := s6.trans (same_new m1 (.lst [V.str "bad name", V.str "known", V.str "no kind", V.str "no name", V.str "no field", V.str "bad field", V.str "fixed", V.str "ring", V.str "in use", V.str "bad body"]))
  have l7 := (same_new m1 (.lst [V.str "bad name", V.str "known", V.str "no kind", V.str "no name", V.str "no field", V.str "bad field", V.str "fixed", V.str "ring", V.str "in use", V.str "bad body"])) _ _ l6
  have r7 : (upd H6 q1 (.lst [V.str "bad name", V.str "known", V.str "no kind", V.str "no name", V.str "no field", V.str "bad field", V.str "fixed", V.str "ring", V.str "in use", V.str "bad body"])) q1 = some (.lst [V.str "bad name", V.str "known", V.str "no kind", V.str "no name", V.str "no field", V.str "bad field", V.str "fixed", V.str "ring", V.str "in use", V.str "bad body"]) := upd_same
  generalize upd H6 q1 (.lst [V.str "bad name", V.str "known", V.str "no kind", V.str "no name", V.str "no field", V.str "bad field", V.str "fixed", V.str "ring", V.str "in use", V.str "bad body"]) = H7 at s7 l7 r7 ⊢
  refine ⟨_, rfl, (by show 9 ≤ sizeLine; decide), fun q2 m2 => ?_⟩
  have u8 := same_new m2 (.lst [V.str "no way", V.str "no thing", V.str "bad value", V.str "same", V.str "no run", V.str "no back", V.str "no text", V.str "ended", V.str "no ask"])
  refine ⟨q1, q2, _, _, rfl, rfl, u8 _ _ r7, upd_same, (by show 19 ≤ sizeLine; decide), fun q3 m3 => ?_⟩
  have s8 : Same H7 (upd (upd H7 q2 (.lst [V.str "no way", V.str "no thing", V.str "bad value", V.str "same", V.str "no run", V.str "no back", V.str "no text", V.str "ended", V.str "no ask"])) q3 (.lst ([V.str "bad name", V.str "known", V.str "no kind", V.str "no name", V.str "no field", V.str "bad field", V.str "fixed", V.str "ring", V.str "in use", V.str "bad body"] ++ [V.str "no way", V.str "no thing", V.str "bad value", V.str "same", V.str "no run", V.str "no back", V.str "no text", V.str "ended", V.str "no ask"]))) := u8.trans (same_new m3 _)
  have l8 := s8 _ _ l7
  have r8 : (upd (upd H7 q2 (.lst [V.str "no way", V.str "no thing", V.str "bad value", V.str "same", V.str "no run", V.str "no back", V.str "no text", V.str "ended", V.str "no ask"])) q3 (.lst ([V.str "bad name", V.str "known", V.str "no kind", V.str "no name", V.str "no field", V.str "bad field", V.str "fixed", V.str "ring", V.str "in use", V.str "bad body"] ++ [V.str "no way", V.str "no thing", V.str "bad value", V.str "same", V.str "no run", V.str "no back", V.str "no text", V.str "ended", V.str "no ask"]))) q3 = some (.lst ([V.str "bad name", V.str "known", V.str "no kind", V.str "no name", V.str "no field", V.str "bad field", V.str "fixed", V.str "ring", V.str "in use", V.str "bad body"] ++ [V.str "no way", V.str "no thing", V.str "bad value", V.str "same", V.str "no run", V.str "no back", V.str "no text", V.str "ended", V.str "no ask"])) := upd_same
  replace s8 := s7.trans s8
  generalize upd (upd H7 q2 (.lst [V.str "no way", V.str "no thing", V.str "bad value", V.str "same", V.str "no run", V.str "no back", V.str "no text", V.str "ended", V.str "no ask"])) q3 (.lst ([V.str "bad name", V.str "known", V.str "no kind", V.str "no name", V.str "no field", V.str "bad field", V.str "fixed", V.str "ring", V.str "in use", V.str "bad body"] ++ [V.str "no way", V.str "no thing", V.str "bad value", V.str "same", V.str "no run", V.str "no back", V.str "no text", V.str "ended", V.str "no ask"])) = H8 at s8 l8 r8 ⊢
  refine ⟨_, rfl, (by show 1 ≤ sizeLine; decide), fun q4 m4 => ?_⟩
  have u9 := same_new m4 (.lst [V.str "no frame"])
  refine ⟨q3, q4, _, _, rfl, rfl, u9 _ _ r8, upd_same, (by show 20 ≤ sizeLine; decide), fun q5 m5 => ?_⟩
  have u10 := u9.trans (same_new m5 (.lst (([V.str "bad name", V.str "known", V.str "no kind", V.str "no name", V.str "no field", V.str "bad field", V.str "fixed", V.str "ring", V.str "in use", V.str "bad body"] ++ [V.str "no way", V.str "no thing", V.str "bad value", V.str "same", V.str "no run", V.str "no back", V.str "no text", V.str "ended", V.str "no ask"]) ++ [V.str "no frame"])))
  have l9 := u10 _ _ l8
  refine ⟨_, rfl, .inl ⟨rfl, _, SqL.of l9⟩, p5, _, _, 16, _, rfl, rfl, SqL.of l9, rfl, rfl, rfl, rfl, ?_, q5, _, _, _, rfl, rfl, SqL.of upd_same, rfl, q _ (s8.trans u10)⟩
  intro m z hm hz
  have : m = 0 ∨ m = 1 ∨ m = 2 ∨ m = 3 ∨ m = 4 ∨ m = 5 ∨ m = 6 ∨ m = 7 ∨ m = 8 ∨ m = 9 ∨ m = 10 ∨ m = 11 ∨ m = 12 ∨ m = 13 ∨ m = 14 ∨ m = 15 := by omega
  rcases this with rfl | rfl | rfl | rfl | rfl | rfl | rfl | rfl | rfl | rfl | rfl | rfl | rfl | rfl | rfl | rfl <;> (cases hz; rfl)
end
end B1

set_option maxRecDepth 100000
set_option maxHeartbeats 4000000
namespace B1
open PySem PySem.Spec PyProof.Rows L2 TL K4
abbrev sHe : Stmt := top 45
abbrev nHe : List Str := ["_law_deed", "_law_kept", "_law_found", "e", "_law_kind"]
theorem scHe : FnScope nHe ["_law_deed"] (defScope sHe) := ⟨rfl, rfl, rfl, by decide +kernel, rfl, by decide +kernel, by decide +kernel⟩
/-- what is made of what the lambda tells, or raises -/
def THeard (CT : Addr) : (XK → Hp → VK → Prop) → Hp → VK → Prop := fun tl H Q => ∀ H1, Same H H1 →
  tl (fun cls d H' => cls = .ref CT ∧ d = none ∧ ∀ (p : Addr) (H2 : Hp), Same H' H2 → H2 p = some (.tup [.str "no text"]) → Q (.ref p) H2) H1 (fun v H' => ∀ p, H' p = none → Q (.ref p) (upd H' p (.tup [.str "told", v])))
theorem len5 {σ : L2.St} (h : σ.length = nHe.length) : ∃ y0 y1 y2 y3 y4, σ = [y0, y1, y2, y3, y4] := by
  match σ, h with
  | [y0, y1, y2, y3, y4], _ => exact ⟨y0, y1, y2, y3, y4, rfl⟩
theorem nin4 : inV (V.str "no text") [V.str "bad name", V.str "known", V.str "no kind", V.str "no name"] = false := by decide +kernel
theorem nin2 : inV (V.str "no text") [V.str "no field", V.str "bad field"] = false := by decide +kernel
def tMon (t : TE) : TE := fun σ H Q => ∃ Q0 : VK, t σ H Q0 ∧ ∀ v H', Q0 v H' → Q v H'
theorem pe_mon {X : Cx} {e : Expr} {t : TE} (h : PE X e t) : PE X e (tMon t) := ⟨fun pins s σ H Q I ⟨Q0, h0, k⟩ => thn (h.run pins s σ H Q0 I h0) fun v s' ⟨x, H', I', r, q⟩ => ⟨x, H', I', r, k _ _ q⟩⟩
section
variable {X : Cx} {q : Str} {g fC : Addr} {dC : FuncData} {cdg : Value} {CT CH : Addr}
theorem heard_gives (GC : FnOk X.prog X.w X.K X.mg X.base CX0 1 fC dC ["_law_kept"] (spCl CT)) (bC : Binds X.K dC ["_law_kept"] []) (kC : PySem.W.keepIn X.K (.ref fC) = true) (mC : X.mg "_law_class" = some (.ref fC))
    (gH : X.mg "HallError" = some (.ref CH)) (hE : PySem.W.exmOne X.K (.ref CT) (.ref CH) = some true) (hr : Room 2 X.A) : LamX.GivesTo X nHe "_law_heard" (defScope sHe) g cdg (defBody sHe) "_law_deed" q (THeard CT) := by
  intro f c' s H Q tl act hc h
  refine ⟨_, (pss_cons (ps_asg (pe_tup (pa_cons pe_non (pa_cons pe_non pa_nil))) (pg_tup (by rfl) (pgs_cons (pg_name (i := 1) scHe.nd rfl (.inl rfl)) (pgs_cons (pg_name (i := 2) scHe.nd rfl (.inl rfl)) pgs_nil)))) (pss_cons (ps_try_kept (X := (cxOf C8.CX0 X.prog X.w X.K X.mg X.base nHe "_law_heard" (defScope sHe) g cdg X.A X.stack s H C8.E0).nox) (i := 3) (c := .ref CH) (tb := fun W D σ H => ∃ Ech : XK, (∀ cls d σ' H', Ech cls d H' → W cls d σ' H') ∧ σ[0]? = some (some (.ref f)) ∧ H c' = some (LamX.CodeO c' q) ∧ ∃ Q0 : VK, tl Ech H Q0 ∧ ∀ v H', Q0 v H' → D.nx (σ.set 2 (some v)) H') rfl rfl scHe.nd rfl rfl rfl ⟨rfl, by decide, .inl gH⟩ (fun W pn xe tk _ => ?_) (fun a oe cls d pn hz hf => pss_one (ps_set (i := 1) scHe.nd rfl (.inl rfl) (pv 3)))) (pss_cons (ps_if (pt_cmpR op_isN (pv 1) pe_non (nomark _)) (pss_one (ps_ret (pe_tup (pa_cons pe_str (pa_cons (pv 2) pa_nil))))) pss_nil) (pss_cons (ps_set (i := 4) scHe.nd rfl (.inl rfl) (pe_call GC (show Room 1 _ from hr.deeper _) rfl mC kC bC .nil pass0 (pa_cons (pv 1) pa_nil))) (pss_cons (ps_if (pt_cmpR op_in_seq (pv 4) (pe_tup (pa_cons pe_str (pa_cons pe_str (pa_cons pe_str (pa_cons pe_str pa_nil))))) rfl) pss_never pss_nil) (pss_one (ps_ret (pe_ifExp (pt_cmpR op_in_seq (pv 4) (pe_tup (pa_cons pe_str (pa_cons pe_str pa_nil))) rfl) pe_never (pe_tup (pa_cons (pv 4) pa_nil)))))))))), ?_⟩
  · refine ⟨fun pins s' σ H' D I h' => ?_⟩
    obtain ⟨Ech, hW, h1, h2, Q0, h3, h4⟩ := h'
    exact (pss_one (ps_set (i := 2) scHe.nd rfl (.inl rfl) (pe_mon (act W pn xe Ech _ _ tk hW)))).run pins s' σ H' D I ⟨Q0, ⟨h1, h2, h3⟩, h4⟩
  · refine ⟨(by show 2 ≤ sizeLine; decide), fun p0 np0 => ⟨p0, _, rfl, SqT.of upd_same, rfl, _, _, rfl, _, _, rfl, rfl, fun cls d H' => cls = .ref CT ∧ d = none ∧ ∀ (p : Addr) (H2 : Hp), Same H' H2 → H2 p = some (.tup [.str "no text"]) → Q (.ref p) H2, fun cls d σ' H' hx => ?_, rfl, (same_new np0 _) _ _ hc, _, h _ (same_new np0 (.tup [.non, .non])), fun v H' hv => ?_⟩⟩
    · obtain ⟨rfl, rfl, go⟩ := hx
      refine ⟨hE, fun a na hl => ?_⟩
      obtain ⟨y0, y1, y2, y3, y4, rfl⟩ := len5 hl
      refine ⟨_, rfl, fun na2 => ?_⟩
      have s1 := same_new na2 (ExK (.ref CT) none a)
      refine ⟨_, rfl, rfl, _, rfl, iteF ?_⟩
      refine ⟨_, rfl, a, rfl, upd_same, fun H2 s2 => ?_⟩
      refine ⟨_, rfl, (by show 4 ≤ sizeLine; decide), fun p np => ⟨p, _, rfl, .inr (SqT.of upd_same), rfl, rfl, _, rfl, ?_⟩⟩
      refine iteF ?_
      refine ⟨_, rfl, (by show 2 ≤ sizeLine; decide), fun p2 np2 => ⟨p2, _, rfl, .inr (SqT.of upd_same), rfl, rfl, _, rfl, ?_⟩⟩
      refine iteF ⟨_, rfl, (by show 1 ≤ sizeLine; decide), fun p3 np3 => ?_⟩
      exact go p3 _ (s1.trans (s2.trans ((same_new np _).trans ((same_new np2 _).trans (same_new np3 _))))) upd_same
    · refine ⟨_, rfl, rfl, _, rfl, iteT ⟨_, rfl, (by show 2 ≤ sizeLine; decide), fun p np => hv p np⟩⟩
end
end B1

set_option maxRecDepth 100000
set_option maxHeartbeats 4000000
namespace B1
open PySem PySem.Spec PyProof.Rows L2 TL K4
/-! ### a call by keywords alone -/
section
variable {X : Cx} {CX : CXT} {k : Nat} {f : Addr} {fd : FuncData} {ps ks : List Str} {sp : Sp} {E : XK} {x : Str} {p pos : Pos} {kws : List Keyword} {tk : TA} {g : List Value → List Value → List Value} {gV : List V → List V → List V}
theorem pe_callK0 (F : FnOk X.prog X.w X.K X.mg X.base CX k f fd ps sp) (hr : Room k X.A) (hg : Gl X x) (hm : X.mg x = some (.ref f)) (hk : PySem.W.keepIn X.K (.ref f) = true) (hb : KBinds X.K fd ps ks g gV) (hx : Passes CX X E) (hkw : PK X kws tk)
    (hall : (backToKw pos (keywordEach kws X.env)).all (·.1.isSome) = true := by rfl) (hks : (backToKw pos (keywordEach kws X.env)).filterMap (·.1) = ks := by rfl) (hdb : (x == ("__debug__" : Str)) = false := by decide)
    (hpl : ((backTo pos (starEach [] X.env)).any (·.1) || (backToKw pos (keywordEach kws X.env)).any (·.1.isNone)) = false := by rfl) :
    PE X (.Call (.Name x p) [] kws pos) (fun σ H Q => tk σ H fun zs H1 => sp (gV [] zs) H1 Q E) := by
  refine ⟨fun pins s σ H Q I h => wpAny_Call_Name_kw (ld_glob I hg hm ?_ hdb)⟩
  refine PySem.W.callWith_KW0 (h₀ := X.base) I.ok.mod.kin hk hall (thn (hkw.run pos pins s σ H _ I h) fun ws s1 ⟨zs, H1, I1, rz, q⟩ => ⟨I1.kIn, ?_⟩) hpl
  rw [hks]
  exact run_fnk F hr hb hx I1 .nil rz q
end
def onlyK {α : Type} (us ws : List α) : List α := match us with
  | [] => ws
  | _ => []
theorem kb_text {K : PySem.W.Frag} {f : Addr} {fd : FuncData} (F : Fun K "read_thing" "read_thing" sRT f fd) : KBinds K fd ["text"] ["text"] onlyK onlyK := by
  obtain ⟨oc, od, kV, doc, pm, an, cdv, ct, osl, rfl, lk, hcd⟩ := F.ex
  refine ⟨fun s us ws _ hl => ?_, fun {vs us zs ws} r rz => ?_⟩
  · match us, hl with
    | [], hl =>
      match ws, hl with
      | [u], _ => exact .of_eq rfl
  · cases r with
    | nil => exact rz
    | cons _ _ => exact .nil
/-! ### tables of code objects stay -/
theorem tabs_kept {T : List (Addr × Str)} {H H' : Hp} (t : LamX.Tabs T H) (e : Kept H H') : LamX.Tabs T H' := fun p hp => by
  obtain ⟨ps, h1, h2, h3⟩ := t p hp
  refine ⟨ps, e _ _ h1 (fun _ z => nomatch z), h2, fun pos cv hc => ?_⟩
  obtain ⟨c, e1, e2⟩ := h3 pos cv hc
  exact ⟨c, e1, e _ _ e2 fun _ z => by unfold LamX.CodeO at z; cases z⟩
theorem scr_extN {K : PySem.W.Frag} {H H' : Hp} {a : Addr} (h : Scr K H a) (e : LamX.ExtN H H') : Scr K H' a := by
  obtain ⟨ns, hs, hl⟩ := h
  refine ⟨ns, ?_, hl⟩
  rcases hs with (h | ⟨o, h⟩) | h
  · exact .inl (.inl (e _ _ h fun _ q => nomatch q))
  · exact .inl (.inr ⟨o, e _ _ h fun _ q => nomatch q⟩)
  · exact .inr h
theorem town_extN {H H' : Hp} {t : Addr} (h : Town H t) (e : LamX.ExtN H H') : Town H' t := by
  obtain ⟨c, r, kvs, h1, h2, h3, h4⟩ := h
  exact ⟨c, r, kvs, e _ _ h1 (fun _ q => nomatch q), e _ _ h2 (fun _ q => nomatch q), h3, h4⟩
/-! ### numbers of the texts -/
def RunLe (n : Nat) (T : List Nat) : Prop := ∀ a b c, T = a ++ b ++ c → (∀ x ∈ b, dig x = true) → b.length ≤ n
theorem RunLe.digs {n : Nat} {T : List Nat} (h : RunLe n T) (hn : n < 60) : Digs T := fun a b c e d => Nat.lt_of_le_of_lt (h a b c e d) hn
theorem RunLe.of_len {T : List Nat} : RunLe T.length T := fun a b c e _ => by
  have := congrArg List.length e
  simp only [List.length_append] at this
  omega
theorem RunLe.mono {n m : Nat} {T : List Nat} (h : RunLe n T) (hm : n ≤ m) : RunLe m T := fun a b c e d => Nat.le_trans (h a b c e d) hm
theorem RunLe.pre {n : Nat} {x y : List Nat} (h : RunLe n (x ++ y)) : RunLe n x := fun a b c e d => h a b (c ++ y) (by rw [e]; simp) d
theorem RunLe.suf {n : Nat} {x y : List Nat} (h : RunLe n (x ++ y)) : RunLe n y := fun a b c e d => h (x ++ a) b c (by rw [e]; simp) d
theorem runLe_app {n m : Nat} {x y : List Nat} (h1 : RunLe n x) (h2 : RunLe m y) : RunLe (n + m) (x ++ y) := fun a b c e d => by
  rw [List.append_assoc] at e
  rcases List.append_eq_append_iff.mp e with ⟨z, hz1, hz2⟩ | ⟨z, hz1, hz2⟩
  · have := h2 z b c (by rw [hz2, List.append_assoc]) d
    omega
  · rcases List.append_eq_append_iff.mp hz2 with ⟨u, hu1, hu2⟩ | ⟨u, hu1, hu2⟩
    · have := h1 a b u (by rw [hz1, hu1, List.append_assoc]) d
      omega
    · have a1 := h1 a z [] (by rw [hz1]; simp) fun x hx => d x (by rw [hu1]; exact List.mem_append_left _ hx)
      have a2 := h2 [] u c (by rw [hu2]; simp) fun x hx => d x (by rw [hu1]; exact List.mem_append_right _ hx)
      rw [hu1, List.length_append]
      omega
theorem runLe_sep {n : Nat} {x y : List Nat} {s : Nat} (hs : dig s = false) (h1 : RunLe n x) (h2 : RunLe n y) : RunLe n (x ++ s :: y) := fun a b c e d => by
  have no : ∀ l : List Nat, (∀ x ∈ s :: l, dig x = true) → False := fun l h => by
    have := h s List.mem_cons_self
    rw [hs] at this; cases this
  rw [List.append_assoc] at e
  rcases List.append_eq_append_iff.mp e with ⟨z, hz1, hz2⟩ | ⟨z, hz1, hz2⟩
  · cases z with
    | nil =>
      cases b with
      | nil => simp
      | cons t b =>
        injection hz2 with q1 q2
        subst q1
        exact (no b d).elim
    | cons t z =>
      injection hz2 with q1 q2
      exact h2 z b c (by rw [q2, List.append_assoc]; rfl) d
  · rcases List.append_eq_append_iff.mp hz2 with ⟨u, hu1, hu2⟩ | ⟨u, hu1, hu2⟩
    · exact h1 a b u (by rw [hz1, hu1, List.append_assoc]) d
    · cases u with
      | nil =>
        refine h1 a b [] ?_ d
        rw [hz1, hu1]; simp
      | cons t u =>
        injection hu2 with q1 q2
        subst q1
        exact (no u fun x hx => d x (by rw [hu1]; exact List.mem_append_right _ hx)).elim
theorem runLe_nil (n : Nat) : RunLe n [] := RunLe.of_len.mono (Nat.zero_le _)
theorem runLe_wrs1 {n : Nat} : ∀ {ds : List PyData} {x : List Nat}, RunLe n x → (∀ d ∈ ds, RunLe n (wr d)) → RunLe n (x ++ wrs1 ds)
  | [], x, hx, _ => by simpa [wrs1] using hx
  | d :: ds, x, hx, h => by
    have a := runLe_wrs1 (x := wr d) (h d List.mem_cons_self) fun e he => h e (List.mem_cons_of_mem _ he)
    exact runLe_sep (by decide) hx a
theorem GV.run : ∀ (k : Nat) {d : PyData}, GV k d → RunLe 12 (wr d)
  | 0, d, h => RunLe.of_len.mono (gl_len h).1
  | k + 1, d, h => by
    rcases h with h | ⟨ds, rfl, h1, h2⟩
    · exact RunLe.of_len.mono (gl_len h).1
    · cases ds with
      | nil => exact RunLe.of_len.mono (by simp [wr])
      | cons e r =>
        have a := runLe_wrs1 (ds := r) (GV.run k (h2 e List.mem_cons_self)) fun f hf => GV.run k (h2 f (List.mem_cons_of_mem _ hf))
        have b : RunLe 12 (wr e ++ wrs1 r ++ 41 :: []) := runLe_sep (by decide) a (runLe_nil _)
        exact runLe_sep (x := []) (s := 40) (by decide) (runLe_nil _) b
theorem RunLe.take {n : Nat} {T : List Nat} (h : RunLe n T) (k : Nat) : RunLe n (T.take k) := by
  rw [← List.take_append_drop k T] at h
  exact h.pre
theorem RunLe.drop {n : Nat} {T : List Nat} (h : RunLe n T) (k : Nat) : RunLe n (T.drop k) := by
  rw [← List.take_append_drop k T] at h
  exact h.suf
-- the depth of what is written
mutual
theorem depth_len : ∀ d : PyData, wf d = true → 2 * d.depth ≤ (wr d).length
  | .tuple [], _ => by simp [wr, PyData.depth, PyData.depthAll]
  | .tuple (x :: xs), hw => by
    have hx : wf x = true ∧ wfs xs = true := by simpa [wf, wfs] using hw
    have h1 := depth_len x hx.1
    have h2 := depths_len xs hx.2
    simp only [wr, PyData.depth, PyData.depthAll, List.length_cons, List.length_append, List.length_nil]
    omega
  | .none, _ => by simp [PyData.depth]
  | .bool _, _ => by simp [PyData.depth]
  | .int _, _ => by simp [PyData.depth]
  | .str _, _ => by simp [PyData.depth]
  | .list _, h => by cases h
  | .dict _, h => by cases h
theorem depths_len : ∀ ds : List PyData, wfs ds = true → 2 * PyData.depthAll ds ≤ (wrs1 ds).length
  | [], _ => by simp [PyData.depthAll, wrs1]
  | x :: xs, hw => by
    have hx : wf x = true ∧ wfs xs = true := by simpa [wfs] using hw
    have h1 := depth_len x hx.1
    have h2 := depths_len xs hx.2
    simp only [PyData.depthAll, wrs1, List.length_cons, List.length_append]
    omega
end
mutual
theorem lay_wf : ∀ d : PyData, wf d = true → d.canLay0 = true
  | .tuple ds, hw => by simp only [PyData.canLay0]; exact lays_wf ds hw
  | .none, _ => by simp [PyData.canLay0]
  | .bool _, _ => by simp [PyData.canLay0]
  | .int _, _ => by simp [PyData.canLay0]
  | .str x, hw => by
    simp only [PyData.canLay0]
    unfold PyData.strOk
    rw [← Array.all_toList, List.all_eq_true]
    intro c hc
    have h : short (tl x) = true := hw
    unfold short at h
    rw [Bool.and_eq_true, List.all_eq_true] at h
    have := h.2 c hc
    rw [Bool.and_eq_true, decide_eq_true_eq, decide_eq_true_eq] at this
    exact decide_eq_true (by omega)
  | .list _, h => by cases h
  | .dict _, h => by cases h
theorem lays_wf : ∀ ds : List PyData, wfs ds = true → PyData.canLayAll0 ds = true
  | [], _ => by simp [PyData.canLayAll0]
  | x :: xs, hw => by
    have hx : wf x = true ∧ wfs xs = true := by simpa [wfs] using hw
    rw [PyData.canLayAll0, lay_wf x hx.1, lays_wf xs hx.2]; rfl
end
theorem depAll_le {n : Nat} {xs : List PyData} (h : ∀ d ∈ xs, d.depth ≤ n) : PyData.depthAll xs ≤ n := by
  induction xs with
  | nil => simp [PyData.depthAll]
  | cons x xs ih =>
    simp only [PyData.depthAll]
    have h1 := h x List.mem_cons_self
    have h2 := ih fun d hd => h d (List.mem_cons_of_mem _ hd)
    omega
theorem GV.dep : ∀ (k : Nat) {d : PyData}, GV k d → d.depth ≤ k
  | k, d, h => by
    have base : ∀ {d : PyData}, gl d → d.depth = 0 := fun hg => gl_cases (F := fun d => d.depth = 0) hg (by simp [PyData.depth]) (fun _ => by simp [PyData.depth]) (fun _ _ _ => by simp [PyData.depth]) fun _ _ _ => by simp [PyData.depth]
    cases k with
    | zero => rw [base h]; exact Nat.le_refl _
    | succ k =>
      rcases h with h | ⟨ds, rfl, _, h2⟩
      · rw [base h]; exact Nat.zero_le _
      · have : PyData.depthAll ds ≤ k := depAll_le fun e he => GV.dep k (h2 e he)
        simp only [PyData.depth]; omega
theorem shaped_of {d : PyData} (hw : wf d = true) (hd : d.depth ≤ 64) : SeqAt.shaped d = true := by
  unfold SeqAt.shaped
  rw [lay_wf d hw, decide_eq_true hd]
  rfl
theorem tl_cutN (z : Str) (a : Nat) : tl (cutS z (some (a : Int)) none) = (tl z).drop a := by
  unfold cutS
  rw [tl_mk, HT.sIx_nat, HT.sIx_none, len_tl]
  have := cut_list (tl z) a (tl z).length
  rw [Nat.min_self] at this
  rw [this, List.take_of_length_le (by rw [List.length_drop]; omega)]
end B1

set_option maxRecDepth 100000
set_option maxHeartbeats 4000000
namespace B1
open PySem PySem.Spec PyProof.Rows L2 TL K4
/-! ### data under what a lambda's making leaves -/
theorem extN_sqT {K : PySem.W.Frag} {H H' : Hp} {a : Addr} {xs : List V} (e : LamX.ExtN H H') (h : SqT K H a xs) : SqT K H' a xs := by
  rcases h with (h | ⟨o, h⟩) | h
  · exact .inl (.inl (e _ _ h fun _ q => nomatch q))
  · exact .inl (.inr ⟨o, e _ _ h fun _ q => nomatch q⟩)
  · exact .inr h
theorem extN_sqL {K : PySem.W.Frag} {H H' : Hp} {a : Addr} {xs : List V} (e : LamX.ExtN H H') (h : SqL K H a xs) : SqL K H' a xs := by
  rcases h with (h | ⟨o, h⟩) | h
  · exact .inl (.inl (e _ _ h fun _ q => nomatch q))
  · exact .inl (.inr ⟨o, e _ _ h fun _ q => nomatch q⟩)
  · exact .inr h
section
variable {K : PySem.W.Frag} {H H' : Hp}
mutual
theorem dp_extN (e : LamX.ExtN H H') : ∀ (d : PyData) (v : V), wf d = true → Dp K H v d → Dp K H' v d
  | .none, _, _, h => by cases h; exact .non
  | .bool b, _, _, h => by cases h; exact .bl b
  | .int i, _, _, h => by cases h; exact .int i
  | .str x, _, _, h => by cases h; exact .str x
  | .list ds, _, w, _ => by cases w
  | .tuple ds, _, w, h => by
    cases h with
    | tup hs ha => exact .tup (extN_sqT e hs) (dps_extN e ds _ w ha)
  | .dict _, _, _, h => by cases h
theorem dps_extN (e : LamX.ExtN H H') : ∀ (ds : List PyData) (vs : List V), wfs ds = true → DpAll K H vs ds → DpAll K H' vs ds
  | [], _, _, h => by cases h; exact .nil
  | d :: ds, _, w, h => by
    have w : wf d = true ∧ wfs ds = true := by simpa [wfs] using w
    cases h with
    | cons h1 h2 => exact .cons (dp_extN e d _ w.1 h1) (dps_extN e ds _ w.2 h2)
end
end
/-! ### the def law -/
abbrev sLaw : Stmt := top 48
abbrev nLaw : List Str := ["_law_script", "_law_town", "_law_k", "_law_value", "_law_line", "_law_j", "_law_at", "_law_sign", "_law_other", "_law_told", "_law_bad"]
theorem scLaw : FnScope nLaw ["_law_script"] (defScope sLaw) := ⟨rfl, rfl, rfl, by decide +kernel, rfl, by decide +kernel, by decide +kernel⟩
def EF : XK := fun _ _ _ => False
theorem passF {X : Cx} : Passes (L2.CX X.prog X.w) X EF := fun _ _ _ _ _ _ _ h => by
  obtain ⟨_, _, _, _, _, _, _, _, _, _, _, _, h⟩ := h
  exact h.elim
abbrev qLam : Str := (envOfC "law" (defScope sLaw) 0 0 (.ref 0)).qual ++ "<lambda>"
theorem lm_mem {P : Addr} {q : Str} : (P, q) ∈ [(P, q)] := List.mem_singleton.mpr rfl
theorem lm_un {P : Addr} {q : Str} : ∀ p ∈ [(P, q)], p.1 = P → p.2 = q := fun p hp _ => by rw [List.mem_singleton.mp hp]
def spLaw (K : PySem.W.Frag) (P : Addr) : Sp := fun vs H Q _ => ∃ a : Addr, vs = [.ref a] ∧ Scr K H a ∧ H P = some (.tbl #[]) ∧ ∀ H', Q (.bl true) H'
def tA1 : TE := fun σ H Q => ∃ (x : Str) (k c : Nat), σ[4]? = some (some (.str x)) ∧ σ[6]? = some (some (.int (k : Int))) ∧ σ[7]? = some (some (.str ⟨#[c]⟩)) ∧ (tl x).length ≤ 400 ∧ Q (sg ((tl x).take k ++ c :: (tl x).drop k)) H
def tA2 : TE := fun σ H Q => ∃ (x : Str) (k : Nat), σ[4]? = some (some (.str x)) ∧ σ[6]? = some (some (.int (k : Int))) ∧ (tl x).length ≤ 400 ∧ Q (sg ((tl x).take k ++ (tl x).drop (k + 1))) H
def tA3 : TE := fun σ H Q => ∃ (x : Str) (k c : Nat), σ[4]? = some (some (.str x)) ∧ σ[6]? = some (some (.int (k : Int))) ∧ σ[7]? = some (some (.str ⟨#[c]⟩)) ∧ (tl x).length ≤ 400 ∧ Q (sg ((tl x).take k ++ c :: (tl x).drop (k + 1))) H
abbrev rAs : R2 := fun x y H Q => ∃ i j, x = .str i ∧ y = .str j ∧ i.length + j.length ≤ sizeLine ∧ Q (.str (i ++ j)) H
theorem cut_le (x : Str) (lo hi : Option Int) (h : (tl x).length ≤ 400) : (cutS x lo hi).length ≤ 400 := Nat.le_trans (cutS_length x lo hi) (by rw [len_tl]; exact h)
theorem small4 {n : Nat} (h : n ≤ 4000) : n ≤ sizeLine := Nat.le_trans h (by decide)
theorem succ_cast (k : Nat) : ((k : Int) + 1) = ((k + 1 : Nat) : Int) := by omega
theorem a1_of (σ : L2.St) (H : Hp) (Q : VK) (h : tA1 σ H Q) : tOp rAs (tOp rAs (L2.tSl rSlS (tVar 4) tNoPart (tPart (tVar 6))) (tVar 7)) (L2.tSl rSlS (tVar 4) (tPart (tVar 6)) tNoPart) σ H Q := by
  obtain ⟨x, k, c, h4, h6, h7, hl, q⟩ := h
  have hs : x.length ≤ sizeLine := small4 (by rw [len_tl]; omega)
  have l1 := cut_le x none (some (k : Int)) hl
  have l2 := cut_le x (some (k : Int)) none hl
  refine ⟨_, h4, ?_⟩
  unfold tNoPart
  refine ⟨_, h6, _, rfl, x, rfl, hs, _, h7, _, _, rfl, rfl, small4 (by show _ + 1 ≤ _; omega), _, h4, _, h6, _, rfl, x, rfl, hs, _, _, rfl, rfl, small4 ?_, ?_⟩
  · rw [len_tl (_ ++ _), tl_append, List.length_append, ← len_tl]
    show _ + 1 + _ ≤ _
    omega
  · refine str_to q (ext_tl ?_)
    rw [tl_append, tl_append, tl_cut0, tl_cutN, tl_mk, tl_mk]
    simp
theorem a2_of (σ : L2.St) (H : Hp) (Q : VK) (h : tA2 σ H Q) : tOp rAs (L2.tSl rSlS (tVar 4) tNoPart (tPart (tVar 6))) (L2.tSl rSlS (tVar 4) (tPart (tIncV 6)) tNoPart) σ H Q := by
  obtain ⟨x, k, h4, h6, hl, q⟩ := h
  have hs : x.length ≤ sizeLine := small4 (by rw [len_tl]; omega)
  have l1 := cut_le x none (some (k : Int)) hl
  have l2 := cut_le x (some ((k + 1 : Nat) : Int)) none hl
  refine ⟨_, h4, ?_⟩
  unfold tNoPart
  refine ⟨_, h6, _, rfl, x, rfl, hs, _, h4, _, h6, _, rfl, x, rfl, hs, _, _, rfl, rfl, small4 ?_, ?_⟩
  · omega
  · refine str_to q (ext_tl ?_)
    rw [tl_append, tl_cut0, tl_cutN, tl_mk]
theorem a3_of (σ : L2.St) (H : Hp) (Q : VK) (h : tA3 σ H Q) : tOp rAs (tOp rAs (L2.tSl rSlS (tVar 4) tNoPart (tPart (tVar 6))) (tVar 7)) (L2.tSl rSlS (tVar 4) (tPart (tIncV 6)) tNoPart) σ H Q := by
  obtain ⟨x, k, c, h4, h6, h7, hl, q⟩ := h
  have hs : x.length ≤ sizeLine := small4 (by rw [len_tl]; omega)
  have l1 := cut_le x none (some (k : Int)) hl
  have l2 := cut_le x (some ((k + 1 : Nat) : Int)) none hl
  refine ⟨_, h4, ?_⟩
  unfold tNoPart
  refine ⟨_, h6, _, rfl, x, rfl, hs, _, h7, _, _, rfl, rfl, small4 (by show _ + 1 ≤ _; omega), _, h4, _, h6, _, rfl, x, rfl, hs, _, _, rfl, rfl, small4 ?_, ?_⟩
  · rw [len_tl (_ ++ _), tl_append, List.length_append, ← len_tl]
    show _ + 1 + _ ≤ _
    omega
  · refine str_to q (ext_tl ?_)
    rw [tl_append, tl_append, tl_cut0, tl_cutN, tl_mk, tl_mk]
    simp
end B1

set_option maxRecDepth 100000
set_option maxHeartbeats 4000000
namespace B1
open PySem PySem.Spec PyProof.Rows L2 TL K4
/-- told[0] == 'told' and written(told[1]) != other or told[0] not in ('told', 'no text') -/
def tTold (K : PySem.W.Frag) : TT := fun σ H Q => ∃ (p : Addr) (x : Str), σ[9]? = some (some (.ref p)) ∧ σ[8]? = some (some (.str x)) ∧
  (H p = some (.tup [.str "no text"]) ∨ ∃ v d, H p = some (.tup [.str "told", v]) ∧ Dp K H v d ∧ wf d = true ∧ d.depth ≤ 200 ∧ (wr d).length ≤ 500 ∧ wr d = tl x) ∧ ∀ H', Same H H' → Q false H'
theorem inT2 : inV (V.str "told") [V.str "told", V.str "no text"] = true := by decide +kernel
theorem inN2 : inV (V.str "no text") [V.str "told", V.str "no text"] = true := by decide +kernel
theorem neTN : decide (V.str "no text" = V.str "told") = false := by decide +kernel
theorem told_of (K : PySem.W.Frag) (σ : L2.St) (H : Hp) (Q : Bool → Hp → Prop) (h : tTold K σ H Q) :
    tOr (tAnd (tTest (tOp rEq (tOp (rIxT K) (tVar 9) (tC (.int 0))) (tC (.str "told")))) (tTest (tOp rNe (tCall (spWr K 200) [] C8.E0 (tCons (tOp (rIxT K) (tVar 9) (tC (.int 1))) tNil)) (tVar 8))))
      (tTest (tOp (rIn K true) (tOp (rIxT K) (tVar 9) (tC (.int 0))) (tTup (tCons (tC (.str "told")) (tCons (tC (.str "no text")) tNil))))) σ H Q := by
  obtain ⟨p, x, h9, h8, ht, q⟩ := h
  rcases ht with ht | ⟨v, d, ht, hd, hw, hdep, hlen, e⟩
  · refine ⟨_, h9, p, _, _, _, rfl, rfl, SqT.of ht, rfl, rfl, _, rfl, ?_⟩
    rw [neTN]
    refine iteF (iteF ⟨_, h9, p, _, _, _, rfl, rfl, SqT.of ht, rfl, (by show 2 ≤ sizeLine; decide), fun p2 np2 => ⟨p2, _, rfl, .inr (SqT.of upd_same), rfl, rfl, _, rfl, ?_⟩⟩)
    rw [inN2]
    exact q _ (same_new np2 _)
  · refine ⟨_, h9, p, _, _, _, rfl, rfl, SqT.of ht, rfl, rfl, _, rfl, ?_⟩
    rw [decide_eq_true rfl]
    refine iteT ⟨_, h9, p, _, _, _, rfl, rfl, SqT.of ht, rfl, v, d, rfl, hd, hw, hdep, hlen, fun H1 s1 => ⟨_, h8, rfl, _, rfl, ?_⟩⟩
    have ex : sg (wr d) = .str x := congrArg V.str (ext_tl e)
    rw [decide_eq_true ex]
    refine iteF ⟨_, h9, p, _, _, _, rfl, rfl, SqT.of (s1 _ _ ht), rfl, (by show 2 ≤ sizeLine; decide), fun p2 np2 => ⟨p2, _, rfl, .inr (SqT.of upd_same), rfl, rfl, _, rfl, ?_⟩⟩
    rw [inT2]
    exact q _ (s1.trans (same_new np2 _))
theorem nox_of {X : Cx} {b : List Stmt} {D : Ends} {σ : L2.St} {H : Hp} (h : ∃ t, PSs X.nox b t ∧ t D σ H) : ∃ t, PSs X b t ∧ t D σ H := by
  obtain ⟨t, h1, h2⟩ := h
  exact ⟨t, h1.nox, h2⟩
abbrev scC : Scope := { kind := .function, names := [(".0", .local), ("_law_line", .cell), ("_law_heard", .globalImplicit)], isGenerator := false, isCoroutine := false }
/-- what stands all along -/
structure LI (K : PySem.W.Frag) (P0 : Addr) (H : Hp) (a t : Addr) : Prop where
  scr : Scr K H a
  town : Town H t
  tab : LamX.Tabs [(P0, qLam)] H
theorem LI.kept {K : PySem.W.Frag} {P0 : Addr} {H H' : Hp} {a t : Addr} (L : LI K P0 H a t) (k : Kept H H') (h : Town H' t) : LI K P0 H' a t := ⟨L.scr.kept k, h, tabs_kept L.tab k⟩
theorem LI.same {K : PySem.W.Frag} {P0 : Addr} {H H' : Hp} {a t : Addr} (L : LI K P0 H a t) (k : Same H H') : LI K P0 H' a t := L.kept (Kept.of k) (L.town.same k)
theorem LI.extN {K : PySem.W.Frag} {P0 : Addr} {H H' : Hp} {a t : Addr} (L : LI K P0 H a t) (e : LamX.ExtN H H') (h : LamX.Tabs [(P0, qLam)] H') : LI K P0 H' a t := ⟨scr_extN L.scr e, town_extN L.town e, h⟩
def PvA (K : PySem.W.Frag) (P0 a t : Addr) : Nat → L2.St → Hp → Prop := fun _ σ H' => ∃ y2 y3 y4 y5 y6 y7 y8 y9 y10 : Option V, σ = [some (.ref a), some (.ref t), y2, y3, y4, y5, y6, y7, y8, y9, y10] ∧ LI K P0 H' a t
def PvJ (K : PySem.W.Frag) (P0 a t : Addr) (l : List Nat) : Nat → L2.St → Hp → Prop := fun _ σ H' => ∃ y2 y3 y5 y6 y7 y8 y9 y10 : Option V, σ = [some (.ref a), some (.ref t), y2, y3, some (sg l), y5, y6, y7, y8, y9, y10] ∧ LI K P0 H' a t
def PvO (K : PySem.W.Frag) (P0 a t : Addr) (l : List Nat) (D : Addr) (os : List V) : Nat → L2.St → Hp → Prop := fun _ σ H' => ∃ y2 y3 y5 y6 y7 y8 y9 y10 : Option V, σ = [some (.ref a), some (.ref t), y2, y3, some (sg l), y5, y6, y7, y8, y9, y10] ∧ LI K P0 H' a t ∧ H' D = some (.lst os)
theorem sign13 : (Str.ofString "'\\() TFN-01a~").cps.toList = [39, 92, 40, 41, 32, 84, 70, 78, 45, 48, 49, 97, 126] := by decide +kernel
def other (l : List Nat) (v : V) : Prop := ∃ m, v = sg m ∧ m.length ≤ 400 ∧ RunLe 25 m
theorem other_app {x y : List Nat} (h1 : RunLe 12 x) (h2 : RunLe 13 y) (l : (x ++ y).length ≤ 400) : RunLe 25 (x ++ y) := runLe_app h1 h2
theorem runLe_one {n : Nat} {c : Nat} {y : List Nat} (h : RunLe n y) : RunLe (n + 1) (c :: y) := by
  have : RunLe (1 + n) ([c] ++ y) := runLe_app (RunLe.of_len (T := [c])) h
  exact this.mono (by omega)
/-! ### the texts that are none -/
def bad1 : List Str := ["", " ", "(", ")", "()(", "( )", "(1 )", "( 1)", "(1  2)", "(1,2)", "01", "-0", "-", "+1", "1.0"]
def bad2 : List Str := ["t", "TT", "'", "''' "]
def bad3 : List Str := ["'a", "'\\a'", "'\\'", "N ", " N", "1 2", "(1'a')", "--1", "'\n'", "()1", "00"]
def badL : List Str := bad1 ++ bad2 ++ bad3
def mach2 : Nat → List (List PyData) → List Nat → Bool
  | 0, _, _ => false
  | n + 1, st, z => match leafP (push st z).2 with
    | none => false
    | some p => match closeP (push st z).1 p.1 p.2 with
      | none => false
      | some (.more st' z') => mach2 n st' z'
      | some (.fin _ z') => z'.isEmpty
theorem mach2_is : ∀ (n : Nat) (st : List (List PyData)) (z : List Nat), (mach n st z).isSome = mach2 n st z
  | 0, _, _ => by simp [mach, mach2]
  | n + 1, st, z => by
    rw [mach, mach2]
    cases leafP (push st z).2 with
    | none => rfl
    | some p =>
      show (cont n (push st z).1 p.1 p.2).isSome = (match closeP (push st z).1 p.1 p.2 with
        | none => false
        | some (.more st' z') => mach2 n st' z'
        | some (.fin _ z') => z'.isEmpty)
      rw [cont]
      cases closeP (push st z).1 p.1 p.2 with
      | none => rfl
      | some o =>
        cases o with
        | more st' z' => exact mach2_is n st' z'
        | fin d z' => cases z' <;> rfl
theorem bad_all2 : ∀ x ∈ badL, mach2 ((tl x).length + 1) [] (tl x) = false ∧ (tl x).length ≤ 10 := by decide +kernel
theorem bad_all : ∀ x ∈ badL, rd (tl x) = none ∧ (tl x).length ≤ 10 := fun x hx => by
  obtain ⟨h1, h2⟩ := bad_all2 x hx
  refine ⟨?_, h2⟩
  have := mach2_is ((tl x).length + 1) [] (tl x)
  rw [h1] at this
  unfold rd
  cases h : mach ((tl x).length + 1) [] (tl x) with
  | none => rfl
  | some d => rw [h] at this; cases this
def noT : PyData := .tuple [.str "no text"]
theorem noT_wf : wf noT = true := by decide +kernel
theorem noT_wfs (n : Nat) : wfs (List.replicate n noT) = true := wfs_of fun d hd => by rw [List.eq_of_mem_replicate hd]; exact noT_wf
theorem noT_sh : SeqAt.shaped (.list (List.replicate 30 noT)) = true := by decide +kernel
theorem noT_eq : PyData.eqv (.list (List.replicate 30 noT)) (.list (List.replicate 30 noT)) = true := by decide +kernel
theorem tabs_list {T : List (Addr × Str)} {H : Hp} {D : Addr} {xs ys : List V} (t : LamX.Tabs T H) (hD : H D = some (.lst xs)) : LamX.Tabs T (upd H D (.lst ys)) := fun p hp => by
  obtain ⟨ps, h1, h2, h3⟩ := t p hp
  have n1 : p.1 ≠ D := fun e => by rw [e, hD] at h1; cases h1
  refine ⟨ps, by rw [upd_ne n1]; exact h1, h2, fun pos cv hc => ?_⟩
  obtain ⟨c, e1, e2⟩ := h3 pos cv hc
  have n2 : c ≠ D := fun e => by rw [e, hD] at e2; unfold LamX.CodeO at e2; cases e2
  exact ⟨c, e1, by rw [upd_ne n2]; exact e2⟩
def dEx : PyData := .tuple [.int (-5), .str "it's", .tuple [.bool true], .none]
theorem dEx_wf : wf dEx = true := by decide +kernel
theorem dEx_wr : tl (Str.ofString "(-5 'it\\'s' (T) N)") = wr dEx := by decide +kernel
theorem dEx_rd : rd (tl (Str.ofString "(-5 'it\\'s' (T) N)")) = some dEx := by rw [dEx_wr]; exact rd_comp dEx_wf
theorem dE0_rd : rd (tl (Str.ofString "()")) = some (.tuple []) := by
  have : tl (Str.ofString "()") = wr (.tuple []) := by decide +kernel
  rw [this]; exact rd_comp (by decide +kernel)
section
variable {K : PySem.W.Frag} {P : Program} {w : World} {mg : Str → Option Value} {base : Heap} {f c P0 fDr fBe fAT fWr fTT fRT fHe fCl CT CH : Addr} {dDr dBe dAT dWr dTT dRT dHe dCl : FuncData} {oc kV doc pm ct : Value} {od an : Option Addr} {osl : Array (Option Value)}
theorem ok_law (lk : K.lookup f = some ⟨oc, od, .func (PySem.W.fnOf "law" "law" (defArgs sLaw) (defBody sLaw) (defScope sLaw) .none kV doc pm an (.ref c) ct), osl⟩) (hcd : PySem.W.codeIn K (.ref c) "law" = true) (B : Bl mg)
    (TB : LamX.TabB base mg c P0)
    (GDr : FnOk P w K mg base CX0 1 fDr dDr ["_law_script", "_law_town", "_law_many"] (spDraw K)) (bDr : Binds K dDr ["_law_script", "_law_town", "_law_many"] []) (kDr : PySem.W.keepIn K (.ref fDr) = true) (mDr : mg "_law_draw" = some (.ref fDr))
    (GBe : FnOk P w K mg base CX0 1 fBe dBe [] spBegun) (bBe : Binds K dBe [] []) (kBe : PySem.W.keepIn K (.ref fBe) = true) (mBe : mg "_law_begun" = some (.ref fBe))
    (GAT : FnOk P w K mg base CX0 5 fAT dAT ["_law_script", "_law_town", "_law_deep"] (spAT K 3)) (bAT : Binds K dAT ["_law_script", "_law_town", "_law_deep"] []) (kAT : PySem.W.keepIn K (.ref fAT) = true) (mAT : mg "_law_a_tuple" = some (.ref fAT))
    (GWr : FnOk P w K mg base CX0 201 fWr dWr ["_law_value"] (spWr K 200)) (bWr : Binds K dWr ["_law_value"] []) (kWr : PySem.W.keepIn K (.ref fWr) = true) (mWr : mg "_law_written" = some (.ref fWr))
    (GTT : FnOk P w K mg base CX0 3 fTT dTT ["thing"] (spTT K)) (bTT : Binds K dTT ["thing"] []) (kTT : PySem.W.keepIn K (.ref fTT) = true) (mTT : mg "thing_text" = some (.ref fTT))
    (FRT : Fun K "read_thing" "read_thing" sRT fRT dRT) (GRT : FnOk P w K mg base (L2.CX P w) 5 fRT dRT ["text"] (spRT K CT)) (bRT : Binds K dRT ["text"] []) (mRT : mg "read_thing" = some (.ref fRT))
    (FHe : Fun K "_law_heard" "_law_heard" sHe fHe dHe) (bHe : Binds K dHe ["_law_deed"] []) (mHe : mg "_law_heard" = some (.ref fHe))
    (GCl : FnOk P w K mg base CX0 1 fCl dCl ["_law_kept"] (spCl CT)) (bCl : Binds K dCl ["_law_kept"] []) (kCl : PySem.W.keepIn K (.ref fCl) = true) (mCl : mg "_law_class" = some (.ref fCl))
    (gH : mg "HallError" = some (.ref CH)) (hE : PySem.W.exmOne K (.ref CT) (.ref CH) = some true) :
    FnOk P w K mg base CX0 202 f (PySem.W.fnOf "law" "law" (defArgs sLaw) (defBody sLaw) (defScope sLaw) .none kV doc pm an (.ref c) ct) ["_law_script"] (spLaw K P0) := by
  obtain ⟨och, odh, kVh, doch, pmh, anh, cdvh, cth, oslh, rfl, lkh, hch⟩ := FHe.ex
  refine fn_of lk hcd scLaw (fun vs H Q E h => ?_) (fun A outer s H vs Q E hr h => ?_)
  · obtain ⟨a, rfl, _⟩ := h
    rfl
  obtain ⟨a, rfl, hS, hP, q⟩ := h
  have h1 := hr.mono (show 1 ≤ 201 by decide)
  have h2 := hr.mono (show 2 ≤ 201 by decide)
  have h3 := hr.mono (show 3 ≤ 201 by decide)
  have h5 := hr.mono (show 5 ≤ 201 by decide)
  have h7 := hr.mono (show 7 ≤ 201 by decide)
  refine nox_of (X := cxOf CX0 P w K mg base nLaw "law" (defScope sLaw) f (.ref c) A outer s H E) ?_
  refine ⟨_, (pss_cons (ps_set (i := 1) scLaw.nd rfl (.inl rfl) (pe_call0 GBe h1 rfl mBe kBe bBe .nil pass0)) (pss_cons (ps_for PassesOwn.never rfl (pi_range1 rfl B.range (pa_cons pe_int pa_nil)) (pg_name (i := 2) scLaw.nd rfl (.inl rfl)) (pss_cons (ps_set (i := 3) scLaw.nd rfl (.inl rfl) (pe_call GAT h5 rfl mAT kAT bAT .nil pass0 (pa_cons (pv 0) (pa_cons (pv 1) (pa_cons pe_int pa_nil))))) (pss_cons (ps_set (i := 4) scLaw.nd rfl (.inl rfl) (pe_call GWr hr rfl mWr kWr bWr .nil pass0 (pa_cons (pv 3) pa_nil))) (pss_cons (ps_if (PW.pt (pw_or (pt_cmpR op_ne (pe_call GTT h3 rfl mTT kTT bTT .nil pass0 (pa_cons (pv 3) pa_nil)) (pv 4) (nomark _)) (pw_or (pt_cmpR op_ne (pe_call GTT h3 rfl mTT kTT bTT .nil pass0 (pa_cons (pe_call GRT h5 rfl mRT FRT.kp bRT .nil (E := EF) passF (pa_cons (pv 4) pa_nil)) pa_nil)) (pv 4) (nomark _)) (pw_or1 (pt_cmpR (op_neD hr.units) (pe_callK0 GRT h5 rfl mRT FRT.kp (kb_text FRT) (E := EF) passF (pk_cons (pv 4) pk_nil)) (pv 3) (nomark _)))))) (pss_one (ps_ret pe_bl)) pss_nil) (pss_one (ps_for PassesOwn.never rfl (pi_range1 rfl B.range (pa_cons pe_int pa_nil)) (pg_name (i := 5) scLaw.nd rfl (.inl rfl)) (pss_cons (ps_par (by rfl) scLaw.nd rfl rfl (by decide) rfl rfl (pa_cons (pe_call GDr h1 rfl mDr kDr bDr .nil pass0 (pa_cons (pv 0) (pa_cons (pv 1) (pa_cons (pe_op op_add (pe_callB call_len_str rfl B.len bt_len (pa_cons (pv 4) pa_nil)) pe_int) pa_nil)))) (pa_cons (pe_ix ix_str pe_str (pe_call GDr h1 rfl mDr kDr bDr .nil pass0 (pa_cons (pv 0) (pa_cons (pv 1) (pa_cons pe_int pa_nil)))) (fun _ _ => rfl)) pa_nil)) (by rfl) (i := 6) (j := 7)) (pss_one (ps_for PassesOwn.never rfl (pi_list (pe_lst (pa_cons (pe_less (t' := tA1) (pe_op op_add_str (pe_op op_add_str (pe_slice sl_str (pv 4) po_none (po_some (pv 6))) (pv 7)) (pe_slice sl_str (pv 4) (po_some (pv 6)) po_none)) a1_of) (pa_cons (pe_less (t' := tA2) (pe_op op_add_str (pe_slice sl_str (pv 4) po_none (po_some (pv 6))) (pe_slice sl_str (pv 4) (po_some (pe_less (t' := tIncV 6) (pe_op op_add (pv 6) pe_int) (incV_of 6))) po_none)) a2_of) (pa_cons (pe_less (t' := tA3) (pe_op op_add_str (pe_op op_add_str (pe_slice sl_str (pv 4) po_none (po_some (pv 6))) (pv 7)) (pe_slice sl_str (pv 4) (po_some (pe_less (t' := tIncV 6) (pe_op op_add (pv 6) pe_int) (incV_of 6))) po_none)) a3_of) pa_nil))))) (pg_name (i := 8) scLaw.nd rfl (.inr rfl)) (pss_cons (ps_set (i := 9) scLaw.nd rfl (.inl rfl) (LamX.pe_lamcall (T := [(P0, qLam)]) (TT := THeard CT) (t := fun E => tCall (spRT K CT) [] E (tCons (tVar 8) tNil)) (c := c) (P := P0) (k := 5) rfl mHe FHe.kp lkh hch bHe scHe rfl (Or.inl rfl) (heard_gives GCl bCl kCl mCl gH hE h2) TB rfl lm_mem lm_un h7 (LamX.lamS_by (sc := (defScope sLaw)) (by decide +kernel)) rfl (fun _ _ _ _ _ => rfl) (fun A outer s H E f c' hr2 => pe_call GRT hr2 rfl mRT FRT.kp bRT .nil (passes_call (takes_of rfl rfl rfl rfl) (fun _ _ _ _ h => h)) (pa_cons (pv 8) pa_nil)))) (pss_one (ps_if (pt_less (t' := tTold K) (PW.pt (pw_or (PW.pt (pw_and (pt_cmpR op_eq (pe_ix ix_tup (pv 9) pe_int (fun _ _ => rfl)) pe_str (nomark _)) (pw_and1 (pt_cmpR op_ne (pe_call GWr hr rfl mWr kWr bWr .nil pass0 (pa_cons (pe_ix ix_tup (pv 9) pe_int (fun _ _ => rfl)) pa_nil)) (pv 8) (nomark _))))) (pw_or1 (pt_cmpR op_notIn_seq (pe_ix ix_tup (pv 9) pe_int (fun _ _ => rfl)) (pe_tup (pa_cons pe_str (pa_cons pe_str pa_nil))) rfl)))) (told_of K)) (pss_one (ps_ret pe_bl)) pss_nil)))))))))))) (pss_cons (ps_set (i := 10) scLaw.nd rfl (.inl rfl) (pe_lst (pa_cons pe_str (pa_cons pe_str (pa_cons pe_str (pa_cons pe_str (pa_cons pe_str (pa_cons pe_str (pa_cons pe_str (pa_cons pe_str (pa_cons pe_str (pa_cons pe_str (pa_cons pe_str (pa_cons pe_str (pa_cons pe_str (pa_cons pe_str (pa_cons pe_str pa_nil))))))))))))))))) (pss_cons (ps_set (i := 10) scLaw.nd rfl (.inl rfl) (pe_op op_cat (pv 10) (pe_lst (pa_cons pe_str (pa_cons pe_str (pa_cons pe_str (pa_cons pe_str pa_nil))))))) (pss_cons (ps_set (i := 10) scLaw.nd rfl (.inl rfl) (pe_op op_cat (pv 10) (pe_lst (pa_cons pe_str (pa_cons pe_str (pa_cons pe_str (pa_cons pe_str (pa_cons pe_str (pa_cons pe_str (pa_cons pe_str (pa_cons pe_str (pa_cons pe_str (pa_cons pe_str (pa_cons pe_str pa_nil)))))))))))))) (pss_cons (ps_if (pt_cmpR (op_neD hr.units) (pe_lc (own := [("_law_line", 4)]) (g := (gName 4)) (by rfl) scLaw.nd (pi_list (pv 10)) (blkOk_by (own := [("_law_line", 4)]) (N := nLaw) (sc := defScope sLaw) (by decide +kernel)) (fun _ _ _ _ _ => (pg_name (i := 4) scLaw.nd rfl (Or.inr rfl))) (fun _ _ _ _ _ => pts_nil) (fun _ _ _ _ _ => (LamX.pe_lamcall (T := [(P0, qLam)]) (TT := THeard CT) (t := fun E => tCall (spRT K CT) [] E (tCons (tVar 4) tNil)) (c := c) (P := P0) (k := 5) rfl mHe FHe.kp lkh hch bHe scHe rfl (Or.inl rfl) (heard_gives GCl bCl kCl mCl gH hE h2) TB rfl lm_mem lm_un h7 (LamX.lamS_by (sc := scC) (by decide +kernel)) rfl (fun _ _ _ _ _ => rfl) (fun A outer s H E f c' hr2 => pe_call GRT hr2 rfl mRT FRT.kp bRT .nil (passes_call (takes_of rfl rfl rfl rfl) (fun _ _ _ _ h => h)) (pa_cons (pv 4) pa_nil))))) (pe_lc (own := [("_law_line", 4)]) (g := (gName 4)) (by rfl) scLaw.nd (pi_list (pv 10)) (blkOk_by (own := [("_law_line", 4)]) (N := nLaw) (sc := defScope sLaw) (by decide +kernel)) (fun _ _ _ _ _ => (pg_name (i := 4) scLaw.nd rfl (Or.inl rfl))) (fun _ _ _ _ _ => pts_nil) (fun _ _ _ _ _ => (pe_tup (pa_cons pe_str pa_nil)))) (nomark _)) (pss_one (ps_ret pe_bl)) pss_nil) (pss_one (ps_ret (pe_and (pe_cmpR (op_eqD hr.units) (pe_call GRT h5 rfl mRT FRT.kp bRT .nil (E := EF) passF (pa_cons pe_str pa_nil)) (de_tup (das_cons de_neg (das_cons de_str (das_cons (de_tup (das_cons de_bl das_nil) (by decide)) (das_cons de_non das_nil)))) (by decide)) (nomark _)) (pe_one (pe_cmpR (op_eqD hr.units) (pe_call GRT h5 rfl mRT FRT.kp bRT .nil (E := EF) passF (pa_cons pe_str pa_nil)) (de_tup das_nil (by decide)) (nomark _)))))))))))), ?_⟩
  -- town
  refine ⟨rfl, fun t H1 s1 hT => ?_⟩
  have L0 : LI K P0 H1 a t := ⟨hS.kept (Kept.of s1), hT, fun p hp => by rw [List.mem_singleton.mp hp]; exact LamX.TabS.nil (s1 _ _ hP)⟩
  clear hS hT
  refine ⟨3, rfl, by decide, by decide, for_it walk_range (PvA K P0 a t) ⟨_, _, _, _, _, _, _, _, _, rfl, L0⟩ (fun _ _ _ _ _ => trivial) ?_ ?_⟩
  · rintro i x σ H2 H2' hi ⟨y2, y3, y4, y5, y6, y7, y8, y9, y10, rfl, L⟩ ⟨rfl, rfl⟩
    refine ⟨_, rfl, _, rfl, a, t, rfl, L.scr, L.town, fun v d H3 k3 T3 p3 g3 => ?_⟩
    have L3 := L.kept k3 T3
    clear L k3 T3
    obtain ⟨hlen, htw⟩ := g3.bounds
    have hw := g3.wf
    have hok := g3.okW
    have hdep := g3.dep
    have hrun := g3.run
    have hdg : Digs (tl ⟨(wr d).toArray⟩) := by rw [tl_mk]; exact hrun.digs (by decide)
    have hrd : rd (tl ⟨(wr d).toArray⟩) = some d := by rw [tl_mk]; exact rd_comp hw
    have hsh := shaped_of hw (by omega)
    have hl9 : (tl ⟨(wr d).toArray⟩).length ≤ 99999 := by rw [tl_mk]; omega
    have dne : (!decide (sg (wr d) = sg (wr d))) = false := by rw [decide_eq_true rfl]; rfl
    refine ⟨_, rfl, v, d, rfl, p3, hw, by omega, by omega, fun H4 s4 => ?_⟩
    have L4 := L3.same s4
    have p4 := same_dp s4 p3
    clear L3 p3 s4
    refine ⟨_, rfl, v, d, rfl, p4, hok, by omega, by omega, fun H5 s5 => ⟨_, rfl, rfl, _, rfl, ?_⟩⟩
    rw [dne]
    refine iteF ⟨_, rfl, _, rfl, hl9, hdg, fun hn => (by rw [hrd] at hn; cases hn), fun d6 hd6 H6 v6 s6 p6 => ?_⟩
    rw [hrd] at hd6
    obtain rfl := Option.some.inj hd6
    refine ⟨v6, d, rfl, p6, hok, by omega, by omega, fun H7 s7 => ⟨_, rfl, rfl, _, rfl, ?_⟩⟩
    rw [dne]
    refine iteF ⟨_, rfl, _, rfl, hl9, hdg, fun hn => (by rw [hrd] at hn; cases hn), fun d8 hd8 H8 v8 s8 p8 => ?_⟩
    rw [hrd] at hd8
    obtain rfl := Option.some.inj hd8
    have S8 := s5.trans (s6.trans (s7.trans s8))
    refine ⟨_, rfl, d, d, p8, same_dp S8 p4, hsh, hsh, _, rfl, ?_⟩
    rw [SeqAt.eqv_refl d (lay_wf d hw)]
    refine iteF ?_
    have L8 := L4.same S8
    clear L4 S8 p4 s5 s6 s7 s8 p6 p8 hd6 hd8
    have hlw : (wr d).length ≤ 376 := hlen
    generalize wr d = l at hlw hrun ⊢
    refine ⟨6, rfl, by decide, by decide, for_it walk_range (PvJ K P0 a t l) ⟨_, _, _, _, _, _, _, _, rfl, L8⟩ (fun _ _ _ _ _ => trivial) ?_ ?_⟩
    · rintro j x σ H9 H9' hj ⟨z2, z3, z5, z6, z7, z8, z9, z10, rfl, L9⟩ ⟨rfl, rfl⟩
      have ell : (⟨l.toArray⟩ : Str).length = l.length := by rw [len_tl, tl_mk]
      refine ⟨_, rfl, _, rfl, _, rfl, _, rfl, small4 (by rw [ell]; omega), _, _, rfl, rfl, a, t, _, rfl, L9.scr, L9.town, by rw [ell]; omega, by rw [ell]; omega, fun i1 H10 i10 i11 k10 T10 => ?_⟩
      have L10 := L9.kept k10 T10
      refine ⟨_, rfl, _, rfl, a, t, _, rfl, L10.scr, L10.town, by decide, by decide, fun i2 H11 i20 i21 k11 T11 => ?_⟩
      have L11 := L10.kept k11 T11
      obtain ⟨n1, rfl⟩ := Int.eq_ofNat_of_zero_le i10
      obtain ⟨n2, rfl⟩ := Int.eq_ofNat_of_zero_le i20
      obtain ⟨c, hc⟩ : ∃ c, [39, 92, 40, 41, 32, 84, 70, 78, 45, 48, 49, 97, 126][n2]? = some c := ⟨_, List.getElem?_eq_getElem (show n2 < 13 by omega)⟩
      refine ⟨_, _, c, rfl, rfl, (by decide +kernel), by rw [sign13]; exact atI_str hc, _, _, rfl, ?_⟩
      clear L9 L10 k10 k11 T10 T11
      have hl4 : (tl ⟨l.toArray⟩).length ≤ 400 := by rw [tl_mk]; omega
      refine ⟨_, n1, c, rfl, rfl, rfl, hl4, _, n1, rfl, rfl, hl4, _, n1, c, rfl, rfl, rfl, hl4, (by show 3 ≤ sizeLine; decide), fun D nD => ?_⟩
      rw [tl_mk]
      have r1 := hrun.take n1
      have r2 := hrun.drop n1
      have r3 := hrun.drop (n1 + 1)
      have hos : ∀ v ∈ [sg (l.take n1 ++ c :: l.drop n1), sg (l.take n1 ++ l.drop (n1 + 1)), sg (l.take n1 ++ c :: l.drop (n1 + 1))], ∃ m, v = sg m ∧ m.length ≤ 400 ∧ RunLe 25 m := fun v hv => by
        simp only [List.mem_cons, List.not_mem_nil, or_false] at hv
        rcases hv with rfl | rfl | rfl
        · exact ⟨_, rfl, by simp only [List.length_append, List.length_take, List.length_cons, List.length_drop]; omega, runLe_app r1 (runLe_one r2)⟩
        · exact ⟨_, rfl, by simp only [List.length_append, List.length_take, List.length_cons, List.length_drop]; omega, (runLe_app r1 r3).mono (by decide)⟩
        · exact ⟨_, rfl, by simp only [List.length_append, List.length_take, List.length_cons, List.length_drop]; omega, runLe_app r1 (runLe_one r3)⟩
      have s12 := same_new nD (.lst [sg (l.take n1 ++ c :: l.drop n1), sg (l.take n1 ++ l.drop (n1 + 1)), sg (l.take n1 ++ c :: l.drop (n1 + 1))])
      have L12 := L11.same s12
      generalize [sg (l.take n1 ++ c :: l.drop n1), sg (l.take n1 ++ l.drop (n1 + 1)), sg (l.take n1 ++ c :: l.drop (n1 + 1))] = os at hos L12 ⊢
      refine ⟨D, rfl, ⟨_, SqL.of upd_same⟩, for_it (walk_list (xs := os)) (PvO K P0 a t l D os) ⟨_, _, _, _, _, _, _, _, rfl, L12, upd_same⟩ (fun i σ H' _ h => by obtain ⟨_, _, _, _, _, _, _, _, _, _, h⟩ := h; exact SqL.of h) ?_ ?_⟩
      · rintro m x σ H13 H13' hm ⟨z2, z3, z5, z6, z7, z8, z9, z10, rfl, L13, hD13⟩ ⟨rfl, hx⟩
        obtain ⟨o, rfl, ho1, ho2⟩ := hos x (List.mem_of_getElem? hx)
        refine ⟨L13.tab, fun H14 e14 T14 H15 s15 => ?_⟩
        have L15 := (L13.extN e14 T14).same s15
        have hD15 := s15 _ _ (e14 _ _ hD13 fun _ z => nomatch z)
        refine ⟨_, rfl, _, rfl, by rw [tl_mk]; omega, by rw [tl_mk]; exact ho2.digs (by decide), fun hn H16 s16 => ⟨rfl, rfl, fun p H17 s17 h17 => ?_⟩, fun d hd H16 v s16 p16 p np => ?_⟩
        · refine ⟨p, _, rfl, rfl, .inl h17, fun H18 s18 => iteF ⟨_, _, _, _, _, _, _, _, rfl, L15.same (s16.trans (s17.trans s18)), (s16.trans (s17.trans s18)) _ _ hD15⟩⟩
        · obtain ⟨e1, e2⟩ := rd_sound hd
          rw [tl_mk] at e1
          have e3 := depth_len d e2
          have s17 := same_new np (.tup [.str "told", v])
          rw [e1] at e3
          refine ⟨p, _, rfl, rfl, .inr ⟨v, d, upd_same, same_dp s17 p16, e2, by omega, by rw [e1]; omega, by rw [tl_mk]; exact e1⟩, fun H18 s18 => iteF ⟨_, _, _, _, _, _, _, _, rfl, L15.same (s16.trans (s17.trans s18)), (s16.trans (s17.trans s18)) _ _ hD15⟩⟩
      · rintro σ H13 ⟨z2, z3, z5, z6, z7, z8, z9, z10, rfl, L13, hD13⟩
        exact ⟨_, _, _, _, _, _, _, _, rfl, L13⟩
    · rintro σ H9 ⟨z2, z3, z5, z6, z7, z8, z9, z10, rfl, L9⟩
      exact ⟨_, _, _, _, _, _, _, _, _, rfl, L9⟩
  · rintro σ H2 ⟨y2, y3, y4, y5, y6, y7, y8, y9, y10, rfl, L2⟩
    have T2 := L2.tab
    clear L2 L0
    refine ⟨(by show 15 ≤ sizeLine; decide), fun p1 np1 => ?_⟩
    have s3 := same_new np1 (.lst (bad1.map V.str))
    refine ⟨_, rfl, (by show 4 ≤ sizeLine; decide), fun p2 np2 => ?_⟩
    have s4 := same_new np2 (.lst (bad2.map V.str))
    refine ⟨p1, p2, bad1.map V.str, bad2.map V.str, rfl, rfl, s4 _ _ upd_same, upd_same, (by show 19 ≤ sizeLine; decide), fun p3 np3 => ?_⟩
    have s5 := same_new np3 (.lst (bad1.map V.str ++ bad2.map V.str))
    refine ⟨_, rfl, (by show 11 ≤ sizeLine; decide), fun p4 np4 => ?_⟩
    have s6 := same_new np4 (.lst (bad3.map V.str))
    refine ⟨p3, p4, bad1.map V.str ++ bad2.map V.str, bad3.map V.str, rfl, rfl, s6 _ _ upd_same, upd_same, (by show 30 ≤ sizeLine; decide), fun pl npl => ?_⟩
    have s7 := same_new npl (.lst ((bad1.map V.str ++ bad2.map V.str) ++ bad3.map V.str))
    have T7 := T2.ext (s3.trans (s4.trans (s5.trans (s6.trans s7))))
    refine ⟨_, rfl, pl, rfl, ⟨_, SqL.of upd_same⟩, ?_⟩
    rw [show (bad1.map V.str ++ bad2.map V.str) ++ bad3.map V.str = badL.map V.str from rfl] at T7 ⊢
    intro D nD
    have nDl : pl ≠ D := fun e => by rw [← e, upd_same] at nD; cases nD
    refine lc_it (walk_list (xs := badL.map V.str)) (fun i H' => ∃ vs, LamX.Tabs [(P0, qLam)] H' ∧ H' pl = some (.lst (badL.map V.str)) ∧ H' D = some (.lst vs) ∧ DpAll K H' vs (List.replicate i noT)) ⟨[], T7.ext (same_new nD _), (same_new nD _) _ _ upd_same, upd_same, .nil⟩ (fun i H' _ h => by obtain ⟨_, _, h, _⟩ := h; exact SqL.of h) ?_ ?_
    · rintro i x H8' H8 hi ⟨vs, T8, hl8, hD8, hd8⟩ ⟨rfl, hx⟩
      obtain ⟨x, rfl, hxm⟩ : ∃ y, x = .str y ∧ y ∈ badL := by
        obtain ⟨y, h1, h2⟩ := List.mem_map.mp (List.mem_of_getElem? hx)
        exact ⟨y, h2.symm, h1⟩
      obtain ⟨hn, hxl⟩ := bad_all x hxm
      have hi30 : i < 30 := by
        have := (List.getElem?_eq_some_iff.mp hx).1
        rw [List.length_map] at this
        exact this
      refine ⟨rfl, tyes (iteT ?_)⟩
      refine ⟨T8, fun H9 e9 T9 H10 s10 => ⟨_, rfl, x, rfl, by omega, (RunLe.of_len.mono hxl).digs (by decide), fun _ H11 s11 => ⟨rfl, rfl, fun p H12 s12 h12 => ?_⟩, fun d hd => (by rw [hn] at hd; cases hd)⟩⟩
      have S12 := s10.trans (s11.trans s12)
      have hD12 := S12 _ _ (e9 _ _ hD8 fun _ z => nomatch z)
      have hl12 := S12 _ _ (e9 _ _ hl8 fun _ z => nomatch z)
      have vl := dps_len hd8
      rw [List.length_replicate] at vl
      have d12 := same_dps S12 (dps_extN e9 _ _ (noT_wfs i) hd8)
      have kl := keptL_list (ys := vs ++ [.ref p]) hD12
      refine ⟨vs, hD12, smallM (by omega), vs ++ [.ref p], tabs_list (T9.ext S12) hD12, by rw [upd_ne nDl]; exact hl12, upd_same, ?_⟩
      rw [List.replicate_succ']
      exact dps_append (dps_keptL kl _ _ (noT_wfs i) d12) (.cons (dp_keptL kl noT _ noT_wf (.tup (SqT.of h12) (.cons (.str _) .nil))) .nil)
    · rintro H8 ⟨vs, T8, hl8, hD8, hd8⟩
      refine ⟨_, rfl, pl, rfl, ⟨_, SqL.of hl8⟩, fun D2 nD2 => ?_⟩
      refine lc_it (walk_list (xs := badL.map V.str)) (fun i H' => ∃ vs2, Same H8 H' ∧ H' D2 = some (.lst vs2) ∧ DpAll K H' vs2 (List.replicate i noT)) ⟨[], same_new nD2 _, upd_same, .nil⟩ (fun i H' _ h => by obtain ⟨_, h, _⟩ := h; exact SqL.of (h _ _ hl8)) ?_ ?_
      · rintro i x H9' H9 hi ⟨vs2, s9, hD9, hd9⟩ ⟨rfl, hx⟩
        have hi30 : i < 30 := by
          have := (List.getElem?_eq_some_iff.mp hx).1
          rw [List.length_map] at this
          exact this
        refine ⟨rfl, tyes (iteT ⟨(by show 1 ≤ sizeLine; decide), fun p np => ?_⟩)⟩
        have s10 := same_new np (.tup [.str "no text"])
        have hD10 := s10 _ _ hD9
        have vl := dps_len hd9
        rw [List.length_replicate] at vl
        have d10 := same_dps s10 hd9
        have kl := keptL_list (ys := vs2 ++ [.ref p]) hD10
        refine ⟨vs2, hD10, smallM (by omega), vs2 ++ [.ref p], same_over (s9.trans s10) nD2, upd_same, ?_⟩
        rw [List.replicate_succ']
        exact dps_append (dps_keptL kl _ _ (noT_wfs i) d10) (.cons (dp_keptL kl noT _ noT_wf (.tup (SqT.of upd_same) (.cons (.str _) .nil))) .nil)
      · rintro H9 ⟨vs2, s9, hD9, hd9⟩
        refine ⟨.list (List.replicate 30 noT), .list (List.replicate 30 noT), .lst (SqL.of (s9 _ _ hD8)) (same_dps s9 hd8), .lst (SqL.of hD9) hd9, noT_sh, noT_sh, _, rfl, ?_⟩
        rw [noT_eq]
        refine iteF ?_
        refine ⟨_, rfl, by decide +kernel, (RunLe.of_len (T := tl (Str.ofString "(-5 'it\\'s' (T) N)"))).digs (by decide +kernel), fun hn => (by rw [dEx_rd] at hn; cases hn), fun d hd H10 v s10 p10 => ?_⟩
        rw [dEx_rd] at hd
        obtain rfl := Option.some.inj hd
        refine ⟨fun _ => .none, use0, fun v1 H11 s11 d11 => ⟨dEx, _, same_dp s11 p10, d11, by decide +kernel, by decide +kernel, true, congrArg V.bl (by decide +kernel), iteT ?_⟩⟩
        refine ⟨_, rfl, by decide +kernel, (RunLe.of_len (T := tl (Str.ofString "()"))).digs (by decide +kernel), fun hn => (by rw [dE0_rd] at hn; cases hn), fun d hd H12 v s12 p12 => ?_⟩
        rw [dE0_rd] at hd
        obtain rfl := Option.some.inj hd
        exact ⟨fun _ => .none, use0, fun v1 H13 s13 d13 => ⟨.tuple [], _, same_dp s13 p12, d13, by decide +kernel, by decide +kernel, q H13⟩⟩
end
end B1

set_option maxRecDepth 100000
set_option maxHeartbeats 4000000
namespace B1
open PySem PySem.Spec PyProof.Rows L2 TL K4
/-- a def of the top -/
structure DefAt (K : PySem.W.Frag) (x : Str) (st : Stmt) (f : Addr) (fd : FuncData) : Prop where
  at_ : PySem.W.nsIn K mainGlobals x = some (some (.ref f))
  fn : Fun K x x st f fd
theorem DefAt.mk' {K : PySem.W.Frag} {x : Str} {st : Stmt} {f : Addr} {oc : Value} {od an : Option Addr} {osl : Array (Option Value)} {kV doc pm cdv ct : Value} (a : PySem.W.nsIn K mainGlobals x = some (some (.ref f)))
    (l : K.lookup f = some ⟨oc, od, .func (PySem.W.fnOf x x (defArgs st) (defBody st) (defScope st) .none kV doc pm an cdv ct), osl⟩)
    (c : PySem.W.codeIn K cdv x = true) (k : PySem.W.keepIn K (.ref f) = true) : DefAt K x st f (PySem.W.fnOf x x (defArgs st) (defBody st) (defScope st) .none kV doc pm an cdv ct) := ⟨a, fun_mk (st := st) l c k⟩
/-- the law's own code object and its table -/
theorem tabIn_of {K : PySem.W.Frag} {x : Str} {f c P : Addr} {oc e : Value} {od dd : Option Addr} {osl sl : Array (Option Value)} {fd : FuncData} {vs : Array Value} (a : PySem.W.nsIn K mainGlobals x = some (some (.ref f))) (l : K.lookup f = some ⟨oc, od, .func fd, osl⟩) (hc : fd.code = .ref c)
    (lc : K.lookup c = some ⟨e, dd, .fields vs, sl⟩) (hv : vs[11]? = some (.ref P)) : PySem.W.tabIn K x = some (c, P) := by
  unfold PySem.W.tabIn
  simp only [a, l, hc, lc, hv]
theorem all_ok {P : Program} {w : World} {K : PySem.W.Frag} {h base : Heap} {mg : Str → Option Value} {fBt fSh fNu fQu fLf fTT fNO fRN fRQ fRL fCP fRT fDr fBe fAT fWr fCl fHe fLa cLa P0 CT CH dM : Addr} {dBt dSh dNu dQu dLf dTT dNO dRN dRQ dRL dCP dRT dDr dBe dAT dWr dCl dHe : FuncData} {eM : Array DictEntry} {nM : Nat} {tk2 : Tok} {oc kV doc pm ct : Value} {od an : Option Addr} {osl : Array (Option Value)} (X : K.In h) (G : h.Ns mainGlobals mg) (R : Rx K w mg CT dM eM nM) (L : Kl K mg CT)
    (g40 : mg "TEXT_SIGNS" = some (.int 40 tk2)) (gH : mg "HallError" = some (.ref CH)) (hE : PySem.W.exmOne K (.ref CT) (.ref CH) = some true)
    (lk : K.lookup fLa = some ⟨oc, od, .func (PySem.W.fnOf "law" "law" (defArgs sLaw) (defBody sLaw) (defScope sLaw) .none kV doc pm an (.ref cLa) ct), osl⟩) (hcd : PySem.W.codeIn K (.ref cLa) "law" = true) (TB : LamX.TabB base mg cLa P0)
    (DBt : DefAt K "all_between" sBtw fBt dBt) (bBt : Binds K dBt ["text", "low", "high"] [])
    (DSh : DefAt K "is_short_text" sShort fSh dSh) (bSh : Binds K dSh ["thing"] [])
    (DNu : DefAt K "number_text" sNum fNu dNu) (bNu : Binds K dNu ["number"] [])
    (DQu : DefAt K "quoted" sQuo fQu dQu) (bQu : Binds K dQu ["text"] [])
    (DLf : DefAt K "leaf_text" sLft fLf dLf) (bLf : Binds K dLf ["thing"] [])
    (DTT : DefAt K "thing_text" sTT fTT dTT) (bTT : Binds K dTT ["thing"] [])
    (DNO : DefAt K "number_of" sNO fNO dNO) (bNO : Binds K dNO ["figures"] [])
    (DRN : DefAt K "read_number" sRN fRN dRN) (bRN : Binds K dRN ["text", "at"] [])
    (DRQ : DefAt K "read_quoted" sRQ fRQ dRQ) (bRQ : Binds K dRQ ["text", "at"] [])
    (DRL : DefAt K "read_leaf" sRL fRL dRL) (bRL : Binds K dRL ["text", "at"] [])
    (DCP : DefAt K "close_parts" sCP fCP dCP) (bCP : Binds K dCP ["text", "at", "part", "around"] [])
    (DRT : DefAt K "read_thing" sRT fRT dRT) (bRT : Binds K dRT ["text"] [])
    (DDr : DefAt K "_law_draw" sDraw fDr dDr) (bDr : Binds K dDr ["_law_script", "_law_town", "_law_many"] [])
    (DBe : DefAt K "_law_begun" sBegun fBe dBe) (bBe : Binds K dBe [] [])
    (DAT : DefAt K "_law_a_tuple" sAT fAT dAT) (bAT : Binds K dAT ["_law_script", "_law_town", "_law_deep"] [])
    (DWr : DefAt K "_law_written" sWr fWr dWr) (bWr : Binds K dWr ["_law_value"] [])
    (DCl : DefAt K "_law_class" sCl fCl dCl) (bCl : Binds K dCl ["_law_kept"] [])
    (DHe : DefAt K "_law_heard" sHe fHe dHe) (bHe : Binds K dHe ["_law_deed"] [])
    : FnOk P w K mg base CX0 202 fLa (PySem.W.fnOf "law" "law" (defArgs sLaw) (defBody sLaw) (defScope sLaw) .none kV doc pm an (.ref cLa) ct) ["_law_script"] (spLaw K P0) := by
  have mBt := PySem.W.mg_of X G DBt.at_
  have FBt := DBt.fn
  have mSh := PySem.W.mg_of X G DSh.at_
  have FSh := DSh.fn
  have mNu := PySem.W.mg_of X G DNu.at_
  have FNu := DNu.fn
  have mQu := PySem.W.mg_of X G DQu.at_
  have FQu := DQu.fn
  have mLf := PySem.W.mg_of X G DLf.at_
  have FLf := DLf.fn
  have mTT := PySem.W.mg_of X G DTT.at_
  have FTT := DTT.fn
  have mNO := PySem.W.mg_of X G DNO.at_
  have FNO := DNO.fn
  have mRN := PySem.W.mg_of X G DRN.at_
  have FRN := DRN.fn
  have mRQ := PySem.W.mg_of X G DRQ.at_
  have FRQ := DRQ.fn
  have mRL := PySem.W.mg_of X G DRL.at_
  have FRL := DRL.fn
  have mCP := PySem.W.mg_of X G DCP.at_
  have FCP := DCP.fn
  have mRT := PySem.W.mg_of X G DRT.at_
  have FRT := DRT.fn
  have mDr := PySem.W.mg_of X G DDr.at_
  have FDr := DDr.fn
  have mBe := PySem.W.mg_of X G DBe.at_
  have FBe := DBe.fn
  have mAT := PySem.W.mg_of X G DAT.at_
  have FAT := DAT.fn
  have mWr := PySem.W.mg_of X G DWr.at_
  have FWr := DWr.fn
  have mCl := PySem.W.mg_of X G DCl.at_
  have FCl := DCl.fn
  have mHe := PySem.W.mg_of X G DHe.at_
  have FHe := DHe.fn
  have B := R.bl
  obtain ⟨tz, mz⟩ := R.pz
  have oBt : FnOk P w K mg base CX0 1 fBt dBt _ _ := ok_btw FBt B
  have oSh : FnOk P w K mg base CX0 2 fSh dSh _ _ := ok_short FSh oBt bBt FBt.kp mBt g40 B
  have oNu : FnOk P w K mg base CX0 1 fNu dNu _ _ := ok_num FNu B mz
  have oQu : FnOk P w K mg base CX0 1 fQu dQu _ _ := ok_quo FQu
  have oLf : FnOk P w K mg base CX0 2 fLf dLf _ _ := ok_lft FLf B oQu bQu FQu.kp mQu oNu bNu FNu.kp mNu
  have oTT : FnOk P w K mg base CX0 3 fTT dTT _ _ := ok_tt FTT B oLf bLf FLf.kp mLf
  have oNO : FnOk P w K mg base CX0 1 fNO dNO _ _ := ok_no FNO R
  have oRN : FnOk P w K mg base (L2.CX P w) 2 fRN dRN _ _ := ok_rn FRN R oNO bNO FNO.kp mNO
  have oRQ : FnOk P w K mg base (L2.CX P w) 3 fRQ dRQ _ _ := ok_rq FRQ R oSh bSh FSh.kp mSh
  have oRL : FnOk P w K mg base (L2.CX P w) 4 fRL dRL _ _ := ok_rl FRL R oRQ bRQ FRQ.kp mRQ oRN bRN FRN.kp mRN
  have oCP : FnOk P w K mg base (L2.CX P w) 1 fCP dCP _ _ := ok_cp FCP R
  have oRT : FnOk P w K mg base (L2.CX P w) 5 fRT dRT _ _ := ok_rt FRT R oRL bRL FRL.kp mRL oCP bCP FCP.kp mCP
  have oDr : FnOk P w K mg base CX0 1 fDr dDr _ _ := ok_draw FDr B
  have oBe : FnOk P w K mg base CX0 1 fBe dBe _ _ := ok_begun FBe
  have oAT : FnOk P w K mg base CX0 5 fAT dAT _ _ := at_all FAT B oDr bDr FDr.kp mDr bAT mAT 3
  have oWr : FnOk P w K mg base CX0 201 fWr dWr _ _ := wr_all FWr B bWr mWr 200
  have oCl : FnOk P w K mg base CX0 1 fCl dCl _ _ := ok_cl FCl B L R.gT
  exact ok_law lk hcd B TB oDr bDr FDr.kp mDr oBe bBe FBe.kp mBe oAT bAT FAT.kp mAT oWr bWr FWr.kp mWr oTT bTT FTT.kp mTT FRT oRT bRT mRT FHe bHe mHe oCl bCl FCl.kp mCl gH hE
theorem all_mk {l : PySem.W.OpenLaw} {w : World} {K : PySem.W.Frag} {h : Heap} {mg : Str → Option Value} {fa : Addr} {fBt fSh fNu fQu fLf fTT fNO fRN fRQ fRL fCP fRT fDr fBe fAT fWr fCl fHe fLa cLa P0 CT CH dM kBadName kKnown kNoKind kNoName kNoField kBadField kFixed kRing kInUse kBadBody kNoWay kNoThing kBadValue kSame kNoRun kNoBack kEnded kNoAsk kNoFrame : Addr} (X : K.In h) (G : h.Ns mainGlobals mg) (hfa : mg "law" = some (.ref fa)) (hTab : ∀ c P, PySem.W.tabIn K "law" = some (c, P) → PySem.W.CodeHd h c P ∧ h.get? P = some (PySem.W.tabObj #[]))
    {odBt odSh odNu odQu odLf odTT odNO odRN odRQ odRL odCP odRT odDr odBe odAT odWr odCl odHe anBt anSh anNu anQu anLf anTT anNO anRN anRQ anRL anCP anRT anDr anBe anAT anWr anCl anHe odLa anLa ddC : Option Addr} {slBt slSh slNu slQu slLf slTT slNO slRN slRQ slRL slCP slRT slDr slBe slAT slWr slCl slHe slLa slC : Array (Option Value)} {ocBt kvBt dcBt pmBt cdBt ctBt ocSh kvSh dcSh pmSh cdSh ctSh ocNu kvNu dcNu pmNu cdNu ctNu ocQu kvQu dcQu pmQu cdQu ctQu ocLf kvLf dcLf pmLf cdLf ctLf ocTT kvTT dcTT pmTT cdTT ctTT ocNO kvNO dcNO pmNO cdNO ctNO ocRN kvRN dcRN pmRN cdRN ctRN ocRQ kvRQ dcRQ pmRQ cdRQ ctRQ ocRL kvRL dcRL pmRL cdRL ctRL ocCP kvCP dcCP pmCP cdCP ctCP ocRT kvRT dcRT pmRT cdRT ctRT ocDr kvDr dcDr pmDr cdDr ctDr ocBe kvBe dcBe pmBe cdBe ctBe ocAT kvAT dcAT pmAT cdAT ctAT ocWr kvWr dcWr pmWr cdWr ctWr ocCl kvCl dcCl pmCl cdCl ctCl ocHe kvHe dcHe pmHe cdHe ctHe ocLa kvLa dcLa pmLa ctLa eC : Value} {vC : Array Value}
    (aBt : PySem.W.nsIn K mainGlobals "all_between" = some (some (.ref fBt))) (lBt : K.lookup fBt = some ⟨ocBt, odBt, .func (PySem.W.fnOf "all_between" "all_between" (defArgs sBtw) (defBody sBtw) (defScope sBtw) .none kvBt dcBt pmBt anBt cdBt ctBt), slBt⟩) (cBt : PySem.W.codeIn K cdBt "all_between" = true) (kBt : PySem.W.keepIn K (.ref fBt) = true)
    (aSh : PySem.W.nsIn K mainGlobals "is_short_text" = some (some (.ref fSh))) (lSh : K.lookup fSh = some ⟨ocSh, odSh, .func (PySem.W.fnOf "is_short_text" "is_short_text" (defArgs sShort) (defBody sShort) (defScope sShort) .none kvSh dcSh pmSh anSh cdSh ctSh), slSh⟩) (cSh : PySem.W.codeIn K cdSh "is_short_text" = true) (kSh : PySem.W.keepIn K (.ref fSh) = true)
    (aNu : PySem.W.nsIn K mainGlobals "number_text" = some (some (.ref fNu))) (lNu : K.lookup fNu = some ⟨ocNu, odNu, .func (PySem.W.fnOf "number_text" "number_text" (defArgs sNum) (defBody sNum) (defScope sNum) .none kvNu dcNu pmNu anNu cdNu ctNu), slNu⟩) (cNu : PySem.W.codeIn K cdNu "number_text" = true) (kNu : PySem.W.keepIn K (.ref fNu) = true)
    (aQu : PySem.W.nsIn K mainGlobals "quoted" = some (some (.ref fQu))) (lQu : K.lookup fQu = some ⟨ocQu, odQu, .func (PySem.W.fnOf "quoted" "quoted" (defArgs sQuo) (defBody sQuo) (defScope sQuo) .none kvQu dcQu pmQu anQu cdQu ctQu), slQu⟩) (cQu : PySem.W.codeIn K cdQu "quoted" = true) (kQu : PySem.W.keepIn K (.ref fQu) = true)
    (aLf : PySem.W.nsIn K mainGlobals "leaf_text" = some (some (.ref fLf))) (lLf : K.lookup fLf = some ⟨ocLf, odLf, .func (PySem.W.fnOf "leaf_text" "leaf_text" (defArgs sLft) (defBody sLft) (defScope sLft) .none kvLf dcLf pmLf anLf cdLf ctLf), slLf⟩) (cLf : PySem.W.codeIn K cdLf "leaf_text" = true) (kLf : PySem.W.keepIn K (.ref fLf) = true)
    (aTT : PySem.W.nsIn K mainGlobals "thing_text" = some (some (.ref fTT))) (lTT : K.lookup fTT = some ⟨ocTT, odTT, .func (PySem.W.fnOf "thing_text" "thing_text" (defArgs sTT) (defBody sTT) (defScope sTT) .none kvTT dcTT pmTT anTT cdTT ctTT), slTT⟩) (cTT : PySem.W.codeIn K cdTT "thing_text" = true) (kTT : PySem.W.keepIn K (.ref fTT) = true)
    (aNO : PySem.W.nsIn K mainGlobals "number_of" = some (some (.ref fNO))) (lNO : K.lookup fNO = some ⟨ocNO, odNO, .func (PySem.W.fnOf "number_of" "number_of" (defArgs sNO) (defBody sNO) (defScope sNO) .none kvNO dcNO pmNO anNO cdNO ctNO), slNO⟩) (cNO : PySem.W.codeIn K cdNO "number_of" = true) (kNO : PySem.W.keepIn K (.ref fNO) = true)
    (aRN : PySem.W.nsIn K mainGlobals "read_number" = some (some (.ref fRN))) (lRN : K.lookup fRN = some ⟨ocRN, odRN, .func (PySem.W.fnOf "read_number" "read_number" (defArgs sRN) (defBody sRN) (defScope sRN) .none kvRN dcRN pmRN anRN cdRN ctRN), slRN⟩) (cRN : PySem.W.codeIn K cdRN "read_number" = true) (kRN : PySem.W.keepIn K (.ref fRN) = true)
    (aRQ : PySem.W.nsIn K mainGlobals "read_quoted" = some (some (.ref fRQ))) (lRQ : K.lookup fRQ = some ⟨ocRQ, odRQ, .func (PySem.W.fnOf "read_quoted" "read_quoted" (defArgs sRQ) (defBody sRQ) (defScope sRQ) .none kvRQ dcRQ pmRQ anRQ cdRQ ctRQ), slRQ⟩) (cRQ : PySem.W.codeIn K cdRQ "read_quoted" = true) (kRQ : PySem.W.keepIn K (.ref fRQ) = true)
    (aRL : PySem.W.nsIn K mainGlobals "read_leaf" = some (some (.ref fRL))) (lRL : K.lookup fRL = some ⟨ocRL, odRL, .func (PySem.W.fnOf "read_leaf" "read_leaf" (defArgs sRL) (defBody sRL) (defScope sRL) .none kvRL dcRL pmRL anRL cdRL ctRL), slRL⟩) (cRL : PySem.W.codeIn K cdRL "read_leaf" = true) (kRL : PySem.W.keepIn K (.ref fRL) = true)
    (aCP : PySem.W.nsIn K mainGlobals "close_parts" = some (some (.ref fCP))) (lCP : K.lookup fCP = some ⟨ocCP, odCP, .func (PySem.W.fnOf "close_parts" "close_parts" (defArgs sCP) (defBody sCP) (defScope sCP) .none kvCP dcCP pmCP anCP cdCP ctCP), slCP⟩) (cCP : PySem.W.codeIn K cdCP "close_parts" = true) (kCP : PySem.W.keepIn K (.ref fCP) = true)
    (aRT : PySem.W.nsIn K mainGlobals "read_thing" = some (some (.ref fRT))) (lRT : K.lookup fRT = some ⟨ocRT, odRT, .func (PySem.W.fnOf "read_thing" "read_thing" (defArgs sRT) (defBody sRT) (defScope sRT) .none kvRT dcRT pmRT anRT cdRT ctRT), slRT⟩) (cRT : PySem.W.codeIn K cdRT "read_thing" = true) (kRT : PySem.W.keepIn K (.ref fRT) = true)
    (aDr : PySem.W.nsIn K mainGlobals "_law_draw" = some (some (.ref fDr))) (lDr : K.lookup fDr = some ⟨ocDr, odDr, .func (PySem.W.fnOf "_law_draw" "_law_draw" (defArgs sDraw) (defBody sDraw) (defScope sDraw) .none kvDr dcDr pmDr anDr cdDr ctDr), slDr⟩) (cDr : PySem.W.codeIn K cdDr "_law_draw" = true) (kDr : PySem.W.keepIn K (.ref fDr) = true)
    (aBe : PySem.W.nsIn K mainGlobals "_law_begun" = some (some (.ref fBe))) (lBe : K.lookup fBe = some ⟨ocBe, odBe, .func (PySem.W.fnOf "_law_begun" "_law_begun" (defArgs sBegun) (defBody sBegun) (defScope sBegun) .none kvBe dcBe pmBe anBe cdBe ctBe), slBe⟩) (cBe : PySem.W.codeIn K cdBe "_law_begun" = true) (kBe : PySem.W.keepIn K (.ref fBe) = true)
    (aAT : PySem.W.nsIn K mainGlobals "_law_a_tuple" = some (some (.ref fAT))) (lAT : K.lookup fAT = some ⟨ocAT, odAT, .func (PySem.W.fnOf "_law_a_tuple" "_law_a_tuple" (defArgs sAT) (defBody sAT) (defScope sAT) .none kvAT dcAT pmAT anAT cdAT ctAT), slAT⟩) (cAT : PySem.W.codeIn K cdAT "_law_a_tuple" = true) (kAT : PySem.W.keepIn K (.ref fAT) = true)
    (aWr : PySem.W.nsIn K mainGlobals "_law_written" = some (some (.ref fWr))) (lWr : K.lookup fWr = some ⟨ocWr, odWr, .func (PySem.W.fnOf "_law_written" "_law_written" (defArgs sWr) (defBody sWr) (defScope sWr) .none kvWr dcWr pmWr anWr cdWr ctWr), slWr⟩) (cWr : PySem.W.codeIn K cdWr "_law_written" = true) (kWr : PySem.W.keepIn K (.ref fWr) = true)
    (aCl : PySem.W.nsIn K mainGlobals "_law_class" = some (some (.ref fCl))) (lCl : K.lookup fCl = some ⟨ocCl, odCl, .func (PySem.W.fnOf "_law_class" "_law_class" (defArgs sCl) (defBody sCl) (defScope sCl) .none kvCl dcCl pmCl anCl cdCl ctCl), slCl⟩) (cCl : PySem.W.codeIn K cdCl "_law_class" = true) (kCl : PySem.W.keepIn K (.ref fCl) = true)
    (aHe : PySem.W.nsIn K mainGlobals "_law_heard" = some (some (.ref fHe))) (lHe : K.lookup fHe = some ⟨ocHe, odHe, .func (PySem.W.fnOf "_law_heard" "_law_heard" (defArgs sHe) (defBody sHe) (defScope sHe) .none kvHe dcHe pmHe anHe cdHe ctHe), slHe⟩) (cHe : PySem.W.codeIn K cdHe "_law_heard" = true) (kHe : PySem.W.keepIn K (.ref fHe) = true)
    (aLa : PySem.W.nsIn K mainGlobals "law" = some (some (.ref fLa))) (lLa : K.lookup fLa = some ⟨ocLa, odLa, .func (PySem.W.fnOf "law" "law" (defArgs sLaw) (defBody sLaw) (defScope sLaw) .none kvLa dcLa pmLa anLa (.ref cLa) ctLa), slLa⟩) (ccLa : PySem.W.codeIn K (.ref cLa) "law" = true)
    (lC : K.lookup cLa = some ⟨eC, ddC, .fields vC, slC⟩) (vP : vC[11]? = some (.ref P0)) (nP : K.lookup P0 = none)
    (z0 : PySem.W.nsIn K mainGlobals "all" = some none)
    (z1 : PySem.W.nsIn K mainGlobals "isinstance" = some none)
    (z2 : PySem.W.nsIn K mainGlobals "str" = some none)
    (z3 : PySem.W.nsIn K mainGlobals "len" = some none)
    (z4 : PySem.W.nsIn K mainGlobals "bool" = some none)
    (z5 : PySem.W.nsIn K mainGlobals "int" = some none)
    (z6 : PySem.W.nsIn K mainGlobals "tuple" = some none)
    (z7 : PySem.W.nsIn K mainGlobals "list" = some none)
    (z8 : PySem.W.nsIn K mainGlobals "reversed" = some none)
    (z9 : PySem.W.nsIn K mainGlobals "abs" = some none)
    (z10 : PySem.W.nsIn K mainGlobals "divmod" = some none)
    (z11 : PySem.W.nsIn K mainGlobals "range" = some none)
    (z12 : PySem.W.nsIn K mainGlobals "min" = some none)
    {eM : Array DictEntry} {nM : Nat} {tk1 tk2 tk3 tk4 : Tok} {zz : Int}
    (x40 : PySem.W.nsIn K mainGlobals "TEXT_SIGNS" = some (some (.int 40 tk2))) (x60 : PySem.W.nsIn K mainGlobals "PIECE" = some (some (.int 60 tk1))) (xZ : PySem.W.nsIn K mainGlobals "PIECE_SIZE" = some (some (.int zz tk3))) (hZ : zz = big) (xF : PySem.W.nsIn K mainGlobals "FIGURES" = some (some (.str "0123456789" tk4)))
    (xM : PySem.W.nsIn K mainGlobals "MARKS" = some (some (.ref dM))) (yM : K.lookup dM = some ⟨.type "dict", none, .dict eM nM, #[]⟩)
    (uM : PySem.W.KeysLit w.params eM.toList) (vM : (dM == sysModules) = false)
    (rM : Paired (fun (e : DictEntry) (p : Str × PyData) => (∃ t, e.key = .str p.1 t) ∧ RMark e.val p.2) eM.toList markT)
    (xT : PySem.W.nsIn K mainGlobals "NoText" = some (some (.ref CT)))
    (eT : PySem.W.excIn K CT [.type "ValueError", .type "Exception", .type "BaseException", .type "object"] "ValueError.__new__" = true) (kT : PySem.W.keepIn K (.ref CT) = true) (bT : PySem.W.subIn K (.ref CT) (.type "BaseException") = some true) (tT : PySem.W.typeIn K (.ref CT) = some (.type "type"))
    (xH : PySem.W.nsIn K mainGlobals "HallError" = some (some (.ref CH))) (hE : PySem.W.exmOne K (.ref CT) (.ref CH) = some true)
    (e1 : PySem.W.findIn K (.ref CT) "__getattribute__" = some (some (.builtin "BaseException.__getattribute__"))) (e2 : PySem.W.findIn K (.ref CT) "__getattr__" = some none) (e4 : PySem.W.hasDictIn K CT = true) (e5 : PySem.W.findIn K (.ref CT) "__class__" = some (some (.builtin "object.__class__")))
    (e6 : PySem.W.specialIn K (.builtin "object.__class__") "__get__" = some (some (.builtin "getset_descriptor.__get__"))) (e7 : PySem.W.takesIn K (.builtin "object.__class__") = some true) (e8 : PySem.W.mroIn K CT (.type "object") = some true)
    (i1 : PySem.W.kitOne K (.ref CT) (.ref CT) = some true) (i2 : PySem.W.kitOne K (.ref CT) (.type "ValueError") = some true) (i3 : PySem.W.nsIn K mainGlobals "ValueError" = some none)
    (nBadName : PySem.W.nsIn K mainGlobals "BadName" = some (some (.ref kBadName))) (jBadName : PySem.W.kitOne K (.ref CT) (.ref kBadName) = some false)
    (nKnown : PySem.W.nsIn K mainGlobals "Known" = some (some (.ref kKnown))) (jKnown : PySem.W.kitOne K (.ref CT) (.ref kKnown) = some false)
    (nNoKind : PySem.W.nsIn K mainGlobals "NoKind" = some (some (.ref kNoKind))) (jNoKind : PySem.W.kitOne K (.ref CT) (.ref kNoKind) = some false)
    (nNoName : PySem.W.nsIn K mainGlobals "NoName" = some (some (.ref kNoName))) (jNoName : PySem.W.kitOne K (.ref CT) (.ref kNoName) = some false)
    (nNoField : PySem.W.nsIn K mainGlobals "NoField" = some (some (.ref kNoField))) (jNoField : PySem.W.kitOne K (.ref CT) (.ref kNoField) = some false)
    (nBadField : PySem.W.nsIn K mainGlobals "BadField" = some (some (.ref kBadField))) (jBadField : PySem.W.kitOne K (.ref CT) (.ref kBadField) = some false)
    (nFixed : PySem.W.nsIn K mainGlobals "Fixed" = some (some (.ref kFixed))) (jFixed : PySem.W.kitOne K (.ref CT) (.ref kFixed) = some false)
    (nRing : PySem.W.nsIn K mainGlobals "Ring" = some (some (.ref kRing))) (jRing : PySem.W.kitOne K (.ref CT) (.ref kRing) = some false)
    (nInUse : PySem.W.nsIn K mainGlobals "InUse" = some (some (.ref kInUse))) (jInUse : PySem.W.kitOne K (.ref CT) (.ref kInUse) = some false)
    (nBadBody : PySem.W.nsIn K mainGlobals "BadBody" = some (some (.ref kBadBody))) (jBadBody : PySem.W.kitOne K (.ref CT) (.ref kBadBody) = some false)
    (nNoWay : PySem.W.nsIn K mainGlobals "NoWay" = some (some (.ref kNoWay))) (jNoWay : PySem.W.kitOne K (.ref CT) (.ref kNoWay) = some false)
    (nNoThing : PySem.W.nsIn K mainGlobals "NoThing" = some (some (.ref kNoThing))) (jNoThing : PySem.W.kitOne K (.ref CT) (.ref kNoThing) = some false)
    (nBadValue : PySem.W.nsIn K mainGlobals "BadValue" = some (some (.ref kBadValue))) (jBadValue : PySem.W.kitOne K (.ref CT) (.ref kBadValue) = some false)
    (nSame : PySem.W.nsIn K mainGlobals "Same" = some (some (.ref kSame))) (jSame : PySem.W.kitOne K (.ref CT) (.ref kSame) = some false)
    (nNoRun : PySem.W.nsIn K mainGlobals "NoRun" = some (some (.ref kNoRun))) (jNoRun : PySem.W.kitOne K (.ref CT) (.ref kNoRun) = some false)
    (nNoBack : PySem.W.nsIn K mainGlobals "NoBack" = some (some (.ref kNoBack))) (jNoBack : PySem.W.kitOne K (.ref CT) (.ref kNoBack) = some false)
    (nEnded : PySem.W.nsIn K mainGlobals "Ended" = some (some (.ref kEnded))) (jEnded : PySem.W.kitOne K (.ref CT) (.ref kEnded) = some false)
    (nNoAsk : PySem.W.nsIn K mainGlobals "NoAsk" = some (some (.ref kNoAsk))) (jNoAsk : PySem.W.kitOne K (.ref CT) (.ref kNoAsk) = some false)
    (nNoFrame : PySem.W.nsIn K mainGlobals "NoFrame" = some (some (.ref kNoFrame))) (jNoFrame : PySem.W.kitOne K (.ref CT) (.ref kNoFrame) = some false)
    : LamX.LawAtS l w K CX0 202 63 "_law_script" mg fa h := by
  have e := hfa.symm.trans (PySem.W.mg_of X G aLa)
  cases e
  subst hZ
  have DBt := DefAt.mk' (st := sBtw) aBt lBt cBt kBt
  have bBt := DBt.fn.binds (ps := ["text", "low", "high"]) fun _ _ _ _ _ _ us hl => match us, hl with | [_, _, _], _ => rfl
  have DSh := DefAt.mk' (st := sShort) aSh lSh cSh kSh
  have bSh := DSh.fn.binds (ps := ["thing"]) fun _ _ _ _ _ _ us hl => match us, hl with | [_], _ => rfl
  have DNu := DefAt.mk' (st := sNum) aNu lNu cNu kNu
  have bNu := DNu.fn.binds (ps := ["number"]) fun _ _ _ _ _ _ us hl => match us, hl with | [_], _ => rfl
  have DQu := DefAt.mk' (st := sQuo) aQu lQu cQu kQu
  have bQu := DQu.fn.binds (ps := ["text"]) fun _ _ _ _ _ _ us hl => match us, hl with | [_], _ => rfl
  have DLf := DefAt.mk' (st := sLft) aLf lLf cLf kLf
  have bLf := DLf.fn.binds (ps := ["thing"]) fun _ _ _ _ _ _ us hl => match us, hl with | [_], _ => rfl
  have DTT := DefAt.mk' (st := sTT) aTT lTT cTT kTT
  have bTT := DTT.fn.binds (ps := ["thing"]) fun _ _ _ _ _ _ us hl => match us, hl with | [_], _ => rfl
  have DNO := DefAt.mk' (st := sNO) aNO lNO cNO kNO
  have bNO := DNO.fn.binds (ps := ["figures"]) fun _ _ _ _ _ _ us hl => match us, hl with | [_], _ => rfl
  have DRN := DefAt.mk' (st := sRN) aRN lRN cRN kRN
  have bRN := DRN.fn.binds (ps := ["text", "at"]) fun _ _ _ _ _ _ us hl => match us, hl with | [_, _], _ => rfl
  have DRQ := DefAt.mk' (st := sRQ) aRQ lRQ cRQ kRQ
  have bRQ := DRQ.fn.binds (ps := ["text", "at"]) fun _ _ _ _ _ _ us hl => match us, hl with | [_, _], _ => rfl
  have DRL := DefAt.mk' (st := sRL) aRL lRL cRL kRL
  have bRL := DRL.fn.binds (ps := ["text", "at"]) fun _ _ _ _ _ _ us hl => match us, hl with | [_, _], _ => rfl
  have DCP := DefAt.mk' (st := sCP) aCP lCP cCP kCP
  have bCP := DCP.fn.binds (ps := ["text", "at", "part", "around"]) fun _ _ _ _ _ _ us hl => match us, hl with | [_, _, _, _], _ => rfl
  have DRT := DefAt.mk' (st := sRT) aRT lRT cRT kRT
  have bRT := DRT.fn.binds (ps := ["text"]) fun _ _ _ _ _ _ us hl => match us, hl with | [_], _ => rfl
  have DDr := DefAt.mk' (st := sDraw) aDr lDr cDr kDr
  have bDr := DDr.fn.binds (ps := ["_law_script", "_law_town", "_law_many"]) fun _ _ _ _ _ _ us hl => match us, hl with | [_, _, _], _ => rfl
  have DBe := DefAt.mk' (st := sBegun) aBe lBe cBe kBe
  have bBe := DBe.fn.binds (ps := []) fun _ _ _ _ _ _ us hl => match us, hl with | [], _ => rfl
  have DAT := DefAt.mk' (st := sAT) aAT lAT cAT kAT
  have bAT := DAT.fn.binds (ps := ["_law_script", "_law_town", "_law_deep"]) fun _ _ _ _ _ _ us hl => match us, hl with | [_, _, _], _ => rfl
  have DWr := DefAt.mk' (st := sWr) aWr lWr cWr kWr
  have bWr := DWr.fn.binds (ps := ["_law_value"]) fun _ _ _ _ _ _ us hl => match us, hl with | [_], _ => rfl
  have DCl := DefAt.mk' (st := sCl) aCl lCl cCl kCl
  have bCl := DCl.fn.binds (ps := ["_law_kept"]) fun _ _ _ _ _ _ us hl => match us, hl with | [_], _ => rfl
  have DHe := DefAt.mk' (st := sHe) aHe lHe cHe kHe
  have bHe := DHe.fn.binds (ps := ["_law_deed"]) fun _ _ _ _ _ _ us hl => match us, hl with | [_], _ => rfl
  have R : Rx K w mg CT dM eM nM := ⟨⟨PySem.W.mg_none_of X G z0, PySem.W.mg_none_of X G z1, PySem.W.mg_none_of X G z2, PySem.W.mg_none_of X G z3, PySem.W.mg_none_of X G z4, PySem.W.mg_none_of X G z5, PySem.W.mg_none_of X G z6, PySem.W.mg_none_of X G z7, PySem.W.mg_none_of X G z8, PySem.W.mg_none_of X G z9, PySem.W.mg_none_of X G z10, PySem.W.mg_none_of X G z11, PySem.W.mg_none_of X G z12⟩, ⟨_, PySem.W.mg_of X G x60⟩, ⟨_, PySem.W.mg_of X G xZ⟩, ⟨_, PySem.W.mg_of X G xF⟩, PySem.W.mg_of X G xM, ⟨⟨yM, uM, vM⟩, rM⟩, PySem.W.mg_of X G xT, eT, kT, bT, tT⟩
  have L : Kl K mg CT := ⟨⟨e1, e2, bT, e4, e5, e6, e7, e8⟩, i1, i2, PySem.W.mg_none_of X G i3, ⟨_, PySem.W.mg_of X G nBadName, jBadName⟩, ⟨_, PySem.W.mg_of X G nKnown, jKnown⟩, ⟨_, PySem.W.mg_of X G nNoKind, jNoKind⟩, ⟨_, PySem.W.mg_of X G nNoName, jNoName⟩, ⟨_, PySem.W.mg_of X G nNoField, jNoField⟩, ⟨_, PySem.W.mg_of X G nBadField, jBadField⟩, ⟨_, PySem.W.mg_of X G nFixed, jFixed⟩, ⟨_, PySem.W.mg_of X G nRing, jRing⟩, ⟨_, PySem.W.mg_of X G nInUse, jInUse⟩, ⟨_, PySem.W.mg_of X G nBadBody, jBadBody⟩, ⟨_, PySem.W.mg_of X G nNoWay, jNoWay⟩, ⟨_, PySem.W.mg_of X G nNoThing, jNoThing⟩, ⟨_, PySem.W.mg_of X G nBadValue, jBadValue⟩, ⟨_, PySem.W.mg_of X G nSame, jSame⟩, ⟨_, PySem.W.mg_of X G nNoRun, jNoRun⟩, ⟨_, PySem.W.mg_of X G nNoBack, jNoBack⟩, ⟨_, PySem.W.mg_of X G nEnded, jEnded⟩, ⟨_, PySem.W.mg_of X G nNoAsk, jNoAsk⟩, ⟨_, PySem.W.mg_of X G nNoFrame, jNoFrame⟩⟩
  obtain ⟨C1, C2⟩ := hTab _ _ (tabIn_of aLa lLa rfl lC vP)
  refine ⟨PySem.W.fnOf "law" "law" (defArgs sLaw) (defBody sLaw) (defScope sLaw) .none kvLa dcLa pmLa anLa (.ref cLa) ctLa, [(cLa, P0)], spLaw K P0, fun p hp => ?_, fun p hp => ?_, fun p hp => ?_, fun s v => .of_eq rfl, fun H a ns hl _ hH hS => ⟨a, rfl, ⟨ns, hS, hl⟩, hH _ (List.mem_singleton.mpr rfl), fun _ => rfl⟩, fun base _ _ TB => ?_⟩
  · rw [List.mem_singleton.mp hp]; exact C2
  · rw [List.mem_singleton.mp hp]; exact nP
  · rw [List.mem_singleton.mp hp]; exact C1
  exact all_ok X G R L (PySem.W.mg_of X G x40) (PySem.W.mg_of X G xH) hE lLa ccLa (TB _ (List.mem_singleton.mpr rfl)) DBt bBt DSh bSh DNu bNu DQu bQu DLf bLf DTT bTT DNO bNO DRN bRN DRQ bRQ DRL bRL DCP bCP DRT bRT DDr bDr DBe bBe DAT bAT DWr bWr DCl bCl DHe bHe
theorem walk {l : PySem.W.OpenLaw} {q : Program} {loose : List Str} {XP : (Str → Option Value) → Heap → Prop} {YP : World → Heap → Prop} {d d' : DefRec} {K : Params → PySem.W.Frag} (hn : l.most = some 63) (hdf : d.params.defaults = []) (hrec : (recsOf q).find? (fun e => e.name == ("law" : Str)) = some d')
    (hY : ∀ (w : World) (h : Heap), YP w h → (K w.params).In h)
    (F : ∀ (w : World) (mg : Str → Option Value) (fa : Addr) (h : Heap), (K w.params).In h → h.Ns mainGlobals mg → mg d.name = some (.ref fa) → (∀ c P, PySem.W.tabIn (K w.params) "law" = some (c, P) → PySem.W.CodeHd h c P ∧ h.get? P = some (PySem.W.tabObj #[])) → LamX.LawAtS l w (K w.params) CX0 202 63 "_law_script" mg fa h) :
    PySem.W.WalkO q loose XP YP l.row.toRowW d [] (fun f vs => PySem.call f vs) := by
  refine Att.attach_callB hn hdf fun w s₀ s₁ mg mb fa o pm cd doc a vs ns G Y ho hd hcd hmg hobj hints hlen hbits hg => ?_
  have KX := hY w _ Y
  obtain ⟨fd, cs, sp, hT, nT, C, hb, hsp, hF⟩ := F w mg fa _ KX G.T.g hmg fun c P ht => PySem.W.tab_of G.T KX hrec ht
  exact LamX.law_callTs KX G.T.g G.T.b G.T.builtins G.T.nolimit hg hT nT C G.T.bmain hobj hints (Nat.le_trans hlen (by decide)) ⟨rfl, by decide, by decide⟩ hF hb (fun H hH hS => hsp H a ns hlen hbits hH hS) fun H e s' z => z
end B1

open PySem PySem.W PyProof.Rows
set_option maxRecDepth 100000 in
set_option maxHeartbeats 0 in
theorem PySem.Challenge.cw_livehall_k64_writings_holds : PySem.Challenge.rw_livehall_k64_writings.Holds := by
  w_on; o_law; k_head; (case hw => w_witness2)
  k_fill
  refine B1.walk (l := PySem.Challenge.rw_livehall_k64_writings) rfl rfl rfl (fun w h Y => PySem.W.km_in_of Y) ?F
  case F =>
    intro w mg fa h KX G hmg hTab
    refine' B1.all_mk (w := w) KX G hmg hTab ?aBt ?lBt ?cBt ?kBt ?aSh ?lSh ?cSh ?kSh ?aNu ?lNu ?cNu ?kNu ?aQu ?lQu ?cQu ?kQu ?aLf ?lLf ?cLf ?kLf ?aTT ?lTT ?cTT ?kTT ?aNO ?lNO ?cNO ?kNO ?aRN ?lRN ?cRN ?kRN ?aRQ ?lRQ ?cRQ ?kRQ ?aRL ?lRL ?cRL ?kRL ?aCP ?lCP ?cCP ?kCP ?aRT ?lRT ?cRT ?kRT ?aDr ?lDr ?cDr ?kDr ?aBe ?lBe ?cBe ?kBe ?aAT ?lAT ?cAT ?kAT ?aWr ?lWr ?cWr ?kWr ?aCl ?lCl ?cCl ?kCl ?aHe ?lHe ?cHe ?kHe ?aLa ?lLa ?ccLa ?lC ?vP ?nP ?z0 ?z1 ?z2 ?z3 ?z4 ?z5 ?z6 ?z7 ?z8 ?z9 ?z10 ?z11 ?z12 ?x40 ?x60 ?xZ ?hZ ?xF ?xM ?yM ?uM ?vM ?rM ?xT ?eT ?kT ?bT ?tT ?xH ?hE ?e1 ?e2 ?e4 ?e5 ?e6 ?e7 ?e8 ?i1 ?i2 ?i3 ?nBadName ?jBadName ?nKnown ?jKnown ?nNoKind ?jNoKind ?nNoName ?jNoName ?nNoField ?jNoField ?nBadField ?jBadField ?nFixed ?jFixed ?nRing ?jRing ?nInUse ?jInUse ?nBadBody ?jBadBody ?nNoWay ?jNoWay ?nNoThing ?jNoThing ?nBadValue ?jBadValue ?nSame ?jSame ?nNoRun ?jNoRun ?nNoBack ?jNoBack ?nEnded ?jEnded ?nNoAsk ?jNoAsk ?nNoFrame ?jNoFrame
    (case aBt => k_is)
    (case lBt => k_is)
    (case cBt => k_is)
    (case kBt => k_is)
    (case aSh => k_is)
    (case lSh => k_is)
    (case cSh => k_is)
    (case kSh => k_is)
    (case aNu => k_is)
    (case lNu => k_is)
    (case cNu => k_is)
    (case kNu => k_is)
    (case aQu => k_is)
    (case lQu => k_is)
    (case cQu => k_is)
    (case kQu => k_is)
    (case aLf => k_is)
    (case lLf => k_is)
    (case cLf => k_is)
    (case kLf => k_is)
    (case aTT => k_is)
    (case lTT => k_is)
    (case cTT => k_is)
    (case kTT => k_is)
    (case aNO => k_is)
    (case lNO => k_is)
    (case cNO => k_is)
    (case kNO => k_is)
    (case aRN => k_is)
    (case lRN => k_is)
    (case cRN => k_is)
    (case kRN => k_is)
    (case aRQ => k_is)
    (case lRQ => k_is)
    (case cRQ => k_is)
    (case kRQ => k_is)
    (case aRL => k_is)
    (case lRL => k_is)
    (case cRL => k_is)
    (case kRL => k_is)
    (case aCP => k_is)
    (case lCP => k_is)
    (case cCP => k_is)
    (case kCP => k_is)
    (case aRT => k_is)
    (case lRT => k_is)
    (case cRT => k_is)
    (case kRT => k_is)
    (case aDr => k_is)
    (case lDr => k_is)
    (case cDr => k_is)
    (case kDr => k_is)
    (case aBe => k_is)
    (case lBe => k_is)
    (case cBe => k_is)
    (case kBe => k_is)
    (case aAT => k_is)
    (case lAT => k_is)
    (case cAT => k_is)
    (case kAT => k_is)
    (case aWr => k_is)
    (case lWr => k_is)
    (case cWr => k_is)
    (case kWr => k_is)
    (case aCl => k_is)
    (case lCl => k_is)
    (case cCl => k_is)
    (case kCl => k_is)
    (case aHe => k_is)
    (case lHe => k_is)
    (case cHe => k_is)
    (case kHe => k_is)
    (case aLa => k_is)
    (case lLa => k_is)
    (case ccLa => k_is)
    (case lC => k_is)
    (case vP => rfl)
    (case nP => kernel_rfl)
    (case z0 => k_is)
    (case z1 => k_is)
    (case z2 => k_is)
    (case z3 => k_is)
    (case z4 => k_is)
    (case z5 => k_is)
    (case z6 => k_is)
    (case z7 => k_is)
    (case z8 => k_is)
    (case z9 => k_is)
    (case z10 => k_is)
    (case z11 => k_is)
    (case z12 => k_is)
    (case x40 => k_is)
    (case x60 => k_is)
    (case xZ => k_is)
    (case hZ => decide +kernel)
    (case xF => k_is)
    (case xM => k_is)
    (case yM => k_is)
    (case uM => exact ⟨⟨_, _, rfl, rfl⟩, ⟨⟨_, _, rfl, rfl⟩, ⟨⟨_, _, rfl, rfl⟩, trivial⟩⟩⟩)
    (case vM => rfl)
    (case rM => exact .cons ⟨⟨_, rfl⟩, .inl ⟨_, rfl, rfl⟩⟩ (.cons ⟨⟨_, rfl⟩, .inl ⟨_, rfl, rfl⟩⟩ (.cons ⟨⟨_, rfl⟩, .inr ⟨rfl, rfl⟩⟩ .nil)))
    (case xT => k_is)
    (case eT => kernel_rfl)
    (case kT => k_is)
    (case bT => k_is)
    (case tT => k_is)
    (case xH => k_is)
    (case hE => kernel_rfl)
    (case e1 => k_is)
    (case e2 => k_is)
    (case e4 => k_is)
    (case e5 => k_is)
    (case e6 => k_is)
    (case e7 => k_is)
    (case e8 => k_is)
    (case i1 => kernel_rfl)
    (case i2 => kernel_rfl)
    (case i3 => k_is)
    (case nBadName => k_is)
    (case jBadName => kernel_rfl)
    (case nKnown => k_is)
    (case jKnown => kernel_rfl)
    (case nNoKind => k_is)
    (case jNoKind => kernel_rfl)
    (case nNoName => k_is)
    (case jNoName => kernel_rfl)
    (case nNoField => k_is)
    (case jNoField => kernel_rfl)
    (case nBadField => k_is)
    (case jBadField => kernel_rfl)
    (case nFixed => k_is)
    (case jFixed => kernel_rfl)
    (case nRing => k_is)
    (case jRing => kernel_rfl)
    (case nInUse => k_is)
    (case jInUse => kernel_rfl)
    (case nBadBody => k_is)
    (case jBadBody => kernel_rfl)
    (case nNoWay => k_is)
    (case jNoWay => kernel_rfl)
    (case nNoThing => k_is)
    (case jNoThing => kernel_rfl)
    (case nBadValue => k_is)
    (case jBadValue => kernel_rfl)
    (case nSame => k_is)
    (case jSame => kernel_rfl)
    (case nNoRun => k_is)
    (case jNoRun => kernel_rfl)
    (case nNoBack => k_is)
    (case jNoBack => kernel_rfl)
    (case nEnded => k_is)
    (case jEnded => kernel_rfl)
    (case nNoAsk => k_is)
    (case jNoAsk => kernel_rfl)
    (case nNoFrame => k_is)
    (case jNoFrame => kernel_rfl)
#print axioms PySem.Challenge.cw_livehall_k64_writings_holds

