import PyProof.Rows.All
import Wide.All
import OpenK.AllK
import Wide.FinOn
import HandS.ForMost
import HandS.More
import KE.GoesEnum
import KE.KDictZip
import HandS.Set
import HandS.SetFor
import HandS.Strs
import HandS.TupAny
import HandS.IsInst
import HandS.Walk
import HandS.Flow
import HandS.Ends
import HandS.Words
import PySem.Challenge.RW_livehall_k01_bodies
import PyProof.P3Eq
import PyProof.EqLayable
import HandS.SetBool
set_option Elab.async false
set_option linter.all false
namespace B1
open PySem

/-! ### the sorts of the parts of a body -/
inductive S where
  | body | row | e | es | name | field | word | kind | value
  deriving DecidableEq
def S.txt : S → Str
  | .body => "body" | .row => "row" | .e => "e" | .es => "es" | .name => "name" | .field => "field" | .word => "word" | .kind => "kind" | .value => "value"
def S.all : List S := [.body, .row, .e, .es, .name, .field, .word, .kind, .value]
theorem S.mem (s : S) : s ∈ S.all := by cases s <;> decide
theorem S.inj0 : (S.all.all fun a => S.all.all fun b => decide (a.txt = b.txt → a = b)) = true := by decide +kernel
theorem S.txt_inj {a b : S} (h : a.txt = b.txt) : a = b := by
  have h1 := List.all_eq_true.mp S.inj0 a a.mem
  have h2 := List.all_eq_true.mp h1 b b.mem
  exact of_decide_eq_true h2 h
theorem S.txt_eq (a b : S) : decide (a.txt = b.txt) = decide (a = b) := by
  by_cases h : a = b
  · subst h; simp
  · rw [decide_eq_false h, decide_eq_false fun q => h (S.txt_inj q)]
def S.leaf : S → Bool
  | .body | .row | .e | .es => false
  | _ => true

def rowTab : List (Str × List S) := [("do", [.e]), ("let", [.name, .e]), ("put", [.field, .e]), ("give", [.e]), ("when", [.e, .body, .body]), ("while", [.e, .body]), ("raise", [.e]), ("try", [.body, .name, .body])]
def eTab : List (Str × List S) := [("value", [.value]), ("self", []), ("name", [.name]), ("field", [.field]), ("ask", [.e, .word, .es]), ("elder", [.word, .es]), ("new", [.kind]), ("same", [.e, .e]), ("add", [.e, .e]), ("sub", [.e, .e]), ("mul", [.e, .e]), ("under", [.e, .e])]
def tab (s : S) : List (Str × List S) := match s with
  | .row => rowTab
  | _ => eTab
def shape (s : S) (w : Str) : Option (List S) := (tab s).lookup w
def partsW (s : S) : List PyData → Option (List (S × PyData))
  | .str w :: ds => match shape s w with
    | some sh => if sh.length = ds.length then some (sh.zip ds) else none
    | none => none
  | _ => none
def parts (s : S) : PyData → Option (List (S × PyData))
  | .tuple ds => match s with
    | .body => some (ds.map (Prod.mk S.row))
    | .es => some (ds.map (Prod.mk S.e))
    | s => partsW s ds
  | _ => none

def between (lo hi : Nat) (x : Str) : Bool := x.cps.toList.all fun c => decide (lo ≤ c) && decide (c ≤ hi)
def isName : PyData → Bool
  | .str x => decide (1 ≤ x.length) && decide (x.length ≤ 12) && between 97 122 x
  | _ => false
def isVal : PyData → Bool
  | .none => true
  | .bool _ => true
  | .int _ => true
  | .str x => decide (x.length ≤ 40) && between 32 126 x
  | _ => false
def leafOk (s : S) (d : PyData) : Bool := if s = .value then isVal d else isName d

/-- whether the thing is of the sort, to the depth n -/
def ok : Nat → S → PyData → Bool
  | 0, _, _ => false
  | n + 1, s, d => if s.leaf = true then leafOk s d else match parts s d with
    | none => false
    | some ps => ps.all fun p => ok n p.1 p.2

/-! ### sizes -/
mutual
def sz : PyData → Nat
  | .list xs => szAll xs + 1
  | .tuple xs => szAll xs + 1
  | .dict _ => 1
  | .none => 1
  | .bool _ => 1
  | .int _ => 1
  | .str x => x.length + 1
def szAll : List PyData → Nat
  | [] => 0
  | x :: xs => sz x + szAll xs
end
theorem sz_pos (d : PyData) : 1 ≤ sz d := by cases d <;> simp [sz]
theorem szAll_append (xs ys : List PyData) : szAll (xs ++ ys) = szAll xs + szAll ys := by
  induction xs with
  | nil => simp [szAll]
  | cons x xs ih => simp only [List.cons_append, szAll, ih]; omega
theorem szAll_len (xs : List PyData) : xs.length ≤ szAll xs := by
  induction xs with
  | nil => simp [szAll]
  | cons x xs ih =>
    have := sz_pos x
    simp only [List.length_cons, szAll]; omega
theorem sz_mem {d : PyData} {xs : List PyData} (h : d ∈ xs) : sz d ≤ szAll xs := by
  induction xs with
  | nil => cases h
  | cons x xs ih =>
    rcases List.mem_cons.mp h with rfl | h
    · simp only [szAll]; omega
    · have := ih h
      simp only [szAll]; omega
theorem dep_mem {d : PyData} {xs : List PyData} (h : d ∈ xs) : d.depth ≤ PyData.depthAll xs := by
  induction xs with
  | nil => cases h
  | cons x xs ih =>
    rcases List.mem_cons.mp h with rfl | h
    · simp only [PyData.depthAll]; omega
    · have := ih h
      simp only [PyData.depthAll]; omega
theorem depAll_le {n : Nat} {xs : List PyData} (h : ∀ d ∈ xs, d.depth ≤ n) : PyData.depthAll xs ≤ n := by
  induction xs with
  | nil => simp [PyData.depthAll]
  | cons x xs ih =>
    simp only [PyData.depthAll]
    have h1 := h x List.mem_cons_self
    have h2 := ih fun d hd => h d (List.mem_cons_of_mem _ hd)
    omega
theorem lay_mem {d : PyData} {xs : List PyData} (h : d ∈ xs) (l : PyData.canLayAll0 xs = true) : d.canLay0 = true := by
  induction xs with
  | nil => cases h
  | cons x xs ih =>
    rw [PyData.canLayAll0, Bool.and_eq_true] at l
    rcases List.mem_cons.mp h with rfl | h
    · exact l.1
    · exact ih h l.2
theorem layAll {xs : List PyData} (h : ∀ d ∈ xs, d.canLay0 = true) : PyData.canLayAll0 xs = true := by
  induction xs with
  | nil => simp [PyData.canLayAll0]
  | cons x xs ih =>
    rw [PyData.canLayAll0, Bool.and_eq_true]
    exact ⟨h x List.mem_cons_self, ih fun d hd => h d (List.mem_cons_of_mem _ hd)⟩

/-- data that may be laid, of depth and size within bounds -/
structure Fit (n m : Nat) (d : PyData) : Prop where
  lay : d.canLay0 = true
  dep : d.depth ≤ n
  siz : sz d ≤ m
theorem Fit.mono {n m n' m' : Nat} {d : PyData} (h : Fit n m d) (a : n ≤ n') (b : m ≤ m') : Fit n' m' d := ⟨h.lay, Nat.le_trans h.dep a, Nat.le_trans h.siz b⟩
theorem Fit.shaped {n m : Nat} {d : PyData} (h : Fit n m d) (a : n ≤ 64) : SeqAt.shaped d = true := by
  unfold SeqAt.shaped
  rw [h.lay, decide_eq_true (Nat.le_trans h.dep a)]
  rfl
theorem Fit.item {n m : Nat} {d : PyData} {xs : List PyData} (h : Fit (n + 1) m (.tuple xs)) (hd : d ∈ xs) : Fit n m d := by
  have h1 := h.lay
  have h2 := h.dep
  have h3 := h.siz
  simp only [PyData.canLay0] at h1
  simp only [PyData.depth] at h2
  simp only [sz] at h3
  have := dep_mem hd
  have := sz_mem hd
  exact ⟨lay_mem hd h1, by omega, by omega⟩
theorem Fit.tup {n m : Nat} {xs : List PyData} (h : ∀ d ∈ xs, d.canLay0 = true ∧ d.depth ≤ n) (b : szAll xs + 1 ≤ m) : Fit (n + 1) m (.tuple xs) := by
  refine ⟨?_, ?_, ?_⟩
  · simp only [PyData.canLay0]; exact layAll fun d hd => (h d hd).1
  · simp only [PyData.depth]
    have := depAll_le fun d hd => (h d hd).2
    omega
  · simp only [sz]; exact b
theorem Fit.lst {n m : Nat} {xs : List PyData} (h : ∀ d ∈ xs, d.canLay0 = true ∧ d.depth ≤ n) (b : szAll xs + 1 ≤ m) : Fit (n + 1) m (.list xs) := by
  refine ⟨?_, ?_, ?_⟩
  · simp only [PyData.canLay0]; exact layAll fun d hd => (h d hd).1
  · simp only [PyData.depth]
    have := depAll_le fun d hd => (h d hd).2
    omega
  · simp only [sz]; exact b

/-! ### the parts of a thing are smaller -/
theorem zip_snd {α β : Type} : ∀ (xs : List α) (ys : List β), xs.length = ys.length → (xs.zip ys).map (·.2) = ys
  | [], [], _ => rfl
  | _ :: xs, _ :: ys, h => by
    simp only [List.zip_cons_cons, List.map_cons]
    rw [zip_snd xs ys (Nat.succ.inj h)]
theorem parts_tuple {s : S} {d : PyData} {ps : List (S × PyData)} (h : parts s d = some ps) : ∃ ds, d = .tuple ds ∧ (ps.map (·.2) = ds ∨ ∃ w, ds = .str w :: ps.map (·.2)) := by
  cases d with
  | tuple ds =>
    refine ⟨ds, rfl, ?_⟩
    have key : partsW s ds = some ps → (ps.map (·.2) = ds ∨ ∃ w, ds = .str w :: ps.map (·.2)) := fun h => by
      cases ds with
      | nil => cases h
      | cons x r =>
        cases x with
        | str w =>
          simp only [partsW] at h
          split at h
          · rename_i sh _
            split at h
            · rename_i hl
              cases h
              exact .inr ⟨w, by rw [zip_snd sh r hl]⟩
            · cases h
          · cases h
        | _ => cases h
    cases s with
    | body => simp only [parts] at h; cases h; left; simp [List.map_map, Function.comp_def]
    | es => simp only [parts] at h; cases h; left; simp [List.map_map, Function.comp_def]
    | _ => exact key h
  | _ => cases s <;> cases h
/-- the sizes of a stack's things -/
def szP (ps : List (S × PyData)) : Nat := szAll (ps.map (·.2))
theorem szP_append (a b : List (S × PyData)) : szP (a ++ b) = szP a + szP b := by unfold szP; rw [List.map_append, szAll_append]
theorem parts_small {s : S} {d : PyData} {ps : List (S × PyData)} (h0 : parts s d = some ps) : szP ps < sz d := by
  obtain ⟨ds, rfl, h⟩ := parts_tuple h0
  clear h0
  unfold szP
  rcases h with h | ⟨w, h⟩
  · rw [h]; simp only [sz]; omega
  · rw [h]; simp only [sz, szAll]; omega
theorem parts_fit {s : S} {d : PyData} {ps : List (S × PyData)} {n m : Nat} (h0 : parts s d = some ps) (f : Fit (n + 1) m d) : ∀ p ∈ ps, Fit n m p.2 := by
  obtain ⟨ds, rfl, h⟩ := parts_tuple h0
  clear h0
  intro p hp
  refine f.item ?_
  have : p.2 ∈ ps.map (·.2) := List.mem_map_of_mem hp
  rcases h with h | ⟨w, h⟩
  · rw [← h]; exact this
  · rw [h]; exact List.mem_cons_of_mem _ this
theorem parts_dep {s : S} {d : PyData} {ps : List (S × PyData)} (h0 : parts s d = some ps) : ∀ p ∈ ps, p.2.depth < d.depth := by
  obtain ⟨ds, rfl, h⟩ := parts_tuple h0
  clear h0
  intro p hp
  have : p.2 ∈ ps.map (·.2) := List.mem_map_of_mem hp
  have hm : p.2 ∈ ds := by
    rcases h with h | ⟨w, h⟩
    · rw [← h]; exact this
    · rw [h]; exact List.mem_cons_of_mem _ this
  have := dep_mem hm
  simp only [PyData.depth]; omega
theorem ok_stable : ∀ (n m : Nat) (s : S) (d : PyData), d.depth < n → d.depth < m → ok n s d = ok m s d
  | 0, _, _, _, h, _ => by omega
  | _, 0, _, _, _, h => by omega
  | n + 1, m + 1, s, d, h1, h2 => by
    simp only [ok]
    split
    · rfl
    · cases q : parts s d with
      | none => rfl
      | some ps =>
        simp only
        have z := parts_dep q
        have : ∀ p ∈ ps, ok n p.1 p.2 = ok m p.1 p.2 := fun p hp => by
          have := z p hp
          exact ok_stable n m p.1 p.2 (by omega) (by omega)
        rw [Bool.eq_iff_iff, List.all_eq_true, List.all_eq_true]
        constructor
        · intro a p hp; rw [← this p hp]; exact a p hp
        · intro a p hp; rw [this p hp]; exact a p hp
/-- one turn: the thing's parts in its place -/
theorem ok_step {n : Nat} {s : S} {d : PyData} (h : d.depth < n) (hs : s.leaf = false) : ok n s d = match parts s d with
    | none => false
    | some ps => ps.all fun p => ok n p.1 p.2 := by
  cases n with
  | zero => omega
  | succ n =>
    simp only [ok]
    rw [if_neg (by rw [hs]; decide)]
    cases q : parts s d with
    | none => rfl
    | some ps =>
      simp only
      have z := parts_dep q
      have : ∀ p ∈ ps, ok n p.1 p.2 = ok (n + 1) p.1 p.2 := fun p hp => by
        have := z p hp
        exact ok_stable n (n + 1) p.1 p.2 (by omega) (by omega)
      rw [Bool.eq_iff_iff, List.all_eq_true, List.all_eq_true]
      constructor
      · intro a p hp; have := this p hp; simp only [ok] at this; rw [← this]; exact a p hp
      · intro a p hp; rw [this p hp]; exact a p hp
theorem ok_leaf {n : Nat} {s : S} {d : PyData} (h : 0 < n) (hs : s.leaf = true) : ok n s d = leafOk s d := by
  cases n with
  | zero => omega
  | succ n => simp only [ok]; rw [if_pos hs]
end B1

set_option maxRecDepth 100000
set_option maxHeartbeats 4000000
namespace B1
open PySem PySem.Spec PyProof.Rows L2
section
variable {X : Cx}
/-! ### d.update(e), two tracked dicts -/
def rUpd : V → List V → Hp → VK → Prop := fun x xs H Q => ∃ (a b : Addr) (kvs more : List (Key × V)), x = .ref a ∧ xs = [.ref b] ∧ a ≠ b ∧ H a = some (.dK kvs) ∧ H b = some (.dK more) ∧ kvs.length + more.length ≤ sizeLine ∧ Q .non (upd H a (.dK (mergeK kvs more)))
theorem mt_upd : MtR X "dict.update" rUpd := by
  intro pins s σ H x xs v us Q I rx rxs h
  obtain ⟨a, b, kvs, more, rfl, rfl, nab, ha, hb, hz, q⟩ := h
  cases rx
  rw [Vals.ref1 rxs]
  obtain ⟨_, la, va, ra, da⟩ := dk_of I.hok ha
  obtain ⟨_, lb, vb, rb, db⟩ := dk_of I.hok hb
  have z1 : kvs.length = va.length := Paired.length ra
  have z2 : more.length = vb.length := Paired.length rb
  have m := PySem.meets_dict_update (mixKind X.prog X.w) a b nab lb
  refine call_meetsIn PySem.F.slot_dict_update da.typeIs PySem.F.entry_dict_update (PySem.F.args_dict_update_2 _ _) m ⟨va, vb, da, db, by omega, fun h' d1 _ sb => ?_⟩
  have hl : (mergeK kvs more).length ≤ sizeLine := Nat.le_trans (length_mergeK more kvs) hz
  have he : ∃ q, h'.get? a = some q := let ⟨q, _, _, hq, _⟩ := d1; ⟨q, hq⟩
  exact ⟨.non, _, d_write (t' := s.toks) I (by rw [ha]; trivial) sb he (dk_new hl la (KV.merge rb ra) d1), rfl, q⟩

/-! ### d.get(key) of a dict of the module -/
def tKGet (K : PySem.W.Frag) (w : World) (td ty : TE) : TE := fun σ H Q => td σ H fun x H1 => ∃ (d : Addr) (es : Array DictEntry) (n : Nat), x = .ref d ∧ KDict K w d es n ∧ ty σ H1 fun y H2 =>
  ∃ (z : Str) (r : Option Value), y = .str z ∧ PySem.W.nsIn K d z = some r ∧ (r = none → Q .non H2) ∧ ∀ u, r = some u → ∃ v, RelV v u ∧ Q v H2
variable {o e : Expr} {td ty : TE} {apos cpos : Pos}
theorem pe_kget (ho : PE X o td) (he : PE X e ty) (m : M1 X o "get" apos e cpos) : PE X (.Call (.Attribute o "get" apos) [e] [] cpos) (tKGet X.K X.w td ty) := by
  constructor
  intro pins s σ H Q I h
  have base := ho.run pins s σ H _ I h
  refine wpAny_Call_method m.base m.few m.line PySem.F.plainAttrs_dict PySem.F.slot_dict_get PySem.F.type_dict_get (thn base fun u s1 ⟨x, H1, I1, rx, d, es, n, ex, D, q1⟩ => ?_)
  subst ex
  cases (show u = Value.ref d from rx)
  have mp := PySem.W.mapOf_K (prog := X.prog) (w := X.w) I1.kIn D.at_ D.lit
  refine ⟨mp.typeIs, mp.noDict, ?_⟩
  rw [m.trees]
  have tail := he.run pins s1 σ H1 _ I1 q1
  refine Calls.callWith_builtin rfl (Calls.evalArgs_plain (Calls.spliced_cons (thn tail fun iv s2 ⟨y, H2, I2, ry, z, r, ey, en, qn, qs⟩ => Calls.spliced_nil ?_)))
  subst ey
  obtain ⟨tk, rfl⟩ := ry
  have mp2 := PySem.W.mapOf_K (prog := X.prog) (w := X.w) I2.kIn D.at_ D.lit
  refine call_meetsIn PySem.F.slot_dict_get mp2.typeIs PySem.F.entry_dict_get (PySem.F.args_dict_get_2 _ _) (meets_dict_get (PySem.strKind X.prog X.w) d (PySem.strKind_is X.prog X.w z tk) D.low) ⟨_, mp2, ?_⟩
  rw [PySem.W.find_K D.at_ en]
  cases r with
  | none => exact ⟨.non, H2, I2.tok _, rfl, qn rfl⟩
  | some u =>
    obtain ⟨v, rv, q⟩ := qs u rfl
    exact ⟨v, H2, I2.tok _, rv, q⟩

end
end B1

set_option maxRecDepth 100000
set_option maxHeartbeats 4000000
namespace B1
open PySem PySem.Spec PyProof.Rows L2
/-! ### for a, b in zip(text, tuple): the signs of x with the items of the tuple at b, in new pairs -/
def ItST (K : PySem.W.Frag) (x : Str) (b : Addr) : It :=
  ⟨fun i H => i < x.cps.size ∧ ∃ (ys : List V) (y : V), SqT K H b ys ∧ ys[i]? = some y,
    fun i H v H' => ∃ (T : Addr) (c : Nat) (y : V), v = .ref T ∧ H T = none ∧ H' = upd H T (.tup [.str ⟨#[c]⟩, y]) ∧ x.cps[i]? = some c ∧ ∀ ys, SqT K H b ys → ys[i]? = some y,
    fun i H => ∃ ys : List V, SqT K H b ys ∧ i ≤ x.cps.size ∧ i ≤ ys.length ∧ (i = x.cps.size ∨ i = ys.length)⟩
def TnST (x : Str) (t : Tok) (b z TI TO i1 i2 : Addr) (i : Nat) (h : Heap) : Prop :=
  IsZip h z TI TO .none ∧ IsTupOf2 h TI (.ref i1) (.ref i2) ∧ (∃ u v, IsTupOf2 h TO u v) ∧ h.IsStrIter i1 (strIterType x) x t i ∧ h.IsTupleIter i2 b i
section
variable {P : Program} {w : World} {K : PySem.W.Frag} {elts : List Expr} {kk : Nat} {tpos : Pos} {x : Str} {t : Tok} {b z TI TO i1 i2 : Addr}
theorem TnST.keep {i : Nat} {h h' : Heap} (st : TnST x t b z TI TO i1 i2 i h) (k : ∀ c, (c = z ∨ c = TI ∨ c = TO ∨ c = i1 ∨ c = i2) → ∀ o, h.get? c = some o → h'.get? c = some o) : TnST x t b z TI TO i1 i2 i h' := by
  obtain ⟨hz, hTI, ⟨u, v, hTO⟩, ⟨o1, e1, r1⟩, h2⟩ := st
  exact ⟨k z (.inl rfl) _ hz, k TI (.inr (.inl rfl)) _ hTI, ⟨u, v, k TO (.inr (.inr (.inl rfl))) _ hTO⟩, ⟨o1, k i1 (.inr (.inr (.inr (.inl rfl)))) _ e1, r1⟩, h2.at fun o q => k i2 (.inr (.inr (.inr (.inr rfl)))) o q⟩
theorem five {c : Addr} : c ∈ [z, TI, TO, i1, i2] ↔ (c = z ∨ c = TI ∨ c = TO ∨ c = i1 ∨ c = i2) := by simp
theorem turn_ST (S : ZipSep2 z TI TO i1 i2 [i1] [i2, b]) : Turn P w K (.Tuple elts kk tpos) (ItST K x b) [z, TI, TO, i1, i2] z (TnST x t b z TI TO i1 i2) where
  mem := List.mem_cons_self
  obj := fun i h st c hc => by
    obtain ⟨hz, hTI, ⟨u, v, hTO⟩, ⟨o1, e1, _, d1⟩, ⟨o2, e2, _, d2⟩⟩ := st
    rcases five.mp hc with rfl | rfl | rfl | rfl | rfl
    · exact ⟨_, hz, fun _ q => nomatch q⟩
    · exact ⟨_, hTI, fun _ q => nomatch q⟩
    · exact ⟨_, hTO, fun _ q => nomatch q⟩
    · exact ⟨o1, e1, fun _ q => by rw [d1] at q; cases q⟩
    · exact ⟨o2, e2, fun _ q => by rw [d2] at q; cases q⟩
  keep := fun i h h' st k => st.keep fun c hc o e => k c (five.mpr hc) o e
  item := by
    intro X hP hw hK hc i pins s σ H E I hf st hg
    subst hP hw hK
    obtain ⟨hz, hTI, ⟨u0, v0, hTO⟩, h1, h2⟩ := st
    obtain ⟨hi, ys, y, hq, hy⟩ := hg
    obtain ⟨its, rv, p, _⟩ := I.tuple hq
    obtain ⟨u, hu, ru⟩ := rv.get hy
    have hnb : b ≠ i2 := fun e => S.zf2 (by
      have := S.mem2
      exfalso
      obtain ⟨o2, e2, c2, d2⟩ := h2
      obtain ⟨ob, eb, cb, nb, db⟩ := p
      rw [e, e2] at eb
      cases eb
      rw [d2] at db; cases db)
    have hil : i < its.toArray.size := by
      have := (List.getElem?_eq_some_iff.mp hu).1
      simpa using this
    have D1 := Draws.text (prog := X.prog) (w := X.w) (A := X.A.in1) (by simpa using I.ok.hd hc) i1 x t
    have D2 := Draws.tuple (prog := X.prog) (w := X.w) (A := X.A.in1) (by simpa using I.ok.hd hc) i2 b hnb its.toArray
    have lz : z < s.heap.objs.size := Heap.lt_size hz
    refine wpAny_pyNext_zipD2_item S D1 D2 hz hTI hTO h1 ⟨h2, p⟩ hi hil fun x1 x2 h' tk p1 p2 z' TO' s1 s2 hT hsz hk => ?_
    obtain ⟨c, tc, hcx, rfl⟩ := p1
    have e2 : x2 = u := by
      have : its[i]? = some x2 := by simpa using p2
      exact Option.some.inj (this.symm.trans hu)
    subst e2
    refine ⟨_, rfl, wpAny_letOwnedTupleGo_zip (s := { s with heap := h', toks := tk }) z' fun h'' z'' sb => ?_⟩
    have hT2 : h''.get? s.heap.objs.size = some { cls := .type "tuple", data := .seq #[.str ⟨#[c]⟩ tc, x2] } := (sb.2 _ (Nat.ne_of_gt lz)).trans hT
    have new : ObjOk X.prog X.w (upd H s.heap.objs.size (.tup [.str ⟨#[c]⟩, y])) h'' s.heap.objs.size (.tup [.str ⟨#[c]⟩, y]) := by
      refine ⟨by show 2 ≤ sizeLine; decide, [.str ⟨#[c]⟩ tc, x2], .cons ⟨tc, rfl⟩ (.cons ru .nil), ⟨_, hT2, rfl, _, rfl⟩⟩
    have kp : ∀ c' o, c' ∉ [z, TI, TO, i1, i2] → s.heap.get? c' = some o → h''.get? c' = some o := fun c' o hn e => by
      rw [five] at hn
      simp only [not_or] at hn
      exact (sb.2 c' hn.1).trans (hk c' o hn.1 hn.2.2.1 hn.2.2.2.1 hn.2.2.2.2 e)
    have I1 := I.turnedNew (t' := tk) kp hf (Nat.le_refl _) new
    refine ⟨.ref s.heap.objs.size, _, I1, rfl, ⟨_, c, y, rfl, I.hok.fresh (Nat.le_refl _), rfl, hcx, fun l hl => by rw [I.tuple_inj hl hq]; exact hy⟩, ?_, fun c' hcm => ?_⟩
    · have st' : TnST x t b z TI TO i1 i2 (i + 1) h'' := by
        obtain ⟨o1, e1, r1⟩ := s1
        refine ⟨z'', ?_, ⟨.str ⟨#[c]⟩ tc, x2, ?_⟩, ⟨o1, (sb.2 _ S.zi1.symm).trans e1, r1⟩, s2.1.at fun o q => (sb.2 _ S.zi2.symm).trans q⟩
        · exact (sb.2 _ S.TIz).trans (hk _ _ S.TIz S.TITO S.TIi1 S.TIi2 hTI)
        · exact (sb.2 _ S.TOz).trans TO'
      exact st'
    · have hlt : c' < s.heap.objs.size := by
        rcases five.mp hcm with rfl | rfl | rfl | rfl | rfl
        · exact lz
        · exact Heap.lt_size hTI
        · exact Heap.lt_size hTO
        · obtain ⟨_, e1, _⟩ := h1; exact Heap.lt_size e1
        · obtain ⟨_, e2, _⟩ := h2; exact Heap.lt_size e2
      rw [upd_ne (Nat.ne_of_lt hlt)]
      exact (hf c' hcm).1
  done := by
    intro X hP hw hK hc i pins s σ H E I hf st hg
    subst hP hw hK
    obtain ⟨hz, hTI, ⟨u0, v0, hTO⟩, h1, h2⟩ := st
    obtain ⟨ys, hq, hl1, hl2, hend⟩ := hg
    obtain ⟨its, rv, p, _⟩ := I.tuple hq
    have ll := rv.length
    have hnb : b ≠ i2 := fun e => by
      obtain ⟨o2, e2, c2, d2⟩ := h2
      obtain ⟨ob, eb, cb, nb, db⟩ := p
      rw [e, e2] at eb
      cases eb
      rw [d2] at db; cases db
    have D1 := Draws.text (prog := X.prog) (w := X.w) (A := X.A.in1) (by simpa using I.ok.hd hc) i1 x t
    have D2 := Draws.tuple (prog := X.prog) (w := X.w) (A := X.A.in1) (by simpa using I.ok.hd hc) i2 b hnb its.toArray
    refine wpAny_pyNext_zipD2_end S D1 D2 hz hTI hTO h1 ⟨h2, p⟩ hl1 (by simp; omega) (hend.imp id fun q => by simp; omega) fun h' tk hk => ⟨rfl, ?_⟩
    exact I.turnedL (t' := tk) (ch := [z, TI, TO, i1, i2]) (fun c' o hn e => by
      rw [five] at hn
      simp only [not_or] at hn
      exact hk c' o hn.1 hn.2.2.1 hn.2.2.2.1 hn.2.2.2.2 e) hf
  self := fun A i s Q E st h => wpAny_pyIter_zip st.1 h
end
def iZipST (K : PySem.W.Frag) (ta : TA) : TI := fun σ H R => ta σ H fun vs H1 => ∃ (x : Str) (b : Addr) (ys : List V), vs = [.str x, .ref b] ∧ SqT K H1 b ys ∧ R (ItST K x b) H1
theorem pi_zipST {X : Cx} {e e2 : Expr} {ta : TA} {p pos tpos : Pos} {elts : List Expr} {kk : Nat} (hg : Gl X "zip") (hm : X.mg "zip" = none) (ha : PA X [e, e2] ta)
    (hs : starEach [e, e2] X.env = (false, eval e X.env) :: starEach [e2] X.env := by rfl) (hpl : (backTo pos (starEach [e2] X.env)).any (·.1) = false := by rfl) :
    PI X (.Tuple elts kk tpos) (.Call (.Name "zip" p) [e, e2] [] pos) (iZipST X.K ta) := by
  constructor
  intro pins s σ H R I h
  have run := ha.run pos pins s σ H _ I h
  refine Call_ (ld_blt I hg hm PyProof.Rows.boot_zip (PyProof.Rows.callWith_type1 (thn run fun us s1 ⟨vs, H1, I1, r1, x, b, ys, ex, hq, q⟩ => ?_) hs hpl))
  subst ex
  cases r1 with
  | cons r rr =>
    cases rr with
    | cons r' rr =>
      cases rr
      cases r'
      obtain ⟨t, rfl⟩ := r
      obtain ⟨its, rv, p1, _⟩ := I1.tuple hq
      obtain ⟨ob, hb, _⟩ := id p1
      refine zip_begins2 (begins_text x t) (begins_tuple b its.toArray) trivial p1 fun h' hz hTI hTO o1 o2 hsz hk => wpAny_pyIter_zip hz ?_
      have S : ZipSep2 (s1.heap.objs.size + 4) (s1.heap.objs.size + 2) (s1.heap.objs.size + 3) s1.heap.objs.size (s1.heap.objs.size + 1) [s1.heap.objs.size] [s1.heap.objs.size + 1, b] :=
        zip_sep2 (fp1 := []) (fp2 := [b]) (fun _ z => nomatch z) fun c hc => by rw [List.mem_singleton.mp hc]; exact Heap.lt_size hb
      refine ⟨_, _, _, _, H1, rfl, I1.kept (t' := s1.toks) hk, turn_ST (t := t) S, ⟨hz, hTI, ⟨_, _, hTO⟩, ⟨_, o1, rfl, rfl⟩, ⟨_, o2, rfl, rfl⟩⟩, fun c hc => ?_, q⟩
      have hle : s1.heap.objs.size ≤ c := by
        rcases five.mp hc with z | z | z | z | z <;> rw [z] <;> first | exact Nat.le_add_right _ _ | exact Nat.le_refl _
      exact I1.fpOk hle (I1.hok.fresh hle)
/-- the loop: as many signs as items -/
theorem for_zipST {K : PySem.W.Frag} {x : Str} {b : Addr} {ys : List V} {g : TG} {tb : TS} {D : Ends} {σ : L2.St} {H : Hp} (hl : x.cps.size = ys.length) (Pv : Nat → L2.St → Hp → Prop) (h0 : Pv 0 σ H) (hq : ∀ i σ H, Pv i σ H → SqT K H b ys)
    (hs : ∀ (i c : Nat) (y : V) (T : Addr) (σ : L2.St) (H : Hp), x.cps[i]? = some c → ys[i]? = some y → Pv i σ H → H T = none → g (.ref T) σ (upd H T (.tup [.str ⟨#[c]⟩, y])) fun σ2 H2 => tb { D with nx := Pv (i + 1), ct := Pv (i + 1), bk := D.nx } σ2 H2) (hd : ∀ σ H, Pv ys.length σ H → D.nx σ H) :
    ∃ W : Nat → Nat → L2.St → Hp → Prop, (∃ m, W 0 m σ H) ∧ ∀ i m σ H, W i m σ H →
      ((ItST K x b).stop i H ∧ D.nx σ H) ∨ ((ItST K x b).go i H ∧ ∃ N : L2.St → Hp → Prop, (∀ σ' H', N σ' H' → ∃ m', m' < m ∧ W (i + 1) m' σ' H') ∧ ∀ v H', (ItST K x b).yld i H v H' → g v σ H' fun σ2 H2 => tb { D with nx := N, ct := N, bk := D.nx } σ2 H2) := by
  refine ⟨fun i m σ H => m = ys.length - i ∧ i ≤ ys.length ∧ Pv i σ H, ⟨ys.length, rfl, Nat.zero_le _, h0⟩, ?_⟩
  rintro i m σ H ⟨rfl, hi, p⟩
  have qy := hq i σ H p
  by_cases hlt : i < ys.length
  · refine .inr ⟨⟨by omega, ys, _, qy, List.getElem?_eq_getElem hlt⟩, Pv (i + 1), fun σ' H' p' => ⟨ys.length - (i + 1), by omega, rfl, hlt, p'⟩, fun v H' hv => ?_⟩
    obtain ⟨T, c, y, rfl, hT, rfl, hc, f⟩ := hv
    exact hs i c y T σ H hc (f ys qy) p hT
  · have e : i = ys.length := by omega
    subst e
    exact .inl ⟨⟨ys, qy, by omega, Nat.le_refl _, .inr rfl⟩, hd σ H p⟩
end B1

set_option maxRecDepth 100000
set_option maxHeartbeats 4000000
/-! list(zip(t, u)) of two tuples of one length: 'next' of a zip whose first pair is still out, the loop of list.extend, the call -/
namespace B1
open PySem PySem.Spec PyProof.Rows
section
variable {prog : Program} {w : World} {A : Around} {E : Value → Shared → Prop} {s : Shared} {z TI TO i1 i2 : Addr} {fp1 fp2 : List Addr} {n1 n2 i : Nat} {P1 P2 : Nat → Value → Prop} {St1 St2 : Nat → Heap → Prop}
theorem held_item {T : Addr} {f : Bool} {oT : Obj} {Q : Value → Shared → Prop} (S : ZipSep2 z TI TO i1 i2 fp1 fp2) (D1 : Draws prog w A i1 fp1 n1 P1 St1) (D2 : Draws prog w A i2 fp2 n2 P2 St2)
    (hz : IsZipHeld s.heap z TI TO T f) (hT : s.heap.get? T = some oT) (hTI : IsTupOf2 s.heap TI (.ref i1) (.ref i2)) (st1 : St1 i s.heap) (st2 : St2 i s.heap) (l1 : i < n1) (l2 : i < n2)
    (hQ : ∀ x1 x2 h' tk, P1 i x1 → P2 i x2 → IsZipHeld h' z TI TO T true → St1 (i + 1) h' → St2 (i + 1) h' → IsTupOf2 h' s.heap.objs.size x1 x2 → h'.objs.size = s.heap.objs.size + 1 →
      (∀ c o, c ≠ z → c ≠ i1 → c ≠ i2 → s.heap.get? c = some o → h'.get? c = some o) → Q (.ref s.heap.objs.size) { s with heap := h', toks := tk }) :
    wpAny (model prog w) A (Builtin.«zip.__next__» ⟨[.ref z], []⟩) (fun fin s' => ∃ v, fin = .done (.ret v) ∧ Q v s') E s := by
  obtain ⟨hp, g, dr, tk0, os⟩ := s
  have f2 : wpAny (model prog w) A (field (.ref z) 2) (fun v s' => v = .bool false ∧ s' = ⟨hp, g, dr, tk0, os⟩) E ⟨hp, g, dr, tk0, os⟩ := wpAny_field hz rfl (x := .bool false) rfl ⟨rfl, rfl⟩
  have f3 : wpAny (model prog w) A (field (.ref z) 3) (fun v s' => v = .ref TI ∧ s' = ⟨hp, g, dr, tk0, os⟩) E ⟨hp, g, dr, tk0, os⟩ := wpAny_field hz rfl (x := .ref TI) rfl ⟨rfl, rfl⟩
  show wpAny _ _ (field (.ref z) 2 >>= _) _ _ _
  refine wpAny_bind (wpAny_mono f2 (fun v s' hv => ?_) fun _ _ q => q)
  obtain ⟨rfl, rfl⟩ := hv
  show wpAny _ _ (field (.ref z) 3 >>= _) _ _ _
  refine wpAny_bind (wpAny_mono f3 (fun v s' hv => ?_) fun _ _ q => q)
  obtain ⟨rfl, rfl⟩ := hv
  refine wpAny_bind (wpAny_seqItems hTI rfl ?_)
  show wpAny _ _ (Builtin.SmallTypes.ownedTupleIsFree (.ref z) >>= _) _ _ _
  refine wpAny_bind (wpAny_tupleHeld_zip hz hT fun ha za sa => ?_)
  replace sa : Heap.SameBut z hp ha := sa
  simp only [Bool.false_eq_true, if_false]
  refine wpAny_bind ?_
  rw [← Array.forIn_toList]
  simp only [List.forIn_cons, List.forIn_nil]
  have ta1 : St1 i ha := D1.frame i hp ha st1 fun c hc o e => sa.extBut c o (fun q => S.zf1 (q ▸ hc)) e
  have ta2 : St2 i ha := D2.frame i hp ha st2 fun c hc o e => sa.extBut c o (fun q => S.zf2 (q ▸ hc)) e
  refine wpAny_bind (wpAny_bind (wpAny_holding ?_))
  show wpAny _ _ (Builtin.SmallTypes.nextOf (.ref i1) >>= _) _ _ _
  refine wpAny_bind (D1.item i ⟨ha, g, dr, tk0, os⟩ _ _ l1 ta1 fun x1 hb tb p1 tb1 sb => wpAny_pure ?_)
  replace sb : Heap.SameBut i1 ha hb := sb
  have tb2 : St2 i hb := D2.frame i ha hb ta2 fun c hc o e => sb.extBut c o (fun q => S.sep1_2 (q ▸ hc)) e
  refine wpAny_pure ?_
  refine wpAny_bind (wpAny_bind (wpAny_holding ?_))
  show wpAny _ _ (Builtin.SmallTypes.nextOf (.ref i2) >>= _) _ _ _
  refine wpAny_bind (D2.item i ⟨hb, g, dr, tb, os⟩ _ _ l2 tb2 fun x2 hc tc p2 tc2 sc => wpAny_pure ?_)
  replace sc : Heap.SameBut i2 hb hc := sc
  have tc1 : St1 (i + 1) hc := D1.frame (i + 1) hb hc tb1 fun c hc' o e => sc.extBut c o (fun q => S.sep2_1 (q ▸ hc')) e
  refine wpAny_pure (wpAny_pure ?_)
  show wpAny _ _ (newTuple [x1, x2] >>= _) _ _ _
  refine wpAny_bind (wpAny_newTuple ?_)
  have size : hc.objs.size = hp.objs.size := by rw [sc.1, sb.1, sa.1]
  have zc : IsZipHeld hc z TI TO T true := sc.extBut _ _ S.zi2 (sb.extBut _ _ S.zi1 za)
  have up : ∀ c o, hc.get? c = some o → (hc.push { cls := .type "tuple", data := .seq #[x1, x2] }).get? c = some o := fun c o e => Heap.get?_push_of_some _ e
  refine wpAny_pure ⟨_, rfl, ?_⟩
  show Q (.ref hc.objs.size) _
  have pr : IsTupOf2 (hc.push { cls := .type "tuple", data := .seq #[x1, x2] }) hc.objs.size x1 x2 := Heap.get?_push_size _ rfl
  have more : (hc.push { cls := .type "tuple", data := .seq #[x1, x2] }).objs.size = hc.objs.size + 1 := Heap.size_push ..
  rw [size] at pr more ⊢
  exact hQ x1 x2 _ tc p1 p2 (up _ _ zc) (D1.frame _ _ _ tc1 fun c _ o e => up c o e) (D2.frame _ _ _ tc2 fun c _ o e => up c o e) pr more fun c o c1 c2 c3 e => up c o (sc.extBut _ _ c3 (sb.extBut _ _ c2 (sa.extBut _ _ c1 e)))
theorem held_end {T : Addr} {f : Bool} {oT : Obj} {Q : Fin → Shared → Prop} (S : ZipSep2 z TI TO i1 i2 fp1 fp2) (D1 : Draws prog w A i1 fp1 n1 P1 St1)
    (hz : IsZipHeld s.heap z TI TO T f) (hT : s.heap.get? T = some oT) (hTI : IsTupOf2 s.heap TI (.ref i1) (.ref i2)) (st1 : St1 n1 s.heap)
    (hE : ∀ h' e, (∀ c o, c ≠ z → c ≠ i1 → s.heap.get? c = some o → h'.get? c = some o) → (∃ o, h'.get? e = some o ∧ o.cls = .type "StopIteration") → E (.ref e) { s with heap := h' }) :
    wpAny (model prog w) A (Builtin.«zip.__next__» ⟨[.ref z], []⟩) Q E s := by
  obtain ⟨hp, g, dr, tk0, os⟩ := s
  have f2 : wpAny (model prog w) A (field (.ref z) 2) (fun v s' => v = .bool false ∧ s' = ⟨hp, g, dr, tk0, os⟩) E ⟨hp, g, dr, tk0, os⟩ := wpAny_field hz rfl (x := .bool false) rfl ⟨rfl, rfl⟩
  have f3 : wpAny (model prog w) A (field (.ref z) 3) (fun v s' => v = .ref TI ∧ s' = ⟨hp, g, dr, tk0, os⟩) E ⟨hp, g, dr, tk0, os⟩ := wpAny_field hz rfl (x := .ref TI) rfl ⟨rfl, rfl⟩
  show wpAny _ _ (field (.ref z) 2 >>= _) _ _ _
  refine wpAny_bind (wpAny_mono f2 (fun v s' hv => ?_) fun _ _ q => q)
  obtain ⟨rfl, rfl⟩ := hv
  show wpAny _ _ (field (.ref z) 3 >>= _) _ _ _
  refine wpAny_bind (wpAny_mono f3 (fun v s' hv => ?_) fun _ _ q => q)
  obtain ⟨rfl, rfl⟩ := hv
  refine wpAny_bind (wpAny_seqItems hTI rfl ?_)
  show wpAny _ _ (Builtin.SmallTypes.ownedTupleIsFree (.ref z) >>= _) _ _ _
  refine wpAny_bind (wpAny_tupleHeld_zip hz hT fun ha za sa => ?_)
  replace sa : Heap.SameBut z hp ha := sa
  simp only [Bool.false_eq_true, if_false]
  refine wpAny_bind ?_
  rw [← Array.forIn_toList]
  simp only [List.forIn_cons, List.forIn_nil]
  refine wpAny_bind (wpAny_bind (wpAny_holding ?_))
  show wpAny _ _ (Builtin.SmallTypes.nextOf (.ref i1) >>= _) _ _ _
  refine wpAny_bind (D1.done ⟨ha, g, dr, tk0, os⟩ _ _ (D1.frame n1 hp ha st1 fun c hc o e => sa.extBut c o (fun q => S.zf1 (q ▸ hc)) e) fun h' e xb xe => ?_)
  exact hE h' e (fun c o c1 c2 q => xb c o c2 (sa.extBut _ _ c1 q)) xe
end
/-- the zip at turn i, the list being filled at L -/
structure ZL (z TI TO i1 i2 L : Addr) (St1 St2 : Nat → Heap → Prop) (i : Nat) (h : Heap) : Prop where
  ti : IsTupOf2 h TI (.ref i1) (.ref i2)
  st1 : St1 i h
  st2 : St2 i h
  zz : (IsZip h z TI TO .none ∧ ∃ u v, IsTupOf2 h TO u v) ∨ ∃ T f oT, IsZipHeld h z TI TO T f ∧ h.get? T = some oT ∧ T ≠ z ∧ T ≠ i1 ∧ T ≠ i2 ∧ T ≠ L
section
variable {prog : Program} {w : World} {A : Around} {E : Value → Shared → Prop} {s : Shared} {z TI TO i1 i2 L : Addr} {fp1 fp2 : List Addr} {n i : Nat} {P1 P2 : Nat → Value → Prop} {St1 St2 : Nat → Heap → Prop}
theorem ZL.next {Q : Option Value → Shared → Prop} (S : ZipSep2 z TI TO i1 i2 fp1 fp2) (D1 : Draws prog w A.in1 i1 fp1 n P1 St1) (D2 : Draws prog w A.in1 i2 fp2 n P2 St2) (x : ZL z TI TO i1 i2 L St1 St2 i s.heap) (hL : L < s.heap.objs.size) (hi : i < n)
    (hQ : ∀ x1 x2 h' tk, P1 i x1 → P2 i x2 → ZL z TI TO i1 i2 L St1 St2 (i + 1) h' → IsTupOf2 h' s.heap.objs.size x1 x2 → h'.objs.size = s.heap.objs.size + 1 →
      (∀ c o, c ≠ z → c ≠ TO → c ≠ i1 → c ≠ i2 → s.heap.get? c = some o → h'.get? c = some o) → Q (some (.ref s.heap.objs.size)) { s with heap := h', toks := tk }) :
    wpAny (model prog w) A (pyNext (.ref z)) Q E s := by
  obtain ⟨o1, ho1⟩ := D1.live i _ x.st1
  obtain ⟨o2, ho2⟩ := D2.live i _ x.st2
  rcases x.zz with ⟨hz, u, v, hTO⟩ | ⟨T, f, oT, hz, hT, t1, t2, t3, t4⟩
  · have lz := Heap.lt_size hz
    refine wpAny_pyNext_zipD2_item S D1 D2 hz x.ti hTO x.st1 x.st2 hi hi fun x1 x2 h' tk p1 p2 z' _ s1 s2 hp hs hk => hQ x1 x2 h' tk p1 p2 ⟨hk _ _ S.TIz S.TITO S.TIi1 S.TIi2 x.ti, s1, s2, .inr ⟨_, false, _, z', hp, ?_, ?_, ?_, ?_⟩⟩ hp hs hk
    · exact Nat.ne_of_gt lz
    · exact Nat.ne_of_gt (Heap.lt_size ho1)
    · exact Nat.ne_of_gt (Heap.lt_size ho2)
    · exact Nat.ne_of_gt hL
  · have ty : s.TypeIs (.ref z) "zip" := ⟨_, hz, rfl⟩
    unfold pyNext
    refine wpAny_bind (wpAny_attempt (wpAny_callSpecial?_slot (name := Str.ofString "__next__") ty F.slot_zip_next (wpAny_call_entry F.slot_zip_next ty F.entry_zip_next ?_ (F.args_zip_next_1 _))))
    refine held_item S D1 D2 hz hT x.ti x.st1 x.st2 hi hi fun x1 x2 h' tk p1 p2 z' s1 s2 hp hs hk => wpAny_pure ?_
    exact hQ x1 x2 h' tk p1 p2 ⟨hk _ _ S.TIz S.TIi1 S.TIi2 x.ti, s1, s2, .inr ⟨T, true, oT, z', hk _ _ t1 t2 t3 hT, t1, t2, t3, t4⟩⟩ hp hs fun c o c1 _ c3 c4 e => hk c o c1 c3 c4 e
theorem ZL.stop {Q : Option Value → Shared → Prop} (S : ZipSep2 z TI TO i1 i2 fp1 fp2) (D1 : Draws prog w A.in1 i1 fp1 n P1 St1) (D2 : Draws prog w A.in1 i2 fp2 n P2 St2) (x : ZL z TI TO i1 i2 L St1 St2 n s.heap)
    (hQ : ∀ h' tk, (∀ c o, c ≠ z → c ≠ TO → c ≠ i1 → c ≠ i2 → s.heap.get? c = some o → h'.get? c = some o) → Q none { s with heap := h', toks := tk }) : wpAny (model prog w) A (pyNext (.ref z)) Q E s := by
  rcases x.zz with ⟨hz, u, v, hTO⟩ | ⟨T, f, oT, hz, hT, _⟩
  · exact wpAny_pyNext_zipD2_end S D1 D2 hz x.ti hTO x.st1 x.st2 (Nat.le_refl _) (Nat.le_refl _) (.inl rfl) hQ
  · have ty : s.TypeIs (.ref z) "zip" := ⟨_, hz, rfl⟩
    unfold pyNext
    refine wpAny_bind (wpAny_attempt (wpAny_callSpecial?_slot (name := Str.ofString "__next__") ty F.slot_zip_next (wpAny_call_entry F.slot_zip_next ty F.entry_zip_next (held_end S D1 hz hT x.ti x.st1 fun h' e hk he => ?_) (F.args_zip_next_1 _))))
    obtain ⟨o, ho, hc⟩ := he
    refine wpAny_bind (wpAny_isInstance (T := "StopIteration") (b := true) ⟨o, ho, hc⟩ isSubtype_stop ?_)
    exact wpAny_pure (hQ _ s.toks fun c o c1 _ c3 _ q => hk c o c1 c3 q)
/-- the pairs so far: at rising addresses above lo -/
structure Prs (P1 P2 : Nat → Value → Prop) (lo : Addr) (h : Heap) (as : List Addr) : Prop where
  rise : as.Pairwise (· < ·)
  above : ∀ a ∈ as, lo < a
  pairs : ∀ (j : Nat) (a : Addr), as[j]? = some a → ∃ x y, P1 j x ∧ P2 j y ∧ IsTupOf2 h a x y
theorem Prs.keep {lo : Addr} {h h' : Heap} {as : List Addr} (g : Prs P1 P2 lo h as) (k : ∀ c o, lo < c → h.get? c = some o → h'.get? c = some o) : Prs P1 P2 lo h' as :=
  ⟨g.rise, g.above, fun j a e => let ⟨x, y, p, q, t⟩ := g.pairs j a e; ⟨x, y, p, q, k a _ (g.above a (List.mem_of_getElem? e)) t⟩⟩
theorem Prs.lt {lo : Addr} {h : Heap} {as : List Addr} (g : Prs P1 P2 lo h as) {a : Addr} (ha : a ∈ as) : a < h.objs.size := by
  obtain ⟨j, e⟩ := List.mem_iff_getElem?.mp ha
  obtain ⟨_, _, _, _, t⟩ := g.pairs j a e
  exact Heap.lt_size t
theorem Prs.snoc {lo : Addr} {h : Heap} {as : List Addr} {a : Addr} {x y : Value} (g : Prs P1 P2 lo h as) (hlo : lo < a) (hi : ∀ b ∈ as, b < a) (p : P1 as.length x) (q : P2 as.length y) (t : IsTupOf2 h a x y) : Prs P1 P2 lo h (as ++ [a]) := by
  refine ⟨?_, ?_, ?_⟩
  · refine List.pairwise_append.mpr ⟨g.rise, List.pairwise_singleton _ _, ?_⟩
    intro b hb c hc
    rw [List.mem_singleton.mp hc]; exact hi b hb
  · intro b hb
    rcases List.mem_append.mp hb with h1 | h1
    · exact g.above b h1
    · rw [List.mem_singleton.mp h1]; exact hlo
  · intro j b e
    by_cases hj : j < as.length
    · rw [List.getElem?_append_left hj] at e
      exact g.pairs j b e
    · rw [List.getElem?_append_right (by omega)] at e
      cases hd : j - as.length with
      | zero =>
        rw [hd] at e
        cases e
        have : j = as.length := by omega
        subst this
        exact ⟨x, y, p, q, t⟩
      | succ k => rw [hd] at e; cases e
theorem zl_loop {R : Result → Shared → Prop} {res : Value} {h0 : Heap} {lo : Addr} (S : ZipSep2 z TI TO i1 i2 fp1 fp2) (D1 : Draws prog w A.in1.in1 i1 fp1 n P1 St1) (D2 : Draws prog w A.in1.in1 i2 fp2 n P2 St2)
    (Lz : L ≠ z) (LTO : L ≠ TO) (LTI : L ≠ TI) (L1 : L ∉ fp1) (L2' : L ∉ fp2) (lz : z ≤ lo) (lTO : TO ≤ lo) (lI1 : i1 ≤ lo) (lI2 : i2 ≤ lo) (lL : L ≤ lo) (hn : n ≤ sizeLine)
    (hR : ∀ h' tk acc c as, (∀ b o, b ≠ L → b ≠ z → b ≠ TO → b ≠ i1 → b ≠ i2 → h0.get? b = some o → h'.get? b = some o) → h'.get? L = some { cls := .type "list", dict := none, data := .seq acc c, slots := #[] } → as.length = n → Prs P1 P2 lo h' as →
      acc.toList = as.map Value.ref → R (.ok (.ret res)) { s with heap := h', toks := tk }) :
    ∀ (k i : Nat) (h : Heap) (tk c : Nat) (acc : Array Value) (as : List Addr), n - i = k → i ≤ n → ZL z TI TO i1 i2 L St1 St2 i h → (∀ b o, b ≠ L → b ≠ z → b ≠ TO → b ≠ i1 → b ≠ i2 → h0.get? b = some o → h.get? b = some o) →
      h.get? L = some { cls := .type "list", dict := none, data := .seq acc c, slots := #[] } → acc.toList = as.map Value.ref → as.length = i → Prs P1 P2 lo h as → lo < h.objs.size →
      codeAny (model prog w) A (.builtin "list.extend.loop" ⟨[.ref L, .ref z, res], []⟩) R { s with heap := h, toks := tk } := by
  have Li1 : L ≠ i1 := fun e => L1 (by rw [e]; exact S.mem1)
  have Li2 : L ≠ i2 := fun e => L2' (by rw [e]; exact S.mem2)
  intro k
  induction k with
  | zero =>
    intro i h tk c acc as hk hi zl kp hL ha hl g hlo
    have e : i = n := by omega
    subst e
    refine codeAny_builtin PySem.F.entry_extend_loop ?_
    rw [Around.under_plainId PySem.F.plain_extend_loop _]
    show wpAny _ A.in1 (pyNext (.ref z) >>= _) _ _ _
    refine wpAny_bind (ZL.stop (s := { s with heap := h, toks := tk }) (A := A.in1) S D1 D2 zl fun h' tk' q => ?_)
    refine wpAny_pure (hR h' tk' acc c as (fun b o b1 b2 b3 b4 b5 e => q b o b2 b3 b4 b5 (kp b o b1 b2 b3 b4 b5 e)) (q L _ Lz LTO Li1 Li2 hL) hl (g.keep fun c o hc e => q c o ?_ ?_ ?_ ?_ e) ha)
    · exact fun x => absurd (Nat.lt_of_lt_of_le hc (x ▸ lz)) (Nat.lt_irrefl _)
    · exact fun x => absurd (Nat.lt_of_lt_of_le hc (x ▸ lTO)) (Nat.lt_irrefl _)
    · exact fun x => absurd (Nat.lt_of_lt_of_le hc (x ▸ lI1)) (Nat.lt_irrefl _)
    · exact fun x => absurd (Nat.lt_of_lt_of_le hc (x ▸ lI2)) (Nat.lt_irrefl _)
  | succ k ih =>
    intro i h tk c acc as hk hi zl kp hL ha hl g hlo
    have hlt : i < n := by omega
    have hsz : acc.size = i := by rw [← Array.length_toList, ha, List.length_map, hl]
    refine codeAny_builtin PySem.F.entry_extend_loop ?_
    rw [Around.under_plainId PySem.F.plain_extend_loop _]
    show wpAny _ A.in1 (pyNext (.ref z) >>= _) _ _ _
    refine wpAny_bind (ZL.next (s := { s with heap := h, toks := tk }) (A := A.in1) S D1 D2 zl (Heap.lt_size hL) hlt fun x1 x2 h' tk' p1 p2 zl' ht hs q => ?_)
    replace ht : IsTupOf2 h' h.objs.size x1 x2 := ht
    replace hs : h'.objs.size = h.objs.size + 1 := hs
    replace q : ∀ c o, c ≠ z → c ≠ TO → c ≠ i1 → c ≠ i2 → h.get? c = some o → h'.get? c = some o := q
    have hL' := q L _ Lz LTO Li1 Li2 hL
    have up : ∀ b o, b ≠ L → h'.get? b = some o → (h'.update L (Obj.mapSeq (·.push (Value.ref h.objs.size)))).get? b = some o := fun b o hb e => (Heap.get?_update_other _ _ (Ne.symm hb)).trans e
    have lL2 : L < h.objs.size := Heap.lt_size hL
    show wpAny _ A.in1 (updateSeq L (·.push (Value.ref h.objs.size)) >>= _) _ _ _
    refine wpAny_bind ?_
    have zl2 : ZL z TI TO i1 i2 L St1 St2 (i + 1) (h'.update L (Obj.mapSeq (·.push (Value.ref h.objs.size)))) := by
      refine ⟨up _ _ (fun e => LTI e.symm) zl'.ti, D1.frame _ _ _ zl'.st1 fun b hb o e => up b o (fun x => L1 (x ▸ hb)) e, D2.frame _ _ _ zl'.st2 fun b hb o e => up b o (fun x => L2' (x ▸ hb)) e, ?_⟩
      rcases zl'.zz with ⟨a1, u, v, a2⟩ | ⟨T, f, oT, a1, a2, a3, a4, a5, a6⟩
      · exact .inl ⟨up _ _ (fun e => Lz e.symm) a1, u, v, up _ _ (fun e => LTO e.symm) a2⟩
      · exact .inr ⟨T, f, oT, up _ _ (fun e => Lz e.symm) a1, up _ _ a6 a2, a3, a4, a5, a6⟩
    have big : ∀ c, lo < c → c ≠ z ∧ c ≠ TO ∧ c ≠ i1 ∧ c ≠ i2 ∧ c ≠ L := fun c hc => by
      refine ⟨?_, ?_, ?_, ?_, ?_⟩ <;> (rintro rfl; exact absurd (Nat.lt_of_lt_of_le hc (by assumption)) (Nat.lt_irrefl _))
    have g1 : Prs P1 P2 lo (h'.update L (Obj.mapSeq (·.push (Value.ref h.objs.size)))) as := g.keep fun c o hc e => by
      obtain ⟨c1, c2, c3, c4, c5⟩ := big c hc
      exact up c o c5 (q c o c1 c2 c3 c4 e)
    have g2 := g1.snoc hlo (fun b hb => g.lt hb) (by rw [hl]; exact p1) (by rw [hl]; exact p2) (up _ _ (Nat.ne_of_gt lL2) ht)
    refine wpAny_updateSeq hL' rfl (wpAny_pure ⟨plainId_quiet PySem.F.plain_extend_loop _, ih (i + 1) _ tk' _ (acc.push (Value.ref h.objs.size)) (as ++ [h.objs.size]) (by omega) hlt zl2
      (fun b o b1 b2 b3 b4 b5 e => up b o b1 (q b o b2 b3 b4 b5 (kp b o b1 b2 b3 b4 b5 e))) (Heap.get?_update_self _ hL' rfl) (by rw [Array.toList_push, ha, List.map_append]; rfl) (by rw [List.length_append, hl]; rfl) g2 ?_⟩) (by rw [hsz]; omega) (by show (acc.push (Value.ref h.objs.size)).size ≤ sizeLine + 1; rw [Array.size_push, hsz]; omega)
    have e := up _ _ (Nat.ne_of_gt lL2) ht
    exact Nat.lt_trans hlo (Heap.lt_size e)
end
end B1

set_option maxRecDepth 100000
set_option maxHeartbeats 4000000
namespace B1
open PySem PySem.Spec PyProof.Rows
theorem zip_no_len : typeLookup (.type "zip") "__len__" = pure none := am_miss_of_fast (by decide +kernel)
theorem zip_no_hint : typeLookup (.type "zip") "__length_hint__" = pure none := am_miss_of_fast (by decide +kernel)
section
variable {prog : Program} {w : World} {A : Around} {E : Value → Shared → Prop} {s : Shared} {z TI TO i1 i2 : Addr} {fp1 fp2 : List Addr} {n : Nat} {P1 P2 : Nat → Value → Prop} {St1 St2 : Nat → Heap → Prop}
theorem zip_list {Q : Value → Shared → Prop} (hh : A.handled = none) (S : ZipSep2 z TI TO i1 i2 fp1 fp2) (D1 : ∀ B : Around, B.handled = none → Draws prog w B i1 fp1 n P1 St1) (D2 : ∀ B : Around, B.handled = none → Draws prog w B i2 fp2 n P2 St2)
    (hz : IsZip s.heap z TI TO .none) (hTI : IsTupOf2 s.heap TI (.ref i1) (.ref i2)) {u v : Value} (hTO : IsTupOf2 s.heap TO u v) (st1 : St1 0 s.heap) (st2 : St2 0 s.heap) (b1 : ∀ b ∈ fp1, b < s.heap.objs.size) (b2 : ∀ b ∈ fp2, b < s.heap.objs.size) (hn : n ≤ sizeLine)
    (hQ : ∀ h' tk acc c as, (∀ b o, b ≠ z → b ≠ TO → b ≠ i1 → b ≠ i2 → s.heap.get? b = some o → h'.get? b = some o) → h'.get? s.heap.objs.size = some { cls := .type "list", dict := none, data := .seq acc c, slots := #[] } → as.length = n → Prs P1 P2 s.heap.objs.size h' as →
      acc.toList = as.map Value.ref → Q (.ref s.heap.objs.size) { s with heap := h', toks := tk }) :
    wpAny (model prog w) A (call (.type "list") [.ref z]) Q E s := by
  obtain ⟨hp, g, dr, tk, os⟩ := s
  refine callType_codes (Q₁ := fun obj s₁ => obj = .ref hp.objs.size ∧ s₁ = ⟨hp.push { cls := .type "list", data := .seq #[] }, g, dr, tk, os⟩) PySem.F.called_list (PySem.F.typeCall_list_1 _) PySem.F.entry_list_init (code_list_new _ ⟨rfl, rfl⟩) ?_
  rintro obj s1 ⟨rfl, rfl⟩
  have new : (hp.push { cls := .type "list", data := .seq #[] }).get? hp.objs.size = some { cls := .type "list", data := .seq #[] } := Heap.get?_push_size _ rfl
  have lz : z < hp.objs.size := Heap.lt_size hz
  have lTO : TO < hp.objs.size := Heap.lt_size hTO
  have lTI : TI < hp.objs.size := Heap.lt_size hTI
  have l1 : i1 < hp.objs.size := b1 _ S.mem1
  have l2 : i2 < hp.objs.size := b2 _ S.mem2
  refine ⟨⟨_, new, rfl⟩, PySem.F.args_list_init_2 _ _, ?_⟩
  show wpAny _ A.in1.in1 (do let old ← Builtin.List.listItems (.ref hp.objs.size); Builtin.List.listUpdate (.ref hp.objs.size) (fun _ => #[]); letGo old.toList.reverse; Builtin.List.listExtendWith (.ref hp.objs.size) (.ref z) .none) _ _ _
  refine wpAny_bind ?_
  unfold Builtin.List.listItems
  refine wpAny_bind (wpAny_seqItems new rfl (wpAny_pure ?_))
  show wpAny _ _ (updateSeq hp.objs.size (fun _ => #[]) >>= fun _ => letGo (#[] : Array Value).toList.reverse >>= fun _ => Builtin.List.listExtendWith (.ref hp.objs.size) (.ref z) .none) _ _ _
  refine wpAny_bind (wpAny_updateSeq new rfl ?_)
  have n2 := Heap.get?_update_self (Obj.mapSeq (fun _ => (#[] : Array Value))) new rfl
  have k2 : ∀ b o, hp.get? b = some o → ((hp.push { cls := .type "list", data := .seq #[] }).update hp.objs.size (Obj.mapSeq (fun _ => (#[] : Array Value)))).get? b = some o :=
    fun b o e => (Heap.get?_update_other _ _ (Nat.ne_of_gt (Heap.lt_size e))).trans (Heap.get?_push_of_some _ e)
  generalize ((hp.push { cls := .type "list", data := .seq #[] }).update hp.objs.size (Obj.mapSeq (fun _ => (#[] : Array Value)))) = h2 at n2 k2 ⊢
  refine wpAny_bind (wpAny_letGo ?_)
  have ty : Shared.TypeIs ⟨h2, g, dr, tk, os⟩ (.ref z) "zip" := ⟨_, k2 _ _ hz, rfl⟩
  unfold Builtin.List.listExtendWith
  refine wpAny_bind (wpAny_typeOf (T := "zip") ty ?_)
  have e1 : Builtin.List.listSameRef (.ref hp.objs.size) (.ref z) = false := by simp [Builtin.List.listSameRef, Nat.ne_of_gt lz]
  have e2 : (Value.type "zip" == Value.type "list") = false := by decide
  have e3 : (Value.type "zip" == Value.type "tuple") = false := by decide
  simp only [e1, e2, e3, Bool.or_false, Bool.false_eq_true, if_false]
  refine wpAny_bind (wpAny_pyIter_zip (s := ⟨h2, g, dr, tk, os⟩) (k2 _ _ hz) ?_)
  refine wpAny_bind (wpAny_holding ?_)
  unfold Builtin.List.listLengthHint
  refine wpAny_bind (wpAny_specialOf ty zip_no_len ?_)
  show wpAny _ A.in1.in1 (specialOf (Value.ref z) (Str.ofString "__length_hint__") >>= _) _ _ _
  refine wpAny_bind (wpAny_specialOf ty zip_no_hint (wpAny_pure ?_))
  show wpAny _ A.in1.in1 (rule "list.extend.makes-room" >>= fun _ => Builtin.List.listTouch (.ref hp.objs.size) >>= fun _ => again (.builtin "list.extend.loop" ⟨[.ref hp.objs.size, .ref z, .none], []⟩)) _ _ _
  refine wpAny_bind (wpAny_rule (wpAny_bind ?_))
  show wpAny _ A.in1.in1 (updateSeq hp.objs.size (·.push .none) >>= fun _ => updateSeq hp.objs.size (·.pop)) _ _ _
  refine wpAny_bind (wpAny_updateSeq n2 rfl ?_)
  have n3 := Heap.get?_update_self (Obj.mapSeq (·.push Value.none)) n2 rfl
  refine wpAny_updateSeq (hz := by seq_fits) n3 rfl ?_
  have n4 := Heap.get?_update_self (Obj.mapSeq (·.pop)) n3 rfl
  have k4 : ∀ b o, hp.get? b = some o → ((h2.update hp.objs.size (Obj.mapSeq (·.push Value.none))).update hp.objs.size (Obj.mapSeq (·.pop))).get? b = some o :=
    fun b o e => (Heap.get?_update_other _ _ (Nat.ne_of_gt (Heap.lt_size e))).trans ((Heap.get?_update_other _ _ (Nat.ne_of_gt (Heap.lt_size e))).trans (k2 b o e))
  have hlo : hp.objs.size < ((h2.update hp.objs.size (Obj.mapSeq (·.push Value.none))).update hp.objs.size (Obj.mapSeq (·.pop))).objs.size := Heap.lt_size n4
  generalize ((h2.update hp.objs.size (Obj.mapSeq (·.push Value.none))).update hp.objs.size (Obj.mapSeq (·.pop))) = h4 at n4 k4 hlo ⊢
  have C1 := D1 A.in1.in1.in1 (by simpa using hh)
  have C2 := D2 A.in1.in1.in1 (by simpa using hh)
  refine wpAny_pure ⟨plainId_quiet PySem.F.plain_extend_loop _, ?_⟩
  refine zl_loop (s := ⟨hp, g, dr, tk, os⟩) (A := A.in1) (L := hp.objs.size) (lo := hp.objs.size) (h0 := hp) S C1 C2 (Nat.ne_of_gt lz) (Nat.ne_of_gt lTO) (Nat.ne_of_gt lTI) (fun q => absurd (b1 _ q) (Nat.lt_irrefl _)) (fun q => absurd (b2 _ q) (Nat.lt_irrefl _))
    (Nat.le_of_lt lz) (Nat.le_of_lt lTO) (Nat.le_of_lt l1) (Nat.le_of_lt l2) (Nat.le_refl _) hn (fun h' tk' acc c as q1 q2 q3 q4 q5 => ?_)
    n 0 h4 tk _ _ [] rfl (Nat.zero_le _) ⟨k4 _ _ hTI, (C1.frame 0 hp h4 st1 fun b _ o e => k4 b o e), (C2.frame 0 hp h4 st2 fun b _ o e => k4 b o e), .inl ⟨k4 _ _ hz, u, v, k4 _ _ hTO⟩⟩ (fun b o _ _ _ _ _ e => k4 b o e) n4 rfl rfl ⟨.nil, (fun _ q => nomatch q), (fun j a e => by simp at e)⟩ hlo
  exact ⟨rfl, hQ h' tk' acc c as (fun b o c1 c2 c3 c4 e => q1 b o (Nat.ne_of_lt (Heap.lt_size e)) c1 c2 c3 c4 e) q2 q3 q4 q5⟩
end
end B1

set_option maxRecDepth 100000
set_option maxHeartbeats 4000000
namespace B1
open PySem PySem.Spec PyProof.Rows L2
/-- H with the tuples zs laid at the addresses as -/
def layT : Hp → List Addr → List (List V) → Hp
  | H, a :: as, z :: zs => layT (upd H a (.tup z)) as zs
  | H, _, _ => H
theorem layT_off {b : Addr} : ∀ (as : List Addr) (zs : List (List V)) (H : Hp), b ∉ as → layT H as zs b = H b
  | [], _, _, _ => rfl
  | _ :: _, [], _, _ => rfl
  | a :: as, z :: zs, H, h => by
    have h1 : b ≠ a := fun q => h (q ▸ List.mem_cons_self)
    have h2 : b ∉ as := fun q => h (List.mem_cons_of_mem _ q)
    simp only [layT]
    rw [layT_off as zs _ h2, upd_ne h1]
theorem layT_at : ∀ (as : List Addr) (zs : List (List V)) (H : Hp) (j : Nat) (a : Addr) (z : List V), as.Nodup → as[j]? = some a → zs[j]? = some z → layT H as zs a = some (.tup z)
  | [], _, _, _, _, _, _, h, _ => by simp at h
  | _ :: _, [], _, _, _, _, _, _, h => by simp at h
  | c :: as, y :: zs, H, 0, a, z, nd, h1, h2 => by
    cases h1; cases h2
    simp only [layT]
    rw [layT_off as zs _ (List.nodup_cons.mp nd).1, upd_same]
  | c :: as, y :: zs, H, j + 1, a, z, nd, h1, h2 => by
    simp only [layT]
    exact layT_at as zs _ j a z (List.nodup_cons.mp nd).2 (by simpa using h1) (by simpa using h2)
theorem refs_vals : ∀ as : List Addr, Vals (as.map V.ref) (as.map Value.ref)
  | [] => .nil
  | _ :: as => .cons rfl (refs_vals as)
/-- a new list of new pairs -/
def rPairs (xs ys : List V) (H1 : Hp) (Q : VK) : Prop := ∀ (H' : Hp) (p : Addr) (ts : List Addr), Same H1 H' → H1 p = none → (∀ t ∈ ts, H1 t = none) → p ∉ ts → H' p = some (.lst (ts.map V.ref)) → ts.length = xs.length →
  (∀ (j : Nat) (t : Addr) (x y : V), ts[j]? = some t → xs[j]? = some x → ys[j]? = some y → H' t = some (.tup [x, y])) → Q (.ref p) H'
def tLZip (K : PySem.W.Frag) (ta : TA) : TE := fun σ H Q => ta σ H fun vs H1 => ∃ (a b : Addr) (xs ys : List V), vs = [.ref a, .ref b] ∧ SqT K H1 a xs ∧ SqT K H1 b ys ∧ xs.length = ys.length ∧ rPairs xs ys H1 Q
section
variable {X : Cx} {pins : List (Addr × Obj)} {σ : L2.St} {H : Hp} {s : Shared}
theorem pairs_laid {h' : Heap} {tk : Nat} {xs ys : List V} {us vs : List Value} {acc : Array Value} {c : Nat} {as : List Addr} {L : Addr} (I : Inv X pins σ H s) (rx : Vals xs us) (ry : Vals ys vs) (hl : xs.length = ys.length) (hz : xs.length ≤ sizeLine)
    (hk : ∀ b o, s.heap.get? b = some o → h'.get? b = some o) (hL : s.heap.objs.size ≤ L) (hS : h'.get? L = some { cls := .type "list", dict := none, data := .seq acc c, slots := #[] }) (ha : as.length = xs.length)
    (g : Prs (fun i v => us.toArray[i]? = some v) (fun i v => vs.toArray[i]? = some v) L h' as) (hacc : acc.toList = as.map Value.ref) :
    ∃ H' : Hp, Same H H' ∧ H L = none ∧ (∀ t ∈ as, H t = none) ∧ L ∉ as ∧ H' L = some (.lst (as.map V.ref)) ∧ (∀ (j : Nat) (t : Addr) (x y : V), as[j]? = some t → xs[j]? = some x → ys[j]? = some y → H' t = some (.tup [x, y])) ∧ Inv X pins σ H' { s with heap := h', toks := tk } := by
  have nL : L ∉ as := fun q => Nat.lt_irrefl _ (g.above _ q)
  have nd : as.Nodup := List.Pairwise.imp (fun {a b} (h : a < b) => Nat.ne_of_lt h) g.rise
  have new : ∀ t ∈ as, H t = none := fun t ht => I.hok.fresh (Nat.le_trans hL (Nat.le_of_lt (g.above t ht)))
  have newL : H L = none := I.hok.fresh hL
  let zs := (xs.zip ys).map fun p => [p.1, p.2]
  let H' := layT (upd H L (.lst (as.map V.ref))) as zs
  have off : ∀ b, b ∉ as → b ≠ L → H' b = H b := fun b h1 h2 => by
    show layT (upd H L (.lst (as.map V.ref))) as zs b = H b
    rw [layT_off as zs _ h1, upd_ne h2]
  have low : ∀ b o, s.heap.get? b = some o → b ∉ as ∧ b ≠ L := fun b o e => by
    have hb := Heap.lt_size e
    refine ⟨fun q => ?_, fun q => ?_⟩
    · exact absurd (Nat.lt_of_lt_of_le hb (Nat.le_trans hL (Nat.le_of_lt (g.above b q)))) (Nat.lt_irrefl _)
    · exact absurd (Nat.lt_of_lt_of_le hb (q ▸ hL)) (Nat.lt_irrefl _)
  have kp : Same H H' := fun b u e => by
    rw [off b (fun q => by rw [new b q] at e; cases e) (fun q => by rw [q, newL] at e; cases e)]
    exact e
  have eL : H' L = some (.lst (as.map V.ref)) := by
    show layT (upd H L (.lst (as.map V.ref))) as zs L = _
    rw [layT_off as zs _ nL, upd_same]
  have atZ : ∀ (j : Nat) (t : Addr) (x y : V), as[j]? = some t → xs[j]? = some x → ys[j]? = some y → H' t = some (.tup [x, y]) := fun j t x y e1 e2 e3 => by
    refine layT_at as zs _ j t [x, y] nd e1 ?_
    show ((xs.zip ys).map fun p => [p.1, p.2])[j]? = some [x, y]
    have : (xs.zip ys)[j]? = some (x, y) := List.getElem?_zip_eq_some.mpr ⟨e2, e3⟩
    rw [List.getElem?_map, this]
    rfl
  refine ⟨H', kp, newL, new, nL, eL, atZ, ?_⟩
  refine I.call' (ch := []) rfl ⟨fun b o q _ _ _ => hk b o q, fun b o q _ _ _ => ⟨o.slots, hk b o q⟩, fun b o q n _ => ?_, fun b o q _ => ⟨o, hk b o q⟩, fun b xs q => kp b _ q, fun b o u q => kp b _ q, fun b ps q => ⟨#[], by rw [kp b _ q]; simp⟩⟩ (fun b u q => ?_) I.bare fun b z => by simp at z
  · obtain ⟨z1, z2⟩ := low b o q
    rw [off b z1 z2]
    exact n
  · by_cases hb : b ∈ as
    · obtain ⟨j, ej⟩ := List.mem_iff_getElem?.mp hb
      have hj : j < as.length := (List.getElem?_eq_some_iff.mp ej).1
      have ex : xs[j]? = some xs[j] := List.getElem?_eq_getElem (by omega)
      have ey : ys[j]? = some ys[j] := List.getElem?_eq_getElem (by omega)
      have q' := atZ j b _ _ ej ex ey
      rw [q'] at q
      cases q
      obtain ⟨u1, f1, r1⟩ := rx.get ex
      obtain ⟨v1, f2, r2⟩ := ry.get ey
      obtain ⟨x', y', p1, p2, t⟩ := g.pairs j b ej
      have e1 : x' = u1 := by
        have : us[j]? = some x' := by simpa using p1
        exact Option.some.inj (this.symm.trans f1)
      have e2 : y' = v1 := by
        have : vs[j]? = some y' := by simpa using p2
        exact Option.some.inj (this.symm.trans f2)
      subst e1 e2
      exact ⟨by show 2 ≤ sizeLine; decide, [x', y'], .cons r1 (.cons r2 .nil), ⟨_, t, rfl, _, rfl⟩⟩
    · by_cases hb2 : b = L
      · rw [hb2] at q ⊢
        rw [eL] at q
        cases q
        refine ⟨by rw [List.length_map]; omega, acc.toList, c, by rw [hacc]; exact refs_vals as, ?_⟩
        rw [Array.toArray_toList]
        exact hS
      · rw [off b hb hb2] at q
        exact (I.hok b u q).stay (fun d v _ y => hk d v y) (fun d y => kp d _ y) fun d xs y => kp d _ y
/-- list(zip(t, u)), two tuples of one length -/
theorem pe_listZip {e e2 : Expr} {ta : TA} {p p2 pos pos2 : Pos} (hc : X.calm = true) (hg : Gl X "list") (hm : X.mg "list" = none) (hg2 : Gl X "zip") (hm2 : X.mg "zip" = none) (ha : PA X [e, e2] ta)
    (hs : starEach [.Call (.Name "zip" p2) [e, e2] [] pos2] X.env = (false, eval (.Call (.Name "zip" p2) [e, e2] [] pos2) X.env) :: starEach [] X.env := by rfl)
    (hs2 : starEach [e, e2] X.env = (false, eval e X.env) :: starEach [e2] X.env := by rfl) (hpl : (backTo pos2 (starEach [e2] X.env)).any (·.1) = false := by rfl) :
    PE X (.Call (.Name "list" p) [.Call (.Name "zip" p2) [e, e2] [] pos2] [] pos) (tLZip X.K ta) := by
  constructor
  intro pins s σ H Q I h
  refine wpAny_Call_Name_kw (ld_blt I hg hm (show bootBuiltins "list" = some (.type "list") by decide +kernel) ?_)
  refine PyProof.Rows.callWith_type1 ?_ hs rfl
  rw [hs]
  show wpAny _ _ (spliced ((false, eval (.Call (.Name "zip" p2) [e, e2] [] pos2) X.env) :: backTo pos (starEach [] X.env))) _ _ s
  refine Calls.spliced_cons ?_
  have run := ha.run pos2 pins s σ H _ I h
  refine Call_ (ld_blt I hg2 hm2 PyProof.Rows.boot_zip (PyProof.Rows.callWith_type1 (thn run fun us s1 ⟨vs, H1, I1, r1, a, b, xs, ys, ex, qx, qy, hl, q⟩ => ?_) hs2 hpl))
  subst ex
  cases r1 with
  | cons r rr =>
    cases rr with
    | cons r' rr =>
      cases rr
      cases r
      cases r'
      obtain ⟨its1, rv1, t1, z1⟩ := I1.tuple qx
      obtain ⟨its2, rv2, t2, z2⟩ := I1.tuple qy
      obtain ⟨o1, e1, _⟩ := id t1
      obtain ⟨o2, e2', _⟩ := id t2
      have len1 := rv1.length
      have len2 := rv2.length
      refine zip_begins2 (begins_tuple a its1.toArray) (begins_tuple b its2.toArray) t1 t2 fun h' hz hTI hTO q1 q2 hsz hk => ?_
      refine Calls.spliced_nil ?_
      have la : a < s1.heap.objs.size := Heap.lt_size e1
      have lb : b < s1.heap.objs.size := Heap.lt_size e2'
      have Sp : ZipSep2 (s1.heap.objs.size + 4) (s1.heap.objs.size + 2) (s1.heap.objs.size + 3) s1.heap.objs.size (s1.heap.objs.size + 1) [s1.heap.objs.size, a] [s1.heap.objs.size + 1, b] :=
        zip_sep2 (fp1 := [a]) (fp2 := [b]) (fun c hc => by rw [List.mem_singleton.mp hc]; exact la) fun c hc => by rw [List.mem_singleton.mp hc]; exact lb
      have sz1 : its1.toArray.size = xs.length := by simp; omega
      have sz2 : its2.toArray.size = xs.length := by simp; omega
      have hd := I.ok.hd hc
      refine zip_list (n := xs.length) (s := { s1 with heap := h' }) hd Sp (fun B hB => sz1 ▸ Draws.tuple hB _ a (Nat.ne_of_lt la) its1.toArray) (fun B hB => sz2 ▸ Draws.tuple hB _ b (Nat.ne_of_lt (Nat.lt_succ_of_lt lb)) its2.toArray)
        hz hTI hTO ⟨⟨_, q1, rfl, rfl⟩, let ⟨o, e, r⟩ := t1; ⟨o, hk _ _ e, r⟩⟩ ⟨⟨_, q2, rfl, rfl⟩, let ⟨o, e, r⟩ := t2; ⟨o, hk _ _ e, r⟩⟩ ?_ ?_ z1 fun h'' tk acc c as kp hS hal g hacc => ?_
      · intro c hc
        rw [hsz]
        rcases List.mem_cons.mp hc with w1 | w1
        · rw [w1]; exact Nat.lt_add_of_pos_right (by decide)
        · rw [List.mem_singleton.mp w1]; exact Nat.lt_of_lt_of_le la (Nat.le_add_right _ _)
      · intro c hc
        rw [hsz]
        rcases List.mem_cons.mp hc with w1 | w1
        · rw [w1]; exact Nat.add_lt_add_left (by decide) _
        · rw [List.mem_singleton.mp w1]; exact Nat.lt_of_lt_of_le lb (Nat.le_add_right _ _)
      · have kp2 : ∀ b o, s1.heap.get? b = some o → h''.get? b = some o := fun b o e => by
          have hb := Heap.lt_size e
          refine kp b o ?_ ?_ ?_ ?_ (hk b o e)
          · exact Nat.ne_of_lt (Nat.lt_of_lt_of_le hb (Nat.le_add_right _ _))
          · exact Nat.ne_of_lt (Nat.lt_of_lt_of_le hb (Nat.le_add_right _ _))
          · exact Nat.ne_of_lt hb
          · exact Nat.ne_of_lt (Nat.lt_of_lt_of_le hb (Nat.le_add_right _ _))
        have hL : s1.heap.objs.size ≤ h'.objs.size := by rw [hsz]; exact Nat.le_add_right _ _
        obtain ⟨H', k1, k2, k3, k4, k5, k6, J⟩ := pairs_laid (tk := tk) I1 rv1 rv2 hl z1 kp2 hL hS hal g hacc
        exact ⟨.ref _, H', J, rfl, q H' _ as k1 k2 k3 k4 k5 hal k6⟩
end
end B1

set_option maxRecDepth 100000
set_option maxHeartbeats 4000000
/-! sets of texts that can be walked: set(list of texts), sorted(set) -/
namespace B1
open PySem PySem.Spec PyProof.Rows L2
theorem nodup_sub {α : Type} [DecidableEq α] : ∀ (l U : List α), l.Nodup → (∀ x ∈ l, x ∈ U) → l.length ≤ U.length
  | [], _, _, _ => Nat.zero_le _
  | x :: l, U, nd, h => by
    have hx := h x List.mem_cons_self
    obtain ⟨n1, n2⟩ := List.nodup_cons.mp nd
    have := nodup_sub l (U.erase x) n2 fun y hy => (List.mem_erase_of_ne (fun (e : y = x) => n1 (e ▸ hy))).mpr (h y (List.mem_cons_of_mem _ hy))
    rw [List.length_erase_of_mem hx] at this
    have : 0 < U.length := List.length_pos_of_mem hx
    simp only [List.length_cons]
    omega
/-- the text of an entry -/
def tKey (e : Int × Value) : Str := match e.2 with
  | .str k _ => k
  | _ => Str.empty
def GoodT (w : World) (e : Int × Value) : Prop := ∃ k tk, e.2 = Value.str k tk ∧ e.1 = hashStr w k
structure Ent (w : World) (l : List (Int × Value)) (S : Str → Bool) : Prop where
  good : ∀ e ∈ l, GoodT w e
  nd : (l.map tKey).Nodup
  mem : ∀ k, S k = true ↔ k ∈ l.map tKey
/-- a table that can be walked -/
def Walk1 (w : World) (t : SetTable) (n : Nat) : Prop := t.fits n = true ∧ Ris t.place.toList ∧ (w.params.followText "set-order" = true ∨ t.led = true)
/-- the set of texts at a -/
def SetT (w : World) (h : Heap) (a : Addr) (S : Str → Bool) (n : Nat) : Prop :=
  ∃ o es ep t, h.get? a = some o ∧ o.ExactSet ∧ o.data = .set es ep t ∧ Ent w es.toList S ∧ es.size < scanBound ∧ es.size = n ∧ Walk1 w t es.size
section
variable {P : Program} {w : World} {h h' : Heap} {a : Addr} {S : Str → Bool} {n : Nat}
theorem SetT.at (R : SetT w h a S n) (k : ∀ o, h.get? a = some o → h'.get? a = some o) : SetT w h' a S n := by
  obtain ⟨o, es, ep, t, ho, r⟩ := R
  exact ⟨o, es, ep, t, k o ho, r⟩
theorem SetT.as {S' : Str → Bool} (R : SetT w h a S n) (e : ∀ k, S' k = S k) : SetT w h a S' n := by
  cases (funext e : S' = S); exact R
theorem Ent.elems {l : List (Int × Value)} (E : Ent w l S) : ElemsOf (strKind P w) l := fun e he => by
  obtain ⟨k, tk, h1, h2⟩ := E.good e he
  exact ⟨⟨k, by rw [h1]; exact strKind_is P w k tk, h2⟩, by rw [h1] <;> rfl⟩
theorem good_key {e : Int × Value} (g : GoodT w e) (k : Str) : (strKind P w).is k e.2 = true ↔ tKey e = k := by
  obtain ⟨k0, tk, h1, _⟩ := g
  unfold tKey
  rw [h1]
  constructor
  · intro q
    obtain ⟨t', e'⟩ := Value.isStrOf_shape (x := k) (v := .str k0 tk) q
    injection e'
  · intro q
    subst q
    exact strKind_is P w _ tk
theorem Ent.found {l : List (Int × Value)} (E : Ent w l S) (k : Str) : S k = true ↔ ∃ e ∈ l, (strKind P w).is k e.2 = true := by
  rw [E.mem k, List.mem_map]
  exact ⟨fun ⟨e, he, q⟩ => ⟨e, he, (good_key (E.good e he) k).2 q⟩, fun ⟨e, he, q⟩ => ⟨e, he, (good_key (E.good e he) k).1 q⟩⟩
theorem Ent.perm {l l' : List (Int × Value)} (E : Ent w l S) (p : l'.Perm l) : Ent w l' S :=
  ⟨fun e he => E.good e (p.mem_iff.mp he), (p.map tKey).nodup_iff.mpr E.nd, fun k => (E.mem k).trans (p.map tKey).mem_iff.symm⟩
theorem Ent.add {l l' : List (Int × Value)} {k : Str} {tk : Tok} (E : Ent w l S) (no : S k = false) (p : l'.Perm ((hashStr w k, Value.str k tk) :: l)) : Ent w l' (fun j => S j || decide (j = k)) := by
  have nk : k ∉ l.map tKey := fun q => by rw [(E.mem k).2 q] at no; cases no
  refine Ent.perm ⟨fun e he => ?_, ?_, fun j => ?_⟩ p
  · rcases List.mem_cons.mp he with q | q
    · rw [q]; exact ⟨k, tk, rfl, rfl⟩
    · exact E.good e q
  · exact List.nodup_cons.mpr ⟨nk, E.nd⟩
  · rw [Bool.or_eq_true, decide_eq_true_eq, E.mem j, List.map_cons, List.mem_cons]
    exact Or.comm
theorem SetT.setOf (R : SetT w h a S n) : h.SetOf (strKind P w) a S n := by
  obtain ⟨o, es, ep, t, ho, hx, hd, E, hb, hn, hf, _⟩ := R
  exact ⟨o, es, ep, t, ho, hx, hd, E.elems, fun k => E.found k, hb, hf, hn⟩
theorem SetT.small {U : List Str} (R : SetT w h a S n) (hU : ∀ k, S k = true → k ∈ U) : n ≤ U.length := by
  obtain ⟨o, es, ep, t, ho, hx, hd, E, hb, hn, hf⟩ := R
  have := nodup_sub _ U E.nd fun k hk => hU k ((E.mem k).2 hk)
  rw [List.length_map, Array.length_toList] at this
  omega
end
section
variable {P : Program} {w : World} {A : Around} {E : Value → Shared → Prop} {s : Shared} {a : Addr} {S : Str → Bool} {n : Nat}
theorem put_tail {gw : Bool → Sem Unit} (hg : ∀ (b : Bool) (s1 : Shared) (Q' : Unit → Shared → Prop), Q' () s1 → wpAny (model P w) A (gw b) Q' E s1)
    {o : Obj} {es : Array (Int × Value)} {ep : Nat} {t : SetTable} (ho : s.heap.get? a = some o) (hex : o.ExactSet) (hd : o.data = .set es ep t)
    {es1 : Array (Int × Value)} {t2 : SetTable} {S' : Str → Bool} (E1 : Ent w es1.toList S') (hb1 : es1.size < scanBound) (W : Walk1 w t2 es1.size) {was : Bool} {R : Option Bool → Shared → Prop}
    (hR : ∀ h', Heap.SameBut a s.heap h' → SetT w h' a S' es1.size → R (some true) { s with heap := h' }) :
    wpAny (model P w) A (do
        storeSet a es1 t2
        if (!was && t2.tooFull) = true then do
            gw (relayAll t2 es1 (SetTable.grown es1.size)).2.2
            storeSet a (relayAll t2 es1 (SetTable.grown es1.size)).1 (relayAll t2 es1 (SetTable.grown es1.size)).2.1
            pure (some true)
          else pure (some true)) R E s := by
  refine wpAny_bind (wpAny_storeSet_of ho hd ?_ (fits_of_scanBound hb1))
  have o1 := store_at (es' := es1) (t' := t2) ho hd
  have sb1 := Heap.SameBut.update s.heap a (Obj.putSet es1 t2)
  split
  · have pm := relayAll_perm t2 es1 (SetTable.grown es1.size)
    have q1 := relayAll_fits t2 es1 (SetTable.grown es1.size)
    have q2 := relayAll_ris t2 es1 (SetTable.grown es1.size)
    have q3 := relayAll_led t2 es1 (SetTable.grown es1.size)
    generalize relayAll t2 es1 (SetTable.grown es1.size) = Z at pm q1 q2 q3 ⊢
    obtain ⟨es2, t3, gave⟩ := Z
    dsimp only at pm q1 q2 q3 ⊢
    have sz : es2.size = es1.size := by rw [← Array.length_toList, pm.length_eq, Array.length_toList]
    have hb2 : es2.size < scanBound := by rw [sz]; exact hb1
    refine wpAny_bind (hg _ _ _ (wpAny_bind (wpAny_storeSet_of o1 rfl ?_ (fits_of_scanBound hb2))))
    have o2 := store_at (es' := es2) (t' := t3) o1 rfl
    exact wpAny_pure (hR _ (sb1.trans (Heap.SameBut.update _ a _)) ⟨_, es2, _, t3, o2, hex, rfl, E1.perm pm, hb2, sz, q1, q2, W.2.2.imp id fun z => by rw [q3]; exact z⟩)
  · exact wpAny_pure (hR _ sb1 ⟨_, es1, _, t2, o1, hex, rfl, E1, hb1, rfl, W⟩)
theorem put_hashed {k : Str} {tk : Tok} {Q : Bool → Shared → Prop} (R : SetT w s.heap a S n) (room : n + 1 < scanBound)
    (hQ : ∀ h' m, Heap.SameBut a s.heap h' → SetT w h' a (fun j => S j || decide (j = k)) m → Q (!S k) { s with heap := h' }) :
    wpAny (model P w) A (setAddHashed a (.str k tk) ((strKind P w).hash k)) Q E s := by
  obtain ⟨o, es, ep, t, ho, hex, hd, En, hb, hn, W⟩ := R
  have hkey : (strKind P w).is k (.str k tk) = true := strKind_is P w k tk
  have hsc : (Value.str k tk).scannable = true := rfl
  have hel : ElemsOf (strKind P w) es.toList := En.elems
  have hf := W.1
  unfold setAddHashed setAddHashedIn
  refine wpAny_holding (wpAny_bind (wpAny_setState_of ho hd hf ?_))
  dsimp only
  rw [byScan_of hsc hb hel]
  simp only [↓reduceIte]
  unfold setAddByScan
  refine wpAny_bind (wpAny_bind (wpAny_rule (wpAny_bind (wpAny_setScan_of hkey ho hd hf hel ?_))))
  cases hfi : List.findIdx? (fun e => (strKind P w).is k e.2) es.toList with
  | some j =>
    dsimp only
    obtain ⟨hj, pj, _⟩ := List.findIdx?_eq_some_iff_getElem.mp hfi
    have hS : S k = true := (En.found (P := P) k).2 ⟨es.toList[j], List.getElem_mem hj, pj⟩
    refine wpAny_pure (wpAny_pure ?_)
    have same : ∀ i, (S i || decide (i = k)) = S i := fun i => by
      by_cases e : i = k
      · subst e; simp [hS]
      · simp [e]
    have q := hQ s.heap n (Heap.SameBut.refl a s.heap) (SetT.as ⟨o, es, ep, t, ho, hex, hd, En, hb, hn, W⟩ same)
    rw [hS] at q
    exact q
  | none =>
    dsimp only
    have no : S k = false := by
      cases q : S k with
      | false => rfl
      | true =>
        obtain ⟨e, he, z⟩ := (En.found (P := P) k).1 q
        have c := List.findIdx?_eq_none_iff.mp hfi e he
        rw [z] at c
        cases c
    have gave : ∀ (b : Bool) {s1 : Shared} {Q' : Unit → Shared → Prop}, Q' () s1 → wpAny (model P w) A (match b with | true => rule "set.scan.the-table-gave-way" | false => pure ()) Q' E s1 :=
      fun b s1 Q' q => by cases b <;> first | exact wpAny_pure q | exact wpAny_rule q
    have pm := layNew_perm t es ((strKind P w).hash k) (.str k tk)
    have q1 := layNew_fits t es ((strKind P w).hash k) (.str k tk)
    have q2 := layNew_ris t es ((strKind P w).hash k) (.str k tk) W.2.1
    have q3 := layNew_led t es ((strKind P w).hash k) (.str k tk)
    generalize layNew t es ((strKind P w).hash k) (.str k tk) = Z at pm q1 q2 q3 ⊢
    obtain ⟨es1, t1, was, gv⟩ := Z
    dsimp only at pm q1 q2 q3 ⊢
    rw [Array.toList_push] at pm
    have pc : es1.toList.Perm ((hashStr w k, Value.str k tk) :: es.toList) := pm.trans (List.perm_append_singleton _ _)
    have E1 := En.add (tk := tk) no pc
    have sz : es1.size = n + 1 := by rw [← Array.length_toList, pc.length_eq, List.length_cons, Array.length_toList, hn]
    have hb1 : es1.size < scanBound := by rw [sz]; exact room
    have led : w.params.followText "set-order" = true ∨ t1.led = true := W.2.2.imp id fun z => by rw [q3]; exact z
    have fin : ∀ h', Heap.SameBut a s.heap h' → SetT w h' a (fun j => S j || decide (j = k)) es1.size → Q true { s with heap := h' } := fun h' sb r => by
      have q := hQ h' _ sb r
      rw [no] at q
      exact q
    have tail : ∀ (b : Bool) (s1 : Shared) (Q' : Unit → Shared → Prop), Q' () s1 → wpAny (model P w) A (match b with | true => rule "set.scan.the-table-gave-way" | false => pure ()) Q' E s1 := fun b s1 Q' q => gave b q
    refine wpAny_bind (gave _ ?_)
    split
    · refine wpAny_bind ?_
      rw [hashByValue_scannable 8 hsc]
      refine wpAny_pure ?_
      refine put_tail ?_ ho hex hd E1 hb1 ?_ ?_
      · intro b s1 Q' q; cases b <;> first | exact wpAny_pure q | exact wpAny_rule q
      · refine ⟨?_, ?_, ?_⟩
        · first | (split <;> first | exact q1 | exact SetTable.fits_plain_off q1) | exact q1
        · first | (split <;> exact q2) | exact q2
        · first | (split <;> exact led) | exact led
      · intro h' sb r; dsimp only; exact wpAny_pure (fin h' sb r)
    · refine wpAny_bind (wpAny_pure ?_)
      simp only [↓reduceIte]
      refine put_tail ?_ ho hex hd E1 hb1 ⟨q1, q2, led⟩ ?_
      · intro b s1 Q' q; cases b <;> first | exact wpAny_pure q | exact wpAny_rule q
      · intro h' sb r; dsimp only; exact wpAny_pure (fin h' sb r)
theorem setT_new {h : Heap} (ho : h.get? a = some { cls := .type "set", dict := none, data := .set #[] 0 (.fresh 0 0 (!w.params.followText "set-order")) }) : SetT w h a (fun _ => false) 0 := by
  refine ⟨_, #[], 0, _, ho, ⟨rfl, rfl, rfl⟩, rfl, ⟨fun e he => by simp at he, by simp, fun k => by simp⟩, by decide, rfl, rfl, List.Pairwise.nil, ?_⟩
  show _ ∨ (!w.params.followText "set-order") = true
  cases w.params.followText "set-order"
  · exact .inr rfl
  · exact .inl rfl
end
end B1

set_option maxRecDepth 100000
set_option maxHeartbeats 4000000
namespace B1
open PySem PySem.Spec PyProof.Rows L2
section
variable {P : Program} {w : World} {A : Around} {E : Value → Shared → Prop} {s : Shared}
/-- the loop of set(..) over texts that stand in U -/
theorem fill_texts {I : Addr} {fp wr : List Addr} {G : Array GenState → Array GenState → Prop} {n : Nat} {Pv : Nat → Value → Prop} {St : Nat → Shared → Prop} {R : Result → Shared → Prop}
    (W : WalksS P w A.in1 I fp wr G n Pv St) (S : Addr) (hSf : S ∉ fp) (zs U : List Str) (hn : n = zs.length) (hU : ∀ z ∈ zs, z ∈ U) (hb : U.length + 1 < scanBound) (hval : ∀ i v, Pv i v → ∃ k t, zs[i]? = some k ∧ v = .str k t) :
    ∀ (k i : Nat) (s : Shared), n - i = k → i ≤ n → St i s → (∃ c, SetT w s.heap S (fun j => decide (j ∈ zs.take i)) c) →
      (∀ s' c, Moved (S :: wr) G s s' → SetT w s'.heap S (fun j => decide (j ∈ zs)) c → R (.ok (.ret .none)) s') →
      codeAny (model P w) A (.builtin "set.update.loop" ⟨[.ref S, .ref I], []⟩) R s := by
  have nw : S ∉ wr := fun h => hSf (W.sub _ h)
  have more : ∀ b ∈ wr, b ∈ S :: wr := fun b hb => List.mem_cons_of_mem _ hb
  intro k
  induction k with
  | zero =>
    intro i s hk hi hst ⟨c, hS⟩ hR
    have e : i = n := by omega
    subst e
    refine codeAny_builtin PyProof.Rows.F.entry_set_update_loop ?_
    rw [Around.under_plainId PyProof.Rows.F.plain_set_update_loop _]
    show wpAny _ A.in1 (pyNext (.ref I) >>= _) _ _ s
    refine wpAny_bind (W.done s _ _ hst fun s' hm => ?_)
    show wpAny _ A.in1 (ret Value.none) _ _ s'
    rw [List.take_of_length_le (by omega)] at hS
    exact wpAny_pure (hR s' c (hm.mono more) (hS.at fun o e => hm.heap S o nw e))
  | succ k ih =>
    intro i s hk hi hst ⟨c, hS⟩ hR
    have hlt : i < n := by omega
    refine codeAny_builtin PyProof.Rows.F.entry_set_update_loop ?_
    rw [Around.under_plainId PyProof.Rows.F.plain_set_update_loop _]
    show wpAny _ A.in1 (pyNext (.ref I) >>= _) _ _ s
    refine wpAny_bind (W.item i s _ _ hlt hst fun v s' hP hst' hm => ?_)
    obtain ⟨z, t, hz, rfl⟩ := hval i v hP
    have hS' : SetT w s'.heap S (fun j => decide (j ∈ zs.take i)) c := hS.at fun o e => hm.heap S o nw e
    have hc : c ≤ U.length := hS'.small fun j hj => hU j (List.mem_of_mem_take (of_decide_eq_true hj))
    show wpAny _ A.in1 (holding [Value.str z t] (setAdd S (.str z t)) >>= _) _ _ s'
    refine wpAny_bind (wpAny_holding ?_)
    unfold setAdd
    refine wpAny_holding (wpAny_bind ((strKind P w).pyHash (k := z) (strKind_is _ _ _ _) ?_))
    refine put_hashed (s := { s' with toks := s'.toks + 1 }) hS' (by omega) fun h' m hsb hS2 => ?_
    have hS3 : SetT w h' S (fun j => decide (j ∈ zs.take (i + 1))) m := hS2.as fun j => by
      rw [List.take_add_one, hz]
      simp [List.mem_append]
    have stay : ∀ b, b ≠ S → ∀ o, s'.heap.get? b = some o → h'.get? b = some o := fun b hb o e => (hsb.2 b hb).trans e
    refine wpAny_pure ⟨plainId_quiet PyProof.Rows.F.plain_set_update_loop _, ih (i + 1) _ (by omega) hlt (W.frame _ s' _ _ hst' (Nat.le_succ _) fun b hb o e => stay b (fun q => hSf (q ▸ hb)) o e) ⟨_, hS3⟩ fun s'' c2 hm'' hS'' => ?_⟩
    exact hR s'' c2 (Moved.trans W.gtrans ((hm.mono more).then_heap (Nat.le_succ _) fun b o hb e => stay b (fun q => hb (q ▸ List.mem_cons_self)) o e) hm'') hS''
/-- set(l), a list of texts that stand in U -/
theorem call_set_texts {l : Addr} {items : Array Value} (zs U : List Str) {Q : Value → Shared → Prop} (hh : A.handled = none) (hl : s.heap.IsList l items) (hit : StrsAre items.toList zs) (hU : ∀ z ∈ zs, z ∈ U) (hb : U.length + 1 < scanBound)
    (h : ∀ (h' : Heap) (tk c : Nat), SetT w h' s.heap.objs.size (fun j => decide (j ∈ zs)) c → (∀ b o, s.heap.get? b = some o → h'.get? b = some o) → Q (.ref s.heap.objs.size) { s with heap := h', toks := tk }) :
    wpAny (model P w) A (call (.type "set") [.ref l]) Q E s := by
  have len : items.size = zs.length := by
    have q := StrsAre.len_eq hit
    rw [Array.length_toList] at q
    exact q
  obtain ⟨c, tl, hmro⟩ := F.called_set.mro
  have hmade := F.called_set.made
  have hsub := F.called_set.sub
  refine wpAny_call (codeAny_of_tree ?_)
  show wpAny _ _ (callAny (.type "set") _) _ _ _
  refine wpAny_pure ⟨Code.quiet_builtin _ (by decide +kernel), codeAny_builtin F.entry_type_call ?_⟩
  rw [Around.under_plain (weight_type_call_type "set" [.ref l] []) rfl]
  have h1 := F.called_set.notType
  have h2 := F.called_set.canCreate
  have hct := F.typeCall_set_1 (.ref l)
  repeat (any_goals (first | assumption | wp_step))
  have made := code_set_led1 (P := P) (w := w) (A := A.in1) (s := s) (.ref l) (E := E) (Q₁ := fun obj s1 => obj = .ref s.heap.objs.size ∧ s1 = { s with heap := s.heap.push { cls := .type "set", dict := none, data := .set #[] 0 (.fresh 0 0 (!w.params.followText "set-order")) } }) ⟨rfl, rfl⟩
  refine codeAny_mono made fun r s1 hr => ?_
  cases r with
  | error e => exact hr
  | ok fl =>
    cases fl with
    | ret obj =>
      obtain ⟨rfl, rfl⟩ := hr
      generalize hob : ({ cls := .type "set", dict := none, data := .set #[] 0 (.fresh 0 0 (!w.params.followText "set-order")) } : Obj) = ob
      have cob : ob.cls = .type "set" := by rw [← hob]
      have fob : ob.isFreed = false := by rw [← hob]; rfl
      have hS : (s.heap.push ob).get? s.heap.objs.size = some ob := Heap.get?_push_size _ fob
      have hT : Shared.TypeIs { s with heap := s.heap.push ob } (.ref s.heap.objs.size) "set" := ⟨_, hS, cob⟩
      have hli := F.called_set.init.lookup
      have hbi := F.called_set.init.bind (.ref s.heap.objs.size)
      repeat (any_goals (first | assumption | wp_step))
      refine codeAny_mono (codeAny_call_builtin (R := wants (fun r s2 => r = .none ∧ ∃ h' tk c, s2 = { s with heap := h', toks := tk } ∧ SetT w h' s.heap.objs.size (fun j => decide (j ∈ zs)) c ∧
          (∀ b o, s.heap.get? b = some o → h'.get? b = some o)) E) F.called_set.init.plain F.entry_set_init (check_set_init_1 hT ?_)) fun r2 s2 hr2 => ?_
      · obtain ⟨ol, hol, hcl, nl, hdl⟩ := hl
        obtain ⟨ocls, odict, odata, oslots⟩ := ol
        simp only at hcl hdl
        subst hcl; subst hdl
        have hol' : (s.heap.push ob).get? l = some { cls := .type "list", dict := odict, data := .seq items nl, slots := oslots } := Heap.get?_push_of_some _ hol
        have hsls := F.sub_list_set
        have hslf := F.sub_list_frozenset
        have hne : (Value.type "list" == Value.type "dict") = false := by decide
        have hl1 : (s.heap.push ob).IsList l items := ⟨_, hol', rfl, nl, rfl⟩
        have lt : l < s.heap.objs.size := Heap.lt_size hol
        have hh3 : A.in1.in1.in1.handled = none := by simp [hh]
        have hneI : l ≠ (s.heap.push ob).objs.size := by rw [Heap.size_push]; exact Nat.ne_of_lt (Nat.lt_succ_of_lt lt)
        have hSf : s.heap.objs.size ∉ [(s.heap.push ob).objs.size, l] := by
          rw [Heap.size_push]
          intro q
          rcases List.mem_cons.mp q with q | q
          · exact absurd q (Nat.ne_of_lt (Nat.lt_succ_self _))
          · exact absurd (List.mem_singleton.mp q) (Nat.ne_of_gt lt)
        subst hob
        unfold Builtin.«set.__init__» noKeywords Builtin.Frozenset.updateFrom
        generalize hPI : pyIter = PI
        wp_walk
        subst hPI
        refine wpAny_pyIter_list hl1 ?_
        refine wpAny_bind (wpAny_runValue ?_)
        have hval : ∀ (i : Nat) (v : Value), items[i]? = some v → ∃ k t, zs[i]? = some k ∧ v = .str k t := fun i v hv => by
          have hi : i < zs.length := by rw [← len]; exact (Array.getElem?_eq_some_iff.mp hv).1
          obtain ⟨t, e⟩ := SS.strs_at hit i v (by rw [Array.getElem?_toList]; exact hv)
          refine ⟨zs[i], t, List.getElem?_eq_getElem hi, ?_⟩
          rw [e, List.getD_eq_getElem?_getD, List.getElem?_eq_getElem hi] <;> rfl
        refine fill_texts ((Walks.list hh3 _ l hneI items).toS) s.heap.objs.size hSf zs U len hU hb hval (items.size - 0) 0 _ (by omega) (Nat.zero_le _) ⟨⟨_, Heap.get?_push_size _ rfl, rfl, rfl⟩, (hl1.push _)⟩ ?hS0 ?hR
        case hS0 =>
          refine ⟨0, SetT.as (setT_new ?_) fun j => by simp⟩
          exact Heap.get?_push_of_some _ hS
        case hR =>
          intro s' c' hm hS'
          obtain ⟨h', g2, d', tk', os'⟩ := s'
          have eg : g2 = s.gens := hm.gens
          have ed : d' = s.drawn := hm.drawn
          have eo : os' = s.os := hm.os
          subst eg; subst ed; subst eo
          show wpAny _ _ _ _ _ _
          refine wpAny_pure ?_
          show wpAny _ _ (ret Value.none) _ _ _
          refine wpAny_pure ⟨rfl, h', tk', c', rfl, hS', fun b o e => ?_⟩
          have hb0 : b < s.heap.objs.size := Heap.lt_size e
          refine hm.heap b o (fun q => ?_) (Heap.get?_push_of_some _ (Heap.get?_push_of_some _ e))
          rcases List.mem_cons.mp q with q | q
          · exact absurd q (Nat.ne_of_lt hb0)
          · have q := List.mem_singleton.mp q
            rw [Heap.size_push] at q
            exact absurd q (Nat.ne_of_lt (Nat.lt_succ_of_lt hb0))
      · cases r2 with
        | error e => exact hr2
        | ok fl2 =>
          cases fl2 with
          | ret r =>
            obtain ⟨rfl, h', tk, c', rfl, hS', hk'⟩ := hr2
            repeat (any_goals (first | assumption | wp_step))
            exact h _ _ _ hS' hk'
          | _ => exact hr2.elim
    | _ => exact hr.elim
end
end B1

set_option maxRecDepth 100000
set_option maxHeartbeats 4000000
namespace B1
open PySem PySem.Spec PyProof.Rows L2
/-- rising, each once, and just the members -/
structure Rises (S : Str → Bool) (ys : List Str) : Prop where
  nd : ys.Nodup
  srt : sortedS ys = true
  mem : ∀ k, k ∈ ys ↔ S k = true
theorem le_trans' {a b c : List Nat} (h1 : ¬ b < a) (h2 : ¬ c < b) : ¬ c < a := by
  have h1' : a ≤ b := h1
  have h2' : b ≤ c := h2
  exact List.le_trans h1' h2'
theorem pw_of_rising : ∀ (p : Str) (l : List Str), risingS p l = true → (p :: l).Pairwise (fun a b => ¬ b.cps.toList < a.cps.toList)
  | p, [], _ => List.pairwise_singleton _ _
  | p, x :: r, h => by
    have h' : (!ltCps x.cps.toList p.cps.toList && risingS x r) = true := h
    rw [Bool.and_eq_true] at h'
    have ih := pw_of_rising x r h'.2
    have hx : ¬ x.cps.toList < p.cps.toList := by
      have := h'.1
      rw [ltCps_eq] at this
      simpa using this
    refine List.pairwise_cons.mpr ⟨fun y hy => ?_, ih⟩
    rcases List.mem_cons.mp hy with e | hy
    · rw [e]; exact hx
    · exact le_trans' hx (List.rel_of_pairwise_cons ih hy)
theorem pw_of_sorted : ∀ (l : List Str), sortedS l = true → l.Pairwise (fun a b => ¬ b.cps.toList < a.cps.toList)
  | [], _ => List.Pairwise.nil
  | x :: r, h => pw_of_rising x r h
theorem Rises.one {S T : Str → Bool} {ys zs : List Str} (a : Rises S ys) (b : Rises T zs) (e : ∀ k, S k = true ↔ T k = true) : ys = zs := by
  have p : ys.Perm zs := (List.perm_ext_iff_of_nodup a.nd b.nd).mpr fun k => by rw [a.mem k, b.mem k, e k]
  refine List.Perm.eq_of_pairwise (le := fun a b : Str => ¬ b.cps.toList < a.cps.toList) (fun x y _ _ h1 h2 => ?_) (pw_of_sorted _ a.srt) (pw_of_sorted _ b.srt) p
  have q : x.cps.toList = y.cps.toList := List.le_antisymm (show x.cps.toList ≤ y.cps.toList from h1) h2
  obtain ⟨⟨l1⟩⟩ := x
  obtain ⟨⟨l2⟩⟩ := y
  simp only at q
  subst q
  rfl
section
variable {P : Program} {w : World} {A : Around} {E : Value → Shared → Prop} {s : Shared} {a : Addr}
theorem strs_are : ∀ (l : List Value), (∀ v ∈ l, ∃ k tk, v = Value.str k tk) → StrsAre l (l.map strOf)
  | [], _ => .nil
  | v :: l, h => by
    obtain ⟨k, tk, rfl⟩ := h v List.mem_cons_self
    exact .cons k tk (strs_are l fun u hu => h u (List.mem_cons_of_mem _ hu))
theorem sorted_setT {S : Str → Bool} {n : Nat} {Q : Value → Shared → Prop} (R : SetT w s.heap a S n) (hh : A.handled = none) (h64 : n < 64)
    (hQ : ∀ s' p (out : Array Value) (c : Nat) (ys : List Str), (∀ b o, s.heap.get? b = some o → s'.heap.get? b = some o) → s'.gens = s.gens → s'.os = s.os → s.heap.objs.size ≤ p →
      s'.heap.get? p = some (seqObj "list" out c) → StrsAre out.toList ys → Rises S ys → ys.length = n → Q (.ref p) s') :
    wpAny (model P w) A (call (.builtin "sorted") [.ref a]) Q E s := by
  obtain ⟨o, es, ep, t, ho, hex, hd, En, hb, hn, hf, hr, hl⟩ := R
  refine Calls.call_function_entry kind_sorted plain_sorted entry_sorted (args_sorted1 _) ?_
  unfold Builtin.«sorted»
  refine wpAny_bind (m := checkCount "sorted" 1 1 _) (wpAny_pure ?_)
  refine wpAny_bind (collect_set (A := A.in1) hh ⟨o, ho, hex.1, hd⟩ hf hb hr hl fun s1 vs k1 hz g1 o1 pm => ?_)
  have hvl : vs.length = n := by rw [pm.length_eq, List.length_map, Array.length_toList]; exact hn
  have hI : StrsAre vs (vs.map strOf) := strs_are vs fun v hv => by
    obtain ⟨e, he, q⟩ := List.mem_map.mp (pm.mem_iff.mp hv)
    obtain ⟨k, tk, h1, _⟩ := En.good e he
    exact ⟨k, tk, by rw [← q]; exact h1⟩
  have pk : (vs.map strOf).Perm (es.toList.map tKey) := by
    have q := pm.map strOf
    rw [List.map_map] at q
    refine q.trans (List.Perm.of_eq (List.map_congr_left fun e he => ?_))
    obtain ⟨k, tk, h1, _⟩ := En.good e he
    show strOf e.2 = tKey e
    unfold tKey
    rw [h1]
    rfl
  refine wpAny_bind (wpAny_newList ?_ (by rw [hvl, sizeLine_eq]; omega))
  have at1 : (s1.heap.push (seqObj "list" vs.toArray 0)).get? s1.heap.objs.size = some (seqObj "list" vs.toArray 0) := Heap.get?_push_size _ rfl
  refine wpAny_bind (wpAny_holding (wpAny_call_entry slot_list_sort ⟨_, at1, rfl⟩ entry_list_sort (list_sort_treeK strKind_oneLt at1 hI.keysOf (fun v1 v2 rest e => keyKind_strs (by rw [← e]; exact hI)) (by rw [hvl]; exact h64) fun st' hp hs => ⟨_, rfl, ?_⟩) (args_list_sort _)))
  obtain ⟨ys, b1, b2, b3⟩ := sorted_out_str hI hp hs
  obtain ⟨c, hc⟩ := sortedHeap_at (vs := vs) (out := (arrOf st').map (·.2)) at1
  have pn : ys.Perm (es.toList.map tKey) := b2.trans pk
  refine wpAny_pure ⟨_, rfl, hQ _ s1.heap.objs.size _ c ys (fun b u e => ?_) g1 o1 hz hc b1 ⟨pn.nodup_iff.mpr En.nd, b3, fun k => by rw [pn.mem_iff, ← En.mem k]⟩ ?_⟩
  · have q := k1 b u e
    have hlt := Heap.lt_size q
    show (sortedHeap (s1.heap.push (seqObj "list" vs.toArray 0)) s1.heap.objs.size vs ((arrOf st').map (·.2))).get? b = some u
    rw [sortedHeap_old (Nat.ne_of_lt hlt) (by rw [size_push']; exact Nat.lt_succ_of_lt hlt)]
    exact Heap.get?_push_of_some _ q
  · rw [pn.length_eq, List.length_map, Array.length_toList]; exact hn
end
/-! ### over the layer -/
def SetTO (w : World) (a : Addr) (S : Str → Bool) (n : Nat) : HO := .ext fun h => SetT w h a S n
section
variable {X : Cx}
theorem setTO_new {w : World} {P : Program} {H : Hp} {h : Heap} {a : Addr} {S : Str → Bool} {n : Nat} (R : SetT w h a S n) : ObjOk P w H h a (SetTO w a S n) := by
  have ⟨o, _, _, _, ho, _⟩ := R
  exact ⟨R, ⟨o, ho⟩, fun h1 h2 p k => p.at k⟩
/-- set(xs), a list of texts that stand in U -/
def rSetT (K : PySem.W.Frag) (w : World) : List V → Hp → VK → Prop := fun vs H Q => ∃ (a : Addr) (zs U : List Str), vs = [.ref a] ∧ SqL K H a (zs.map V.str) ∧ (∀ z ∈ zs, z ∈ U) ∧ U.length < 60 ∧
  ∀ (p : Addr) (n : Nat), H p = none → n ≤ U.length → Q (.ref p) (upd H p (SetTO w p (fun j => decide (j ∈ zs)) n))
theorem cr_setT (hc : X.calm = true) : CallR X (.type "set") (rSetT X.K X.w) := by
  intro pins s σ H vs us Q I r h
  obtain ⟨a, zs, U, rfl, hq, hU, h60, q⟩ := h
  obtain ⟨its, rv, hl, _⟩ := I.list hq
  rw [Vals.ref1 r]
  refine call_set_texts zs U (I.ok.hd hc) hl.isList (by simpa using rv.strs) hU (by unfold scanBound; omega) fun h' tk c R k => ?_
  have hc : c ≤ U.length := R.small fun j hj => hU j (of_decide_eq_true hj)
  exact ⟨.ref _, _, I.laid (t' := tk) k (Nat.le_refl _) (setTO_new R), rfl, q _ c (I.hok.fresh (Nat.le_refl _)) hc⟩
/-- sorted(s), a set of fewer than 64 texts -/
def rSortT (w : World) : List V → Hp → VK → Prop := fun vs H Q => ∃ (a : Addr) (S : Str → Bool) (n : Nat), vs = [.ref a] ∧ H a = some (SetTO w a S n) ∧ n < 64 ∧
  ∀ (ys : List Str) (p : Addr), Rises S ys → ys.length = n → H p = none → Q (.ref p) (upd H p (.lst (ys.map V.str)))
theorem cr_sortT' (hc : X.calm = true) : CallR X (.builtin "sorted") (rSortT X.w) := by
  intro pins s σ H vs us Q I r h
  obtain ⟨a, S, n, rfl, ha, h64, q⟩ := h
  have R : SetT X.w s.heap a S n := (I.hok a _ ha).1
  rw [Vals.ref1 r]
  refine sorted_setT R (I.ok.hd hc) h64 fun s' p out c ys k g o hp hg hi hs hl => ?_
  have len : (ys.map V.str).length ≤ sizeLine := by rw [List.length_map, hl, sizeLine_eq]; omega
  have hn : H p = none := I.hok.fresh hp
  have J : Inv X pins σ (upd H p (.lst (ys.map V.str))) { s with heap := s'.heap, gens := s'.gens, drawn := s'.drawn, toks := s'.toks } :=
    I.call (ch := []) (Un.laid k hp hn) (I.hok.laid k hp ⟨len, out.toList, c, vals_of_strs hi, hg⟩) (by rw [g]; exact I.bare) (fun _ z => nomatch z)
  have e : s' = { s with heap := s'.heap, gens := s'.gens, drawn := s'.drawn, toks := s'.toks } := by
    cases s'; cases s; cases o; rfl
  rw [e]
  exact ⟨.ref p, _, J, rfl, q ys p hs hl hn⟩
end
end B1

set_option maxRecDepth 100000
set_option maxHeartbeats 4000000
/-! a set comprehension whose members are texts -/
namespace B1
open PySem PySem.Spec PyProof.Rows L2
section
variable {P : Program} {w : World} {A : Around} {E : Value → Shared → Prop} {s : Shared} {a : Addr} {S : Str → Bool} {n : Nat}
theorem addT_call {k : Str} {tk : Tok} {Q : Value → Shared → Prop} (R : SetT w s.heap a S n) (room : n + 1 < scanBound)
    (q : ∀ h' m, Heap.SameBut a s.heap h' → SetT w h' a (fun j => S j || decide (j = k)) m → Q .none { s with heap := h', toks := s.toks + 1 }) :
    wpAny (model P w) A (call (.builtin "set.add") [.ref a, .str k tk]) Q E s := by
  have ty := (R.setOf (P := P)).typeIs
  refine wpAny_call_entry F.slot_set_add ty F.entry_set_add ?_ (F.args_set_add_2 _ _)
  unfold Builtin.«set.add» Builtin.Frozenset.oneOther
  simp only [bind_assoc, List.isEmpty_nil]
  unfold setAdd Builtin.Frozenset.addrOf
  refine wpAny_bind (wpAny_pure ?_)
  try dsimp only
  refine wpAny_bind (wpAny_pure ?_)
  try dsimp only
  refine wpAny_bind (wpAny_holding (wpAny_bind ((strKind P w).pyHash (k := k) (strKind_is _ _ _ _) ?_)))
  refine put_hashed (s := { s with toks := s.toks + 1 }) R room fun h' m sb r => ?_
  show wpAny _ _ (ret Value.none) _ _ _
  exact wpAny_pure ⟨_, rfl, q h' m sb r⟩
end
/-- how many a set of texts has: no more than any list that has them all -/
def AtMost (S : Str → Bool) (n : Nat) : Prop := ∀ U : List Str, (∀ k, S k = true → k ∈ U) → n ≤ U.length
section
variable {X : Cx}
theorem addT_ok {pins : List (Addr × Obj)} {σ : L2.St} {H : Hp} {s : Shared} {E : Value → Shared → Prop} {D : Addr} {S : Str → Bool} {n : Nat} {y : Str} {tk : Tok} {Q : Value → Shared → Prop} (I : Inv X pins σ H s) (at_ : H D = some (SetTO X.w D S n)) (room : n + 1 < scanBound)
    (q : ∀ s' m, AtMost (fun j => S j || decide (j = y)) m → Inv X pins σ (upd H D (SetTO X.w D (fun j => S j || decide (j = y)) m)) s' → Q .none s') : wpAny (model X.prog X.w) X.A (call (.builtin "set.add") [.ref D, .str y tk]) Q E s := by
  have R : SetT X.w s.heap D S n := (I.hok D _ at_).1
  refine addT_call R room fun h' m sb r => ?_
  obtain ⟨o, es, ep, t, ho, rest⟩ := r
  have r : SetT X.w h' D (fun j => S j || decide (j = y)) m := ⟨o, es, ep, t, ho, rest⟩
  refine q _ m (fun U hU => r.small hU) (I.write (e := D) (t' := s.toks + 1) ?_ (.inl rfl) (fun b u hb hu => (sb.2 b hb).trans hu) ⟨o, ho⟩ (setTO_new r))
  rw [at_]; trivial
/-- what one turn of {elt for target in iter if ..} asks; elt a text, D the new set -/
def TurnT (w : World) (g : TG) (tt : TT) (te : TE) (vs : List Nat) (σ : L2.St) (D : Addr) (Nx : Hp → Prop) (x : V) (H : Hp) : Prop :=
  g x (wipe σ vs) H fun σ2 H2 => wipe σ2 vs = wipe σ vs ∧ tt σ2 H2 fun b H3 =>
    if b = true then te σ2 H3 fun y H4 => ∃ (c : Str) (S : Str → Bool) (n : Nat), y = .str c ∧ H4 D = some (SetTO w D S n) ∧ n + 1 < scanBound ∧ ∀ m, AtMost (fun j => S j || decide (j = c)) m → Nx (upd H4 D (SetTO w D (fun j => S j || decide (j = c)) m)) else Nx H3
def tScT (w : World) (wi : TI) (g : TG) (tt : TT) (te : TE) (vs : List Nat) : TE := fun σ H Q => wi σ H fun J H1 => ∀ D, H1 D = none →
  ∃ W : Nat → Nat → Hp → Prop, (∃ m, W 0 m (upd H1 D (SetTO w D (fun _ => false) 0))) ∧
    ∀ i m H, W i m H → (J.stop i H ∧ Q (.ref D) H) ∨ (J.go i H ∧ ∃ Nx : Hp → Prop, (∀ H', Nx H' → ∃ m', m' < m ∧ W (i + 1) m' H') ∧ ∀ x H', J.yld i H x H' → TurnT w g tt te vs σ D Nx x H')

/-- the empty set that a comprehension begins with -/
def emptyO (w : World) : Obj := { cls := .type "set", dict := none, data := .set #[] 0 (.fresh 0 0 (!w.params.followText "set-order")) }
theorem sets_of_texts {pins : List (Addr × Obj)} {s : Shared} {σ : L2.St} {H : Hp} {Q : VK} {el tg it : Expr} {cs : List Expr} {sc : Scope} {own : List (Str × Nat)} {p1 p2 : Pos} {wi : TI} {g : TG} {tt : TT} {te : TE} {use : Option (Value → Sem Unit)} {Qf : Value → Shared → Prop}
    (calm : X.calm = true) (nd : X.N.Nodup) (I : Inv X pins σ H s) (pi : PI X tg it wi) (bk : BlkOk X.N X.env.scope sc own)
    (pg : ∀ s H C cl fp, PG (X.blk s H sc (compEnvC sc cl C X.env) fp) tg g) (pt : ∀ s H C cl fp, PTs (X.blk s H sc (compEnvC sc cl C X.env) fp) cs tt)
    (pe : ∀ s H C cl fp, PE (X.blk s H sc (compEnvC sc cl C X.env) fp) el te) (fold : ∀ x, foldedSetIterable it X.env x = pure x)
    (h : tScT X.w wi g tt te (own.map (·.2)) σ H Q)
    (back : ∀ D C s' m H', Inv X pins σ H' s' → Q (.ref D) H' → s'.heap.Ns C m → FpOk X pins H' C → compPost (model X.prog X.w) X.A X.xe use Qf (.ref D) C (.ok .next) s') :
    wpAny (model X.prog X.w) X.A (comprehension (.SetComp el [⟨tg, it, cs, 0⟩] sc p1) sc X.env p2 (newSet (.type "set")) false (eval it X.env) use) Qf X.xe s := by
  have fr : ∀ y ∈ sc.names, y.2 = .free → ∃ c, X.env.cells.lookup y.1 = some c := fun y hy e => (bk.free y hy e).elim (fun k => I.ok.has _ (.inl k)) (fun k => I.ok.has _ (.inr k))
  refine wpAny_comprehension_free (use := use) rfl fold (closure_ok fr) bk.kind (fun y hy e => by rw [bk.uniq y hy, e]) (thn (pi.run pins s σ H _ I h) fun _ _ hx => thn hx fun _ s2 h2 => ?_)
  obtain ⟨ita, fp, tn, J, H2, rfl, I2, T, st2, f2, q⟩ := h2
  refine PpSet.newSet_ok (newEnv_comp ?_)
  have pl : ∀ b o, s2.heap.get? b = some o → (s2.heap.push (emptyO X.w)).get? b = some o := fun b o e => Heap.get?_push_of_some _ e
  have fresh : H2 s2.heap.objs.size = none := I2.hok.fresh (Nat.le_refl _)
  obtain ⟨W, ⟨m0, w0⟩, turn⟩ := q _ fresh
  have hi : ∀ b ∈ fp, b < s2.heap.objs.size := fun b hb => (T.obj _ _ st2 b hb).elim fun o e => Heap.lt_size e.1
  generalize eD : s2.heap.objs.size = D at *
  generalize e3 : ({ s2 with heap := s2.heap.push (emptyO X.w) } : Shared) = s3
  have hp3 : s3.heap = s2.heap.push (emptyO X.w) := by rw [← e3]
  have I3 : Inv X pins σ (upd H2 D (SetTO X.w D (fun _ => false) 0)) s3 := by
    subst e3
    exact I2.laid (t' := s2.toks) pl (Nat.le_of_eq eD) (setTO_new (setT_new (by rw [← eD]; exact Heap.get?_push_size _ rfl)))
  have f3 : ∀ b ∈ fp, FpOk X pins (upd H2 D (SetTO X.w D (fun _ => false) 0)) b ∧ b < s3.heap.objs.size := fun b hb => by
    have lt := hi b hb
    rw [hp3, Heap.size_push, eD]
    exact ⟨⟨by rw [upd_ne (Nat.ne_of_lt lt)]; exact (f2 b hb).1, (f2 b hb).2⟩, Nat.lt_succ_of_lt lt⟩
  have st3 : tn 0 s3.heap := T.keep _ _ _ st2 fun b _ o e => by rw [hp3]; exact pl b o e
  generalize eH : upd H2 D (SetTO X.w D (fun _ => false) 0) = H3 at *
  have I4 := block_start I3 bk nd f3
  have none3 : ∀ b ∈ fp, H3 b = none := fun b hb => (f3 b hb).1.1
  generalize ec : compEnvC sc (cellsFrom (s3.heap.objs.size + 1) sc.names (cloFrom X.env.cells sc.names [])) s3.heap.objs.size X.env = ce at I4
  have pg := pg s3 H3 s3.heap.objs.size (cellsFrom (s3.heap.objs.size + 1) sc.names (cloFrom X.env.cells sc.names [])) fp
  have pt := pt s3 H3 s3.heap.objs.size (cellsFrom (s3.heap.objs.size + 1) sc.names (cloFrom X.env.cells sc.names [])) fp
  have pe := pe s3 H3 s3.heap.objs.size (cellsFrom (s3.heap.objs.size + 1) sc.names (cloFrom X.env.cells sc.names [])) fp
  rw [ec] at pg pt pe
  have loc : ce.locals = s3.heap.objs.size := by subst ec; rfl
  generalize e4 : ({ s3 with heap := pushCells (s3.heap.push { cls := .type "dict", data := .dict #[] }) sc.names } : Shared) = s4 at I4
  have st4 : tn 0 s4.heap := T.keep _ _ _ st3 fun b _ o e => by rw [← e4]; exact pushCells_keeps _ _ _ _ (Heap.get?_push_of_some _ e)
  have foot : ∀ {σ' : L2.St} {H' : Hp} {s' : Shared}, Inv (X.blk s3 H3 sc ce fp) [] σ' H' s' → (∀ b ∈ fp, H' b = none) → ∀ b ∈ fp, FpOk (X.blk s3 H3 sc ce fp) [] H' b := fun {σ' H' s'} I' hn b hb =>
    ⟨hn b hb, (I'.ok.exf b hb).1, I'.ok.exfs b hb, .inl hb, fun x c e => (I'.ok.exf b hb).2 x c e, fun p hp => by cases hp⟩
  have loop : codeAny (model X.prog X.w) X.A (.compLoop (.SetComp el [⟨tg, it, cs, 0⟩] sc p1) 0 (.ref ita) (.ref D) ce) (compPost (model X.prog X.w) X.A X.xe use Qf (.ref D) s3.heap.objs.size) s4 := by
    refine PpSet.compLoopS_any (fun n s' => ∃ i H', W i n H' ∧ (∀ b ∈ fp, H' b = none) ∧ tn i s'.heap ∧ Inv (X.blk s3 H3 sc ce fp) [] (wipe σ (own.map (·.2))) H' s') ?_ m0 ⟨0, H3, w0, none3, st4, I4⟩
    rintro n s5 ⟨i, H5, w5, n5, st5, I5⟩
    rcases turn i n H5 w5 with ⟨stop, fin⟩ | ⟨go, Nx, less, step⟩
    · refine thnF (T.done (X.blk s3 H3 sc ce fp) rfl rfl rfl calm i [] s5 _ H5 (fun _ _ => False) I5 (foot I5 n5) st5 stop) fun r s6 ⟨hr, I6⟩ => ?_
      subst hr
      have I7 : Inv X pins σ H5 s6 := I3.call' (ch := fp) I6.os I6.base I6.hok I6.bare fun b hb =>
        let z := (f3 b hb).1.2
        ⟨z.2.2.1, z.1, z.2.2.2.1, z.2.2.2.2⟩
      have nC : H5 ce.locals = none := I6.free
      obtain ⟨m, ns, _⟩ := I6.loc
      have ns : s6.heap.Ns ce.locals m := ns
      rw [loc] at nC ns
      exact back D s3.heap.objs.size s6 m H5 I7 fin ns (I3.fpOk (Nat.le_refl _) nC)
    · refine thnF (T.item (X.blk s3 H3 sc ce fp) rfl rfl rfl calm i [] s5 _ H5 (fun _ _ => False) I5 (foot I5 n5) st5 go) fun r s6 ⟨u, hr, h6⟩ => ?_
      subst hr
      refine thnF h6 fun _ s7 ⟨x, H7, I7, r7, y7, st7, n7⟩ => ?_
      refine thnF (pg.run _ s7 _ H7 x u _ (I7.pinned (foot I7 n7) (T.obj _ _ st7)) r7 (step x H7 y7)) fun _ s8 ⟨σ8, H8, I8, wp8, q8⟩ => ?_
      have over : ∀ {s' : Shared} {H' : Hp}, Inv (X.blk s3 H3 sc ce fp) ([] ++ pinsAt fp s7.heap) σ8 H' s' → Nx H' → ∃ m, m < n ∧ ∃ i H', W i m H' ∧ (∀ b ∈ fp, H' b = none) ∧ tn i s'.heap ∧ Inv (X.blk s3 H3 sc ce fp) [] (wipe σ (own.map (·.2))) H' s' := fun {s' H'} I' nx => by
        obtain ⟨m', hm, w'⟩ := less H' nx
        have pin : ∀ b ∈ fp, ∀ o, s7.heap.get? b = some o → s'.heap.get? b = some o ∧ H' b = none := fun b hb o e => by
          have z := I'.pin (b, o) (List.mem_append_right _ (List.mem_append_right _ (mem_pinsAt hb e)))
          exact ⟨z.1, z.2.1⟩
        refine ⟨m', hm, i + 1, H', w', fun b hb => ?_, T.keep _ _ _ st7 fun b hb o e => (pin b hb o e).1, (I'.unpinned (pins := [])).weak (by rw [← wp8, wipe_length]) fun j v e => ?_⟩
        · obtain ⟨o, e, _⟩ := T.obj _ _ st7 b hb
          exact (pin b hb o e).2
        · rw [← wp8] at e
          exact (wipe_some e).1
      refine thnF (pt.run _ s8 σ8 H8 _ I8 q8) fun b s9 ⟨H9, I9, q9⟩ => ?_
      cases b with
      | false =>
        simp only [if_false, Bool.false_eq_true] at q9 ⊢
        exact over I9 q9
      | true =>
        simp only [if_true] at q9 ⊢
        refine thnF (pe.run _ s9 σ8 H9 _ I9 q9) fun z s10 ⟨yv, H10, I10, r10, c, S0, n0, ey, at10, room, nx⟩ => ?_
        subst ey
        obtain ⟨tk, rfl⟩ : ∃ tk, z = Value.str c tk := r10
        exact addT_ok (X := X.blk s3 H3 sc ce fp) I10 at10 room fun s11 m am I11 => over I11 (nx m am)
  subst ec
  subst e4
  subst e3
  exact PpSet.codeAny_compStart_set loop (T.self X.A 0 _ _ _ st4 loop)
theorem pe_scT {el tg it : Expr} {cs : List Expr} {sc : Scope} {own : List (Str × Nat)} {p1 : Pos} {wi : TI} {g : TG} {tt : TT} {te : TE} (calm : X.calm = true) (nd : X.N.Nodup) (pi : PI X tg it wi) (bk : BlkOk X.N X.env.scope sc own)
    (pg : ∀ s H C cl fp, PG (X.blk s H sc (compEnvC sc cl C X.env) fp) tg g) (pt : ∀ s H C cl fp, PTs (X.blk s H sc (compEnvC sc cl C X.env) fp) cs tt)
    (pe : ∀ s H C cl fp, PE (X.blk s H sc (compEnvC sc cl C X.env) fp) el te) (fold : ∀ x, foldedSetIterable it X.env x = pure x := by intro _; rfl) :
    PE X (.SetComp el [⟨tg, it, cs, 0⟩] sc p1) (tScT X.w wi g tt te (own.map (·.2))) := by
  refine ⟨fun pins s σ H Q I h => ?_⟩
  rw [PpSet.eval_SetComp]
  refine sets_of_texts calm nd I pi bk pg pt pe fold h fun D C s' m H' I' q ns f => ⟨m, ns, fun h2 sb => ?_⟩
  exact ⟨.ref D, H', I'.turned (t' := s'.toks) (fun b o hb e => (sb.2 b hb).trans e) f.1 f.2.1 f.2.2.2.1 f.2.2.2.2.1 f.2.2.2.2.2, rfl, q⟩
end
section
variable {J : It} {n : Nat} {G : Hp → Prop} {Y : Nat → Hp → V → Hp → Prop}
/-- by an invariant over the turns -/
theorem scT_it (w : Walk J n G Y) {wd : World} {g : TG} {tt : TT} {te : TE} {vs : List Nat} {σ : L2.St} {H1 : Hp} {D : Addr} {Qd : Hp → Prop} (Pv : Nat → Hp → Prop) (h0 : Pv 0 (upd H1 D (SetTO wd D (fun _ => false) 0))) (hG : ∀ i H, i ≤ n → Pv i H → G H)
    (hs : ∀ i x H H', i < n → Pv i H → Y i H x H' → TurnT wd g tt te vs σ D (Pv (i + 1)) x H') (hd : ∀ H, Pv n H → Qd H) :
    ∃ W : Nat → Nat → Hp → Prop, (∃ m, W 0 m (upd H1 D (SetTO wd D (fun _ => false) 0))) ∧
      ∀ i m H, W i m H → (J.stop i H ∧ Qd H) ∨ (J.go i H ∧ ∃ Nx : Hp → Prop, (∀ H', Nx H' → ∃ m', m' < m ∧ W (i + 1) m' H') ∧ ∀ x H', J.yld i H x H' → TurnT wd g tt te vs σ D Nx x H') := by
  refine ⟨fun i m H => m + i = n ∧ Pv i H, ⟨n, rfl, h0⟩, ?_⟩
  rintro i m H ⟨e, p⟩
  have q := hG i H (by omega) p
  cases m with
  | zero =>
    have e' : i = n := by omega
    subst e'
    exact .inl ⟨w.stops H q, hd H p⟩
  | succ m => exact .inr ⟨w.goes i H (by omega) q, Pv (i + 1), fun H' p' => ⟨m, Nat.lt_succ_self m, by omega, p'⟩, fun x H' y => hs i x H H' (by omega) p (w.yields i H x H' (by omega) q y)⟩
end
end B1

set_option maxRecDepth 100000
set_option maxHeartbeats 4000000
/-! data that stand in the heap, displays of data -/
namespace B1
open PySem PySem.Spec PyProof.Rows L2
/-- all but the dicts is as it was -/
def Kept (H H' : Hp) : Prop := ∀ b o, H b = some o → (∀ kvs, o ≠ .dK kvs) → H' b = some o
theorem Kept.refl (H : Hp) : Kept H H := fun _ _ h _ => h
theorem Kept.trans {H H1 H2 : Hp} (a : Kept H H1) (b : Kept H1 H2) : Kept H H2 := fun c o h n => b c o (a c o h n) n
theorem Kept.of {H H' : Hp} (h : Same H H') : Kept H H' := fun c o e _ => h c o e
theorem Kept.sqL {K : PySem.W.Frag} {H H' : Hp} {a : Addr} {xs : List V} (e : Kept H H') (h : SqL K H a xs) : SqL K H' a xs := by
  rcases h with (h | ⟨o, h⟩) | h
  · exact .inl (.inl (e _ _ h fun _ q => nomatch q))
  · exact .inl (.inr ⟨o, e _ _ h fun _ q => nomatch q⟩)
  · exact .inr h
theorem Kept.sqT {K : PySem.W.Frag} {H H' : Hp} {a : Addr} {xs : List V} (e : Kept H H') (h : SqT K H a xs) : SqT K H' a xs := by
  rcases h with (h | ⟨o, h⟩) | h
  · exact .inl (.inl (e _ _ h fun _ q => nomatch q))
  · exact .inl (.inr ⟨o, e _ _ h fun _ q => nomatch q⟩)
  · exact .inr h
section
variable {K : PySem.W.Frag} {H H' : Hp}
mutual
theorem dp_kept (e : Kept H H') : ∀ (d : PyData) (v : V), Dp K H v d → Dp K H' v d
  | .none, _, h => by cases h; exact .non
  | .bool b, _, h => by cases h; exact .bl b
  | .int i, _, h => by cases h; exact .int i
  | .str x, _, h => by cases h; exact .str x
  | .list ds, _, h => by
    cases h with
    | lst hs ha => exact .lst (e.sqL hs) (dps_kept e ds _ ha)
  | .tuple ds, _, h => by
    cases h with
    | tup hs ha => exact .tup (e.sqT hs) (dps_kept e ds _ ha)
  | .dict _, _, h => by cases h
theorem dps_kept (e : Kept H H') : ∀ (ds : List PyData) (vs : List V), DpAll K H vs ds → DpAll K H' vs ds
  | [], _, h => by cases h; exact .nil
  | d :: ds, _, h => by
    cases h with
    | cons h1 h2 => exact .cons (dp_kept e d _ h1) (dps_kept e ds _ h2)
end
theorem Kept.dp {v : V} {d : PyData} (e : Kept H H') (h : Dp K H v d) : Dp K H' v d := dp_kept e d v h
theorem Kept.dps {vs : List V} {ds : List PyData} (e : Kept H H') (h : DpAll K H vs ds) : DpAll K H' vs ds := dps_kept e ds vs h
theorem same_dp {v : V} {d : PyData} (e : Same H H') (h : Dp K H v d) : Dp K H' v d := (Kept.of e).dp h
theorem same_dps {vs : List V} {ds : List PyData} (e : Same H H') (h : DpAll K H vs ds) : DpAll K H' vs ds := (Kept.of e).dps h
theorem Dp.tupD {v : V} {ds : List PyData} (h : Dp K H v (.tuple ds)) : ∃ a xs, v = .ref a ∧ SqT K H a xs ∧ DpAll K H xs ds := by
  cases h with
  | tup hs ha => exact ⟨_, _, rfl, hs, ha⟩
theorem Dp.lstD {v : V} {ds : List PyData} (h : Dp K H v (.list ds)) : ∃ a xs, v = .ref a ∧ SqL K H a xs ∧ DpAll K H xs ds := by
  cases h with
  | lst hs ha => exact ⟨_, _, rfl, hs, ha⟩
theorem dps_len : ∀ {vs : List V} {ds : List PyData}, DpAll K H vs ds → vs.length = ds.length
  | _, _, .nil => rfl
  | _, _, .cons _ t => by rw [List.length_cons, List.length_cons, dps_len t]
theorem dps_get : ∀ {vs : List V} {ds : List PyData} {i : Nat} {d : PyData}, DpAll K H vs ds → ds[i]? = some d → ∃ v, vs[i]? = some v ∧ Dp K H v d
  | _, _, _, _, .nil, e => by simp at e
  | _, _, 0, _, .cons h _, e => by cases e; exact ⟨_, rfl, h⟩
  | _, _, i + 1, d, .cons _ t, e => by
    obtain ⟨v, h1, h2⟩ := dps_get (i := i) (d := d) t (by simpa using e)
    exact ⟨v, by simpa using h1, h2⟩
theorem dps_getV : ∀ {vs : List V} {ds : List PyData} {i : Nat} {v : V}, DpAll K H vs ds → vs[i]? = some v → ∃ d, ds[i]? = some d ∧ Dp K H v d
  | _, _, _, _, .nil, e => by simp at e
  | _, _, 0, _, .cons h _, e => by cases e; exact ⟨_, rfl, h⟩
  | _, _, i + 1, d, .cons _ t, e => by
    obtain ⟨v, h1, h2⟩ := dps_getV (i := i) t (by simpa using e)
    exact ⟨v, by simpa using h1, h2⟩
theorem dps_append : ∀ {vs : List V} {ds : List PyData} {us : List V} {es : List PyData}, DpAll K H vs ds → DpAll K H us es → DpAll K H (vs ++ us) (ds ++ es)
  | _, _, _, _, .nil, h => h
  | _, _, _, _, .cons a b, h => .cons a (dps_append b h)
theorem dps_take : ∀ {vs : List V} {ds : List PyData} (n : Nat), DpAll K H vs ds → DpAll K H (vs.take n) (ds.take n)
  | _, _, 0, _ => .nil
  | _, _, _ + 1, .nil => .nil
  | _, _, n + 1, .cons a b => .cons a (dps_take n b)
theorem dps_drop : ∀ {vs : List V} {ds : List PyData} (n : Nat), DpAll K H vs ds → DpAll K H (vs.drop n) (ds.drop n)
  | _, _, 0, h => h
  | _, _, _ + 1, .nil => .nil
  | _, _, n + 1, .cons a b => dps_drop n b
end
theorem same_new {H : Hp} {p : Addr} (h : H p = none) (o : HO) : Same H (upd H p o) := fun b u q => by
  rw [upd_ne (ne_of_none q h)]; exact q
/-- a list or tuple of the program's own that nobody else knows may change -/
theorem kept_over {H0 H : Hp} {p : Addr} {o : HO} (k : Kept H0 H) (h : H0 p = none) : Kept H0 (upd H p o) := fun b u e n => by
  rw [upd_ne (ne_of_none e h)]; exact k b u e n
theorem same_over {H0 H : Hp} {p : Addr} {o : HO} (k : Same H0 H) (h : H0 p = none) : Same H0 (upd H p o) := fun b u e => by
  rw [upd_ne (ne_of_none e h)]; exact k b u e

/-! ### displays -/
def tDat (K : PySem.W.Frag) (used : List Nat) (δ : (Nat → PyData) → PyData) : TE := fun σ H Q => ∃ ρ : Nat → PyData, (∀ i ∈ used, ∃ v, σ[i]? = some (some v) ∧ Dp K H v (ρ i)) ∧ ∀ v H', Same H H' → Dp K H' v (δ ρ) → Q v H'
def tDatA (K : PySem.W.Frag) (used : List Nat) (δ : (Nat → PyData) → List PyData) : TA := fun σ H Q => ∃ ρ : Nat → PyData, (∀ i ∈ used, ∃ v, σ[i]? = some (some v) ∧ Dp K H v (ρ i)) ∧ ∀ vs H', Same H H' → DpAll K H' vs (δ ρ) → Q vs H'
section
variable {X : Cx} {e : Expr} {es : List Expr} {pos : Pos} {used used' : List Nat}
theorem pe_less {t t' : TE} (h : PE X e t) (k : ∀ σ H Q, t' σ H Q → t σ H Q) : PE X e t' := ⟨fun pins s σ H Q I q => h.run pins s σ H Q I (k σ H Q q)⟩
theorem pa_less {t t' : TA} (h : PA X es t) (k : ∀ σ H Q, t' σ H Q → t σ H Q) : PA X es t' := ⟨fun pos pins s σ H Q I q => h.run pos pins s σ H Q I (k σ H Q q)⟩
theorem de_str {x : Str} {j : Nat} : PE X (.Constant (.str x) j pos) (tDat X.K [] fun _ => .str x) := pe_less pe_str fun σ H Q ⟨ρ, _, k⟩ => k _ H (Same.refl H) (.str x)
theorem de_int {x : Int} {j : Nat} : PE X (.Constant (.int x) j pos) (tDat X.K [] fun _ => .int x) := pe_less pe_int fun σ H Q ⟨ρ, _, k⟩ => k _ H (Same.refl H) (.int x)
theorem de_bl {x : Bool} {j : Nat} : PE X (.Constant (.bool x) j pos) (tDat X.K [] fun _ => .bool x) := pe_less pe_bl fun σ H Q ⟨ρ, _, k⟩ => k _ H (Same.refl H) (.bl x)
theorem de_non {j : Nat} : PE X (.Constant .none j pos) (tDat X.K [] fun _ => .none) := pe_less pe_non fun σ H Q ⟨ρ, _, k⟩ => k _ H (Same.refl H) .non
theorem de_neg {x : Int} {j : Nat} {p : Pos} : PE X (.UnaryOp .USub (.Constant (.int x) j p) pos) (tDat X.K [] fun _ => .int (-x)) := pe_less (pe_un un_neg pe_int) fun σ H Q ⟨ρ, _, k⟩ => ⟨x, rfl, k _ H (Same.refl H) (.int _)⟩
theorem de_name (i : Nat) {x : Str} (h : PE X (.Name x pos) (tVar i)) : PE X (.Name x pos) (tDat X.K [i] fun ρ => ρ i) := pe_less h fun σ H Q ⟨ρ, u, k⟩ => by
  obtain ⟨v, e, d⟩ := u i (List.mem_singleton.mpr rfl)
  exact ⟨v, e, k v H (Same.refl H) d⟩
theorem das_nil : PA X [] (tDatA X.K [] fun _ => []) := pa_less pa_nil fun σ H Q ⟨ρ, _, k⟩ => k [] H (Same.refl H) .nil
theorem das_cons {δ : (Nat → PyData) → PyData} {δs : (Nat → PyData) → List PyData} (h : PE X e (tDat X.K used δ)) (r : PA X es (tDatA X.K used' δs)) (hs : starEach (e :: es) X.env = (false, eval e X.env) :: starEach es X.env := by rfl) :
    PA X (e :: es) (tDatA X.K (used ++ used') fun ρ => δ ρ :: δs ρ) := pa_less (pa_cons h r hs) fun σ H Q ⟨ρ, u, k⟩ => by
  refine ⟨ρ, fun i hi => u i (List.mem_append_left _ hi), fun v H1 s1 d1 => ⟨ρ, fun i hi => ?_, fun vs H2 s2 d2 => k (v :: vs) H2 (s1.trans s2) (.cons (same_dp s2 d1) d2)⟩⟩
  obtain ⟨v, e, d⟩ := u i (List.mem_append_right _ hi)
  exact ⟨v, e, same_dp s1 d⟩
theorem de_tup {x1 : Nat} {δs : (Nat → PyData) → List PyData} (r : PA X es (tDatA X.K used δs)) (hl : es.length ≤ 1000) (hz : ∀ ρ, (δs ρ).length = es.length := by intro _; rfl) : PE X (.Tuple es x1 pos) (tDat X.K used fun ρ => .tuple (δs ρ)) := pe_less (pe_tup r) fun σ H Q ⟨ρ, u, k⟩ => by
  refine ⟨ρ, u, fun vs H1 s1 d1 => ⟨?_, fun p hp => ?_⟩⟩
  · rw [dps_len d1, hz]; exact Nat.le_of_lt (small1000 hl)
  · have s2 := same_new hp (.tup vs)
    exact k _ _ (s1.trans s2) (.tup (SqT.of upd_same) (same_dps s2 d1))
theorem de_lst {δs : (Nat → PyData) → List PyData} (r : PA X es (tDatA X.K used δs)) (hl : es.length ≤ 1000) (hz : ∀ ρ, (δs ρ).length = es.length := by intro _; rfl) : PE X (.List es pos) (tDat X.K used fun ρ => .list (δs ρ)) := pe_less (pe_lst r) fun σ H Q ⟨ρ, u, k⟩ => by
  refine ⟨ρ, u, fun vs H1 s1 d1 => ⟨?_, fun p hp => ?_⟩⟩
  · rw [dps_len d1, hz]; exact Nat.le_of_lt (small1000 hl)
  · have s2 := same_new hp (.lst vs)
    exact k _ _ (s1.trans s2) (.lst (SqL.of upd_same) (same_dps s2 d1))
end
theorem use0 {F : Nat → Prop} : ∀ i ∈ ([] : List Nat), F i := fun _ h => nomatch h
theorem use1 {F : Nat → Prop} {a : Nat} (ha : F a) : ∀ i ∈ [a], F i := fun i h => by rw [List.mem_singleton.mp h]; exact ha
theorem use2 {F : Nat → Prop} {a b : Nat} (ha : F a) (hb : F b) : ∀ i ∈ [a, b], F i := fun i h => by
  rcases List.mem_cons.mp h with rfl | h
  · exact ha
  · exact use1 hb i h
theorem use3 {F : Nat → Prop} {a b c : Nat} (ha : F a) (hb : F b) (hc : F c) : ∀ i ∈ [a, b, c], F i := fun i h => by
  rcases List.mem_cons.mp h with rfl | h
  · exact ha
  · exact use2 hb hc i h
end B1

set_option maxRecDepth 100000
set_option maxHeartbeats 4000000
namespace B1
open PySem PySem.Spec PyProof.Rows L2
/-! ### the text -/
def top (i : Nat) : Stmt := PySem.Challenge.pw_livehall_k01_bodies.main.body.getD i (.Pass ⟨0, 0, 0, 0⟩)
/-! ### the names of the built-ins are still theirs -/
structure Bl (mg : Str → Option Value) : Prop where
  «all» : mg "all" = none
  isi : mg "isinstance" = none
  str : mg "str" = none
  len : mg "len" = none
  bool : mg "bool" = none
  int : mg "int" = none
  tuple : mg "tuple" = none
  list : mg "list" = none
  zip : mg "zip" = none
  sorted : mg "sorted" = none
  set : mg "set" = none
  range : mg "range" = none
  min : mg "min" = none
theorem bt_all : bootBuiltins "all" = some (.builtin "all") := by decide +kernel
theorem bt_isi : bootBuiltins "isinstance" = some (.builtin "isinstance") := by decide +kernel
theorem bt_str : bootBuiltins "str" = some (.type "str") := by decide +kernel
theorem bt_len : bootBuiltins "len" = some (.builtin "len") := by decide +kernel
theorem bt_bool : bootBuiltins "bool" = some (.type "bool") := by decide +kernel
theorem bt_int : bootBuiltins "int" = some (.type "int") := by decide +kernel
theorem bt_tuple : bootBuiltins "tuple" = some (.type "tuple") := by decide +kernel
theorem bt_list : bootBuiltins "list" = some (.type "list") := by decide +kernel
theorem bt_sorted : bootBuiltins "sorted" = some (.builtin "sorted") := by decide +kernel
theorem bt_set : bootBuiltins "set" = some (.type "set") := by decide +kernel
theorem bt_min : bootBuiltins "min" = some (.builtin "min") := by decide +kernel
/-! ### isinstance of data -/
def tyN : PyData → String
  | .none => "NoneType"
  | .bool _ => "bool"
  | .int _ => "int"
  | .str _ => "str"
  | .list _ => "list"
  | .tuple _ => "tuple"
  | .dict _ => "dict"
theorem tyX_of {K : PySem.W.Frag} {H : Hp} {v : V} {d : PyData} (h : Dp K H v d) : TyX K H v (.type (tyN d)) := by
  cases h with
  | non => exact .base .non
  | bl b => exact .base (.bl b)
  | int i => exact .base (.int i)
  | str x => exact .base (.str x)
  | lst hs _ =>
    rcases hs with (h | ⟨o, h⟩) | ⟨o, its, n, hk, hc, _⟩
    · exact .base (.lst h)
    · exact .base (.frz h)
    · exact .kList hk hc
  | tup hs _ =>
    rcases hs with (h | ⟨o, h⟩) | ⟨o, its, n, hk, hc, _⟩
    · exact .base (.tup h)
    · exact .fTuple h
    · exact .kTuple hk hc
def isS : PyData → Bool
  | .str _ => true
  | _ => false
def isT : PyData → Bool
  | .tuple _ => true
  | _ => false
def isB : PyData → Bool
  | .bool _ => true
  | _ => false
def isI : PyData → Bool
  | .bool _ => true
  | .int _ => true
  | _ => false
theorem kit_S (d : PyData) : kitB (tyN d) "str" = some (isS d) := by cases d <;> simp only [tyN, isS] <;> decide +kernel
theorem kit_T (d : PyData) : kitB (tyN d) "tuple" = some (isT d) := by cases d <;> simp only [tyN, isT] <;> decide +kernel
theorem kit_B (d : PyData) : kitB (tyN d) "bool" = some (isB d) := by cases d <;> simp only [tyN, isB] <;> decide +kernel
theorem kit_I (d : PyData) : kitB (tyN d) "int" = some (isI d) := by cases d <;> simp only [tyN, isI] <;> decide +kernel
def rIsD (K : PySem.W.Frag) (T : String) (f : PyData → Bool) : List V → Hp → VK → Prop := fun xs H Q => ∃ (x : V) (d : PyData), xs = [x, .ty T] ∧ Dp K H x d ∧ Q (.bl (f d)) H
section
variable {X : Cx} {e : Expr} {te : TE} {p p2 pos : Pos} {x : Str} {T : String} {f : PyData → Bool}
theorem cr_isD (hk : ∀ d, kitB (tyN d) T = some (f d)) : CallR X (.builtin "isinstance") (rIsD X.K T f) := by
  intro pins s σ H xs us Q I r h
  obtain ⟨v, d, ex, hd, q⟩ := h
  exact call_isi pins s σ H xs us Q I r ⟨v, .ty T, _, .type T, f d, ex, .ty T, tyX_of hd, kit_ty (hk d), q⟩
theorem pe_isD (hk : ∀ d, kitB (tyN d) T = some (f d)) (hg : Gl X "isinstance") (hm : X.mg "isinstance" = none) (hgT : Gl X x) (hmT : X.mg x = none) (hv : bootBuiltins x = some (.type T)) (he : PE X e te)
    (hs : starEach [e, .Name x p2] X.env = (false, eval e X.env) :: starEach [.Name x p2] X.env := by rfl) (hs2 : starEach [.Name x p2] X.env = (false, eval (.Name x p2) X.env) :: starEach [] X.env := by rfl) (hpl : (backTo pos (starEach [.Name x p2] X.env)).any (·.1) = false := by rfl)
    (hn : x ≠ "__name__" := by decide) (hd : (x == ("__debug__" : Str)) = false := by decide) :
    PE X (.Call (.Name "isinstance" p) [e, .Name x p2] [] pos) (tCB (rIsD X.K T f) (tCons te (tCons (tC (.ty T)) tNil))) :=
  pe_callB (cr_isD hk) hg hm bt_isi (pa_cons he (pa_cons (pe_bltn (v := .ty T) hgT hmT hv rfl hn hd) pa_nil hs2) hs) (he := hs) (hpl := hpl)
end
/-! ### all_between -/
abbrev sBtw : Stmt := top 3
abbrev sName : Stmt := top 4
abbrev sShort : Stmt := top 5
abbrev sPlain : Stmt := top 6
abbrev sLeaf : Stmt := top 12
theorem scBtw : FnScope ["text", "low", "high", "sign"] ["text", "low", "high"] (defScope sBtw) := ⟨rfl, rfl, rfl, by decide +kernel, rfl, by decide +kernel, by decide +kernel⟩
theorem scName : FnScope ["thing"] ["thing"] (defScope sName) := ⟨rfl, rfl, rfl, by decide +kernel, rfl, by decide +kernel, by decide +kernel⟩
theorem scShort : FnScope ["thing"] ["thing"] (defScope sShort) := ⟨rfl, rfl, rfl, by decide +kernel, rfl, by decide +kernel, by decide +kernel⟩
theorem scPlain : FnScope ["thing"] ["thing"] (defScope sPlain) := ⟨rfl, rfl, rfl, by decide +kernel, rfl, by decide +kernel, by decide +kernel⟩
theorem scLeaf : FnScope ["sort", "thing"] ["sort", "thing"] (defScope sLeaf) := ⟨rfl, rfl, rfl, by decide +kernel, rfl, by decide +kernel, by decide +kernel⟩
/-- the sign is between the two -/
def btw (lo hi c : Nat) : Bool := decide (lo ≤ c) && decide (c ≤ hi)
theorem lt_one (a b : Nat) : decide ((⟨#[a]⟩ : Str).cps.toList < (⟨#[b]⟩ : Str).cps.toList) = decide (a < b) := by
  have : (⟨#[a]⟩ : Str).cps.toList < (⟨#[b]⟩ : Str).cps.toList ↔ a < b := by
    show [a] < [b] ↔ a < b
    simp [List.cons_lt_cons_iff]
  simp [this]
theorem le_one (a b : Nat) : (!decide ((⟨#[b]⟩ : Str).cps.toList < (⟨#[a]⟩ : Str).cps.toList)) = decide (a ≤ b) := by
  rw [lt_one]
  by_cases h : a ≤ b
  · rw [decide_eq_true h, decide_eq_false (by omega)]; rfl
  · rw [decide_eq_false h, decide_eq_true (by omega)]; rfl
theorem tyes {σ : L2.St} {H : Hp} {Q : Bool → Hp → Prop} (h : Q true H) : tYes σ H Q := h
theorem smallM {n : Nat} (h : n ≤ 1000000) : n < sizeLine := Nat.lt_of_le_of_lt h (by decide)
def spBtw : Sp := fun vs H Q _ => ∃ (x : Str) (lo hi : Nat), vs = [.str x, .str ⟨#[lo]⟩, .str ⟨#[hi]⟩] ∧ x.length ≤ 1000000 ∧ ∀ H', Same H H' → Q (.bl (between lo hi x)) H'
def spName (K : PySem.W.Frag) : Sp := fun vs H Q _ => ∃ (v : V) (d : PyData), vs = [v] ∧ Dp K H v d ∧ (∀ x, d = .str x → x.length ≤ 1000000) ∧ ∀ H', Same H H' → Q (.bl (isName d)) H'
def isShort : PyData → Bool
  | .str x => decide (x.length ≤ 40) && between 32 126 x
  | _ => false
theorem name_str (x : Str) : isName (.str x) = (decide (1 ≤ x.length) && decide (x.length ≤ 12) && between 97 122 x) := rfl
theorem short_str (x : Str) : isShort (.str x) = (decide (x.length ≤ 40) && between 32 126 x) := rfl
theorem bl_to {Q : VK} {H : Hp} {b b' : Bool} (h : Q (.bl b') H) (e : b = b') : Q (.bl b) H := e ▸ h
def spShort (K : PySem.W.Frag) : Sp := fun vs H Q _ => ∃ (v : V) (d : PyData), vs = [v] ∧ Dp K H v d ∧ (∀ x, d = .str x → x.length ≤ 1000000) ∧ ∀ H', Same H H' → Q (.bl (isShort d)) H'
def spPlain (K : PySem.W.Frag) : Sp := fun vs H Q _ => ∃ (v : V) (d : PyData), vs = [v] ∧ Dp K H v d ∧ (∀ x, d = .str x → x.length ≤ 1000000) ∧ ∀ H', Same H H' → Q (.bl (isVal d)) H'
def spLeaf (K : PySem.W.Frag) : Sp := fun vs H Q _ => ∃ (s : S) (v : V) (d : PyData), vs = [.str s.txt, v] ∧ Dp K H v d ∧ (∀ x, d = .str x → x.length ≤ 1000000) ∧ ∀ H', Same H H' → Q (.bl (leafOk s d)) H'
section
variable {P : Program} {w : World} {K : PySem.W.Frag} {mg : Str → Option Value} {base : Heap} {f g f2 : Addr} {fd gd fd2 : FuncData}
theorem ok_btw (F : Fun K "all_between" "all_between" sBtw f fd) (B : Bl mg) : FnOk P w K mg base CX0 1 f fd ["text", "low", "high"] spBtw := by
  refine F.ok scBtw (fun vs H Q E h => ?_) (fun cdv A outer s H vs Q E hr h => ?_)
  · obtain ⟨x, lo, hi, rfl, _⟩ := h
    rfl
  obtain ⟨x, lo, hi, rfl, hl, q⟩ := h
  refine ⟨_, pss_one (ps_ret (pe_callB (cr_all rfl) rfl B.all bt_all (pa_cons (pe_lc (own := [("sign", 3)]) (g := gName 3) (by rfl) scBtw.nd (pi_str (pv 0)) (blkOk_by (own := [("sign", 3)]) (N := ["text", "low", "high", "sign"]) (sc := defScope sBtw) (by decide +kernel))
    (fun _ _ _ _ _ => pg_name (i := 3) scBtw.nd rfl (Or.inl rfl)) (fun _ _ _ _ _ => pts_nil) (fun _ _ _ _ _ => pe_chain op_le_str op_le_str (pv 1) (pv 3) (pv 2))) pa_nil))), ?_⟩
  refine ⟨_, rfl, x, rfl, fun D nD => ?_⟩
  refine lc_it walk_str (fun i H' => Same H (upd H' D (.lst [])) ∧ H' D = some (.lst ((x.cps.toList.take i).map fun c => V.bl (btw lo hi c)))) ⟨?_, upd_same⟩ (fun _ _ _ _ => trivial) ?_ ?_
  · rw [upd_upd]; exact same_new nD _
  · rintro i v H1 H1' hi' ⟨sm, hD⟩ ⟨rfl, c, hc, rfl⟩
    have tk : x.cps.toList.take (i + 1) = x.cps.toList.take i ++ [c] := by
      rw [List.take_add_one, Array.getElem?_toList, hc]; rfl
    have sz : ((x.cps.toList.take i).map fun c => V.bl (btw lo hi c)).length < sizeLine := by
      rw [List.length_map, List.length_take, Array.length_toList]
      have : x.cps.size ≤ 1000000 := hl
      exact smallM (by omega)
    have fin : ∀ b, b = btw lo hi c → Same H (upd (upd H1' D (.lst (((x.cps.toList.take i).map fun c => V.bl (btw lo hi c)) ++ [V.bl b]))) D (.lst [])) ∧ (upd H1' D (.lst (((x.cps.toList.take i).map fun c => V.bl (btw lo hi c)) ++ [V.bl b]))) D = some (.lst ((x.cps.toList.take (i + 1)).map fun c => V.bl (btw lo hi c))) := fun b eb => by
      rw [upd_upd, upd_same, tk, List.map_append, eb]
      exact ⟨sm, rfl⟩
    refine ⟨rfl, tyes (iteT ?_)⟩
    refine ⟨_, rfl, _, rfl, _, _, rfl, rfl, _, rfl, ?_⟩
    rw [le_one]
    refine ite2 (fun e => ?_) (fun e => ?_)
    · refine ⟨_, rfl, _, _, rfl, rfl, _, hD, sz, ?_⟩
      rw [le_one]
      exact fin _ (by unfold btw; rw [e]; rfl)
    · exact ⟨_, hD, sz, fin _ (by unfold btw; rw [Bool.eq_false_iff.mpr e]; rfl)⟩
  · rintro H1 ⟨sm, hD⟩
    have e : (x.cps.toList.take x.cps.size).map (fun c => V.bl (btw lo hi c)) = (x.cps.toList.map (btw lo hi)).map V.bl := by
      rw [List.take_of_length_le (by rw [Array.length_toList]; exact Nat.le_refl _), List.map_map]; rfl
    rw [e] at hD
    refine ⟨D, _, rfl, SqL.of hD, ?_⟩
    have er : (x.cps.toList.map (btw lo hi)).all id = between lo hi x := by
      unfold between; rw [List.all_map]; rfl
    rw [er]
    refine q H1 fun b o e => ?_
    have := sm b o e
    rw [upd_ne (ne_of_none e nD)] at this
    exact this
theorem ok_name (F : Fun K "is_name" "is_name" sName f fd) (G : FnOk P w K mg base CX0 1 g gd ["text", "low", "high"] spBtw) (bG : Binds K gd ["text", "low", "high"] []) (kG : PySem.W.keepIn K (.ref g) = true) (mG : mg "all_between" = some (.ref g)) {t : Tok} (mN : mg "NAME_LETTERS" = some (.int 12 t)) (B : Bl mg) :
    FnOk P w K mg base CX0 2 f fd ["thing"] (spName K) := by
  refine F.ok scName (fun vs H Q E h => ?_) (fun cdv A outer s H vs Q E hr h => ?_)
  · obtain ⟨v, d, rfl, _⟩ := h
    rfl
  obtain ⟨v, d, rfl, hd, hl, q⟩ := h
  refine ⟨_, pss_one (ps_ret (pe_and (pe_isD kit_S rfl B.isi rfl B.str bt_str (pv 0)) (pe_and (pe_chain op_le op_le pe_int (pe_callB call_len_str rfl B.len bt_len (pa_cons (pv 0) pa_nil)) (pe_glob (v := .int 12) rfl mN ⟨_, rfl⟩)) (pe_one (pe_call G hr rfl mG kG bG .nil pass0 (pa_cons (pv 0) (pa_cons pe_str (pa_cons pe_str pa_nil)))))))), ?_⟩
  refine ⟨_, rfl, _, d, rfl, hd, _, rfl, ?_⟩
  cases d with
  | str x =>
    cases hd
    have hx := hl x rfl
    refine iteT ?_
    refine ⟨_, rfl, x, rfl, Nat.le_of_lt (smallM hx), _, _, rfl, rfl, _, rfl, ?_⟩
    refine ite2 (fun e => ?_) (fun e => ?_)
    · refine ⟨_, _, rfl, rfl, _, rfl, ?_⟩
      refine ite2 (fun e2 => ?_) (fun e2 => ?_)
      · refine ⟨_, rfl, x, 97, 122, rfl, hx, fun H' sm => ?_⟩
        have a1 := of_decide_eq_true e
        have a2 := of_decide_eq_true e2
        refine bl_to (q H' sm) ?_
        rw [name_str, decide_eq_true (show 1 ≤ x.length by omega), decide_eq_true (show x.length ≤ 12 by omega)]
        rfl
      · have a2 := of_decide_eq_false (Bool.eq_false_iff.mpr e2)
        refine bl_to (q H (Same.refl H)) ?_
        rw [name_str, decide_eq_false (show ¬ x.length ≤ 12 by omega), Bool.and_false]
        rfl
    · refine ⟨_, rfl, ?_⟩
      refine iteF ?_
      have a1 := of_decide_eq_false (Bool.eq_false_iff.mpr e)
      refine bl_to (q H (Same.refl H)) ?_
      rw [name_str, decide_eq_false (show ¬ 1 ≤ x.length by omega)]
      rfl
  | none => exact iteF (q H (Same.refl H))
  | bool b => exact iteF (q H (Same.refl H))
  | int i => exact iteF (q H (Same.refl H))
  | list xs => exact iteF (q H (Same.refl H))
  | tuple xs => exact iteF (q H (Same.refl H))
  | dict xs => exact iteF (q H (Same.refl H))
theorem ok_short (F : Fun K "is_short_text" "is_short_text" sShort f fd) (G : FnOk P w K mg base CX0 1 g gd ["text", "low", "high"] spBtw) (bG : Binds K gd ["text", "low", "high"] []) (kG : PySem.W.keepIn K (.ref g) = true) (mG : mg "all_between" = some (.ref g)) {t : Tok} (mN : mg "TEXT_SIGNS" = some (.int 40 t)) (B : Bl mg) :
    FnOk P w K mg base CX0 2 f fd ["thing"] (spShort K) := by
  refine F.ok scShort (fun vs H Q E h => ?_) (fun cdv A outer s H vs Q E hr h => ?_)
  · obtain ⟨v, d, rfl, _⟩ := h
    rfl
  obtain ⟨v, d, rfl, hd, hl, q⟩ := h
  refine ⟨_, pss_one (ps_ret (pe_and (pe_isD kit_S rfl B.isi rfl B.str bt_str (pv 0)) (pe_and (pe_cmpR op_le (pe_callB call_len_str rfl B.len bt_len (pa_cons (pv 0) pa_nil)) (pe_glob (v := .int 40) rfl mN ⟨_, rfl⟩) (nomark _)) (pe_one (pe_call G hr rfl mG kG bG .nil pass0 (pa_cons (pv 0) (pa_cons pe_str (pa_cons pe_str pa_nil)))))))), ?_⟩
  refine ⟨_, rfl, _, d, rfl, hd, _, rfl, ?_⟩
  cases d with
  | str x =>
    cases hd
    have hx := hl x rfl
    refine iteT ?_
    refine ⟨_, rfl, x, rfl, Nat.le_of_lt (smallM hx), _, _, rfl, rfl, _, rfl, ?_⟩
    refine ite2 (fun e => ?_) (fun e => ?_)
    · refine ⟨_, rfl, x, 32, 126, rfl, hx, fun H' sm => ?_⟩
      have a1 := of_decide_eq_true e
      refine bl_to (q H' sm) ?_
      rw [short_str, decide_eq_true (show x.length ≤ 40 by omega)]
      rfl
    · have a1 := of_decide_eq_false (Bool.eq_false_iff.mpr e)
      refine bl_to (q H (Same.refl H)) ?_
      rw [short_str, decide_eq_false (show ¬ x.length ≤ 40 by omega)]
      rfl
  | none => exact iteF (q H (Same.refl H))
  | bool b => exact iteF (q H (Same.refl H))
  | int i => exact iteF (q H (Same.refl H))
  | list xs => exact iteF (q H (Same.refl H))
  | tuple xs => exact iteF (q H (Same.refl H))
  | dict xs => exact iteF (q H (Same.refl H))
theorem ok_plain (F : Fun K "is_plain_value" "is_plain_value" sPlain f fd) (G : FnOk P w K mg base CX0 2 g gd ["thing"] (spShort K)) (bG : Binds K gd ["thing"] []) (kG : PySem.W.keepIn K (.ref g) = true) (mG : mg "is_short_text" = some (.ref g)) (B : Bl mg) :
    FnOk P w K mg base CX0 3 f fd ["thing"] (spPlain K) := by
  refine F.ok scPlain (fun vs H Q E h => ?_) (fun cdv A outer s H vs Q E hr h => ?_)
  · obtain ⟨v, d, rfl, _⟩ := h
    rfl
  obtain ⟨v, d, rfl, hd, hl, q⟩ := h
  refine ⟨_, pss_one (ps_ret (pe_or (pe_cmpR op_isN (pv 0) pe_non (nomark _)) (pe_or (pe_callB call_isiT rfl B.isi bt_isi (pa_cons (pv 0) (pa_cons (pe_tup (pa_cons (pe_bltn (v := .ty "bool") rfl B.bool bt_bool rfl) (pa_cons (pe_bltn (v := .ty "int") rfl B.int bt_int rfl) pa_nil))) pa_nil)))
    (pe_one (pe_call G hr rfl mG kG bG .nil pass0 (pa_cons (pv 0) pa_nil)))))), ?_⟩
  refine ⟨_, rfl, rfl, _, rfl, ?_⟩
  have ty : ∀ (b1 b2 : Bool), isB d = b1 → isI d = b2 → PySem.W.kitAny K (.type (tyN d)) [.type "bool", .type "int"] = some (b1 || b2) := fun b1 b2 e1 e2 => by
    subst e1 e2
    refine kitAny_cons (kit_ty (kit_B d)) (fun e => ?_) (fun e => by rw [e]; rfl)
    rw [e]
    refine kitAny_cons (kit_ty (kit_I d)) (fun e => ?_) (fun e => by rw [e]; rfl)
    rw [e]
    rfl
  by_cases hn : v = .non
  · subst hn
    have e : d = .none := by cases hd; rfl
    subst e
    rw [if_pos (decide_eq_true rfl)]
    exact q H (Same.refl H)
  · rw [if_neg (fun e => hn (of_decide_eq_true e))]
    refine ⟨_, rfl, (by show 2 ≤ sizeLine; decide), fun p hp => ⟨_, p, _, _, _, (isB d || isI d), rfl, upd_same, .cons (.ty _) (.cons (.ty _) .nil), tyX_of (same_dp (same_new hp _) hd), ty _ _ rfl rfl, _, rfl, ?_⟩⟩
    have sm := same_new (H := H) hp (.tup [.ty "bool", .ty "int"])
    refine ite2 (fun e => ?_) (fun e => ?_)
    · refine bl_to (q _ sm) ?_
      cases d <;> first | rfl | cases e
    · refine ⟨_, rfl, v, d, rfl, same_dp sm hd, hl, fun H' sm2 => bl_to (q H' (sm.trans sm2)) ?_⟩
      cases d with
      | none => cases hd; exact absurd rfl hn
      | bool b => exact absurd rfl e
      | int b => exact absurd rfl e
      | _ => rfl
theorem ok_leafD (F : Fun K "is_leaf" "is_leaf" sLeaf f fd) (G1 : FnOk P w K mg base CX0 3 g gd ["thing"] (spPlain K)) (bG1 : Binds K gd ["thing"] []) (kG1 : PySem.W.keepIn K (.ref g) = true) (mG1 : mg "is_plain_value" = some (.ref g))
    (G2 : FnOk P w K mg base CX0 2 f2 fd2 ["thing"] (spName K)) (bG2 : Binds K fd2 ["thing"] []) (kG2 : PySem.W.keepIn K (.ref f2) = true) (mG2 : mg "is_name" = some (.ref f2)) : FnOk P w K mg base CX0 4 f fd ["sort", "thing"] (spLeaf K) := by
  refine F.ok scLeaf (fun vs H Q E h => ?_) (fun cdv A outer s H vs Q E hr h => ?_)
  · obtain ⟨so, v, d, rfl, _⟩ := h
    rfl
  obtain ⟨so, v, d, rfl, hd, hl, q⟩ := h
  refine ⟨_, pss_one (ps_ret (pe_ifExp (pt_cmpR op_eq (pv 0) pe_str (nomark _)) (pe_call G1 hr rfl mG1 kG1 bG1 .nil pass0 (pa_cons (pv 1) pa_nil)) (pe_call G2 (hr.mono (by decide)) rfl mG2 kG2 bG2 .nil pass0 (pa_cons (pv 1) pa_nil)))), ?_⟩
  refine ⟨_, rfl, rfl, _, rfl, ?_⟩
  have e : decide (V.str so.txt = V.str "value") = decide (so = .value) := by
    rw [← S.txt_eq]
    by_cases h : so.txt = S.value.txt
    · rw [decide_eq_true h]; exact decide_eq_true (congrArg V.str h)
    · rw [decide_eq_false h]; exact decide_eq_false (fun q => h (V.str.inj q))
  rw [e]
  refine ite2 (fun h => ?_) (fun h => ?_)
  · have h' := of_decide_eq_true h
    subst h'
    exact ⟨_, rfl, v, d, rfl, hd, hl, q⟩
  · have h' := of_decide_eq_false (Bool.eq_false_iff.mpr h)
    refine ⟨_, rfl, v, d, rfl, hd, hl, fun H' sm => bl_to (q H' sm) ?_⟩
    unfold leafOk
    rw [if_neg h']
end
end B1

set_option maxRecDepth 100000
set_option maxHeartbeats 4000000
namespace B1
open PySem PySem.Spec PyProof.Rows L2
/-! ### tables of the top -/
def KTup (K : PySem.W.Frag) (a : Addr) (xs : List V) : Prop := ∃ (o : Obj) (its : Array Value) (n : Nat), K.lookup a = some o ∧ o.cls = .type "tuple" ∧ o.data = .seq its n ∧ its.size ≤ sizeLine ∧ Vals xs its.toList
theorem KTup.sq {K : PySem.W.Frag} {a : Addr} {xs : List V} (h : KTup K a xs) (H : Hp) : SqT K H a xs := .inr h
structure TabR {β : Type} (K : PySem.W.Frag) (w : World) (d : Addr) (R : Value → β → Prop) (T : List (Str × β)) (es : Array DictEntry) (n : Nat) : Prop where
  dict : KDict K w d es n
  rows : Paired (fun (e : DictEntry) (p : Str × β) => (∃ t, e.key = .str p.1 t) ∧ R e.val p.2) es.toList T
theorem tab_find {β : Type} {R : Value → β → Prop} (z : Str) : ∀ {l : List DictEntry} {T : List (Str × β)}, Paired (fun (e : DictEntry) (p : Str × β) => (∃ t, e.key = .str p.1 t) ∧ R e.val p.2) l T →
    (l.any (·.refKey) = false) ∧ ((∃ e b, l.find? (·.key.isStr z) = some e ∧ T.lookup z = some b ∧ R e.val b) ∨ (l.find? (·.key.isStr z) = none ∧ T.lookup z = none))
  | _, _, .nil => ⟨rfl, .inr ⟨rfl, rfl⟩⟩
  | e :: l, p :: T, .cons ⟨⟨t, hk⟩, hr⟩ r => by
    obtain ⟨h1, h2⟩ := tab_find z r
    have k1 : e.refKey = false := by
      unfold DictEntry.refKey; rw [hk]
    refine ⟨by rw [List.any_cons, k1, h1]; rfl, ?_⟩
    by_cases hz : z = p.1
    · refine .inl ⟨e, p.2, ?_, ?_, hr⟩
      · rw [List.find?_cons]
        have : e.key.isStr z = true := by rw [hk, hz, PySem.W.isStr_of]; exact L2.keyIs_str p.1 t
        rw [this]
      · obtain ⟨k, b⟩ := p
        simp only at hz
        subst hz
        simp [List.lookup]
    · have f1 : e.key.isStr z = false := by
        rw [hk, PySem.W.isStr_of]
        cases q : Value.isStrOf z (.str p.1 t) with
        | false => rfl
        | true =>
          obtain ⟨t', e'⟩ := Value.isStrOf_shape q
          injection e' with e1
          exact absurd e1.symm hz
      have f2 : ((p :: T).lookup z) = T.lookup z := by
        obtain ⟨k, b⟩ := p
        simp only [List.lookup]
        have : (z == k) = false := by simpa using hz
        rw [this]
      rw [List.find?_cons, f1, f2]
      exact h2
theorem TabR.look {β : Type} {K : PySem.W.Frag} {w : World} {d : Addr} {R : Value → β → Prop} {T : List (Str × β)} {es : Array DictEntry} {n : Nat} (t : TabR K w d R T es n) (z : Str) :
    (∃ u b, PySem.W.nsIn K d z = some (some u) ∧ T.lookup z = some b ∧ R u b) ∨ (PySem.W.nsIn K d z = some none ∧ T.lookup z = none) := by
  obtain ⟨h1, h2⟩ := tab_find z t.rows
  unfold PySem.W.nsIn
  rw [t.dict.at_]
  simp only
  rcases h2 with ⟨e, b, f1, f2, f3⟩ | ⟨f1, f2⟩
  · exact .inl ⟨e.val, b, by rw [f1], f2, f3⟩
  · refine .inr ⟨?_, f2⟩
    rw [f1, h1]
    rfl
def RTup (K : PySem.W.Frag) (u : Value) (sh : List S) : Prop := ∃ a, u = .ref a ∧ KTup K a (sh.map fun s => V.str s.txt)
def RStr (u : Value) (s : S) : Prop := ∃ t, u = .str s.txt t
def manyTab : List (Str × S) := [("body", .row), ("es", .e)]
/-- what the module bodies has at its top -/
structure Tx (K : PySem.W.Frag) (w : World) (mg : Str → Option Value) (dR dE dM dL : Addr) (eR eE eM : Array DictEntry) (nR nE nM : Nat) : Prop where
  bl : Bl mg
  gR : mg "ROWS" = some (.ref dR)
  gE : mg "ES" = some (.ref dE)
  gM : mg "MANY" = some (.ref dM)
  gL : mg "LEAVES" = some (.ref dL)
  tR : TabR K w dR (RTup K) rowTab eR nR
  tE : TabR K w dE (RTup K) eTab eE nE
  tM : TabR K w dM RStr manyTab eM nM
  tL : KTup K dL ([S.name, .field, .word, .kind, .value].map fun s => V.str s.txt)
def shapeD (s : S) : PyData → Option (List S)
  | .str w => shape s w
  | _ => none
abbrev sShape : Stmt := top 13
abbrev sParts : Stmt := top 14
theorem scShape : FnScope ["sort", "word"] ["sort", "word"] (defScope sShape) := ⟨rfl, rfl, rfl, by decide +kernel, rfl, by decide +kernel, by decide +kernel⟩
def spShape (K : PySem.W.Frag) : Sp := fun vs H Q _ => ∃ (s : S) (v : V) (d : PyData), vs = [.str s.txt, v] ∧ Dp K H v d ∧ (shapeD s d = none → Q .non H) ∧ ∀ sh a, shapeD s d = some sh → KTup K a (sh.map fun s => V.str s.txt) → Q (.ref a) H
theorem txt_dec (s : S) (x : Str) (k : S) (e : x = k.txt) : decide (V.str s.txt = V.str x) = decide (s = k) := by
  rw [← S.txt_eq, e]
  by_cases h : s.txt = k.txt
  · rw [decide_eq_true h]; exact decide_eq_true (congrArg V.str h)
  · rw [decide_eq_false h]; exact decide_eq_false (fun q => h (V.str.inj q))
section
variable {P : Program} {w : World} {K : PySem.W.Frag} {mg : Str → Option Value} {base : Heap} {f g f2 : Addr} {fd gd fd2 : FuncData} {dR dE dM dL : Addr} {eR eE eM : Array DictEntry} {nR nE nM : Nat}
theorem ok_shape (F : Fun K "shape_of" "shape_of" sShape f fd) (T : Tx K w mg dR dE dM dL eR eE eM nR nE nM) : FnOk P w K mg base CX0 1 f fd ["sort", "word"] (spShape K) := by
  refine F.ok scShape (fun vs H Q E h => ?_) (fun cdv A outer s H vs Q E hr h => ?_)
  · obtain ⟨so, v, d, rfl, _⟩ := h
    rfl
  obtain ⟨so, v, d, rfl, hd, q0, q1⟩ := h
  refine ⟨_, pss_cons (ps_if (pt_not (pt_val (pe_isD kit_S rfl T.bl.isi rfl T.bl.str bt_str (pv 1)))) (pss_one (ps_ret pe_non)) pss_nil)
    (pss_one (ps_ret (pe_ifExp (pt_cmpR op_eq (pv 0) pe_str (nomark _)) (pe_kget (pe_glob (v := .ref dR) rfl T.gR rfl) (pv 1) ⟨rfl, rfl, rfl, rfl⟩) (pe_kget (pe_glob (v := .ref dE) rfl T.gE rfl) (pv 1) ⟨rfl, rfl, rfl, rfl⟩)))), ?_⟩
  refine ⟨_, rfl, _, d, rfl, hd, _, rfl, ?_⟩
  cases d with
  | str x =>
    cases hd
    refine iteF ?_
    refine ⟨_, rfl, rfl, _, rfl, ?_⟩
    rw [txt_dec so "row" .row rfl]
    refine ite2 (fun h => ?_) (fun h => ?_)
    · have h' := of_decide_eq_true h
      subst h'
      refine ⟨dR, eR, nR, rfl, T.tR.dict, _, rfl, x, ?_⟩
      rcases T.tR.look x with ⟨u, b, f1, f2, a, rfl, f3⟩ | ⟨f1, f2⟩
      · exact ⟨_, rfl, f1, (fun e => nomatch e), fun u e => by cases e; exact ⟨.ref a, rfl, q1 b a f2 f3⟩⟩
      · exact ⟨_, rfl, f1, fun _ => q0 f2, fun u e => nomatch e⟩
    · have h' := of_decide_eq_false (Bool.eq_false_iff.mpr h)
      refine ⟨dE, eE, nE, rfl, T.tE.dict, _, rfl, x, ?_⟩
      have et : shapeD so (.str x) = eTab.lookup x := by
        show (tab so).lookup x = eTab.lookup x
        cases so <;> first | rfl | exact absurd rfl h'
      rcases T.tE.look x with ⟨u, b, f1, f2, a, rfl, f3⟩ | ⟨f1, f2⟩
      · exact ⟨_, rfl, f1, (fun e => nomatch e), fun u e => by cases e; exact ⟨.ref a, rfl, q1 b a (et.trans f2) f3⟩⟩
      · exact ⟨_, rfl, f1, fun _ => q0 (et.trans f2), fun u e => nomatch e⟩
  | none => exact iteT (q0 rfl)
  | bool b => exact iteT (q0 rfl)
  | int i => exact iteT (q0 rfl)
  | list xs => exact iteT (q0 rfl)
  | tuple xs => exact iteT (q0 rfl)
  | dict xs => exact iteT (q0 rfl)
end
end B1

set_option maxRecDepth 100000
set_option maxHeartbeats 4000000
namespace B1
open PySem PySem.Spec PyProof.Rows L2
/-- a pair (sort, part) of a stack -/
def PairAt (K : PySem.W.Frag) (Hb H : Hp) (x : V) (p : S × PyData) : Prop := ∃ (t : Addr) (v : V), x = .ref t ∧ H t = some (.tup [.str p.1.txt, v]) ∧ Dp K Hb v p.2
/-- the pairs of a stack: their tuples stand in H, their things in Hb already -/
abbrev Stk (K : PySem.W.Frag) (Hb H : Hp) : List V → List (S × PyData) → Prop := Paired (PairAt K Hb H)
theorem Stk.keep {K : PySem.W.Frag} {Hb H H' : Hp} {xs : List V} {ps : List (S × PyData)} (h : Stk K Hb H xs ps) (e : ∀ b ys, H b = some (.tup ys) → H' b = some (.tup ys)) : Stk K Hb H' xs ps := Paired.mapP h fun _ _ ⟨t, v, h1, h2, h3⟩ => ⟨t, v, h1, e _ _ h2, h3⟩
theorem paired_app {α β : Type} {F : α → β → Prop} : ∀ {a : List α} {b : List β} {c : List α} {d : List β}, Paired F a b → Paired F c d → Paired F (a ++ c) (b ++ d)
  | _, _, _, _, .nil, h => h
  | _, _, _, _, .cons r t, h => .cons r (paired_app t h)
theorem paired_snoc {α β : Type} {F : α → β → Prop} : ∀ {a : List α} {b : List β} {y : β}, Paired F a (b ++ [y]) → ∃ a' x, a = a' ++ [x] ∧ Paired F a' b ∧ F x y
  | _, [], y, .cons r .nil => ⟨[], _, rfl, .nil, r⟩
  | _, b :: bs, y, .cons r t => by
    obtain ⟨a', x, e, h1, h2⟩ := paired_snoc (b := bs) t
    exact ⟨_ :: a', x, by rw [e]; rfl, .cons r h1, h2⟩
theorem paired_of {α β : Type} {F : α → β → Prop} : ∀ {a : List α} {b : List β}, a.length = b.length → (∀ (i : Nat) (x : α) (y : β), a[i]? = some x → b[i]? = some y → F x y) → Paired F a b
  | [], [], _, _ => .nil
  | x :: a, y :: b, h, k => .cons (k 0 x y rfl rfl) (paired_of (Nat.succ.inj h) fun i u v hu hv => k (i + 1) u v (by simpa using hu) (by simpa using hv))
theorem cut1 (xs : List V) : cutV xs (some 1) none = xs.drop 1 := by
  unfold cutV
  have e1 : HT.sIx xs.length 0 (some 1) = min 1 xs.length := HT.sIx_nat xs.length 0 1
  rw [e1, HT.sIx_none]
  cases xs with
  | nil => rfl
  | cons x r =>
    have e2 : min 1 (x :: r).length = 1 := by simp only [List.length_cons]; omega
    rw [e2]
    show List.take ((x :: r).length - 1) r = r
    simp
theorem scParts : FnScope ["sort", "thing", "shape", "part"] ["sort", "thing"] (defScope sParts) := ⟨rfl, rfl, rfl, by decide +kernel, rfl, by decide +kernel, by decide +kernel⟩
def spParts (K : PySem.W.Frag) : Sp := fun vs H Q _ => ∃ (Hb : Hp) (s : S) (v : V) (d : PyData), vs = [.str s.txt, v] ∧ Same Hb H ∧ Dp K Hb v d ∧ s.leaf = false ∧ sz d ≤ 1000000 ∧ (parts s d = none → ∀ H', Same H H' → Q .non H') ∧
  ∀ ps p xs H', parts s d = some ps → Same H H' → H p = none → H' p = some (.lst xs) → Stk K Hb H' xs ps → Q (.ref p) H'
theorem many_mem {s : S} (h : s.leaf = false) : (manyTab.lookup s.txt).isSome = (decide (s = .body) || decide (s = .es)) := by
  cases s <;> first | (exact absurd h (by decide)) | decide +kernel
section
variable {P : Program} {w : World} {K : PySem.W.Frag} {mg : Str → Option Value} {base : Heap} {f g f2 : Addr} {fd gd fd2 : FuncData} {dR dE dM dL : Addr} {eR eE eM : Array DictEntry} {nR nE nM : Nat}
theorem ok_parts (F : Fun K "parts_of" "parts_of" sParts f fd) (T : Tx K w mg dR dE dM dL eR eE eM nR nE nM) (G : FnOk P w K mg base CX0 1 g gd ["sort", "word"] (spShape K)) (bG : Binds K gd ["sort", "word"] []) (kG : PySem.W.keepIn K (.ref g) = true) (mG : mg "shape_of" = some (.ref g)) :
    FnOk P w K mg base CX0 2 f fd ["sort", "thing"] (spParts K) := by
  refine F.ok scParts (fun vs H Q E h => ?_) (fun cdv A outer s H vs Q E hr h => ?_)
  · obtain ⟨Hb, so, v, d, rfl, _⟩ := h
    rfl
  obtain ⟨Hb, so, v, d, rfl, sb, hdb, hsl, hsz, q0, q1⟩ := h
  have hd := same_dp sb hdb
  refine ⟨_, pss_cons (ps_if (pt_not (pt_val (pe_isD kit_T rfl T.bl.isi rfl T.bl.tuple bt_tuple (pv 1)))) (pss_one (ps_ret pe_non)) pss_nil)
    (pss_cons (ps_if (pt_cmpR (op_in_kd T.tM.dict) (pv 0) (pe_glob (v := .ref dM) rfl T.gM rfl) rfl)
      (pss_one (ps_ret (pe_lc (own := [("part", 3)]) (g := gName 3) (by rfl) scParts.nd (pi_tup (pv 1)) (blkOk_by (own := [("part", 3)]) (N := ["sort", "thing", "shape", "part"]) (sc := defScope sParts) (by decide +kernel))
        (fun _ _ _ _ _ => pg_name (i := 3) scParts.nd rfl (Or.inl rfl)) (fun _ _ _ _ _ => pts_nil) (fun _ _ _ _ _ => pe_tup (pa_cons (pe_ix (show IxR _ (rIxD K w) from ix_kdict) (pe_glob (v := .ref dM) rfl T.gM rfl) (pv 0) (fun _ _ => rfl)) (pa_cons (pv 3) pa_nil)))))) pss_nil)
    (pss_cons (ps_set (i := 2) scParts.nd rfl (.inl rfl) (pe_ifExp (pt_cmpR op_gt (pe_callB call_len_seq rfl T.bl.len bt_len (pa_cons (pv 1) pa_nil)) pe_int (nomark _)) (pe_call G hr rfl mG kG bG .nil pass0 (pa_cons (pv 0) (pa_cons (pe_ix ix_tup (pv 1) pe_int (fun _ _ => rfl)) pa_nil))) pe_non))
    (pss_cons (ps_if (PW.pt (pw_or (pt_cmpR op_isN (pv 2) pe_non (nomark _)) (pw_or1 (pt_cmpR op_ne (pe_callB call_len_seq rfl T.bl.len bt_len (pa_cons (pv 2) pa_nil)) (pe_op op_sub (pe_callB call_len_seq rfl T.bl.len bt_len (pa_cons (pv 1) pa_nil)) pe_int) (nomark _))))) (pss_one (ps_ret pe_non)) pss_nil)
    (pss_one (ps_ret (pe_listZip rfl rfl T.bl.list rfl T.bl.zip (pa_cons (pv 2) (pa_cons (pe_slice sl_tup (pv 1) (po_some pe_int) po_none) pa_nil)))))))), ?_⟩
  refine ⟨_, rfl, _, d, rfl, hd, _, rfl, ?_⟩
  have none_of : (∀ ds, d ≠ .tuple ds) → parts so d = none := fun h => by
    cases d <;> first | rfl | exact absurd rfl (h _)
  cases d with
  | tuple ds =>
    refine iteF ?_
    obtain ⟨a, xs, rfl, hTb, hD⟩ := Dp.tupD hdb
    have hT := (Kept.of sb).sqT hTb
    have len := dps_len hD
    have small : ds.length ≤ 1000000 := by
      have := szAll_len ds
      simp only [sz] at hsz
      omega
    have many := many_mem hsl
    by_cases hm : so = .body ∨ so = .es
    · -- [(MANY[sort], part) for part in thing]
      obtain ⟨k, hk, hp⟩ : ∃ k : S, manyTab.lookup so.txt = some k ∧ parts so (.tuple ds) = some (ds.map (Prod.mk k)) := by
        rcases hm with rfl | rfl
        · exact ⟨.row, by decide +kernel, rfl⟩
        · exact ⟨.e, by decide +kernel, rfl⟩
      rcases T.tM.look so.txt with ⟨u, b, f1, f2, t, rfl⟩ | ⟨f1, f2⟩
      · have eb : b = k := Option.some.inj (f2.symm.trans hk)
        subst eb
        refine ⟨_, rfl, so.txt, _, rfl, rfl, f1, _, rfl, iteT ?_⟩
        refine ⟨_, rfl, a, rfl, ⟨_, hT⟩, fun D nD => ?_⟩
        refine lc_tup (K := K) (a := a) (xs := xs) (fun i H' => ∃ ts : List Addr, Same H H' ∧ H' D = some (.lst (ts.map V.ref)) ∧ ts.length = i ∧ ∀ (j : Nat) (t : Addr) (x : V), ts[j]? = some t → xs[j]? = some x → t ≠ D ∧ H' t = some (.tup [.str b.txt, x])) ?_ ?_ ?_ ?_
        · exact ⟨[], same_new nD _, upd_same, rfl, fun j t x h => by simp at h⟩
        · rintro i H1 hi ⟨ts, s1, _⟩
          exact (Kept.of s1).sqT hT
        · rintro i x H1 hx ⟨ts, s1, hD1, hl1, at1⟩
          refine ⟨rfl, tyes (iteT ?_)⟩
          refine ⟨_, rfl, dM, so.txt, .str b.txt, rfl, rfl, ⟨eM, nM, _, T.tM.dict.at_, T.tM.dict.lit, f1, ⟨t, rfl⟩⟩, _, rfl, (by show 2 ≤ sizeLine; decide), fun p hp' => ?_⟩
          have nD2 : D ≠ p := ne_of_none hD1 hp'
          refine ⟨ts.map V.ref, by rw [upd_ne nD2]; exact hD1, ?_, ts ++ [p], ?_, by rw [List.map_append]; exact upd_same, by rw [List.length_append, hl1]; rfl, ?_⟩
          · have : i < xs.length := (List.getElem?_eq_some_iff.mp hx).1
            rw [List.length_map, hl1]
            exact Nat.lt_of_lt_of_le this (by rw [len]; exact Nat.le_trans small (by decide))
          · exact same_over (s1.trans (same_new hp' _)) nD
          · intro j t' x' e1 e2
            by_cases hj : j < ts.length
            · rw [List.getElem?_append_left hj] at e1
              obtain ⟨n1, n2⟩ := at1 j t' x' e1 e2
              refine ⟨n1, ?_⟩
              rw [upd_ne n1, upd_ne (ne_of_none n2 hp')]
              exact n2
            · rw [List.getElem?_append_right (by omega)] at e1
              cases hq : j - ts.length with
              | succ n => rw [hq] at e1; cases e1
              | zero =>
                rw [hq] at e1
                cases e1
                have : j = i := by omega
                subst this
                have : x' = x := Option.some.inj (e2.symm.trans hx)
                subst this
                refine ⟨nD2.symm, ?_⟩
                rw [upd_ne nD2.symm, upd_same]
        · rintro H1 ⟨ts, s1, hD1, hl1, at1⟩
          refine q1 _ D _ H1 hp s1 nD hD1 (paired_of (by rw [List.length_map, List.length_map, hl1, len]) fun i x y ex ey => ?_)
          rw [List.getElem?_map] at ex ey
          cases q3 : ts[i]? with
          | none => rw [q3] at ex; cases ex
          | some t1 =>
            rw [q3] at ex
            cases ex
            cases q4 : ds[i]? with
            | none => rw [q4] at ey; cases ey
            | some d1 =>
              rw [q4] at ey
              cases ey
              obtain ⟨v1, g1, g2⟩ := dps_get hD q4
              exact ⟨t1, v1, rfl, (at1 i t1 v1 q3 g1).2, g2⟩
      · rw [f2] at hk; cases hk
    · -- shape = ..
      have hno : manyTab.lookup so.txt = none := by
        have h1 : decide (so = .body) = false := decide_eq_false fun e => hm (.inl e)
        have h2 : decide (so = .es) = false := decide_eq_false fun e => hm (.inr e)
        rw [h1, h2] at many
        exact Option.not_isSome_iff_eq_none.mp (by rw [many]; decide)
      have hpw : parts so (.tuple ds) = partsW so ds := by
        cases so <;> first | rfl | exact absurd (.inl rfl) hm | exact absurd (.inr rfl) hm
      rcases T.tM.look so.txt with ⟨u, b, f1, f2, _⟩ | ⟨f1, f2⟩
      · rw [f2] at hno; cases hno
      refine ⟨_, rfl, so.txt, _, rfl, rfl, f1, _, rfl, iteF ?_⟩
      refine ⟨_, rfl, a, xs, rfl, .inr hT, _, _, rfl, rfl, _, rfl, ?_⟩
      have noShape : parts so (.tuple ds) = none → ∃ x, (some (some V.non) : Option (Option V)) = some (some x) ∧ True := fun _ => ⟨_, rfl, trivial⟩
      cases ds with
      | nil =>
        cases hD
        refine iteF ?_
        exact ⟨_, rfl, rfl, _, rfl, iteT (iteT (q0 (by rw [hpw]; rfl) H (Same.refl H)))⟩
      | cons d0 dr =>
        cases hD with
        | @cons v0 xr _ _ h0 hr' =>
          have lr := dps_len hr'
          refine (show if decide (((v0 :: xr).length : Int) > 0) = true then _ else _ from ?_)
          rw [if_pos (decide_eq_true (by rw [List.length_cons]; omega))]
          refine ⟨_, rfl, _, rfl, a, _, _, v0, rfl, rfl, hT, atI_nat (j := 0) rfl, so, v0, d0, rfl, same_dp sb h0, fun hn => ?_, fun sh sa hsome hkt => ?_⟩
          · refine ⟨_, rfl, rfl, _, rfl, iteT (iteT (q0 ?_ H (Same.refl H)))⟩
            rw [hpw]
            cases d0 with
            | str x => simp only [partsW]; rw [show shape so x = none from hn]
            | _ => rfl
          · obtain ⟨x, rfl⟩ : ∃ x, d0 = .str x := by
              cases d0 with
              | str x => exact ⟨x, rfl⟩
              | _ => cases hsome
            have hsq : ∀ H', SqT K H' sa (sh.map fun s => V.str s.txt) := fun H' => hkt.sq H'
            refine ⟨_, rfl, rfl, _, rfl, iteF ?_⟩
            refine ⟨_, rfl, sa, _, rfl, .inr (hsq _), _, rfl, a, _, rfl, .inr hT, _, _, rfl, rfl, rfl, _, rfl, ?_⟩
            have el : (!decide (V.int (((sh.map fun s => V.str s.txt).length : Nat) : Int) = V.int (((v0 :: xr).length : Nat) - (1 : Int)))) = !decide (sh.length = dr.length) := by
              congr 1
              rw [List.length_map, List.length_cons]
              by_cases hq : sh.length = dr.length
              · rw [decide_eq_true hq]; exact decide_eq_true (congrArg V.int (by omega))
              · rw [decide_eq_false hq]; exact decide_eq_false fun z => hq (by have := V.int.inj z; omega)
            have pw : partsW so (.str x :: dr) = if sh.length = dr.length then some (sh.zip dr) else none := by
              simp only [partsW]
              rw [show shape so x = some sh from hsome]
            rw [el]
            by_cases hq : sh.length = dr.length
            · rw [decide_eq_true hq]
              refine iteF ?_
              refine ⟨_, rfl, _, rfl, 1, rfl, a, _, rfl, hT, ?_, fun c nc => ?_⟩
              · rintro ⟨z1, _⟩
                have e1 : HT.sIx (v0 :: xr).length 0 (some 1) = min 1 (v0 :: xr).length := HT.sIx_nat _ 0 1
                rw [e1, List.length_cons] at z1
                omega
              · have s1 := same_new (H := H) nc (.tup (cutV (v0 :: xr) (some 1) none))
                have hc : SqT K (upd H c (.tup (cutV (v0 :: xr) (some 1) none))) c xr := by
                  have := SqT.of (K := K) (H := upd H c (.tup (cutV (v0 :: xr) (some 1) none))) upd_same
                  rw [cut1] at this
                  rw [cut1]
                  exact this
                refine ⟨sa, c, _, xr, rfl, hsq _, hc, by rw [List.length_map]; omega, fun H' p ts s2 np nts npt hp hlt hat => ?_⟩
                have np0 : H p = none := s1.free np
                refine q1 _ p _ H' (by rw [hpw, pw, if_pos hq]) (s1.trans s2) np0 hp (paired_of ?_ fun i y z ey ez => ?_)
                · rw [List.length_map, hlt, List.length_map, List.length_zip]; omega
                · rw [List.getElem?_map] at ey
                  cases q3 : ts[i]? with
                  | none => rw [q3] at ey; cases ey
                  | some t1 =>
                    rw [q3] at ey
                    cases ey
                    obtain ⟨sk, dk⟩ := z
                    obtain ⟨e1, e2⟩ := List.getElem?_zip_eq_some.mp ez
                    obtain ⟨v1, g1, g2⟩ := dps_get hr' e2
                    exact ⟨t1, v1, rfl, hat i t1 _ v1 q3 (by rw [List.getElem?_map, e1]; rfl) g1, g2⟩
            · rw [decide_eq_false hq]
              refine iteT (q0 ?_ H (Same.refl H))
              rw [hpw, pw, if_neg hq]
  | none => exact iteT (q0 rfl H (Same.refl H))
  | bool b => exact iteT (q0 rfl H (Same.refl H))
  | int i => exact iteT (q0 rfl H (Same.refl H))
  | list xs => exact iteT (q0 rfl H (Same.refl H))
  | str xs => exact iteT (q0 rfl H (Same.refl H))
  | dict xs => exact iteT (q0 rfl H (Same.refl H))
end
end B1

set_option maxRecDepth 100000
set_option maxHeartbeats 4000000
namespace B1
open PySem PySem.Spec PyProof.Rows L2
abbrev sBody : Stmt := top 15
theorem scBody : FnScope ["thing", "waiting", "sort", "part", "parts"] ["thing"] (defScope sBody) := ⟨rfl, rfl, rfl, by decide +kernel, rfl, by decide +kernel, by decide +kernel⟩
def spBody (K : PySem.W.Frag) : Sp := fun vs H Q _ => ∃ (v : V) (d : PyData) (n : Nat), vs = [v] ∧ Dp K H v d ∧ d.depth < n ∧ sz d ≤ 1000000 ∧ ∀ H', Same H H' → Q (.bl (ok n .body d)) H'
theorem leaves_in0 (s : S) : inV (.str s.txt) ([S.name, .field, .word, .kind, .value].map fun s => V.str s.txt) = s.leaf := by
  cases s <;> decide +kernel
/-- the stack of a walk, at l; the things stand in Hb -/
structure Wk (K : PySem.W.Frag) (Hb H : Hp) (l : Addr) (n : Nat) (st : List (S × PyData)) : Prop where
  new : Hb l = none
  same : Same Hb H
  at_ : ∃ xs, H l = some (.lst xs) ∧ Stk K Hb H xs st
  dep : ∀ p ∈ st, p.2.depth < n
  siz : szP st ≤ 1000000
theorem Wk.tup_ne {K : PySem.W.Frag} {Hb H : Hp} {l : Addr} {n : Nat} {st : List (S × PyData)} (W : Wk K Hb H l n st) {t : Addr} {ys : List V} (h : H t = some (.tup ys)) : t ≠ l := by
  obtain ⟨xs, h1, _⟩ := W.at_
  exact ne_of h h1 (by intro z; cases z)
/-- something was done that changes nothing of what stood -/
theorem Wk.after {K : PySem.W.Frag} {Hb H H' : Hp} {l : Addr} {n : Nat} {st : List (S × PyData)} (W : Wk K Hb H l n st) (e : Same H H') : Wk K Hb H' l n st := by
  obtain ⟨xs, h1, h2⟩ := W.at_
  exact ⟨W.new, W.same.trans e, ⟨xs, e _ _ h1, h2.keep fun b ys q => e _ _ q⟩, W.dep, W.siz⟩
/-- the last one is taken -/
theorem Wk.pop {K : PySem.W.Frag} {Hb H : Hp} {l : Addr} {n : Nat} {st : List (S × PyData)} {p : S × PyData} (W : Wk K Hb H l n (st ++ [p])) : ∃ xs t v, H l = some (.lst (xs ++ [.ref t])) ∧ (∀ o, upd H l o t = some (.tup [.str p.1.txt, v])) ∧ Dp K Hb v p.2 ∧ Wk K Hb (upd H l (.lst xs)) l n st := by
  obtain ⟨xs, h1, h2⟩ := W.at_
  obtain ⟨xs', x, rfl, h3, t, v, rfl, h4, h5⟩ := paired_snoc h2
  have nt := W.tup_ne h4
  refine ⟨xs', t, v, h1, fun o => by rw [upd_ne nt]; exact h4, h5, W.new, same_over W.same W.new, ⟨xs', upd_same, Stk.keep h3 fun b ys q => ?_⟩, fun p hp => W.dep p (List.mem_append_left _ hp), ?_⟩
  · rw [upd_ne (W.tup_ne q)]; exact q
  · have := W.siz
    rw [szP_append] at this
    omega
/-- others are put behind -/
theorem Wk.ext {K : PySem.W.Frag} {Hb H : Hp} {l : Addr} {n : Nat} {st ps : List (S × PyData)} {xs ys : List V} (W : Wk K Hb H l n st) (hx : H l = some (.lst xs)) (hs : Stk K Hb H ys ps) (hd : ∀ p ∈ ps, p.2.depth < n) (hz : szP st + szP ps ≤ 1000000) : Wk K Hb (upd H l (.lst (xs ++ ys))) l n (st ++ ps) := by
  obtain ⟨xs', h1, h2⟩ := W.at_
  have e : xs' = xs := by
    rw [hx] at h1
    cases h1
    rfl
  subst e
  refine ⟨W.new, same_over W.same W.new, ⟨_, upd_same, paired_app (h2.keep fun b zs q => ?_) (hs.keep fun b zs q => ?_)⟩, fun p hp => ?_, by rw [szP_append]; exact hz⟩
  · rw [upd_ne (W.tup_ne q)]; exact q
  · rw [upd_ne (W.tup_ne q)]; exact q
  · rcases List.mem_append.mp hp with h | h
    · exact W.dep p h
    · exact hd p h
theorem stk_len {K : PySem.W.Frag} {Hb H : Hp} {xs : List V} {st : List (S × PyData)} (h : Stk K Hb H xs st) : xs.length ≤ szP st := by
  rw [Paired.length h]
  have := szAll_len (st.map (·.2))
  rw [List.length_map] at this
  exact this
theorem szP_pos {p : S × PyData} {st : List (S × PyData)} : szP (st ++ [p]) = szP st + sz p.2 := by
  rw [szP_append]
  show szP st + (sz p.2 + 0) = _
  omega
theorem str_sz {n : Nat} {d : PyData} (h : sz d ≤ n) : ∀ x, d = .str x → x.length ≤ n := fun x e => by
  subst e
  simp only [sz] at h
  omega
section
variable {P : Program} {w : World} {K : PySem.W.Frag} {mg : Str → Option Value} {base : Heap} {f g f2 : Addr} {fd gd fd2 : FuncData} {dR dE dM dL : Addr} {eR eE eM : Array DictEntry} {nR nE nM : Nat}
theorem ok_body (F : Fun K "is_body" "is_body" sBody f fd) (T : Tx K w mg dR dE dM dL eR eE eM nR nE nM)
    (G1 : FnOk P w K mg base CX0 4 g gd ["sort", "thing"] (spLeaf K)) (bG1 : Binds K gd ["sort", "thing"] []) (kG1 : PySem.W.keepIn K (.ref g) = true) (mG1 : mg "is_leaf" = some (.ref g))
    (G2 : FnOk P w K mg base CX0 2 f2 fd2 ["sort", "thing"] (spParts K)) (bG2 : Binds K fd2 ["sort", "thing"] []) (kG2 : PySem.W.keepIn K (.ref f2) = true) (mG2 : mg "parts_of" = some (.ref f2)) :
    FnOk P w K mg base CX0 5 f fd ["thing"] (spBody K) := by
  refine F.ok scBody (fun vs H Q E h => ?_) (fun cdv A outer s H vs Q E hr h => ?_)
  · obtain ⟨v, d, n, rfl, _⟩ := h
    rfl
  obtain ⟨v, d, n, rfl, hd, hn, hz, q⟩ := h
  refine ⟨_, pss_cons (ps_set (i := 1) scBody.nd rfl (.inl rfl) (pe_lst (pa_cons (pe_tup (pa_cons pe_str (pa_cons (pv 0) pa_nil))) pa_nil)))
    (pss_cons (ps_while PassesOwn.never (pt_truth (pv 1) (by intro _; rfl))
      (pss_cons (ps_asg (pe_bm0 PySem.F.plainAttrs_list PySem.F.slot_list_pop PySem.F.type_list_pop mt_pop (pv 1)) (pg_tup (by rfl) (pgs_cons (pg_name (i := 2) scBody.nd rfl (.inl rfl)) (pgs_cons (pg_name (i := 3) scBody.nd rfl (.inl rfl)) pgs_nil))))
      (pss_one (ps_if (pt_cmpR op_in_seq (pv 2) (pe_glob (v := .ref dL) rfl T.gL rfl) rfl)
        (pss_one (ps_if (pt_not (pt_val (pe_call G1 hr rfl mG1 kG1 bG1 .nil pass0 (pa_cons (pv 2) (pa_cons (pv 3) pa_nil))))) (pss_one (ps_ret pe_bl)) pss_nil))
        (pss_cons (ps_set (i := 4) scBody.nd rfl (.inl rfl) (pe_call G2 (hr.mono (by decide)) rfl mG2 kG2 bG2 .nil pass0 (pa_cons (pv 2) (pa_cons (pv 3) pa_nil))))
        (pss_cons (ps_if (pt_cmpR op_isN (pv 4) pe_non (nomark _)) (pss_one (ps_ret pe_bl)) pss_nil)
        (pss_one (ps_expr (pe_bm PySem.F.plainAttrs_list PySem.F.slot_list_extend PySem.F.type_list_extend mt_extend (pv 1) (pa_cons (pv 4) pa_nil))))))))))
    (pss_one (ps_ret pe_bl))), ?_⟩
  -- waiting = [('body', thing)]
  refine ⟨_, rfl, (by show 2 ≤ sizeLine; decide), fun t0 ht0 => ⟨(by show 1 ≤ sizeLine; decide), fun l hl => ?_⟩⟩
  have s0 : Same H (upd H t0 (.tup [.str "body", v])) := same_new ht0 _
  have nl : H l = none := s0.free hl
  have nlt : t0 ≠ l := fun e => by rw [← e, upd_same] at hl; cases hl
  refine ⟨fun m σ H1 => ∃ st y2 y3 y4, σ = [some v, some (.ref l), y2, y3, y4] ∧ Wk K H H1 l n st ∧ m = szP st ∧ (st.all fun p => ok n p.1 p.2) = ok n .body d, ⟨_, [(.body, d)], none, none, none, rfl, ?_, rfl, ?_⟩, ?_⟩
  · refine ⟨nl, same_over s0 nl, ⟨_, upd_same, .cons ⟨t0, v, rfl, by rw [upd_ne nlt]; exact upd_same, hd⟩ .nil⟩, fun p hp => ?_, ?_⟩
    · rw [List.mem_singleton.mp hp]; exact hn
    · show sz d + 0 ≤ 1000000; omega
  · simp
  rintro m σ H1 ⟨st, y2, y3, y4, rfl, W, rfl, hall⟩
  obtain ⟨xs, hxs, hstk⟩ := W.at_
  refine ⟨_, rfl, (!xs.isEmpty), .inl ⟨xs, SqL.of hxs, rfl⟩, ?_⟩
  rcases List.eq_nil_or_concat st with rfl | ⟨st', p, rfl⟩
  · cases hstk
    refine iteF ?_
    refine bl_to (q H1 W.same) ?_
    rw [← hall]; rfl
  · rw [List.concat_eq_append] at W hall hstk ⊢
    obtain ⟨xs', t, u, h1, h2, h3, W1⟩ := W.pop
    have ex : xs = xs' ++ [.ref t] := by rw [hxs] at h1; cases h1; rfl
    subst ex
    have hne : (!(xs' ++ [V.ref t]).isEmpty) = true := by simp
    rw [hne]
    refine iteT ?_
    have hsz := W.siz
    rw [szP_pos] at hsz ⊢
    have hdp : p.2.depth < n := W.dep p (List.mem_append_right _ (List.mem_singleton.mpr rfl))
    have hall' : (st'.all fun p => ok n p.1 p.2) = true → ok n p.1 p.2 = ok n .body d := fun z => by
      rw [← hall, List.all_append, z]; simp
    have hall0 : ok n p.1 p.2 = false → ok n .body d = false := fun z => by
      rw [← hall, List.all_append]; simp [z]
    have hall1 : ok n p.1 p.2 = true → (st'.all fun p => ok n p.1 p.2) = ok n .body d := fun z => by
      rw [← hall, List.all_append]; simp [z]
    refine ⟨fun σ' H' => ∃ st2 z2 z3 z4, σ' = [some v, some (.ref l), z2, z3, z4] ∧ Wk K H H' l n st2 ∧ szP st2 < szP st' + sz p.2 ∧ (st2.all fun p => ok n p.1 p.2) = ok n .body d, fun σ' H' hN => ?_, ?_⟩
    · obtain ⟨st2, z2, z3, z4, e1, e2, e3, e4⟩ := hN
      exact ⟨szP st2, e3, st2, z2, z3, z4, e1, e2, rfl, e4⟩
    have hlast : (xs' ++ [V.ref t])[(xs' ++ [V.ref t]).length - 1]? = some (.ref t) := by simp
    have hdrop : (xs' ++ [V.ref t]).dropLast = xs' := by simp
    -- sort, part = waiting.pop()
    refine ⟨_, rfl, .inl ⟨rfl, _, SqL.of h1⟩, l, _, _, rfl, rfl, h1, hlast, ?_⟩
    rw [hdrop]
    refine ⟨t, [.str p.1.txt, u], rfl, SqT.of (h2 _), rfl, _, _, rfl, _, _, rfl, rfl, ?_⟩
    -- if sort in LEAVES
    refine ⟨_, rfl, dL, _, rfl, .inr (T.tL.sq _), rfl, (by decide +kernel), _, rfl, ?_⟩
    rw [leaves_in0]
    cases hlf : p.1.leaf with
    | true =>
      refine iteT ?_
      have lf : ok n p.1 p.2 = leafOk p.1 p.2 := ok_leaf (by omega) hlf
      refine ⟨_, rfl, _, rfl, p.1, u, p.2, rfl, same_dp W1.same h3, str_sz (by omega), fun H2 s2 => ⟨_, rfl, ?_⟩⟩
      rw [← lf]
      cases hok : ok n p.1 p.2 with
      | true =>
        refine iteF ?_
        have pos := sz_pos p.2
        exact ⟨st', _, _, _, rfl, W1.after s2, by omega, hall1 hok⟩
      | false =>
        refine iteT ?_
        exact bl_to (q H2 (W1.same.trans s2)) (hall0 hok).symm
    | false =>
      refine iteF ?_
      have stp := ok_step hdp hlf
      refine ⟨_, rfl, _, rfl, H, p.1, u, p.2, rfl, W1.same, h3, hlf, by omega, fun hn0 H2 s2 => ?_, fun ps a ys H2 hps s2 na ha hst => ?_⟩
      · refine ⟨_, rfl, rfl, _, rfl, iteT ?_⟩
        refine bl_to (q H2 (W1.same.trans s2)) (hall0 ?_).symm
        rw [stp, hn0]
      · refine ⟨_, rfl, rfl, _, rfl, iteF ?_⟩
        have W2 := W1.after s2
        have hl2 : H2 l = some (.lst xs') := s2 _ _ upd_same
        have small := parts_small hps
        have nal : a ≠ l := fun e => by rw [e, upd_same] at na; cases na
        have l1 := stk_len hst
        obtain ⟨xs2, g1, g2⟩ := W1.at_
        have exs : xs2 = xs' := by rw [upd_same] at g1; cases g1; rfl
        subst exs
        have l2 := stk_len g2
        refine ⟨_, rfl, .inl ⟨rfl, _, SqL.of hl2⟩, _, rfl, l, a, xs2, ys, rfl, rfl, hl2, ha, ?_, ?_⟩
        · exact Nat.le_of_lt (smallM (by omega))
        · refine ⟨st' ++ ps, _, _, _, rfl, W2.ext hl2 hst (fun p' hp' => ?_) (by omega), by rw [szP_append]; omega, ?_⟩
          · have := parts_dep hps p' hp'
            omega
          · rw [List.all_append]
            rw [hps] at stp
            simp only at stp
            rw [← stp, ← hall, List.all_append]
            simp
end
end B1

set_option maxRecDepth 100000
set_option maxHeartbeats 4000000
namespace B1
open PySem PySem.Spec PyProof.Rows L2
/-- x is a leaf of the sort w in the thing d of the sort s -/
inductive Lf (w : S) : S → PyData → Str → Prop
  | here (x : Str) : Lf w w (.str x) x
  | sub {s : S} {d : PyData} {ps : List (S × PyData)} {p : S × PyData} {x : Str} : s.leaf = false → parts s d = some ps → p ∈ ps → Lf w p.1 p.2 x → Lf w s d x
theorem Lf.node {w s : S} {d : PyData} {ps : List (S × PyData)} {x : Str} (hw : w.leaf = true) (hs : s.leaf = false) (hp : parts s d = some ps) : Lf w s d x ↔ ∃ p ∈ ps, Lf w p.1 p.2 x := by
  constructor
  · intro h
    cases h with
    | here x => rw [hw] at hs; cases hs
    | @sub _ _ ps' p _ h1 h2 h3 h4 =>
      rw [hp] at h2
      cases h2
      exact ⟨p, h3, h4⟩
  · rintro ⟨p, h1, h2⟩
    exact .sub hs hp h1 h2
theorem Lf.other {w s : S} {d : PyData} {x : Str} (hs : s.leaf = true) (h : Lf w s d x) : s = w ∧ d = .str x := by
  cases h with
  | here x => exact ⟨rfl, rfl⟩
  | sub h1 => rw [hs] at h1; cases h1
theorem paired_get {α β : Type} {F : α → β → Prop} : ∀ {a : List α} {b : List β} {i : Nat} {x : α} {y : β}, Paired F a b → a[i]? = some x → b[i]? = some y → F x y
  | _, _, _, _, _, .nil, h, _ => by simp at h
  | _, _, 0, _, _, .cons r _, h, k => by cases h; cases k; exact r
  | _, _, i + 1, _, _, .cons _ t, h, k => paired_get (i := i) t (by simpa using h) (by simpa using k)
theorem Wk.side {K : PySem.W.Frag} {Hb H : Hp} {l fl : Addr} {n : Nat} {st : List (S × PyData)} {zs ys : List V} (W : Wk K Hb H l n st) (hf : Hb fl = none) (hz : H fl = some (.lst zs)) (ne : fl ≠ l) : Wk K Hb (upd H fl (.lst ys)) l n st := by
  obtain ⟨xs, h1, h2⟩ := W.at_
  refine ⟨W.new, same_over W.same hf, ⟨xs, by rw [upd_ne ne.symm]; exact h1, h2.keep fun b zs' q => ?_⟩, W.dep, W.siz⟩
  rw [upd_ne (ne_of q hz (by intro z; cases z))]
  exact q
abbrev sPIn : Stmt := top 16
abbrev sLvs : Stmt := top 17
abbrev sKinds : Stmt := top 18
abbrev sAsked : Stmt := top 19
theorem scPIn : FnScope ["body", "met", "waiting", "sort", "part"] ["body"] (defScope sPIn) := ⟨rfl, rfl, rfl, by decide +kernel, rfl, by decide +kernel, by decide +kernel⟩
theorem scLvs : FnScope ["body", "wanted", "sort", "part"] ["body", "wanted"] (defScope sLvs) := ⟨rfl, rfl, rfl, by decide +kernel, rfl, by decide +kernel, by decide +kernel⟩
theorem scKinds : FnScope ["body"] ["body"] (defScope sKinds) := ⟨rfl, rfl, rfl, by decide +kernel, rfl, by decide +kernel, by decide +kernel⟩
theorem scAsked : FnScope ["body"] ["body"] (defScope sAsked) := ⟨rfl, rfl, rfl, by decide +kernel, rfl, by decide +kernel, by decide +kernel⟩
/-- all parts of a body -/
def spPIn (K : PySem.W.Frag) : Sp := fun vs H Q _ => ∃ (v : V) (d : PyData) (n : Nat), vs = [v] ∧ Dp K H v d ∧ d.depth < n ∧ sz d ≤ 1000000 ∧ ok n .body d = true ∧
  ∀ (a : Addr) (xs : List V) (ps : List (S × PyData)) (H' : Hp), Same H H' → H' a = some (.lst xs) → Stk K H H' xs ps → (∀ p ∈ ps, p.1.leaf = true → leafOk p.1 p.2 = true) → (∀ k x, S.leaf k = true → ((k, PyData.str x) ∈ ps ↔ Lf k .body d x)) → Q (.ref a) H'
/-- the body's leaves of the sort k, rising -/
def LvIn (k : S) (v : V) (H : Hp) (K : PySem.W.Frag) (Q : VK) : Prop := ∃ (d : PyData) (n : Nat) (U : List Str), Dp K H v d ∧ d.depth < n ∧ sz d ≤ 1000000 ∧ ok n .body d = true ∧ (∀ x, Lf k .body d x → x ∈ U) ∧ U.length < 60 ∧
  ∀ (S1 : Str → Bool) (ys : List Str) (p : Addr) (H' : Hp), Same H H' → H' p = some (.tup (ys.map V.str)) → Rises S1 ys → ys.length < 60 → (∀ x, S1 x = true ↔ Lf k .body d x) → Q (.ref p) H'
def spLvs (K : PySem.W.Frag) : Sp := fun vs H Q _ => ∃ (k : S) (v : V), vs = [v, .str k.txt] ∧ (k = .kind ∨ k = .word) ∧ LvIn k v H K Q
def spOf (k : S) (K : PySem.W.Frag) : Sp := fun vs H Q _ => ∃ v, vs = [v] ∧ LvIn k v H K Q
section
variable {P : Program} {w : World} {K : PySem.W.Frag} {mg : Str → Option Value} {base : Heap} {f g f2 : Addr} {fd gd fd2 : FuncData} {dR dE dM dL : Addr} {eR eE eM : Array DictEntry} {nR nE nM : Nat}
theorem ok_pin (F : Fun K "parts_in" "parts_in" sPIn f fd) (T : Tx K w mg dR dE dM dL eR eE eM nR nE nM)
    (G2 : FnOk P w K mg base CX0 2 f2 fd2 ["sort", "thing"] (spParts K)) (bG2 : Binds K fd2 ["sort", "thing"] []) (kG2 : PySem.W.keepIn K (.ref f2) = true) (mG2 : mg "parts_of" = some (.ref f2)) :
    FnOk P w K mg base CX0 3 f fd ["body"] (spPIn K) := by
  refine F.ok scPIn (fun vs H Q E h => ?_) (fun cdv A outer s H vs Q E hr h => ?_)
  · obtain ⟨v, d, n, rfl, _⟩ := h
    rfl
  obtain ⟨v, d, n, rfl, hd, hn, hz, hok, q⟩ := h
  refine ⟨_, pss_cons (ps_set (i := 1) scPIn.nd rfl (.inl rfl) (pe_lst pa_nil))
    (pss_cons (ps_set (i := 2) scPIn.nd rfl (.inl rfl) (pe_lst (pa_cons (pe_tup (pa_cons pe_str (pa_cons (pv 0) pa_nil))) pa_nil)))
    (pss_cons (ps_while PassesOwn.never (pt_truth (pv 2) (by intro _; rfl))
      (pss_cons (ps_asg (pe_bm0 PySem.F.plainAttrs_list PySem.F.slot_list_pop PySem.F.type_list_pop mt_pop (pv 2)) (pg_tup (by rfl) (pgs_cons (pg_name (i := 3) scPIn.nd rfl (.inl rfl)) (pgs_cons (pg_name (i := 4) scPIn.nd rfl (.inl rfl)) pgs_nil))))
      (pss_cons (ps_expr (pe_bm PySem.F.plainAttrs_list PySem.F.slot_list_append PySem.F.type_list_append mt_append (pv 1) (pa_cons (pe_tup (pa_cons (pv 3) (pa_cons (pv 4) pa_nil))) pa_nil)))
      (pss_one (ps_if (pt_cmpR op_notIn_seq (pv 3) (pe_glob (v := .ref dL) rfl T.gL rfl) rfl)
        (pss_one (ps_expr (pe_bm PySem.F.plainAttrs_list PySem.F.slot_list_extend PySem.F.type_list_extend mt_extend (pv 2) (pa_cons (pe_call G2 hr rfl mG2 kG2 bG2 .nil pass0 (pa_cons (pv 3) (pa_cons (pv 4) pa_nil))) pa_nil)))) pss_nil)))))
    (pss_one (ps_ret (pv 1))))), ?_⟩
  -- met = []; waiting = [('body', body)]
  refine ⟨Nat.zero_le _, fun fl hfl => ?_⟩
  have s1 : Same H (upd H fl (.lst [])) := same_new hfl _
  refine ⟨_, rfl, (by show 2 ≤ sizeLine; decide), fun t0 ht0 => ⟨(by show 1 ≤ sizeLine; decide), fun l hl => ?_⟩⟩
  have s2 := s1.trans (same_new ht0 (.tup [.str "body", v]))
  have nl : H l = none := s2.free hl
  have nlt : t0 ≠ l := fun e => by rw [← e, upd_same] at hl; cases hl
  have nft : fl ≠ t0 := fun e => by rw [← e, upd_same] at ht0; cases ht0
  have nfl : fl ≠ l := fun e => by rw [← e, upd_ne nft, upd_same] at hl; cases hl
  refine ⟨fun m σ H1 => ∃ (st ms : List (S × PyData)) (zs : List V) (y3 y4 : Option V), σ = [some v, some (.ref fl), some (.ref l), y3, y4] ∧ Wk K H H1 l n st ∧ m = szP st ∧ H1 fl = some (.lst zs) ∧ Stk K H H1 zs ms ∧ ms.length + szP st ≤ 1000000 ∧ (∀ p ∈ st, ok n p.1 p.2 = true) ∧ (∀ p ∈ ms, p.1.leaf = true → leafOk p.1 p.2 = true) ∧ (∀ k x, S.leaf k = true → (((k, PyData.str x) ∈ ms ∨ ∃ p ∈ st, Lf k p.1 p.2 x) ↔ Lf k .body d x)), ⟨_, [(.body, d)], [], [], none, none, rfl, ?_, rfl, ?_, .nil, ?_, ?_, ?_, ?_⟩, ?_⟩
  · refine ⟨nl, same_over s2 nl, ⟨_, upd_same, .cons ⟨t0, v, rfl, by rw [upd_ne nlt]; exact upd_same, hd⟩ .nil⟩, fun p hp => ?_, ?_⟩
    · rw [List.mem_singleton.mp hp]; exact hn
    · show sz d + 0 ≤ 1000000; omega
  · rw [upd_ne nfl, upd_ne nft, upd_same]
  · show 0 + (sz d + 0) ≤ 1000000; omega
  · intro p hp; rw [List.mem_singleton.mp hp]; exact hok
  · intro p hp; cases hp
  · intro k x kl
    constructor
    · rintro (h | ⟨p, hp, h⟩)
      · cases h
      · rw [List.mem_singleton.mp hp] at h; exact h
    · intro h; exact .inr ⟨_, List.mem_singleton.mpr rfl, h⟩
  rintro m σ H1 ⟨st, ms, zs, y3, y4, rfl, W, rfl, hzs, hms, hlen, hallok, hlf0, hmem⟩
  obtain ⟨xs, hxs, hstk⟩ := W.at_
  refine ⟨_, rfl, (!xs.isEmpty), .inl ⟨xs, SqL.of hxs, rfl⟩, ?_⟩
  rcases List.eq_nil_or_concat st with rfl | ⟨st', p, rfl⟩
  · cases hstk
    refine iteF ?_
    refine ⟨_, rfl, q fl zs ms H1 W.same hzs hms hlf0 fun k x kl => ?_⟩
    rw [← hmem k x kl]
    constructor
    · exact .inl
    · rintro (h | ⟨_, h, _⟩)
      · exact h
      · cases h
  · rw [List.concat_eq_append] at W hallok hstk hmem hlen ⊢
    obtain ⟨xs', t, u, h1, h2, h3, W1⟩ := W.pop
    have ex : xs = xs' ++ [.ref t] := by rw [hxs] at h1; cases h1; rfl
    subst ex
    have hne : (!(xs' ++ [V.ref t]).isEmpty) = true := by simp
    rw [hne]
    refine iteT ?_
    rw [szP_pos] at hlen ⊢
    have hdp : p.2.depth < n := W.dep p (List.mem_append_right _ (List.mem_singleton.mpr rfl))
    have hokp : ok n p.1 p.2 = true := hallok p (List.mem_append_right _ (List.mem_singleton.mpr rfl))
    have hok' : ∀ p ∈ st', ok n p.1 p.2 = true := fun p hp => hallok p (List.mem_append_left _ hp)
    refine ⟨fun σ' H' => ∃ (st2 ms2 : List (S × PyData)) (zs2 : List V) (z3 z4 : Option V), σ' = [some v, some (.ref fl), some (.ref l), z3, z4] ∧ Wk K H H' l n st2 ∧ szP st2 < szP st' + sz p.2 ∧ H' fl = some (.lst zs2) ∧ Stk K H H' zs2 ms2 ∧ ms2.length + szP st2 ≤ 1000000 ∧ (∀ p ∈ st2, ok n p.1 p.2 = true) ∧ (∀ p ∈ ms2, p.1.leaf = true → leafOk p.1 p.2 = true) ∧ (∀ k x, S.leaf k = true → (((k, PyData.str x) ∈ ms2 ∨ ∃ p ∈ st2, Lf k p.1 p.2 x) ↔ Lf k .body d x)), fun σ' H' hN => ?_, ?_⟩
    · obtain ⟨st2, ms2, zs2, z3, z4, e1, e2, e3, e4⟩ := hN
      exact ⟨szP st2, e3, st2, ms2, zs2, z3, z4, e1, e2, rfl, e4⟩
    have hlast : (xs' ++ [V.ref t])[(xs' ++ [V.ref t]).length - 1]? = some (.ref t) := by simp
    have hdrop : (xs' ++ [V.ref t]).dropLast = xs' := by simp
    -- sort, part = waiting.pop()
    refine ⟨_, rfl, .inl ⟨rfl, _, SqL.of h1⟩, l, _, _, rfl, rfl, h1, hlast, ?_⟩
    rw [hdrop]
    have hzs1 : (upd H1 l (.lst xs')) fl = some (.lst zs) := by rw [upd_ne nfl]; exact hzs
    have hms1 : Stk K H (upd H1 l (.lst xs')) zs ms := hms.keep fun b ys q => by rw [upd_ne (W.tup_ne q)]; exact q
    refine ⟨t, [.str p.1.txt, u], rfl, SqT.of (h2 _), rfl, _, _, rfl, _, _, rfl, rfl, ?_⟩
    have pos := sz_pos p.2
    have hzl : zs.length = ms.length := Paired.length hms
    -- met.append((sort, part))
    refine ⟨_, rfl, .inl ⟨rfl, _, SqL.of hzs1⟩, _, rfl, _, rfl, (by show 2 ≤ sizeLine; decide), fun tp htp => ?_⟩
    generalize hH2 : upd H1 l (.lst xs') = H2 at W1 hzs1 hms1 htp ⊢
    have s3 : Same H2 (upd H2 tp (.tup [.str p.1.txt, u])) := same_new htp _
    have nft2 : fl ≠ tp := fun e => by rw [e, htp] at hzs1; cases hzs1
    refine ⟨fl, _, _, rfl, rfl, by rw [upd_ne nft2]; exact hzs1, ?_, ?_⟩
    · exact smallM (by omega)
    have ht3 : (upd (upd H2 tp (.tup [.str p.1.txt, u])) fl (.lst (zs ++ [V.ref tp]))) tp = some (.tup [.str p.1.txt, u]) := by rw [upd_ne nft2.symm, upd_same]
    have hz3 : (upd (upd H2 tp (.tup [.str p.1.txt, u])) fl (.lst (zs ++ [V.ref tp]))) fl = some (.lst (zs ++ [V.ref tp])) := upd_same
    have W3 : Wk K H (upd (upd H2 tp (.tup [.str p.1.txt, u])) fl (.lst (zs ++ [V.ref tp]))) l n st' := (W1.after s3).side hfl (by rw [upd_ne nft2]; exact hzs1) nfl
    have hms3 : Stk K H (upd (upd H2 tp (.tup [.str p.1.txt, u])) fl (.lst (zs ++ [V.ref tp]))) (zs ++ [V.ref tp]) (ms ++ [p]) := by
      refine paired_app (hms1.keep fun b ys q => ?_) (.cons ⟨tp, u, rfl, ht3, h3⟩ .nil)
      have q' := s3 _ _ q
      rw [upd_ne (ne_of q' (by rw [upd_ne nft2]; exact hzs1) (by intro z; cases z))]
      exact q'
    generalize hH3 : upd (upd H2 tp (.tup [.str p.1.txt, u])) fl (.lst (zs ++ [V.ref tp])) = H3 at ht3 hz3 W3 hms3 ⊢
    have hlfp : ∀ p' ∈ ms ++ [p], p'.1.leaf = true → leafOk p'.1 p'.2 = true := fun p' hp' hl' => by
      rcases List.mem_append.mp hp' with h | h
      · exact hlf0 p' h hl'
      · rw [List.mem_singleton.mp h] at hl' ⊢
        rw [← ok_leaf (n := n) (by omega) hl']; exact hokp
    -- if sort not in LEAVES
    refine ⟨_, rfl, dL, _, rfl, .inr (T.tL.sq _), rfl, (by decide +kernel), _, rfl, ?_⟩
    simp only [if_true]
    rw [leaves_in0]
    cases hlf : p.1.leaf with
    | true =>
      refine iteF ?_
      refine ⟨st', ms ++ [p], zs ++ [V.ref tp], _, _, rfl, W3, by omega, hz3, hms3, by rw [List.length_append, List.length_singleton]; omega, hok', hlfp, fun k x kl => ?_⟩
      rw [← hmem k x kl]
      constructor
      · rintro (h | ⟨p', hp', h⟩)
        · rcases List.mem_append.mp h with h | h
          · exact .inl h
          · rw [← List.mem_singleton.mp h]
            exact .inr ⟨_, List.mem_append_right _ (List.mem_singleton.mpr rfl), .here x⟩
        · exact .inr ⟨p', List.mem_append_left _ hp', h⟩
      · rintro (h | ⟨p', hp', h⟩)
        · exact .inl (List.mem_append_left _ h)
        · rcases List.mem_append.mp hp' with hp' | hp'
          · exact .inr ⟨p', hp', h⟩
          · rw [List.mem_singleton.mp hp'] at h
            obtain ⟨e1, e2⟩ := Lf.other hlf h
            refine .inl (List.mem_append_right _ (List.mem_singleton.mpr ?_))
            rw [← e1, ← e2]
    | false =>
      refine iteT ?_
      have stp := ok_step hdp hlf
      obtain ⟨xs2, g1, g2⟩ := W3.at_
      refine ⟨_, rfl, .inl ⟨rfl, _, SqL.of g1⟩, _, rfl, _, rfl, H, p.1, u, p.2, rfl, W3.same, h3, hlf, by omega, fun hn0 H4 s4 => ?_, fun ps a ys H4 hps s4 na ha hst => ?_⟩
      · rw [hn0, hokp] at stp; cases stp
      · have W4 := W3.after s4
        have hl4 : H4 l = some (.lst xs2) := s4 _ _ g1
        have small := parts_small hps
        have l1 := stk_len hst
        have l2 := stk_len g2
        have hall : (ps.all fun p => ok n p.1 p.2) = true := by rw [hps, hokp] at stp; exact stp.symm
        refine ⟨l, a, xs2, ys, rfl, rfl, hl4, ha, ?_, ?_⟩
        · exact Nat.le_of_lt (smallM (by omega))
        · refine ⟨st' ++ ps, ms ++ [p], zs ++ [V.ref tp], _, _, rfl, W4.ext hl4 hst (fun p' hp' => ?_) (by omega), by rw [szP_append]; omega, ?_, ?_, by rw [szP_append, List.length_append, List.length_singleton]; omega, ?_, hlfp, fun k y kl => ?_⟩
          · have := parts_dep hps p' hp'
            omega
          · rw [upd_ne nfl]; exact s4 _ _ hz3
          · exact (hms3.keep fun b ys q => s4 _ _ q).keep fun b ys q => by rw [upd_ne (W4.tup_ne q)]; exact q
          · intro p' hp'
            rcases List.mem_append.mp hp' with hp' | hp'
            · exact hok' p' hp'
            · exact List.all_eq_true.mp hall p' hp'
          · rw [← hmem k y kl]
            constructor
            · rintro (h | ⟨p', hp', h⟩)
              · rcases List.mem_append.mp h with h | h
                · exact .inl h
                · rw [← List.mem_singleton.mp h] at hlf
                  rw [show S.leaf (k, PyData.str y).1 = S.leaf k from rfl, kl] at hlf
                  cases hlf
              · rcases List.mem_append.mp hp' with hp' | hp'
                · exact .inr ⟨p', List.mem_append_left _ hp', h⟩
                · exact .inr ⟨p, List.mem_append_right _ (List.mem_singleton.mpr rfl), (Lf.node kl hlf hps).2 ⟨p', hp', h⟩⟩
            · rintro (h | ⟨p', hp', h⟩)
              · exact .inl (List.mem_append_left _ h)
              · rcases List.mem_append.mp hp' with hp' | hp'
                · exact .inr ⟨p', List.mem_append_left _ hp', h⟩
                · rw [List.mem_singleton.mp hp'] at h
                  obtain ⟨p2, hp2, h'⟩ := (Lf.node kl hlf hps).1 h
                  exact .inr ⟨p2, List.mem_append_right _ hp2, h'⟩
theorem ok_lvs (F : Fun K "leaves_in" "leaves_in" sLvs f fd) (B : Bl mg)
    (G2 : FnOk P w K mg base CX0 3 f2 fd2 ["body"] (spPIn K)) (bG2 : Binds K fd2 ["body"] []) (kG2 : PySem.W.keepIn K (.ref f2) = true) (mG2 : mg "parts_in" = some (.ref f2)) :
    FnOk P w K mg base CX0 4 f fd ["body", "wanted"] (spLvs K) := by
  refine F.ok scLvs (fun vs H Q E h => ?_) (fun cdv A outer s H vs Q E hr h => ?_)
  · obtain ⟨k, v, rfl, _⟩ := h
    rfl
  obtain ⟨k, v, rfl, hk, d, n, U, hd, hn, hz, hok, hU, h60, q⟩ := h
  have kl : k.leaf = true := by rcases hk with rfl | rfl <;> rfl
  have kv : k ≠ .value := by rcases hk with rfl | rfl <;> decide
  refine ⟨_, pss_one (ps_ret (pe_callTy call_tuple_of rfl B.tuple bt_tuple (pa_cons (pe_callB (cr_sortT' rfl) rfl B.sorted bt_sorted (pa_cons
    (pe_scT (own := [("sort", 2), ("part", 3)]) (g := gTup K 2 (gCons (gName 2) (gCons (gName 3) gNil))) (by rfl) scLvs.nd (pi_list (pe_call G2 hr rfl mG2 kG2 bG2 .nil pass0 (pa_cons (pv 0) pa_nil))) (blkOk_by (own := [("sort", 2), ("part", 3)]) (N := ["body", "wanted", "sort", "part"]) (sc := defScope sLvs) (by decide +kernel))
      (fun _ _ _ _ _ => pg_tup (by rfl) (pgs_cons (pg_name (i := 2) scLvs.nd rfl (Or.inl rfl)) (pgs_cons (pg_name (i := 3) scLvs.nd rfl (Or.inl rfl)) pgs_nil))) (fun _ _ _ _ _ => pts_one (pt_cmpR op_eq (pv 2) (pv 1) (nomark _))) (fun _ _ _ _ _ => pv 3)) pa_nil)) pa_nil))), ?_⟩
  refine ⟨_, rfl, v, d, n, rfl, hd, hn, hz, hok, fun a xs ps H1 s1 ha hst hlf hmem => ⟨a, rfl, ⟨xs, SqL.of ha⟩, fun D nD => ?_⟩⟩
  refine scT_it (walk_list (xs := xs)) (fun i H' => ∃ (S0 : Str → Bool) (c : Nat), Same H1 H' ∧ H' D = some (SetTO w D S0 c) ∧ AtMost S0 c ∧ ∀ x, S0 x = true ↔ (k, PyData.str x) ∈ ps.take i) ?_ ?_ ?_ ?_
  · exact ⟨_, 0, same_new nD _, upd_same, fun _ _ => Nat.zero_le _, fun x => by simp⟩
  · rintro i H' _ ⟨S0, c, s2, _⟩
    exact (Kept.of s2).sqL (SqL.of ha)
  · rintro i x H2 H2' hi ⟨S0, c, s2, hD, am, hS⟩ ⟨rfl, hx⟩
    have hps : i < ps.length := by rw [← Paired.length hst]; exact hi
    obtain ⟨t, u, rfl, ht, hu⟩ : PairAt K H H1 x ps[i] := paired_get hst hx (List.getElem?_eq_getElem hps)
    have tk : ps.take (i + 1) = ps.take i ++ [ps[i]] := by rw [List.take_add_one, List.getElem?_eq_getElem hps]; rfl
    have S0U : ∀ x, S0 x = true → x ∈ U := fun x hx => hU x ((hmem k x kl).1 (List.mem_of_mem_take ((hS x).1 hx)))
    refine ⟨t, [.str ps[i].1.txt, u], rfl, SqT.of (s2 _ _ ht), rfl, _, _, rfl, _, _, rfl, rfl, rfl, ?_⟩
    refine ⟨_, rfl, _, rfl, rfl, _, rfl, ?_⟩
    rw [txt_dec ps[i].1 k.txt k rfl]
    refine ite2 (fun e => ?_) (fun e => ?_)
    · have e' := of_decide_eq_true e
      have lf := hlf _ (List.getElem_mem hps) (by rw [e']; exact kl)
      obtain ⟨z, hz⟩ : ∃ z, ps[i].2 = .str z := by
        unfold leafOk at lf
        rw [if_neg (by rw [e']; exact kv)] at lf
        cases q2 : ps[i].2 with
        | str z => exact ⟨z, rfl⟩
        | _ => rw [q2] at lf; cases lf
      have eu : u = .str z := by rw [hz] at hu; cases hu; rfl
      subst eu
      have cb := am U S0U
      refine ⟨_, rfl, z, S0, c, rfl, hD, by unfold scanBound; omega, fun m am2 => ⟨_, m, same_over s2 nD, upd_same, am2, fun y => ?_⟩⟩
      have ep : ps[i] = (k, PyData.str z) := by rw [← e', ← hz]
      rw [tk, ep, Bool.or_eq_true, decide_eq_true_eq, List.mem_append, List.mem_singleton, hS y]
      constructor
      · rintro (h | h)
        · exact .inl h
        · rw [h]; exact .inr rfl
      · rintro (h | h)
        · exact .inl h
        · exact .inr (PyData.str.inj (Prod.mk.inj h).2)
    · have e' := of_decide_eq_false (Bool.eq_false_iff.mpr e)
      refine ⟨S0, c, s2, hD, am, fun y => ?_⟩
      rw [tk, List.mem_append, List.mem_singleton, hS y]
      constructor
      · exact .inl
      · rintro (h | h)
        · exact h
        · exact absurd (congrArg Prod.fst h).symm e'
  · rintro H2 ⟨S0, c, s2, hD, am, hS⟩
    rw [Paired.length hst, List.take_of_length_le (Nat.le_refl _)] at hS
    have S0U : ∀ x, S0 x = true → x ∈ U := fun x hx => hU x ((hmem k x kl).1 ((hS x).1 hx))
    have cb := am U S0U
    refine ⟨D, S0, c, rfl, hD, by omega, fun ys p2 hr2 hl2 np2 => ?_⟩
    have s4 := (s1.trans s2).trans (same_new np2 (.lst (ys.map V.str)))
    refine ⟨p2, _, rfl, .inl ⟨SqL.of upd_same, fun p3 np3 => ?_⟩⟩
    refine q _ ys p3 _ (s4.trans (same_new np3 _)) upd_same hr2 (by omega) fun x => ?_
    rw [hS x, hmem k x kl]
theorem ok_kinds (F : Fun K "kinds_in" "kinds_in" sKinds f fd) (G : FnOk P w K mg base CX0 4 g gd ["body", "wanted"] (spLvs K)) (bG : Binds K gd ["body", "wanted"] []) (kG : PySem.W.keepIn K (.ref g) = true) (mG : mg "leaves_in" = some (.ref g)) : FnOk P w K mg base CX0 5 f fd ["body"] (spOf .kind K) := by
  refine F.ok scKinds (fun vs H Q E h => ?_) (fun cdv A outer s H vs Q E hr h => ?_)
  · obtain ⟨v, rfl, _⟩ := h
    rfl
  obtain ⟨v, rfl, h⟩ := h
  refine ⟨_, pss_one (ps_ret (pe_call G hr rfl mG kG bG .nil pass0 (pa_cons (pv 0) (pa_cons pe_str pa_nil)))), ?_⟩
  exact ⟨_, rfl, .kind, v, rfl, .inl rfl, h⟩
theorem ok_asked (F : Fun K "asked_in" "asked_in" sAsked f fd) (G : FnOk P w K mg base CX0 4 g gd ["body", "wanted"] (spLvs K)) (bG : Binds K gd ["body", "wanted"] []) (kG : PySem.W.keepIn K (.ref g) = true) (mG : mg "leaves_in" = some (.ref g)) : FnOk P w K mg base CX0 5 f fd ["body"] (spOf .word K) := by
  refine F.ok scAsked (fun vs H Q E h => ?_) (fun cdv A outer s H vs Q E hr h => ?_)
  · obtain ⟨v, rfl, _⟩ := h
    rfl
  obtain ⟨v, rfl, h⟩ := h
  refine ⟨_, pss_one (ps_ret (pe_call G hr rfl mG kG bG .nil pass0 (pa_cons (pv 0) (pa_cons pe_str pa_nil)))), ?_⟩
  exact ⟨_, rfl, .word, v, rfl, .inr rfl, h⟩
end
end B1

set_option maxRecDepth 100000
set_option maxHeartbeats 4000000
namespace B1
open PySem PySem.Spec PyProof.Rows L2
/-! ### what was drawn so far -/
structure RestOk (kvs : List (Key × V)) : Prop where
  nd : (kvs.map (·.1)).Nodup
  key : ∀ kv ∈ kvs, (∃ j : Nat, j < 64 ∧ kv.1 = .inl (j : Int)) ∧ ∃ z : Int, kv.2 = .int z
def keys64 : List Key := (List.range 64).map fun (j : Nat) => (.inl (j : Int) : Key)
theorem RestOk.len {kvs : List (Key × V)} (R : RestOk kvs) : kvs.length ≤ 64 := by
  have := nodup_sub (kvs.map (·.1)) keys64 R.nd fun k hk => by
    obtain ⟨kv, h1, rfl⟩ := List.mem_map.mp hk
    obtain ⟨⟨j, hj, e⟩, _⟩ := R.key kv h1
    exact List.mem_map.mpr ⟨j, List.mem_range.mpr hj, e.symm⟩
  simpa [keys64] using this
theorem RestOk.put {kvs : List (Key × V)} (R : RestOk kvs) {j : Nat} (hj : j < 64) (z : Int) : RestOk (putK kvs (.inl (j : Int)) (.int z)) := by
  unfold putK
  split
  · refine ⟨?_, fun kv h => ?_⟩
    · rw [List.map_map]
      have : (kvs.map ((·.1) ∘ fun kv : Key × V => if kv.1 = .inl (j : Int) then (kv.1, V.int z) else kv)) = kvs.map (·.1) := List.map_congr_left fun kv _ => by
        show (if kv.1 = .inl (j : Int) then (kv.1, V.int z) else kv).1 = kv.1
        split <;> rfl
      rw [this]
      exact R.nd
    · obtain ⟨kv0, h1, rfl⟩ := List.mem_map.mp h
      split
      · exact ⟨(R.key kv0 h1).1, z, rfl⟩
      · exact R.key kv0 h1
  · rename_i hn
    refine ⟨?_, fun kv h => ?_⟩
    · rw [List.map_append]
      refine nd_snoc R.nd fun h => hn ?_
      obtain ⟨kv0, h1, h2⟩ := List.mem_map.mp h
      exact List.any_eq_true.mpr ⟨kv0, h1, decide_eq_true h2⟩
    · rcases List.mem_append.mp h with h | h
      · exact R.key kv h
      · rw [List.mem_singleton.mp h]; exact ⟨⟨j, hj, rfl⟩, z, rfl⟩
theorem RestOk.val {kvs : List (Key × V)} (R : RestOk kvs) (k : Key) (z : Int) : ∃ y : Int, (valV kvs k).getD (.int z) = .int y := by
  unfold valV
  cases q : kvs.find? fun kv => decide (kv.1 = k) with
  | none => exact ⟨z, rfl⟩
  | some kv =>
    obtain ⟨y, hy⟩ := (R.key kv (List.mem_of_find?_eq_some q)).2
    exact ⟨y, hy⟩
def townD (c : Int) (r : Addr) : List (Key × V) := [(.inr "count", .int c), (.inr "rests", .ref r)]
theorem cnt_ne : (Sum.inr (Str.ofString "count") : Key) ≠ .inr (Str.ofString "rests") := by decide +kernel
theorem townD_c (c : Int) (r : Addr) : valV (townD c r) (.inr "count") = some (.int c) := valV_pos rfl
theorem townD_r (c : Int) (r : Addr) : valV (townD c r) (.inr "rests") = some (.ref r) := by
  unfold townD valV
  rw [List.find?_cons, decide_eq_false cnt_ne, List.find?_cons, decide_eq_true rfl]
  rfl
theorem townD_put (c c' : Int) (r : Addr) : putK (townD c r) (.inr "count") (.int c') = townD c' r := by
  unfold townD putK
  rw [if_pos (by rw [List.any_cons, decide_eq_true rfl]; rfl), List.map_cons, List.map_cons, List.map_nil, if_pos rfl, if_neg cnt_ne.symm]
/-- the dict of what was drawn, at t -/
def Town (H : Hp) (t : Addr) : Prop := ∃ (c : Int) (r : Addr) (kvs : List (Key × V)), H t = some (.dK (townD c r)) ∧ H r = some (.dK kvs) ∧ t ≠ r ∧ RestOk kvs
theorem Town.same {H H' : Hp} {t : Addr} (h : Town H t) (e : Same H H') : Town H' t := by
  obtain ⟨c, r, kvs, h1, h2, h3, h4⟩ := h
  exact ⟨c, r, kvs, e _ _ h1, e _ _ h2, h3, h4⟩
theorem kept_dict {H : Hp} {a : Addr} {kvs kvs' : List (Key × V)} (h : H a = some (.dK kvs)) : Kept H (upd H a (.dK kvs')) := fun b o e n => by
  by_cases hb : b = a
  · rw [hb, h] at e; cases e; exact absurd rfl (n _)
  · rw [upd_ne hb]; exact e
abbrev sDraw : Stmt := top 21
abbrev sBegun : Stmt := top 22
abbrev sIs : Stmt := top 23
theorem scDraw : FnScope ["_law_script", "_law_town", "_law_many", "_law_at", "_law_rest", "_law_number"] ["_law_script", "_law_town", "_law_many"] (defScope sDraw) := ⟨rfl, rfl, rfl, by decide +kernel, rfl, by decide +kernel, by decide +kernel⟩
theorem scBegun : FnScope [] [] (defScope sBegun) := ⟨rfl, rfl, rfl, by decide +kernel, rfl, by decide +kernel, by decide +kernel⟩
theorem scIs : FnScope ["_law_told", "_law_due"] ["_law_told", "_law_due"] (defScope sIs) := ⟨rfl, rfl, rfl, by decide +kernel, rfl, by decide +kernel, by decide +kernel⟩
/-- the script stands at a -/
def Scr (K : PySem.W.Frag) (H : Hp) (a : Addr) : Prop := ∃ ns : List Int, SqL K H a (ns.map V.int) ∧ ns.length ≤ 63
theorem Scr.kept {K : PySem.W.Frag} {H H' : Hp} {a : Addr} (h : Scr K H a) (e : Kept H H') : Scr K H' a := by
  obtain ⟨ns, h1, h2⟩ := h
  exact ⟨ns, e.sqL h1, h2⟩
/-- a draw below m -/
def spDraw (K : PySem.W.Frag) : Sp := fun vs H Q _ => ∃ (a t : Addr) (m : Int), vs = [.ref a, .ref t, .int m] ∧ Scr K H a ∧ Town H t ∧ 0 < m ∧ m < 1000 ∧ ∀ (i : Int) (H' : Hp), 0 ≤ i → i < m → Kept H H' → Town H' t → Q (.int i) H'
def spBegun : Sp := fun vs H Q _ => vs = [] ∧ ∀ (t : Addr) (H' : Hp), Same H H' → Town H' t → Q (.ref t) H'
def spIs : Sp := fun vs H Q _ => ∃ a b : Bool, vs = [.bl a, .bl b] ∧ Q (.bl (decide (a = b))) H
section
variable {P : Program} {w : World} {K : PySem.W.Frag} {mg : Str → Option Value} {base : Heap} {f : Addr} {fd : FuncData}
theorem ok_draw (F : Fun K "_law_draw" "_law_draw" sDraw f fd) (B : Bl mg) : FnOk P w K mg base CX0 1 f fd ["_law_script", "_law_town", "_law_many"] (spDraw K) := by
  refine F.ok scDraw (fun vs H Q E h => ?_) (fun cdv A outer s H vs Q E hr h => ?_)
  · obtain ⟨a, t, m, rfl, _⟩ := h
    rfl
  obtain ⟨a, t, m, rfl, ⟨ns, hS, h63⟩, ⟨c, r, kvs, ht, hrr, ntr, R⟩, m0, m1, q⟩ := h
  have hu := hu_of hr
  refine ⟨_, pss_cons (ps_dput hu (pv 1) pe_str (pe_op op_add (pe_dget hu (pv 1) pe_str (fun _ _ => rfl)) pe_int) rfl)
    (pss_cons (ps_set (i := 3) scDraw.nd rfl (.inl rfl) (pe_ifExp (pt_truth (pv 0) (by intro _; rfl)) (pe_op op_mod (pe_dget hu (pv 1) pe_str (fun _ _ => rfl)) (pe_callB call_len_seq rfl B.len bt_len (pa_cons (pv 0) pa_nil))) pe_int))
    (pss_cons (ps_set (i := 4) scDraw.nd rfl (.inl rfl) (pe_dget2 hu (pe_dget hu (pv 1) pe_str (fun _ _ => rfl)) (pv 3) (pe_ifExp (pt_truth (pv 0) (by intro _; rfl)) (pe_ix ix_list (pv 0) (pv 3) (fun _ _ => rfl)) pe_int) ⟨rfl, rfl, rfl, rfl⟩))
    (pss_cons (ps_if (pt_cmpR op_ge (pv 4) (pe_op op_pow pe_int pe_int) (nomark _))
      (pss_cons (ps_dput hu (pe_dget hu (pv 1) pe_str (fun _ _ => rfl)) (pv 3) (pe_op op_fdiv (pv 4) (pv 2)) rfl) (pss_one (ps_ret (pe_op op_mod (pv 4) (pv 2))))) pss_nil)
    (pss_cons (ps_set (i := 5) scDraw.nd rfl (.inl rfl) (pe_op op_mod (pe_op op_add (pv 4) (pe_op op_mul pe_int (pe_dget hu (pv 1) pe_str (fun _ _ => rfl)))) pe_int))
    (pss_cons (ps_set (i := 5) scDraw.nd rfl (.inl rfl) (pe_op op_mod (pe_op op_pow (pv 5) pe_int) pe_int))
    (pss_one (ps_ret (pe_op op_mod (pe_op op_fdiv (pe_op op_mod (pe_op op_add (pe_op op_mul (pe_op op_fdiv (pv 5) pe_int) pe_int) (pv 5)) pe_int) pe_int) (pv 2))))))))), ?_⟩
  have G : ∀ (H' : Hp) (c' : Int), H' t = some (.dK (townD c' r)) → DGet H' t (.str "count") (some (.int c')) := fun H' c' e => by
    have := DGet.k (k := .inr "count") e
    rw [townD_c] at this
    exact this
  have GR : ∀ (H' : Hp) (c' : Int), H' t = some (.dK (townD c' r)) → DGet H' t (.str "rests") (some (.ref r)) := fun H' c' e => by
    have := DGet.k (k := .inr "rests") e
    rw [townD_r] at this
    exact this
  have put := DPut.k (k := .inr "count") (v := .int (c + 1)) ht (by show 2 < sizeLine; decide)
  rw [townD_put] at put
  -- town['count'] = town['count'] + 1
  refine ⟨_, rfl, t, _, rfl, G H c ht, _, _, rfl, rfl, _, rfl, t, _, rfl, put, ?_⟩
  have k1 := kept_dict (kvs' := townD (c + 1) r) ht
  have ht1 : (upd H t (.dK (townD (c + 1) r))) t = some (.dK (townD (c + 1) r)) := upd_same
  have hr1 : (upd H t (.dK (townD (c + 1) r))) r = some (.dK kvs) := by rw [upd_ne ntr.symm]; exact hrr
  generalize upd H t (.dK (townD (c + 1) r)) = H1 at k1 ht1 hr1 ⊢
  have hS1 := k1.sqL hS
  -- at
  refine ⟨_, rfl, (!(ns.map V.int).isEmpty), .inl ⟨_, hS1, rfl⟩, ?_⟩
  have atOk : ∃ j : Nat, j < 64 ∧ (∀ (Q1 : V → Hp → Prop), Q1 (.int (j : Int)) H1 → if (!(ns.map V.int).isEmpty) = true then tOp (rI (fun _ j => 0 < j) fun i j => .int (i % j)) (tDGet (tVar 1) (tC (.str "count"))) (tCB (fun xs H Q => ∃ p ys, xs = [V.ref p] ∧ (SqL K H p ys ∨ SqT K H p ys) ∧ Q (.int (ys.length : Nat)) H) (tCons (tVar 0) tNil)) [some (.ref a), some (.ref t), some (.int m), none, none, none] H1 Q1 else Q1 (.int 0) H1) ∧ (ns ≠ [] → j < ns.length) ∧ (ns = [] → j = 0) := by
    cases ns with
    | nil => exact ⟨0, by decide, fun Q1 h => iteF h, fun h => absurd rfl h, fun _ => rfl⟩
    | cons n0 nr =>
      have lp : (0 : Int) < (((n0 :: nr).map V.int).length : Nat) := by rw [List.length_map, List.length_cons]; omega
      have e1 := Int.emod_nonneg (c + 1) (Int.ne_of_gt lp)
      have e2 := Int.emod_lt_of_pos (c + 1) lp
      have lm : ((n0 :: nr).map V.int).length = (n0 :: nr).length := List.length_map _
      refine ⟨((c + 1) % (((n0 :: nr).map V.int).length : Nat)).toNat, by omega, fun Q1 h => iteT ?_, fun _ => by omega, fun h => by cases h⟩
      rw [Int.toNat_of_nonneg e1] at h
      exact ⟨_, rfl, t, _, rfl, G H1 _ ht1, _, rfl, a, _, rfl, .inl hS1, _, _, rfl, rfl, lp, h⟩
  obtain ⟨j, j64, atGo, jlt, j0⟩ := atOk
  refine atGo _ ?_
  -- rest
  have restOk : ∃ z0 : Int, ∀ (Q1 : V → Hp → Prop), Q1 (.int z0) H1 → if (!(ns.map V.int).isEmpty) = true then tOp (rIxL K) (tVar 0) (tVar 3) [some (.ref a), some (.ref t), some (.int m), some (.int (j : Int)), none, none] H1 Q1 else Q1 (.int 0) H1 := by
    cases ns with
    | nil => exact ⟨0, fun Q1 h => iteF h⟩
    | cons n0 nr =>
      have hj := jlt (by simp)
      refine ⟨(n0 :: nr)[j], fun Q1 h => iteT ?_⟩
      exact ⟨_, rfl, _, rfl, a, _, _, _, rfl, rfl, hS1, atI_nat (by rw [List.getElem?_map, List.getElem?_eq_getElem hj]; rfl), h⟩
  obtain ⟨z0, restGo⟩ := restOk
  obtain ⟨y, hy⟩ := R.val (.inl (j : Int)) z0
  refine ⟨_, rfl, t, _, rfl, GR H1 _ ht1, r, rfl, .inl ⟨kvs, .inl hr1⟩, _, rfl, _, rfl, (!(ns.map V.int).isEmpty), .inl ⟨_, hS1, rfl⟩, restGo _ ⟨_, DGet.k (k := .inl (j : Int)) hr1, ?_⟩⟩
  rw [hy]
  -- if rest >= 10 ** 18
  refine ⟨_, rfl, _, _, rfl, rfl, ⟨by decide, by decide, by decide⟩, _, _, rfl, rfl, _, rfl, ?_⟩
  have m0' : 0 < m ∧ m < 1073741824 := ⟨m0, by omega⟩
  refine ite2 (fun _ => ?_) (fun _ => ?_)
  · refine ⟨_, rfl, _, rfl, _, _, rfl, rfl, m0', _, rfl, t, _, rfl, GR H1 _ ht1, _, rfl, r, _, rfl, DPut.k (k := .inl (j : Int)) hr1 (smallM (Nat.le_trans R.len (by decide))), ?_⟩
    refine ⟨_, rfl, _, rfl, _, _, rfl, rfl, m0, ?_⟩
    refine q _ _ (Int.emod_nonneg _ (Int.ne_of_gt m0)) (Int.emod_lt_of_pos _ m0) (k1.trans (kept_dict hr1)) ⟨c + 1, r, _, by rw [upd_ne ntr]; exact ht1, upd_same, ntr, R.put j64 _⟩
  · refine ⟨_, rfl, _, rfl, t, _, rfl, G H1 _ ht1, _, _, rfl, rfl, .inl ⟨by decide, by decide⟩, _, _, rfl, rfl, _, _, rfl, rfl, (by show (0 : Int) < 4294967291; decide), ?_⟩
    have b1 := Int.emod_nonneg (y + 104729 * (c + 1)) (show (4294967291 : Int) ≠ 0 by decide)
    have b2 := Int.emod_lt_of_pos (y + 104729 * (c + 1)) (show (0 : Int) < 4294967291 by decide)
    refine ⟨_, rfl, _, _, rfl, rfl, ⟨by decide, by decide, ?_⟩, _, _, rfl, rfl, (by show (0 : Int) < 4294967279; decide), ?_⟩
    · omega
    refine ⟨_, rfl, _, _, rfl, rfl, ⟨by decide, by decide⟩, _, _, rfl, rfl, .inr ⟨by decide, by decide⟩, _, rfl, _, _, rfl, rfl, _, _, rfl, rfl, (by show (0 : Int) < 4294967231; decide), _, _, rfl, rfl, ⟨by decide, by decide⟩, _, rfl, _, _, rfl, rfl, m0, ?_⟩
    exact q _ _ (Int.emod_nonneg _ (Int.ne_of_gt m0)) (Int.emod_lt_of_pos _ m0) k1 ⟨c + 1, r, kvs, ht1, hr1, ntr, R⟩
theorem ok_begun (F : Fun K "_law_begun" "_law_begun" sBegun f fd) : FnOk P w K mg base CX0 1 f fd [] spBegun := by
  refine F.ok scBegun (fun vs H Q E h => ?_) (fun cdv A outer s H vs Q E hr h => ?_)
  · obtain ⟨rfl, _⟩ := h
    rfl
  obtain ⟨rfl, q⟩ := h
  refine ⟨_, pss_one (ps_ret (pe_disp (pps_cons pe_str pe_int (pps_cons pe_str pe_dnewK pps_nil)) (by rfl) (by rfl) (fun z => by cases z) (by decide))), ?_⟩
  refine fun p hp d hd => ⟨?_, [(.inr "count", .int 0), (.inr "rests", .ref d)], rfl, by show 2 ≤ 15; decide, ?_⟩
  · have npd : p ≠ d := fun e => by rw [← e, upd_same] at hd; cases hd
    rw [upd_ne npd, upd_same]
  · have npd : p ≠ d := fun e => by rw [← e, upd_same] at hd; cases hd
    have e : mergeK ([] : List (Key × V)) [(.inr "count", .int 0), (.inr "rests", .ref d)] = townD 0 d := by
      show putK (putK ([] : List (Key × V)) (Sum.inr (Str.ofString "count")) (V.int 0)) (Sum.inr (Str.ofString "rests")) (V.ref d) = _
      have a : putK ([] : List (Key × V)) (.inr "count") (.int 0) = [(.inr "count", .int 0)] := rfl
      rw [a]
      unfold putK townD
      rw [if_neg (by rw [List.any_cons, decide_eq_false cnt_ne]; decide)]
      rfl
    rw [e]
    refine q p _ (same_over ((same_new hp _).trans (same_new hd _)) hp) ⟨0, d, [], upd_same, ?_, npd, ⟨List.nodup_nil, fun kv h => nomatch h⟩⟩
    rw [upd_ne npd.symm, upd_same]
theorem ok_is (F : Fun K "_law_is" "_law_is" sIs f fd) (B : Bl mg) : FnOk P w K mg base CX0 1 f fd ["_law_told", "_law_due"] spIs := by
  refine F.ok scIs (fun vs H Q E h => ?_) (fun cdv A outer s H vs Q E hr h => ?_)
  · obtain ⟨a, b, rfl, _⟩ := h
    rfl
  obtain ⟨a, b, rfl, q⟩ := h
  refine ⟨_, pss_one (ps_ret (pe_and (pe_isD kit_B rfl B.isi rfl B.bool bt_bool (pv 0)) (pe_one (pe_cmpR op_eq (pv 0) (pv 1) (nomark _))))), ?_⟩
  refine ⟨_, rfl, _, .bool a, rfl, .bl a, _, rfl, iteT ?_⟩
  refine ⟨_, rfl, _, rfl, rfl, ?_⟩
  refine bl_to q ?_
  by_cases h : a = b
  · rw [decide_eq_true h]; exact decide_eq_true (congrArg V.bl h)
  · rw [decide_eq_false h]; exact decide_eq_false fun z => h (V.bl.inj z)
end
end B1

set_option maxRecDepth 100000
set_option maxHeartbeats 4000000
namespace B1
open PySem PySem.Spec PyProof.Rows L2
/-! ### what is drawn is a body -/
def U4 : List Str := ["cd", "go", "p", "q"]
/-- of the sort, with kinds and words out of the four -/
structure G (s : S) (d : PyData) : Prop where
  okk : ∀ n, d.depth < n → ok n s d = true
  kin : ∀ x, Lf .kind s d x → x ∈ U4
  wrd : ∀ x, Lf .word s d x → x ∈ U4
theorem G.node {s : S} {d : PyData} {ps : List (S × PyData)} (hs : s.leaf = false) (hp : parts s d = some ps) (h : ∀ p ∈ ps, G p.1 p.2) : G s d := by
  refine ⟨fun n hn => ?_, fun x hx => ?_, fun x hx => ?_⟩
  · rw [ok_step hn hs, hp]
    refine List.all_eq_true.mpr fun p hp' => (h p hp').okk n ?_
    have := parts_dep hp p hp'
    omega
  · obtain ⟨p, h1, h2⟩ := (Lf.node rfl hs hp).1 hx
    exact (h p h1).kin x h2
  · obtain ⟨p, h1, h2⟩ := (Lf.node rfl hs hp).1 hx
    exact (h p h1).wrd x h2
theorem G.leaf {s : S} {d : PyData} (hs : s.leaf = true) (hk : leafOk s d = true) (h : s = .kind ∨ s = .word → ∃ x ∈ U4, d = .str x) : G s d := by
  refine ⟨fun n hn => by rw [ok_leaf (by omega) hs]; exact hk, fun x hx => ?_, fun x hx => ?_⟩
  · obtain ⟨e1, e2⟩ := Lf.other hs hx
    obtain ⟨y, hy, e3⟩ := h (.inl e1)
    rw [e2] at e3
    cases e3
    exact hy
  · obtain ⟨e1, e2⟩ := Lf.other hs hx
    obtain ⟨y, hy, e3⟩ := h (.inr e1)
    rw [e2] at e3
    cases e3
    exact hy
theorem parts_e {w : Str} {sh : List S} {ds : List PyData} (h : shape .e w = some sh) (hl : sh.length = ds.length) : parts .e (.tuple (.str w :: ds)) = some (sh.zip ds) := by
  show partsW .e (.str w :: ds) = _
  simp only [partsW]
  rw [h]
  simp only
  rw [if_pos hl]
theorem parts_r {w : Str} {sh : List S} {ds : List PyData} (h : shape .row w = some sh) (hl : sh.length = ds.length) : parts .row (.tuple (.str w :: ds)) = some (sh.zip ds) := by
  show partsW .row (.str w :: ds) = _
  simp only [partsW]
  rw [h]
  simp only
  rw [if_pos hl]
theorem all1 {α : Type} {F : α → Prop} {a : α} (h : F a) : ∀ x ∈ [a], F x := fun x hx => by rw [List.mem_singleton.mp hx]; exact h
theorem all2 {α : Type} {F : α → Prop} {a b : α} (h : F a) (k : F b) : ∀ x ∈ [a, b], F x := fun x hx => by
  rcases List.mem_cons.mp hx with rfl | hx
  · exact h
  · exact all1 k x hx
theorem all3 {α : Type} {F : α → Prop} {a b c : α} (h : F a) (k : F b) (l : F c) : ∀ x ∈ [a, b, c], F x := fun x hx => by
  rcases List.mem_cons.mp hx with rfl | hx
  · exact h
  · exact all2 k l x hx
/-! sizes -/
inductive FitAll (n : Nat) : List PyData → Nat → Prop
  | nil : FitAll n [] 0
  | cons {d : PyData} {ds : List PyData} {m k : Nat} : Fit n m d → FitAll n ds k → FitAll n (d :: ds) (m + k)
theorem FitAll.all {n : Nat} : ∀ {ds : List PyData} {k : Nat}, FitAll n ds k → (∀ d ∈ ds, d.canLay0 = true ∧ d.depth ≤ n) ∧ szAll ds ≤ k
  | _, _, .nil => ⟨(fun _ h => nomatch h), Nat.le_refl _⟩
  | _, _, .cons f r => by
    obtain ⟨h1, h2⟩ := r.all
    refine ⟨fun d hd => ?_, ?_⟩
    · rcases List.mem_cons.mp hd with rfl | hd
      · exact ⟨f.lay, f.dep⟩
      · exact h1 d hd
    · have := f.siz
      simp only [szAll]
      omega
theorem FitAll.tup {n : Nat} {ds : List PyData} {k : Nat} (h : FitAll n ds k) : Fit (n + 1) (k + 1) (.tuple ds) := Fit.tup h.all.1 (by have := h.all.2; omega)
theorem FitAll.snoc {n : Nat} : ∀ {ds : List PyData} {k m : Nat} {d : PyData}, FitAll n ds k → Fit n m d → FitAll n (ds ++ [d]) (k + m)
  | _, _, m, d, .nil, f => by
    have := FitAll.cons f (FitAll.nil (n := n))
    rw [Nat.zero_add]
    exact this
  | _, _, m, d, .cons g r, f => by
    have := FitAll.cons g (r.snoc f)
    rw [Nat.add_assoc]
    exact this
theorem fitS {x : Str} {n m : Nat} (h : PyData.strOk x = true) (l : x.length + 1 ≤ m) : Fit n m (.str x) := ⟨h, Nat.zero_le _, l⟩
theorem fitC {d : PyData} {n m : Nat} (a : d.canLay0 = true) (b : d.depth ≤ n) (c : sz d ≤ m) : Fit n m d := ⟨a, b, c⟩
/-! the sayings -/
def vals5 : List PyData := [.int 3, .int (-1), .bool true, .none, .str "t x"]
def says5 (v : PyData) : List PyData := [.tuple [.str "value", v], .tuple [.str "self"], .tuple [.str "name", .str "i"], .tuple [.str "field", .str "ab"], .tuple [.str "new", .str "cd"]]
def dE (k : Nat) : Nat := 2 * k + 1
def sE : Nat → Nat
  | 0 => 12
  | k + 1 => 2 * sE k + 20
structure GE (k : Nat) (d : PyData) : Prop where
  g : G .e d
  f : Fit (dE k) (sE k) d
theorem sE_pos (k : Nat) : 12 ≤ sE k := by
  cases k with
  | zero => exact Nat.le_refl _
  | succ k => show 12 ≤ 2 * sE k + 20; omega
theorem fit_low {k : Nat} {d : PyData} (h : Fit 1 12 d) : Fit (dE k) (sE k) d := h.mono (by unfold dE; omega) (sE_pos k)
theorem vals5_ok {v : PyData} (h : v ∈ vals5) : leafOk .value v = true ∧ Fit 0 5 v := by
  unfold vals5 at h
  simp only [List.mem_cons, List.not_mem_nil, or_false] at h
  rcases h with rfl | rfl | rfl | rfl | rfl
  · exact ⟨by decide, fitC rfl (Nat.le_refl _) (by show 1 ≤ 5; decide)⟩
  · exact ⟨by decide, fitC rfl (Nat.le_refl _) (by show 1 ≤ 5; decide)⟩
  · exact ⟨by decide, fitC rfl (Nat.le_refl _) (by show 1 ≤ 5; decide)⟩
  · exact ⟨by decide, fitC rfl (Nat.le_refl _) (by show 1 ≤ 5; decide)⟩
  · exact ⟨by decide +kernel, fitC (by decide +kernel) (Nat.le_refl _) (by show (Str.ofString "t x").length + 1 ≤ 5; decide +kernel)⟩
theorem ge_self (k : Nat) : GE k (.tuple [.str "self"]) := by
  refine ⟨G.node rfl (parts_e (ds := []) (show shape .e "self" = some [] by decide +kernel) rfl) (fun p h => nomatch h), fit_low ?_⟩
  exact (FitAll.cons (fitS (n := 0) (m := 5) (by decide +kernel) (by decide +kernel)) .nil).tup.mono (by decide) (by decide)
theorem says5_ok {k : Nat} {v d : PyData} (hv : v ∈ vals5) (h : d ∈ says5 v) : GE k d := by
  unfold says5 at h
  simp only [List.mem_cons, List.not_mem_nil, or_false] at h
  obtain ⟨v1, v2⟩ := vals5_ok hv
  rcases h with rfl | rfl | rfl | rfl | rfl
  · refine ⟨G.node rfl (parts_e (ds := [v]) (show shape .e "value" = some [.value] by decide +kernel) rfl) (all1 (G.leaf rfl v1 (by rintro (h | h) <;> cases h))), fit_low ?_⟩
    exact (FitAll.cons (fitS (n := 0) (m := 6) (by decide +kernel) (by decide +kernel)) (.cons v2 .nil)).tup.mono (by decide) (by decide)
  · exact ge_self k
  · refine ⟨G.node rfl (parts_e (ds := [.str "i"]) (show shape .e "name" = some [.name] by decide +kernel) rfl) (all1 (G.leaf rfl (by decide +kernel) (by rintro (h | h) <;> cases h))), fit_low ?_⟩
    exact (FitAll.cons (fitS (n := 0) (m := 5) (by decide +kernel) (by decide +kernel)) (.cons (fitS (m := 2) (by decide +kernel) (by decide +kernel)) .nil)).tup.mono (by decide) (by decide)
  · refine ⟨G.node rfl (parts_e (ds := [.str "ab"]) (show shape .e "field" = some [.field] by decide +kernel) rfl) (all1 (G.leaf rfl (by decide +kernel) (by rintro (h | h) <;> cases h))), fit_low ?_⟩
    exact (FitAll.cons (fitS (n := 0) (m := 6) (by decide +kernel) (by decide +kernel)) (.cons (fitS (m := 3) (by decide +kernel) (by decide +kernel)) .nil)).tup.mono (by decide) (by decide)
  · refine ⟨G.node rfl (parts_e (ds := [.str "cd"]) (show shape .e "new" = some [.kind] by decide +kernel) rfl) (all1 (G.leaf rfl (by decide +kernel) (fun _ => ⟨"cd", by decide +kernel, rfl⟩))), fit_low ?_⟩
    exact (FitAll.cons (fitS (n := 0) (m := 4) (by decide +kernel) (by decide +kernel)) (.cons (fitS (m := 3) (by decide +kernel) (by decide +kernel)) .nil)).tup.mono (by decide) (by decide)
theorem g_es {ds : List PyData} (h : ∀ d ∈ ds, G .e d) : G .es (.tuple ds) := by
  refine G.node rfl (show parts .es (.tuple ds) = some (ds.map (Prod.mk S.e)) from rfl) fun p hp => ?_
  obtain ⟨d, h1, rfl⟩ := List.mem_map.mp hp
  exact h d h1
theorem g_word {x : Str} (h : x ∈ U4) : G .word (.str x) := by
  refine G.leaf rfl ?_ (fun _ => ⟨x, h, rfl⟩)
  unfold U4 at h
  simp only [List.mem_cons, List.not_mem_nil, or_false] at h
  rcases h with rfl | rfl | rfl | rfl <;> decide +kernel
theorem fit_word {x : Str} {n : Nat} (h : x ∈ U4) : Fit n 3 (.str x) := by
  unfold U4 at h
  simp only [List.mem_cons, List.not_mem_nil, or_false] at h
  rcases h with rfl | rfl | rfl | rfl <;> exact fitS (by decide +kernel) (by decide +kernel)
theorem ge_ask {k j : Nat} {a b : PyData} {x : Str} (ha : GE k a) (hb : GE k b) (hx : x ∈ U4) : GE (k + 1) (.tuple [.str "ask", a, .str x, .tuple (([b, .tuple [.str "self"]] : List PyData).take j)]) := by
  have hs := ge_self k
  have hes : ∀ d ∈ ([b, .tuple [.str "self"]] : List PyData).take j, G .e d := fun d hd => by
    have := List.mem_of_mem_take hd
    simp only [List.mem_cons, List.not_mem_nil, or_false] at this
    rcases this with rfl | rfl
    · exact hb.g
    · exact hs.g
  have fes : Fit (dE k + 1) (sE k + 8) (.tuple (([b, .tuple [.str "self"]] : List PyData).take j)) := by
    have f2 : Fit (dE k) 6 (.tuple [.str "self"]) := (FitAll.cons (fitS (n := 0) (m := 5) (by decide +kernel) (by decide +kernel)) .nil).tup.mono (by unfold dE; omega) (by decide)
    match j with
    | 0 => have h := (FitAll.nil (n := dE k)).tup; exact h.mono (Nat.le_refl _) (by omega)
    | 1 => have h : Fit (dE k + 1) (sE k + 0 + 1) (.tuple [b]) := (FitAll.cons hb.f FitAll.nil).tup; exact h.mono (Nat.le_refl _) (by omega)
    | (i + 2) =>
      rw [show ([b, .tuple [.str "self"]] : List PyData).take (i + 2) = [b, .tuple [.str "self"]] from List.take_of_length_le (by simp)]
      have h : Fit (dE k + 1) (sE k + (6 + 0) + 1) (.tuple [b, .tuple [.str "self"]]) := (FitAll.cons hb.f (FitAll.cons f2 FitAll.nil)).tup; exact Fit.mono (n := dE k + 1) (m := sE k + (6 + 0) + 1) h (Nat.le_refl _) (by omega)
  refine ⟨G.node rfl (parts_e (ds := [a, .str x, _]) (show shape .e "ask" = some [.e, .word, .es] by decide +kernel) rfl) (all3 ha.g (g_word hx) (g_es hes)), ?_⟩
  have := (FitAll.cons (fitS (n := dE k + 1) (m := 4) (x := "ask") (by decide +kernel) (by decide +kernel)) (.cons (ha.f.mono (Nat.le_succ _) (Nat.le_refl _)) (.cons (fit_word hx) (.cons fes .nil)))).tup
  refine this.mono (by unfold dE; omega) ?_
  show _ ≤ 2 * sE k + 20
  omega
theorem ge_elder {k : Nat} {a : PyData} (ha : GE k a) : GE (k + 1) (.tuple [.str "elder", .str "q", .tuple [a]]) := by
  refine ⟨G.node rfl (parts_e (ds := [.str "q", .tuple [a]]) (show shape .e "elder" = some [.word, .es] by decide +kernel) rfl) (all2 (g_word (by decide +kernel)) (g_es (all1 ha.g))), ?_⟩
  have := (FitAll.cons (fitS (n := dE k + 1) (m := 6) (x := "elder") (by decide +kernel) (by decide +kernel)) (.cons (fitS (m := 2) (x := "q") (by decide +kernel) (by decide +kernel)) (.cons (FitAll.cons ha.f .nil).tup .nil))).tup
  refine this.mono (by unfold dE; omega) ?_
  show _ ≤ 2 * sE k + 20
  omega
def ops5 : List Str := ["same", "add", "sub", "mul", "under"]
theorem ge_two {k : Nat} {a b : PyData} {x : Str} (hx : x ∈ ops5) (ha : GE k a) (hb : GE k b) : GE (k + 1) (.tuple [.str x, a, b]) := by
  have hsh : shape .e x = some [.e, .e] ∧ Fit (dE k) 6 (.str x) := by
    unfold ops5 at hx
    simp only [List.mem_cons, List.not_mem_nil, or_false] at hx
    rcases hx with rfl | rfl | rfl | rfl | rfl <;> exact ⟨by decide +kernel, fitS (by decide +kernel) (by decide +kernel)⟩
  refine ⟨G.node rfl (parts_e (ds := [a, b]) hsh.1 rfl) (all2 ha.g hb.g), ?_⟩
  have := (FitAll.cons hsh.2 (.cons ha.f (.cons hb.f .nil))).tup
  refine this.mono (by unfold dE; omega) ?_
  show _ ≤ 2 * sE k + 20
  omega
end B1

set_option maxRecDepth 100000
set_option maxHeartbeats 4000000
namespace B1
open PySem PySem.Spec PyProof.Rows L2
abbrev sPart : Stmt := top 24
theorem scPart : FnScope ["_law_script", "_law_town", "_law_deep", "_law_turn", "_law_value", "_law_one", "_law_other"] ["_law_script", "_law_town", "_law_deep"] (defScope sPart) := ⟨rfl, rfl, rfl, by decide +kernel, rfl, by decide +kernel, by decide +kernel⟩
def spPart (K : PySem.W.Frag) (k : Nat) : Sp := fun vs H Q _ => ∃ (a t : Addr), vs = [.ref a, .ref t, .int (k : Int)] ∧ Scr K H a ∧ Town H t ∧ ∀ (v : V) (d : PyData) (H' : Hp), Kept H H' → Town H' t → Dp K H' v d → GE k d → Q v H'
section
variable {K : PySem.W.Frag}
/-- an item of a list of data -/
theorem ix_dat {H : Hp} {v : V} {ds : List PyData} (h : Dp K H v (.list ds)) {i : Int} (h0 : 0 ≤ i) (h1 : i < (ds.length : Nat)) {Q : VK} (q : ∀ u d, d ∈ ds → ds[i.toNat]? = some d → Dp K H u d → Q u H) : rIxL K v (.int i) H Q := by
  obtain ⟨a, xs, rfl, hs, hd⟩ := Dp.lstD h
  have hl : i.toNat < ds.length := by omega
  have e : ds[i.toNat]? = some ds[i.toNat] := List.getElem?_eq_getElem hl
  obtain ⟨u, e1, e2⟩ := dps_get hd e
  refine ⟨a, xs, i, u, rfl, rfl, hs, ?_, q u _ (List.getElem_mem hl) e e2⟩
  have := atI_nat (xs := xs) e1
  rwa [Int.toNat_of_nonneg h0] at this
/-- t[:k] of a tuple of data -/
theorem sl_dat {H : Hp} {v : V} {ds : List PyData} (h : Dp K H v (.tuple ds)) {i : Int} (h0 : 0 ≤ i) {Q : VK} (q : ∀ u H', Same H H' → Dp K H' u (.tuple (ds.take i.toNat)) → Q u H') : rSlA K v none (some i) H Q := by
  obtain ⟨a, xs, rfl, hs, hd⟩ := Dp.tupD h
  have e0 : HT.sIx xs.length 0 none = 0 := HT.sIx_none _ _
  have e1 : HT.sIx xs.length xs.length (some i) = min i.toNat xs.length := by
    have := HT.sIx_nat xs.length xs.length i.toNat
    rwa [Int.toNat_of_nonneg h0] at this
  have len := dps_len hd
  refine ⟨a, xs, rfl, hs, fun hw => ?_, fun hw p hp => ?_⟩
  · refine q _ H (Same.refl H) ?_
    rw [e1] at hw
    rw [List.take_of_length_le (by omega)]
    exact h
  · refine q _ _ (same_new hp _) (.tup (SqT.of upd_same) ?_)
    have ec : cutV xs none (some i) = xs.take i.toNat := by
      unfold cutV
      rw [e0, e1, Nat.sub_zero, List.drop_zero]
      by_cases hk : i.toNat ≤ xs.length
      · rw [Nat.min_eq_left hk]
      · rw [Nat.min_eq_right (by omega), List.take_of_length_le (Nat.le_refl _), List.take_of_length_le (by omega)]
    rw [ec]
    exact same_dps (same_new hp _) (dps_take _ hd)
variable {P : Program} {w : World} {mg : Str → Option Value} {base : Heap} {f g : Addr} {fd gd : FuncData}
def spRec (K : PySem.W.Frag) (k : Nat) : Sp := fun vs H Q E => ∃ j, k = j + 1 ∧ spPart K j vs H Q E
theorem ok_part {k : Nat} (F : Fun K "_law_a_part" "_law_a_part" sPart f fd)
    (GD : FnOk P w K mg base CX0 1 g gd ["_law_script", "_law_town", "_law_many"] (spDraw K)) (bD : Binds K gd ["_law_script", "_law_town", "_law_many"] []) (kD : PySem.W.keepIn K (.ref g) = true) (mD : mg "_law_draw" = some (.ref g))
    (GP : FnOk P w K mg base CX0 (k + 1) f fd ["_law_script", "_law_town", "_law_deep"] (spRec K k)) (bP : Binds K fd ["_law_script", "_law_town", "_law_deep"] []) (mP : mg "_law_a_part" = some (.ref f)) :
    FnOk P w K mg base CX0 (k + 2) f fd ["_law_script", "_law_town", "_law_deep"] (spPart K k) := by
  refine F.ok scPart (fun vs H Q E h => ?_) (fun cdv A outer s H vs Q E hr h => ?_)
  · obtain ⟨a, t, rfl, _⟩ := h
    rfl
  obtain ⟨a, t, rfl, hS, hT, q⟩ := h
  have hr1 := hr.mono (show 1 ≤ k + 1 by omega)
  refine ⟨_, pss_cons (ps_set (i := 3) scPart.nd rfl (.inl rfl) (pe_ifExp (pt_cmpR op_gt (pv 2) pe_int (nomark _)) (pe_call GD hr1 rfl mD kD bD .nil pass0 (pa_cons (pv 0) (pa_cons (pv 1) (pa_cons pe_int pa_nil)))) (pe_call GD hr1 rfl mD kD bD .nil pass0 (pa_cons (pv 0) (pa_cons (pv 1) (pa_cons pe_int pa_nil))))))
    (pss_cons (ps_if (pt_cmpR op_lt (pv 3) pe_int (nomark _))
      (pss_cons (ps_set (i := 4) scPart.nd rfl (.inl rfl) (pe_ix ix_list (de_lst (das_cons de_int (das_cons de_neg (das_cons de_bl (das_cons de_non (das_cons de_str das_nil))))) (by decide)) (pe_call GD hr1 rfl mD kD bD .nil pass0 (pa_cons (pv 0) (pa_cons (pv 1) (pa_cons pe_int pa_nil)))) (fun _ _ => rfl)))
      (pss_one (ps_ret (pe_ix ix_list (de_lst (das_cons (de_tup (das_cons de_str (das_cons (de_name 4 (pv 4)) das_nil)) (by decide)) (das_cons (de_tup (das_cons de_str das_nil) (by decide)) (das_cons (de_tup (das_cons de_str (das_cons de_str das_nil)) (by decide)) (das_cons (de_tup (das_cons de_str (das_cons de_str das_nil)) (by decide)) (das_cons (de_tup (das_cons de_str (das_cons de_str das_nil)) (by decide)) das_nil))))) (by decide)) (pv 3) (fun _ _ => rfl))))) pss_nil)
    (pss_cons (ps_par (by rfl) scPart.nd rfl rfl (by decide) rfl rfl (pa_cons (pe_call GP hr rfl mP F.kp bP .nil pass0 (pa_cons (pv 0) (pa_cons (pv 1) (pa_cons (pe_op op_sub (pv 2) pe_int) pa_nil)))) (pa_cons (pe_call GP hr rfl mP F.kp bP .nil pass0 (pa_cons (pv 0) (pa_cons (pv 1) (pa_cons (pe_op op_sub (pv 2) pe_int) pa_nil)))) pa_nil)) (by rfl) (i := 5) (j := 6))
    (pss_cons (ps_if (pt_cmpR op_eq (pv 3) pe_int (nomark _)) (pss_one (ps_ret (pe_tup (pa_cons pe_str (pa_cons (pv 5) (pa_cons (pe_ix ix_list (de_lst (das_cons de_str (das_cons de_str das_nil)) (by decide)) (pe_call GD hr1 rfl mD kD bD .nil pass0 (pa_cons (pv 0) (pa_cons (pv 1) (pa_cons pe_int pa_nil)))) (fun _ _ => rfl))
      (pa_cons (pe_slice sl_tupA (de_tup (das_cons (de_name 6 (pv 6)) (das_cons (de_tup (das_cons de_str das_nil) (by decide)) das_nil)) (by decide)) po_none (po_some (pe_call GD hr1 rfl mD kD bD .nil pass0 (pa_cons (pv 0) (pa_cons (pv 1) (pa_cons pe_int pa_nil)))))) pa_nil))))))) pss_nil)
    (pss_cons (ps_if (pt_cmpR op_eq (pv 3) pe_int (nomark _)) (pss_one (ps_ret (de_tup (das_cons de_str (das_cons de_str (das_cons (de_tup (das_cons (de_name 5 (pv 5)) das_nil) (by decide)) das_nil))) (by decide)))) pss_nil)
    (pss_one (ps_ret (pe_tup (pa_cons (pe_ix ix_list (de_lst (das_cons de_str (das_cons de_str (das_cons de_str (das_cons de_str (das_cons de_str das_nil))))) (by decide)) (pe_call GD hr1 rfl mD kD bD .nil pass0 (pa_cons (pv 0) (pa_cons (pv 1) (pa_cons pe_int pa_nil)))) (fun _ _ => rfl)) (pa_cons (pv 5) (pa_cons (pv 6) pa_nil)))))))))), ?_⟩
  refine ⟨_, rfl, _, _, rfl, rfl, _, rfl, ?_⟩
  refine ite2 (fun e => ⟨_, rfl, _, rfl, a, t, 9, rfl, hS, hT, by decide, by decide, fun i H1 i0 i1 k1 T1 => ?_⟩) (fun e => ⟨_, rfl, _, rfl, a, t, 5, rfl, hS, hT, by decide, by decide, fun i H1 i0 i1 k1 T1 => ?_⟩)
  all_goals
    have hi : (i < 5 ∨ ∃ j, k = j + 1) ∧ i < 9 := by
      first
      | exact ⟨.inl (by omega), by omega⟩
      | exact ⟨.inr ⟨k - 1, by have := of_decide_eq_true e; omega⟩, by omega⟩
    clear e i1
    have S1 := hS.kept k1
    refine ⟨_, rfl, _, _, rfl, rfl, _, rfl, ?_⟩
    refine ite2 (fun c => ?_) (fun c => ?_)
    · have c' := of_decide_eq_true c
      refine ⟨fun _ => .none, use0, fun lv H2 s2 d2 => ⟨_, rfl, _, rfl, a, t, 5, rfl, S1.kept (Kept.of s2), T1.same s2, by decide, by decide, fun z H3 z0 z1 k3 T3 => ?_⟩⟩
      refine ix_dat (k3.dp d2) z0 (show z < ((5 : Nat) : Int) by omega) fun u dv dm _ du => ?_
      refine ⟨fun _ => dv, use1 ⟨u, rfl, du⟩, fun lw H4 s4 d4 => ⟨_, rfl, ix_dat d4 i0 (show i < ((5 : Nat) : Int) by omega) fun u2 d5 dm5 _ du5 => ?_⟩⟩
      exact q u2 d5 H4 (k1.trans ((Kept.of s2).trans (k3.trans (Kept.of s4)))) (T3.same s4) du5 (says5_ok dm dm5)
    · have c' := of_decide_eq_false (Bool.eq_false_iff.mpr c)
      obtain ⟨j, rfl⟩ := hi.1.resolve_left (by omega)
      have hi9 := hi.2
      clear hi
      have ej : ((((j + 1 : Nat) : Int)) - 1) = (j : Int) := by omega
      refine ⟨_, rfl, _, rfl, _, rfl, _, _, rfl, rfl, j, rfl, a, t, by rw [← ej]; rfl, S1, T1, fun v1 d1 H2 k2 T2 p1 g1 => ?_⟩
      refine ⟨_, rfl, _, rfl, _, rfl, _, _, rfl, rfl, j, rfl, a, t, by rw [← ej]; rfl, S1.kept k2, T2, fun v2 d2 H3 k3 T3 p2 g2 => ⟨_, _, rfl, ?_⟩⟩
      have S3 := (S1.kept k2).kept k3
      have p1' := k3.dp p1
      have K3 := k1.trans (k2.trans k3)
      -- if turn == 5
      refine ⟨_, rfl, rfl, _, rfl, ?_⟩
      refine ite2 (fun c5 => ?_) (fun c5 => ?_)
      · refine ⟨_, rfl, fun _ => .none, use0, fun lv H4 s4 d4 => ⟨_, rfl, _, rfl, a, t, 2, rfl, S3.kept (Kept.of s4), T3.same s4, by decide, by decide, fun z H5 z0 z1 k5 T5 => ?_⟩⟩
        refine ix_dat (k5.dp d4) z0 (show z < ((2 : Nat) : Int) by omega) fun u dw dm _ du => ?_
        have K5 := (Kept.of s4).trans k5
        refine ⟨fun _ => d2, use1 ⟨v2, rfl, K5.dp p2⟩, fun tv H6 s6 d6 => ⟨_, rfl, _, rfl, a, t, 3, rfl, (S3.kept K5).kept (Kept.of s6), T5.same s6, by decide, by decide, fun y H7 y0 y1 k7 T7 => ⟨_, rfl, ?_⟩⟩⟩
        refine sl_dat (k7.dp d6) y0 fun sv H8 s8 d8 => ⟨by show 4 ≤ sizeLine; decide, fun p np => ?_⟩
        have s9 := same_new (H := H8) np (.tup [.str "ask", v1, u, sv])
        have K8 := (Kept.of s6).trans (k7.trans (Kept.of s8))
        obtain ⟨x, hx, rfl⟩ : ∃ x ∈ U4, dw = .str x := by
          have : dw ∈ [PyData.str "go", .str "p"] := dm
          simp only [List.mem_cons, List.not_mem_nil, or_false] at this
          rcases this with rfl | rfl
          · exact ⟨_, by decide +kernel, rfl⟩
          · exact ⟨_, by decide +kernel, rfl⟩
        refine q _ (.tuple [.str "ask", d1, .str x, .tuple (([d2, .tuple [.str "self"]] : List PyData).take y.toNat)]) _ (K3.trans (K5.trans (K8.trans (Kept.of s9)))) ((T7.same s8).same s9) (.tup (SqT.of upd_same) ?_) (ge_ask g1 g2 hx)
        exact .cons (.str _) (.cons (same_dp s9 (K8.dp (K5.dp p1'))) (.cons (same_dp s9 (K8.dp du)) (.cons (same_dp s9 d8) .nil)))
      · -- if turn == 6
        refine ⟨_, rfl, rfl, _, rfl, ?_⟩
        refine ite2 (fun c6 => ?_) (fun c6 => ?_)
        · refine ⟨fun _ => d1, use1 ⟨v1, rfl, p1'⟩, fun v H4 s4 d4 => ?_⟩
          exact q v _ H4 (K3.trans (Kept.of s4)) (T3.same s4) d4 (ge_elder g1)
        · refine ⟨fun _ => .none, use0, fun lv H4 s4 d4 => ⟨_, rfl, _, rfl, a, t, 5, rfl, S3.kept (Kept.of s4), T3.same s4, by decide, by decide, fun z H5 z0 z1 k5 T5 => ?_⟩⟩
          refine ix_dat (k5.dp d4) z0 (show z < ((5 : Nat) : Int) by omega) fun u dw dm _ du => ?_
          have K5 := (Kept.of s4).trans k5
          refine ⟨_, rfl, _, rfl, by show 3 ≤ sizeLine; decide, fun p np => ?_⟩
          have s9 := same_new (H := H5) np (.tup [u, v1, v2])
          obtain ⟨x, hx, rfl⟩ : ∃ x ∈ ops5, dw = .str x := by
            have : dw ∈ [PyData.str "same", .str "add", .str "sub", .str "mul", .str "under"] := dm
            simp only [List.mem_cons, List.not_mem_nil, or_false] at this
            rcases this with rfl | rfl | rfl | rfl | rfl <;> exact ⟨_, by decide +kernel, rfl⟩
          refine q _ (.tuple [.str x, d1, d2]) _ (K3.trans (K5.trans (Kept.of s9))) (T5.same s9) (.tup (SqT.of upd_same) ?_) (ge_two hx g1 g2)
          exact .cons (same_dp s9 du) (.cons (same_dp s9 (K5.dp p1')) (.cons (same_dp s9 (K5.dp p2)) .nil))
theorem part_all (F : Fun K "_law_a_part" "_law_a_part" sPart f fd)
    (GD : FnOk P w K mg base CX0 1 g gd ["_law_script", "_law_town", "_law_many"] (spDraw K)) (bD : Binds K gd ["_law_script", "_law_town", "_law_many"] []) (kD : PySem.W.keepIn K (.ref g) = true) (mD : mg "_law_draw" = some (.ref g))
    (bP : Binds K fd ["_law_script", "_law_town", "_law_deep"] []) (mP : mg "_law_a_part" = some (.ref f)) : ∀ k : Nat, FnOk P w K mg base CX0 (k + 2) f fd ["_law_script", "_law_town", "_law_deep"] (spPart K k)
  | 0 => ok_part F GD bD kD mD ⟨fun vs H Q E h => (by obtain ⟨j, e, _⟩ := h; cases e), fun A outer s H args us vs Q E _ _ _ _ h => (by obtain ⟨j, e, _⟩ := h; cases e)⟩ bP mP
  | k + 1 => ok_part F GD bD kD mD ((part_all F GD bD kD mD bP mP k).imp fun vs H Q E ⟨j, e, h⟩ => (by cases e; exact h)) bP mP
end
end B1

set_option maxRecDepth 100000
set_option maxHeartbeats 4000000
namespace B1
open PySem PySem.Spec PyProof.Rows L2
def sB : Nat → Nat
  | 0 => 361
  | k + 1 => 3 * (120 + 2 * sB k) + 1
def sR : Nat → Nat
  | 0 => 120
  | k + 1 => 120 + 2 * sB k
theorem sB_eq (k : Nat) : sB k = 3 * sR k + 1 := by cases k <;> rfl
structure GR (k : Nat) (d : PyData) : Prop where
  g : G .row d
  f : Fit (2 * k + 6) (sR k) d
structure GB (k : Nat) (d : PyData) : Prop where
  g : G .body d
  f : Fit (2 * k + 7) (sB k) d
theorem g_body {ds : List PyData} (h : ∀ d ∈ ds, G .row d) : G .body (.tuple ds) := by
  refine G.node rfl (show parts .body (.tuple ds) = some (ds.map (Prod.mk S.row)) from rfl) fun p hp => ?_
  obtain ⟨d, h1, rfl⟩ := List.mem_map.mp hp
  exact h d h1
theorem sR_low (k : Nat) : 120 ≤ sR k := by cases k <;> simp only [sR] <;> omega
theorem fit_row {k : Nat} {d : PyData} (h : Fit 6 120 d) : Fit (2 * k + 6) (sR k) d := h.mono (by omega) (sR_low k)
theorem g_name {x : Str} (h : isName (.str x) = true) : G .name (.str x) := G.leaf rfl h (by rintro (h | h) <;> cases h)
theorem g_field {x : Str} (h : isName (.str x) = true) : G .field (.str x) := G.leaf rfl h (by rintro (h | h) <;> cases h)
def rows5 (e : PyData) : List PyData := [.tuple [.str "do", e], .tuple [.str "give", e], .tuple [.str "raise", e], .tuple [.str "let", .str "i", e], .tuple [.str "put", .str "ab", e]]
theorem ge2 {e : PyData} (h : GE 2 e) : Fit 5 108 e := h.f
theorem rows5_ok {k : Nat} {e d : PyData} (he : GE 2 e) (h : d ∈ rows5 e) : GR k d := by
  unfold rows5 at h
  simp only [List.mem_cons, List.not_mem_nil, or_false] at h
  have fe := ge2 he
  rcases h with rfl | rfl | rfl | rfl | rfl
  · refine ⟨G.node rfl (parts_r (ds := [e]) (show shape .row "do" = some [.e] by decide +kernel) rfl) (all1 he.g), fit_row ?_⟩
    exact (FitAll.cons (fitS (n := 5) (m := 6) (by decide +kernel) (by decide +kernel)) (.cons fe .nil)).tup.mono (by decide) (by decide)
  · refine ⟨G.node rfl (parts_r (ds := [e]) (show shape .row "give" = some [.e] by decide +kernel) rfl) (all1 he.g), fit_row ?_⟩
    exact (FitAll.cons (fitS (n := 5) (m := 6) (by decide +kernel) (by decide +kernel)) (.cons fe .nil)).tup.mono (by decide) (by decide)
  · refine ⟨G.node rfl (parts_r (ds := [e]) (show shape .row "raise" = some [.e] by decide +kernel) rfl) (all1 he.g), fit_row ?_⟩
    exact (FitAll.cons (fitS (n := 5) (m := 6) (by decide +kernel) (by decide +kernel)) (.cons fe .nil)).tup.mono (by decide) (by decide)
  · refine ⟨G.node rfl (parts_r (ds := [.str "i", e]) (show shape .row "let" = some [.name, .e] by decide +kernel) rfl) (all2 (g_name (by decide +kernel)) he.g), fit_row ?_⟩
    exact (FitAll.cons (fitS (n := 5) (m := 4) (by decide +kernel) (by decide +kernel)) (.cons (fitS (m := 2) (by decide +kernel) (by decide +kernel)) (.cons fe .nil))).tup.mono (by decide) (by decide)
  · refine ⟨G.node rfl (parts_r (ds := [.str "ab", e]) (show shape .row "put" = some [.field, .e] by decide +kernel) rfl) (all2 (g_field (by decide +kernel)) he.g), fit_row ?_⟩
    exact (FitAll.cons (fitS (n := 5) (m := 4) (by decide +kernel) (by decide +kernel)) (.cons (fitS (m := 3) (by decide +kernel) (by decide +kernel)) (.cons fe .nil))).tup.mono (by decide) (by decide)
def rows3 (e a b : PyData) : List PyData := [.tuple [.str "when", e, a, b], .tuple [.str "while", e, a], .tuple [.str "try", a, .str "j", b]]
theorem rows3_ok {k : Nat} {e a b d : PyData} (he : GE 2 e) (ha : GB k a) (hb : GB k b) (h : d ∈ rows3 e a b) : GR (k + 1) d := by
  unfold rows3 at h
  simp only [List.mem_cons, List.not_mem_nil, or_false] at h
  have fe : Fit (2 * k + 7) 108 e := (ge2 he).mono (by omega) (Nat.le_refl _)
  rcases h with rfl | rfl | rfl
  · refine ⟨G.node rfl (parts_r (ds := [e, a, b]) (show shape .row "when" = some [.e, .body, .body] by decide +kernel) rfl) (all3 he.g ha.g hb.g), ?_⟩
    refine (FitAll.cons (fitS (n := 2 * k + 7) (m := 5) (x := "when") (by decide +kernel) (by decide +kernel)) (.cons fe (.cons ha.f (.cons hb.f .nil)))).tup.mono (by omega) ?_
    show _ ≤ 120 + 2 * sB k
    omega
  · refine ⟨G.node rfl (parts_r (ds := [e, a]) (show shape .row "while" = some [.e, .body] by decide +kernel) rfl) (all2 he.g ha.g), ?_⟩
    refine (FitAll.cons (fitS (n := 2 * k + 7) (m := 6) (x := "while") (by decide +kernel) (by decide +kernel)) (.cons fe (.cons ha.f .nil))).tup.mono (by omega) ?_
    show _ ≤ 120 + 2 * sB k
    omega
  · refine ⟨G.node rfl (parts_r (ds := [a, .str "j", b]) (show shape .row "try" = some [.body, .name, .body] by decide +kernel) rfl) (all3 ha.g (g_name (by decide +kernel)) hb.g), ?_⟩
    refine (FitAll.cons (fitS (n := 2 * k + 7) (m := 4) (x := "try") (by decide +kernel) (by decide +kernel)) (.cons ha.f (.cons (fitS (m := 2) (x := "j") (by decide +kernel) (by decide +kernel)) (.cons hb.f .nil)))).tup.mono (by omega) ?_
    show _ ≤ 120 + 2 * sB k
    omega
abbrev sABody : Stmt := top 25
theorem scAB : FnScope ["_law_script", "_law_town", "_law_deep", "_law_found", "_law_k", "_law_turn", "_law_say", "_law_row", "_law_one", "_law_other"] ["_law_script", "_law_town", "_law_deep"] (defScope sABody) := ⟨rfl, rfl, rfl, by decide +kernel, rfl, by decide +kernel, by decide +kernel⟩
def spAB (K : PySem.W.Frag) (k : Nat) : Sp := fun vs H Q _ => ∃ (a t : Addr), vs = [.ref a, .ref t, .int (k : Int)] ∧ Scr K H a ∧ Town H t ∧ ∀ (v : V) (d : PyData) (H' : Hp), Kept H H' → Town H' t → Dp K H' v d → GB k d → Q v H'
def spABR (K : PySem.W.Frag) (k : Nat) : Sp := fun vs H Q E => ∃ j, k = j + 1 ∧ spAB K j vs H Q E
/-- between two rows -/
def PvB (K : PySem.W.Frag) (H : Hp) (a t : Addr) (k : Nat) : Nat → L2.St → Hp → Prop := fun i σ H' => ∃ (fv : V) (ds : List PyData) (y4 y5 y6 y7 y8 y9 : Option V), σ = [some (.ref a), some (.ref t), some (.int (k : Int)), some fv, y4, y5, y6, y7, y8, y9] ∧
  Kept H H' ∧ Town H' t ∧ Dp K H' fv (.tuple ds) ∧ ds.length = i ∧ (∀ r ∈ ds, G .row r) ∧ FitAll (2 * k + 6) ds (i * sR k)
section
variable {K : PySem.W.Frag}
/-- a tuple of data and one more -/
theorem cat_dat {H : Hp} {v u : V} {ds es : List PyData} (h : Dp K H v (.tuple ds)) (h' : Dp K H u (.tuple es)) (hl : ds.length + es.length ≤ sizeLine) {Q : VK} (q : ∀ r H', Same H H' → Dp K H' r (.tuple (ds ++ es)) → Q r H') : rCatA K v u H Q := by
  obtain ⟨a, xs, rfl, hs, hd⟩ := Dp.tupD h
  obtain ⟨b, ys, rfl, hs', hd'⟩ := Dp.tupD h'
  have l1 := dps_len hd
  have l2 := dps_len hd'
  refine ⟨a, b, xs, ys, rfl, rfl, hs, hs', by omega, fun e => ?_, fun _ e => ?_, fun _ _ p hp => ?_⟩
  · subst e
    cases hd
    exact q _ H (Same.refl H) h'
  · subst e
    cases hd'
    refine q _ H (Same.refl H) ?_
    rw [List.append_nil]
    exact h
  · have s := same_new hp (.tup (xs ++ ys))
    exact q _ _ s (.tup (SqT.of upd_same) (same_dps s (dps_append hd hd')))
variable {P : Program} {w : World} {mg : Str → Option Value} {base : Heap} {f g h : Addr} {fd gd hd : FuncData}
theorem ok_ab {k : Nat} (F : Fun K "_law_a_body" "_law_a_body" sABody f fd) (B : Bl mg)
    (GD : FnOk P w K mg base CX0 1 g gd ["_law_script", "_law_town", "_law_many"] (spDraw K)) (bD : Binds K gd ["_law_script", "_law_town", "_law_many"] []) (kD : PySem.W.keepIn K (.ref g) = true) (mD : mg "_law_draw" = some (.ref g))
    (GP : FnOk P w K mg base CX0 4 h hd ["_law_script", "_law_town", "_law_deep"] (spPart K 2)) (bP : Binds K hd ["_law_script", "_law_town", "_law_deep"] []) (kP : PySem.W.keepIn K (.ref h) = true) (mP : mg "_law_a_part" = some (.ref h))
    (GB' : FnOk P w K mg base CX0 (k + 4) f fd ["_law_script", "_law_town", "_law_deep"] (spABR K k)) (bB : Binds K fd ["_law_script", "_law_town", "_law_deep"] []) (mB : mg "_law_a_body" = some (.ref f)) :
    FnOk P w K mg base CX0 (k + 5) f fd ["_law_script", "_law_town", "_law_deep"] (spAB K k) := by
  refine F.ok scAB (fun vs H Q E h => ?_) (fun cdv A outer s H vs Q E hr h => ?_)
  · obtain ⟨a, t, rfl, _⟩ := h
    rfl
  obtain ⟨a, t, rfl, hS, hT, q⟩ := h
  have hr1 := hr.mono (show 1 ≤ k + 4 by omega)
  have hr4 := hr.mono (show 4 ≤ k + 4 by omega)
  refine ⟨_, pss_cons (ps_set (i := 3) scAB.nd rfl (.inl rfl) (de_tup das_nil (by decide)))
    (pss_cons (ps_for PassesOwn.never rfl (pi_range1 rfl B.range (pa_cons (pe_call GD hr1 rfl mD kD bD .nil pass0 (pa_cons (pv 0) (pa_cons (pv 1) (pa_cons pe_int pa_nil)))) pa_nil)) (pg_name (i := 4) scAB.nd rfl (.inl rfl))
      (pss_cons (ps_par (by rfl) scAB.nd rfl rfl (by decide) rfl rfl (pa_cons (pe_call GD hr1 rfl mD kD bD .nil pass0 (pa_cons (pv 0) (pa_cons (pv 1) (pa_cons pe_int pa_nil)))) (pa_cons (pe_call GP hr4 rfl mP kP bP .nil pass0 (pa_cons (pv 0) (pa_cons (pv 1) (pa_cons pe_int pa_nil)))) pa_nil)) (by rfl) (i := 5) (j := 6))
      (pss_cons (ps_set (i := 7) scAB.nd rfl (.inl rfl) (pe_ix ix_list (de_lst (das_cons (de_tup (das_cons de_str (das_cons (de_name 6 (pv 6)) das_nil)) (by decide)) (das_cons (de_tup (das_cons de_str (das_cons (de_name 6 (pv 6)) das_nil)) (by decide)) (das_cons (de_tup (das_cons de_str (das_cons (de_name 6 (pv 6)) das_nil)) (by decide)) (das_cons (de_tup (das_cons de_str (das_cons de_str (das_cons (de_name 6 (pv 6)) das_nil))) (by decide)) (das_cons (de_tup (das_cons de_str (das_cons de_str (das_cons (de_name 6 (pv 6)) das_nil))) (by decide)) das_nil))))) (by decide))
        (pe_callB (call_min2 rfl) rfl B.min bt_min (pa_cons (pv 5) (pa_cons pe_int pa_nil))) (fun _ _ => rfl)))
      (pss_cons (ps_if (PW.pt (pw_and (pt_cmpR op_gt (pv 2) pe_int (nomark _)) (pw_and1 (pt_cmpR op_gt (pv 5) pe_int (nomark _)))))
        (pss_cons (ps_par (by rfl) scAB.nd rfl rfl (by decide) rfl rfl (pa_cons (pe_call GB' hr rfl mB F.kp bB .nil pass0 (pa_cons (pv 0) (pa_cons (pv 1) (pa_cons (pe_op op_sub (pv 2) pe_int) pa_nil)))) (pa_cons (pe_call GB' hr rfl mB F.kp bB .nil pass0 (pa_cons (pv 0) (pa_cons (pv 1) (pa_cons (pe_op op_sub (pv 2) pe_int) pa_nil)))) pa_nil)) (by rfl) (i := 8) (j := 9))
        (pss_one (ps_set (i := 7) scAB.nd rfl (.inl rfl) (pe_ix ix_list (de_lst (das_cons (de_tup (das_cons de_str (das_cons (de_name 6 (pv 6)) (das_cons (de_name 8 (pv 8)) (das_cons (de_name 9 (pv 9)) das_nil)))) (by decide)) (das_cons (de_tup (das_cons de_str (das_cons (de_name 6 (pv 6)) (das_cons (de_name 8 (pv 8)) das_nil))) (by decide)) (das_cons (de_tup (das_cons de_str (das_cons (de_name 8 (pv 8)) (das_cons de_str (das_cons (de_name 9 (pv 9)) das_nil)))) (by decide)) das_nil))) (by decide)) (pe_op op_sub (pv 5) pe_int) (fun _ _ => rfl))))) pss_nil)
      (pss_one (ps_set (i := 3) scAB.nd rfl (.inl rfl) (pe_op op_catA (pv 3) (pe_tup (pa_cons (pv 7) pa_nil)))))))))
    (pss_one (ps_ret (pv 3)))), ?_⟩
  -- found = ()
  refine ⟨fun _ => .none, use0, fun f0 H0 s0 d0 => ?_⟩
  -- for k in range(draw 4)
  refine ⟨_, rfl, _, rfl, a, t, 4, rfl, hS.kept (Kept.of s0), hT.same s0, by decide, by decide, fun n H1 n0 n1 k1 T1 => ⟨n, rfl, by omega, by omega, ?_⟩⟩
  refine for_it walk_range (PvB K H a t k) ⟨f0, [], _, _, _, _, _, _, rfl, (Kept.of s0).trans k1, T1, k1.dp d0, rfl, (fun r h => nomatch h), by rw [Nat.zero_mul]; exact .nil⟩ (fun _ _ _ _ _ => trivial) ?_ ?_
  · rintro i x σ H2 H2' hi ⟨fv, ds, y4, y5, y6, y7, y8, y9, rfl, k2, T2, dF, hl, hg, hf⟩ ⟨rfl, rfl⟩
    have S2 := hS.kept k2
    have i3 : i < 3 := by omega
    -- turn, say
    refine ⟨_, rfl, _, rfl, a, t, 8, rfl, S2, T2, by decide, by decide, fun tu H3 t0 t8 k3 T3 => ?_⟩
    refine ⟨_, rfl, _, rfl, a, t, rfl, S2.kept k3, T3, fun sv sd H4 k4 T4 p4 g4 => ⟨_, _, rfl, ?_⟩⟩
    have K4 := k2.trans (k3.trans k4)
    have F4 := (k3.trans k4).dp dF
    -- found = found + (row,)
    have fin : ∀ (z4 z5 z6 z8 z9 : Option V) (rv : V) (rd : PyData) (H5 : Hp), Kept H4 H5 → Town H5 t → Dp K H5 rv rd → GR k rd →
        tOp (rCatA K) (tVar 3) (tTup (tCons (tVar 7) tNil)) [some (.ref a), some (.ref t), some (.int (k : Int)), some fv, z4, z5, z6, some rv, z8, z9] H5 (fun x H6 => PvB K H a t k (i + 1) [some (.ref a), some (.ref t), some (.int (k : Int)), some x, z4, z5, z6, some rv, z8, z9] H6) := by
      intro z4 z5 z6 z8 z9 rv rd H5 k5 T5 p5 g5
      refine ⟨_, rfl, _, rfl, by show 1 ≤ sizeLine; decide, fun p np => ?_⟩
      have s6 := same_new (H := H5) np (.tup [rv])
      have one : Dp K (upd H5 p (.tup [rv])) (.ref p) (.tuple [rd]) := .tup (SqT.of upd_same) (.cons (same_dp s6 p5) .nil)
      refine cat_dat (same_dp s6 (k5.dp F4)) one (Nat.le_of_lt (smallM (by rw [hl]; show i + 1 ≤ _; omega))) fun r H7 s7 d7 => ?_
      refine ⟨r, ds ++ [rd], z4, z5, z6, some rv, z8, z9, rfl, K4.trans (k5.trans ((Kept.of s6).trans (Kept.of s7))), (T5.same s6).same s7, d7, by rw [List.length_append, hl]; rfl, fun r hr' => ?_, ?_⟩
      · rcases List.mem_append.mp hr' with h1 | h1
        · exact hg r h1
        · rw [List.mem_singleton.mp h1]; exact g5.g
      · have e : (i + 1) * sR k = i * sR k + sR k := Nat.succ_mul i (sR k)
        rw [e]
        exact hf.snoc g5.f
    -- row = [..][min(turn, 4)]
    refine ⟨fun _ => sd, fun n hn => ?_, fun lv H5 s5 d5 => ?_⟩
    · have : n = 6 := by
        have hn' : n ∈ [6, 6, 6, 6, 6] := hn
        simpa using hn'
      subst this
      exact ⟨sv, rfl, p4⟩
    refine ⟨_, rfl, _, _, rfl, ix_dat d5 (i := if (4 : Int) < tu then 4 else tu) (by split <;> omega) (by show _ < ((5 : Nat) : Int); split <;> omega) fun rv rd rm _ rp => ?_⟩
    have g5 : GR k rd := rows5_ok g4 rm
    -- if deep > 0 and turn > 4
    refine ⟨_, rfl, _, _, rfl, rfl, _, rfl, ?_⟩
    refine ite2 (fun c => ?_) (fun c => ?_)
    · refine ⟨_, rfl, _, _, rfl, rfl, _, rfl, ?_⟩
      refine ite2 (fun c2 => ?_) (fun c2 => ?_)
      · have c' := of_decide_eq_true c
        have c2' := of_decide_eq_true c2
        obtain ⟨j, rfl⟩ : ∃ j, k = j + 1 := ⟨k - 1, by omega⟩
        have ej : ((((j + 1 : Nat) : Int)) - 1) = (j : Int) := by omega
        have S5 := ((S2.kept k3).kept k4).kept (Kept.of s5)
        refine ⟨_, rfl, _, rfl, _, rfl, _, _, rfl, rfl, j, rfl, a, t, by rw [← ej]; rfl, S5, T4.same s5, fun v1 d1 H6 k6 T6 p6 g6 => ?_⟩
        refine ⟨_, rfl, _, rfl, _, rfl, _, _, rfl, rfl, j, rfl, a, t, by rw [← ej]; rfl, S5.kept k6, T6, fun v2 d2 H7 k7 T7 p7 g7 => ⟨_, _, rfl, ?_⟩⟩
        have K7 := (Kept.of s5).trans (k6.trans k7)
        refine ⟨fun n => if n = 6 then sd else if n = 8 then d1 else d2, fun n hn => ?_, fun lv2 H8 s8 d8 => ?_⟩
        · have hn' : n ∈ [6, 8, 9, 6, 8, 8, 9] := hn
          simp only [List.mem_cons, List.not_mem_nil, or_false] at hn'
          rcases hn' with rfl | rfl | rfl | rfl | rfl | rfl | rfl
          · exact ⟨sv, rfl, K7.dp p4⟩
          · exact ⟨v1, rfl, k7.dp p6⟩
          · exact ⟨v2, rfl, p7⟩
          · exact ⟨sv, rfl, K7.dp p4⟩
          · exact ⟨v1, rfl, k7.dp p6⟩
          · exact ⟨v1, rfl, k7.dp p6⟩
          · exact ⟨v2, rfl, p7⟩
        refine ⟨_, rfl, _, _, rfl, rfl, ix_dat d8 (by omega) (by show tu - 5 < ((3 : Nat) : Int); omega) fun rv2 rd2 rm2 _ rp2 => ?_⟩
        exact fin _ _ _ _ _ rv2 rd2 H8 (K7.trans (Kept.of s8)) (T7.same s8) rp2 (rows3_ok g4 g6 g7 rm2)
      · exact fin _ _ _ _ _ rv rd H5 (Kept.of s5) (T4.same s5) rp g5
    · exact fin _ _ _ _ _ rv rd H5 (Kept.of s5) (T4.same s5) rp g5
  · rintro σ H2 ⟨fv, ds, y4, y5, y6, y7, y8, y9, rfl, k2, T2, dF, hl, hg, hf⟩
    refine ⟨_, rfl, q fv _ H2 k2 T2 dF ⟨g_body hg, ?_⟩⟩
    refine hf.tup.mono (Nat.le_refl _) ?_
    rw [sB_eq]
    have : n.toNat ≤ 3 := by omega
    have := Nat.mul_le_mul_right (sR k) this
    omega
theorem ab_all (F : Fun K "_law_a_body" "_law_a_body" sABody f fd) (B : Bl mg)
    (GD : FnOk P w K mg base CX0 1 g gd ["_law_script", "_law_town", "_law_many"] (spDraw K)) (bD : Binds K gd ["_law_script", "_law_town", "_law_many"] []) (kD : PySem.W.keepIn K (.ref g) = true) (mD : mg "_law_draw" = some (.ref g))
    (GP : FnOk P w K mg base CX0 4 h hd ["_law_script", "_law_town", "_law_deep"] (spPart K 2)) (bP : Binds K hd ["_law_script", "_law_town", "_law_deep"] []) (kP : PySem.W.keepIn K (.ref h) = true) (mP : mg "_law_a_part" = some (.ref h))
    (bB : Binds K fd ["_law_script", "_law_town", "_law_deep"] []) (mB : mg "_law_a_body" = some (.ref f)) : ∀ k : Nat, FnOk P w K mg base CX0 (k + 5) f fd ["_law_script", "_law_town", "_law_deep"] (spAB K k)
  | 0 => ok_ab F B GD bD kD mD GP bP kP mP ⟨fun vs H Q E h => (by obtain ⟨j, e, _⟩ := h; cases e), fun A outer s H args us vs Q E _ _ _ _ h => (by obtain ⟨j, e, _⟩ := h; cases e)⟩ bB mB
  | k + 1 => ok_ab F B GD bD kD mD GP bP kP mP ((ab_all F B GD bD kD mD GP bP kP mP bB mB k).imp fun vs H Q E ⟨j, e, h⟩ => (by cases e; exact h)) bB mB
end
end B1

set_option maxRecDepth 100000
set_option maxHeartbeats 4000000
namespace B1
open PySem PySem.Spec PyProof.Rows L2
/-! ### all rows and sayings in a body -/
def valHd : List PyData → Bool
  | [] => true
  | d :: _ => PyData.eqv d (.str "value")
mutual
def pts : PyData → List PyData
  | .tuple ds => .tuple ds :: (if valHd ds = true then [] else ptsAll ds)
  | .list _ => []
  | .dict _ => []
  | .none => []
  | .bool _ => []
  | .int _ => []
  | .str _ => []
def ptsAll : List PyData → List PyData
  | [] => []
  | d :: ds => pts d ++ ptsAll ds
end
theorem ptsAll_append (xs ys : List PyData) : ptsAll (xs ++ ys) = ptsAll xs ++ ptsAll ys := by
  induction xs with
  | nil => simp [ptsAll]
  | cons x xs ih => simp only [List.cons_append, ptsAll, ih, List.append_assoc]
theorem mem_ptsAll {p : PyData} {ds : List PyData} : p ∈ ptsAll ds ↔ ∃ d ∈ ds, p ∈ pts d := by
  induction ds with
  | nil => simp [ptsAll]
  | cons d ds ih =>
    simp only [ptsAll, List.mem_append, List.mem_cons, ih]
    constructor
    · rintro (h | ⟨e, h1, h2⟩)
      · exact ⟨d, .inl rfl, h⟩
      · exact ⟨e, .inr h1, h2⟩
    · rintro ⟨e, rfl | h1, h2⟩
      · exact .inl h2
      · exact .inr ⟨e, h1, h2⟩
theorem pts_not {d : PyData} (h : isT d = false) : pts d = [] := by
  cases d with
  | tuple ds => cases h
  | _ => simp only [pts]
mutual
theorem pts_len : ∀ d : PyData, (pts d).length ≤ sz d
  | .tuple ds => by
    have := ptsAll_len ds
    simp only [pts, sz, List.length_cons]
    split
    · simp
    · omega
  | .list _ => by simp [pts]
  | .dict _ => by simp [pts]
  | .none => by simp [pts]
  | .bool _ => by simp [pts]
  | .int _ => by simp [pts]
  | .str _ => by simp [pts]
theorem ptsAll_len : ∀ ds : List PyData, (ptsAll ds).length ≤ szAll ds
  | [] => by simp [ptsAll]
  | d :: ds => by
    have h1 := pts_len d
    have h2 := ptsAll_len ds
    simp only [ptsAll, szAll, List.length_append]
    omega
end
theorem ptsAll_take (ds : List PyData) (i : Nat) : (ptsAll (ds.take i)).length ≤ szAll ds := by
  have h1 := ptsAll_len (ds.take i)
  have h2 : szAll (ds.take i) + szAll (ds.drop i) = szAll ds := by rw [← szAll_append, List.take_append_drop]
  omega
/-! ### what a thing of a sort has for parts -/
theorem lookup_mem {α β : Type} [DecidableEq α] : ∀ {T : List (α × β)} {w : α} {b : β}, T.lookup w = some b → (w, b) ∈ T
  | [], _, _, h => by cases h
  | (k, c) :: T, w, b, h => by
    simp only [List.lookup] at h
    split at h
    · rename_i e
      have : w = k := by simpa using e
      cases h
      rw [this]
      exact List.mem_cons_self
    · exact List.mem_cons_of_mem _ (lookup_mem h)
theorem parts_cases {s : S} {ds : List PyData} {ps : List (S × PyData)} (h : parts s (.tuple ds) = some ps) :
    (s = .body ∧ ps = ds.map (Prod.mk S.row)) ∨ (s = .es ∧ ps = ds.map (Prod.mk S.e)) ∨ ∃ w r sh, ds = .str w :: r ∧ s ≠ .body ∧ s ≠ .es ∧ shape s w = some sh ∧ sh.length = r.length ∧ ps = sh.zip r := by
  have key : s ≠ .body → s ≠ .es → partsW s ds = some ps → ∃ w r sh, ds = .str w :: r ∧ s ≠ .body ∧ s ≠ .es ∧ shape s w = some sh ∧ sh.length = r.length ∧ ps = sh.zip r := fun n1 n2 h => by
    cases ds with
    | nil => cases h
    | cons x r =>
      cases x with
      | str w =>
        simp only [partsW] at h
        split at h
        · rename_i sh hsh
          split at h
          · rename_i hl
            cases h
            exact ⟨w, r, sh, rfl, n1, n2, hsh, hl, rfl⟩
          · cases h
        · cases h
      | _ => cases h
  cases s with
  | body => cases h; exact .inl ⟨rfl, rfl⟩
  | es => cases h; exact .inr (.inl ⟨rfl, rfl⟩)
  | _ => exact .inr (.inr (key (by decide) (by decide) h))
theorem ok_sub {n : Nat} {s : S} {d : PyData} (h : d.depth < n) (hs : s.leaf = false) (ho : ok n s d = true) : ∃ ps, parts s d = some ps ∧ ∀ p ∈ ps, ok n p.1 p.2 = true := by
  rw [ok_step h hs] at ho
  cases q : parts s d with
  | none => rw [q] at ho; cases ho
  | some ps => rw [q] at ho; exact ⟨ps, rfl, fun p hp => List.all_eq_true.mp ho p hp⟩
theorem ok_tuple {n : Nat} {s : S} {d : PyData} (h : d.depth < n) (hs : s.leaf = false) (ho : ok n s d = true) : ∃ ds, d = .tuple ds := by
  obtain ⟨ps, h1, _⟩   := ok_sub h hs ho
  obtain ⟨ds, e, _⟩ := parts_tuple h1
  exact ⟨ds, e⟩
theorem ok_flat {n : Nat} {s : S} {d : PyData} (h : 0 < n) (hs : s.leaf = true) (ho : ok n s d = true) : isT d = false := by
  rw [ok_leaf h hs] at ho
  unfold leafOk at ho
  split at ho <;> (cases d <;> first | rfl | cases ho)
theorem eqv_str {d : PyData} {x : Str} (h : PyData.eqv d (.str x) = true) : d = .str x := by
  cases d with
  | str y =>
    have : (y == x) = true := by simpa only [PyData.eqv] using h
    rw [beq_iff_eq.mp this]
  | _ => simp only [PyData.eqv] at h; cases h
/-- the rows and sayings below: those of its parts -/
theorem below {n : Nat} {s : S} {ds : List PyData} {ps : List (S × PyData)} (h : (PyData.tuple ds).depth < n) (hs : s.leaf = false) (hp : parts s (.tuple ds) = some ps) (ho : ∀ q ∈ ps, ok n q.1 q.2 = true) (p : PyData) :
    p ∈ (if valHd ds = true then [] else ptsAll ds) ↔ ∃ q ∈ ps, q.1.leaf = false ∧ p ∈ pts q.2 := by
  have n0 : 0 < n := by omega
  have flat : ∀ q ∈ ps, q.1.leaf = true → pts q.2 = [] := fun q hq hl => pts_not (ok_flat n0 hl (ho q hq))
  have side : ∀ q ∈ ps, p ∈ pts q.2 → q.1.leaf = false := fun q hq hm => by
    cases hl : q.1.leaf with
    | false => rfl
    | true => rw [flat q hq hl] at hm; cases hm
  have all : (∃ d ∈ ds, p ∈ pts d) ↔ ∃ q ∈ ps, q.1.leaf = false ∧ p ∈ pts q.2 := by
    obtain ⟨ds', e, hds⟩ := parts_tuple hp
    cases e
    constructor
    · rintro ⟨d, h1, h2⟩
      have : d ∈ ps.map (·.2) := by
        rcases hds with e | ⟨w, e⟩
        · rw [e]; exact h1
        · rw [e] at h1
          rcases List.mem_cons.mp h1 with rfl | h1
          · simp [pts] at h2
          · exact h1
      obtain ⟨q, hq, rfl⟩ := List.mem_map.mp this
      exact ⟨q, hq, side q hq h2, h2⟩
    · rintro ⟨q, hq, _, h2⟩
      have : q.2 ∈ ps.map (·.2) := List.mem_map_of_mem hq
      refine ⟨q.2, ?_, h2⟩
      rcases hds with e | ⟨w, e⟩
      · rw [← e]; exact this
      · rw [e]; exact List.mem_cons_of_mem _ this
  cases hv : valHd ds with
  | false =>
    rw [if_neg (by decide), mem_ptsAll]
    exact all
  | true =>
    rw [if_pos rfl]
    constructor
    · intro h; cases h
    · rintro ⟨q, hq, hl, h2⟩
      exfalso
      rcases parts_cases hp with ⟨rfl, rfl⟩ | ⟨rfl, rfl⟩ | ⟨w, r, sh, rfl, n1, n2, hsh, hlen, rfl⟩
      · cases ds with
        | nil => cases hq
        | cons d0 dr =>
          have e := eqv_str hv
          subst e
          obtain ⟨x, hx⟩ := ok_tuple (n := n) (s := .row) (d := .str "value") (by show 0 < n; exact n0) rfl (ho _ (List.mem_cons_self (a := (S.row, PyData.str "value"))))
          cases hx
      · cases ds with
        | nil => cases hq
        | cons d0 dr =>
          have e := eqv_str hv
          subst e
          obtain ⟨x, hx⟩ := ok_tuple (n := n) (s := .e) (d := .str "value") (by show 0 < n; exact n0) rfl (ho _ (List.mem_cons_self (a := (S.e, PyData.str "value"))))
          cases hx
      · have e := eqv_str hv
        cases e
        have esh : sh = [.value] := by
          have e1 : shape .e "value" = some [.value] := by decide +kernel
          have e2 : shape .row "value" = none := by decide +kernel
          have e3 : ∀ s : S, s ≠ .row → shape s "value" = shape .e "value" := fun s hs => by cases s <;> first | rfl | exact absurd rfl hs
          by_cases hr : s = .row
          · subst hr; rw [e2] at hsh; cases hsh
          · rw [e3 s hr, e1] at hsh; cases hsh; rfl
        subst esh
        match r, hlen with
        | [y], _ =>
          have : q = (.value, y) := by
            have hq' : q ∈ [(S.value, y)] := hq
            exact List.mem_singleton.mp hq'
          subst this
          cases hl
def hd? : PyData → Option Str
  | .tuple (.str w :: _) => some w
  | _ => none
def at? (i : Nat) : PyData → Option PyData
  | .tuple ds => ds[i]?
  | _ => none
def newOf (p : PyData) : Option PyData := if hd? p = some (Str.ofString "new") then at? 1 p else none
def askOf (p : PyData) : Option PyData := if hd? p = some (Str.ofString "ask") then at? 2 p else none
def eldOf (p : PyData) : Option PyData := if hd? p = some (Str.ofString "elder") then at? 1 p else none
/-- the e's that make, that ask: told by their own words -/
theorem own_parts {n : Nat} {s : S} {d : PyData} {ps : List (S × PyData)} (h : d.depth < n) (hs : s.leaf = false) (hp : parts s d = some ps) (ho : ∀ q ∈ ps, ok n q.1 q.2 = true) (y : PyData) :
    (newOf d = some y ↔ (.kind, y) ∈ ps) ∧ (askOf d = some y ∨ eldOf d = some y ↔ (.word, y) ∈ ps) := by
  have n0 : 0 < n := by omega
  obtain ⟨ds, rfl, _⟩ := parts_tuple hp
  have nostr : ∀ (k : S) (w : Str) (dr : List PyData), k.leaf = false → ok n k (.str w) = true → False := fun k w dr hk hw => by
    obtain ⟨x, hx⟩ := ok_tuple (n := n) (by show 0 < n; exact n0) hk hw
    cases hx
  have many : ∀ k : S, k.leaf = false → ps = ds.map (Prod.mk k) → (newOf (.tuple ds) = some y ↔ (.kind, y) ∈ ps) ∧ (askOf (.tuple ds) = some y ∨ eldOf (.tuple ds) = some y ↔ (.word, y) ∈ ps) := fun k hk e => by
    have nh : hd? (.tuple ds) = none := by
      cases ds with
      | nil => rfl
      | cons d0 dr =>
        cases d0 with
        | str w => exact (nostr k w dr hk (ho (k, .str w) (by rw [e]; exact List.mem_cons_self))).elim
        | _ => rfl
    have nm : ∀ l : S, l.leaf = true → (l, y) ∉ ps := fun l hl hm => by
      rw [e] at hm
      obtain ⟨d1, _, e1⟩ := List.mem_map.mp hm
      cases e1
      rw [hk] at hl; cases hl
    unfold newOf askOf eldOf
    rw [nh]
    refine ⟨⟨fun h => ?_, fun h => absurd h (nm .kind rfl)⟩, ⟨fun h => ?_, fun h => absurd h (nm .word rfl)⟩⟩
    · rw [if_neg (by decide)] at h; cases h
    · rw [if_neg (by decide), if_neg (by decide)] at h; rcases h with h | h <;> cases h
  rcases parts_cases hp with ⟨rfl, e⟩ | ⟨rfl, e⟩ | ⟨w, r, sh, rfl, n1, n2, hsh, hlen, rfl⟩
  · exact many .row rfl e
  · exact many .e rfl e
  · have hm : (w, sh) ∈ rowTab ∨ (w, sh) ∈ eTab := by
      cases s with
      | row => exact .inl (lookup_mem hsh)
      | _ => exact .inr (lookup_mem hsh)
    unfold newOf askOf eldOf
    have hd : hd? (.tuple (.str w :: r)) = some w := rfl
    rw [hd]
    have t1 : ∀ a b : Str, (some a = some b) = (a = b) := fun a b => by simp
    rcases hm with hm | hm
    · unfold rowTab at hm
      simp only [List.mem_cons, List.not_mem_nil, or_false, Prod.mk.injEq] at hm
      rcases hm with ⟨rfl, rfl⟩ | ⟨rfl, rfl⟩ | ⟨rfl, rfl⟩ | ⟨rfl, rfl⟩ | ⟨rfl, rfl⟩ | ⟨rfl, rfl⟩ | ⟨rfl, rfl⟩ | ⟨rfl, rfl⟩
      all_goals
        rw [if_neg (by decide +kernel), if_neg (by decide +kernel), if_neg (by decide +kernel)]
        exact ⟨⟨fun h => (by cases h), fun h => absurd (List.of_mem_zip h).1 (by decide)⟩, ⟨fun h => (by rcases h with h | h <;> cases h), fun h => absurd (List.of_mem_zip h).1 (by decide)⟩⟩
    · unfold eTab at hm
      simp only [List.mem_cons, List.not_mem_nil, or_false, Prod.mk.injEq] at hm
      rcases hm with ⟨rfl, rfl⟩ | ⟨rfl, rfl⟩ | ⟨rfl, rfl⟩ | ⟨rfl, rfl⟩ | ⟨rfl, rfl⟩ | ⟨rfl, rfl⟩ | ⟨rfl, rfl⟩ | ⟨rfl, rfl⟩ | ⟨rfl, rfl⟩ | ⟨rfl, rfl⟩ | ⟨rfl, rfl⟩ | ⟨rfl, rfl⟩
      · rw [if_neg (by decide +kernel), if_neg (by decide +kernel), if_neg (by decide +kernel)]
        exact ⟨⟨fun h => (by cases h), fun h => absurd (List.of_mem_zip h).1 (by decide)⟩, ⟨fun h => (by rcases h with h | h <;> cases h), fun h => absurd (List.of_mem_zip h).1 (by decide)⟩⟩
      · rw [if_neg (by decide +kernel), if_neg (by decide +kernel), if_neg (by decide +kernel)]
        exact ⟨⟨fun h => (by cases h), fun h => absurd (List.of_mem_zip h).1 (by decide)⟩, ⟨fun h => (by rcases h with h | h <;> cases h), fun h => absurd (List.of_mem_zip h).1 (by decide)⟩⟩
      · rw [if_neg (by decide +kernel), if_neg (by decide +kernel), if_neg (by decide +kernel)]
        exact ⟨⟨fun h => (by cases h), fun h => absurd (List.of_mem_zip h).1 (by decide)⟩, ⟨fun h => (by rcases h with h | h <;> cases h), fun h => absurd (List.of_mem_zip h).1 (by decide)⟩⟩
      · rw [if_neg (by decide +kernel), if_neg (by decide +kernel), if_neg (by decide +kernel)]
        exact ⟨⟨fun h => (by cases h), fun h => absurd (List.of_mem_zip h).1 (by decide)⟩, ⟨fun h => (by rcases h with h | h <;> cases h), fun h => absurd (List.of_mem_zip h).1 (by decide)⟩⟩
      · match r, hlen with
        | [a, b, c], _ =>
          rw [if_neg (by decide +kernel), if_pos rfl, if_neg (by decide +kernel)]
          constructor
          · simp
          · simp [at?, eq_comm]
      · match r, hlen with
        | [a, b], _ =>
          rw [if_neg (by decide +kernel), if_neg (by decide +kernel), if_pos rfl]
          constructor
          · simp
          · simp [at?, eq_comm]
      · match r, hlen with
        | [a], _ =>
          rw [if_pos rfl, if_neg (by decide +kernel), if_neg (by decide +kernel)]
          constructor
          · simp [at?, eq_comm]
          · simp
      · rw [if_neg (by decide +kernel), if_neg (by decide +kernel), if_neg (by decide +kernel)]
        exact ⟨⟨fun h => (by cases h), fun h => absurd (List.of_mem_zip h).1 (by decide)⟩, ⟨fun h => (by rcases h with h | h <;> cases h), fun h => absurd (List.of_mem_zip h).1 (by decide)⟩⟩
      · rw [if_neg (by decide +kernel), if_neg (by decide +kernel), if_neg (by decide +kernel)]
        exact ⟨⟨fun h => (by cases h), fun h => absurd (List.of_mem_zip h).1 (by decide)⟩, ⟨fun h => (by rcases h with h | h <;> cases h), fun h => absurd (List.of_mem_zip h).1 (by decide)⟩⟩
      · rw [if_neg (by decide +kernel), if_neg (by decide +kernel), if_neg (by decide +kernel)]
        exact ⟨⟨fun h => (by cases h), fun h => absurd (List.of_mem_zip h).1 (by decide)⟩, ⟨fun h => (by rcases h with h | h <;> cases h), fun h => absurd (List.of_mem_zip h).1 (by decide)⟩⟩
      · rw [if_neg (by decide +kernel), if_neg (by decide +kernel), if_neg (by decide +kernel)]
        exact ⟨⟨fun h => (by cases h), fun h => absurd (List.of_mem_zip h).1 (by decide)⟩, ⟨fun h => (by rcases h with h | h <;> cases h), fun h => absurd (List.of_mem_zip h).1 (by decide)⟩⟩
      · rw [if_neg (by decide +kernel), if_neg (by decide +kernel), if_neg (by decide +kernel)]
        exact ⟨⟨fun h => (by cases h), fun h => absurd (List.of_mem_zip h).1 (by decide)⟩, ⟨fun h => (by rcases h with h | h <;> cases h), fun h => absurd (List.of_mem_zip h).1 (by decide)⟩⟩
theorem pts_lf : ∀ (n m : Nat) (s : S) (d : PyData), d.depth < n → n ≤ m → s.leaf = false → ok m s d = true → ∀ x : Str,
    ((∃ p ∈ pts d, newOf p = some (.str x)) ↔ Lf .kind s d x) ∧ ((∃ p ∈ pts d, askOf p = some (.str x) ∨ eldOf p = some (.str x)) ↔ Lf .word s d x)
  | 0, _, _, _, h, _, _, _, _ => by omega
  | n + 1, m, s, d, h, hm, hs, ho, x => by
    have hd : d.depth < m := by omega
    obtain ⟨ps, hp, hok⟩   := ok_sub hd hs ho
    obtain ⟨ds, rfl⟩ := ok_tuple hd hs ho
    have bel := below hd hs hp hok
    have own := own_parts hd hs hp hok (.str x)
    have ih : ∀ q ∈ ps, q.1.leaf = false → ((∃ p ∈ pts q.2, newOf p = some (.str x)) ↔ Lf .kind q.1 q.2 x) ∧ ((∃ p ∈ pts q.2, askOf p = some (.str x) ∨ eldOf p = some (.str x)) ↔ Lf .word q.1 q.2 x) := fun q hq hl => by
      have := parts_dep hp q hq
      exact pts_lf n m q.1 q.2 (by omega) (by omega) hl (hok q hq) x
    have m0 : 0 < m := by omega
    constructor
    · rw [Lf.node rfl hs hp]
      simp only [pts, List.mem_cons]
      constructor
      · rintro ⟨p, rfl | h1, h2⟩
        · exact ⟨_, own.1.1 h2, .here x⟩
        · obtain ⟨q, hq, hl, h3⟩ := (bel p).1 h1
          exact ⟨q, hq, (ih q hq hl).1.1 ⟨p, h3, h2⟩⟩
      · rintro ⟨q, hq, hlf⟩
        cases hl : q.1.leaf with
        | true =>
          obtain ⟨e1, e2⟩ := Lf.other hl hlf
          obtain ⟨q1, q2⟩ := q
          simp only at e1 e2
          subst e1 e2
          exact ⟨_, .inl rfl, own.1.2 hq⟩
        | false =>
          obtain ⟨p, h1, h2⟩ := (ih q hq hl).1.2 hlf
          exact ⟨p, .inr ((bel p).2 ⟨q, hq, hl, h1⟩), h2⟩
    · rw [Lf.node rfl hs hp]
      simp only [pts, List.mem_cons]
      constructor
      · rintro ⟨p, rfl | h1, h2⟩
        · exact ⟨_, own.2.1 h2, .here x⟩
        · obtain ⟨q, hq, hl, h3⟩ := (bel p).1 h1
          exact ⟨q, hq, (ih q hq hl).2.1 ⟨p, h3, h2⟩⟩
      · rintro ⟨q, hq, hlf⟩
        cases hl : q.1.leaf with
        | true =>
          obtain ⟨e1, e2⟩ := Lf.other hl hlf
          obtain ⟨q1, q2⟩ := q
          simp only at e1 e2
          subst e1 e2
          exact ⟨_, .inl rfl, own.2.2 hq⟩
        | false =>
          obtain ⟨p, h1, h2⟩ := (ih q hq hl).2.2 hlf
          exact ⟨p, .inr ((bel p).2 ⟨q, hq, hl, h1⟩), h2⟩
theorem shape_e {s : S} {w : Str} {sh : List S} (hw : shape .row w = none) (h : shape s w = some sh) : shape .e w = some sh := by
  cases s with
  | row => rw [hw] at h; cases h
  | _ => exact h
theorem ok_name_str {n : Nat} {s : S} {a : PyData} (h : 0 < n) (hs : s.leaf = true) (hv : s ≠ .value) (ho : ok n s a = true) : ∃ x, a = .str x := by
  rw [ok_leaf h hs] at ho
  unfold leafOk at ho
  rw [if_neg hv] at ho
  cases a with
  | str x => exact ⟨x, rfl⟩
  | _ => cases ho
/-- what is told by a word is a name, and stands there -/
theorem pts_str : ∀ (n m : Nat) (s : S) (d : PyData), d.depth < n → n ≤ m → s.leaf = false → ok m s d = true → ∀ p ∈ pts d,
    (∃ ds, p = .tuple ds) ∧ (hd? p = some (Str.ofString "new") → ∃ x, newOf p = some (.str x)) ∧ (hd? p = some (Str.ofString "ask") → ∃ x, askOf p = some (.str x)) ∧ (hd? p = some (Str.ofString "elder") → ∃ x, eldOf p = some (.str x))
  | 0, _, _, _, h, _, _, _, _, _ => by omega
  | n + 1, m, s, d, h, hm, hs, ho, p, hpp => by
    have hd : d.depth < m := by omega
    have m0 : 0 < m := by omega
    obtain ⟨ps, hp, hok⟩ := ok_sub hd hs ho
    obtain ⟨ds, rfl⟩ := ok_tuple hd hs ho
    simp only [pts, List.mem_cons] at hpp
    rcases hpp with rfl | hpp
    · refine ⟨⟨ds, rfl⟩, ?_⟩
      have none : hd? (.tuple ds) = none → _ := fun e : hd? (.tuple ds) = none => (show (hd? (.tuple ds) = some (Str.ofString "new") → ∃ x, newOf (.tuple ds) = some (.str x)) ∧ (hd? (.tuple ds) = some (Str.ofString "ask") → ∃ x, askOf (.tuple ds) = some (.str x)) ∧ (hd? (.tuple ds) = some (Str.ofString "elder") → ∃ x, eldOf (.tuple ds) = some (.str x)) from
        ⟨fun q => (by rw [e] at q; cases q), fun q => (by rw [e] at q; cases q), fun q => (by rw [e] at q; cases q)⟩)
      have many : ∀ k : S, k.leaf = false → ps = ds.map (Prod.mk k) → hd? (.tuple ds) = Option.none := fun k hk e => by
        cases ds with
        | nil => rfl
        | cons d0 dr =>
          cases d0 with
          | str w =>
            obtain ⟨x, hx⟩ := ok_tuple (n := m) (s := k) (d := .str w) (by show 0 < m; exact m0) hk (hok (k, .str w) (by rw [e]; exact List.mem_cons_self))
            cases hx
          | _ => rfl
      rcases parts_cases hp with ⟨rfl, e⟩ | ⟨rfl, e⟩ | ⟨w, r, sh, rfl, n1, n2, hsh, hlen, rfl⟩
      · exact none (many .row rfl e)
      · exact none (many .e rfl e)
      · refine ⟨fun q => ?_, fun q => ?_, fun q => ?_⟩
        · have qe : w = Str.ofString "new" := by cases q; rfl
          subst qe
          have e := shape_e (by decide +kernel) hsh
          rw [show shape .e (Str.ofString "new") = some [S.kind] by decide +kernel] at e
          cases e
          match r, hlen with
          | [a], _ =>
            obtain ⟨x, rfl⟩ := ok_name_str (s := S.kind) m0 rfl (by decide) (hok (S.kind, a) List.mem_cons_self)
            exact ⟨x, rfl⟩
        · have qe : w = Str.ofString "ask" := by cases q; rfl
          subst qe
          have e := shape_e (by decide +kernel) hsh
          rw [show shape .e (Str.ofString "ask") = some [S.e, S.word, S.es] by decide +kernel] at e
          cases e
          match r, hlen with
          | [a, b, c], _ =>
            obtain ⟨x, rfl⟩ := ok_name_str (s := S.word) m0 rfl (by decide) (hok (S.word, b) (List.mem_cons_of_mem _ List.mem_cons_self))
            exact ⟨x, rfl⟩
        · have qe : w = Str.ofString "elder" := by cases q; rfl
          subst qe
          have e := shape_e (by decide +kernel) hsh
          rw [show shape .e (Str.ofString "elder") = some [S.word, S.es] by decide +kernel] at e
          cases e
          match r, hlen with
          | [a, b], _ =>
            obtain ⟨x, rfl⟩ := ok_name_str (s := S.word) m0 rfl (by decide) (hok (S.word, a) List.mem_cons_self)
            exact ⟨x, rfl⟩
    · obtain ⟨q, hq, hl, h2⟩ := (below hd hs hp hok p).1 hpp
      have := parts_dep hp q hq
      exact pts_str n m q.1 q.2 (by omega) (by omega) hl (hok q hq) p h2
end B1

set_option maxRecDepth 100000
set_option maxHeartbeats 4000000
namespace B1
open PySem PySem.Spec PyProof.Rows L2
/-! ### _law_parts -/
abbrev sLParts : Stmt := top 26
theorem scLParts : FnScope ["_law_part", "_law_found", "_law_one"] ["_law_part"] (defScope sLParts) := ⟨rfl, rfl, rfl, by decide +kernel, rfl, by decide +kernel, by decide +kernel⟩
def spLP (K : PySem.W.Frag) (n : Nat) : Sp := fun vs H Q _ => ∃ (v : V) (d : PyData), vs = [v] ∧ Dp K H v d ∧ isT d = true ∧ Fit n 1000000 d ∧ n ≤ 64 ∧ ∀ (p : Addr) (xs : List V) (H' : Hp), Same H H' → H' p = some (.lst xs) → DpAll K H' xs (pts d) → Q (.ref p) H'
def spLPR (K : PySem.W.Frag) (n : Nat) : Sp := fun vs H Q E => ∃ j, n = j + 1 ∧ spLP K j vs H Q E
def PvL (K : PySem.W.Frag) (H : Hp) (v : V) (ds : List PyData) : Nat → L2.St → Hp → Prop := fun i σ H' => ∃ (p : Addr) (xs : List V) (y2 : Option V), σ = [some v, some (.ref p), y2] ∧ Same H H' ∧ H' p = some (.lst xs) ∧ DpAll K H' xs (.tuple ds :: ptsAll (ds.take i))
theorem eqv_unit (ds : List PyData) : PyData.eqv (.tuple ds) (.tuple []) = ds.isEmpty := by
  cases ds with
  | nil => simp [PyData.eqv, PyData.eqvAll]
  | cons d ds => simp [PyData.eqv, PyData.eqvAll]
theorem at0 {u : V} {us : List V} : atI (u :: us) 0 = some u := by
  simp [atI, ixN]
section
variable {K : PySem.W.Frag} {P : Program} {w : World} {mg : Str → Option Value} {base : Heap} {f g h : Addr} {fd gd hd : FuncData}
theorem ok_lp {n : Nat} (F : Fun K "_law_parts" "_law_parts" sLParts f fd) (B : Bl mg)
    (G : FnOk P w K mg base CX0 n f fd ["_law_part"] (spLPR K n)) (bG : Binds K fd ["_law_part"] []) (mG : mg "_law_parts" = some (.ref f)) :
    FnOk P w K mg base CX0 (n + 1) f fd ["_law_part"] (spLP K n) := by
  refine F.ok scLParts (fun vs H Q E h => ?_) (fun cdv A outer s H vs Q E hr h => ?_)
  · obtain ⟨v, d, rfl, _⟩ := h
    rfl
  obtain ⟨v, d, rfl, hd, ht, hf, hn, q⟩ := h
  refine ⟨_, pss_cons (ps_set (i := 1) scLParts.nd rfl (.inl rfl) (pe_lst (pa_cons (pv 0) pa_nil)))
    (pss_cons (ps_if (PW.pt (pw_and (pt_cmpR (op_neD hr.units) (pv 0) (pe_tup pa_nil) (nomark _)) (pw_and1 (pt_cmpR (op_neD hr.units) (pe_ix ix_tup (pv 0) pe_int (fun _ _ => rfl)) pe_str (nomark _)))))
      (pss_one (ps_for PassesOwn.never rfl (pi_tup (pv 0)) (pg_name (i := 2) scLParts.nd rfl (.inl rfl))
        (pss_one (ps_if (pt_val (pe_isD kit_T rfl B.isi rfl B.tuple bt_tuple (pv 2)))
          (pss_one (ps_set (i := 1) scLParts.nd rfl (.inl rfl) (pe_op op_cat (pv 1) (pe_call G hr rfl mG F.kp bG .nil pass0 (pa_cons (pv 2) pa_nil))))) pss_nil)))) pss_nil)
    (pss_one (ps_ret (pv 1)))), ?_⟩
  obtain ⟨ds, rfl⟩ : ∃ ds, d = .tuple ds := by
    cases d with
    | tuple ds => exact ⟨ds, rfl⟩
    | _ => cases ht
  -- found = [part]
  refine ⟨_, rfl, by show 1 ≤ sizeLine; decide, fun p np => ?_⟩
  have s1 : Same H (upd H p (.lst [v])) := same_new np _
  have d1 := same_dp s1 hd
  have sh := hf.shaped hn
  have f1 : DpAll K (upd H p (.lst [v])) [v] [.tuple ds] := .cons d1 .nil
  have at1 : (upd H p (.lst [v])) p = some (.lst [v]) := upd_same
  generalize upd H p (.lst [v]) = H1 at s1 d1 f1 at1 ⊢
  -- part != ()
  refine ⟨_, rfl, by show 0 ≤ sizeLine; decide, fun e0 ne0 => ⟨.tuple ds, .tuple [], same_dp (same_new ne0 _) d1, .tup (SqT.of upd_same) .nil, sh, by decide +kernel, _, rfl, ?_⟩⟩
  have s2 := s1.trans (same_new (H := H1) ne0 (.tup []))
  have f2 := same_dps (same_new (H := H1) ne0 (.tup [])) f1
  have d2 := same_dp (same_new (H := H1) ne0 (.tup [])) d1
  have at2 := same_new (H := H1) ne0 (.tup []) _ _ at1
  generalize upd H1 e0 (.tup []) = H2 at s2 f2 d2 at2 ⊢
  rw [eqv_unit]
  cases ds with
  | nil => exact iteF ⟨_, rfl, q p _ H2 s2 at2 (by simpa only [pts, ptsAll, valHd, if_true] using f2)⟩
  | cons x r =>
    refine iteT ?_
    -- part[0] != 'value'
    obtain ⟨a, xs, rfl, hs, hall⟩ := Dp.tupD d2
    cases hall with
    | @cons u us _ _ hu hus =>
    have fx : Fit n 1000000 x := by
      cases n with
      | zero => have := hf.dep; simp only [PyData.depth] at this; omega
      | succ n => exact (hf.item List.mem_cons_self).mono (by omega) (Nat.le_refl _)
    refine ⟨_, rfl, a, _, 0, u, rfl, rfl, hs, at0, x, .str "value", hu, .str _, fx.shaped hn, by decide +kernel, _, rfl, ?_⟩
    have fin : ∀ (y2 : Option V) (p' : Addr) (zs : List V) (H' : Hp), Same H H' → H' p' = some (.lst zs) → DpAll K H' zs (pts (.tuple (x :: r))) → tVar 1 [some (.ref a), some (.ref p'), y2] H' Q := fun y2 p' zs H' e1 e2 e3 => ⟨_, rfl, q p' zs H' e1 e2 e3⟩
    cases hv : PyData.eqv x (.str "value") with
    | true =>
      refine iteF (fin _ p _ H2 s2 at2 ?_)
      have : valHd (x :: r) = true := hv
      simp only [pts, this, if_true]
      exact f2
    | false =>
      have nv : ¬ valHd (x :: r) = true := fun e => by rw [show valHd (x :: r) = false from hv] at e; cases e
      refine iteT ?_
      have hlen : (u :: us).length = (x :: r).length := by rw [List.length_cons, List.length_cons, dps_len hus]
      refine ⟨_, rfl, a, rfl, ⟨_, hs⟩, for_it (walk_tup (xs := u :: us)) (PvL K H2 (.ref a) (x :: r)) ⟨p, _, _, rfl, Same.refl H2, at2, by simpa only [List.take_zero, ptsAll] using f2⟩ (fun i σ H' _ ⟨_, _, _, _, e, _⟩ => (Kept.of e).sqT hs) ?_ ?_⟩
      · rintro i y σ H3 H3' hi ⟨p', zs, y2, rfl, s3, at3, f3⟩ ⟨rfl, hy⟩
        obtain ⟨dy, hdy, hpy⟩ := dps_getV (.cons hu hus) hy
        have my := List.mem_of_getElem? hdy
        have il : i < (x :: r).length := by rw [← hlen]; exact hi
        have tk : (x :: r).take (i + 1) = (x :: r).take i ++ [dy] := by
          rw [List.take_succ, hdy]; rfl
        have p3 := same_dp s3 hpy
        refine ⟨_, rfl, _, dy, rfl, p3, _, rfl, ?_⟩
        cases hty : isT dy with
        | false =>
          refine iteF ⟨p', zs, _, rfl, s3, at3, ?_⟩
          rw [tk, ptsAll_append]
          simp only [ptsAll, pts_not hty, List.append_nil]
          exact f3
        | true =>
          refine iteT ?_
          obtain ⟨j, rfl⟩ : ∃ j, n = j + 1 := by
            cases n with
            | zero => have := hf.dep; simp only [PyData.depth] at this; omega
            | succ n => exact ⟨n, rfl⟩
          refine ⟨_, rfl, _, rfl, j, rfl, y, dy, rfl, p3, hty, hf.item my, by omega, fun p4 ws H4 s4 at4 f4 => ?_⟩
          have l1 := dps_len f3
          have l2 := dps_len f4
          have l3 := pts_len (.tuple (x :: r))
          have tl : (ptsAll ((x :: r).take i)).length + (pts dy).length ≤ szAll (x :: r) := by
            have := ptsAll_take (x :: r) (i + 1)
            rw [tk, ptsAll_append, List.length_append] at this
            simpa only [ptsAll, List.append_nil] using this
          have sz' := hf.siz
          simp only [sz] at sz'
          refine ⟨p', p4, zs, ws, rfl, rfl, s4 _ _ at3, at4, ?_, fun p5 np5 => ?_⟩
          · rw [l1, l2, List.length_cons]
            exact Nat.le_of_lt (smallM (by omega))
          · have s5 := same_new (H := H4) np5 (.lst (zs ++ ws))
            refine ⟨p5, _, _, rfl, s3.trans (s4.trans s5), upd_same, ?_⟩
            rw [tk, ptsAll_append]
            simp only [ptsAll, List.append_nil]
            rw [← List.cons_append]
            exact dps_append (same_dps (s4.trans s5) f3) (same_dps s5 f4)
      · rintro σ H3 ⟨p', zs, y2, rfl, s3, at3, f3⟩
        refine fin _ p' zs H3 (s2.trans s3) at3 ?_
        rw [show (u :: us).length = (x :: r).length from hlen, List.take_length] at f3
        simp only [pts, nv, if_false]
        exact f3
theorem lp_all (F : Fun K "_law_parts" "_law_parts" sLParts f fd) (B : Bl mg) (bG : Binds K fd ["_law_part"] []) (mG : mg "_law_parts" = some (.ref f)) : ∀ n : Nat, FnOk P w K mg base CX0 (n + 1) f fd ["_law_part"] (spLP K n)
  | 0 => ok_lp F B ⟨fun vs H Q E h => (by obtain ⟨j, e, _⟩ := h; cases e), fun A outer s H args us vs Q E _ _ _ _ h => (by obtain ⟨j, e, _⟩ := h; cases e)⟩ bG mG
  | n + 1 => ok_lp F B ((lp_all F B bG mG n).imp fun vs H Q E ⟨j, e, h⟩ => (by cases e; exact h)) bG mG
end
end B1

set_option maxRecDepth 100000
set_option maxHeartbeats 4000000
namespace B1
open PySem PySem.Spec PyProof.Rows L2
/-! ### signs that are kept -/
def sg (c : Nat) : Str := ⟨#[c]⟩
def PvS (H : Hp) (D : Addr) (x : Str) (t : Nat → Bool) (i : Nat) (H' : Hp) : Prop := Same H (upd H' D (.lst [])) ∧ H' D = some (.lst (((x.cps.toList.take i).filter t).map fun c => V.str (sg c)))
theorem PvS.start {H : Hp} {D : Addr} {x : Str} {t : Nat → Bool} (nD : H D = none) : PvS H D x t 0 (upd H D (.lst [])) := ⟨by rw [upd_upd]; exact same_new nD _, upd_same⟩
theorem take_sg {x : Str} {i c : Nat} (hc : x.cps[i]? = some c) : x.cps.toList.take (i + 1) = x.cps.toList.take i ++ [c] := by
  rw [List.take_add_one, Array.getElem?_toList, hc]; rfl
theorem PvS.yes {H H' : Hp} {D : Addr} {x : Str} {t : Nat → Bool} {i c : Nat} (h : PvS H D x t i H') (hl : x.length ≤ 1000000) (hc : x.cps[i]? = some c) (ht : t c = true) :
    ∃ acc, H' D = some (.lst acc) ∧ acc.length < sizeLine ∧ PvS H D x t (i + 1) (upd H' D (.lst (acc ++ [V.str (sg c)]))) := by
  refine ⟨_, h.2, ?_, by rw [upd_upd]; exact h.1, ?_⟩
  · rw [List.length_map]
    have h1 := List.length_filter_le t (x.cps.toList.take i)
    have h2 := List.length_take_le' i x.cps.toList
    have h3 : x.cps.toList.length ≤ 1000000 := hl
    exact smallM (Nat.le_trans h1 (Nat.le_trans h2 h3))
  · rw [upd_same, take_sg hc, List.filter_append, List.map_append]
    simp [ht]
theorem PvS.no {H H' : Hp} {D : Addr} {x : Str} {t : Nat → Bool} {i c : Nat} (h : PvS H D x t i H') (hc : x.cps[i]? = some c) (ht : t c = false) : PvS H D x t (i + 1) H' := by
  refine ⟨h.1, ?_⟩
  rw [h.2, take_sg hc, List.filter_append]
  simp [ht]
theorem eqv_nil (ds : List PyData) : PyData.eqv (.list ds) (.list []) = ds.isEmpty := by
  cases ds with
  | nil => simp [PyData.eqv, PyData.eqvAll]
  | cons d ds => simp [PyData.eqv, PyData.eqvAll]
theorem dps_strs {K : PySem.W.Frag} {H : Hp} : ∀ xs : List Nat, DpAll K H (xs.map fun c => V.str (sg c)) (xs.map fun c => PyData.str (sg c))
  | [] => .nil
  | _ :: xs => .cons (.str _) (dps_strs xs)
theorem lay_strs {xs : List Nat} (h : ∀ c ∈ xs, c < 0x110000) : Fit 1 (xs.length * 2 + 1) (.list (xs.map fun c => PyData.str (sg c))) := by
  refine Fit.lst (n := 0) (fun d hd => ?_) ?_
  · obtain ⟨c, hc, rfl⟩ := List.mem_map.mp hd
    refine ⟨?_, by simp only [PyData.depth]; exact Nat.le_refl _⟩
    have := h c hc
    simp only [PyData.canLay0, PyData.strOk, sg]
    simpa using this
  · clear h
    induction xs with
    | nil => simp [szAll]
    | cons c xs ih =>
      simp only [List.map_cons, szAll, sz, List.length_cons]
      have : (sg c).length = 1 := rfl
      omega
theorem PvS.fin {K : PySem.W.Frag} {H H' : Hp} {D : Addr} {x : Str} {t : Nat → Bool} (h : PvS H D x t x.cps.size H') (nD : H D = none) (hx : PyData.strOk x = true) {Q : VK} (q : ∀ H'', Same H H'' → Q (.bl (x.cps.toList.all fun c => !t c)) H'') :
    ([] : List V).length ≤ sizeLine ∧ ∀ p, H' p = none → rEqD K (.ref D) (.ref p) (upd H' p (.lst [])) Q := by
  refine ⟨by show 0 ≤ sizeLine; decide, fun p np => ?_⟩
  have hD := h.2
  rw [List.take_of_length_le (by rw [Array.length_toList]; exact Nat.le_refl _)] at hD
  have s1 := same_new (H := H') np (.lst [])
  have hall : ∀ c ∈ x.cps.toList.filter t, c < 0x110000 := fun c hc => by
    have hc' := (List.mem_filter.mp hc).1
    unfold PyData.strOk at hx
    rw [Array.all_eq_true'] at hx
    exact of_decide_eq_true (hx c (Array.mem_toList_iff.mp hc'))
  refine ⟨.list ((x.cps.toList.filter t).map fun c => PyData.str (sg c)), .list [], .lst (SqL.of (s1 _ _ hD)) (dps_strs _), .lst (SqL.of upd_same) .nil, (lay_strs hall).shaped (by decide), by decide +kernel, ?_⟩
  rw [eqv_nil]
  have : ((x.cps.toList.filter t).map fun c => PyData.str (sg c)).isEmpty = x.cps.toList.all fun c => !t c := by
    induction x.cps.toList with
    | nil => rfl
    | cons c cs ih => cases htc : t c <;> simp [htc, ih]
  rw [this]
  refine q _ (Same.trans (H1 := H') (fun b o e => ?_) s1)
  have := h.1 b o e
  rw [upd_ne (ne_of_none e nD)] at this
  exact this
/-! ### _law_named -/
abbrev sNamed : Stmt := top 27
theorem scNamed : FnScope ["_law_part", "_law_sign"] ["_law_part"] (defScope sNamed) := ⟨rfl, rfl, rfl, by decide +kernel, rfl, by decide +kernel, by decide +kernel⟩
def spLN (K : PySem.W.Frag) : Sp := fun vs H Q _ => ∃ (v : V) (d : PyData), vs = [v] ∧ Dp K H v d ∧ d.canLay0 = true ∧ sz d ≤ 1000000 ∧ ∀ H', Same H H' → Q (.bl (isName d)) H'
theorem letters (c : Nat) : decide (c ∈ ("abcdefghijklmnopqrstuvwxyz" : Str).cps.toList) = btw 97 122 c := by
  have e : ("abcdefghijklmnopqrstuvwxyz" : Str).cps.toList = (List.range 26).map (97 + ·) := by decide +kernel
  rw [e]
  unfold btw
  have : c ∈ (List.range 26).map (97 + ·) ↔ 97 ≤ c ∧ c ≤ 122 := by
    rw [List.mem_map]
    constructor
    · rintro ⟨a, h1, rfl⟩
      have := List.mem_range.mp h1
      omega
    · rintro ⟨h1, h2⟩
      exact ⟨c - 97, List.mem_range.mpr (by omega), by omega⟩
  rw [← Bool.decide_and]
  exact decide_eq_decide.mpr this
section
variable {K : PySem.W.Frag} {P : Program} {w : World} {mg : Str → Option Value} {base : Heap} {f g h : Addr} {fd gd hd : FuncData}
theorem ok_named (F : Fun K "_law_named" "_law_named" sNamed f fd) (B : Bl mg) : FnOk P w K mg base CX0 1 f fd ["_law_part"] (spLN K) := by
  refine F.ok scNamed (fun vs H Q E h => ?_) (fun cdv A outer s H vs Q E hr h => ?_)
  · obtain ⟨v, d, rfl, _⟩ := h
    rfl
  obtain ⟨v, d, rfl, hd, hlay, hsz, q⟩ := h
  refine ⟨_, pss_cons (ps_if (PW.pt (pw_or (pt_not (pt_val (pe_isD kit_S rfl B.isi rfl B.str bt_str (pv 0)))) (pw_or1 (pt_not (pt_chain op_le op_le pe_int (pe_callB call_len_str rfl B.len bt_len (pa_cons (pv 0) pa_nil)) pe_int))))) (pss_one (ps_ret pe_bl)) pss_nil)
    (pss_one (ps_ret (pe_cmpR (op_eqD hr.units) (pe_lc (own := [("_law_sign", 1)]) (g := gName 1) (by rfl) scNamed.nd (pi_str (pv 0)) (blkOk_by (own := [("_law_sign", 1)]) (N := ["_law_part", "_law_sign"]) (sc := defScope sNamed) (by decide +kernel))
      (fun _ _ _ _ _ => pg_name (i := 1) scNamed.nd rfl (Or.inl rfl)) (fun _ _ _ _ _ => pts_one (pt_cmpR op_notIn_sign (pv 1) pe_str (by with_unfolding_all rfl))) (fun _ _ _ _ _ => pv 1)) (pe_lst pa_nil) (nomark _)))), ?_⟩
  refine ⟨_, rfl, _, d, rfl, hd, _, rfl, ?_⟩
  cases d with
  | str x =>
    cases hd
    have hx : x.length ≤ 1000000 := by simp only [sz] at hsz; omega
    refine iteF ?_
    refine ⟨_, rfl, x, rfl, Nat.le_of_lt (smallM hx), _, _, rfl, rfl, _, rfl, ?_⟩
    refine ite2 (fun e => ?_) (fun e => ?_)
    · have a1 := of_decide_eq_true e
      refine ⟨_, _, rfl, rfl, _, rfl, ?_⟩
      refine ite2 (fun e2 => ?_) (fun e2 => ?_)
      · refine bl_to (q H (Same.refl H)) ?_
        have a2 : ¬ ((x.length : Nat) : Int) ≤ 12 := of_decide_eq_false (by simpa using e2)
        rw [name_str, decide_eq_false (show ¬ x.length ≤ 12 by omega), Bool.and_false]
        rfl
      · have a2 : ((x.length : Nat) : Int) ≤ 12 := of_decide_eq_true (by simpa using e2)
        refine ⟨_, rfl, x, rfl, fun D nD => ?_⟩
        refine lc_it walk_str (PvS H D x fun c => !btw 97 122 c) (.start nD) (fun _ _ _ _ => trivial) ?_ ?_
        · rintro i v H1 H1' hi ⟨sm, hD⟩ ⟨rfl, c, hc, rfl⟩
          refine ⟨rfl, _, rfl, c, _, rfl, rfl, _, rfl, ?_⟩
          rw [letters]
          refine ite2 (fun e3 => ?_) (fun e3 => ?_)
          · exact ⟨_, rfl, PvS.yes ⟨sm, hD⟩ hx hc e3⟩
          · exact PvS.no ⟨sm, hD⟩ hc (Bool.eq_false_iff.mpr e3)
        · intro H1 h1
          refine PvS.fin h1 nD hlay fun H2 s2 => bl_to (q H2 s2) ?_
          rw [name_str, decide_eq_true (show 1 ≤ x.length by omega), decide_eq_true (show x.length ≤ 12 by omega)]
          simp only [Bool.not_not, Bool.and_self, Bool.true_and]
          rfl
    · refine ⟨_, rfl, iteT ?_⟩
      have a1 := of_decide_eq_false (Bool.eq_false_iff.mpr e)
      refine bl_to (q H (Same.refl H)) ?_
      rw [name_str, decide_eq_false (show ¬ 1 ≤ x.length by omega)]
      rfl
  | none => exact iteT (q H (Same.refl H))
  | bool b => exact iteT (q H (Same.refl H))
  | int i => exact iteT (q H (Same.refl H))
  | list xs => exact iteT (q H (Same.refl H))
  | tuple xs => exact iteT (q H (Same.refl H))
  | dict xs => exact iteT (q H (Same.refl H))
end
end B1

set_option maxRecDepth 100000
set_option maxHeartbeats 4000000
namespace B1
open PySem PySem.Spec PyProof.Rows L2
/-! ### data that are kept, by a comprehension -/
def PvD (K : PySem.W.Frag) (H : Hp) (D : Addr) (es : List PyData) (t : PyData → Option PyData) (i : Nat) (H' : Hp) : Prop := Same H (upd H' D (.lst [])) ∧ ∃ vs, H' D = some (.lst vs) ∧ DpAll K H vs ((es.take i).filterMap t)
section
variable {K : PySem.W.Frag} {H H' : Hp} {D : Addr} {es : List PyData} {t : PyData → Option PyData} {i : Nat} {d e : PyData}
theorem PvD.start (nD : H D = none) : PvD K H D es t 0 (upd H D (.lst [])) := ⟨by rw [upd_upd]; exact same_new nD _, _, upd_same, .nil⟩
theorem PvD.same (h : PvD K H D es t i H') (nD : H D = none) : Same H H' := fun b o q => by
  have := h.1 b o q
  rw [upd_ne (ne_of_none q nD)] at this
  exact this
theorem take_da (hc : es[i]? = some d) : es.take (i + 1) = es.take i ++ [d] := by
  rw [List.take_add_one, hc]; rfl
theorem PvD.yes {H2 : Hp} {v : V} (h : PvD K H D es t i H') (nD : H D = none) (hl : es.length ≤ 1000000) (hc : es[i]? = some d) (ht : t d = some e) (s2 : Same H' H2) (hv : Dp K H v e) :
    ∃ acc, H2 D = some (.lst acc) ∧ acc.length < sizeLine ∧ PvD K H D es t (i + 1) (upd H2 D (.lst (acc ++ [v]))) := by
  obtain ⟨vs, h1, h2⟩ := h.2
  refine ⟨vs, s2 _ _ h1, ?_, ?_, ?_⟩
  · rw [dps_len h2]
    have h3 := List.length_filterMap_le t (es.take i)
    have h4 := List.length_take_le' i es
    exact smallM (Nat.le_trans h3 (Nat.le_trans h4 hl))
  · rw [upd_upd]
    exact same_over ((h.same nD).trans s2) nD
  · refine ⟨_, upd_same, ?_⟩
    rw [take_da hc, List.filterMap_append]
    have : List.filterMap t [d] = [e] := by simp [ht]
    rw [this]
    exact dps_append h2 (.cons hv .nil)
theorem PvD.no {H2 : Hp} (h : PvD K H D es t i H') (nD : H D = none) (hc : es[i]? = some d) (ht : t d = none) (s2 : Same H' H2) : PvD K H D es t (i + 1) H2 := by
  obtain ⟨vs, h1, h2⟩ := h.2
  refine ⟨same_over ((h.same nD).trans s2) nD, vs, s2 _ _ h1, ?_⟩
  rw [take_da hc, List.filterMap_append]
  have : List.filterMap t [d] = [] := by simp [ht]
  rw [this, List.append_nil]
  exact h2
theorem PvD.fin (h : PvD K H D es t es.length H') (nD : H D = none) : Same H H' ∧ ∃ vs, H' D = some (.lst vs) ∧ DpAll K H' vs (es.filterMap t) := by
  obtain ⟨vs, h1, h2⟩ := h.2
  rw [List.take_length] at h2
  exact ⟨h.same nD, vs, h1, same_dps (h.same nD) h2⟩
end
/-! ### what an e is -/
theorem ok_tup {n : Nat} {s : S} {w : Str} {r : List PyData} (hs : s ≠ .body ∧ s ≠ .es ∧ s.leaf = false) (h : (PyData.tuple (.str w :: r)).depth < n) {sh : List S} (hsh : shape s w = some sh) :
    ok n s (.tuple (.str w :: r)) = (decide (sh.length = r.length) && (sh.zip r).all fun p => ok n p.1 p.2) := by
  rw [ok_step h hs.2.2]
  have : parts s (.tuple (.str w :: r)) = if sh.length = r.length then some (sh.zip r) else none := by
    have e : parts s (.tuple (.str w :: r)) = partsW s (.str w :: r) := by
      cases s with
      | body => exact absurd rfl hs.1
      | es => exact absurd rfl hs.2.1
      | _ => rfl
    rw [e]
    simp only [partsW]
    rw [hsh]
  rw [this]
  by_cases hl : sh.length = r.length
  · rw [if_pos hl, decide_eq_true hl]; rfl
  · rw [if_neg hl, decide_eq_false hl]; rfl
theorem ok_tup0 {n : Nat} {s : S} {ds : List PyData} (hs : s ≠ .body ∧ s ≠ .es ∧ s.leaf = false) (h : (PyData.tuple ds).depth < n) (hsh : partsW s ds = none) : ok n s (.tuple ds) = false := by
  rw [ok_step h hs.2.2]
  have e : parts s (.tuple ds) = partsW s ds := by
    cases s with
    | body => exact absurd rfl hs.1
    | es => exact absurd rfl hs.2.1
    | _ => rfl
  rw [e, hsh]
theorem ok_not {n : Nat} {s : S} {d : PyData} (h : d.depth < n) (hs : s.leaf = false) (hd : isT d = false) : ok n s d = false := by
  rw [ok_step h hs]
  cases d with
  | tuple ds => cases hd
  | _ => cases s <;> rfl
theorem e_not : S.e ≠ .body ∧ S.e ≠ .es ∧ S.e.leaf = false := ⟨by decide, by decide, rfl⟩
theorem ok_name' {n : Nat} {s : S} {d : PyData} (h : 0 < n) (hs : s.leaf = true) (hv : s ≠ .value) : ok n s d = isName d := by
  rw [ok_leaf h hs]; unfold leafOk; rw [if_neg hv]
theorem ok_value {n : Nat} {d : PyData} (h : 0 < n) : ok n .value d = isVal d := by
  rw [ok_leaf h rfl]; unfold leafOk; rw [if_pos rfl]
theorem fit_nil {n m : Nat} : Fit (n + 1) (m + 1) (.tuple []) := Fit.tup (fun _ h => nomatch h) (by show 0 + 1 ≤ m + 1; omega)
theorem inV_str (w : Str) (ws : List Str) : inV (.str w) (ws.map V.str) = decide (w ∈ ws) := by
  unfold inV
  rw [List.any_map]
  induction ws with
  | nil => simp
  | cons a ws ih =>
    rw [List.any_cons, ih]
    have : ((fun y => eqV y (V.str w)) ∘ V.str) a = (a == w) := rfl
    rw [this]
    by_cases h : a = w
    · subst h; simp
    · have h2 : (a == w) = false := beq_eq_false_iff_ne.mpr h
      rw [h2]
      simp [List.mem_cons, Ne.symm h]
/-! ### items and cuts of a tuple of data -/
def cutD (ds : List PyData) (lo hi : Option Int) : List PyData := (ds.drop (HT.sIx ds.length 0 lo)).take (HT.sIx ds.length ds.length hi - HT.sIx ds.length 0 lo)
section
variable {K : PySem.W.Frag} {H : Hp} {v : V} {ds : List PyData}
theorem ixt (h : Dp K H v (.tuple ds)) {i : Int} {d : PyData} (hi : atI ds i = some d) {Q : VK} (q : ∀ u, Dp K H u d → Q u H) : rIxT K v (.int i) H Q := by
  obtain ⟨a, xs, rfl, hs, hd⟩ := Dp.tupD h
  unfold atI at hi
  rw [← dps_len hd] at hi
  cases e : ixN xs.length i with
  | none => rw [e] at hi; cases hi
  | some j =>
    rw [e] at hi
    obtain ⟨u, e1, e2⟩ := dps_get hd hi
    refine ⟨a, xs, i, u, rfl, rfl, hs, ?_, q u e2⟩
    unfold atI
    rw [e]
    exact e1
theorem ixd (h : Dp K H v (.tuple ds)) {i : Int} {d : PyData} (hi : atI ds i = some d) : ∃ a xs u, v = .ref a ∧ SqT K H a xs ∧ atI xs i = some u ∧ Dp K H u d := by
  obtain ⟨a, xs, rfl, hs, hd⟩ := Dp.tupD h
  unfold atI at hi
  rw [← dps_len hd] at hi
  cases e : ixN xs.length i with
  | none => rw [e] at hi; cases hi
  | some j =>
    rw [e] at hi
    obtain ⟨u, e1, e2⟩ := dps_get hd hi
    refine ⟨a, xs, u, rfl, hs, ?_, e2⟩
    unfold atI
    rw [e]
    exact e1
theorem cut_dat (h : Dp K H v (.tuple ds)) (lo hi : Option Int) {Q : VK} (q : ∀ u H', Same H H' → Dp K H' u (.tuple (cutD ds lo hi)) → Q u H') : rSlA K v lo hi H Q := by
  obtain ⟨a, xs, rfl, hs, hd⟩ := Dp.tupD h
  have len := dps_len hd
  refine ⟨a, xs, rfl, hs, fun hw => ?_, fun hw p hp => ?_⟩
  · refine q _ H (Same.refl H) ?_
    unfold cutD
    rw [← len, hw.1, hw.2, Nat.sub_zero, List.drop_zero, len, List.take_length]
    exact h
  · refine q _ _ (same_new hp _) (.tup (SqT.of upd_same) ?_)
    unfold cutD cutV
    rw [← len]
    exact same_dps (same_new hp _) (dps_take _ (dps_drop _ hd))
end
theorem okE_ask {m : Nat} {a b c : PyData} (h : (PyData.tuple [.str "ask", a, b, c]).depth < m) : ok m .e (.tuple [.str "ask", a, b, c]) = (ok m .e a && (isName b && ok m .es c)) := by
  rw [ok_tup e_not h (show shape .e "ask" = some [.e, .word, .es] by decide +kernel)]
  have : ok m .word b = isName b := ok_name' (by omega) rfl (by decide)
  simp [this]
theorem okE_elder {m : Nat} {b c : PyData} (h : (PyData.tuple [.str "elder", b, c]).depth < m) : ok m .e (.tuple [.str "elder", b, c]) = (isName b && ok m .es c) := by
  rw [ok_tup e_not h (show shape .e "elder" = some [.word, .es] by decide +kernel)]
  have : ok m .word b = isName b := ok_name' (by omega) rfl (by decide)
  simp [this]
theorem ok_es {m : Nat} {cs : List PyData} (h : (PyData.tuple cs).depth < m) : ok m .es (.tuple cs) = cs.all (ok m .e) := by
  rw [ok_step h rfl]
  show (cs.map (Prod.mk S.e)).all _ = _
  rw [List.all_map]
  rfl
theorem okE_one {m : Nat} {w : Str} {l : S} {r : List PyData} (h : (PyData.tuple (.str w :: r)).depth < m) (hsh : shape .e w = some [l]) (hl : l.leaf = true) : ok m .e (.tuple (.str w :: r)) = match r with
    | [y] => leafOk l y
    | _ => false := by
  rw [ok_tup e_not h hsh]
  match r with
  | [] => rfl
  | [y] =>
    have : ok m l y = leafOk l y := ok_leaf (by omega) hl
    simp [this]
  | _ :: _ :: _ => rfl
theorem okE_two {m : Nat} {w : Str} {r : List PyData} (h : (PyData.tuple (.str w :: r)).depth < m) (hsh : shape .e w = some [.e, .e]) : ok m .e (.tuple (.str w :: r)) = match r with
    | [x, y] => ok m .e x && ok m .e y
    | _ => false := by
  rw [ok_tup e_not h hsh]
  match r with
  | [] => rfl
  | [y] => rfl
  | [x, y] => simp
  | _ :: _ :: _ :: _ => rfl
theorem and_no {b1 : Bool} {T : TT} {σ : L2.St} {H : Hp} {Q : Bool → Hp → Prop} (h : b1 = true → Q false H → T σ H Q) (q : Q false H) : if b1 = true then T σ H Q else Q false H := by
  cases b1 with
  | true => exact h rfl q
  | false => exact q
theorem at1v {α : Type} {x y : α} {r : List α} : atI (x :: y :: r) 1 = some y := by
  have := atI_nat (xs := x :: y :: r) (j := 1) (v := y) rfl
  exact this
theorem at2v {α : Type} {x y z : α} {r : List α} : atI (x :: y :: z :: r) 2 = some z := by
  have := atI_nat (xs := x :: y :: z :: r) (j := 2) (v := z) rfl
  exact this
theorem ite_int {b : Bool} {x y : Int} {Q : VK} {σ : L2.St} {H : Hp} (h : Q (.int (if b = true then x else y)) H) : if b = true then tC (.int x) σ H Q else tC (.int y) σ H Q := by
  cases b with
  | true => exact h
  | false => exact h
/-! ### _law_says -/
abbrev sSays : Stmt := top 28
abbrev nSays : List Str := ["_law_part", "_law_word", "_law_size", "_law_value", "_law_sign", "_law_one"]
theorem scSays : FnScope ["_law_part", "_law_word", "_law_size", "_law_value", "_law_sign", "_law_one"] ["_law_part"] (defScope sSays) := ⟨rfl, rfl, rfl, by decide +kernel, rfl, by decide +kernel, by decide +kernel⟩
def spLS (K : PySem.W.Frag) (n : Nat) : Sp := fun vs H Q _ => ∃ (v : V) (d : PyData), vs = [v] ∧ Dp K H v d ∧ Fit n 1000000 d ∧ n ≤ 64 ∧ ∀ H', Same H H' → Q (.bl (ok (n + 1) .e d)) H'
def spLSR (K : PySem.W.Frag) (n : Nat) : Sp := fun vs H Q E => ∃ j, n = j + 1 ∧ spLS K j vs H Q E
section
variable {K : PySem.W.Frag} {P : Program} {w : World} {mg : Str → Option Value} {base : Heap} {f g h : Addr} {fd gd hd : FuncData}
theorem ok_says {n : Nat} (F : Fun K "_law_says" "_law_says" sSays f fd) (B : Bl mg)
    (GN : FnOk P w K mg base CX0 1 g gd ["_law_part"] (spLN K)) (bN : Binds K gd ["_law_part"] []) (kN : PySem.W.keepIn K (.ref g) = true) (mN : mg "_law_named" = some (.ref g))
    (GS : FnOk P w K mg base CX0 (n + 1) f fd ["_law_part"] (spLSR K n)) (bS : Binds K fd ["_law_part"] []) (mS : mg "_law_says" = some (.ref f)) :
    FnOk P w K mg base CX0 (n + 2) f fd ["_law_part"] (spLS K n) := by
  refine F.ok scSays (fun vs H Q E h => ?_) (fun cdv A outer s H vs Q E hr h => ?_)
  · obtain ⟨v, d, rfl, _⟩ := h
    rfl
  obtain ⟨v, d, rfl, hd, hf, hn, q⟩ := h
  have hr1 := hr.mono (show 1 ≤ n + 1 by omega)
  refine ⟨_, pss_cons (ps_if (PW.pt (pw_or (pt_not (pt_val (pe_isD kit_T rfl B.isi rfl B.tuple bt_tuple (pv 0)))) (pw_or (pt_cmpR (op_eqD hr.units) (pv 0) (pe_tup pa_nil) (nomark _)) (pw_or1 (pt_not (pt_val (pe_isD kit_S rfl B.isi rfl B.str bt_str (pe_ix ix_tup (pv 0) pe_int (fun _ _ => rfl)))))))))
      (pss_one (ps_ret pe_bl)) pss_nil)
    (pss_cons (ps_par (by rfl) scSays.nd rfl rfl (by decide) rfl rfl (pa_cons (pe_ix ix_tup (pv 0) pe_int (fun _ _ => rfl)) (pa_cons (pe_callB call_len_seq rfl B.len bt_len (pa_cons (pv 0) pa_nil)) pa_nil)) (by rfl) (i := 1) (j := 2))
    (pss_cons (ps_if (PW.pt (pw_and (pt_cmpR op_eq (pv 1) pe_str (nomark _)) (pw_and1 (pt_cmpR op_eq (pv 2) pe_int (nomark _)))))
      (pss_cons (ps_set (i := 3) scSays.nd rfl (.inl rfl) (pe_ix ix_tup (pv 0) pe_int (fun _ _ => rfl)))
      (pss_cons (ps_if (pt_val (pe_isD kit_S rfl B.isi rfl B.str bt_str (pv 3)))
        (pss_one (ps_ret (pe_and (pe_cmpR op_le (pe_callB call_len_str rfl B.len bt_len (pa_cons (pv 3) pa_nil)) pe_int (nomark _)) (pe_one (pe_cmpR (op_eqD hr.units)
          (pe_lc (own := [("_law_sign", 4)]) (g := gName 4) (by rfl) scSays.nd (pi_str (pv 3)) (blkOk_by (own := [("_law_sign", 4)]) (N := nSays) (sc := defScope sSays) (by decide +kernel))
            (fun _ _ _ _ _ => pg_name (i := 4) scSays.nd rfl (Or.inl rfl)) (fun _ _ _ _ _ => pts_one (pt_not (pt_chain op_le_str op_le_str pe_str (pv 4) pe_str))) (fun _ _ _ _ _ => pv 4)) (pe_lst pa_nil) (nomark _)))))) pss_nil)
      (pss_one (ps_ret (pe_or (pe_cmpR op_isN (pv 3) pe_non (nomark _)) (pe_one (pe_isD kit_I rfl B.isi rfl B.int bt_int (pv 3)))))))) pss_nil)
    (pss_cons (ps_if (pt_cmpR op_in_seq (pv 1) (pe_tup (pa_cons pe_str (pa_cons pe_str (pa_cons pe_str pa_nil)))) (by with_unfolding_all rfl))
      (pss_one (ps_ret (pe_and (pe_cmpR op_eq (pv 2) pe_int (nomark _)) (pe_one (pe_call GN hr1 rfl mN kN bN .nil pass0 (pa_cons (pe_ix ix_tup (pv 0) pe_int (fun _ _ => rfl)) pa_nil)))))) pss_nil)
    (pss_cons (ps_if (pt_cmpR op_in_seq (pv 1) (pe_tup (pa_cons pe_str (pa_cons pe_str pa_nil))) (by with_unfolding_all rfl))
      (pss_cons (ps_if (PW.pt (pw_or (pt_cmpR op_ne (pv 2) (pe_ifExp (pt_cmpR op_eq (pv 1) pe_str (nomark _)) pe_int pe_int) (nomark _)) (pw_or (pt_not (pt_val (pe_call GN hr1 rfl mN kN bN .nil pass0 (pa_cons (pe_ix ix_tup (pv 0) (pe_un un_neg pe_int) (fun _ _ => rfl)) pa_nil)))) (pw_or1 (pt_not (pt_val (pe_isD kit_T rfl B.isi rfl B.tuple bt_tuple (pe_ix ix_tup (pv 0) (pe_un un_neg pe_int) (fun _ _ => rfl)))))))))
        (pss_one (ps_ret pe_bl)) pss_nil)
      (pss_one (ps_ret (pe_cmpR (op_eqD hr.units) (pe_lc (own := [("_law_one", 5)]) (g := gName 5) (by rfl) scSays.nd (pi_tup (pe_op op_catA (pe_slice sl_tupA (pv 0) (po_some pe_int) (po_some (pe_un un_neg pe_int))) (pe_ix ix_tup (pv 0) (pe_un un_neg pe_int) (fun _ _ => rfl))))
        (blkOk_by (own := [("_law_one", 5)]) (N := nSays) (sc := defScope sSays) (by decide +kernel))
        (fun _ _ _ _ _ => pg_name (i := 5) scSays.nd rfl (Or.inl rfl)) (fun _ _ _ _ _ => pts_one (pt_not (pt_val (pe_call GS hr rfl mS F.kp bS .nil pass0 (pa_cons (pv 5) pa_nil))))) (fun _ _ _ _ _ => pv 5)) (pe_lst pa_nil) (nomark _))))) pss_nil)
    (pss_cons (ps_if (pt_cmpR op_eq (pv 1) pe_str (nomark _)) (pss_one (ps_ret (pe_cmpR op_eq (pv 2) pe_int (nomark _)))) pss_nil)
    (pss_one (ps_ret (pe_and (pe_cmpR op_in_seq (pv 1) (pe_tup (pa_cons pe_str (pa_cons pe_str (pa_cons pe_str (pa_cons pe_str (pa_cons pe_str pa_nil)))))) (by with_unfolding_all rfl)) (pe_and (pe_cmpR op_eq (pv 2) pe_int (nomark _))
      (pe_and (pe_call GS hr rfl mS F.kp bS .nil pass0 (pa_cons (pe_ix ix_tup (pv 0) pe_int (fun _ _ => rfl)) pa_nil)) (pe_one (pe_call GS hr rfl mS F.kp bS .nil pass0 (pa_cons (pe_ix ix_tup (pv 0) pe_int (fun _ _ => rfl)) pa_nil))))))))))))), ?_⟩
  have dn : d.depth < n + 1 := Nat.lt_succ_of_le hf.dep
  refine ⟨_, rfl, _, d, rfl, hd, _, rfl, ?_⟩
  cases ht : isT d with
  | false => exact iteT (bl_to (q H (Same.refl H)) (ok_not dn rfl ht).symm)
  | true =>
  obtain ⟨ds, rfl⟩ : ∃ ds, d = .tuple ds := by
    cases d with
    | tuple ds => exact ⟨ds, rfl⟩
    | _ => cases ht
  refine iteF ?_
  -- part == ()
  refine ⟨_, rfl, by show 0 ≤ sizeLine; decide, fun e0 ne0 => ⟨.tuple ds, .tuple [], same_dp (same_new ne0 _) hd, .tup (SqT.of upd_same) .nil, hf.shaped hn, by decide +kernel, _, rfl, ?_⟩⟩
  have s2 := same_new (H := H) ne0 (.tup [])
  have d2 := same_dp s2 hd
  generalize upd H e0 (.tup []) = H2 at s2 d2 ⊢
  rw [eqv_unit]
  cases ds with
  | nil => exact iteT (bl_to (q H2 s2) (ok_tup0 e_not dn rfl).symm)
  | cons x r =>
  refine iteF ?_
  have at_0 : atI (x :: r) 0 = some x := by simp [atI, ixN]
  refine ⟨_, rfl, ixt d2 at_0 fun u hu => ⟨u, x, rfl, hu, _, rfl, ?_⟩⟩
  cases hx : isS x with
  | false =>
    refine iteT (bl_to (q H2 s2) (ok_tup0 e_not dn ?_).symm)
    cases x with
    | str _ => cases hx
    | _ => rfl
  | true =>
  refine iteF ?_
  obtain ⟨w, rfl⟩ : ∃ w, x = .str w := by
    cases x with
    | str w => exact ⟨w, rfl⟩
    | _ => cases hx
  clear hu u hx
  -- word, size
  obtain ⟨a, xs, rfl, hs, hxs⟩ := Dp.tupD d2
  have hlen : xs.length = r.length + 1 := dps_len hxs
  cases hxs with
  | @cons u us _ _ hu hus =>
  cases hu
  refine ⟨_, rfl, a, _, 0, _, rfl, rfl, hs, at0, _, rfl, a, _, rfl, .inr hs, _, _, rfl, ?_⟩
  rw [hlen]
  clear hs hus hlen us
  have szr : szAll r + 1 ≤ 1000000 := by
    have := hf.siz
    simp only [sz, szAll] at this
    omega
  have fit1 : ∀ y ∈ r, ∃ j, n = j + 1 ∧ Fit j 1000000 y := fun y hy => by
    cases n with
    | zero => have := hf.dep; simp only [PyData.depth] at this; omega
    | succ j => exact ⟨j, rfl, hf.item (List.mem_cons_of_mem _ hy)⟩
  have strV : ∀ x y : Str, decide (V.str x = V.str y) = decide (x = y) := fun x y => by
    by_cases h : x = y
    · subst h; simp
    · rw [decide_eq_false h, decide_eq_false fun e => h (V.str.inj e)]
  have intV : ∀ (x : Nat) (y : Int), decide (V.int (x : Int) = V.int y) = decide ((x : Int) = y) := fun x y => by
    by_cases h : (x : Int) = y
    · rw [decide_eq_true h, decide_eq_true (congrArg V.int h)]
    · rw [decide_eq_false h, decide_eq_false fun e => h (V.int.inj e)]
  -- word == 'value'
  refine ⟨_, rfl, rfl, decide (w = Str.ofString "value"), congrArg V.bl (strV _ _), ?_⟩
  by_cases hv : w = Str.ofString "value" ∧ r.length = 1
  · obtain ⟨rfl, hr1'⟩ := hv
    obtain ⟨y, rfl⟩ : ∃ y, r = [y] := by
      match r, hr1' with
      | [y], _ => exact ⟨y, rfl⟩
    have hans : ok (n + 1) .e (.tuple [.str "value", y]) = isVal y := by
      rw [okE_one dn (show shape .e "value" = some [.value] by decide +kernel) rfl]
      show leafOk .value y = isVal y
      unfold leafOk
      rw [if_pos rfl]
    rw [hans] at q
    obtain ⟨j, _, fy⟩ := fit1 y List.mem_cons_self
    rw [if_pos (decide_eq_true rfl)]
    refine ⟨_, rfl, rfl, true, rfl, iteT ?_⟩
    obtain ⟨a', xs, ea, hs, hxs⟩ := Dp.tupD d2
    cases ea
    cases hxs with
    | @cons u us _ _ hu hus =>
    cases hus with
    | @cons uy _ _ _ hy hn0 =>
    cases hn0
    cases hu
    refine ⟨_, rfl, a, _, 1, _, rfl, rfl, hs, at1v, ?_⟩
    refine ⟨_, rfl, _, y, rfl, hy, _, rfl, ?_⟩
    cases y with
    | str z =>
      cases hy
      have hz : z.length ≤ 1000000 := by have := fy.siz; simp only [sz] at this; omega
      refine iteT ?_
      refine ⟨_, rfl, z, rfl, Nat.le_of_lt (smallM hz), _, _, rfl, rfl, _, rfl, ?_⟩
      refine ite2 (fun e => ?_) (fun e => ?_)
      · have a1 := of_decide_eq_true e
        refine ⟨_, rfl, z, rfl, fun D nD => ?_⟩
        refine lc_it walk_str (PvS H2 D z fun c => !btw 32 126 c) (.start nD) (fun _ _ _ _ => trivial) ?_ ?_
        · rintro i v H1 H1' hi ⟨sm, hD⟩ ⟨rfl, c, hc, rfl⟩
          refine ⟨rfl, _, rfl, ⟨#[32]⟩, ⟨#[c]⟩, rfl, rfl, _, rfl, ?_⟩
          rw [le_one]
          refine ite2 (fun e1 => ?_) (fun e1 => ?_)
          · refine ⟨⟨#[c]⟩, ⟨#[126]⟩, rfl, rfl, _, rfl, ?_⟩
            rw [le_one]
            refine ite2 (fun e2 => ?_) (fun e2 => ?_)
            · refine ⟨_, rfl, PvS.yes ⟨sm, hD⟩ hz hc ?_⟩
              show (!btw 32 126 c) = true
              unfold btw
              rw [Bool.not_eq_true', e1, Bool.true_and]
              simpa using e2
            · refine PvS.no ⟨sm, hD⟩ hc ?_
              show (!btw 32 126 c) = false
              unfold btw
              rw [e1, Bool.true_and]
              simpa using e2
          · refine ⟨_, rfl, iteT ⟨_, rfl, PvS.yes ⟨sm, hD⟩ hz hc ?_⟩⟩
            show (!btw 32 126 c) = true
            unfold btw
            rw [Bool.eq_false_iff.mpr e1]
            rfl
        · intro H1 h1
          refine PvS.fin h1 nD fy.lay fun H3 s3 => bl_to (q H3 (s2.trans s3)) ?_
          show _ = (decide (z.length ≤ 40) && between 32 126 z)
          rw [decide_eq_true (show z.length ≤ 40 by omega)]
          simp only [Bool.not_not, Bool.true_and]
          rfl
      · have a1 := of_decide_eq_false (Bool.eq_false_iff.mpr e)
        refine bl_to (q H2 s2) ?_
        show _ = (decide (z.length ≤ 40) && between 32 126 z)
        rw [decide_eq_false (show ¬ z.length ≤ 40 by omega)]
        rfl
    | none => cases hy; exact iteF ⟨_, rfl, rfl, _, rfl, iteT (q H2 s2)⟩
    | bool b => cases hy; exact iteF ⟨_, rfl, rfl, _, rfl, iteF ⟨_, rfl, _, _, rfl, .bl b, q H2 s2⟩⟩
    | int b => cases hy; exact iteF ⟨_, rfl, rfl, _, rfl, iteF ⟨_, rfl, _, _, rfl, .int b, q H2 s2⟩⟩
    | list b => 
      obtain ⟨b1, zs, rfl, _⟩ := Dp.lstD hy
      exact iteF ⟨_, rfl, rfl, _, rfl, iteF ⟨_, rfl, _, _, rfl, hy, q H2 s2⟩⟩
    | tuple b =>
      obtain ⟨b1, zs, rfl, _⟩ := Dp.tupD hy
      exact iteF ⟨_, rfl, rfl, _, rfl, iteF ⟨_, rfl, _, _, rfl, hy, q H2 s2⟩⟩
    | dict b => cases hy
  refine and_no (fun e hq => ?_) ?_
  · have e1 : w = Str.ofString "value" := of_decide_eq_true e
    refine ⟨_, rfl, rfl, false, ?_, hq⟩
    have : ¬ (((r.length + 1 : Nat) : Int) = 2) := fun e2 => hv ⟨e1, by omega⟩
    rw [intV, decide_eq_false this]
  refine iteF ?_
  -- word in ('name', 'field', 'new')
  refine ⟨_, rfl, by show 3 ≤ sizeLine; decide, fun p3 np3 => ⟨p3, _, rfl, .inr (SqT.of upd_same), rfl, rfl, decide (w ∈ [Str.ofString "name", Str.ofString "field", Str.ofString "new"]), congrArg V.bl (inV_str w [_, _, _]), ?_⟩⟩
  have s3 := s2.trans (same_new (H := H2) np3 (.tup [.str "name", .str "field", .str "new"]))
  have d3 := same_dp (same_new (H := H2) np3 (.tup [.str "name", .str "field", .str "new"])) d2
  generalize upd H2 p3 (.tup [.str "name", .str "field", .str "new"]) = H3 at s3 d3 ⊢
  refine ite2 (fun e => ?_) (fun e => ?_)
  · have e1 := of_decide_eq_true e
    obtain ⟨l, hl, hlv, hsh⟩ : ∃ l : S, l.leaf = true ∧ l ≠ .value ∧ shape .e w = some [l] := by
      simp only [List.mem_cons, List.not_mem_nil, or_false] at e1
      rcases e1 with rfl | rfl | rfl
      · exact ⟨.name, rfl, by decide, by decide +kernel⟩
      · exact ⟨.field, rfl, by decide, by decide +kernel⟩
      · exact ⟨.kind, rfl, by decide, by decide +kernel⟩
    have hans := okE_one dn hsh hl
    refine ⟨_, rfl, rfl, decide (((r.length + 1 : Nat) : Int) = 2), congrArg V.bl (intV _ _), ?_⟩
    refine ite2 (fun e2 => ?_) (fun e2 => ?_)
    · have e3 := of_decide_eq_true e2
      obtain ⟨y, rfl⟩ : ∃ y, r = [y] := by
        have : r.length = 1 := by omega
        match r, this with
        | [y], _ => exact ⟨y, rfl⟩
      obtain ⟨j, _, fy⟩ := fit1 y List.mem_cons_self
      obtain ⟨a', xs, ea, hs, hxs⟩ := Dp.tupD d3
      cases ea
      cases hxs with
      | @cons u us _ _ hu hus =>
      cases hus with
      | @cons uy _ _ _ hy hn0 =>
      cases hn0
      refine ⟨_, rfl, a, _, 1, _, rfl, rfl, hs, at1v, uy, y, rfl, hy, fy.lay, fy.siz, fun H4 s4 => bl_to (q H4 (s3.trans s4)) ?_⟩
      rw [hans]
      show isName y = leafOk l y
      unfold leafOk
      rw [if_neg hlv]
    · have e3 := of_decide_eq_false (Bool.eq_false_iff.mpr e2)
      refine bl_to (q H3 s3) ?_
      rw [hans]
      match r with
      | [] => rfl
      | [y] => exact absurd rfl e3
      | _ :: _ :: _ => rfl
  have n1 := of_decide_eq_false (Bool.eq_false_iff.mpr e)
  clear e d2 s2
  -- word in ('ask', 'elder')
  refine ⟨_, rfl, by show 2 ≤ sizeLine; decide, fun p4 np4 => ⟨p4, _, rfl, .inr (SqT.of upd_same), rfl, rfl, decide (w ∈ [Str.ofString "ask", Str.ofString "elder"]), congrArg V.bl (inV_str w [_, _]), ?_⟩⟩
  have s4 := s3.trans (same_new (H := H3) np4 (.tup [.str "ask", .str "elder"]))
  have d4 := same_dp (same_new (H := H3) np4 (.tup [.str "ask", .str "elder"])) d3
  generalize upd H3 p4 (.tup [.str "ask", .str "elder"]) = H4 at s4 d4 ⊢
  refine ite2 (fun e => ?_) (fun e => ?_)
  · have e1 := of_decide_eq_true e
    -- the two forms at once
    have two : ∃ (sh : List S) (nz : Int), shape .e w = some sh ∧ (sh.length : Int) + 1 = nz ∧ (if decide (w = Str.ofString "ask") = true then (4 : Int) else 3) = nz ∧ ∀ r' : List PyData, sh.length = r'.length → ∃ (as : List PyData) (b c : PyData), r' = as ++ [b, c] ∧ atI (PyData.str w :: r') (-2) = some b ∧ atI (PyData.str w :: r') (-1) = some c ∧ cutD (.str w :: r') (some 1) (some (-2)) = as ∧
        ∀ m, (PyData.tuple (.str w :: r')).depth < m → ok m .e (.tuple (.str w :: r')) = (as.all (ok m .e) && (isName b && ok m .es c)) := by
      simp only [List.mem_cons, List.not_mem_nil, or_false] at e1
      rcases e1 with rfl | rfl
      · refine ⟨[.e, .word, .es], 4, by decide +kernel, by decide, by simp, fun r' hl => ?_⟩
        match r', hl with
        | [a, b, c], _ =>
          refine ⟨[a], b, c, rfl, by simp [atI, ixN], by simp [atI, ixN], by simp [cutD, HT.sIx], fun m hm => ?_⟩
          rw [okE_ask hm]
          simp
      · refine ⟨[.word, .es], 3, by decide +kernel, by decide, by rw [decide_eq_false (by decide +kernel)]; rfl, fun r' hl => ?_⟩
        match r', hl with
        | [b, c], _ =>
          refine ⟨[], b, c, rfl, by simp [atI, ixN], by simp [atI, ixN], by simp [cutD, HT.sIx], fun m hm => ?_⟩
          rw [okE_elder hm]
          simp
    obtain ⟨sh, nz, hsh, hnz, hif, hforms⟩ := two
    refine ⟨_, rfl, _, rfl, rfl, decide (w = Str.ofString "ask"), congrArg V.bl (strV _ _), ?_⟩
    refine ite_int ?_
    rw [hif]
    refine ⟨rfl, !decide (((r.length + 1 : Nat) : Int) = nz), ?_, ?_⟩
    · rw [intV]
    refine ite2 (fun e2 => ?_) (fun e2 => ?_)
    · have e3 : ¬ ((r.length + 1 : Nat) : Int) = nz := by simpa using e2
      refine bl_to (q H4 s4) ?_
      rw [ok_tup e_not dn hsh, decide_eq_false (show ¬ sh.length = r.length by omega)]
      rfl
    have e3 : ((r.length + 1 : Nat) : Int) = nz := by simpa using e2
    obtain ⟨as, b, c, er, hb, hc, hcut, hok⟩ := hforms r (by omega)
    have mb : b ∈ r := by rw [er]; simp
    have mc : c ∈ r := by rw [er]; simp
    obtain ⟨j, rfl, fb⟩ := fit1 b mb
    obtain ⟨j', ej, fc⟩ := fit1 c mc
    have : j' = j := by omega
    subst this
    obtain ⟨a', xs, ub, ea, hs, hub, db⟩ := ixd d4 hb
    cases ea
    refine ⟨_, rfl, _, rfl, a, xs, -2, ub, rfl, rfl, hs, hub, ub, b, rfl, db, fb.lay, fb.siz, fun H5 s5 => ⟨_, rfl, ?_⟩⟩
    have s5' := s4.trans s5
    have d5 := same_dp s5 d4
    refine ite2 (fun e4 => ?_) (fun e4 => ?_)
    · have e5 : isName b = false := by simpa using e4
      refine bl_to (q H5 s5') ?_
      rw [hok _ dn, e5]
      simp
    have e5 : isName b = true := by simpa using e4
    obtain ⟨a', xs', uc, ea, hs', huc, dc⟩ := ixd d5 hc
    cases ea
    refine ⟨_, rfl, _, rfl, a, xs', -1, uc, rfl, rfl, hs', huc, _, c, rfl, dc, _, rfl, ?_⟩
    refine ite2 (fun e6 => ?_) (fun e6 => ?_)
    · have e7 : isT c = false := by simpa using e6
      refine bl_to (q H5 s5') ?_
      rw [hok _ dn, ok_not (by have := fc.dep; omega) rfl e7]
      simp
    have e7 : isT c = true := by simpa using e6
    obtain ⟨cs, rfl⟩ : ∃ cs, c = .tuple cs := by
      cases c with
      | tuple cs => exact ⟨cs, rfl⟩
      | _ => cases e7
    have hans : ok (j' + 1 + 1) .e (.tuple (.str w :: r)) = (as ++ cs).all (ok (j' + 1 + 1) .e) := by
      rw [hok _ dn, e5, ok_es (by have := fc.dep; omega), List.all_append, Bool.true_and]
    rw [hans] at q
    have szz : szAll as + szAll cs ≤ 1000000 := by
      rw [er, szAll_append] at szr
      simp only [szAll, sz] at szr
      omega
    have fits : ∀ d ∈ as ++ cs, Fit j' 1000000 d := fun d hd => by
      rcases List.mem_append.mp hd with h1 | h1
      · obtain ⟨j2, ej2, f2⟩ := fit1 d (by rw [er]; exact List.mem_append_left _ h1)
        have : j2 = j' := by omega
        rw [← this]; exact f2
      · cases j' with
        | zero => have := fc.dep; simp only [PyData.depth] at this; omega
        | succ j3 => exact (fc.item h1).mono (by omega) (Nat.le_refl _)
    -- the list of those that say nothing
    refine ⟨_, rfl, _, rfl, _, rfl, _, rfl, ?_⟩
    refine cut_dat d5 _ _ fun sv H6 s6 d6 => ?_
    rw [show cutD (PyData.str w :: r) (some 1) (some (-2)) = as from hcut] at d6
    obtain ⟨a', xs6, uc6, ea, hs6, huc6, dc6⟩ := ixd (same_dp s6 d5) hc
    cases ea
    refine ⟨_, rfl, _, rfl, a, xs6, -1, uc6, rfl, rfl, hs6, huc6, ?_⟩
    have la : as.length ≤ szAll as := szAll_len as
    have lc : cs.length ≤ szAll cs := szAll_len cs
    refine cat_dat d6 dc6 (Nat.le_of_lt (smallM (by omega))) fun tv H7 s7 d7 => ?_
    obtain ⟨t7, ys, rfl, ht7, hys⟩ := Dp.tupD d7
    refine ⟨t7, rfl, ⟨_, ht7⟩, fun D nD => ?_⟩
    have lys := dps_len hys
    have s7' := s5'.trans (s6.trans s7)
    refine lc_it (walk_tup (xs := ys)) (PvD K H7 D (as ++ cs) fun d => if ok (j' + 1 + 1) .e d = true then none else some d) (.start nD) (fun i H' _ h' => (Kept.of (h'.same nD)).sqT ht7) ?_ ?_
    · rintro i v H8 H8' hi h8 ⟨rfl, hy⟩
      obtain ⟨d, hdi, hpd⟩ := dps_getV hys hy
      have fd := fits d (List.mem_of_getElem? hdi)
      have s8 := h8.same nD
      have kd : ok (j' + 1) .e d = ok (j' + 1 + 1) .e d := ok_stable _ _ _ _ (by have := fd.dep; omega) (by have := fd.dep; omega)
      refine ⟨rfl, _, rfl, j', rfl, v, d, rfl, same_dp s8 hpd, fd, by omega, fun H9 s9 => ⟨_, rfl, ?_⟩⟩
      rw [kd]
      refine ite2 (fun e8 => ?_) (fun e8 => ?_)
      · refine ⟨_, rfl, h8.yes nD ?_ hdi (e := d) ?_ s9 hpd⟩
        · rw [List.length_append]; omega
        · rw [if_neg (by simpa using e8)]
      · exact h8.no nD hdi (by rw [if_pos (by simpa using e8)]) s9
    · intro H8 h8
      rw [lys] at h8
      obtain ⟨s8, vs, hD, hvs⟩ := h8.fin nD
      refine ⟨by show 0 ≤ sizeLine; decide, fun p np => ?_⟩
      have s9 := same_new (H := H8) np (.lst [])
      refine ⟨.list _, .list [], .lst (SqL.of (s9 _ _ hD)) (same_dps s9 hvs), .lst (SqL.of upd_same) .nil, ?_, by decide +kernel, bl_to (q _ (s7'.trans (s8.trans s9))) ?_⟩
      · refine Fit.shaped (n := j' + 1) (m := 1000001) (Fit.lst (fun d hd => ?_) ?_) hn
        · obtain ⟨d0, h1, h2⟩ := List.mem_filterMap.mp hd
          split at h2
          · cases h2
          · cases h2
            exact ⟨(fits d h1).lay, (fits d h1).dep⟩
        · have : szAll ((as ++ cs).filterMap fun d => if ok (j' + 1 + 1) .e d = true then none else some d) ≤ szAll (as ++ cs) := by
            induction as ++ cs with
            | nil => exact Nat.le_refl _
            | cons d ds ih =>
              rw [List.filterMap_cons]
              split <;> simp only [szAll] <;> (try split at *) <;> simp_all <;> omega
          rw [szAll_append] at this
          omega
      · rw [eqv_nil]
        induction as ++ cs with
        | nil => rfl
        | cons d ds ih => cases hk : ok (j' + 1 + 1) .e d <;> simp [hk, ih]
  have n2 := of_decide_eq_false (Bool.eq_false_iff.mpr e)
  clear e d3 s3
  -- word == 'self'
  refine ⟨_, rfl, rfl, decide (w = Str.ofString "self"), congrArg V.bl (strV _ _), ?_⟩
  refine ite2 (fun e => ?_) (fun e => ?_)
  · have e1 := of_decide_eq_true e
    subst e1
    refine ⟨_, rfl, rfl, bl_to (q H4 s4) ?_⟩
    rw [intV, ok_tup e_not dn (show shape .e "self" = some [] by decide +kernel)]
    match r with
    | [] => rfl
    | _ :: _ =>
      simp
      omega
  have n3 := of_decide_eq_false (Bool.eq_false_iff.mpr e)
  clear e
  -- word in ('same', ..)
  refine ⟨_, rfl, by show 5 ≤ sizeLine; decide, fun p5 np5 => ⟨p5, _, rfl, .inr (SqT.of upd_same), rfl, rfl, decide (w ∈ [Str.ofString "same", Str.ofString "add", Str.ofString "sub", Str.ofString "mul", Str.ofString "under"]), congrArg V.bl (inV_str w [_, _, _, _, _]), ?_⟩⟩
  have s5 := s4.trans (same_new (H := H4) np5 (.tup [.str "same", .str "add", .str "sub", .str "mul", .str "under"]))
  have d5 := same_dp (same_new (H := H4) np5 (.tup [.str "same", .str "add", .str "sub", .str "mul", .str "under"])) d4
  generalize upd H4 p5 (.tup [.str "same", .str "add", .str "sub", .str "mul", .str "under"]) = H5 at s5 d5 ⊢
  refine ite2 (fun e => ?_) (fun e => ?_)
  · have e1 := of_decide_eq_true e
    have hsh : shape .e w = some [.e, .e] := by
      simp only [List.mem_cons, List.not_mem_nil, or_false] at e1
      rcases e1 with rfl | rfl | rfl | rfl | rfl <;> decide +kernel
    have hans := okE_two dn hsh
    refine ⟨_, rfl, rfl, decide (((r.length + 1 : Nat) : Int) = 3), congrArg V.bl (intV _ _), ?_⟩
    refine ite2 (fun e2 => ?_) (fun e2 => ?_)
    · have e3 := of_decide_eq_true e2
      obtain ⟨x, y, rfl⟩ : ∃ x y, r = [x, y] := by
        have : r.length = 2 := by omega
        match r, this with
        | [x, y], _ => exact ⟨x, y, rfl⟩
      obtain ⟨j, rfl, fx⟩ := fit1 x List.mem_cons_self
      obtain ⟨j', ej, fy⟩ := fit1 y (List.mem_cons_of_mem _ List.mem_cons_self)
      have : j' = j := by omega
      subst this
      have kx : ok (j' + 1) .e x = ok (j' + 1 + 1) .e x := ok_stable _ _ _ _ (by have := fx.dep; omega) (by have := fx.dep; omega)
      have ky : ok (j' + 1) .e y = ok (j' + 1 + 1) .e y := ok_stable _ _ _ _ (by have := fy.dep; omega) (by have := fy.dep; omega)
      obtain ⟨a', xs, ea, hs, hxs⟩ := Dp.tupD d5
      cases ea
      cases hxs with
      | @cons u us _ _ hu hus =>
      cases hus with
      | @cons ux _ _ _ hx hys =>
      cases hys with
      | @cons uy _ _ _ hy hn0 =>
      cases hn0
      refine ⟨_, rfl, a, _, 1, _, rfl, rfl, hs, at1v, j', rfl, ux, x, rfl, hx, fx, by omega, fun H6 s6 => ⟨_, rfl, ?_⟩⟩
      rw [kx]
      refine ite2 (fun e4 => ?_) (fun e4 => ?_)
      · refine ⟨_, rfl, a, _, 2, _, rfl, rfl, (Kept.of s6).sqT hs, at2v, j', rfl, uy, y, rfl, same_dp s6 hy, fy, by omega, fun H7 s7 => bl_to (q H7 (s5.trans (s6.trans s7))) ?_⟩
        rw [hans, ky]
        show _ = (ok (j' + 1 + 1) .e x && ok (j' + 1 + 1) .e y)
        rw [e4]; rfl
      · refine bl_to (q H6 (s5.trans s6)) ?_
        rw [hans]
        show _ = (ok (j' + 1 + 1) .e x && ok (j' + 1 + 1) .e y)
        rw [Bool.eq_false_iff.mpr e4]; rfl
    · have e3 := of_decide_eq_false (Bool.eq_false_iff.mpr e2)
      refine bl_to (q H5 s5) ?_
      rw [hans]
      match r with
      | [] => rfl
      | [y] => rfl
      | [x, y] => exact absurd rfl e3
      | _ :: _ :: _ :: _ => rfl
  have n4 := of_decide_eq_false (Bool.eq_false_iff.mpr e)
  refine bl_to (q H5 s5) ?_
  cases hsh : shape .e w with
  | none =>
    refine (ok_tup0 e_not dn ?_).symm
    simp only [partsW]
    rw [hsh]
  | some sh =>
    have hm : (w, sh) ∈ eTab := lookup_mem hsh
    unfold eTab at hm
    simp only [List.mem_cons, List.not_mem_nil, or_false, Prod.mk.injEq] at hm n1 n2 n4
    rw [ok_tup e_not dn hsh]
    rcases hm with ⟨rfl, rfl⟩ | ⟨rfl, rfl⟩ | ⟨rfl, rfl⟩ | ⟨rfl, rfl⟩ | ⟨rfl, rfl⟩ | ⟨rfl, rfl⟩ | ⟨rfl, rfl⟩ | ⟨rfl, rfl⟩ | ⟨rfl, rfl⟩ | ⟨rfl, rfl⟩ | ⟨rfl, rfl⟩ | ⟨rfl, rfl⟩
    · have : ¬ r.length = 1 := fun e => hv ⟨rfl, e⟩
      have : ([S.value] : List S).length ≠ r.length := fun e => this e.symm
      rw [decide_eq_false this]
      rfl
    · exact absurd rfl n3
    · exact absurd (.inl rfl) n1
    · exact absurd (.inr (.inl rfl)) n1
    · exact absurd (.inl rfl) n2
    · exact absurd (.inr rfl) n2
    · exact absurd (.inr (.inr rfl)) n1
    · exact absurd (.inl rfl) n4
    · exact absurd (.inr (.inl rfl)) n4
    · exact absurd (.inr (.inr (.inl rfl))) n4
    · exact absurd (.inr (.inr (.inr (.inl rfl)))) n4
    · exact absurd (.inr (.inr (.inr (.inr rfl)))) n4
end
end B1

set_option maxRecDepth 100000
set_option maxHeartbeats 4000000
namespace B1
open PySem PySem.Spec PyProof.Rows L2
section
variable {K : PySem.W.Frag} {P : Program} {w : World} {mg : Str → Option Value} {base : Heap} {f g h : Addr} {fd gd hd : FuncData}
theorem says_all (F : Fun K "_law_says" "_law_says" sSays f fd) (B : Bl mg)
    (GN : FnOk P w K mg base CX0 1 g gd ["_law_part"] (spLN K)) (bN : Binds K gd ["_law_part"] []) (kN : PySem.W.keepIn K (.ref g) = true) (mN : mg "_law_named" = some (.ref g))
    (bS : Binds K fd ["_law_part"] []) (mS : mg "_law_says" = some (.ref f)) : ∀ n : Nat, FnOk P w K mg base CX0 (n + 2) f fd ["_law_part"] (spLS K n)
  | 0 => ok_says F B GN bN kN mN ⟨fun vs H Q E h => (by obtain ⟨j, e, _⟩ := h; cases e), fun A outer s H args us vs Q E _ _ _ _ h => (by obtain ⟨j, e, _⟩ := h; cases e)⟩ bS mS
  | n + 1 => ok_says F B GN bN kN mN ((says_all F B GN bN kN mN bS mS n).imp fun vs H Q E ⟨j, e, h⟩ => (by cases e; exact h)) bS mS
end
section
variable {X : Cx} {c a b : Expr} {pos : Pos} {t tA tB : TT}
def tIfT (t tA tB : TT) : TT := fun σ H Q => t σ H fun c H1 => if c = true then tA σ H1 Q else tB σ H1 Q
theorem pt_ifExp (hc : PT X c t) (ha : PT X a tA) (hb : PT X b tB) : PT X (.IfExp c a b pos) (tIfT t tA tB) := by
  refine ⟨fun pins s σ H Q I h => ?_⟩
  unfold PySem.isTrue
  refine wpAny_bind (thn (hc.run pins s σ H _ I h) fun d s1 ⟨H1, I1, q1⟩ => ?_)
  cases d with
  | true => exact ha.run pins s1 σ H1 Q I1 q1
  | false => exact hb.run pins s1 σ H1 Q I1 q1
end
/-! ### the table of rows, by marks -/
def mkC : S → Nat
  | .e => 115
  | .body => 98
  | _ => 110
def marksOf (sh : List S) : Str := ⟨(sh.map mkC).toArray⟩
def frm1 : List (Str × Str) := [("do", "s"), ("give", "s"), ("raise", "s"), ("let", "ns"), ("put", "ns"), ("when", "sbb")]
def frm2 : List (Str × Str) := [("while", "sb"), ("try", "bnb")]
def frmD (T : List (Str × Str)) : List (Key × V) := T.map fun p => (.inr p.1, .str p.2)
theorem frm_m1 : mergeK [] (frmD frm1) = frmD frm1 := by decide +kernel
theorem frm_m2 : mergeK [] (frmD frm2) = frmD frm2 := by decide +kernel
theorem frm_m3 : mergeK (frmD frm1) (frmD frm2) = frmD (frm1 ++ frm2) := by decide +kernel
theorem frm_val (T : List (Str × Str)) (w : Str) : valV (frmD T) (.inr w) = (T.lookup w).map V.str := by
  induction T with
  | nil => rfl
  | cons p T ih =>
    obtain ⟨k, m⟩ := p
    show valV ((.inr k, .str m) :: frmD T) (.inr w) = _
    unfold valV at ih ⊢
    rw [List.find?_cons, List.lookup_cons]
    by_cases h : k = w
    · subst h
      simp
    · have h1 : (w == k) = false := beq_eq_false_iff_ne.mpr (Ne.symm h)
      have h2 : decide ((Sum.inr k : Key) = .inr w) = false := decide_eq_false fun e => h (Sum.inr.inj e)
      rw [h1, h2]
      exact ih
theorem frm_row (w : Str) : (frm1 ++ frm2).lookup w = (shape .row w).map marksOf := by
  cases h : (frm1 ++ frm2).lookup w with
  | some m =>
    have hm := lookup_mem h
    simp only [frm1, frm2, List.cons_append, List.nil_append, List.mem_cons, List.not_mem_nil, or_false, Prod.mk.injEq] at hm
    rcases hm with ⟨rfl, rfl⟩ | ⟨rfl, rfl⟩ | ⟨rfl, rfl⟩ | ⟨rfl, rfl⟩ | ⟨rfl, rfl⟩ | ⟨rfl, rfl⟩ | ⟨rfl, rfl⟩ | ⟨rfl, rfl⟩ <;> decide +kernel
  | none =>
    cases h2 : shape .row w with
    | none => rfl
    | some sh =>
      have hm : (w, sh) ∈ rowTab := lookup_mem h2
      unfold rowTab at hm
      simp only [List.mem_cons, List.not_mem_nil, or_false, Prod.mk.injEq] at hm
      rcases hm with ⟨rfl, rfl⟩ | ⟨rfl, rfl⟩ | ⟨rfl, rfl⟩ | ⟨rfl, rfl⟩ | ⟨rfl, rfl⟩ | ⟨rfl, rfl⟩ | ⟨rfl, rfl⟩ | ⟨rfl, rfl⟩ <;> exact absurd h (by decide +kernel)
theorem row_shape {w : Str} {sh : List S} (h : shape .row w = some sh) : sh ≠ [] ∧ sh.length ≤ 3 ∧ ∀ s ∈ sh, s = .e ∨ s = .body ∨ (s.leaf = true ∧ s ≠ .value) := by
  have hm : (w, sh) ∈ rowTab := lookup_mem h
  unfold rowTab at hm
  simp only [List.mem_cons, List.not_mem_nil, or_false, Prod.mk.injEq] at hm
  rcases hm with ⟨rfl, rfl⟩ | ⟨rfl, rfl⟩ | ⟨rfl, rfl⟩ | ⟨rfl, rfl⟩ | ⟨rfl, rfl⟩ | ⟨rfl, rfl⟩ | ⟨rfl, rfl⟩ | ⟨rfl, rfl⟩ <;> decide
theorem ok_body_all {m : Nat} {rs : List PyData} (h : (PyData.tuple rs).depth < m) : ok m .body (.tuple rs) = rs.all (ok m .row) := by
  rw [ok_step h rfl]
  show (rs.map (Prod.mk S.row)).all _ = _
  rw [List.all_map]
  rfl
theorem r_not : S.row ≠ .body ∧ S.row ≠ .es ∧ S.row.leaf = false := ⟨by decide, by decide, rfl⟩
/-! ### _law_does -/
abbrev sDoes : Stmt := top 29
theorem scDoes : FnScope ["_law_part", "_law_row", "_law_form", "_law_marks", "_law_mark", "_law_one"] ["_law_part"] (defScope sDoes) := ⟨rfl, rfl, rfl, by decide +kernel, rfl, by decide +kernel, by decide +kernel⟩
def spLD (K : PySem.W.Frag) (n : Nat) : Sp := fun vs H Q _ => ∃ (v : V) (d : PyData), vs = [v] ∧ Dp K H v d ∧ Fit n 1000000 d ∧ n ≤ 64 ∧ ∀ H', Same H H' → Q (.bl (ok (n + 1) .body d)) H'
def spLDR (K : PySem.W.Frag) (n : Nat) : Sp := fun vs H Q E => ∃ j, n = j + 1 ∧ spLD K j vs H Q E
def PvR (H : Hp) (v : V) (m : Nat) (rs : List PyData) : Nat → L2.St → Hp → Prop := fun i σ H' => ∃ y1 y2 y3 y4 y5 : Option V, σ = [some v, y1, y2, y3, y4, y5] ∧ Same H H' ∧ (rs.take i).all (ok m .row) = true
def PvZ (H : Hp) (v : V) (y1 y2 y3 : Option V) (m : Nat) (ps : List (S × PyData)) : Nat → L2.St → Hp → Prop := fun i σ H' => ∃ y4 y5 : Option V, σ = [some v, y1, y2, y3, y4, y5] ∧ Same H H' ∧ ((ps.take i).all fun p => ok m p.1 p.2) = true
section
variable {K : PySem.W.Frag} {P : Program} {w : World} {mg : Str → Option Value} {base : Heap} {f g h : Addr} {fd gd hd : FuncData}
theorem ok_does {n : Nat} (F : Fun K "_law_does" "_law_does" sDoes f fd) (B : Bl mg)
    (GN : FnOk P w K mg base CX0 1 g gd ["_law_part"] (spLN K)) (bN : Binds K gd ["_law_part"] []) (kN : PySem.W.keepIn K (.ref g) = true) (mN : mg "_law_named" = some (.ref g))
    (GS : FnOk P w K mg base CX0 (n + 2) h hd ["_law_part"] (spLS K n)) (bS : Binds K hd ["_law_part"] []) (kS : PySem.W.keepIn K (.ref h) = true) (mS : mg "_law_says" = some (.ref h))
    (GD : FnOk P w K mg base CX0 (n + 2) f fd ["_law_part"] (spLDR K n)) (bD : Binds K fd ["_law_part"] []) (mD : mg "_law_does" = some (.ref f)) :
    FnOk P w K mg base CX0 (n + 3) f fd ["_law_part"] (spLD K n) := by
  refine F.ok scDoes (fun vs H Q E h => ?_) (fun cdv A outer s H vs Q E hr h => ?_)
  · obtain ⟨v, d, rfl, _⟩ := h
    rfl
  obtain ⟨v, d, rfl, hd, hf, hn, q⟩ := h
  have hr1 := hr.mono (show 1 ≤ n + 2 by omega)
  have hu := hu_of hr
  refine ⟨_, pss_cons (ps_if (pt_not (pt_val (pe_isD kit_T rfl B.isi rfl B.tuple bt_tuple (pv 0)))) (pss_one (ps_ret pe_bl)) pss_nil)
    (pss_cons (ps_for PassesOwn.never rfl (pi_tup (pv 0)) (pg_name (i := 1) scDoes.nd rfl (.inl rfl))
      (pss_cons (ps_if (PW.pt (pw_or (pt_not (pt_val (pe_isD kit_T rfl B.isi rfl B.tuple bt_tuple (pv 1)))) (pw_or (pt_cmpR (op_eqD hr.units) (pv 1) (pe_tup pa_nil) (nomark _)) (pw_or1 (pt_not (pt_val (pe_isD kit_S rfl B.isi rfl B.str bt_str (pe_ix ix_tup (pv 1) pe_int (fun _ _ => rfl)))))))))
        (pss_one (ps_ret pe_bl)) pss_nil)
      (pss_cons (ps_set (i := 2) scDoes.nd rfl (.inl rfl) (pe_disp (pps_cons pe_str pe_str (pps_cons pe_str pe_str (pps_cons pe_str pe_str (pps_cons pe_str pe_str (pps_cons pe_str pe_str (pps_cons pe_str pe_str pps_nil)))))) (by rfl) (by rfl) (fun z => by cases z) (by decide)))
      (pss_cons (ps_expr (pe_bm PySem.F.plainAttrs_dict PySem.F.slot_dict_update PySem.F.type_dict_update mt_upd (pv 2) (pa_cons (pe_disp (pps_cons pe_str pe_str (pps_cons pe_str pe_str pps_nil)) (by rfl) (by rfl) (fun z => by cases z) (by decide)) pa_nil)))
      (pss_cons (ps_set (i := 3) scDoes.nd rfl (.inl rfl) (pe_dget2 hu (pv 2) (pe_ix ix_tup (pv 1) pe_int (fun _ _ => rfl)) pe_str ⟨rfl, rfl, rfl, rfl⟩))
      (pss_cons (ps_if (PW.pt (pw_or (pt_cmpR op_eq (pv 3) pe_str (nomark _)) (pw_or1 (pt_cmpR op_ne (pe_callB call_len_seq rfl B.len bt_len (pa_cons (pv 1) pa_nil)) (pe_op op_add (pe_callB call_len_str rfl B.len bt_len (pa_cons (pv 3) pa_nil)) pe_int) (nomark _)))))
        (pss_one (ps_ret pe_bl)) pss_nil)
      (pss_one (ps_for PassesOwn.never rfl (pi_zipST rfl B.zip (pa_cons (pv 3) (pa_cons (pe_slice sl_tupA (pv 1) (po_some pe_int) po_none) pa_nil))) (pg_tup (by rfl) (pgs_cons (pg_name (i := 4) scDoes.nd rfl (.inl rfl)) (pgs_cons (pg_name (i := 5) scDoes.nd rfl (.inl rfl)) pgs_nil)))
        (pss_one (ps_if (pt_not (pt_ifExp (pt_cmpR op_eq (pv 4) pe_str (nomark _)) (pt_val (pe_call GN hr1 rfl mN kN bN .nil pass0 (pa_cons (pv 5) pa_nil)))
            (pt_ifExp (pt_cmpR op_eq (pv 4) pe_str (nomark _)) (pt_val (pe_call GS hr rfl mS kS bS .nil pass0 (pa_cons (pv 5) pa_nil))) (pt_val (pe_call GD hr rfl mD F.kp bD .nil pass0 (pa_cons (pv 5) pa_nil))))))
          (pss_one (ps_ret pe_bl)) pss_nil))))))))))
    (pss_one (ps_ret pe_bl))), ?_⟩
  have dn : d.depth < n + 1 := Nat.lt_succ_of_le hf.dep
  refine ⟨_, rfl, _, d, rfl, hd, _, rfl, ?_⟩
  cases ht : isT d with
  | false => exact iteT (bl_to (q H (Same.refl H)) (ok_not dn rfl ht).symm)
  | true =>
  obtain ⟨ds, rfl⟩ : ∃ ds, d = .tuple ds := by
    cases d with
    | tuple ds => exact ⟨ds, rfl⟩
    | _ => cases ht
  refine iteF ?_
  obtain ⟨a, xs, rfl, hs, hxs⟩ := Dp.tupD hd
  have hlen := dps_len hxs
  rw [ok_body_all dn] at q
  have bad : ∀ (rd : PyData) (H' : Hp), rd ∈ ds → ok (n + 1) .row rd = false → Same H H' → Q (.bl false) H' := fun rd H' hm hk hs' => by
    refine bl_to (q H' hs') ?_
    cases hall : ds.all (ok (n + 1) .row) with
    | false => rfl
    | true => rw [List.all_eq_true.mp hall rd hm] at hk; cases hk
  refine ⟨_, rfl, a, rfl, ⟨_, hs⟩, for_it (walk_tup (xs := xs)) (PvR H (.ref a) (n + 1) ds) ⟨_, _, _, _, _, rfl, Same.refl H, rfl⟩ (fun i σ H' _ ⟨_, _, _, _, _, _, e, _⟩ => (Kept.of e).sqT hs) ?_ ?_⟩
  · rintro i x σ H1 H1' hi ⟨y1, y2, y3, y4, y5, rfl, s1, hall⟩ ⟨rfl, hx⟩
    obtain ⟨rd, hrd, hpr⟩ := dps_getV hxs hx
    have mr := List.mem_of_getElem? hrd
    obtain ⟨j, rfl⟩ : ∃ j, n = j + 1 := by
      cases n with
      | zero => have := hf.dep; simp only [PyData.depth] at this; omega
      | succ j => exact ⟨j, rfl⟩
    have fr := hf.item mr
    have drn : rd.depth < j + 1 + 1 := by have := fr.dep; omega
    have p1 := same_dp s1 hpr
    refine ⟨_, rfl, _, rd, rfl, p1, _, rfl, ?_⟩
    cases htr : isT rd with
    | false => exact iteT (bad rd _ mr (ok_not drn rfl htr) s1)
    | true =>
    obtain ⟨rs, rfl⟩ : ∃ rs, rd = .tuple rs := by
      cases rd with
      | tuple rs => exact ⟨rs, rfl⟩
      | _ => cases htr
    refine iteF ?_
    -- row == ()
    refine ⟨_, rfl, by show 0 ≤ sizeLine; decide, fun e0 ne0 => ⟨.tuple rs, .tuple [], same_dp (same_new ne0 _) p1, .tup (SqT.of upd_same) .nil, fr.shaped (by omega), by decide +kernel, _, rfl, ?_⟩⟩
    have s2 := s1.trans (same_new (H := H1') ne0 (.tup []))
    have p2 := same_dp (same_new (H := H1') ne0 (.tup [])) p1
    generalize upd H1' e0 (.tup []) = H2 at s2 p2 ⊢
    rw [eqv_unit]
    cases rs with
    | nil => exact iteT (bad _ _ mr (ok_tup0 r_not drn rfl) s2)
    | cons x0 r =>
    refine iteF ?_
    obtain ⟨ar, vs, rfl, hsr, hvs⟩ := Dp.tupD p2
    have hvl : vs.length = r.length + 1 := dps_len hvs
    cases hvs with
    | @cons u us _ _ hu hus =>
    refine ⟨_, rfl, ar, _, 0, u, rfl, rfl, hsr, at0, _, x0, rfl, hu, _, rfl, ?_⟩
    cases hx0 : isS x0 with
    | false =>
      refine iteT (bad _ _ mr (ok_tup0 r_not drn ?_) s2)
      cases x0 with
      | str _ => cases hx0
      | _ => rfl
    | true =>
    refine iteF ?_
    obtain ⟨w, rfl⟩ : ∃ w, x0 = .str w := by
      cases x0 with
      | str w => exact ⟨w, rfl⟩
      | _ => cases hx0
    cases hu
    -- form
    refine fun p np => ⟨upd_same, frmD frm1, rfl, by decide, ?_⟩
    rw [upd_upd, frm_m1]
    refine ⟨_, rfl, .inr (.inr (.inl ⟨rfl, .inl ⟨_, upd_same⟩⟩)), fun pz npz => ⟨upd_same, frmD frm2, rfl, by decide, ?_⟩⟩
    rw [upd_upd, frm_m2]
    have npz2 : p ≠ pz := fun e => by rw [← e, upd_same] at npz; cases npz
    refine ⟨p, pz, frmD frm1, frmD frm2, rfl, rfl, npz2, by rw [upd_ne npz2]; exact upd_same, upd_same, by decide, ?_⟩
    rw [frm_m3]
    have s3' : Same H2 (upd (upd (upd H2 p (.dK (frmD frm1))) pz (.dK (frmD frm2))) p (.dK (frmD (frm1 ++ frm2)))) := by
      refine same_over (Same.trans (same_new np _) (same_new npz _)) np
    have hp3 : (upd (upd (upd H2 p (.dK (frmD frm1))) pz (.dK (frmD frm2))) p (.dK (frmD (frm1 ++ frm2)))) p = some (.dK (frmD (frm1 ++ frm2))) := upd_same
    generalize upd (upd (upd H2 p (.dK (frmD frm1))) pz (.dK (frmD frm2))) p (.dK (frmD (frm1 ++ frm2))) = H3 at s3' hp3 ⊢
    have s3 := s2.trans s3'
    have hsr3 := (Kept.of s3').sqT hsr
    have hus3 := same_dps s3' hus
    -- marks
    refine ⟨_, rfl, p, rfl, .inl ⟨_, .inl hp3⟩, _, rfl, ar, _, 0, _, rfl, rfl, hsr3, at0, _, DGet.k (k := .inr w) hp3, ?_⟩
    rw [frm_val, frm_row]
    cases hsh : shape .row w with
    | none =>
      refine ⟨_, rfl, rfl, true, by decide +kernel, iteT (bad _ _ mr (ok_tup0 r_not drn ?_) s3)⟩
      simp only [partsW]
      rw [hsh]
    | some sh =>
    obtain ⟨shn, sh3, shs⟩ := row_shape hsh
    have hmk : (marksOf sh).length = sh.length := by
      show (sh.map mkC).toArray.size = sh.length
      simp
    have hok := ok_tup r_not drn hsh
    refine ⟨_, rfl, rfl, false, ?_, iteF ?_⟩
    · refine congrArg V.bl (decide_eq_false fun e => shn ?_)
      have e2 : marksOf sh = Str.ofString "" := V.str.inj e
      have : (marksOf sh).length = 0 := by rw [e2]; rfl
      exact List.eq_nil_of_length_eq_zero (by omega)
    refine ⟨_, rfl, ar, _, rfl, .inr hsr3, _, rfl, marksOf sh, rfl, Nat.le_of_lt (smallM (by omega)), _, _, rfl, rfl, rfl, _, rfl, ?_⟩
    rw [hvl, hmk]
    refine ite2 (fun e => ?_) (fun e => ?_)
    · refine bad _ _ mr ?_ s3
      have e2 : ¬ V.int ((r.length + 1 : Nat) : Int) = V.int ((sh.length : Int) + 1) := by simpa using e
      rw [hok, decide_eq_false (fun e3 => e2 (by rw [e3]; rfl))]
      rfl
    have hsl : sh.length = r.length := by
      have e2 : V.int ((r.length + 1 : Nat) : Int) = V.int ((sh.length : Int) + 1) := by
        by_cases e3 : V.int ((r.length + 1 : Nat) : Int) = V.int ((sh.length : Int) + 1)
        · exact e3
        · exact absurd (by rw [decide_eq_false e3]; rfl) e
      have := V.int.inj e2
      omega
    rw [decide_eq_true hsl, Bool.true_and] at hok
    clear e
    -- zip(marks, row[1:])
    have p3 : Dp K H3 (.ref ar) (.tuple (.str w :: r)) := same_dp s3' p2
    refine ⟨_, rfl, _, rfl, _, rfl, ?_⟩
    unfold tNoPart
    refine cut_dat p3 (some 1) none fun tv H4 s4 d4 => ?_
    have hcut : cutD (PyData.str w :: r) (some 1) none = r := by
      simp [cutD, HT.sIx]
    rw [show cutD (PyData.str w :: r) (some 1) none = r from hcut] at d4
    obtain ⟨t4, ws, rfl, ht4, hws⟩ := Dp.tupD d4
    have hwl := dps_len hws
    have s4' := s3.trans s4
    refine ⟨marksOf sh, t4, ws, rfl, ht4, ?_⟩
    refine for_zipST (by rw [hwl, ← hsl]; exact hmk) (PvZ H4 (.ref a) _ _ _ (j + 1 + 1) (sh.zip r)) ⟨_, _, rfl, Same.refl H4, rfl⟩ (fun i σ H' ⟨_, _, _, e, _⟩ => (Kept.of e).sqT ht4) ?_ ?_
    · rintro k c y T σ H5 hc hy ⟨z4, z5, rfl, s5, hall5⟩ nT
      obtain ⟨yd, hyd, hpy⟩ := dps_getV hws hy
      have hks : k < sh.length := by
        have := (List.getElem?_eq_some_iff.mp hyd).1
        omega
      have hsk : sh[k]? = some sh[k] := List.getElem?_eq_getElem hks
      have hcs : c = mkC sh[k] := by
        have e : (marksOf sh).cps[k]? = some (mkC sh[k]) := by
          show (sh.map mkC).toArray[k]? = _
          rw [List.getElem?_toArray, List.getElem?_map, hsk]; rfl
        rw [e] at hc
        cases hc; rfl
      have hsm := shs sh[k] (List.getElem_mem hks)
      generalize hsv : sh[k] = sk at hsk hcs hsm
      have hz : (sh.zip r)[k]? = some (sk, yd) := by
        rw [List.getElem?_zip_eq_some]
        exact ⟨hsk, hyd⟩
      have mz := List.mem_of_getElem? hz
      obtain ⟨j2, rfl⟩ : ∃ j2, j = j2 + 1 := by
        cases j with
        | zero => have := fr.dep; simp only [PyData.depth] at this; omega
        | succ j2 => exact ⟨j2, rfl⟩
      have fy : Fit j2 1000000 yd := fr.item (List.mem_cons_of_mem _ (List.mem_of_getElem? hyd))
      have s6 := s5.trans (same_new (H := H5) nT (.tup [.str ⟨#[c]⟩, y]))
      have p6 := same_dp s6 hpy
      have no : ∀ H7, Same (upd H5 T (.tup [.str ⟨#[c]⟩, y])) H7 → ok (j2 + 1 + 1 + 1) sk yd = false → Q (.bl false) H7 := fun H7 s7 hk => by
        refine bad _ _ mr ?_ (s4'.trans (s6.trans s7))
        rw [hok]
        cases hz2 : (sh.zip r).all fun p => ok (j2 + 1 + 1 + 1) p.1 p.2 with
        | false => rfl
        | true =>
          have := List.all_eq_true.mp hz2 _ mz
          rw [hk] at this; cases this
      have yes : ok (j2 + 1 + 1 + 1) sk yd = true → (((sh.zip r).take (k + 1)).all fun p => ok (j2 + 1 + 1 + 1) p.1 p.2) = true := fun hk => by
        rw [List.take_add_one, hz, List.all_append, hall5]
        simp [hk]
      refine ⟨T, _, rfl, SqT.of upd_same, rfl, _, _, rfl, _, _, rfl, rfl, ?_⟩
      subst hcs
      rcases hsm with rfl | rfl | ⟨hl, hnv⟩
      · refine ⟨_, rfl, rfl, false, by decide +kernel, iteF ?_⟩
        refine ⟨_, rfl, rfl, true, by decide +kernel, iteT ?_⟩
        refine ⟨_, rfl, y, yd, rfl, p6, fy.mono (by omega) (Nat.le_refl _), hn, fun H7 s7 => ⟨_, rfl, ?_⟩⟩
        exact ite2 (fun e => no H7 s7 (by simpa using e)) (fun e => ⟨_, _, rfl, s6.trans s7, yes (by simpa using e)⟩)
      · refine ⟨_, rfl, rfl, false, by decide +kernel, iteF ?_⟩
        refine ⟨_, rfl, rfl, false, by decide +kernel, iteF ?_⟩
        refine ⟨_, rfl, _, rfl, y, yd, rfl, p6, fy.mono (by omega) (Nat.le_refl _), by omega, fun H7 s7 => ⟨_, rfl, ?_⟩⟩
        rw [show ok (j2 + 1 + 1) .body yd = ok (j2 + 1 + 1 + 1) .body yd from ok_stable _ _ _ _ (by have := fy.dep; omega) (by have := fy.dep; omega)]
        exact ite2 (fun e => no H7 s7 (by simpa using e)) (fun e => ⟨_, _, rfl, s6.trans s7, yes (by simpa using e)⟩)
      · have hm : mkC sk = 110 := by cases sk <;> first | rfl | cases hl
        rw [hm] at s6 p6 no ⊢
        refine ⟨_, rfl, rfl, true, by decide +kernel, iteT ?_⟩
        refine ⟨_, rfl, y, yd, rfl, p6, fy.lay, fy.siz, fun H7 s7 => ⟨_, rfl, ?_⟩⟩
        rw [← ok_name' (n := j2 + 1 + 1 + 1) (s := sk) (by omega) hl hnv]
        exact ite2 (fun e => no H7 s7 (by simpa using e)) (fun e => ⟨_, _, rfl, s6.trans s7, yes (by simpa using e)⟩)
    · rintro σ H5 ⟨z4, z5, rfl, s5, hall5⟩
      refine ⟨_, _, _, _, _, rfl, s4'.trans s5, ?_⟩
      rw [List.take_add_one, hrd, List.all_append, hall]
      have e1 : (sh.zip r).length = ws.length := by rw [List.length_zip, hwl]; omega
      rw [← e1, List.take_length] at hall5
      simp [hok, hall5]
  · rintro σ H1 ⟨y1, y2, y3, y4, y5, rfl, s1, hall⟩
    refine bl_to (q H1 s1) ?_
    rw [hlen, List.take_length] at hall
    exact hall.symm
theorem does_all (F : Fun K "_law_does" "_law_does" sDoes f fd) (B : Bl mg)
    (GN : FnOk P w K mg base CX0 1 g gd ["_law_part"] (spLN K)) (bN : Binds K gd ["_law_part"] []) (kN : PySem.W.keepIn K (.ref g) = true) (mN : mg "_law_named" = some (.ref g))
    (GS : ∀ n, FnOk P w K mg base CX0 (n + 2) h hd ["_law_part"] (spLS K n)) (bS : Binds K hd ["_law_part"] []) (kS : PySem.W.keepIn K (.ref h) = true) (mS : mg "_law_says" = some (.ref h))
    (bD : Binds K fd ["_law_part"] []) (mD : mg "_law_does" = some (.ref f)) : ∀ n : Nat, FnOk P w K mg base CX0 (n + 3) f fd ["_law_part"] (spLD K n)
  | 0 => ok_does F B GN bN kN mN (GS 0) bS kS mS ⟨fun vs H Q E h => (by obtain ⟨j, e, _⟩ := h; cases e), fun A outer s H args us vs Q E _ _ _ _ h => (by obtain ⟨j, e, _⟩ := h; cases e)⟩ bD mD
  | n + 1 => ok_does F B GN bN kN mN (GS (n + 1)) bS kS mS ((does_all F B GN bN kN mN GS bS kS mS bD mD n).imp fun vs H Q E ⟨j, e, h⟩ => (by cases e; exact h)) bD mD
end
end B1

set_option maxRecDepth 100000
set_option maxHeartbeats 4000000
namespace B1
open PySem PySem.Spec PyProof.Rows L2
/-! ### a text many times -/
section
variable {X : Cx} {p1 p2 pos : Pos} {j1 j2 : Nat}
def rMulS : R2 := fun x y H Q => ∃ (z : Str) (n : Int), x = .str z ∧ y = .int n ∧ MulOk z n ∧ Q (.str (Txt.mul z n)) H
theorem op_mulS : OpR X (binaryOp .Mult) rMulS := by
  intro pins s σ H x y v u Q I rx ry h
  obtain ⟨z, n, rfl, rfl, hok, q⟩ := h
  obtain ⟨t, rfl⟩ := rx
  obtain ⟨t2, rfl⟩ := ry
  exact SB.mul hok fun t' k => ⟨.str _, H, I.tok k, ⟨t', rfl⟩, q⟩
theorem de_rep {x y : Str} {n : Int} (hok : MulOk x n) (e : Txt.mul x n = y) : PE X (.BinOp (.Constant (.str x) j1 p1) .Mult (.Constant (.int n) j2 p2) pos) (tDat X.K [] fun _ => .str y) :=
  pe_less (pe_op op_mulS pe_str pe_int) fun σ H Q ⟨ρ, _, k⟩ => ⟨x, n, rfl, rfl, hok, by rw [e]; exact k _ H (Same.refl H) (.str y)⟩
end
def x41 : Str := ⟨(List.replicate 41 120).toArray⟩
theorem x41_ok : MulOk "x" 41 := by unfold MulOk; decide +kernel
theorem x41_eq : Txt.mul "x" 41 = x41 := by decide +kernel
/-! ### the odd things -/
def odd1 : List PyData := [.int 3, .none, .str "x", .tuple [], .tuple [.str "self"], .list [], .tuple [.str "do"], .tuple [.str "let", .str "X", .tuple [.str "self"]], .tuple [.str "value", .str x41], .tuple [.str "value", .tuple [.int 1]]]
def odd2 : List PyData := [.tuple [.str "new", .str ""], .tuple [.str "ask", .tuple [.str "self"], .str "p", .tuple [.str "self"]], .tuple [.str "same", .tuple [.str "self"]], .tuple [.str "field", .str "a", .str "b"]]
def odd3 : List PyData := [.tuple [.str "value", .int (-2)], .tuple [.str "elder", .str "X", .tuple []], .tuple [.str "self", .int 1], .tuple [.str "elder", .str "p", .tuple [.int 1]], .tuple [.str "ask", .tuple [.str "self"], .str "", .tuple []]]
def oddL : List PyData := odd1 ++ odd2 ++ odd3
theorem odd_all : (oddL.all fun d => d.canLay0 && decide (d.depth ≤ 2) && decide (sz d ≤ 60)) = true := by decide +kernel
theorem odd_fit {d : PyData} (h : d ∈ oddL) : Fit 2 60 d := by
  have := List.all_eq_true.mp odd_all d h
  simp only [Bool.and_eq_true, decide_eq_true_eq] at this
  exact ⟨this.1.1, this.1.2, this.2⟩
def row1 (o : PyData) : List PyData := [o, .tuple [.str "do", o], .tuple [.str "let", .str "i", o], .tuple [.str "put", o, .tuple [.str "self"]], .tuple [.str "when", .tuple [.str "self"], o, .tuple []]]
def row2 (o u : PyData) : List PyData := [.tuple [.str "try", .tuple [], o, .tuple []], .tuple [.str "while", o, .tuple [u]], .tuple [.str "give", .tuple [.str "add", o, .tuple [.str "self"]]]]
def row3 (o u : PyData) : PyData := .tuple [.str "do", .tuple [.str "ask", o, .str "p", .tuple [u]]]
def rowL (o u : PyData) : List PyData := row1 o ++ row2 o u ++ [row3 o u]
theorem sz_str (x : Str) : sz (.str x) = x.length + 1 := rfl
theorem row_fit {o u d : PyData} (ho : Fit 2 60 o) (hu : Fit 2 60 u) (h : d ∈ rowL o u) : Fit 5 300 d := by
  obtain ⟨a1, a2, a3⟩ := ho
  obtain ⟨b1, b2, b3⟩ := hu
  have l1 : (Str.ofString "do").length = 2 := by decide +kernel
  have l2 : (Str.ofString "let").length = 3 := by decide +kernel
  have l3 : (Str.ofString "i").length = 1 := by decide +kernel
  have l4 : (Str.ofString "put").length = 3 := by decide +kernel
  have l5 : (Str.ofString "self").length = 4 := by decide +kernel
  have l6 : (Str.ofString "when").length = 4 := by decide +kernel
  have l7 : (Str.ofString "try").length = 3 := by decide +kernel
  have l8 : (Str.ofString "while").length = 5 := by decide +kernel
  have l9 : (Str.ofString "give").length = 4 := by decide +kernel
  have l10 : (Str.ofString "add").length = 3 := by decide +kernel
  have l11 : (Str.ofString "ask").length = 3 := by decide +kernel
  have l12 : (Str.ofString "p").length = 1 := by decide +kernel
  have k1 : PyData.strOk (Str.ofString "do") = true := by decide +kernel
  have k2 : PyData.strOk (Str.ofString "let") = true := by decide +kernel
  have k3 : PyData.strOk (Str.ofString "i") = true := by decide +kernel
  have k4 : PyData.strOk (Str.ofString "put") = true := by decide +kernel
  have k5 : PyData.strOk (Str.ofString "self") = true := by decide +kernel
  have k6 : PyData.strOk (Str.ofString "when") = true := by decide +kernel
  have k7 : PyData.strOk (Str.ofString "try") = true := by decide +kernel
  have k8 : PyData.strOk (Str.ofString "while") = true := by decide +kernel
  have k9 : PyData.strOk (Str.ofString "give") = true := by decide +kernel
  have k10 : PyData.strOk (Str.ofString "add") = true := by decide +kernel
  have k11 : PyData.strOk (Str.ofString "ask") = true := by decide +kernel
  have k12 : PyData.strOk (Str.ofString "p") = true := by decide +kernel
  simp only [rowL, row1, row2, row3, List.cons_append, List.nil_append, List.mem_cons, List.not_mem_nil, or_false] at h
  rcases h with rfl | rfl | rfl | rfl | rfl | rfl | rfl | rfl | rfl
  · exact ⟨a1, by omega, by omega⟩
  all_goals
    refine ⟨?_, ?_, ?_⟩
    · simp only [PyData.canLay0, PyData.canLayAll0, a1, b1, k1, k2, k3, k4, k5, k6, k7, k8, k9, k10, k11, k12, Bool.and_self, Bool.and_true]
    · simp only [PyData.depth, PyData.depthAll]; omega
    · simp only [sz, szAll, l1, l2, l3, l4, l5, l6, l7, l8, l9, l10, l11, l12]; omega
/-! ### the rows and sayings: small, told by their heads -/
theorem pts_fit : ∀ (n m : Nat) (d : PyData), Fit n m d → ∀ p ∈ pts d, Fit n m p
  | n, m, .tuple ds, h, p, hp => by
    cases n with
    | zero => have := h.dep; simp only [PyData.depth] at this; omega
    | succ n =>
      simp only [pts, List.mem_cons] at hp
      rcases hp with rfl | hp
      · exact h
      · split at hp
        · cases hp
        · obtain ⟨e, he, hp⟩ := mem_ptsAll.mp hp
          exact (pts_fit n m e (h.item he) p hp).mono (by omega) (Nat.le_refl _)
  | _, _, .list _, _, p, hp => by simp [pts] at hp
  | _, _, .dict _, _, p, hp => by simp [pts] at hp
  | _, _, .none, _, p, hp => by simp [pts] at hp
  | _, _, .bool _, _, p, hp => by simp [pts] at hp
  | _, _, .int _, _, p, hp => by simp [pts] at hp
  | _, _, .str _, _, p, hp => by simp [pts] at hp
theorem fit_take {n m i : Nat} {ds : List PyData} (h : Fit n m (.tuple ds)) : Fit n m (.tuple (ds.take i)) := by
  cases n with
  | zero => have := h.dep; simp only [PyData.depth] at this; omega
  | succ n =>
    refine Fit.tup (fun d hd => ?_) ?_
    · have := h.item (List.mem_of_mem_take hd)
      exact ⟨this.lay, this.dep⟩
    · have h2 : szAll (ds.take i) + szAll (ds.drop i) = szAll ds := by rw [← szAll_append, List.take_append_drop]
      have := h.siz
      simp only [sz] at this
      omega
theorem cut1h (ds : List PyData) : cutD ds none (some 1) = ds.take 1 := by
  cases ds with
  | nil => rfl
  | cons d ds => simp [cutD, HT.sIx]
theorem eqv_hd (ds : List PyData) (w : Str) : PyData.eqv (.tuple (ds.take 1)) (.tuple [.str w]) = decide (hd? (.tuple ds) = some w) := by
  cases ds with
  | nil => simp [PyData.eqv, PyData.eqvAll, hd?]
  | cons d ds =>
    cases d <;> simp [PyData.eqv, PyData.eqvAll, hd?]
    rfl
theorem strs_of {f : PyData → Option PyData} : ∀ {ps : List PyData}, (∀ p ∈ ps, ∀ y, f p = some y → ∃ x, y = .str x) → ∃ xs : List Str, ps.filterMap f = xs.map PyData.str ∧ ∀ x, x ∈ xs ↔ ∃ p ∈ ps, f p = some (.str x)
  | [], _ => ⟨[], rfl, fun x => by simp⟩
  | p :: ps, h => by
    obtain ⟨xs, e, hm⟩ := strs_of (ps := ps) fun q hq => h q (List.mem_cons_of_mem _ hq)
    cases hp : f p with
    | none =>
      refine ⟨xs, by rw [List.filterMap_cons, hp]; exact e, fun x => ?_⟩
      rw [hm x]
      constructor
      · rintro ⟨q, h1, h2⟩; exact ⟨q, List.mem_cons_of_mem _ h1, h2⟩
      · rintro ⟨q, h1, h2⟩
        rcases List.mem_cons.mp h1 with rfl | h1
        · rw [hp] at h2; cases h2
        · exact ⟨q, h1, h2⟩
    | some y =>
      obtain ⟨x0, rfl⟩ := h p List.mem_cons_self y hp
      refine ⟨x0 :: xs, by rw [List.filterMap_cons, hp, e]; rfl, fun x => ?_⟩
      rw [List.mem_cons, hm x]
      constructor
      · rintro (rfl | ⟨q, h1, h2⟩)
        · exact ⟨p, List.mem_cons_self, hp⟩
        · exact ⟨q, List.mem_cons_of_mem _ h1, h2⟩
      · rintro ⟨q, h1, h2⟩
        rcases List.mem_cons.mp h1 with rfl | h1
        · rw [hp] at h2; cases h2; exact .inl rfl
        · exact .inr ⟨q, h1, h2⟩
theorem dps_str_inv {K : PySem.W.Frag} {H : Hp} : ∀ {xs : List Str} {vs : List V}, DpAll K H vs (xs.map PyData.str) → vs = xs.map V.str
  | [], _, h => by cases h; rfl
  | x :: xs, _, h => by
    cases h with
    | cons h1 h2 =>
      cases h1
      rw [dps_str_inv h2]
      rfl
theorem dps_str_mk {K : PySem.W.Frag} {H : Hp} : ∀ xs : List Str, DpAll K H (xs.map V.str) (xs.map PyData.str)
  | [] => .nil
  | _ :: xs => .cons (.str _) (dps_str_mk xs)
theorem u4_ok : (U4.all fun x => PyData.strOk x) = true := by decide +kernel
theorem strs_fit {xs : List Str} (h : ∀ x ∈ xs, x ∈ U4) : SeqAt.shaped (.tuple (xs.map PyData.str)) = true := by
  unfold SeqAt.shaped
  have h1 : (PyData.tuple (xs.map PyData.str)).canLay0 = true := by
    simp only [PyData.canLay0]
    refine layAll fun d hd => ?_
    obtain ⟨x, hx, rfl⟩ := List.mem_map.mp hd
    simp only [PyData.canLay0]
    exact List.all_eq_true.mp u4_ok x (h x hx)
  have h2 : (PyData.tuple (xs.map PyData.str)).depth ≤ 64 := by
    simp only [PyData.depth]
    have := depAll_le (n := 0) (xs := xs.map PyData.str) fun d hd => by
      obtain ⟨x, hx, rfl⟩ := List.mem_map.mp hd
      simp only [PyData.depth]
      exact Nat.le_refl _
    omega
  rw [h1, decide_eq_true h2]
  rfl
theorem strs_eqv {xs : List Str} (h : ∀ x ∈ xs, x ∈ U4) : PyData.eqv (.tuple (xs.map PyData.str)) (.tuple (xs.map PyData.str)) = true := by
  have := strs_fit h
  exact SeqAt.eqv_refl _ (SeqAt.canLay_of_shaped this)
end B1

set_option maxRecDepth 100000
set_option maxHeartbeats 4000000
namespace B1
open PySem PySem.Spec PyProof.Rows L2
abbrev sLaw : Stmt := top 30
abbrev nLaw : List Str := ["_law_script", "_law_town", "_law_odd", "_law_k", "_law_body", "_law_parts_here", "_law_due", "_law_asks", "_law_j", "_law_one", "_law_other", "_law_row", "_law_thing", "_law_part"]
theorem scLaw : FnScope ["_law_script", "_law_town", "_law_odd", "_law_k", "_law_body", "_law_parts_here", "_law_due", "_law_asks", "_law_j", "_law_one", "_law_other", "_law_row", "_law_thing", "_law_part"] ["_law_script"] (defScope sLaw) := ⟨rfl, rfl, rfl, by decide +kernel, rfl, by decide +kernel, by decide +kernel⟩
def spLaw (K : PySem.W.Frag) : Sp := fun vs H Q _ => ∃ a : Addr, vs = [.ref a] ∧ Scr K H a ∧ ∀ H', Q (.bl true) H'
/-- what stands all along -/
structure LawI (K : PySem.W.Frag) (H : Hp) (a t lo : Addr) : Prop where
  scr : Scr K H a
  town : Town H t
  odd : ∃ vs, H lo = some (.lst vs) ∧ DpAll K H vs oddL
theorem LawI.kept {K : PySem.W.Frag} {H H' : Hp} {a t lo : Addr} (L : LawI K H a t lo) (k : Kept H H') (h : Town H' t) : LawI K H' a t lo := by
  obtain ⟨vs, h1, h2⟩ := L.odd
  exact ⟨L.scr.kept k, h, vs, k _ _ h1 (fun _ q => nomatch q), k.dps h2⟩
theorem LawI.same {K : PySem.W.Frag} {H H' : Hp} {a t lo : Addr} (L : LawI K H a t lo) (k : Same H H') : LawI K H' a t lo := L.kept (Kept.of k) (L.town.same k)
theorem LawI.dat {K : PySem.W.Frag} {H : Hp} {a t lo : Addr} (L : LawI K H a t lo) : Dp K H (.ref lo) (.list oddL) := by
  obtain ⟨vs, h1, h2⟩ := L.odd
  exact .lst (SqL.of h1) h2
def PvA (K : PySem.W.Frag) (a t lo : Addr) : Nat → L2.St → Hp → Prop := fun _ σ H' => ∃ y3 y4 y5 y6 y7 y8 y9 y10 y11 y12 y13 : Option V, σ = [some (.ref a), some (.ref t), some (.ref lo), y3, y4, y5, y6, y7, y8, y9, y10, y11, y12, y13] ∧ LawI K H' a t lo
def PvJ (K : PySem.W.Frag) (a t lo : Addr) (bv : V) (bd : PyData) : Nat → L2.St → Hp → Prop := fun _ σ H' => ∃ y3 y5 y6 y7 y8 y9 y10 y11 y12 y13 : Option V, σ = [some (.ref a), some (.ref t), some (.ref lo), y3, some bv, y5, y6, y7, y8, y9, y10, y11, y12, y13] ∧ LawI K H' a t lo ∧ Dp K H' bv bd
def tHt (K : PySem.W.Frag) (w : Str) : TT := tTest (tOp (rEqD K) (L2.tSl (rSlA K) (tVar 13) tNoPart (tPart (tC (.int 1)))) (tTup (tCons (tC (.str w)) tNil)))
def tHe (K : PySem.W.Frag) (ix : Int) : TE := tOp (rIxT K) (tVar 13) (tC (.int ix))
theorem lc_heads {K : PySem.W.Frag} {H : Hp} {pl : Addr} {xs : List V} {ps : List PyData} {w : Str} {ix : Nat} {x0 x1 x2 x3 x4 x6 x7 x8 x9 x10 x11 x12 x13 : Option V}
    (hp : H pl = some (.lst xs)) (hd : DpAll K H xs ps) (hf : ∀ p ∈ ps, Fit 11 1000000 p) (hl : ps.length ≤ 1000000) (hw : PyData.strOk w = true)
    (hh : ∀ p ∈ ps, (∃ ds, p = .tuple ds) ∧ (hd? p = some w → ∃ x, (if hd? p = some w then at? ix p else none) = some (.str x)))
    {D : Addr} (nD : H D = none) {Qd : Hp → Prop} (q : ∀ (zs : List Str) (H' : Hp), Same H H' → H' D = some (.lst (zs.map V.str)) → zs.length ≤ ps.length → (∀ x, x ∈ zs ↔ ∃ p ∈ ps, (if hd? p = some w then at? ix p else none) = some (.str x)) → Qd H') {σ : L2.St} (hσ : σ = [x0, x1, x2, x3, x4, some (.ref pl), x6, x7, x8, x9, x10, x11, x12, x13]) :
    ∃ W : Nat → Nat → Hp → Prop, (∃ m, W 0 m (upd H D (.lst []))) ∧ ∀ i m H, W i m H →
      ((Itl K pl).stop i H ∧ Qd H) ∨ ((Itl K pl).go i H ∧ ∃ Nx : Hp → Prop, (∀ H', Nx H' → ∃ m', m' < m ∧ W (i + 1) m' H') ∧ ∀ x H', (Itl K pl).yld i H x H' → gName 13 x (wipe σ [13]) H' fun σ2 H2 => wipe σ2 [13] = wipe σ [13] ∧ tHt K w σ2 H2 fun b H3 =>
        if b = true then tHe K (ix : Int) σ2 H3 fun y H4 => ∃ acc, H4 D = some (.lst acc) ∧ acc.length < sizeLine ∧ Nx (upd H4 D (.lst (acc ++ [y]))) else Nx H3) := by
  subst hσ
  have hlen := dps_len hd
  refine lc_it (walk_list (xs := xs)) (PvD K H D ps fun p => if hd? p = some w then at? ix p else none) (.start nD) (fun i H' _ h' => (Kept.of (h'.same nD)).sqL (SqL.of hp)) ?_ ?_
  · rintro i v H8 H8' hi h8 ⟨rfl, hy⟩
    obtain ⟨d, hdi, hpd⟩ := dps_getV hd hy
    have md := List.mem_of_getElem? hdi
    obtain ⟨⟨ds, rfl⟩, hh2⟩ := hh d md
    have s8 := h8.same nD
    refine ⟨rfl, _, rfl, ?_⟩
    unfold tNoPart
    refine ⟨1, rfl, ?_⟩
    refine cut_dat (same_dp s8 hpd) none (some 1) fun u H9 s9 d9 => ?_
    rw [cut1h] at d9
    refine ⟨by show 1 ≤ sizeLine; decide, fun p np => ?_⟩
    have s10 := same_new (H := H9) np (.tup [.str w])
    have shw : SeqAt.shaped (.tuple [.str w]) = true := by
      unfold SeqAt.shaped
      simp only [PyData.canLay0, PyData.canLayAll0, PyData.depth, PyData.depthAll, hw]
      rfl
    refine ⟨.tuple (ds.take 1), .tuple [.str w], same_dp s10 d9, .tup (SqT.of upd_same) (.cons (.str _) .nil), (fit_take (hf _ md)).shaped (by decide), shw, _, rfl, ?_⟩
    rw [eqv_hd]
    refine ite2 (fun e => ?_) (fun e => ?_)
    · have e1 := of_decide_eq_true e
      obtain ⟨x, hx⟩ := hh2 e1
      have hx' := hx
      rw [if_pos e1] at hx'
      have hat : atI ds ((ix : Nat) : Int) = some (.str x) := atI_nat hx'
      obtain ⟨a', zs, u', ea, hs', hu', du'⟩ := ixd (same_dp (s8.trans (s9.trans s10)) hpd) hat
      cases du'
      subst ea
      exact ⟨_, rfl, a', zs, _, _, rfl, rfl, hs', hu', h8.yes nD hl hdi hx (s9.trans s10) (.str x)⟩
    · have e1 := of_decide_eq_false (Bool.eq_false_iff.mpr e)
      exact h8.no nD hdi (if_neg e1) (s9.trans s10)
  · intro H8 h8
    rw [hlen] at h8
    obtain ⟨s8, vs, hD, hvs⟩ := h8.fin nD
    obtain ⟨zs, ez, hz⟩ := strs_of (f := fun p => if hd? p = some w then at? ix p else none) (ps := ps) fun p hp' y hy => by
      by_cases e : hd? p = some w
      · obtain ⟨x, hx⟩ := (hh p hp').2 e
        have : some y = some (PyData.str x) := hy.symm.trans hx
        exact ⟨x, Option.some.inj this⟩
      · rw [if_neg e] at hy; cases hy
    rw [ez] at hvs
    have ev := dps_str_inv hvs
    subst ev
    refine q zs H8 s8 hD ?_ hz
    have h3 := List.length_filterMap_le (fun p => if hd? p = some w then at? ix p else none) ps
    rw [ez, List.length_map] at h3
    exact h3
section
variable {K : PySem.W.Frag} {P : Program} {w : World} {mg : Str → Option Value} {base : Heap} {f fDr fBe fIs fAB fLP fDo fBo fKi fAs : Addr} {fd dDr dBe dIs dAB dLP dDo dBo dKi dAs : FuncData}
theorem ok_law (F : Fun K "law" "law" sLaw f fd) (B : Bl mg)
    (GDr : FnOk P w K mg base CX0 1 fDr dDr ["_law_script", "_law_town", "_law_many"] (spDraw K)) (bDr : Binds K dDr ["_law_script", "_law_town", "_law_many"] []) (kDr : PySem.W.keepIn K (.ref fDr) = true) (mDr : mg "_law_draw" = some (.ref fDr))
    (GBe : FnOk P w K mg base CX0 1 fBe dBe [] spBegun) (bBe : Binds K dBe [] []) (kBe : PySem.W.keepIn K (.ref fBe) = true) (mBe : mg "_law_begun" = some (.ref fBe))
    (GIs : FnOk P w K mg base CX0 1 fIs dIs ["_law_told", "_law_due"] spIs) (bIs : Binds K dIs ["_law_told", "_law_due"] []) (kIs : PySem.W.keepIn K (.ref fIs) = true) (mIs : mg "_law_is" = some (.ref fIs))
    (GAB : FnOk P w K mg base CX0 7 fAB dAB ["_law_script", "_law_town", "_law_deep"] (spAB K 2)) (bAB : Binds K dAB ["_law_script", "_law_town", "_law_deep"] []) (kAB : PySem.W.keepIn K (.ref fAB) = true) (mAB : mg "_law_a_body" = some (.ref fAB))
    (GLP : FnOk P w K mg base CX0 12 fLP dLP ["_law_part"] (spLP K 11)) (bLP : Binds K dLP ["_law_part"] []) (kLP : PySem.W.keepIn K (.ref fLP) = true) (mLP : mg "_law_parts" = some (.ref fLP))
    (GDo : FnOk P w K mg base CX0 15 fDo dDo ["_law_part"] (spLD K 12)) (bDo : Binds K dDo ["_law_part"] []) (kDo : PySem.W.keepIn K (.ref fDo) = true) (mDo : mg "_law_does" = some (.ref fDo))
    (GBo : FnOk P w K mg base CX0 5 fBo dBo ["thing"] (spBody K)) (bBo : Binds K dBo ["thing"] []) (kBo : PySem.W.keepIn K (.ref fBo) = true) (mBo : mg "is_body" = some (.ref fBo))
    (GKi : FnOk P w K mg base CX0 5 fKi dKi ["body"] (spOf .kind K)) (bKi : Binds K dKi ["body"] []) (kKi : PySem.W.keepIn K (.ref fKi) = true) (mKi : mg "kinds_in" = some (.ref fKi))
    (GAs : FnOk P w K mg base CX0 5 fAs dAs ["body"] (spOf .word K)) (bAs : Binds K dAs ["body"] []) (kAs : PySem.W.keepIn K (.ref fAs) = true) (mAs : mg "asked_in" = some (.ref fAs)) :
    FnOk P w K mg base CX0 16 f fd ["_law_script"] (spLaw K) := by
  refine F.ok scLaw (fun vs H Q E h => ?_) (fun cdv A outer s H vs Q E hr h => ?_)
  · obtain ⟨a, rfl, _⟩ := h
    rfl
  obtain ⟨a, rfl, hS, q⟩ := h
  have h1 := hr.mono (show 1 ≤ 15 by decide)
  have h7 := hr.mono (show 7 ≤ 15 by decide)
  have h12 := hr.mono (show 12 ≤ 15 by decide)
  have h5 := hr.mono (show 5 ≤ 15 by decide)
  have h4 := hr.mono (show 5 ≤ 15 by decide)
  refine ⟨_, pss_cons (ps_set (i := 1) scLaw.nd rfl (.inl rfl) (pe_call0 GBe h1 rfl mBe kBe bBe .nil pass0))
    (pss_cons (ps_set (i := 2) scLaw.nd rfl (.inl rfl) (pe_lst (das_cons de_int (das_cons de_non (das_cons de_str (das_cons (de_tup das_nil (by decide)) (das_cons (de_tup (das_cons de_str das_nil) (by decide)) (das_cons (de_lst das_nil (by decide)) (das_cons (de_tup (das_cons de_str das_nil) (by decide)) (das_cons (de_tup (das_cons de_str (das_cons de_str (das_cons (de_tup (das_cons de_str das_nil) (by decide)) das_nil))) (by decide))
        (das_cons (de_tup (das_cons de_str (das_cons (de_rep x41_ok x41_eq) das_nil)) (by decide)) (das_cons (de_tup (das_cons de_str (das_cons (de_tup (das_cons de_int das_nil) (by decide)) das_nil)) (by decide)) das_nil))))))))))))
    (pss_cons (ps_set (i := 2) scLaw.nd rfl (.inl rfl) (pe_op op_cat (pv 2) (pe_lst (das_cons (de_tup (das_cons de_str (das_cons de_str das_nil)) (by decide)) (das_cons (de_tup (das_cons de_str (das_cons (de_tup (das_cons de_str das_nil) (by decide)) (das_cons de_str (das_cons (de_tup (das_cons de_str das_nil) (by decide)) das_nil)))) (by decide)) (das_cons (de_tup (das_cons de_str (das_cons (de_tup (das_cons de_str das_nil) (by decide)) das_nil)) (by decide)) (das_cons (de_tup (das_cons de_str (das_cons de_str (das_cons de_str das_nil))) (by decide)) das_nil)))))))
    (pss_cons (ps_set (i := 2) scLaw.nd rfl (.inl rfl) (pe_op op_cat (pv 2) (pe_lst (das_cons (de_tup (das_cons de_str (das_cons de_neg das_nil)) (by decide)) (das_cons (de_tup (das_cons de_str (das_cons de_str (das_cons (de_tup das_nil (by decide)) das_nil))) (by decide)) (das_cons (de_tup (das_cons de_str (das_cons de_int das_nil)) (by decide)) (das_cons (de_tup (das_cons de_str (das_cons de_str (das_cons (de_tup (das_cons de_int das_nil) (by decide)) das_nil))) (by decide)) (das_cons (de_tup (das_cons de_str (das_cons (de_tup (das_cons de_str das_nil) (by decide)) (das_cons de_str (das_cons (de_tup das_nil (by decide)) das_nil)))) (by decide)) das_nil))))))))
    (pss_cons (ps_for PassesOwn.never rfl (pi_range1 rfl B.range (pa_cons pe_int pa_nil)) (pg_name (i := 3) scLaw.nd rfl (.inl rfl))
      (pss_cons (ps_set (i := 4) scLaw.nd rfl (.inl rfl) (pe_call GAB h7 rfl mAB kAB bAB .nil pass0 (pa_cons (pv 0) (pa_cons (pv 1) (pa_cons pe_int pa_nil)))))
      (pss_cons (ps_if (PW.pt (pw_or (pt_not (pt_val (pe_call GIs h1 rfl mIs kIs bIs .nil pass0 (pa_cons (pe_call GBo h5 rfl mBo kBo bBo .nil pass0 (pa_cons (pv 4) pa_nil)) (pa_cons pe_bl pa_nil))))) (pw_or1 (pt_val (pe_call GBo h5 rfl mBo kBo bBo .nil pass0 (pa_cons (pe_callTy call_list_of rfl B.list bt_list (pa_cons (pv 4) pa_nil)) pa_nil))))))
        (pss_one (ps_ret pe_bl)) pss_nil)
      (pss_cons (ps_set (i := 5) scLaw.nd rfl (.inl rfl) (pe_call GLP h12 rfl mLP kLP bLP .nil pass0 (pa_cons (pv 4) pa_nil)))
      (pss_cons (ps_set (i := 6) scLaw.nd rfl (.inl rfl) (pe_callB (cr_sortT' rfl) rfl B.sorted bt_sorted (pa_cons (pe_callTy (cr_setT rfl) rfl B.set bt_set (pa_cons
          (pe_lc (own := [("_law_part", 13)]) (g := gName 13) (by rfl) scLaw.nd (pi_list (pv 5)) (blkOk_by (own := [("_law_part", 13)]) (N := nLaw) (sc := defScope sLaw) (by decide +kernel))
            (fun _ _ _ _ _ => pg_name (i := 13) scLaw.nd rfl (Or.inl rfl)) (fun _ _ _ _ _ => pts_one (pt_cmpR (show OpR _ _ (rEqD K) from op_eqD hr.units) (pe_slice (show SlR _ (rSlA K) from sl_tupA) (pv 13) po_none (po_some pe_int)) (pe_tup (pa_cons pe_str pa_nil)) (nomark _))) (fun _ _ _ _ _ => pe_ix (show IxR _ (rIxT K) from ix_tup) (pv 13) pe_int (fun _ _ => rfl))) pa_nil)) pa_nil)))
      (pss_cons (ps_setLc (i := 7) (own := [("_law_part", 13)]) (g := gName 13) (by rfl) scLaw.nd rfl rfl (sw_true rfl rfl rfl (by decide +kernel)) (pi_list (pv 5)) (blkOk_by (own := [("_law_part", 13)]) (N := nLaw) (sc := defScope sLaw) (by decide +kernel))
            (fun _ _ _ _ _ => pg_name (i := 13) scLaw.nd rfl (Or.inl rfl)) (fun _ _ _ _ _ => pts_one (pt_cmpR (show OpR _ _ (rEqD K) from op_eqD hr.units) (pe_slice (show SlR _ (rSlA K) from sl_tupA) (pv 13) po_none (po_some pe_int)) (pe_tup (pa_cons pe_str pa_nil)) (nomark _))) (fun _ _ _ _ _ => pe_ix (show IxR _ (rIxT K) from ix_tup) (pv 13) pe_int (fun _ _ => rfl)))
      (pss_cons (ps_set (i := 7) scLaw.nd rfl (.inl rfl) (pe_op op_cat (pv 7) (pe_lc (own := [("_law_part", 13)]) (g := gName 13) (by rfl) scLaw.nd (pi_list (pv 5)) (blkOk_by (own := [("_law_part", 13)]) (N := nLaw) (sc := defScope sLaw) (by decide +kernel))
            (fun _ _ _ _ _ => pg_name (i := 13) scLaw.nd rfl (Or.inl rfl)) (fun _ _ _ _ _ => pts_one (pt_cmpR (show OpR _ _ (rEqD K) from op_eqD hr.units) (pe_slice (show SlR _ (rSlA K) from sl_tupA) (pv 13) po_none (po_some pe_int)) (pe_tup (pa_cons pe_str pa_nil)) (nomark _))) (fun _ _ _ _ _ => pe_ix (show IxR _ (rIxT K) from ix_tup) (pv 13) pe_int (fun _ _ => rfl)))))
      (pss_cons (ps_if (PW.pt (pw_or (pt_cmpR (op_neD hr.units) (pe_call GKi h4 rfl mKi kKi bKi .nil pass0 (pa_cons (pv 4) pa_nil)) (pe_callTy call_tuple_of rfl B.tuple bt_tuple (pa_cons (pv 6) pa_nil)) (nomark _))
          (pw_or1 (pt_cmpR (op_neD hr.units) (pe_call GAs h4 rfl mAs kAs bAs .nil pass0 (pa_cons (pv 4) pa_nil)) (pe_callTy call_tuple_of rfl B.tuple bt_tuple (pa_cons (pe_callB (cr_sortT' rfl) rfl B.sorted bt_sorted (pa_cons (pe_callTy (cr_setT rfl) rfl B.set bt_set (pa_cons (pv 7) pa_nil)) pa_nil)) pa_nil)) (nomark _)))))
        (pss_one (ps_ret pe_bl)) pss_nil)
      (pss_one (ps_for PassesOwn.never rfl (pi_range1 rfl B.range (pa_cons pe_int pa_nil)) (pg_name (i := 8) scLaw.nd rfl (.inl rfl))
        (pss_cons (ps_par (by rfl) scLaw.nd rfl rfl (by decide) rfl rfl (pa_cons (pe_ix ix_list (pv 2) (pe_call GDr h1 rfl mDr kDr bDr .nil pass0 (pa_cons (pv 0) (pa_cons (pv 1) (pa_cons (pe_callB call_len_seq rfl B.len bt_len (pa_cons (pv 2) pa_nil)) pa_nil)))) (fun _ _ => rfl)) (pa_cons (pe_ix ix_list (pv 2) (pe_call GDr h1 rfl mDr kDr bDr .nil pass0 (pa_cons (pv 0) (pa_cons (pv 1) (pa_cons (pe_callB call_len_seq rfl B.len bt_len (pa_cons (pv 2) pa_nil)) pa_nil)))) (fun _ _ => rfl)) pa_nil)) (by rfl) (i := 9) (j := 10))
        (pss_cons (ps_set (i := 11) scLaw.nd rfl (.inl rfl) (pe_lst (das_cons (de_name 9 (pv 9)) (das_cons (de_tup (das_cons de_str (das_cons (de_name 9 (pv 9)) das_nil)) (by decide)) (das_cons (de_tup (das_cons de_str (das_cons de_str (das_cons (de_name 9 (pv 9)) das_nil))) (by decide)) (das_cons (de_tup (das_cons de_str (das_cons (de_name 9 (pv 9)) (das_cons (de_tup (das_cons de_str das_nil) (by decide)) das_nil))) (by decide)) (das_cons (de_tup (das_cons de_str (das_cons (de_tup (das_cons de_str das_nil) (by decide)) (das_cons (de_name 9 (pv 9)) (das_cons (de_tup das_nil (by decide)) das_nil)))) (by decide)) das_nil)))))))
        (pss_cons (ps_set (i := 11) scLaw.nd rfl (.inl rfl) (pe_op op_cat (pv 11) (pe_lst (das_cons (de_tup (das_cons de_str (das_cons (de_tup das_nil (by decide)) (das_cons (de_name 9 (pv 9)) (das_cons (de_tup das_nil (by decide)) das_nil)))) (by decide)) (das_cons (de_tup (das_cons de_str (das_cons (de_name 9 (pv 9)) (das_cons (de_tup (das_cons (de_name 10 (pv 10)) das_nil) (by decide)) das_nil))) (by decide)) (das_cons (de_tup (das_cons de_str (das_cons (de_tup (das_cons de_str (das_cons (de_name 9 (pv 9)) (das_cons (de_tup (das_cons de_str das_nil) (by decide)) das_nil))) (by decide)) das_nil)) (by decide)) das_nil))))))
        (pss_cons (ps_expr (pe_bm PySem.F.plainAttrs_list PySem.F.slot_list_append PySem.F.type_list_append mt_append (pv 11) (pa_cons (pe_tup (pa_cons pe_str (pa_cons (pe_tup (pa_cons pe_str (pa_cons (pv 9) (pa_cons pe_str (pa_cons (pe_tup (pa_cons (pv 10) pa_nil)) pa_nil))))) pa_nil))) pa_nil)))
        (pss_cons (ps_set (i := 12) scLaw.nd rfl (.inl rfl) (pe_op op_catA (pv 4) (pe_tup (pa_cons (pe_ix ix_list (pv 11) (pe_call GDr h1 rfl mDr kDr bDr .nil pass0 (pa_cons (pv 0) (pa_cons (pv 1) (pa_cons pe_int pa_nil)))) (fun _ _ => rfl)) pa_nil))))
        (pss_one (ps_if (pt_not (pt_val (pe_call GIs h1 rfl mIs kIs bIs .nil pass0 (pa_cons (pe_call GBo h5 rfl mBo kBo bBo .nil pass0 (pa_cons (pv 12) pa_nil)) (pa_cons (pe_call GDo hr rfl mDo kDo bDo .nil pass0 (pa_cons (pv 12) pa_nil)) pa_nil))))) (pss_one (ps_ret pe_bl)) pss_nil)))))))))))))))))
    (pss_one (ps_ret (pe_and (pe_call GBo h5 rfl mBo kBo bBo .nil pass0 (pa_cons (de_tup das_nil (by decide)) pa_nil)) (pe_and (pe_not (pe_call GBo h5 rfl mBo kBo bBo .nil pass0 (pa_cons pe_non pa_nil))) (pe_one (pe_not (pe_call GBo h5 rfl mBo kBo bBo .nil pass0 (pa_cons (de_tup (das_cons (de_tup (das_cons de_str (das_cons (de_tup (das_cons de_str das_nil) (by decide)) (das_cons (de_tup (das_cons de_str das_nil) (by decide)) das_nil))) (by decide)) das_nil) (by decide)) pa_nil)))))))))))), ?_⟩
  -- town
  refine ⟨rfl, fun t H1 s1 hT => ?_⟩
  have hS1 := hS.kept (Kept.of s1)
  -- odd
  refine ⟨fun _ => .none, use0, fun vs H2 s2 d2 => ⟨?_, fun p np => ?_⟩⟩
  · rw [dps_len d2]; exact Nat.le_of_lt (smallM (by decide))
  have s3 := same_new (H := H2) np (.lst vs)
  refine ⟨_, rfl, fun _ => .none, use0, fun vs4 H4 s4 d4 => ⟨?_, fun p4 np4 => ?_⟩⟩
  · rw [dps_len d4]; exact Nat.le_of_lt (smallM (by decide))
  have s5 := same_new (H := H4) np4 (.lst vs4)
  refine ⟨p, p4, vs, vs4, rfl, rfl, s5 _ _ (s4 _ _ upd_same), upd_same, ?_, fun p6 np6 => ?_⟩
  · rw [dps_len d2, dps_len d4]; exact Nat.le_of_lt (smallM (by decide))
  have s6 := same_new np6 (.lst (vs ++ vs4))
  have d6 : DpAll K (upd (upd H4 p4 (.lst vs4)) p6 (.lst (vs ++ vs4))) (vs ++ vs4) (odd1 ++ odd2) := dps_append (same_dps (s3.trans (s4.trans (s5.trans s6))) d2) (same_dps (s5.trans s6) d4)
  have S6 := s2.trans (s3.trans (s4.trans (s5.trans s6)))
  have at6 : (upd (upd H4 p4 (.lst vs4)) p6 (.lst (vs ++ vs4))) p6 = some (.lst (vs ++ vs4)) := upd_same
  generalize upd (upd H4 p4 (.lst vs4)) p6 (.lst (vs ++ vs4)) = H6 at d6 S6 at6 ⊢
  clear s6
  refine ⟨_, rfl, fun _ => .none, use0, fun vs7 H7 s7 d7 => ⟨?_, fun p7 np7 => ?_⟩⟩
  · rw [dps_len d7]; exact Nat.le_of_lt (smallM (by decide))
  have s8 := same_new (H := H7) np7 (.lst vs7)
  refine ⟨p6, p7, vs ++ vs4, vs7, rfl, rfl, s8 _ _ (s7 _ _ at6), upd_same, ?_, fun lo nlo => ?_⟩
  · rw [dps_len d6, dps_len d7]; exact Nat.le_of_lt (smallM (by decide))
  have s9 := same_new nlo (.lst ((vs ++ vs4) ++ vs7))
  have d9 : DpAll K (upd (upd H7 p7 (.lst vs7)) lo (.lst ((vs ++ vs4) ++ vs7))) ((vs ++ vs4) ++ vs7) oddL := dps_append (same_dps (s7.trans (s8.trans s9)) d6) (same_dps (s8.trans s9) d7)
  have S9 := S6.trans (s7.trans (s8.trans s9))
  have L0 : LawI K (upd (upd H7 p7 (.lst vs7)) lo (.lst ((vs ++ vs4) ++ vs7))) a t lo := ⟨hS1.kept (Kept.of S9), hT.same S9, _, upd_same, d9⟩
  generalize upd (upd H7 p7 (.lst vs7)) lo (.lst ((vs ++ vs4) ++ vs7)) = H9 at L0 ⊢
  -- for k in range(3)
  refine ⟨3, rfl, by decide, by decide, for_it walk_range (PvA K a t lo) ⟨_, _, _, _, _, _, _, _, _, _, _, rfl, L0⟩ (fun _ _ _ _ _ => trivial) ?_ ?_⟩
  · rintro i x σ H2 H2' hi ⟨y3, y4, y5, y6, y7, y8, y9, y10, y11, y12, y13, rfl, L⟩ ⟨rfl, rfl⟩
    refine ⟨_, rfl, _, rfl, a, t, rfl, L.scr, L.town, fun bv bd H3 k3 T3 p3 g3 => ?_⟩
    have L3 := L.kept k3 T3
    clear L k3 T3
    have fB : Fit 11 20000 bd := g3.f.mono (by decide) (by decide)
    have dB : bd.depth < 12 := Nat.lt_succ_of_le fB.dep
    have okB : ok 12 .body bd = true := g3.g.okk 12 dB
    obtain ⟨bds, rfl⟩ := ok_tuple dB rfl okB
    have zB : sz (PyData.tuple bds) ≤ 20000 := fB.siz
    -- is_body(body)
    refine ⟨_, rfl, bv, _, 12, rfl, p3, dB, by omega, fun H4 s4 => ⟨_, true, rfl, true, ?_, iteF ?_⟩⟩
    · rw [okB]; rfl
    have L4 := L3.same s4
    have p4 := same_dp s4 p3
    clear L3 p3 s4
    -- is_body(list(body))
    obtain ⟨ab, bxs, rfl, hsb, hbxs⟩ := Dp.tupD p4
    refine ⟨_, rfl, ab, bxs, rfl, .inr hsb, fun l nl => ?_⟩
    have s5 := same_new (H := H4) nl (.lst bxs)
    have dl : (PyData.list bds).depth < 12 := dB
    refine ⟨_, .list bds, 12, rfl, .lst (SqL.of upd_same) (same_dps s5 hbxs), dl, ?_, fun H6 s6 => ⟨false, ?_, iteF ?_⟩⟩
    · simp only [sz] at zB ⊢; omega
    · rw [ok_not dl rfl rfl]
    have L6 := L4.same (s5.trans s6)
    have p6 := same_dp (s5.trans s6) p4
    clear L4 p4 s6 s5 hbxs hsb nl
    -- parts
    refine ⟨_, rfl, _, _, rfl, p6, rfl, fB.mono (Nat.le_refl _) (by decide), by decide, fun pl xs H7 s7 hpl dpl => ?_⟩
    have L7 := L6.same s7
    have p7 := same_dp s7 p6
    clear L6 p6 s7 H6 H4
    have fps : ∀ p ∈ pts (.tuple bds), Fit 11 1000000 p := fun p hp => pts_fit 11 1000000 _ (fB.mono (Nat.le_refl _) (by decide)) p hp
    have lps : (pts (.tuple bds)).length ≤ 1000000 := Nat.le_trans (pts_len _) (by omega)
    have str := pts_str 12 12 .body (.tuple bds) dB (Nat.le_refl _) rfl okB
    have lf := pts_lf 12 12 .body (.tuple bds) dB (Nat.le_refl _) rfl okB
    -- due
    have kn : ∀ x, (∃ p ∈ pts (.tuple bds), (if hd? p = some (Str.ofString "new") then at? 1 p else none) = some (.str x)) ↔ Lf .kind .body (.tuple bds) x := fun x => (lf x).1
    have ak : ∀ x, ((∃ p ∈ pts (.tuple bds), (if hd? p = some (Str.ofString "ask") then at? 2 p else none) = some (.str x)) ∨ ∃ p ∈ pts (.tuple bds), (if hd? p = some (Str.ofString "elder") then at? 1 p else none) = some (.str x)) ↔ Lf .word .body (.tuple bds) x := fun x => by
      rw [← (lf x).2]
      constructor
      · rintro (⟨p, h1, h2⟩ | ⟨p, h1, h2⟩)
        · exact ⟨p, h1, .inl h2⟩
        · exact ⟨p, h1, .inr h2⟩
      · rintro ⟨p, h1, h2 | h2⟩
        · exact .inl ⟨p, h1, h2⟩
        · exact .inr ⟨p, h1, h2⟩
    have kU : ∀ x, Lf .kind .body (.tuple bds) x → x ∈ U4 := g3.g.kin
    have wU : ∀ x, Lf .word .body (.tuple bds) x → x ∈ U4 := g3.g.wrd
    refine ⟨_, rfl, pl, rfl, ⟨_, SqL.of hpl⟩, fun D nD => ?_⟩
    refine lc_heads (w := Str.ofString "new") (ix := 1) hpl dpl fps lps (by decide +kernel) (fun p hp => ⟨(str p hp).1, (str p hp).2.1⟩) nD (fun zs H8 s8 hD hzl hz => ?_) rfl
    have zU : ∀ z ∈ zs, z ∈ U4 := fun z h => kU z ((kn z).1 ((hz z).1 h))
    refine ⟨D, zs, U4, rfl, SqL.of hD, zU, by decide, fun q1 c1 nq1 hc1 => ?_⟩
    have c60 : c1 ≤ 4 := hc1
    refine ⟨q1, _, c1, rfl, upd_same, by omega, fun ys q2 hR hl2 nq2 => ?_⟩
    have s9 : Same H7 (upd (upd H8 q1 (SetTO w q1 (fun j => decide (j ∈ zs)) c1)) q2 (.lst (ys.map V.str))) := s8.trans ((same_new nq1 _).trans (same_new nq2 _))
    have hdue : (upd (upd H8 q1 (SetTO w q1 (fun j => decide (j ∈ zs)) c1)) q2 (.lst (ys.map V.str))) q2 = some (.lst (ys.map V.str)) := upd_same
    have L9 := L7.same s9
    have p9 := same_dp s9 p7
    have hpl9 := s9 _ _ hpl
    have dpl9 := same_dps s9 dpl
    -- asks
    refine ⟨_, rfl, pl, rfl, ⟨_, SqL.of hpl9⟩, fun D1 nD1 => ?_⟩
    refine lc_heads (w := Str.ofString "ask") (ix := 2) hpl9 dpl9 fps lps (by decide +kernel) (fun p hp => ⟨(str p hp).1, (str p hp).2.2.1⟩) nD1 (fun zs1 H10 s10 hD1 hzl1 hz1 => ?_) rfl
    refine ⟨_, rfl, _, rfl, pl, rfl, ⟨_, SqL.of (s10 _ _ hpl9)⟩, fun D2 nD2 => ?_⟩
    refine lc_heads (w := Str.ofString "elder") (ix := 1) (s10 _ _ hpl9) (same_dps s10 dpl9) fps lps (by decide +kernel) (fun p hp => ⟨(str p hp).1, (str p hp).2.2.2⟩) nD2 (fun zs2 H11 s11 hD2 hzl2 hz2 => ?_) rfl
    have lpz : (pts (.tuple bds)).length ≤ 20000 := Nat.le_trans (pts_len _) zB
    refine ⟨D1, D2, _, _, rfl, rfl, s11 _ _ hD1, hD2, ?_, fun q3 nq3 => ?_⟩
    · rw [List.length_map, List.length_map]; exact Nat.le_of_lt (smallM (by omega))
    rw [← List.map_append]
    have s12 := s10.trans (s11.trans (same_new (H := H11) nq3 (.lst ((zs1 ++ zs2).map V.str))))
    have hasks : (upd H11 q3 (.lst ((zs1 ++ zs2).map V.str))) q3 = some (.lst ((zs1 ++ zs2).map V.str)) := upd_same
    generalize upd H11 q3 (.lst ((zs1 ++ zs2).map V.str)) = H12 at s12 hasks ⊢
    have L12 := L9.same s12
    have p12 := same_dp s12 p9
    have hdue12 := s12 _ _ hdue
    have aU : ∀ x, x ∈ zs1 ++ zs2 ↔ Lf .word .body (.tuple bds) x := fun x => by
      rw [List.mem_append, hz1 x, hz2 x, ← ak x]
    -- kinds_in(body) != tuple(due)
    refine ⟨_, rfl, _, rfl, _, 12, U4, p12, dB, by omega, okB, kU, by decide, fun S2 ys2 pk H13 s13 hpk hR2 hl3 hS2 => ?_⟩
    have eys : ys2 = ys := hR2.one hR fun k => by
      rw [hS2 k, decide_eq_true_eq, hz k]
      exact (kn k).symm
    subst eys
    have yU : ∀ x ∈ ys2, x ∈ U4 := fun x hx => kU x ((hS2 x).1 ((hR2.mem x).1 hx))
    refine ⟨_, rfl, q2, _, rfl, .inl ⟨SqL.of (s13 _ _ hdue12), fun l14 nl14 => ?_⟩⟩
    have s14 := same_new (H := H13) nl14 (.tup (ys2.map V.str))
    refine ⟨.tuple (ys2.map PyData.str), .tuple (ys2.map PyData.str), .tup (SqT.of (s14 _ _ hpk)) (dps_str_mk _), .tup (SqT.of upd_same) (dps_str_mk _), strs_fit yU, strs_fit yU, false, ?_, iteF ?_⟩
    · rw [strs_eqv yU]; rfl
    have s15 := s13.trans s14
    generalize upd H13 l14 (.tup (ys2.map V.str)) = H15 at s15 ⊢
    have L15 := L12.same s15
    have p15 := same_dp s15 p12
    have hasks15 := s15 _ _ hasks
    -- asked_in(body) != tuple(sorted(set(asks)))
    refine ⟨_, rfl, _, rfl, _, 12, U4, p15, dB, by omega, okB, wU, by decide, fun S3 ys3 pk H16 s16 hpk hR3 hl4 hS3 => ?_⟩
    refine ⟨_, rfl, q3, zs1 ++ zs2, U4, rfl, SqL.of (s16 _ _ hasks15), fun z h => wU z ((aU z).1 h), by decide, fun q5 c5 nq5 hc5 => ?_⟩
    have c50 : c5 ≤ 4 := hc5
    refine ⟨q5, _, c5, rfl, upd_same, by omega, fun ys4 q6 hR4 hl5 nq6 => ?_⟩
    have eys : ys3 = ys4 := hR3.one hR4 fun k => by
      rw [hS3 k, decide_eq_true_eq, aU k]
    subst eys
    have yU3 : ∀ x ∈ ys3, x ∈ U4 := fun x hx => wU x ((hS3 x).1 ((hR3.mem x).1 hx))
    refine ⟨q6, _, rfl, .inl ⟨SqL.of upd_same, fun l17 nl17 => ?_⟩⟩
    have s17 : Same H16 (upd (upd (upd H16 q5 (SetTO w q5 (fun j => decide (j ∈ zs1 ++ zs2)) c5)) q6 (.lst (ys3.map V.str))) l17 (.tup (ys3.map V.str))) := (same_new nq5 _).trans ((same_new nq6 _).trans (same_new nl17 _))
    refine ⟨.tuple (ys3.map PyData.str), .tuple (ys3.map PyData.str), .tup (SqT.of (s17 _ _ hpk)) (dps_str_mk _), .tup (SqT.of upd_same) (dps_str_mk _), strs_fit yU3, strs_fit yU3, false, ?_, iteF ?_⟩
    · rw [strs_eqv yU3]; rfl
    have s18 := s16.trans s17
    have L18 := L15.same s18
    have p18 := same_dp s18 p15
    -- for j in range(6)
    refine ⟨6, rfl, by decide, by decide, for_it walk_range (PvJ K a t lo (.ref ab) (.tuple bds)) ⟨_, _, _, _, _, _, _, _, _, _, rfl, L18, p18⟩ (fun _ _ _ _ _ => trivial) ?_ ?_⟩
    · rintro j x σ Hj Hj' hj ⟨y3, y5, y6, y7, y8, y9, y10, y11, y12, y13, rfl, L, p0⟩ ⟨rfl, rfl⟩
      obtain ⟨ovs, hlo, dov⟩ := L.odd
      have lov : ovs.length = 19 := by rw [dps_len dov]; rfl
      -- one
      refine ⟨_, rfl, _, rfl, _, rfl, _, rfl, lo, ovs, rfl, .inl (SqL.of hlo), a, t, _, rfl, L.scr, L.town, by omega, by omega, fun i1 H20 i10 i11 k20 T20 => ?_⟩
      have L20 := L.kept k20 T20
      refine ix_dat L20.dat i10 (by show i1 < ((19 : Nat) : Int); omega) fun u1 d1 m1 _ e1 => ?_
      -- other
      obtain ⟨ovs2, hlo2, dov2⟩ := L20.odd
      have lov2 : ovs2.length = 19 := by rw [dps_len dov2]; rfl
      refine ⟨_, rfl, _, rfl, _, rfl, _, rfl, lo, ovs2, rfl, .inl (SqL.of hlo2), a, t, _, rfl, L20.scr, L20.town, by omega, by omega, fun i2 H21 i20 i21 k21 T21 => ?_⟩
      have L21 := L20.kept k21 T21
      refine ix_dat L21.dat i20 (by show i2 < ((19 : Nat) : Int); omega) fun u2 d2' m2 _ e2 => ⟨_, _, rfl, ?_⟩
      have e1' := k21.dp e1
      have p21 := k21.dp (k20.dp p0)
      clear L L20 hlo hlo2 dov dov2 p0 e1 k20 k21 T20 T21
      -- row
      refine ⟨fun _ => d1, fun n hn => ?_, fun v5 H22 s22 r5 => ⟨?_, fun q7 nq7 => ?_⟩⟩
      · have hn' : n ∈ [9, 9, 9, 9, 9] := hn
        have : n = 9 := by simpa using hn'
        subst this
        exact ⟨u1, rfl, e1'⟩
      · have l5 : v5.length = 5 := dps_len r5
        exact Nat.le_of_lt (smallM (by omega))
      have s23 := s22.trans (same_new (H := H22) nq7 (.lst v5))
      refine ⟨_, rfl, fun n => if n = 9 then d1 else d2', fun n hn => ?_, fun v6 H24 s24 r6 => ⟨?_, fun q8 nq8 => ?_⟩⟩
      · have hn' : n ∈ [9, 9, 10, 9] := hn
        simp only [List.mem_cons, List.not_mem_nil, or_false] at hn'
        rcases hn' with rfl | rfl | rfl | rfl
        · exact ⟨u1, rfl, same_dp s23 e1'⟩
        · exact ⟨u1, rfl, same_dp s23 e1'⟩
        · exact ⟨u2, rfl, same_dp s23 e2⟩
        · exact ⟨u1, rfl, same_dp s23 e1'⟩
      · have l6 : v6.length = 3 := dps_len r6
        exact Nat.le_of_lt (smallM (by omega))
      have s25 := same_new (H := H24) nq8 (.lst v6)
      refine ⟨q7, q8, v5, v6, rfl, rfl, s25 _ _ (s24 _ _ upd_same), upd_same, ?_, fun p7 np7 => ?_⟩
      · have l5 : v5.length = 5 := dps_len r5
        have l6 : v6.length = 3 := dps_len r6
        exact Nat.le_of_lt (smallM (by omega))
      have S25 := s23.trans (s24.trans s25)
      have r5' : DpAll K (upd H24 q8 (.lst v6)) v5 (row1 d1) := same_dps ((same_new (H := H22) nq7 (.lst v5)).trans (s24.trans s25)) r5
      have r6' : DpAll K (upd H24 q8 (.lst v6)) v6 (row2 d1 d2') := same_dps s25 r6
      have l56 : (v5 ++ v6).length = 8 := by rw [List.length_append, dps_len r5, dps_len r6]; rfl
      generalize upd H24 q8 (.lst v6) = Hb at S25 r5' r6' np7 ⊢
      have u1b := same_dp S25 e1'
      have u2b := same_dp S25 e2
      have Lb := L21.same S25
      have pb := same_dp S25 p21
      clear r5 r6 s22 s23 s24 s25 nq7 nq8 e1' e2 L21 p21 S25
      -- row.append(..)
      have hp7 : (upd Hb p7 (.lst (v5 ++ v6))) p7 = some (.lst (v5 ++ v6)) := upd_same
      have sb7 := same_new (H := Hb) np7 (.lst (v5 ++ v6))
      generalize hH7 : upd Hb p7 (.lst (v5 ++ v6)) = H7x at hp7 sb7 ⊢
      clear hH7
      refine ⟨_, rfl, .inl ⟨rfl, _, SqL.of hp7⟩, _, rfl, _, rfl, by show 1 ≤ sizeLine; decide, fun z1 nz1 => ⟨by show 4 ≤ sizeLine; decide, fun z2 nz2 => ⟨by show 2 ≤ sizeLine; decide, fun z3 nz3 => ?_⟩⟩⟩
      have t1 := same_new (H := H7x) nz1 (.tup [u2])
      have t2 := same_new nz2 (.tup [.str "ask", u1, .str "p", .ref z1])
      have t3 := same_new nz3 (.tup [.str "do", .ref z2])
      have g1 : (upd (upd (upd H7x z1 (.tup [u2])) z2 (.tup [.str "ask", u1, .str "p", .ref z1])) z3 (.tup [.str "do", .ref z2])) z1 = some (.tup [u2]) := t3 _ _ (t2 _ _ upd_same)
      have g2 : (upd (upd (upd H7x z1 (.tup [u2])) z2 (.tup [.str "ask", u1, .str "p", .ref z1])) z3 (.tup [.str "do", .ref z2])) z2 = some (.tup [.str "ask", u1, .str "p", .ref z1]) := t3 _ _ upd_same
      have g3' : (upd (upd (upd H7x z1 (.tup [u2])) z2 (.tup [.str "ask", u1, .str "p", .ref z1])) z3 (.tup [.str "do", .ref z2])) z3 = some (.tup [.str "do", .ref z2]) := upd_same
      have t7 := t1.trans (t2.trans t3)
      have g7 := t7 _ _ hp7
      generalize upd (upd (upd H7x z1 (.tup [u2])) z2 (.tup [.str "ask", u1, .str "p", .ref z1])) z3 (.tup [.str "do", .ref z2]) = H8x at g1 g2 g3' t7 g7 ⊢
      have ne1 : z1 ≠ p7 := fun e => by rw [e, g7] at g1; cases g1
      have ne2 : z2 ≠ p7 := fun e => by rw [e, g7] at g2; cases g2
      have ne3 : z3 ≠ p7 := fun e => by rw [e, g7] at g3'; cases g3'
      refine ⟨p7, _, _, rfl, rfl, g7, smallM (by omega), ?_⟩
      have sb9 : Same Hb (upd H8x p7 (.lst ((v5 ++ v6) ++ [.ref z3]))) := same_over (sb7.trans t7) np7
      have rall : Dp K (upd H8x p7 (.lst ((v5 ++ v6) ++ [.ref z3]))) (.ref p7) (.list (rowL d1 d2')) := by
        refine .lst (SqL.of upd_same) (dps_append (dps_append (same_dps sb9 r5') (same_dps sb9 r6')) (.cons ?_ .nil))
        refine .tup (SqT.of (by rw [upd_ne ne3]; exact g3')) (.cons (.str _) (.cons ?_ .nil))
        refine .tup (SqT.of (by rw [upd_ne ne2]; exact g2)) (.cons (.str _) (.cons (same_dp sb9 u1b) (.cons (.str _) (.cons ?_ .nil))))
        exact .tup (SqT.of (by rw [upd_ne ne1]; exact g1)) (.cons (same_dp sb9 u2b) .nil)
      have L9x := Lb.same sb9
      have p9x := same_dp sb9 pb
      generalize upd H8x p7 (.lst ((v5 ++ v6) ++ [.ref z3])) = H9x at rall L9x p9x ⊢
      -- thing
      refine ⟨_, rfl, _, rfl, _, rfl, _, rfl, a, t, 9, rfl, L9x.scr, L9x.town, by decide, by decide, fun i3 H26 i30 i31 k26 T26 => ?_⟩
      refine ix_dat (k26.dp rall) i30 (by show i3 < ((9 : Nat) : Int); omega) fun u3 d3' m3 _ e3 => ⟨by show 1 ≤ sizeLine; decide, fun q9 nq9 => ?_⟩
      have f3 : Fit 5 300 d3' := row_fit (odd_fit m1) (odd_fit m2) m3
      have s27 := same_new (H := H26) nq9 (.tup [u3])
      have lbd : bds.length ≤ szAll bds := szAll_len bds
      have zB' : szAll bds + 1 ≤ 20000 := by simpa only [sz] using zB
      refine cat_dat (same_dp s27 (k26.dp p9x)) (.tup (SqT.of upd_same) (.cons (same_dp s27 e3) .nil)) (Nat.le_of_lt (smallM (by show bds.length + 1 ≤ _; omega))) fun tv H28 s28 d28 => ?_
      have L28 := (L9x.kept k26 T26).same (s27.trans s28)
      have p28 := same_dp (s27.trans s28) (k26.dp p9x)
      have fT : Fit 12 1000000 (.tuple (bds ++ [d3'])) := by
        refine Fit.tup (n := 11) (fun d hd => ?_) ?_
        · rcases List.mem_append.mp hd with h | h
          · have := (fB.item (n := 10) h)
            exact ⟨this.lay, by have := this.dep; omega⟩
          · rw [List.mem_singleton.mp h]
            exact ⟨f3.lay, by have := f3.dep; omega⟩
        · rw [szAll_append]
          have := f3.siz
          simp only [szAll]
          omega
      -- is_body(thing), does(thing)
      refine ⟨_, rfl, tv, _, 13, rfl, d28, Nat.lt_succ_of_le fT.dep, fT.siz, fun H29 s29 => ⟨_, rfl, tv, _, rfl, same_dp s29 d28, fT, by decide, fun H30 s30 => ⟨_, _, rfl, true, ?_, iteF ?_⟩⟩⟩
      · rw [decide_eq_true rfl]
      exact ⟨_, _, _, _, _, _, _, _, _, _, rfl, L28.same (s29.trans s30), same_dp (s29.trans s30) p28⟩
    · rintro σ H19 ⟨y3, y5, y6, y7, y8, y9, y10, y11, y12, y13, rfl, L19, p19⟩
      exact ⟨_, _, _, _, _, _, _, _, _, _, _, rfl, L19⟩
  · rintro σ H2 ⟨y3, y4, y5, y6, y7, y8, y9, y10, y11, y12, y13, rfl, L⟩
    refine ⟨fun _ => .none, use0, fun v1 H3 s3 d3 => ⟨_, .tuple [], 10, rfl, d3, by decide +kernel, by decide +kernel, fun H4 s4 => ⟨true, congrArg V.bl (by decide +kernel), iteT ?_⟩⟩⟩
    refine ⟨_, .none, 10, rfl, .non, by decide +kernel, by decide +kernel, fun H5 s5 => ⟨false, congrArg V.bl (by decide +kernel), true, rfl, iteT ?_⟩⟩
    refine ⟨fun _ => .none, use0, fun v6 H6 s6 d6 => ⟨_, _, 10, rfl, d6, by decide +kernel, by decide +kernel, fun H7 s7 => ⟨false, congrArg V.bl (by decide +kernel), q H7⟩⟩⟩
end
end B1

set_option maxRecDepth 100000
set_option maxHeartbeats 4000000
namespace B1
open PySem PySem.Spec PyProof.Rows L2
/-- a def of the top -/
structure DefAt (K : PySem.W.Frag) (x : Str) (st : Stmt) (f : Addr) (fd : FuncData) : Prop where
  at_ : PySem.W.nsIn K mainGlobals x = some (some (.ref f))
  fn : Fun K x x st f fd
theorem DefAt.mk' {K : PySem.W.Frag} {x : Str} {st : Stmt} {f : Addr} {oc : Value} {od an : Option Addr} {osl : Array (Option Value)} {kV doc pm cdv ct : Value} (a : PySem.W.nsIn K mainGlobals x = some (some (.ref f)))
    (l : K.lookup f = some ⟨oc, od, .func (PySem.W.fnOf x x (defArgs st) (defBody st) (defScope st) .none kV doc pm an cdv ct), osl⟩)
    (c : PySem.W.codeIn K cdv x = true) (k : PySem.W.keepIn K (.ref f) = true) : DefAt K x st f (PySem.W.fnOf x x (defArgs st) (defBody st) (defScope st) .none kV doc pm an cdv ct) := ⟨a, fun_mk (st := st) l c k⟩

theorem all_ok {P : Program} {w : World} {K : PySem.W.Frag} {h base : Heap} {mg : Str → Option Value} {fBt fNa fSh fPl fLe fSp fPa fBo fPI fLv fKi fAs fDr fBe fIs fAp fAB fLP fNm fSy fDo fLa : Addr} {dBt dNa dSh dPl dLe dSp dPa dBo dPI dLv dKi dAs dDr dBe dIs dAp dAB dLP dNm dSy dDo dLa : FuncData} {dR dE dM dL : Addr} {eR eE eM : Array DictEntry} {nR nE nM : Nat} {tk1 tk2 : Tok} (X : K.In h) (G : h.Ns mainGlobals mg) (T : Tx K w mg dR dE dM dL eR eE eM nR nE nM)
    (g12 : mg "NAME_LETTERS" = some (.int 12 tk1)) (g40 : mg "TEXT_SIGNS" = some (.int 40 tk2))
    (DBt : DefAt K "all_between" sBtw fBt dBt) (bBt : Binds K dBt ["text", "low", "high"] [])
    (DNa : DefAt K "is_name" sName fNa dNa) (bNa : Binds K dNa ["thing"] [])
    (DSh : DefAt K "is_short_text" sShort fSh dSh) (bSh : Binds K dSh ["thing"] [])
    (DPl : DefAt K "is_plain_value" sPlain fPl dPl) (bPl : Binds K dPl ["thing"] [])
    (DLe : DefAt K "is_leaf" sLeaf fLe dLe) (bLe : Binds K dLe ["sort", "thing"] [])
    (DSp : DefAt K "shape_of" sShape fSp dSp) (bSp : Binds K dSp ["sort", "word"] [])
    (DPa : DefAt K "parts_of" sParts fPa dPa) (bPa : Binds K dPa ["sort", "thing"] [])
    (DBo : DefAt K "is_body" sBody fBo dBo) (bBo : Binds K dBo ["thing"] [])
    (DPI : DefAt K "parts_in" sPIn fPI dPI) (bPI : Binds K dPI ["body"] [])
    (DLv : DefAt K "leaves_in" sLvs fLv dLv) (bLv : Binds K dLv ["body", "wanted"] [])
    (DKi : DefAt K "kinds_in" sKinds fKi dKi) (bKi : Binds K dKi ["body"] [])
    (DAs : DefAt K "asked_in" sAsked fAs dAs) (bAs : Binds K dAs ["body"] [])
    (DDr : DefAt K "_law_draw" sDraw fDr dDr) (bDr : Binds K dDr ["_law_script", "_law_town", "_law_many"] [])
    (DBe : DefAt K "_law_begun" sBegun fBe dBe) (bBe : Binds K dBe [] [])
    (DIs : DefAt K "_law_is" sIs fIs dIs) (bIs : Binds K dIs ["_law_told", "_law_due"] [])
    (DAp : DefAt K "_law_a_part" sPart fAp dAp) (bAp : Binds K dAp ["_law_script", "_law_town", "_law_deep"] [])
    (DAB : DefAt K "_law_a_body" sABody fAB dAB) (bAB : Binds K dAB ["_law_script", "_law_town", "_law_deep"] [])
    (DLP : DefAt K "_law_parts" sLParts fLP dLP) (bLP : Binds K dLP ["_law_part"] [])
    (DNm : DefAt K "_law_named" sNamed fNm dNm) (bNm : Binds K dNm ["_law_part"] [])
    (DSy : DefAt K "_law_says" sSays fSy dSy) (bSy : Binds K dSy ["_law_part"] [])
    (DDo : DefAt K "_law_does" sDoes fDo dDo) (bDo : Binds K dDo ["_law_part"] [])
    (DLa : DefAt K "law" sLaw fLa dLa) (bLa : Binds K dLa ["_law_script"] [])
    : FnOk P w K mg base CX0 16 fLa dLa ["_law_script"] (spLaw K) := by
  have mBt := PySem.W.mg_of X G DBt.at_
  have FBt := DBt.fn
  have mNa := PySem.W.mg_of X G DNa.at_
  have FNa := DNa.fn
  have mSh := PySem.W.mg_of X G DSh.at_
  have FSh := DSh.fn
  have mPl := PySem.W.mg_of X G DPl.at_
  have FPl := DPl.fn
  have mLe := PySem.W.mg_of X G DLe.at_
  have FLe := DLe.fn
  have mSp := PySem.W.mg_of X G DSp.at_
  have FSp := DSp.fn
  have mPa := PySem.W.mg_of X G DPa.at_
  have FPa := DPa.fn
  have mBo := PySem.W.mg_of X G DBo.at_
  have FBo := DBo.fn
  have mPI := PySem.W.mg_of X G DPI.at_
  have FPI := DPI.fn
  have mLv := PySem.W.mg_of X G DLv.at_
  have FLv := DLv.fn
  have mKi := PySem.W.mg_of X G DKi.at_
  have FKi := DKi.fn
  have mAs := PySem.W.mg_of X G DAs.at_
  have FAs := DAs.fn
  have mDr := PySem.W.mg_of X G DDr.at_
  have FDr := DDr.fn
  have mBe := PySem.W.mg_of X G DBe.at_
  have FBe := DBe.fn
  have mIs := PySem.W.mg_of X G DIs.at_
  have FIs := DIs.fn
  have mAp := PySem.W.mg_of X G DAp.at_
  have FAp := DAp.fn
  have mAB := PySem.W.mg_of X G DAB.at_
  have FAB := DAB.fn
  have mLP := PySem.W.mg_of X G DLP.at_
  have FLP := DLP.fn
  have mNm := PySem.W.mg_of X G DNm.at_
  have FNm := DNm.fn
  have mSy := PySem.W.mg_of X G DSy.at_
  have FSy := DSy.fn
  have mDo := PySem.W.mg_of X G DDo.at_
  have FDo := DDo.fn
  have mLa := PySem.W.mg_of X G DLa.at_
  have FLa := DLa.fn
  have B := T.bl
  have oBt : FnOk P w K mg base CX0 1 fBt dBt _ _ := ok_btw FBt B
  have oNa : FnOk P w K mg base CX0 2 fNa dNa _ _ := ok_name FNa oBt bBt FBt.kp mBt g12 B
  have oSh : FnOk P w K mg base CX0 2 fSh dSh _ _ := ok_short FSh oBt bBt FBt.kp mBt g40 B
  have oPl : FnOk P w K mg base CX0 3 fPl dPl _ _ := ok_plain FPl oSh bSh FSh.kp mSh B
  have oLe : FnOk P w K mg base CX0 4 fLe dLe _ _ := ok_leafD FLe oPl bPl FPl.kp mPl oNa bNa FNa.kp mNa
  have oSp : FnOk P w K mg base CX0 1 fSp dSp _ _ := ok_shape FSp T
  have oPa : FnOk P w K mg base CX0 2 fPa dPa _ _ := ok_parts FPa T oSp bSp FSp.kp mSp
  have oBo : FnOk P w K mg base CX0 5 fBo dBo _ _ := ok_body FBo T oLe bLe FLe.kp mLe oPa bPa FPa.kp mPa
  have oPI : FnOk P w K mg base CX0 3 fPI dPI _ _ := ok_pin FPI T oPa bPa FPa.kp mPa
  have oLv : FnOk P w K mg base CX0 4 fLv dLv _ _ := ok_lvs FLv B oPI bPI FPI.kp mPI
  have oKi : FnOk P w K mg base CX0 5 fKi dKi _ _ := ok_kinds FKi oLv bLv FLv.kp mLv
  have oAs : FnOk P w K mg base CX0 5 fAs dAs _ _ := ok_asked FAs oLv bLv FLv.kp mLv
  have oDr : FnOk P w K mg base CX0 1 fDr dDr _ _ := ok_draw FDr B
  have oBe : FnOk P w K mg base CX0 1 fBe dBe _ _ := ok_begun FBe
  have oIs : FnOk P w K mg base CX0 1 fIs dIs _ _ := ok_is FIs B
  have oAp : FnOk P w K mg base CX0 4 fAp dAp _ _ := part_all FAp oDr bDr FDr.kp mDr bAp mAp 2
  have oAB : FnOk P w K mg base CX0 7 fAB dAB _ _ := ab_all FAB B oDr bDr FDr.kp mDr oAp bAp FAp.kp mAp bAB mAB 2
  have oLP : FnOk P w K mg base CX0 12 fLP dLP _ _ := lp_all FLP B bLP mLP 11
  have oNm : FnOk P w K mg base CX0 1 fNm dNm _ _ := ok_named FNm B
  have oSy : ∀ n : Nat, FnOk P w K mg base CX0 (n + 2) fSy dSy ["_law_part"] (spLS K n) := says_all FSy B oNm bNm FNm.kp mNm bSy mSy
  have oDo : FnOk P w K mg base CX0 15 fDo dDo _ _ := does_all FDo B oNm bNm FNm.kp mNm oSy bSy FSy.kp mSy bDo mDo 12
  exact ok_law FLa B oDr bDr FDr.kp mDr oBe bBe FBe.kp mBe oIs bIs FIs.kp mIs oAB bAB FAB.kp mAB oLP bLP FLP.kp mLP oDo bDo FDo.kp mDo oBo bBo FBo.kp mBo oKi bKi FKi.kp mKi oAs bAs FAs.kp mAs
end B1

set_option maxRecDepth 100000
set_option maxHeartbeats 4000000
namespace B1
open PySem PySem.Spec PyProof.Rows L2

theorem all_mk {l : PySem.W.OpenLaw} {w : World} {K : PySem.W.Frag} {h : Heap} {mg : Str → Option Value} {fa : Addr} {fBt fNa fSh fPl fLe fSp fPa fBo fPI fLv fKi fAs fDr fBe fIs fAp fAB fLP fNm fSy fDo fLa : Addr} (X : K.In h) (G : h.Ns mainGlobals mg) (hfa : mg "law" = some (.ref fa))
    {odBt odNa odSh odPl odLe odSp odPa odBo odPI odLv odKi odAs odDr odBe odIs odAp odAB odLP odNm odSy odDo odLa anBt anNa anSh anPl anLe anSp anPa anBo anPI anLv anKi anAs anDr anBe anIs anAp anAB anLP anNm anSy anDo anLa : Option Addr} {slBt slNa slSh slPl slLe slSp slPa slBo slPI slLv slKi slAs slDr slBe slIs slAp slAB slLP slNm slSy slDo slLa : Array (Option Value)} {ocBt kvBt dcBt pmBt cdBt ctBt ocNa kvNa dcNa pmNa cdNa ctNa ocSh kvSh dcSh pmSh cdSh ctSh ocPl kvPl dcPl pmPl cdPl ctPl ocLe kvLe dcLe pmLe cdLe ctLe ocSp kvSp dcSp pmSp cdSp ctSp ocPa kvPa dcPa pmPa cdPa ctPa ocBo kvBo dcBo pmBo cdBo ctBo ocPI kvPI dcPI pmPI cdPI ctPI ocLv kvLv dcLv pmLv cdLv ctLv ocKi kvKi dcKi pmKi cdKi ctKi ocAs kvAs dcAs pmAs cdAs ctAs ocDr kvDr dcDr pmDr cdDr ctDr ocBe kvBe dcBe pmBe cdBe ctBe ocIs kvIs dcIs pmIs cdIs ctIs ocAp kvAp dcAp pmAp cdAp ctAp ocAB kvAB dcAB pmAB cdAB ctAB ocLP kvLP dcLP pmLP cdLP ctLP ocNm kvNm dcNm pmNm cdNm ctNm ocSy kvSy dcSy pmSy cdSy ctSy ocDo kvDo dcDo pmDo cdDo ctDo ocLa kvLa dcLa pmLa cdLa ctLa : Value}
    (aBt : PySem.W.nsIn K mainGlobals "all_between" = some (some (.ref fBt))) (lBt : K.lookup fBt = some ⟨ocBt, odBt, .func (PySem.W.fnOf "all_between" "all_between" (defArgs sBtw) (defBody sBtw) (defScope sBtw) .none kvBt dcBt pmBt anBt cdBt ctBt), slBt⟩) (cBt : PySem.W.codeIn K cdBt "all_between" = true) (kBt : PySem.W.keepIn K (.ref fBt) = true)
    (aNa : PySem.W.nsIn K mainGlobals "is_name" = some (some (.ref fNa))) (lNa : K.lookup fNa = some ⟨ocNa, odNa, .func (PySem.W.fnOf "is_name" "is_name" (defArgs sName) (defBody sName) (defScope sName) .none kvNa dcNa pmNa anNa cdNa ctNa), slNa⟩) (cNa : PySem.W.codeIn K cdNa "is_name" = true) (kNa : PySem.W.keepIn K (.ref fNa) = true)
    (aSh : PySem.W.nsIn K mainGlobals "is_short_text" = some (some (.ref fSh))) (lSh : K.lookup fSh = some ⟨ocSh, odSh, .func (PySem.W.fnOf "is_short_text" "is_short_text" (defArgs sShort) (defBody sShort) (defScope sShort) .none kvSh dcSh pmSh anSh cdSh ctSh), slSh⟩) (cSh : PySem.W.codeIn K cdSh "is_short_text" = true) (kSh : PySem.W.keepIn K (.ref fSh) = true)
    (aPl : PySem.W.nsIn K mainGlobals "is_plain_value" = some (some (.ref fPl))) (lPl : K.lookup fPl = some ⟨ocPl, odPl, .func (PySem.W.fnOf "is_plain_value" "is_plain_value" (defArgs sPlain) (defBody sPlain) (defScope sPlain) .none kvPl dcPl pmPl anPl cdPl ctPl), slPl⟩) (cPl : PySem.W.codeIn K cdPl "is_plain_value" = true) (kPl : PySem.W.keepIn K (.ref fPl) = true)
    (aLe : PySem.W.nsIn K mainGlobals "is_leaf" = some (some (.ref fLe))) (lLe : K.lookup fLe = some ⟨ocLe, odLe, .func (PySem.W.fnOf "is_leaf" "is_leaf" (defArgs sLeaf) (defBody sLeaf) (defScope sLeaf) .none kvLe dcLe pmLe anLe cdLe ctLe), slLe⟩) (cLe : PySem.W.codeIn K cdLe "is_leaf" = true) (kLe : PySem.W.keepIn K (.ref fLe) = true)
    (aSp : PySem.W.nsIn K mainGlobals "shape_of" = some (some (.ref fSp))) (lSp : K.lookup fSp = some ⟨ocSp, odSp, .func (PySem.W.fnOf "shape_of" "shape_of" (defArgs sShape) (defBody sShape) (defScope sShape) .none kvSp dcSp pmSp anSp cdSp ctSp), slSp⟩) (cSp : PySem.W.codeIn K cdSp "shape_of" = true) (kSp : PySem.W.keepIn K (.ref fSp) = true)
    (aPa : PySem.W.nsIn K mainGlobals "parts_of" = some (some (.ref fPa))) (lPa : K.lookup fPa = some ⟨ocPa, odPa, .func (PySem.W.fnOf "parts_of" "parts_of" (defArgs sParts) (defBody sParts) (defScope sParts) .none kvPa dcPa pmPa anPa cdPa ctPa), slPa⟩) (cPa : PySem.W.codeIn K cdPa "parts_of" = true) (kPa : PySem.W.keepIn K (.ref fPa) = true)
    (aBo : PySem.W.nsIn K mainGlobals "is_body" = some (some (.ref fBo))) (lBo : K.lookup fBo = some ⟨ocBo, odBo, .func (PySem.W.fnOf "is_body" "is_body" (defArgs sBody) (defBody sBody) (defScope sBody) .none kvBo dcBo pmBo anBo cdBo ctBo), slBo⟩) (cBo : PySem.W.codeIn K cdBo "is_body" = true) (kBo : PySem.W.keepIn K (.ref fBo) = true)
    (aPI : PySem.W.nsIn K mainGlobals "parts_in" = some (some (.ref fPI))) (lPI : K.lookup fPI = some ⟨ocPI, odPI, .func (PySem.W.fnOf "parts_in" "parts_in" (defArgs sPIn) (defBody sPIn) (defScope sPIn) .none kvPI dcPI pmPI anPI cdPI ctPI), slPI⟩) (cPI : PySem.W.codeIn K cdPI "parts_in" = true) (kPI : PySem.W.keepIn K (.ref fPI) = true)
    (aLv : PySem.W.nsIn K mainGlobals "leaves_in" = some (some (.ref fLv))) (lLv : K.lookup fLv = some ⟨ocLv, odLv, .func (PySem.W.fnOf "leaves_in" "leaves_in" (defArgs sLvs) (defBody sLvs) (defScope sLvs) .none kvLv dcLv pmLv anLv cdLv ctLv), slLv⟩) (cLv : PySem.W.codeIn K cdLv "leaves_in" = true) (kLv : PySem.W.keepIn K (.ref fLv) = true)
    (aKi : PySem.W.nsIn K mainGlobals "kinds_in" = some (some (.ref fKi))) (lKi : K.lookup fKi = some ⟨ocKi, odKi, .func (PySem.W.fnOf "kinds_in" "kinds_in" (defArgs sKinds) (defBody sKinds) (defScope sKinds) .none kvKi dcKi pmKi anKi cdKi ctKi), slKi⟩) (cKi : PySem.W.codeIn K cdKi "kinds_in" = true) (kKi : PySem.W.keepIn K (.ref fKi) = true)
    (aAs : PySem.W.nsIn K mainGlobals "asked_in" = some (some (.ref fAs))) (lAs : K.lookup fAs = some ⟨ocAs, odAs, .func (PySem.W.fnOf "asked_in" "asked_in" (defArgs sAsked) (defBody sAsked) (defScope sAsked) .none kvAs dcAs pmAs anAs cdAs ctAs), slAs⟩) (cAs : PySem.W.codeIn K cdAs "asked_in" = true) (kAs : PySem.W.keepIn K (.ref fAs) = true)
    (aDr : PySem.W.nsIn K mainGlobals "_law_draw" = some (some (.ref fDr))) (lDr : K.lookup fDr = some ⟨ocDr, odDr, .func (PySem.W.fnOf "_law_draw" "_law_draw" (defArgs sDraw) (defBody sDraw) (defScope sDraw) .none kvDr dcDr pmDr anDr cdDr ctDr), slDr⟩) (cDr : PySem.W.codeIn K cdDr "_law_draw" = true) (kDr : PySem.W.keepIn K (.ref fDr) = true)
    (aBe : PySem.W.nsIn K mainGlobals "_law_begun" = some (some (.ref fBe))) (lBe : K.lookup fBe = some ⟨ocBe, odBe, .func (PySem.W.fnOf "_law_begun" "_law_begun" (defArgs sBegun) (defBody sBegun) (defScope sBegun) .none kvBe dcBe pmBe anBe cdBe ctBe), slBe⟩) (cBe : PySem.W.codeIn K cdBe "_law_begun" = true) (kBe : PySem.W.keepIn K (.ref fBe) = true)
    (aIs : PySem.W.nsIn K mainGlobals "_law_is" = some (some (.ref fIs))) (lIs : K.lookup fIs = some ⟨ocIs, odIs, .func (PySem.W.fnOf "_law_is" "_law_is" (defArgs sIs) (defBody sIs) (defScope sIs) .none kvIs dcIs pmIs anIs cdIs ctIs), slIs⟩) (cIs : PySem.W.codeIn K cdIs "_law_is" = true) (kIs : PySem.W.keepIn K (.ref fIs) = true)
    (aAp : PySem.W.nsIn K mainGlobals "_law_a_part" = some (some (.ref fAp))) (lAp : K.lookup fAp = some ⟨ocAp, odAp, .func (PySem.W.fnOf "_law_a_part" "_law_a_part" (defArgs sPart) (defBody sPart) (defScope sPart) .none kvAp dcAp pmAp anAp cdAp ctAp), slAp⟩) (cAp : PySem.W.codeIn K cdAp "_law_a_part" = true) (kAp : PySem.W.keepIn K (.ref fAp) = true)
    (aAB : PySem.W.nsIn K mainGlobals "_law_a_body" = some (some (.ref fAB))) (lAB : K.lookup fAB = some ⟨ocAB, odAB, .func (PySem.W.fnOf "_law_a_body" "_law_a_body" (defArgs sABody) (defBody sABody) (defScope sABody) .none kvAB dcAB pmAB anAB cdAB ctAB), slAB⟩) (cAB : PySem.W.codeIn K cdAB "_law_a_body" = true) (kAB : PySem.W.keepIn K (.ref fAB) = true)
    (aLP : PySem.W.nsIn K mainGlobals "_law_parts" = some (some (.ref fLP))) (lLP : K.lookup fLP = some ⟨ocLP, odLP, .func (PySem.W.fnOf "_law_parts" "_law_parts" (defArgs sLParts) (defBody sLParts) (defScope sLParts) .none kvLP dcLP pmLP anLP cdLP ctLP), slLP⟩) (cLP : PySem.W.codeIn K cdLP "_law_parts" = true) (kLP : PySem.W.keepIn K (.ref fLP) = true)
    (aNm : PySem.W.nsIn K mainGlobals "_law_named" = some (some (.ref fNm))) (lNm : K.lookup fNm = some ⟨ocNm, odNm, .func (PySem.W.fnOf "_law_named" "_law_named" (defArgs sNamed) (defBody sNamed) (defScope sNamed) .none kvNm dcNm pmNm anNm cdNm ctNm), slNm⟩) (cNm : PySem.W.codeIn K cdNm "_law_named" = true) (kNm : PySem.W.keepIn K (.ref fNm) = true)
    (aSy : PySem.W.nsIn K mainGlobals "_law_says" = some (some (.ref fSy))) (lSy : K.lookup fSy = some ⟨ocSy, odSy, .func (PySem.W.fnOf "_law_says" "_law_says" (defArgs sSays) (defBody sSays) (defScope sSays) .none kvSy dcSy pmSy anSy cdSy ctSy), slSy⟩) (cSy : PySem.W.codeIn K cdSy "_law_says" = true) (kSy : PySem.W.keepIn K (.ref fSy) = true)
    (aDo : PySem.W.nsIn K mainGlobals "_law_does" = some (some (.ref fDo))) (lDo : K.lookup fDo = some ⟨ocDo, odDo, .func (PySem.W.fnOf "_law_does" "_law_does" (defArgs sDoes) (defBody sDoes) (defScope sDoes) .none kvDo dcDo pmDo anDo cdDo ctDo), slDo⟩) (cDo : PySem.W.codeIn K cdDo "_law_does" = true) (kDo : PySem.W.keepIn K (.ref fDo) = true)
    (aLa : PySem.W.nsIn K mainGlobals "law" = some (some (.ref fLa))) (lLa : K.lookup fLa = some ⟨ocLa, odLa, .func (PySem.W.fnOf "law" "law" (defArgs sLaw) (defBody sLaw) (defScope sLaw) .none kvLa dcLa pmLa anLa cdLa ctLa), slLa⟩) (cLa : PySem.W.codeIn K cdLa "law" = true) (kLa : PySem.W.keepIn K (.ref fLa) = true)
    (z0 : PySem.W.nsIn K mainGlobals "all" = some none)
    (z1 : PySem.W.nsIn K mainGlobals "isinstance" = some none)
    (z2 : PySem.W.nsIn K mainGlobals "str" = some none)
    (z3 : PySem.W.nsIn K mainGlobals "len" = some none)
    (z4 : PySem.W.nsIn K mainGlobals "bool" = some none)
    (z5 : PySem.W.nsIn K mainGlobals "int" = some none)
    (z6 : PySem.W.nsIn K mainGlobals "tuple" = some none)
    (z7 : PySem.W.nsIn K mainGlobals "list" = some none)
    (z8 : PySem.W.nsIn K mainGlobals "zip" = some none)
    (z9 : PySem.W.nsIn K mainGlobals "sorted" = some none)
    (z10 : PySem.W.nsIn K mainGlobals "set" = some none)
    (z11 : PySem.W.nsIn K mainGlobals "range" = some none)
    (z12 : PySem.W.nsIn K mainGlobals "min" = some none)
    {dR dE dM dL : Addr} {eR eE eM : Array DictEntry} {nR nE nM : Nat} {tk1 tk2 : Tok}
    (x12 : PySem.W.nsIn K mainGlobals "NAME_LETTERS" = some (some (.int 12 tk1))) (x40 : PySem.W.nsIn K mainGlobals "TEXT_SIGNS" = some (some (.int 40 tk2)))
    (xR : PySem.W.nsIn K mainGlobals "ROWS" = some (some (.ref dR))) (yR : K.lookup dR = some ⟨.type "dict", none, .dict eR nR, #[]⟩)
    (xE : PySem.W.nsIn K mainGlobals "ES" = some (some (.ref dE))) (yE : K.lookup dE = some ⟨.type "dict", none, .dict eE nE, #[]⟩)
    (xM : PySem.W.nsIn K mainGlobals "MANY" = some (some (.ref dM))) (yM : K.lookup dM = some ⟨.type "dict", none, .dict eM nM, #[]⟩)
    (xL : PySem.W.nsIn K mainGlobals "LEAVES" = some (some (.ref dL)))
    (uR : PySem.W.KeysLit w.params eR.toList) (uE : PySem.W.KeysLit w.params eE.toList) (uM : PySem.W.KeysLit w.params eM.toList)
    (vR : (dR == sysModules) = false) (vE : (dE == sysModules) = false) (vM : (dM == sysModules) = false)
    (rR : Paired (fun (e : DictEntry) (p : Str × List S) => (∃ t, e.key = .str p.1 t) ∧ RTup K e.val p.2) eR.toList rowTab)
    (rE : Paired (fun (e : DictEntry) (p : Str × List S) => (∃ t, e.key = .str p.1 t) ∧ RTup K e.val p.2) eE.toList eTab)
    (rM : Paired (fun (e : DictEntry) (p : Str × S) => (∃ t, e.key = .str p.1 t) ∧ RStr e.val p.2) eM.toList manyTab)
    (rL : KTup K dL ([S.name, .field, .word, .kind, .value].map fun s => V.str s.txt)) :
    ∃ fd : FuncData, (∀ (s : Shared) (v : Value), BindsTo s fd ⟨[v], []⟩ [("_law_script", v)]) ∧ ∀ base : Heap, K.In base → base.Ns mainGlobals mg → FnOk l.prog w K mg base CX0 16 fa fd ["_law_script"] (spLaw K) := by
  have e := hfa.symm.trans (PySem.W.mg_of X G aLa)
  cases e
  have DBt := DefAt.mk' (st := sBtw) aBt lBt cBt kBt
  have bBt := DBt.fn.binds (ps := ["text", "low", "high"]) fun _ _ _ _ _ _ us hl => match us, hl with | [_, _, _], _ => rfl
  have DNa := DefAt.mk' (st := sName) aNa lNa cNa kNa
  have bNa := DNa.fn.binds (ps := ["thing"]) fun _ _ _ _ _ _ us hl => match us, hl with | [_], _ => rfl
  have DSh := DefAt.mk' (st := sShort) aSh lSh cSh kSh
  have bSh := DSh.fn.binds (ps := ["thing"]) fun _ _ _ _ _ _ us hl => match us, hl with | [_], _ => rfl
  have DPl := DefAt.mk' (st := sPlain) aPl lPl cPl kPl
  have bPl := DPl.fn.binds (ps := ["thing"]) fun _ _ _ _ _ _ us hl => match us, hl with | [_], _ => rfl
  have DLe := DefAt.mk' (st := sLeaf) aLe lLe cLe kLe
  have bLe := DLe.fn.binds (ps := ["sort", "thing"]) fun _ _ _ _ _ _ us hl => match us, hl with | [_, _], _ => rfl
  have DSp := DefAt.mk' (st := sShape) aSp lSp cSp kSp
  have bSp := DSp.fn.binds (ps := ["sort", "word"]) fun _ _ _ _ _ _ us hl => match us, hl with | [_, _], _ => rfl
  have DPa := DefAt.mk' (st := sParts) aPa lPa cPa kPa
  have bPa := DPa.fn.binds (ps := ["sort", "thing"]) fun _ _ _ _ _ _ us hl => match us, hl with | [_, _], _ => rfl
  have DBo := DefAt.mk' (st := sBody) aBo lBo cBo kBo
  have bBo := DBo.fn.binds (ps := ["thing"]) fun _ _ _ _ _ _ us hl => match us, hl with | [_], _ => rfl
  have DPI := DefAt.mk' (st := sPIn) aPI lPI cPI kPI
  have bPI := DPI.fn.binds (ps := ["body"]) fun _ _ _ _ _ _ us hl => match us, hl with | [_], _ => rfl
  have DLv := DefAt.mk' (st := sLvs) aLv lLv cLv kLv
  have bLv := DLv.fn.binds (ps := ["body", "wanted"]) fun _ _ _ _ _ _ us hl => match us, hl with | [_, _], _ => rfl
  have DKi := DefAt.mk' (st := sKinds) aKi lKi cKi kKi
  have bKi := DKi.fn.binds (ps := ["body"]) fun _ _ _ _ _ _ us hl => match us, hl with | [_], _ => rfl
  have DAs := DefAt.mk' (st := sAsked) aAs lAs cAs kAs
  have bAs := DAs.fn.binds (ps := ["body"]) fun _ _ _ _ _ _ us hl => match us, hl with | [_], _ => rfl
  have DDr := DefAt.mk' (st := sDraw) aDr lDr cDr kDr
  have bDr := DDr.fn.binds (ps := ["_law_script", "_law_town", "_law_many"]) fun _ _ _ _ _ _ us hl => match us, hl with | [_, _, _], _ => rfl
  have DBe := DefAt.mk' (st := sBegun) aBe lBe cBe kBe
  have bBe := DBe.fn.binds (ps := []) fun _ _ _ _ _ _ us hl => match us, hl with | [], _ => rfl
  have DIs := DefAt.mk' (st := sIs) aIs lIs cIs kIs
  have bIs := DIs.fn.binds (ps := ["_law_told", "_law_due"]) fun _ _ _ _ _ _ us hl => match us, hl with | [_, _], _ => rfl
  have DAp := DefAt.mk' (st := sPart) aAp lAp cAp kAp
  have bAp := DAp.fn.binds (ps := ["_law_script", "_law_town", "_law_deep"]) fun _ _ _ _ _ _ us hl => match us, hl with | [_, _, _], _ => rfl
  have DAB := DefAt.mk' (st := sABody) aAB lAB cAB kAB
  have bAB := DAB.fn.binds (ps := ["_law_script", "_law_town", "_law_deep"]) fun _ _ _ _ _ _ us hl => match us, hl with | [_, _, _], _ => rfl
  have DLP := DefAt.mk' (st := sLParts) aLP lLP cLP kLP
  have bLP := DLP.fn.binds (ps := ["_law_part"]) fun _ _ _ _ _ _ us hl => match us, hl with | [_], _ => rfl
  have DNm := DefAt.mk' (st := sNamed) aNm lNm cNm kNm
  have bNm := DNm.fn.binds (ps := ["_law_part"]) fun _ _ _ _ _ _ us hl => match us, hl with | [_], _ => rfl
  have DSy := DefAt.mk' (st := sSays) aSy lSy cSy kSy
  have bSy := DSy.fn.binds (ps := ["_law_part"]) fun _ _ _ _ _ _ us hl => match us, hl with | [_], _ => rfl
  have DDo := DefAt.mk' (st := sDoes) aDo lDo cDo kDo
  have bDo := DDo.fn.binds (ps := ["_law_part"]) fun _ _ _ _ _ _ us hl => match us, hl with | [_], _ => rfl
  have DLa := DefAt.mk' (st := sLaw) aLa lLa cLa kLa
  have bLa := DLa.fn.binds (ps := ["_law_script"]) fun _ _ _ _ _ _ us hl => match us, hl with | [_], _ => rfl
  have T : Tx K w mg dR dE dM dL eR eE eM nR nE nM := ⟨⟨PySem.W.mg_none_of X G z0, PySem.W.mg_none_of X G z1, PySem.W.mg_none_of X G z2, PySem.W.mg_none_of X G z3, PySem.W.mg_none_of X G z4, PySem.W.mg_none_of X G z5, PySem.W.mg_none_of X G z6, PySem.W.mg_none_of X G z7, PySem.W.mg_none_of X G z8, PySem.W.mg_none_of X G z9, PySem.W.mg_none_of X G z10, PySem.W.mg_none_of X G z11, PySem.W.mg_none_of X G z12⟩, PySem.W.mg_of X G xR, PySem.W.mg_of X G xE, PySem.W.mg_of X G xM, PySem.W.mg_of X G xL, ⟨⟨yR, uR, vR⟩, rR⟩, ⟨⟨yE, uE, vE⟩, rE⟩, ⟨⟨yM, uM, vM⟩, rM⟩, rL⟩
  refine ⟨PySem.W.fnOf "law" "law" (defArgs sLaw) (defBody sLaw) (defScope sLaw) .none kvLa dcLa pmLa anLa cdLa ctLa, fun s v => .of_eq rfl, fun base _ _ => ?_⟩
  exact all_ok X G T (PySem.W.mg_of X G x12) (PySem.W.mg_of X G x40) DBt bBt DNa bNa DSh bSh DPl bPl DLe bLe DSp bSp DPa bPa DBo bBo DPI bPI DLv bLv DKi bKi DAs bAs DDr bDr DBe bBe DIs bIs DAp bAp DAB bAB DLP bLP DNm bNm DSy bSy DDo bDo DLa bLa
theorem walk {l : PySem.W.OpenLaw} {q : Program} {loose : List Str} {XP : (Str → Option Value) → Heap → Prop} {YP : World → Heap → Prop} {d : DefRec} {K : Params → PySem.W.Frag} (hn : l.most = some 63) (hdf : d.params.defaults = [])
    (hY : ∀ (w : World) (h : Heap), YP w h → (K w.params).In h)
    (F : ∀ (w : World) (mg : Str → Option Value) (fa : Addr) (h : Heap), (K w.params).In h → h.Ns mainGlobals mg → mg d.name = some (.ref fa) →
      ∃ fd : FuncData, (∀ (s : Shared) (u : Value), BindsTo s fd ⟨[u], []⟩ [("_law_script", u)]) ∧ ∀ base : Heap, (K w.params).In base → base.Ns mainGlobals mg → FnOk l.prog w (K w.params) mg base CX0 16 fa fd ["_law_script"] (spLaw (K w.params))) :
    PySem.W.WalkO q loose XP YP l.row.toRowW d [] (fun f vs => PySem.call f vs) :=
  L2.walk_of (n := 63) (k := 16) (x := "_law_script") (CX := fun _ => CX0) (sp := fun w => spLaw (K w.params)) hn (by decide) hdf ⟨rfl, by decide, by decide⟩ hY F (fun _ _ a ns hl _ hS => ⟨a, rfl, ⟨ns, hS, hl⟩, fun _ => rfl⟩) fun _ _ _ _ _ z => z
end B1

open PySem PySem.W PyProof.Rows
set_option maxRecDepth 100000 in
set_option maxHeartbeats 0 in
theorem PySem.Challenge.cw_livehall_k01_bodies_holds : PySem.Challenge.rw_livehall_k01_bodies.Holds := by
  w_on; o_law; k_head; (case hw => w_witness2)
  k_fill
  refine B1.walk (l := PySem.Challenge.rw_livehall_k01_bodies) rfl rfl (fun w h Y => PySem.W.kIn_of Y) ?F
  case F =>
    intro w mg fa h KX G hmg
    refine' B1.all_mk (w := w) KX G hmg ?aBt ?lBt ?cBt ?kBt ?aNa ?lNa ?cNa ?kNa ?aSh ?lSh ?cSh ?kSh ?aPl ?lPl ?cPl ?kPl ?aLe ?lLe ?cLe ?kLe ?aSp ?lSp ?cSp ?kSp ?aPa ?lPa ?cPa ?kPa ?aBo ?lBo ?cBo ?kBo ?aPI ?lPI ?cPI ?kPI ?aLv ?lLv ?cLv ?kLv ?aKi ?lKi ?cKi ?kKi ?aAs ?lAs ?cAs ?kAs ?aDr ?lDr ?cDr ?kDr ?aBe ?lBe ?cBe ?kBe ?aIs ?lIs ?cIs ?kIs ?aAp ?lAp ?cAp ?kAp ?aAB ?lAB ?cAB ?kAB ?aLP ?lLP ?cLP ?kLP ?aNm ?lNm ?cNm ?kNm ?aSy ?lSy ?cSy ?kSy ?aDo ?lDo ?cDo ?kDo ?aLa ?lLa ?cLa ?kLa ?z0 ?z1 ?z2 ?z3 ?z4 ?z5 ?z6 ?z7 ?z8 ?z9 ?z10 ?z11 ?z12 ?x12 ?x40 ?xR ?yR ?xE ?yE ?xM ?yM ?xL ?uR ?uE ?uM ?vR ?vE ?vM ?rR ?rE ?rM ?rL
    (case aBt => k_is)
    (case lBt => k_is)
    (case cBt => k_is)
    (case kBt => k_is)
    (case aNa => k_is)
    (case lNa => k_is)
    (case cNa => k_is)
    (case kNa => k_is)
    (case aSh => k_is)
    (case lSh => k_is)
    (case cSh => k_is)
    (case kSh => k_is)
    (case aPl => k_is)
    (case lPl => k_is)
    (case cPl => k_is)
    (case kPl => k_is)
    (case aLe => k_is)
    (case lLe => k_is)
    (case cLe => k_is)
    (case kLe => k_is)
    (case aSp => k_is)
    (case lSp => k_is)
    (case cSp => k_is)
    (case kSp => k_is)
    (case aPa => k_is)
    (case lPa => k_is)
    (case cPa => k_is)
    (case kPa => k_is)
    (case aBo => k_is)
    (case lBo => k_is)
    (case cBo => k_is)
    (case kBo => k_is)
    (case aPI => k_is)
    (case lPI => k_is)
    (case cPI => k_is)
    (case kPI => k_is)
    (case aLv => k_is)
    (case lLv => k_is)
    (case cLv => k_is)
    (case kLv => k_is)
    (case aKi => k_is)
    (case lKi => k_is)
    (case cKi => k_is)
    (case kKi => k_is)
    (case aAs => k_is)
    (case lAs => k_is)
    (case cAs => k_is)
    (case kAs => k_is)
    (case aDr => k_is)
    (case lDr => k_is)
    (case cDr => k_is)
    (case kDr => k_is)
    (case aBe => k_is)
    (case lBe => k_is)
    (case cBe => k_is)
    (case kBe => k_is)
    (case aIs => k_is)
    (case lIs => k_is)
    (case cIs => k_is)
    (case kIs => k_is)
    (case aAp => k_is)
    (case lAp => k_is)
    (case cAp => k_is)
    (case kAp => k_is)
    (case aAB => k_is)
    (case lAB => k_is)
    (case cAB => k_is)
    (case kAB => k_is)
    (case aLP => k_is)
    (case lLP => k_is)
    (case cLP => k_is)
    (case kLP => k_is)
    (case aNm => k_is)
    (case lNm => k_is)
    (case cNm => k_is)
    (case kNm => k_is)
    (case aSy => k_is)
    (case lSy => k_is)
    (case cSy => k_is)
    (case kSy => k_is)
    (case aDo => k_is)
    (case lDo => k_is)
    (case cDo => k_is)
    (case kDo => k_is)
    (case aLa => k_is)
    (case lLa => k_is)
    (case cLa => k_is)
    (case kLa => k_is)
    (case z0 => k_is)
    (case z1 => k_is)
    (case z2 => k_is)
    (case z3 => k_is)
    (case z4 => k_is)
    (case z5 => k_is)
    (case z6 => k_is)
    (case z7 => k_is)
    (case z8 => k_is)
    (case z9 => k_is)
    (case z10 => k_is)
    (case z11 => k_is)
    (case z12 => k_is)
    (case x12 => k_is)
    (case x40 => k_is)
    (case xR => k_is)
    (case yR => k_is)
    (case xE => k_is)
    (case yE => k_is)
    (case xM => k_is)
    (case yM => k_is)
    (case xL => k_is)
    (case uR => exact ⟨⟨_, _, rfl, rfl⟩, ⟨⟨_, _, rfl, rfl⟩, ⟨⟨_, _, rfl, rfl⟩, ⟨⟨_, _, rfl, rfl⟩, ⟨⟨_, _, rfl, rfl⟩, ⟨⟨_, _, rfl, rfl⟩, ⟨⟨_, _, rfl, rfl⟩, ⟨⟨_, _, rfl, rfl⟩, trivial⟩⟩⟩⟩⟩⟩⟩⟩)
    (case uE => exact ⟨⟨_, _, rfl, rfl⟩, ⟨⟨_, _, rfl, rfl⟩, ⟨⟨_, _, rfl, rfl⟩, ⟨⟨_, _, rfl, rfl⟩, ⟨⟨_, _, rfl, rfl⟩, ⟨⟨_, _, rfl, rfl⟩, ⟨⟨_, _, rfl, rfl⟩, ⟨⟨_, _, rfl, rfl⟩, ⟨⟨_, _, rfl, rfl⟩, ⟨⟨_, _, rfl, rfl⟩, ⟨⟨_, _, rfl, rfl⟩, ⟨⟨_, _, rfl, rfl⟩, trivial⟩⟩⟩⟩⟩⟩⟩⟩⟩⟩⟩⟩)
    (case uM => exact ⟨⟨_, _, rfl, rfl⟩, ⟨⟨_, _, rfl, rfl⟩, trivial⟩⟩)
    (case vR => rfl)
    (case vE => rfl)
    (case vM => rfl)
    (case rR => exact .cons ⟨⟨_, rfl⟩, _, rfl, ⟨_, _, _, (by k_is), rfl, rfl, (by decide), (.cons ⟨_, rfl⟩ .nil)⟩⟩ (.cons ⟨⟨_, rfl⟩, _, rfl, ⟨_, _, _, (by k_is), rfl, rfl, (by decide), (.cons ⟨_, rfl⟩ (.cons ⟨_, rfl⟩ .nil))⟩⟩ (.cons ⟨⟨_, rfl⟩, _, rfl, ⟨_, _, _, (by k_is), rfl, rfl, (by decide), (.cons ⟨_, rfl⟩ (.cons ⟨_, rfl⟩ .nil))⟩⟩ (.cons ⟨⟨_, rfl⟩, _, rfl, ⟨_, _, _, (by k_is), rfl, rfl, (by decide), (.cons ⟨_, rfl⟩ .nil)⟩⟩ (.cons ⟨⟨_, rfl⟩, _, rfl, ⟨_, _, _, (by k_is), rfl, rfl, (by decide), (.cons ⟨_, rfl⟩ (.cons ⟨_, rfl⟩ (.cons ⟨_, rfl⟩ .nil)))⟩⟩ (.cons ⟨⟨_, rfl⟩, _, rfl, ⟨_, _, _, (by k_is), rfl, rfl, (by decide), (.cons ⟨_, rfl⟩ (.cons ⟨_, rfl⟩ .nil))⟩⟩ (.cons ⟨⟨_, rfl⟩, _, rfl, ⟨_, _, _, (by k_is), rfl, rfl, (by decide), (.cons ⟨_, rfl⟩ .nil)⟩⟩ (.cons ⟨⟨_, rfl⟩, _, rfl, ⟨_, _, _, (by k_is), rfl, rfl, (by decide), (.cons ⟨_, rfl⟩ (.cons ⟨_, rfl⟩ (.cons ⟨_, rfl⟩ .nil)))⟩⟩ (.nil)))))))))
    (case rE => exact .cons ⟨⟨_, rfl⟩, _, rfl, ⟨_, _, _, (by k_is), rfl, rfl, (by decide), (.cons ⟨_, rfl⟩ .nil)⟩⟩ (.cons ⟨⟨_, rfl⟩, _, rfl, ⟨_, _, _, (by k_is), rfl, rfl, (by decide), .nil⟩⟩ (.cons ⟨⟨_, rfl⟩, _, rfl, ⟨_, _, _, (by k_is), rfl, rfl, (by decide), (.cons ⟨_, rfl⟩ .nil)⟩⟩ (.cons ⟨⟨_, rfl⟩, _, rfl, ⟨_, _, _, (by k_is), rfl, rfl, (by decide), (.cons ⟨_, rfl⟩ .nil)⟩⟩ (.cons ⟨⟨_, rfl⟩, _, rfl, ⟨_, _, _, (by k_is), rfl, rfl, (by decide), (.cons ⟨_, rfl⟩ (.cons ⟨_, rfl⟩ (.cons ⟨_, rfl⟩ .nil)))⟩⟩ (.cons ⟨⟨_, rfl⟩, _, rfl, ⟨_, _, _, (by k_is), rfl, rfl, (by decide), (.cons ⟨_, rfl⟩ (.cons ⟨_, rfl⟩ .nil))⟩⟩ (.cons ⟨⟨_, rfl⟩, _, rfl, ⟨_, _, _, (by k_is), rfl, rfl, (by decide), (.cons ⟨_, rfl⟩ .nil)⟩⟩ (.cons ⟨⟨_, rfl⟩, _, rfl, ⟨_, _, _, (by k_is), rfl, rfl, (by decide), (.cons ⟨_, rfl⟩ (.cons ⟨_, rfl⟩ .nil))⟩⟩ (.cons ⟨⟨_, rfl⟩, _, rfl, ⟨_, _, _, (by k_is), rfl, rfl, (by decide), (.cons ⟨_, rfl⟩ (.cons ⟨_, rfl⟩ .nil))⟩⟩ (.cons ⟨⟨_, rfl⟩, _, rfl, ⟨_, _, _, (by k_is), rfl, rfl, (by decide), (.cons ⟨_, rfl⟩ (.cons ⟨_, rfl⟩ .nil))⟩⟩ (.cons ⟨⟨_, rfl⟩, _, rfl, ⟨_, _, _, (by k_is), rfl, rfl, (by decide), (.cons ⟨_, rfl⟩ (.cons ⟨_, rfl⟩ .nil))⟩⟩ (.cons ⟨⟨_, rfl⟩, _, rfl, ⟨_, _, _, (by k_is), rfl, rfl, (by decide), (.cons ⟨_, rfl⟩ (.cons ⟨_, rfl⟩ .nil))⟩⟩ (.nil)))))))))))))
    (case rM => exact .cons ⟨⟨_, rfl⟩, _, rfl⟩ (.cons ⟨⟨_, rfl⟩, _, rfl⟩ .nil))
    (case rL => exact ⟨_, _, _, (by k_is), rfl, rfl, (by decide), (.cons ⟨_, rfl⟩ (.cons ⟨_, rfl⟩ (.cons ⟨_, rfl⟩ (.cons ⟨_, rfl⟩ (.cons ⟨_, rfl⟩ .nil)))))⟩)
#print axioms PySem.Challenge.cw_livehall_k01_bodies_holds

